/-
  What is listed of a path is there, just below it, rising, and all of it.
-/
import Derived.IntWalk
import Derived.Test.YtoojfbeikohikaaDl3
namespace Go.Proofs.Ytoojfbeikohikaa
open Go.RowKit
set_option linter.unusedSimpArgs false
set_option linter.unusedVariables false

/-- Texts as elements of rows. -/
noncomputable def SK : Knd Try.prog ByteArray where
  T := 9
  S := 28
  k := 1
  enc := fun x => [.string x]
  z := .string ByteArray.empty
  B := 16
  len := fun _ => rfl
  one := fun x v h => by simp at h; subst h; rfl
  und := Try.underlying28
  info := infoStr
  zc := rfl
  pos := by omega
  small := by omega
  d := ByteArray.empty
theorem sk_row (l : List ByteArray) : SK.row l = l.map .string := by
  unfold Knd.row
  rw [show SK.enc = fun x => [Value.string x] from rfl]
  induction l with
  | nil => rfl
  | cons x l ih => simp only [List.flatMap_cons, List.map_cons, ih]; rfl
theorem Own1.sk {w : World} {base : Nat} {v : Value} {l : List ByteArray} (h : Own1 w base 9 v (l.map .string)) : SK.Own w base v l := by
  unfold Knd.Own
  rw [sk_row]
  unfold Own1 at h
  rw [List.length_map] at h
  exact h
theorem Knd.Own.own1 {w : World} {base : Nat} {v : Value} {l : List ByteArray} (h : SK.Own w base v l) : Own1 w base 9 v (l.map .string) := by
  unfold Knd.Own at h
  rw [sk_row] at h
  unfold Own1
  rw [List.length_map]
  exact h
theorem Knd.step_app {P : Program} {α : Type} {ops : Array Oper} {o : Oper} {a : Act} {w : World} {K : Act → World → Prop} {Q : Exit → Act → World → Prop} {E : Prop} (N : Knd P α) (hw : Region.wanted o (yielded ops a.tmps) = true) (s x : Operand) (ho : o.op = .call { callee := .builtin .append, args := #[s, x], argTypes := #[N.S, N.S] })
    (base : Nat) (v : Value) (l : List α) (hs : a.eval s = v) (hown : N.Own w base v l) (vy : Value) (ks : List α) (hx : a.eval x = vy) (hks : N.Rd w vy ks)
    (hl : l.length + ks.length ≤ 1000000) (hbase : base ≤ w.heap.size)
    (h : ∀ v' w', N.Own w' base v' (l ++ ks) → Below base w w' → w.grownBy w' v.ownBlock → K (a.put o.dst v') w') : if Region.wanted o (yielded ops a.tmps) = true then Oper.wp P o a w K Q else E := by
  obtain ⟨v', w', hr, q1, q2, q3, _⟩ := N.run_app hown vy ks hks (fun _ _ => trivial) hl hbase o.type
  rw [if_pos hw]
  unfold Oper.wp execOp
  simp only [ho, resolve, invoke, builtin, Sem.run_bind, Sem.run_pure, Result.andThen_ok, List.map_toArray, List.map_cons, List.map_nil, hs, hx, hr]
  exact h _ _ q1 q2 q3
theorem ofP_size (ss : List ByteArray) : (ofP ss).size ≤ 1000 := by
  unfold ofP
  split
  · rename_i h
    have := pth_size _ h
    omega
  · simp
theorem ls_names {l : List E3} (p v : ByteArray) (n : Int) (h : (appD l 5 p v n).1.err ≠ 0) : (appD l 5 p v n).1.names = [] := by
  cases hv : vld p with
  | false => rw [app_novld hv]; rfl
  | true =>
    rw [app5 hv] at h ⊢
    unfold lsD at *
    split
    · rename_i h1
      rw [if_pos h1] at h
      simp at h
    · rfl
theorem ls_kids {l : List E3} (p v : ByteArray) (n : Int) (h : (appD l 5 p v n).1.err = 0) : vld p = true ∧ (appD l 5 p v n).1.names = kidD l p := by
  cases hv : vld p with
  | false => rw [app_novld hv] at h; simp [bad] at h
  | true =>
    rw [app5 hv] at h ⊢
    unfold lsD at *
    split
    · exact ⟨rfl, rfl⟩
    · rename_i h1
      rw [if_neg h1] at h
      simp [bad] at h
theorem kid_less {l : List E3} (h : RightD l) (p : ByteArray) {k : Nat} (hk : k + 1 < (kidD l p).length) : Op.bytesLess ((kidD l p).getD k ByteArray.empty).toList ((kidD l p).getD (k + 1) ByteArray.empty).toList = true := by
  have h1 := kid_rise h.rise h.keys p
  have h2 := List.pairwise_iff_getElem.1 h1 k (k + 1) (by rw [List.length_map]; omega) (by rw [List.length_map]; omega) (by omega)
  rw [Lib.toList_data, Lib.toList_data, bl_lt]
  simp only [List.getElem_map] at h2
  rw [List.getD, List.getElem?_eq_getElem (by omega), List.getD, List.getElem?_eq_getElem hk]
  simpa using h2
def inN (ns : List ByteArray) (name : ByteArray) : Bool := ns.any fun x => decide (x = name)
theorem inN_iff {ns : List ByteArray} {name : ByteArray} : inN ns name = true ↔ name ∈ ns := by
  unfold inN
  rw [List.any_eq_true]
  constructor
  · rintro ⟨x, hx, h⟩
    have := of_decide_eq_true h
    rw [← this]; exact hx
  · intro h; exact ⟨name, h, by simp⟩
theorem nmL_len (p : ByteArray) : (nmL p).length ≤ 8 := by
  have := nm_ok p
  unfold okN at this
  simp only [Bool.and_eq_true, decide_eq_true_eq] at this
  exact this.2
set_option maxRecDepth 100000 in
set_option maxHeartbeats 4000000 in
theorem dirLists_walk (a : Option Addr) (n c : Nat) (ts : List Cm) (p name : ByteArray) (w : World) (hn : n = ts.length) (hC : CRd w a ts) (hm : ML w) :
    Calls Try.prog 7 #[.slice a n c, .string p, .string name] w fun e w' => e = .returned (.bool true) ∧ Below w.heap.size w w' := by
  obtain ⟨X, rfl⟩ : ∃ X : World, X = w := ⟨w, rfl⟩
  have hB : Below X.heap.size X X := Below.refl _ _
  have HN := Lib.hid hn
  have HMX := Lib.hid (hm.below hB)
  have HC := Lib.hid (hC.below hB)
  have HB := Lib.hid hB
  clear hn hm hC hB
  go_enter Try.func7, Try.ntmps7
  go_wp2_with fail
  refine (works_any _ HMX.out).mono ?_
  rintro e w1 ⟨rfl, hb⟩
  have HB1 := Lib.hid hb
  have HM1 := Lib.hid (HMX.out.below hb)
  clear hb HMX
  go_wp2_with fail
  refine (over_any a n c ts w1 HN.out (HC.out.below HB1.out)).mono ?_
  rintro e w' ⟨rfl, rfl⟩
  obtain ⟨O, hO⟩ : ∃ O, ovB ts = O := ⟨_, rfl⟩
  rw [hO]
  have HO := Lib.hid hO
  clear hO
  cases O with
  | true =>
    go_wp2
    go_ret
    exact ⟨rfl, HB.out.trans (HB1.out.mono HB.out.size)⟩
  | false =>
    have hov := ovB_no HO.out
    have hn60 : n ≤ 60 := by have := HN.out; omega
    have HS := Lib.hid hov.2
    clear hov HO
    by_cases y1 : (300 : Int) < p.size
    · go_wp2
      go_ret
      exact ⟨rfl, HB.out.trans (HB1.out.mono HB.out.size)⟩
    by_cases y2 : (300 : Int) < name.size
    · go_wp2
      go_ret
      exact ⟨rfl, HB.out.trans (HB1.out.mono HB.out.size)⟩
    have hp300 : p.size ≤ 300 := by omega
    go_wp2_with fail
    refine (lw_new HB1.out HM1.out).mono ?_
    rintro e w2 ⟨d, bk, he, hL⟩
    have he := he.out
    subst he
    have HL0 : Hid (LW X d bk 0 (runD [] (ts.take 0)) w2) := Lib.hid (by simpa [runD] using hL)
    clear hL HM1
    go_wp2_with fail
    go_loopw [9] (fun i wr => ∃ k : Nat, k ≤ n ∧ i = .int .i64 k ∧ Hid (LW X d bk (k) (runD [] (ts.take k)) wr)) (fun i _ => n - (intOf i).toNat)
    case atStart => exact ⟨0, Nat.zero_le _, rfl, HL0⟩
    case round =>
      clear HL0
      obtain ⟨k, hk, rfl, hL⟩ := hrel
      by_cases hlt : k < n
      · have hlt' : (k : Int) < (n : Int) := by omega
        have hkl : k < ts.length := by have := HN.out; omega
        rcases (HC.out.below hL.out.below).2 with h0 | ⟨g, off, ha, hg, hcm⟩
        · exfalso
          rw [h0] at hkl
          simp at hkl
        have hcm1 := hcm k hkl
        have hsz := (HS.out k hkl).1
        have hrs := runD_succ [] ts k hkl
        obtain ⟨t, ht⟩ : ∃ t, ts.getD k default = t := ⟨_, rfl⟩
        rw [ht] at hcm1 hsz hrs
        have HP := Lib.hid (show t.pa.size ≤ 1000 by omega)
        have HRS := Lib.hid hrs
        obtain ⟨m0, m1, m2, m3, m4, m5, m6, m7⟩ := hcm1
        subst ha
        clear hcm ht hsz hrs hg
        go_wp2_with fail
        refine (lw_apply hL.out t.cl t.sq t.op t.pa t.va t.ver t.a t.b (by omega) HP.out).mono ?_
        rintro e w5 ⟨v5, he, ho, hL5, hg5⟩
        have he := he.out
        subst he
        rw [← HRS.out] at hL5
        have HL5 := Lib.hid hL5
        clear hL ho hL5 hg5 m0 m1 m2 m3 m4 m5 m6 m7
        go_wp2
        go_roundw
        case rel => exact ⟨k + 1, by omega, by go_num, HL5⟩
        case measure => simp [intOf]; omega
      · obtain rfl : n = k := by omega
        have hlt' : ¬ (n : Int) < (n : Int) := by omega
        obtain ⟨l, hl⟩ : ∃ lx, runD [] (ts.take n) = lx := ⟨_, rfl⟩
        rw [hl] at hL
        have Hl := Lib.hid hl
        have HL : Hid (LW X d bk (60) l wr) := Lib.hid (hL.out.mono (by omega))
        clear hL hl hlt
        have HR0 := Lib.hid HL.out.right
        have HLN : Hid (l.length ≤ 60) := Lib.hid HL.out.len
        go_wp2_with fail
        refine (lw_apply HL.out 0 0 5 p v0 0 0 0 (by omega) (by omega)).mono ?_
        obtain ⟨⟨⟨er3, vl3, vr3, ns3⟩, l3⟩, hR3⟩ : ∃ R, appD l 5 p v0 0 = R := ⟨_, rfl⟩
        rw [hR3]
        have HE3 := Lib.hid hR3
        rintro e w3 ⟨v3, he, ho, hL3, hg3⟩
        have he := he.out
        subst he
        obtain ⟨a3, c3, hv3⟩ := ho.slice
        obtain ⟨M3, hM3⟩ : ∃ M, (List.map Value.string ns3).length = M := ⟨_, rfl⟩
        simp only at hv3 ho
        rw [hM3] at hv3
        subst hv3
        have HM3 : Hid (ns3.length = M3) := Lib.hid (by rw [← hM3]; simp)
        have hn3 := ho.nms (by rw [HM3.out]; exact hM3 ▸ own1_small ho)
        obtain ⟨Z3, hZ3⟩ : ∃ Z, w3.alloc (.cells #[.int .i64 er3, .string vl3, .int .i64 vr3, .slice a3 M3 c3] 30) = Z := ⟨_, rfl⟩
        obtain ⟨g3, hgg3⟩ : ∃ g, w3.heap.size = g := ⟨_, rfl⟩
        have HB3 : Hid (RB g3 ⟨er3, vl3, vr3, ns3⟩ Z3) := Lib.hid (by rw [← hZ3, ← hgg3]; exact RB.mk' _ hn3)
        have HL3 := Lib.hid (hL3.box #[.int .i64 er3, .string vl3, .int .i64 vr3, .slice a3 M3 c3] 30)
        rw [hZ3] at HL3
        clear HL ho hL3 hg3 hR3 hn3 hM3
        have hl3 : l3 = l := by
          have h0 : (appD l 5 p v0 0).2 = l := reads_quiet 5 p v0 0 (.inr (.inr rfl))
          rw [HE3.out] at h0
          exact h0
        subst hl3
        have t30 := HB3.out.c0
        obtain ⟨v33, t33, a33, c33, hv33, hn33⟩ := HB3.out.c3
        simp only at t30 t33 hv33 hn33
        obtain ⟨N, hNN⟩ : ∃ N, ns3.length = N := ⟨_, rfl⟩
        rw [hNN] at hv33
        subst hv33
        have HNN := Lib.hid hNN
        by_cases e3 : er3 = 0
        · obtain ⟨hvp, hkd⟩ := ls_kids (l := l3) p v0 0 (by rw [HE3.out]; exact e3)
          rw [HE3.out] at hkd
          simp only at hkd
          have HKD := Lib.hid hkd
          have HVP := Lib.hid hvp
          have hN60 : N ≤ 60 := by
            have h1 : (kidD l3 p).length ≤ l3.length := by unfold kidD; rw [List.length_map]; exact List.length_filter_le _ _
            have := HLN.out
            rw [← hkd, hNN] at h1
            omega
          have s1 : (er3 != 0) = false := by simp [e3]
          have HNL := Lib.hid (nmL_len p)
          have HTL : Hid ((tx (nmL p)).length ≤ 8) := Lib.hid (by have := nmL_len p; simpa [tx] using this)
          obtain ⟨MT, hMT⟩ : ∃ M, (tx (nmL p)).length = M := ⟨_, rfl⟩
          have HMT := Lib.hid hMT
          clear e3 hvp hkd hn33 hNN HE3 hMT
          go_wp2_with fail
          try rw [hZ3]
          try rw [hgg3]
          clear hZ3 hgg3
          have HB3a := HB3
          have HL3a : Hid (LW X d bk (61 + 0) l3 Z3) := HL3
          clear HB3 HL3 t33 t30 s1
          go_loopw [11, 12] (fun x i wr => ∃ (k : Nat) (b : Bool), k ≤ N ∧ i = .int .i64 k ∧ x = .bool b ∧ Hid (b = inN (ns3.take k) name) ∧ Hid (LW X d bk (61 + k) l3 wr) ∧ Hid (RB g3 ⟨er3, vl3, vr3, ns3⟩ wr)) (fun _ i _ => N - (intOf i).toNat)
          case atStart => exact ⟨0, false, Nat.zero_le _, rfl, rfl, Lib.hid (by simp [inN]), HL3a, HB3a⟩
          case round =>
            clear HL3a HB3a
            obtain ⟨k, b, hk, rfl, rfl, hbF, hL, hB3⟩ := hrel
            obtain ⟨gL, hgL⟩ : ∃ g, g3 = g := ⟨_, rfl⟩
            rw [hgL] at hB3
            obtain ⟨v3r, t3r, a3r, c33, hv3r, hn3r⟩ := hB3.out.c3
            simp only at t3r hv3r hn3r
            rw [HNN.out] at hv3r
            subst hv3r
            by_cases hlt : k < N
            · have hlt' : (k : Int) < (N : Int) := by omega
              obtain ⟨gN, oN, hA, hgN, hcn⟩ := hn3r.cell k (by rw [HNN.out]; exact hlt)
              subst hA
              obtain ⟨nm, hnm⟩ : ∃ nm, ns3.getD k ByteArray.empty = nm := ⟨_, rfl⟩
              rw [hnm] at hcn
              have HNMQ := Lib.hid hnm
              have hnmem : nm ∈ ns3 := by rw [← hnm, List.getD, List.getElem?_eq_getElem (by rw [HNN.out]; exact hlt)]; exact List.getElem_mem _
              have hll := (lists_law HR0.out HVP.out nm v0 0).2 (by rw [← HKD.out]; exact hnmem)
              obtain ⟨SS, hSS⟩ : ∃ SS, tx (nmL p) ++ [nm] = SS := ⟨_, rfl⟩
              rw [hSS] at hll
              obtain ⟨Q, hQ⟩ : ∃ Q, ofP SS = Q := ⟨_, rfl⟩
              obtain ⟨MS, hMS⟩ : ∃ M, SS.length = M := ⟨_, rfl⟩
              have HQS : Hid (Q.size ≤ 1000) := Lib.hid (by rw [← hQ]; exact ofP_size SS)
              have HSL : Hid (SS.length ≤ 9223372036854775807) := Lib.hid (by rw [← hSS]; have := HNL.out; simp [tx]; omega)
              have HOF : Hid (∀ W a c, SRd W a SS → MS ≤ c → Calls Try.prog 20 #[.slice a MS c] W fun e w' => e = .returned (.tuple #[.string Q, .int .i64 0]) ∧ Below W.heap.size W w') := Lib.hid (fun W a c h1 h2 => by
                have h3 := of_any a c SS W h1 (by rw [hMS]; exact h2)
                rw [hQ, hll.1, hMS] at h3
                exact h3)
              have HGE : Hid ((appD l3 4 Q v0 0).1.err = 0) := Lib.hid (by rw [← hQ]; exact hll.2)
              have HSS := Lib.hid hSS
              have HMS := Lib.hid hMS
              have HNM : Hid (∀ W, Below wr.heap.size wr W → Calls Try.prog 21 #[.string p] W (NamP p W)) := Lib.hid (fun W hW => names_any p W (by omega) (hL.out.ml.below hW))
              have HKP : Hid (∀ w', Below wr.heap.size wr w' → w'.cell? ⟨gL, 3, none⟩ = some (.slice (some ⟨gN, oN, none⟩) N c33) ∧ w'.cell? ⟨gN, oN + k, none⟩ = some (.string nm) ∧ Below wr.heap.size wr w') := Lib.hid (fun w' hb => ⟨(hb.cell (p := ⟨gL, 3, none⟩) hB3.out.lt).trans t3r, (hb.cell (p := ⟨gN, oN + k, none⟩) hgN).trans hcn, hb⟩)
              have hbs : b = inN (ns3.take k) name := hbF.out
              have HBF : Hid ((b = true → true = inN (ns3.take (k + 1)) name) ∧ (b = false → decide (nm = name) = inN (ns3.take (k + 1)) name)) := Lib.hid (by
                have hkl : k < ns3.length := by rw [HNN.out]; exact hlt
                have hg : ns3[k] = nm := by rw [← hnm, List.getD, List.getElem?_eq_getElem hkl]; rfl
                have e1 : inN (ns3.take (k + 1)) name = (b || decide (nm = name)) := by
                  rw [hbs]
                  unfold inN
                  rw [List.take_succ_eq_append_getElem hkl, hg, List.any_append]
                  simp
                rw [e1]
                exact ⟨fun h => by rw [h]; rfl, fun h => by rw [h]; rfl⟩)
              clear hnm hnmem hll hSS hQ hMS hbs hn3r
              rw [hgL]
              go_wp2_with fail
              refine wp_region_held_drew (S := (fun w' => w'.cell? ⟨gL, 3, none⟩ = some (.slice (some ⟨gN, oN, none⟩) N c33) ∧ w'.cell? ⟨gN, oN + k, none⟩ = some (.string nm) ∧ Below wr.heap.size wr w')) (by kernel_rfl) ?_ (fun hHeld => ?_)
              · ((first
                    | exact HKP.out _ (Below.refl _ _)
                    | exact HKP.out _ (Below.refl _ _).drew
                    | (go_split_ands; exact HKP.out _ (below_self (by assumption) (by assumption)))
                    | (go_split_ands; exact HKP.out _ (below_self (by assumption) (Below.drew (by assumption))))
                    | (go_split_ands; exact HKP.out _ (Below.alloc (by assumption) (Below.size (by assumption)) _))
                    | (go_split_ands; exact HKP.out _ (Below.drew (by assumption)))
                    | (go_split_ands; exact HKP.out _ (by assumption))))
              refine wpAnyH_take (i := 0) (v := ?_) rfl (by kernel_rfl) (by kernel_rfl) (by kernel_rfl) (fun _ _ _ h => h) (Or.inl ⟨by rfl, ?_⟩) (by assumption) ?_
              rotate_left
              · (intro w hSw; (try dsimp only at hSw); go_simp; try rfl)
              try simp only [Act.put, List.setIfInBounds_toArray, List.set_cons_zero, List.set_cons_succ, List.getElem_toArray, List.getElem_cons_zero, List.getElem_cons_succ]
              refine wpAnyH_take (i := 2) (v := ?_) rfl (by kernel_rfl) (by kernel_rfl) (by kernel_rfl) (fun _ _ _ h => h) (Or.inl ⟨by rfl, ?_⟩) (by assumption) ?_
              rotate_left
              · (intro w hSw; (try dsimp only at hSw); go_simp; try rfl)
              try simp only [Act.put, List.setIfInBounds_toArray, List.set_cons_zero, List.set_cons_succ, List.getElem_toArray, List.getElem_cons_zero, List.getElem_cons_succ]
              refine wpAnyH_take (i := 3) (v := ?_) rfl (by kernel_rfl) (by kernel_rfl) (by kernel_rfl) (fun _ _ _ h => h) (Or.inl ⟨by rfl, ?_⟩) (by assumption) ?_
              rotate_left
              · (intro w hSw; (try dsimp only at hSw); go_simp; try rfl)
              try simp only [Act.put, List.setIfInBounds_toArray, List.set_cons_zero, List.set_cons_succ, List.getElem_toArray, List.getElem_cons_zero, List.getElem_cons_succ]
              refine wpAnyH_take (i := 4) (v := ?_) rfl (by kernel_rfl) (by kernel_rfl) (by kernel_rfl) (fun _ _ _ h => h) (Or.inl ⟨by rfl, ?_⟩) (by assumption) ?_
              rotate_left
              · (intro w hSw; (try dsimp only at hSw); go_simp; try rfl)
              try simp only [Act.put, List.setIfInBounds_toArray, List.set_cons_zero, List.set_cons_succ, List.getElem_toArray, List.getElem_cons_zero, List.getElem_cons_succ]
              refine wpAnyH_take (i := 5) (v := ?_) rfl (by kernel_rfl) (by kernel_rfl) (by kernel_rfl) (fun _ _ _ h => h) (Or.inl ⟨by rfl, ?_⟩) (by assumption) ?_
              rotate_left
              · (intro w hSw; (try dsimp only at hSw); go_simp; try rfl)
              try simp only [Act.put, List.setIfInBounds_toArray, List.set_cons_zero, List.set_cons_succ, List.getElem_toArray, List.getElem_cons_zero, List.getElem_cons_succ]
              refine wpAnyH_take (i := 6) (v := ?_) rfl (by kernel_rfl) (by kernel_rfl) (by kernel_rfl) (fun _ _ _ h => h) (Or.inl ⟨by rfl, ?_⟩) (by assumption) ?_
              rotate_left
              · (intro w hSw; (try dsimp only at hSw); go_simp; try rfl)
              try simp only [Act.put, List.setIfInBounds_toArray, List.set_cons_zero, List.set_cons_succ, List.getElem_toArray, List.getElem_cons_zero, List.getElem_cons_succ]
              refine wpAnyH_ready (rs := [1, 7]) (by kernel_rfl) (by simp) ?_
              refine (AllReadyH.cons rfl (fun K hK => ?_) (AllReadyH.cons rfl (fun K hK => ?_) AllReadyH.nil))
              ·
                go_simp
                (go_at_call 21; go_split_ands; refine (HNM.out _ (by assumption)).mono ?_; rintro e w5 ⟨v5, he5, ho5, hbw5⟩; have he5 := he5.out; subst he5; have HO5 : Hid (SK.Own w5 wr.heap.size v5 (tx (nmL p))) := Lib.hid (ho5.sk.base (by first | exact Below.size (by assumption) | exact Nat.le_refl _)); obtain ⟨a5, c5, hv5⟩ := HO5.out.slice; rw [HMT.out] at hv5; subst hv5; clear ho5)
                refine hK.out _ _ ?_ (fun hHeld => ?_)
                · ((first
                    | exact HKP.out _ (Below.refl _ _)
                    | exact HKP.out _ (Below.refl _ _).drew
                    | (go_split_ands; exact HKP.out _ (below_self (by assumption) (by assumption)))
                    | (go_split_ands; exact HKP.out _ (below_self (by assumption) (Below.drew (by assumption))))
                    | (go_split_ands; exact HKP.out _ (Below.alloc (by assumption) (Below.size (by assumption)) _))
                    | (go_split_ands; exact HKP.out _ (Below.drew (by assumption)))
                    | (go_split_ands; exact HKP.out _ (by assumption))))
                clear hK K
                try simp only [Act.put, List.setIfInBounds_toArray, List.set_cons_zero, List.set_cons_succ, List.getElem_toArray, List.getElem_cons_zero, List.getElem_cons_succ]
                refine wpAnyH_ready (rs := [7]) (by kernel_rfl) (by simp) ?_
                refine (AllReadyH.cons rfl (fun K hK => ?_) AllReadyH.nil)
                go_simp
                refine hK.out _ _ ?_ (fun hHeld => ?_)
                · ((first
                    | exact HKP.out _ (Below.refl _ _)
                    | exact HKP.out _ (Below.refl _ _).drew
                    | (go_split_ands; exact HKP.out _ (below_self (by assumption) (by assumption)))
                    | (go_split_ands; exact HKP.out _ (below_self (by assumption) (Below.drew (by assumption))))
                    | (go_split_ands; exact HKP.out _ (Below.alloc (by assumption) (Below.size (by assumption)) _))
                    | (go_split_ands; exact HKP.out _ (Below.drew (by assumption)))
                    | (go_split_ands; exact HKP.out _ (by assumption))))
                clear hK K
                try simp only [Act.put, List.setIfInBounds_toArray, List.set_cons_zero, List.set_cons_succ, List.getElem_toArray, List.getElem_cons_zero, List.getElem_cons_succ]
                refine wpAnyH_ready (rs := [8]) (by kernel_rfl) (by simp) ?_
                refine (AllReadyH.cons rfl (fun K hK => ?_) AllReadyH.nil)
                go_split_ands
                refine SK.step_app (by rfl) _ _ rfl wr.heap.size (.slice a5 MT c5) (tx (nmL p)) rfl (by first | exact HO5.out | exact HO5.out.below ((Below.refl _ _).alloc (Nat.le_refl _) _) | exact HO5.out.below (below_self ((Below.refl _ _).drew) ((Below.refl _ _).alloc (Nat.le_refl _) _))) (.slice (some ⟨_, 0, none⟩) 1 1) [nm] rfl (by first | exact SK.rd_box nm _ _ _ | exact (SK.rd_box nm 9 1 wr).below (below_self ((Below.refl _ _).drew) hbw5) | exact (SK.rd_box nm 9 1 wr.drew).below (below_self ((Below.refl _ _).drew) hbw5) | exact (SK.rd_box nm 9 1 wr).below hbw5) (by have := HTL.out; simp only [List.length_cons, List.length_nil]; omega) (by first | exact Below.size (by assumption) | exact Nat.le_trans (Below.size (by assumption)) (by simp)) ?_
                intro v6 w6 ho6 hb6 hg6
                have hw6 : Below wr.heap.size wr w6 := by first | exact Below.trans (by assumption) hb6 | exact (Below.alloc (by assumption) (Below.size (by assumption)) _).trans hb6
                rw [HSS.out] at ho6
                obtain ⟨a6, c6, hv6, hs6⟩ := ho6.own1.nms HSL.out
                have hc6 := (hv6 ▸ ho6.own1).cap
                rw [HMS.out] at hc6
                rw [HMS.out] at hv6
                subst hv6
                have HS6 := Lib.hid hs6
                have HC6 := Lib.hid hc6
                clear ho6 hg6 hs6 hc6 hb6
                refine hK.out _ _ ?_ (fun hHeld => ?_)
                · ((first
                    | exact HKP.out _ (Below.refl _ _)
                    | exact HKP.out _ (Below.refl _ _).drew
                    | (go_split_ands; exact HKP.out _ (below_self (by assumption) (by assumption)))
                    | (go_split_ands; exact HKP.out _ (below_self (by assumption) (Below.drew (by assumption))))
                    | (go_split_ands; exact HKP.out _ (Below.alloc (by assumption) (Below.size (by assumption)) _))
                    | (go_split_ands; exact HKP.out _ (Below.drew (by assumption)))
                    | (go_split_ands; exact HKP.out _ (by assumption))))
                clear hK K
                try simp only [Act.put, List.setIfInBounds_toArray, List.set_cons_zero, List.set_cons_succ, List.getElem_toArray, List.getElem_cons_zero, List.getElem_cons_succ]
                refine wpAnyH_ready (rs := [9]) (by kernel_rfl) (by simp) ?_
                refine (AllReadyH.cons rfl (fun K hK => ?_) AllReadyH.nil)
                go_simp
                (go_at_call 20; refine (HOF.out _ _ _ HS6.out HC6.out).mono ?_; rintro e w7 ⟨rfl, hbw7⟩)
                refine hK.out _ _ ?_ (fun hHeld => ?_)
                · ((first
                    | exact HKP.out _ (Below.refl _ _)
                    | exact HKP.out _ (Below.refl _ _).drew
                    | (go_split_ands; exact HKP.out _ (below_self (by assumption) (by assumption)))
                    | (go_split_ands; exact HKP.out _ (below_self (by assumption) (Below.drew (by assumption))))
                    | (go_split_ands; exact HKP.out _ (Below.alloc (by assumption) (Below.size (by assumption)) _))
                    | (go_split_ands; exact HKP.out _ (Below.drew (by assumption)))
                    | (go_split_ands; exact HKP.out _ (by assumption))))
                clear hK K
                try simp only [Act.put, List.setIfInBounds_toArray, List.set_cons_zero, List.set_cons_succ, List.getElem_toArray, List.getElem_cons_zero, List.getElem_cons_succ]
                refine wpAnyH_take (i := 10) (v := ?_) rfl (by kernel_rfl) (by kernel_rfl) (by kernel_rfl) (fun _ _ _ h => h) (Or.inl ⟨by rfl, ?_⟩) (by assumption) ?_
                rotate_left
                · (intro w hSw; (try dsimp only at hSw); go_simp; try rfl)
                try simp only [Act.put, List.setIfInBounds_toArray, List.set_cons_zero, List.set_cons_succ, List.getElem_toArray, List.getElem_cons_zero, List.getElem_cons_succ]
                refine wpAnyH_take (i := 11) (v := ?_) rfl (by kernel_rfl) (by kernel_rfl) (by kernel_rfl) (fun _ _ _ h => h) (Or.inl ⟨by rfl, ?_⟩) (by assumption) ?_
                rotate_left
                · (intro w hSw; (try dsimp only at hSw); go_simp; try rfl)
                try simp only [Act.put, List.setIfInBounds_toArray, List.set_cons_zero, List.set_cons_succ, List.getElem_toArray, List.getElem_cons_zero, List.getElem_cons_succ]
                refine wpAnyH_take (i := 12) (v := ?_) rfl (by kernel_rfl) (by kernel_rfl) (by kernel_rfl) (fun _ _ _ h => h) (Or.inl ⟨by rfl, ?_⟩) (by assumption) ?_
                rotate_left
                · (intro w hSw; (try dsimp only at hSw); go_simp; try rfl)
                try simp only [Act.put, List.setIfInBounds_toArray, List.set_cons_zero, List.set_cons_succ, List.getElem_toArray, List.getElem_cons_zero, List.getElem_cons_succ]
                refine wpAnyH_take (i := 13) (v := ?_) rfl (by kernel_rfl) (by kernel_rfl) (by kernel_rfl) (fun _ _ _ h => h) (Or.inl ⟨by rfl, ?_⟩) (by assumption) ?_
                rotate_left
                · (intro w hSw; (try dsimp only at hSw); go_simp; try rfl)
                try simp only [Act.put, List.setIfInBounds_toArray, List.set_cons_zero, List.set_cons_succ, List.getElem_toArray, List.getElem_cons_zero, List.getElem_cons_succ]
                refine wpAnyH_take (i := 14) (v := ?_) rfl (by kernel_rfl) (by kernel_rfl) (by kernel_rfl) (fun _ _ _ h => h) (Or.inl ⟨by rfl, ?_⟩) (by assumption) ?_
                rotate_left
                · (intro w hSw; (try dsimp only at hSw); go_simp; try rfl)
                try simp only [Act.put, List.setIfInBounds_toArray, List.set_cons_zero, List.set_cons_succ, List.getElem_toArray, List.getElem_cons_zero, List.getElem_cons_succ]
                refine wpAnyH_done (by kernel_rfl) ?_ _
                go_split_ands
                have hbn : Below wr.heap.size wr w7 := by first | assumption | exact below_self (by assumption) (by assumption)
                have HBn := Lib.hid hbn
                clear HKP
                have HL7 : Hid (LW X d bk (61 + k) l3 w7) := Lib.hid (hL.out.on HBn.out)
                have HB7 := Lib.hid (hB3.out.on HBn.out)
                go_wp2_with fail
                refine (lw_apply HL7.out 0 0 4 Q v0 0 0 0 (by omega) HQS.out).mono ?_
                obtain ⟨⟨⟨er9, vl9, vr9, ns9⟩, l9⟩, hR9⟩ : ∃ R, appD l3 4 Q v0 0 = R := ⟨_, rfl⟩
                rw [hR9]
                have HE9 := Lib.hid hR9
                rintro e w9 ⟨v9, he, ho, hL9, hg9⟩
                have he := he.out
                subst he
                obtain ⟨a9, c9, hv9⟩ := ho.slice
                obtain ⟨M9, hM9⟩ : ∃ M, (List.map Value.string ns9).length = M := ⟨_, rfl⟩
                simp only at hv9 ho
                rw [hM9] at hv9
                subst hv9
                have HM9 : Hid (ns9.length = M9) := Lib.hid (by rw [← hM9]; simp)
                have hn9 := ho.nms (by rw [HM9.out]; exact hM9 ▸ own1_small ho)
                obtain ⟨Z9, hZ9⟩ : ∃ Z, w9.alloc (.cells #[.int .i64 er9, .string vl9, .int .i64 vr9, .slice a9 M9 c9] 30) = Z := ⟨_, rfl⟩
                obtain ⟨g9, hgg9⟩ : ∃ g, w9.heap.size = g := ⟨_, rfl⟩
                have HB9 : Hid (RB g9 ⟨er9, vl9, vr9, ns9⟩ Z9) := Lib.hid (by rw [← hZ9, ← hgg9]; exact RB.mk' _ hn9)
                have HL9 := Lib.hid (hL9.box #[.int .i64 er9, .string vl9, .int .i64 vr9, .slice a9 M9 c9] 30)
                rw [hZ9] at HL9
                have HB8 := Lib.hid ((HB7.out.step HL7.out hg9).box #[.int .i64 er9, .string vl9, .int .i64 vr9, .slice a9 M9 c9] 30)
                rw [hZ9] at HB8
                clear HL7 HB7 ho hL9 hg9 hR9 hn9 hM9
                have hl9 : l9 = l3 := by
                  have := (gt_names l3 Q v0 0).2
                  rw [HE9.out] at this
                  exact this
                subst hl9
                have her : er9 = 0 := by have := HGE.out; rw [HE9.out] at this; exact this
                subst her
                clear HE9 HGE
                have t90 := HB9.out.c0
                obtain ⟨v38, t38, a38, c38, hv38, hn38⟩ := HB8.out.c3
                have HN38 := Lib.hid hn38
                simp only at t90 t38 hv38 hn38
                rw [HNN.out] at hv38
                subst hv38
                obtain ⟨gM, oM, hA, hgM, uk⟩ := hn38.cell k (by rw [HNN.out]; exact hlt)
                rw [HNMQ.out] at uk
                subst hA
                have HLf : Hid (LW X d bk (61 + (k + 1)) l9 Z9) := HL9
                clear HL9 hn38
                go_wp2_with fail
                try rw [hZ9]
                try rw [hgg9]
                clear hZ9 hgg9
                by_cases k0 : k = 0
                · subst k0
                  simp only [Nat.add_zero] at uk
                  have q1 : (nm.toList == name.toList) = decide (nm = name) := by
                    rw [Lib.toList_data, Lib.toList_data, Bool.eq_iff_iff]
                    simp only [beq_iff_eq, decide_eq_true_eq]
                    exact ⟨fun h => data_inj (by simpa using h), fun h => by rw [h]⟩
                  go_quiet (fail)
                  cases b with
                  | true =>
                    go_wp2
                    go_roundw
                    case rel => exact ⟨0 + 1, true, by omega, by go_num, rfl, Lib.hid (HBF.out.1 rfl), Lib.hid (HLf.out.on (below_drewN_q (Below.refl _ _) _)), Lib.hid (HB8.out.on (below_drewN_q (Below.refl _ _) _))⟩
                    case measure => simp [intOf]; omega
                  | false =>
                    go_wp2
                    go_roundw
                    case rel => exact ⟨0 + 1, _, by omega, by go_num, rfl, Lib.hid (HBF.out.2 rfl), Lib.hid (HLf.out.on (below_drewN_q (Below.refl _ _) _)), Lib.hid (HB8.out.on (below_drewN_q (Below.refl _ _) _))⟩
                    case measure => simp [intOf]; omega
                · obtain ⟨j, rfl⟩ : ∃ j, k = j + 1 := ⟨k - 1, by omega⟩
                  obtain ⟨gM2, oM2, hA2, hgM2, uj⟩ := HN38.out.cell j (by rw [HNN.out]; omega)
                  simp only [Option.some.injEq, Addr.mk.injEq, and_true] at hA2
                  obtain ⟨rfl, rfl⟩ := hA2
                  have hbl := kid_less HR0.out p (k := j) (by rw [← HKD.out, HNN.out]; exact hlt)
                  rw [← HKD.out, HNMQ.out] at hbl
                  obtain ⟨nm0, hnm0⟩ : ∃ x, ns3.getD j ByteArray.empty = x := ⟨_, rfl⟩
                  rw [hnm0] at hbl uj
                  have q1 : (nm.toList == name.toList) = decide (nm = name) := by
                    rw [Lib.toList_data, Lib.toList_data, Bool.eq_iff_iff]
                    simp only [beq_iff_eq, decide_eq_true_eq]
                    exact ⟨fun h => data_inj (by simpa using h), fun h => by rw [h]⟩
                  have i1 : (0 : Int) < ((j + 1 : Nat) : Int) := by omega
                  have i2 : IntKind.i64.wrap (((j + 1 : Nat) : Int) - 1) = (j : Int) := by rw [IntWalk.i64_in _ (by omega)]; omega
                  have i3 : (j : Int) < (N : Int) := by omega
                  have i4 : j < N := by omega
                  clear hnm0 k0
                  go_quiet (fail)
                  cases b with
                  | true =>
                    go_wp2
                    go_roundw
                    case rel => exact ⟨j + 1 + 1, true, by omega, by go_num, rfl, Lib.hid (HBF.out.1 rfl), Lib.hid (HLf.out.on (below_drewN_q (Below.refl _ _) _)), Lib.hid (HB8.out.on (below_drewN_q (Below.refl _ _) _))⟩
                    case measure => simp [intOf]; omega
                  | false =>
                    go_wp2
                    go_roundw
                    case rel => exact ⟨j + 1 + 1, _, by omega, by go_num, rfl, Lib.hid (HBF.out.2 rfl), Lib.hid (HLf.out.on (below_drewN_q (Below.refl _ _) _)), Lib.hid (HB8.out.on (below_drewN_q (Below.refl _ _) _))⟩
                    case measure => simp [intOf]; omega
              ·
                go_simp
                refine hK.out _ _ ?_ (fun hHeld => ?_)
                · ((first
                    | exact HKP.out _ (Below.refl _ _)
                    | exact HKP.out _ (Below.refl _ _).drew
                    | (go_split_ands; exact HKP.out _ (below_self (by assumption) (by assumption)))
                    | (go_split_ands; exact HKP.out _ (below_self (by assumption) (Below.drew (by assumption))))
                    | (go_split_ands; exact HKP.out _ (Below.alloc (by assumption) (Below.size (by assumption)) _))
                    | (go_split_ands; exact HKP.out _ (Below.drew (by assumption)))
                    | (go_split_ands; exact HKP.out _ (by assumption))))
                clear hK K
                try simp only [Act.put, List.setIfInBounds_toArray, List.set_cons_zero, List.set_cons_succ, List.getElem_toArray, List.getElem_cons_zero, List.getElem_cons_succ]
                refine wpAnyH_ready (rs := [1]) (by kernel_rfl) (by simp) ?_
                refine (AllReadyH.cons rfl (fun K hK => ?_) AllReadyH.nil)
                go_simp
                (go_at_call 21; go_split_ands; refine (HNM.out _ (by assumption)).mono ?_; rintro e w5 ⟨v5, he5, ho5, hbw5⟩; have he5 := he5.out; subst he5; have HO5 : Hid (SK.Own w5 wr.heap.size v5 (tx (nmL p))) := Lib.hid (ho5.sk.base (by first | exact Below.size (by assumption) | exact Nat.le_refl _)); obtain ⟨a5, c5, hv5⟩ := HO5.out.slice; rw [HMT.out] at hv5; subst hv5; clear ho5)
                refine hK.out _ _ ?_ (fun hHeld => ?_)
                · ((first
                    | exact HKP.out _ (Below.refl _ _)
                    | exact HKP.out _ (Below.refl _ _).drew
                    | (go_split_ands; exact HKP.out _ (below_self (by assumption) (by assumption)))
                    | (go_split_ands; exact HKP.out _ (below_self (by assumption) (Below.drew (by assumption))))
                    | (go_split_ands; exact HKP.out _ (Below.alloc (by assumption) (Below.size (by assumption)) _))
                    | (go_split_ands; exact HKP.out _ (Below.drew (by assumption)))
                    | (go_split_ands; exact HKP.out _ (by assumption))))
                clear hK K
                try simp only [Act.put, List.setIfInBounds_toArray, List.set_cons_zero, List.set_cons_succ, List.getElem_toArray, List.getElem_cons_zero, List.getElem_cons_succ]
                refine wpAnyH_ready (rs := [8]) (by kernel_rfl) (by simp) ?_
                refine (AllReadyH.cons rfl (fun K hK => ?_) AllReadyH.nil)
                go_split_ands
                refine SK.step_app (by rfl) _ _ rfl wr.heap.size (.slice a5 MT c5) (tx (nmL p)) rfl (by first | exact HO5.out | exact HO5.out.below ((Below.refl _ _).alloc (Nat.le_refl _) _) | exact HO5.out.below (below_self ((Below.refl _ _).drew) ((Below.refl _ _).alloc (Nat.le_refl _) _))) (.slice (some ⟨_, 0, none⟩) 1 1) [nm] rfl (by first | exact SK.rd_box nm _ _ _ | exact (SK.rd_box nm 9 1 wr).below (below_self ((Below.refl _ _).drew) hbw5) | exact (SK.rd_box nm 9 1 wr.drew).below (below_self ((Below.refl _ _).drew) hbw5) | exact (SK.rd_box nm 9 1 wr).below hbw5) (by have := HTL.out; simp only [List.length_cons, List.length_nil]; omega) (by first | exact Below.size (by assumption) | exact Nat.le_trans (Below.size (by assumption)) (by simp)) ?_
                intro v6 w6 ho6 hb6 hg6
                have hw6 : Below wr.heap.size wr w6 := by first | exact Below.trans (by assumption) hb6 | exact (Below.alloc (by assumption) (Below.size (by assumption)) _).trans hb6
                rw [HSS.out] at ho6
                obtain ⟨a6, c6, hv6, hs6⟩ := ho6.own1.nms HSL.out
                have hc6 := (hv6 ▸ ho6.own1).cap
                rw [HMS.out] at hc6
                rw [HMS.out] at hv6
                subst hv6
                have HS6 := Lib.hid hs6
                have HC6 := Lib.hid hc6
                clear ho6 hg6 hs6 hc6 hb6
                refine hK.out _ _ ?_ (fun hHeld => ?_)
                · ((first
                    | exact HKP.out _ (Below.refl _ _)
                    | exact HKP.out _ (Below.refl _ _).drew
                    | (go_split_ands; exact HKP.out _ (below_self (by assumption) (by assumption)))
                    | (go_split_ands; exact HKP.out _ (below_self (by assumption) (Below.drew (by assumption))))
                    | (go_split_ands; exact HKP.out _ (Below.alloc (by assumption) (Below.size (by assumption)) _))
                    | (go_split_ands; exact HKP.out _ (Below.drew (by assumption)))
                    | (go_split_ands; exact HKP.out _ (by assumption))))
                clear hK K
                try simp only [Act.put, List.setIfInBounds_toArray, List.set_cons_zero, List.set_cons_succ, List.getElem_toArray, List.getElem_cons_zero, List.getElem_cons_succ]
                refine wpAnyH_ready (rs := [9]) (by kernel_rfl) (by simp) ?_
                refine (AllReadyH.cons rfl (fun K hK => ?_) AllReadyH.nil)
                go_simp
                (go_at_call 20; refine (HOF.out _ _ _ HS6.out HC6.out).mono ?_; rintro e w7 ⟨rfl, hbw7⟩)
                refine hK.out _ _ ?_ (fun hHeld => ?_)
                · ((first
                    | exact HKP.out _ (Below.refl _ _)
                    | exact HKP.out _ (Below.refl _ _).drew
                    | (go_split_ands; exact HKP.out _ (below_self (by assumption) (by assumption)))
                    | (go_split_ands; exact HKP.out _ (below_self (by assumption) (Below.drew (by assumption))))
                    | (go_split_ands; exact HKP.out _ (Below.alloc (by assumption) (Below.size (by assumption)) _))
                    | (go_split_ands; exact HKP.out _ (Below.drew (by assumption)))
                    | (go_split_ands; exact HKP.out _ (by assumption))))
                clear hK K
                try simp only [Act.put, List.setIfInBounds_toArray, List.set_cons_zero, List.set_cons_succ, List.getElem_toArray, List.getElem_cons_zero, List.getElem_cons_succ]
                refine wpAnyH_take (i := 10) (v := ?_) rfl (by kernel_rfl) (by kernel_rfl) (by kernel_rfl) (fun _ _ _ h => h) (Or.inl ⟨by rfl, ?_⟩) (by assumption) ?_
                rotate_left
                · (intro w hSw; (try dsimp only at hSw); go_simp; try rfl)
                try simp only [Act.put, List.setIfInBounds_toArray, List.set_cons_zero, List.set_cons_succ, List.getElem_toArray, List.getElem_cons_zero, List.getElem_cons_succ]
                refine wpAnyH_take (i := 11) (v := ?_) rfl (by kernel_rfl) (by kernel_rfl) (by kernel_rfl) (fun _ _ _ h => h) (Or.inl ⟨by rfl, ?_⟩) (by assumption) ?_
                rotate_left
                · (intro w hSw; (try dsimp only at hSw); go_simp; try rfl)
                try simp only [Act.put, List.setIfInBounds_toArray, List.set_cons_zero, List.set_cons_succ, List.getElem_toArray, List.getElem_cons_zero, List.getElem_cons_succ]
                refine wpAnyH_take (i := 12) (v := ?_) rfl (by kernel_rfl) (by kernel_rfl) (by kernel_rfl) (fun _ _ _ h => h) (Or.inl ⟨by rfl, ?_⟩) (by assumption) ?_
                rotate_left
                · (intro w hSw; (try dsimp only at hSw); go_simp; try rfl)
                try simp only [Act.put, List.setIfInBounds_toArray, List.set_cons_zero, List.set_cons_succ, List.getElem_toArray, List.getElem_cons_zero, List.getElem_cons_succ]
                refine wpAnyH_take (i := 13) (v := ?_) rfl (by kernel_rfl) (by kernel_rfl) (by kernel_rfl) (fun _ _ _ h => h) (Or.inl ⟨by rfl, ?_⟩) (by assumption) ?_
                rotate_left
                · (intro w hSw; (try dsimp only at hSw); go_simp; try rfl)
                try simp only [Act.put, List.setIfInBounds_toArray, List.set_cons_zero, List.set_cons_succ, List.getElem_toArray, List.getElem_cons_zero, List.getElem_cons_succ]
                refine wpAnyH_take (i := 14) (v := ?_) rfl (by kernel_rfl) (by kernel_rfl) (by kernel_rfl) (fun _ _ _ h => h) (Or.inl ⟨by rfl, ?_⟩) (by assumption) ?_
                rotate_left
                · (intro w hSw; (try dsimp only at hSw); go_simp; try rfl)
                try simp only [Act.put, List.setIfInBounds_toArray, List.set_cons_zero, List.set_cons_succ, List.getElem_toArray, List.getElem_cons_zero, List.getElem_cons_succ]
                refine wpAnyH_done (by kernel_rfl) ?_ _
                go_split_ands
                have hbn : Below wr.heap.size wr w7 := by first | assumption | exact below_self (by assumption) (by assumption)
                have HBn := Lib.hid hbn
                clear HKP
                have HL7 : Hid (LW X d bk (61 + k) l3 w7) := Lib.hid (hL.out.on HBn.out)
                have HB7 := Lib.hid (hB3.out.on HBn.out)
                go_wp2_with fail
                refine (lw_apply HL7.out 0 0 4 Q v0 0 0 0 (by omega) HQS.out).mono ?_
                obtain ⟨⟨⟨er9, vl9, vr9, ns9⟩, l9⟩, hR9⟩ : ∃ R, appD l3 4 Q v0 0 = R := ⟨_, rfl⟩
                rw [hR9]
                have HE9 := Lib.hid hR9
                rintro e w9 ⟨v9, he, ho, hL9, hg9⟩
                have he := he.out
                subst he
                obtain ⟨a9, c9, hv9⟩ := ho.slice
                obtain ⟨M9, hM9⟩ : ∃ M, (List.map Value.string ns9).length = M := ⟨_, rfl⟩
                simp only at hv9 ho
                rw [hM9] at hv9
                subst hv9
                have HM9 : Hid (ns9.length = M9) := Lib.hid (by rw [← hM9]; simp)
                have hn9 := ho.nms (by rw [HM9.out]; exact hM9 ▸ own1_small ho)
                obtain ⟨Z9, hZ9⟩ : ∃ Z, w9.alloc (.cells #[.int .i64 er9, .string vl9, .int .i64 vr9, .slice a9 M9 c9] 30) = Z := ⟨_, rfl⟩
                obtain ⟨g9, hgg9⟩ : ∃ g, w9.heap.size = g := ⟨_, rfl⟩
                have HB9 : Hid (RB g9 ⟨er9, vl9, vr9, ns9⟩ Z9) := Lib.hid (by rw [← hZ9, ← hgg9]; exact RB.mk' _ hn9)
                have HL9 := Lib.hid (hL9.box #[.int .i64 er9, .string vl9, .int .i64 vr9, .slice a9 M9 c9] 30)
                rw [hZ9] at HL9
                have HB8 := Lib.hid ((HB7.out.step HL7.out hg9).box #[.int .i64 er9, .string vl9, .int .i64 vr9, .slice a9 M9 c9] 30)
                rw [hZ9] at HB8
                clear HL7 HB7 ho hL9 hg9 hR9 hn9 hM9
                have hl9 : l9 = l3 := by
                  have := (gt_names l3 Q v0 0).2
                  rw [HE9.out] at this
                  exact this
                subst hl9
                have her : er9 = 0 := by have := HGE.out; rw [HE9.out] at this; exact this
                subst her
                clear HE9 HGE
                have t90 := HB9.out.c0
                obtain ⟨v38, t38, a38, c38, hv38, hn38⟩ := HB8.out.c3
                have HN38 := Lib.hid hn38
                simp only at t90 t38 hv38 hn38
                rw [HNN.out] at hv38
                subst hv38
                obtain ⟨gM, oM, hA, hgM, uk⟩ := hn38.cell k (by rw [HNN.out]; exact hlt)
                rw [HNMQ.out] at uk
                subst hA
                have HLf : Hid (LW X d bk (61 + (k + 1)) l9 Z9) := HL9
                clear HL9 hn38
                go_wp2_with fail
                try rw [hZ9]
                try rw [hgg9]
                clear hZ9 hgg9
                by_cases k0 : k = 0
                · subst k0
                  simp only [Nat.add_zero] at uk
                  have q1 : (nm.toList == name.toList) = decide (nm = name) := by
                    rw [Lib.toList_data, Lib.toList_data, Bool.eq_iff_iff]
                    simp only [beq_iff_eq, decide_eq_true_eq]
                    exact ⟨fun h => data_inj (by simpa using h), fun h => by rw [h]⟩
                  go_quiet (fail)
                  cases b with
                  | true =>
                    go_wp2
                    go_roundw
                    case rel => exact ⟨0 + 1, true, by omega, by go_num, rfl, Lib.hid (HBF.out.1 rfl), Lib.hid (HLf.out.on (below_drewN_q (Below.refl _ _) _)), Lib.hid (HB8.out.on (below_drewN_q (Below.refl _ _) _))⟩
                    case measure => simp [intOf]; omega
                  | false =>
                    go_wp2
                    go_roundw
                    case rel => exact ⟨0 + 1, _, by omega, by go_num, rfl, Lib.hid (HBF.out.2 rfl), Lib.hid (HLf.out.on (below_drewN_q (Below.refl _ _) _)), Lib.hid (HB8.out.on (below_drewN_q (Below.refl _ _) _))⟩
                    case measure => simp [intOf]; omega
                · obtain ⟨j, rfl⟩ : ∃ j, k = j + 1 := ⟨k - 1, by omega⟩
                  obtain ⟨gM2, oM2, hA2, hgM2, uj⟩ := HN38.out.cell j (by rw [HNN.out]; omega)
                  simp only [Option.some.injEq, Addr.mk.injEq, and_true] at hA2
                  obtain ⟨rfl, rfl⟩ := hA2
                  have hbl := kid_less HR0.out p (k := j) (by rw [← HKD.out, HNN.out]; exact hlt)
                  rw [← HKD.out, HNMQ.out] at hbl
                  obtain ⟨nm0, hnm0⟩ : ∃ x, ns3.getD j ByteArray.empty = x := ⟨_, rfl⟩
                  rw [hnm0] at hbl uj
                  have q1 : (nm.toList == name.toList) = decide (nm = name) := by
                    rw [Lib.toList_data, Lib.toList_data, Bool.eq_iff_iff]
                    simp only [beq_iff_eq, decide_eq_true_eq]
                    exact ⟨fun h => data_inj (by simpa using h), fun h => by rw [h]⟩
                  have i1 : (0 : Int) < ((j + 1 : Nat) : Int) := by omega
                  have i2 : IntKind.i64.wrap (((j + 1 : Nat) : Int) - 1) = (j : Int) := by rw [IntWalk.i64_in _ (by omega)]; omega
                  have i3 : (j : Int) < (N : Int) := by omega
                  have i4 : j < N := by omega
                  clear hnm0 k0
                  go_quiet (fail)
                  cases b with
                  | true =>
                    go_wp2
                    go_roundw
                    case rel => exact ⟨j + 1 + 1, true, by omega, by go_num, rfl, Lib.hid (HBF.out.1 rfl), Lib.hid (HLf.out.on (below_drewN_q (Below.refl _ _) _)), Lib.hid (HB8.out.on (below_drewN_q (Below.refl _ _) _))⟩
                    case measure => simp [intOf]; omega
                  | false =>
                    go_wp2
                    go_roundw
                    case rel => exact ⟨j + 1 + 1, _, by omega, by go_num, rfl, Lib.hid (HBF.out.2 rfl), Lib.hid (HLf.out.on (below_drewN_q (Below.refl _ _) _)), Lib.hid (HB8.out.on (below_drewN_q (Below.refl _ _) _))⟩
                    case measure => simp [intOf]; omega
            · obtain rfl : N = k := by omega
              have hlt' : ¬ (N : Int) < (N : Int) := by omega
              have hbs : b = inN ns3 name := by
                have := hbF.out
                rw [← HNN.out, List.take_length] at this
                exact this
              obtain ⟨SS, hSS⟩ : ∃ SS, tx (nmL p) ++ [name] = SS := ⟨_, rfl⟩
              obtain ⟨Q, hQ⟩ : ∃ Q, ofP SS = Q := ⟨_, rfl⟩
              obtain ⟨E2, hE2⟩ : ∃ E, ofE SS = E := ⟨_, rfl⟩
              obtain ⟨MS, hMS⟩ : ∃ M, SS.length = M := ⟨_, rfl⟩
              have hll := lists_law HR0.out HVP.out name v0 0
              rw [hSS, hQ, hE2, ← HKD.out, ← inN_iff, ← hbs] at hll
              have HLL := Lib.hid hll
              have HQS : Hid (Q.size ≤ 1000) := Lib.hid (by rw [← hQ]; exact ofP_size SS)
              have HSL : Hid (SS.length ≤ 9223372036854775807) := Lib.hid (by rw [← hSS]; have := HNL.out; simp [tx]; omega)
              have HOF : Hid (∀ W a c, SRd W a SS → MS ≤ c → Calls Try.prog 20 #[.slice a MS c] W fun e w' => e = .returned (.tuple #[.string Q, .int .i64 E2]) ∧ Below W.heap.size W w') := Lib.hid (fun W a c h1 h2 => by
                have h3 := of_any a c SS W h1 (by rw [hMS]; exact h2)
                rw [hQ, hE2, hMS] at h3
                exact h3)
              have HSS := Lib.hid hSS
              have HMS := Lib.hid hMS
              clear hll hSS hQ hE2 hMS hbs hbF hlt hn3r
              rw [hgL]
              go_wp2_with fail
              refine (names_any p wr (by omega) hL.out.ml).mono ?_
              rintro e w5 ⟨v5, he5, ho5, hb5⟩
              have he5 := he5.out
              subst he5
              have HO5 : Hid (SK.Own w5 wr.heap.size v5 (tx (nmL p))) := Lib.hid ho5.sk
              obtain ⟨a5, c5, hv5⟩ := HO5.out.slice
              rw [HMT.out] at hv5
              subst hv5
              have HB5 := Lib.hid hb5
              clear ho5 hb5 t3r
              go_wp2_with (refine SK.app rfl _ _ rfl wr.heap.size (.slice a5 MT c5) (tx (nmL p)) rfl ?own (.slice (some ⟨_, 0, none⟩) 1 1) [name] rfl ?rd ?len ?bs ?_)
              case own => exact HO5.out.below ((Below.refl _ _).alloc (Nat.le_refl _) _)
              case rd => exact SK.rd_box name _ _ _
              case len => have := HTL.out; simp only [List.length_cons, List.length_nil]; omega
              case bs => have := HB5.out.size; simp; omega
              intro v6 w6 ho6 hb6 hg6 hn6
              have HB6 : Hid (Below wr.heap.size wr w6) := Lib.hid ((HB5.out.alloc HB5.out.size _).trans hb6)
              rw [HSS.out] at ho6
              obtain ⟨a6, c6, hv6, hs6⟩ := ho6.own1.nms HSL.out
              have hc6 := (hv6 ▸ ho6.own1).cap
              rw [HMS.out] at hc6
              rw [HMS.out] at hv6
              subst hv6
              have HOF6 := Lib.hid (HOF.out w6 a6 c6 hs6 hc6)
              clear ho6 hg6 hs6 hc6 hb6 hn6
              go_wp2_with fail
              refine HOF6.out.mono ?_
              rintro e w7 ⟨rfl, hb7⟩
              have HL7 := Lib.hid (hL.out.on (below_self HB6.out hb7))
              clear hb7 hL HOF6
              go_wp2_with fail
              refine (lw_apply HL7.out 0 0 4 Q v0 0 0 0 (by omega) HQS.out).mono ?_
              obtain ⟨⟨⟨era, vla, vra, nsa⟩, la⟩, hRa⟩ : ∃ R, appD l3 4 Q v0 0 = R := ⟨_, rfl⟩
              rw [hRa]
              have HEa := Lib.hid hRa
              rintro e wa ⟨va, he, ho, hLa, hga⟩
              have he := he.out
              subst he
              obtain ⟨aa, ca, hva⟩ := ho.slice
              obtain ⟨Ma, hMa⟩ : ∃ M, (List.map Value.string nsa).length = M := ⟨_, rfl⟩
              simp only at hva ho
              rw [hMa] at hva
              subst hva
              have HMa : Hid (nsa.length = Ma) := Lib.hid (by rw [← hMa]; simp)
              have hna := ho.nms (by rw [HMa.out]; exact hMa ▸ own1_small ho)
              obtain ⟨Za, hZa⟩ : ∃ Z, wa.alloc (.cells #[.int .i64 era, .string vla, .int .i64 vra, .slice aa Ma ca] 30) = Z := ⟨_, rfl⟩
              obtain ⟨ga, hgga⟩ : ∃ g, wa.heap.size = g := ⟨_, rfl⟩
              have HBa : Hid (RB ga ⟨era, vla, vra, nsa⟩ Za) := Lib.hid (by rw [← hZa, ← hgga]; exact RB.mk' _ hna)
              have HLa := Lib.hid (hLa.box #[.int .i64 era, .string vla, .int .i64 vra, .slice aa Ma ca] 30)
              rw [hZa] at HLa
              clear HL7 ho hLa hga hRa hna hMa
              have t90 := HBa.out.c0
              simp only at t90
              have hll := HLL.out
              rw [HEa.out] at hll
              simp only at hll
              clear HEa HLL
              by_cases e2 : E2 = 0
              · have s2 : (E2 == 0) = true := by simp [e2]
                by_cases e9 : era = 0
                · have s3 : (era == 0) = true := by simp [e9]
                  have hb : b = true := hll.1 ⟨e2, e9⟩
                  subst hb
                  clear hll e2 e9
                  go_wp2
                  go_ret
                  exact ⟨rfl, HB.out.trans (HLa.out.below.mono HB.out.size)⟩
                · have s3 : (era == 0) = false := by simpa using e9
                  have hb : b = false := by
                    cases b with
                    | false => rfl
                    | true => exact absurd (hll.2 rfl).2 e9
                  subst hb
                  clear hll e2 e9
                  go_wp2
                  go_ret
                  exact ⟨rfl, HB.out.trans (HLa.out.below.mono HB.out.size)⟩
              · have s2 : (E2 == 0) = false := by simpa using e2
                have hb : b = false := by
                  cases b with
                  | false => rfl
                  | true => exact absurd (hll.2 rfl).1 e2
                subst hb
                clear hll e2
                go_wp2
                go_ret
                exact ⟨rfl, HB.out.trans (HLa.out.below.mono HB.out.size)⟩
        · have s1 : (er3 != 0) = true := by simpa using e3
          have h0 := ls_names (l := l3) p v0 0 (by rw [HE3.out]; exact e3)
          rw [HE3.out] at h0
          simp only at h0
          rw [h0] at hNN
          simp only [List.length_nil] at hNN
          subst hNN
          clear hn33 h0 e3 HE3
          go_wp2
          go_ret
          exact ⟨rfl, HB.out.trans (HL3.out.below.mono HB.out.size)⟩
end Go.Proofs.Ytoojfbeikohikaa
