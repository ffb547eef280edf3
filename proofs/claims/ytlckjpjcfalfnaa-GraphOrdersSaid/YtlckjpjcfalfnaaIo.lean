/-
  Graph: inOrder.
-/
import Derived.Test.YtlckjpjcfalfnaaGdl
import Derived.Test.YtlckjpjcfalfnaaGrD
import Derived.Test.YtlckjpjcfalfnaaGl
import Derived.StillTailTactics
import Derived.Deep.LoopGhost
namespace Go.Proofs.Ytlckjpjcfalfnaa
open Go.RowKit Go.Sort
open Go.WideMaps
set_option linter.unusedSimpArgs false
set_option linter.unusedVariables false
set_option maxRecDepth 100000

abbrev Tr := Option Addr × Nat × Nat
def trV (t : Tr) : Value := .slice t.1 t.2.1 t.2.2
/-- Rows of IDs, as elements of a row. -/
noncomputable def SK : Knd Try.prog Tr where
  T := 23
  S := 30
  k := 1
  enc := fun t => [.slice t.1 t.2.1 t.2.2]
  z := .slice none 0 0
  B := 24
  len := fun _ => rfl
  one := fun x v h => by simp at h; subst h; rfl
  und := Try.underlying30
  info := by kernel_rfl
  zc := rfl
  pos := by omega
  small := by omega
  d := (none, 0, 0)
theorem LkS.rowS {W0 w w' : World} {m bw : Nat} {web : List (I3 × NV)} {L : Fin} {vw vo vg : Value} {N : Nat} {G : Nat → Gp} {vi vb : Nat → Value} {v : Value} {l : List Tr} (h : LkS W0 m bw web L vw vo vg N G vi vb w) (hv : SK.Own w (m + 4) v l) (hf : Fr (fun k => v.ownBlock = some k) w w') : LkS W0 m bw web L vw vo vg N G vi vb w' :=
  ⟨hf.fin h.fin (fun k hk => hv.from k hk) (fun k hk => ⟨fun q => row_far h.fin.way hv (by decide) k q hk, fun q => row_far h.fin.opn hv (by decide) k q hk, fun q => row_far h.fin.grp hv (by decide) k q hk⟩), h.gs.keep hf (fun j hj => row_far0 hv (h.gs.at' j hj).bk (by decide)) (fun j hj k hk q => row_far (h.gs.at' j hj).ids hv (by decide) k hk q) (fun j hj k hk q => row_far (h.gs.at' j hj).bh hv (by decide) k hk q), h.lo, Nat.le_trans h.sz hf.size, h.bel.trans (hf.to h.bel.size fun k hk q => by have := hv.from k q; have := h.lo; omega)⟩
/-- A row of pointers lies apart from the groups' rows and from the finder's. -/
def FarV (N : Nat) (vb : Nat → Value) (vg v : Value) : Prop := (∀ j, j < N → ∀ k, (vb j).ownBlock = some k → v.ownBlock ≠ some k) ∧ ∀ k, vg.ownBlock = some k → v.ownBlock ≠ some k
theorem FarV.next {W0 w : World} {m bw : Nat} {web : List (I3 × NV)} {L : Fin} {vw vo vg : Value} {N : Nat} {G : Nat → Gp} {vi vb : Nat → Value} {v v' : Value} (h : FarV N vb vg v) (hS : LkS W0 m bw web L vw vo vg N G vi vb w) (hn : Next w v v') : FarV N vb vg v' :=
  ⟨fun j hj k hk e => (hn k e).elim (h.1 j hj k hk) (fun q => by have := ((hS.gs.at' j hj).bh.blk k hk).1; omega), fun k hk e => (hn k e).elim (h.2 k hk) (fun q => by have := (hS.fin.grp.blk k hk).1; omega)⟩
theorem FarV.sub {N : Nat} {vb : Nat → Value} {vg v v' : Value} (h : FarV N vb vg v) (hn : ∀ k, v'.ownBlock = some k → v.ownBlock = some k) : FarV N vb vg v' := ⟨fun j hj k hk e => h.1 j hj k hk (hn k e), fun k hk e => h.2 k hk (hn k e)⟩
/-- A row that is no longer than its room. -/
def CapOf (v : Value) (n : Nat) : Prop := ∃ a c, v = .slice a n c ∧ n ≤ c
/-- What inOrder answers. -/
def IoP (W0 : World) (ids : Nat → List I3) (lst : Nat → I3) (E : Nat → List Nat) (S0 : KS) (e : Ending) (w : World) : Prop := ∃ v out i wt, Hid (e = .returned v) ∧ RowsAt w v (out.map ids) ∧ Below W0.heap.size W0 w ∧ (⟨[], wt, out⟩ : KS) = Nat.repeat (kstep lst E) i S0 ∧ CapOf v out.length
theorem erase_map {α β : Type} (f : α → β) : ∀ (l : List α) (i : Nat), (l.map f).eraseIdx i = (l.eraseIdx i).map f
  | [], _ => rfl
  | _ :: _, 0 => rfl
  | a :: l, i + 1 => by simp [erase_map f l i]
theorem rows_of {W0 w : World} {m bw : Nat} {web : List (I3 × NV)} {L : Fin} {vw vo vg : Value} {N : Nat} {G : Nat → Gp} {vi vb : Nat → Value} {v : Value} {rs : List Tr} {out : List Nat} (hS : LkS W0 m bw web L vw vo vg N G vi vb w) (hv : SK.Own w (m + 4) v rs) (hr : rs.map trV = out.map vi) (ho : ∀ j ∈ out, j < N) (hl : out.length ≤ 100000) : RowsAt w v (out.map fun j => (G j).ids) := by
  obtain ⟨a, c, ev⟩ := hv.slice
  have hlen : rs.length = out.length := by have := congrArg List.length hr; simpa using this
  subst ev
  refine ⟨a, c, by rw [List.length_map, hlen], by rw [List.length_map]; exact hl, fun j hj => ?_⟩
  rw [List.length_map] at hj
  have hjr : j < rs.length := by rw [hlen]; exact hj
  obtain ⟨-, g, off, ha, hg, hc⟩ := hv.rd.at (by intro e; rw [e] at hjr; simp at hjr)
  have q := hc j hjr 0 _ rfl
  have e1 : off + j * SK.k + 0 = off + j := by show off + j * 1 + 0 = off + j; omega
  rw [e1, getD_at hjr] at q
  have e2 : (rs.map trV)[j]? = (out.map vi)[j]? := by rw [hr]
  rw [List.getElem?_map, List.getElem?_map, List.getElem?_eq_getElem hjr, List.getElem?_eq_getElem hj] at e2
  simp only [Option.map_some, Option.some.injEq] at e2
  have hat := (hS.gs.at' out[j] (ho _ (List.getElem_mem hj))).ids.rd
  rw [← e2] at hat
  exact ⟨g, off, rs[j].1, rs[j].2.1, rs[j].2.2, ha, hg, q, by simp only [List.getElem_map]; exact hat⟩
theorem map_getD {l : List Nat} (f : Nat → Nat) {i : Nat} (h : i < l.length) : (l.map f).getD i 0 = f (l.getD i 0) := by simp [List.getD, h]
theorem len_nat {l : List Nat} {n : Nat} (hn : l.Nodup) (h : ∀ x ∈ l, x < n) : l.length ≤ n := by
  induction n generalizing l with
  | zero =>
    cases l with
    | nil => exact Nat.le_refl _
    | cons a l => exact absurd (h a (List.mem_cons_self ..)) (Nat.not_lt_zero _)
  | succ n ih =>
    have h2 := ih (l := l.erase n) (hn.sublist (List.erase_sublist ..)) (fun x hx => by
      have q := (List.Nodup.mem_erase_iff hn).1 hx
      have := h x q.2
      have := q.1
      omega)
    have h3 := List.length_erase (a := n) (l := l)
    split at h3 <;> omega
set_option maxHeartbeats 16000000 in
theorem inorder_any {W0 w : World} {m bw : Nat} {web : List (I3 × NV)} {L : Fin} {vw vo vg : Value} {N : Nat} {G : Nat → Gp} {vi vb : Nat → Value} (h : LkS W0 m bw web L vw vo vg N G vi vb w) (ofi : List (I3 × Nat)) (hof : L.of = atG L.grp ofi) (hlt : ∀ e ∈ ofi, e.2 < N) (ids : Nat → List I3) (lst : Nat → I3) (hB : LkB ids lst 0 G) (hids : ∀ j, j < N → okL (ids j) ∧ (ids j).length ≤ 20) (hE : ∀ e ∈ web, e.2.Ok W0) (hdl : ∀ x, (stepsV web x).length ≤ 20) (hN : N ≤ 20) (hW : LkW N G) (E : Nat → List Nat) (wt0 : Nat → Nat) (hE0 : (List.range N).foldl (lkG web ofi ids) G = mkG ids lst E wt0) :
    Calls Try.prog 32 #[encG (m + 3)] w (IoP W0 ids lst E ⟨(List.range N).filter fun j => decide (wt0 j = 0), wt0, []⟩) := by
  have HLk := Lib.hid (link_any h ofi hof hlt ids lst hB hids hE hdl hN)
  have hlt2 : ∀ x i, getV ofi x = some i → i < N := fun x i q => by
    unfold getV at q
    rw [Option.map_eq_some_iff] at q
    obtain ⟨e, h1, h2⟩ := q
    rw [← h2]
    exact hlt e (List.mem_of_find?_eq_some h1)
  have hW2 := LkW.all (web := web) hlt2 ids hW (List.range N) (fun j hj => List.mem_range.1 hj)
  rw [hE0] at HLk hW2
  have HK0 := Lib.hid (KI.start hW2)
  have HEN : Hid (∀ i, i < N → ∀ b ∈ E i, b < N) := Lib.hid fun i hi b hb => hW2.bh i b hb
  have HN := Lib.hid hN
  have HLen := Lib.hid h.gs.len
  obtain ⟨S0, hS0⟩ : ∃ S, (⟨(List.range N).filter fun j => decide (wt0 j = 0), wt0, []⟩ : KS) = S := ⟨_, rfl⟩
  rw [hS0]
  have HS0 := Lib.hid hS0
  clear h hof hlt hB hids hE hdl hN hW hE0 hlt2 hW2 hS0
  go_enter Try.func32, Try.ntmps32
  go_wp2_with fail
  refine HLk.out.mono ?_
  rintro e w1 ⟨vb1, he, hS, hB1⟩
  rw [he.out]
  obtain ⟨ag, cg, evg⟩ := hS.fin.grp.slice
  rw [hS.gs.len] at evg
  subst evg
  have c6 := Bk.cell hS.fin.bk 6
  simp only [List.getElem?_cons_zero, List.getElem?_cons_succ] at c6
  have HS1 := Lib.hid hS
  have HB1 : Hid (∀ t, (E t).length ≤ 8000 ∧ wt0 t ≤ 8000) := Lib.hid fun t => ⟨hB1.bh t, hB1.wt t⟩
  have hN63 : N ≤ 9223372036854775807 := by have := HN.out; omega
  clear he hS hB1 HLk
  go_wp2_with fail
  clear c6
  go_loopw [3, 20] (fun s3 i wr => ∃ (j : Nat), j ≤ N ∧ i = .int .i64 j ∧ Hid (LkS W0 m bw web L vw vo (.slice ag N cg) N (mkG ids lst E wt0) vi vb1 wr) ∧ Hid (PK.Own wr (m + 4) s3 (((List.range j).filter fun j => decide (wt0 j = 0)).map fun i => L.grp.getD i 0)) ∧ Hid (FarV N vb1 (.slice ag N cg) s3)) (fun _ i _ => N - (intOf i).toNat)
  case atStart => exact ⟨0, Nat.zero_le _, rfl, HS1, Lib.hid (Knd.Own.nil _ _), Lib.hid ⟨fun _ _ _ _ q => (by cases q), fun _ _ q => (by cases q)⟩⟩
  case round =>
    clear HS1
    obtain ⟨j, hj, rfl, HS, HO, HV⟩ := hrel
    by_cases hjN : j < N
    · have hj1 : (j : Int) < (N : Int) := by omega
      have hj2 : decide ((j : Int) < (N : Int)) = true := decide_eq_true hj1
      have hj3 : decide (j < N) = true := decide_eq_true hjN
      obtain ⟨gg, rfl, hgg, -, p0⟩ := pk_cell HS.out.fin.grp j (by rw [HS.out.gs.len]; exact hjN)
      obtain ⟨gj, hgj⟩ : ∃ q, L.grp.getD j 0 = q := ⟨_, rfl⟩
      rw [hgj] at p0
      have hat := HS.out.gs.at' j hjN
      rw [hgj] at hat
      have k4 := Bk.cell hat.bk 4
      simp only [List.getElem?_cons_zero, List.getElem?_cons_succ] at k4
      obtain ⟨wj, hwj⟩ : ∃ q, wt0 j = q := ⟨_, rfl⟩
      have e4 : wr.cell? ⟨gj, 4, none⟩ = some (.int .i64 (wj : Int)) := by rw [k4, ← hwj]; rfl
      have hfl : ∀ b : Bool, decide (wt0 j = 0) = b → (List.range (j + 1)).filter (fun j => decide (wt0 j = 0)) = (List.range j).filter (fun j => decide (wt0 j = 0)) ++ if b then [j] else [] := fun b hb => by
        rw [List.range_succ, List.filter_append]
        congr 1
        cases b <;> simp [hb] <;> simpa using hb
      have HGj := Lib.hid hgj
      have HFl := Lib.hid hfl
      have HWj := Lib.hid hwj
      obtain ⟨a3, c3, ev3⟩ := HO.out.slice
      obtain ⟨n3, hn3⟩ : ∃ q, (((List.range j).filter fun j => decide (wt0 j = 0)).map fun i => L.grp.getD i 0).length = q := ⟨_, rfl⟩
      rw [hn3] at ev3
      subst ev3
      have hnl : n3 ≤ 20 := by rw [← hn3, List.length_map]; have := List.length_filter_le (fun j => decide (wt0 j = 0)) (List.range j); rw [List.length_range] at this; have := HN.out; omega
      have HN3 := Lib.hid hn3
      clear hat hgj k4 hwj hfl hn3 hgg
      by_cases hz : wj = 0
      · have hz1 : (wj : Int) = 0 := by omega
        have hz2 : decide ((wj : Int) = 0) = true := decide_eq_true hz1
        have hf := HFl.out true (decide_eq_true (HWj.out.trans hz))
        have HF := Lib.hid hf
        obtain ⟨ba, hba⟩ : ∃ q, wr.heap.size = q := ⟨_, rfl⟩
        obtain ⟨wa, hwa⟩ : ∃ q, wr.alloc (.cells #[.pointer (some ⟨gj, 0, none⟩)] 88) = q := ⟨_, rfl⟩
        have hba2 : Below wr.heap.size wr wa := by rw [← hwa]; exact (Below.refl _ _).alloc (Nat.le_refl _) _
        have HSa := Lib.hid (HS.out.below hba2)
        have HRa : Hid (PK.Rd wa (.slice (some ⟨ba, 0, none⟩) 1 1) [gj]) := Lib.hid (by rw [← hwa]; exact PK.rd_boxAt gj _ 1 wr ba hba)
        have HOa := Lib.hid (HO.out.below hba2)
        clear hba2 HS HO hf
        have T1 : ((List.filter (fun j => decide (wt0 j = 0)) (List.range j)).map fun i => L.grp.getD i 0).length + [gj].length ≤ 1000000 := by rw [HN3.out]; simp; omega
        go_upto_region 7 with fail
        clear p0 e4 hz1 hz2
        go_upto_region 8 with (first
          | (refine PK.app2 (by kernel_rfl) (.tmp 29) (.tmp 31) rfl (m + 4) (.slice a3 n3 c3) _ rfl HOa.out ba 1 [gj] rfl HRa.out (by simp) T1 HSa.out.sz ?_; intro v7 w7 ho7 hb7 hg7 hn7; have hf7 : Fr (fun k => (Value.slice a3 n3 c3).ownBlock = some k) wa w7 := (Fr.grown hg7).mono (fun j _ q => q.symm); have HS7 := Lib.hid (HSa.out.row HOa.out hf7 HV.out.1 HV.out.2); have HV7 := Lib.hid (HV.out.next HSa.out hn7); have HO7 := Lib.hid ho7; clear ho7 hb7 hg7 hn7 hf7 hwa hba)
          | fail)
        go_wp2_with fail
        go_roundw
        case rel => exact ⟨j + 1, by omega, by go_num, HS7, Lib.hid (by rw [HF.out, List.map_append]; simp only [if_true, List.map_cons, List.map_nil, HGj.out]; exact HO7.out), HV7⟩
        case measure => simp [intOf]; omega
      · have hz1 : ¬ (wj : Int) = 0 := by omega
        have hz2 : decide ((wj : Int) = 0) = false := decide_eq_false hz1
        have hf := HFl.out false (decide_eq_false (fun q => hz (HWj.out.symm.trans q)))
        have HF := Lib.hid hf
        clear hf
        go_wp2_with fail
        go_roundw
        case rel => exact ⟨j + 1, by omega, by go_num, HS, Lib.hid (by rw [HF.out]; simpa using HO.out), HV⟩
        case measure => simp [intOf]; omega
    · obtain rfl : j = N := by omega
      have hk2 : decide ((j : Int) < (j : Int)) = false := decide_eq_false (by omega)
      have hk3 : decide (j < j) = false := decide_eq_false (by omega)
      have HKs : Hid (KI j E [] ((List.range j).filter fun j => decide (wt0 j = 0)) wt0 []) := HK0
      obtain ⟨F0, hF0⟩ : ∃ F, ((List.range j).filter fun j => decide (wt0 j = 0)) = F := ⟨_, rfl⟩
      have HS0' : Hid ((⟨F0, wt0, []⟩ : KS) = S0) := Lib.hid (by rw [← hF0]; exact HS0.out)
      rw [hF0] at HO HKs
      clear hF0 HK0 HS0
      go_wp2_with fail
      go_loopg [3, 6] j (fun q s3 s6 wr => ∃ (F : List Nat) (wt : Nat → Nat) (out : List Nat) (rs : List Tr), Hid (LkS W0 m bw web L vw vo (.slice ag j cg) j (mkG ids lst E wt) vi vb1 wr) ∧ Hid (PK.Own wr (m + 4) s3 (F.map fun i => L.grp.getD i 0)) ∧ Hid (FarV j vb1 (.slice ag j cg) s3) ∧ Hid (SK.Own wr (m + 4) s6 rs) ∧ Hid (rs.map trV = out.map vi) ∧ Hid (KI j E [] F wt out) ∧ Hid (j - out.length ≤ q) ∧ Hid (∃ i, (⟨F, wt, out⟩ : KS) = Nat.repeat (kstep lst E) i S0))
      case atStart => exact ⟨F0, wt0, [], [], HS, HO, HV, Lib.hid (Knd.Own.nil _ _), Lib.hid rfl, HKs, Lib.hid (by simp), Lib.hid ⟨0, HS0'.out⟩⟩
      case round =>
        clear HS HO HV HKs HS0'
        obtain ⟨F, wt, out, rs, HS, HO, HV, HR, HRs, HK, HQ, HI⟩ := hrel
        obtain ⟨a3, c3, ev3⟩ := HO.out.slice
        obtain ⟨a6, c6, ev6⟩ := HR.out.slice
        obtain ⟨n6, hn6⟩ : ∃ q, rs.length = q := ⟨_, rfl⟩
        rw [hn6] at ev6
        subst ev6
        rw [List.length_map] at ev3
        have hout : out.length + F.length ≤ j := by
          have q := len_nat HK.out.nd (fun x hx => HK.out.lt x hx)
          rwa [List.length_append] at q
        by_cases hF : F = []
        · subst hF
          simp only [List.length_nil] at ev3
          subst ev3
          have HOu := Lib.hid hout
          have HN6 := Lib.hid hn6
          clear hout hn6
          go_wp2
          go_ret
          obtain ⟨i, hi⟩ := HI.out
          have hrow := rows_of HS.out HR.out HRs.out (fun x hx => HK.out.lt x (List.mem_append_left _ hx)) (by have := HOu.out; have := HN.out; omega)
          have hcap : CapOf (.slice a6 n6 c6) out.length := ⟨a6, c6, by have q := congrArg List.length HRs.out; simp only [List.length_map] at q; rw [← q, HN6.out], by have q := congrArg List.length HRs.out; simp only [List.length_map] at q; rw [← q, HN6.out]; exact (own_cap HR.out).1⟩
          rw [HN6.out] at *
          exact ⟨_, out, i, wt, Lib.hid rfl, hrow, HS.out.bel, hi, hcap⟩
        · obtain ⟨W1, rfl⟩ : ∃ q, q = wr := ⟨_, rfl⟩
          obtain ⟨GK, rfl⟩ : ∃ q, q = gk := ⟨_, rfl⟩
          obtain ⟨n, hn⟩ : ∃ q, F.length = q := ⟨_, rfl⟩
          rw [hn] at ev3 hout
          subst ev3
          have hnp : 0 < n := by have := List.length_pos_iff.2 hF; omega
          have hn20 : n ≤ 20 := by have := HN.out; omega
          have hz1 : (0 : Int) < (n : Int) := by omega
          have hz2 : decide ((0 : Int) < (n : Int)) = true := decide_eq_true hz1
          have hz3 : decide (0 < n) = true := decide_eq_true hnp
          have HFn := Lib.hid hn
          have HFe := Lib.hid hF
          have HOu := Lib.hid hout
          have HN6 := Lib.hid hn6
          have HNp := Lib.hid hnp
          clear hF hn hout hn6
          go_wp2_with fail
          clear hz1 hz2 hz3 hnp
          go_loopw [7, 39] (fun a i wr => ∃ (k : Nat), k ≤ n ∧ i = .int .i64 k ∧ a = .int .i64 (pick lst F k) ∧ Hid (Below W1.heap.size W1 wr)) (fun _ i _ => n - (intOf i).toNat)
          case atStart => exact ⟨0, Nat.zero_le _, rfl, rfl, Lib.hid (Below.refl _ _)⟩
          case round =>
          obtain ⟨k, hk, rfl, rfl, HB⟩ := hrel
          have hOk := HO.out.below HB.out
          have hml : (F.map fun i => L.grp.getD i 0).length = n := by rw [List.length_map]; exact HFn.out
          have hmd : ∀ i, i < n → (F.map fun i => L.grp.getD i 0).getD i 0 = L.grp.getD (F.getD i 0) 0 := fun i hi => map_getD _ (by rw [HFn.out]; exact hi)
          have hFN : ∀ i, i < n → F.getD i 0 < j := fun i hi => HK.out.lt _ (List.mem_append_right _ (by rw [getD_at (by rw [HFn.out]; exact hi)]; exact List.getElem_mem _))
          have HSk := Lib.hid (HS.out.below HB.out)
          by_cases hkn : k < n
          · have hk1 : (k : Int) < (n : Int) := by omega
            have hk2 : decide ((k : Int) < (n : Int)) = true := decide_eq_true hk1
            have hk3 : decide (k < n) = true := decide_eq_true hkn
            have hpa : pick lst F k < n := by have q := pick_lt lst F k (by rw [HFn.out]; exact HNp.out) (by rw [HFn.out]; exact hk); rwa [HFn.out] at q
            obtain ⟨g3, rfl, hg3, -, p0⟩ := pk_cell hOk k (by rw [hml]; exact hkn)
            obtain ⟨g3', hg3', -, -, p1⟩ := pk_cell hOk (pick lst F k) (by rw [hml]; exact hpa)
            simp only [Option.some.injEq, Addr.mk.injEq, and_true] at hg3'
            subst hg3'
            rw [hmd _ hkn] at p0
            rw [hmd _ hpa] at p1
            have hx := HSk.out.gs.at' _ (hFN _ hkn)
            have ha := HSk.out.gs.at' _ (hFN _ hpa)
            obtain ⟨gx, hgx⟩ : ∃ q, L.grp.getD (F.getD k 0) 0 = q := ⟨_, rfl⟩
            obtain ⟨ga, hga⟩ : ∃ q, L.grp.getD (F.getD (pick lst F k) 0) 0 = q := ⟨_, rfl⟩
            rw [hgx] at p0 hx
            rw [hga] at p1 ha
            obtain ⟨lx, hlx⟩ : ∃ q, lst (F.getD k 0) = q := ⟨_, rfl⟩
            obtain ⟨la, hla⟩ : ∃ q, lst (F.getD (pick lst F k) 0) = q := ⟨_, rfl⟩
            obtain ⟨l1, l2, l3⟩ := lx
            obtain ⟨r1, r2, r3⟩ := la
            have hbx := hx.bk
            have hba := ha.bk
            simp only [mkG, hlx] at hbx
            simp only [mkG, hla] at hba
            obtain ⟨qb, hql⟩ : ∃ q, ltI (l1, l2, l3) (r1, r2, r3) = q := ⟨_, rfl⟩
            have HQb : Hid (ltI (lst (F.getD k 0)) (lst (F.getD (pick lst F k) 0)) = qb) := Lib.hid (by rw [hlx, hla]; exact hql)
            obtain ⟨pa, hpe⟩ : ∃ q, pick lst F k = q := ⟨_, rfl⟩
            rw [hpe] at p1 hpa
            have HPa := Lib.hid hpe
            have hp1 : (pa : Int) < (n : Int) := by omega
            have hp2 : decide ((pa : Int) < (n : Int)) = true := decide_eq_true hp1
            have HC15 : Hid (∀ w', Below wr.heap.size wr w' → w'.cell? ⟨gx, 1, none⟩ = some (.int .i64 l1) ∧ w'.cell? ⟨gx, 2, none⟩ = some (.int .i64 l2) ∧ w'.cell? ⟨gx, 3, none⟩ = some (.int .i64 l3) ∧ w'.cell? ⟨g3, pa, none⟩ = some (.pointer (some ⟨ga, 0, none⟩)) ∧ w'.cell? ⟨ga, 1, none⟩ = some (.int .i64 r1) ∧ w'.cell? ⟨ga, 2, none⟩ = some (.int .i64 r2) ∧ w'.cell? ⟨ga, 3, none⟩ = some (.int .i64 r3)) := Lib.hid fun w' hb => ⟨(Bk.below hbx hb).cell 1, (Bk.below hbx hb).cell 2, (Bk.below hbx hb).cell 3, (hb.cell (p := ⟨g3, pa, none⟩) hg3).trans p1, (Bk.below hba hb).cell 1, (Bk.below hba hb).cell 2, (Bk.below hba hb).cell 3⟩
            try rw [hpe]
            clear hpe hx ha hbx hba hlx hla hgx hga p1 hOk hml hmd hFN HSk hg3
            go_upto_region 15 with fail
            refine wp_region_held_drew (S := (fun w' => w'.cell? ⟨gx, 1, none⟩ = some (.int .i64 l1) ∧ w'.cell? ⟨gx, 2, none⟩ = some (.int .i64 l2) ∧ w'.cell? ⟨gx, 3, none⟩ = some (.int .i64 l3) ∧ w'.cell? ⟨g3, pa, none⟩ = some (.pointer (some ⟨ga, 0, none⟩)) ∧ w'.cell? ⟨ga, 1, none⟩ = some (.int .i64 r1) ∧ w'.cell? ⟨ga, 2, none⟩ = some (.int .i64 r2) ∧ w'.cell? ⟨ga, 3, none⟩ = some (.int .i64 r3))) (by kernel_rfl) ?_ (fun hHeld => ?_)
            · ((first
  | exact HC15.out _ hbl
  | exact HC15.out _ (Below.refl _ _)
  | exact HC15.out _ (Below.refl _ _).drew
  | fail))
            refine wpAnyH_take (i := 0) (v := ?_) rfl (by kernel_rfl) (by kernel_rfl) (by kernel_rfl) (fun _ _ _ h => h) (Or.inl ⟨by rfl, ?_⟩) (by assumption) ?_
            rotate_left
            · (intro w hSw; (try dsimp only at hSw); go_simp; try rfl)
            try simp only [Act.put, List.setIfInBounds_toArray, List.set_cons_zero, List.set_cons_succ, List.getElem_toArray, List.getElem_cons_zero, List.getElem_cons_succ]
            refine wpAnyH_take (i := 1) (v := ?_) rfl (by kernel_rfl) (by kernel_rfl) (by kernel_rfl) (fun _ _ _ h => h) (Or.inl ⟨by rfl, ?_⟩) (by assumption) ?_
            rotate_left
            · (intro w hSw; (try dsimp only at hSw); go_simp; try rfl)
            try simp only [Act.put, List.setIfInBounds_toArray, List.set_cons_zero, List.set_cons_succ, List.getElem_toArray, List.getElem_cons_zero, List.getElem_cons_succ]
            refine wpAnyH_take (i := 2) (v := ?_) rfl (by kernel_rfl) (by kernel_rfl) (by kernel_rfl) (fun _ _ _ h => h) (Or.inl ⟨by rfl, ?_⟩) (by assumption) ?_
            rotate_left
            · (intro w hSw; (try dsimp only at hSw); go_simp; try rfl)
            try simp only [Act.put, List.setIfInBounds_toArray, List.set_cons_zero, List.set_cons_succ, List.getElem_toArray, List.getElem_cons_zero, List.getElem_cons_succ]
            refine wpAnyH_take (i := 3) (v := ?_) rfl (by kernel_rfl) (by kernel_rfl) (by kernel_rfl) (fun _ _ _ h => h) (Or.inl ⟨by rfl, ?_⟩) (by assumption) ?_
            rotate_left
            · (intro w hSw; (try dsimp only at hSw); go_simp; try rfl)
            try simp only [Act.put, List.setIfInBounds_toArray, List.set_cons_zero, List.set_cons_succ, List.getElem_toArray, List.getElem_cons_zero, List.getElem_cons_succ]
            refine wpAnyH_take (i := 4) (v := ?_) rfl (by kernel_rfl) (by kernel_rfl) (by kernel_rfl) (fun _ _ _ h => h) (Or.inl ⟨by rfl, ?_⟩) (by assumption) ?_
            rotate_left
            · (intro w hSw; (try dsimp only at hSw); go_simp; try rfl)
            try simp only [Act.put, List.setIfInBounds_toArray, List.set_cons_zero, List.set_cons_succ, List.getElem_toArray, List.getElem_cons_zero, List.getElem_cons_succ]
            refine wpAnyH_take (i := 5) (v := ?_) rfl (by kernel_rfl) (by kernel_rfl) (by kernel_rfl) (fun _ _ _ h => h) (Or.inl ⟨by rfl, ?_⟩) (by assumption) ?_
            rotate_left
            · (intro w hSw; (try dsimp only at hSw); go_simp; try rfl)
            try simp only [Act.put, List.setIfInBounds_toArray, List.set_cons_zero, List.set_cons_succ, List.getElem_toArray, List.getElem_cons_zero, List.getElem_cons_succ]
            refine wpAnyH_take (i := 6) (v := ?_) rfl (by kernel_rfl) (by kernel_rfl) (by kernel_rfl) (fun _ _ _ h => h) (Or.inl ⟨by rfl, ?_⟩) (by assumption) ?_
            rotate_left
            · (intro w hSw; (try dsimp only at hSw); go_simp; try rfl)
            try simp only [Act.put, List.setIfInBounds_toArray, List.set_cons_zero, List.set_cons_succ, List.getElem_toArray, List.getElem_cons_zero, List.getElem_cons_succ]
            refine wpAnyH_take (i := 7) (v := ?_) rfl (by kernel_rfl) (by kernel_rfl) (by kernel_rfl) (fun _ _ _ h => h) (Or.inl ⟨by rfl, ?_⟩) (by assumption) ?_
            rotate_left
            · (intro w hSw; (try dsimp only at hSw); go_simp; try rfl)
            try simp only [Act.put, List.setIfInBounds_toArray, List.set_cons_zero, List.set_cons_succ, List.getElem_toArray, List.getElem_cons_zero, List.getElem_cons_succ]
            refine wpAnyH_take (i := 8) (v := ?_) rfl (by kernel_rfl) (by kernel_rfl) (by kernel_rfl) (fun _ _ _ h => h) (Or.inl ⟨by rfl, ?_⟩) (by assumption) ?_
            rotate_left
            · (intro w hSw; (try dsimp only at hSw); go_simp; try rfl)
            try simp only [Act.put, List.setIfInBounds_toArray, List.set_cons_zero, List.set_cons_succ, List.getElem_toArray, List.getElem_cons_zero, List.getElem_cons_succ]
            refine wpAnyH_take (i := 9) (v := ?_) rfl (by kernel_rfl) (by kernel_rfl) (by kernel_rfl) (fun _ _ _ h => h) (Or.inl ⟨by rfl, ?_⟩) (by assumption) ?_
            rotate_left
            · (intro w hSw; (try dsimp only at hSw); go_simp; try rfl)
            try simp only [Act.put, List.setIfInBounds_toArray, List.set_cons_zero, List.set_cons_succ, List.getElem_toArray, List.getElem_cons_zero, List.getElem_cons_succ]
            refine wpAnyH_take (i := 10) (v := ?_) rfl (by kernel_rfl) (by kernel_rfl) (by kernel_rfl) (fun _ _ _ h => h) (Or.inl ⟨by rfl, ?_⟩) (by assumption) ?_
            rotate_left
            · (intro w hSw; (try dsimp only at hSw); go_simp; try rfl)
            try simp only [Act.put, List.setIfInBounds_toArray, List.set_cons_zero, List.set_cons_succ, List.getElem_toArray, List.getElem_cons_zero, List.getElem_cons_succ]
            refine wpAnyH_ready (rs := [11]) (by kernel_rfl) (by simp) ?_
            refine (AllReadyH.cons rfl (fun K hK => ?_) AllReadyH.nil)
            go_simp
            (go_at_call 27; refine (less_any l1 l2 l3 r1 r2 r3 _).mono ?_; rintro e wl ⟨rfl, hgr⟩; have hbl : Below wr.heap.size wr wl := (Below.refl _ _).drew.trans (hgr.below.mono (by simp)))
            refine hK.out _ _ ?_ (fun hHeld => ?_)
            · ((first
  | exact HC15.out _ hbl
  | exact HC15.out _ (Below.refl _ _)
  | exact HC15.out _ (Below.refl _ _).drew
  | fail))
            clear hK K
            try simp only [Act.put, List.setIfInBounds_toArray, List.set_cons_zero, List.set_cons_succ, List.getElem_toArray, List.getElem_cons_zero, List.getElem_cons_succ]
            refine wpAnyH_done (by kernel_rfl) ?_ _
            clear HC15 hgr
            have HBl := Lib.hid (HB.out.trans (hbl.mono HB.out.size))
            clear hbl HB
            cases qb with
            | true =>
              have HPk : Hid (pick lst F (k + 1) = k) := Lib.hid (by rw [pick_succ, if_pos HQb.out])
              clear HQb
              simp only [hql]
              clear hql
              go_wp2_with fail
              go_roundw
              case rel => exact ⟨k + 1, by omega, by go_num, by rw [HPk.out], HBl⟩
              case measure => simp [intOf]; omega
            | false =>
              have HPk : Hid (pick lst F (k + 1) = pick lst F k) := Lib.hid (by rw [pick_succ, if_neg (by rw [HQb.out]; simp)])
              clear HQb
              simp only [hql]
              clear hql
              go_wp2_with fail
              go_roundw
              case rel => exact ⟨k + 1, by omega, by go_num, by rw [HPk.out, HPa.out], HBl⟩
              case measure => simp [intOf]; omega
          · obtain rfl : k = n := by omega
            have hk2 : decide ((k : Int) < (k : Int)) = false := decide_eq_false (by omega)
            have hk3 : decide (k < k) = false := decide_eq_false (by omega)
            have hpa : pick lst F k < k := by have q := pick_lt lst F k (by rw [HFn.out]; exact HNp.out) (by rw [HFn.out]; exact hk); rwa [HFn.out] at q
            have HKst : Hid (kstep lst E ⟨F, wt, out⟩ = ⟨((E (F.getD (pick lst F k) 0)).foldl kdec (F.eraseIdx (pick lst F k), wt)).1, ((E (F.getD (pick lst F k) 0)).foldl kdec (F.eraseIdx (pick lst F k), wt)).2, out ++ [F.getD (pick lst F k) 0]⟩) := Lib.hid (by unfold kstep; rw [if_neg HFe.out, HFn.out])
            obtain ⟨g3, rfl, hg3, -, p1⟩ := pk_cell hOk (pick lst F k) (by rw [hml]; exact hpa)
            rw [hmd _ hpa] at p1
            have hgN := hFN _ hpa
            obtain ⟨hKt, -⟩ := HK.out.take (a := pick lst F k) (by rw [HFn.out]; exact hpa)
            have hdel := del_any hOk (pick lst F k) (by rw [hml]; exact hpa) (by rw [hml]; omega)
            rw [erase_map] at hdel
            obtain ⟨pa, hpe⟩ : ∃ q, pick lst F k = q := ⟨_, rfl⟩
            rw [hpe] at p1 hpa hKt HKst hdel hgN ⊢
            obtain ⟨g, hge⟩ : ∃ q, F.getD pa 0 = q := ⟨_, rfl⟩
            rw [hge] at p1 hKt HKst hgN
            obtain ⟨gg, hgg⟩ : ∃ q, L.grp.getD g 0 = q := ⟨_, rfl⟩
            rw [hgg] at p1
            obtain ⟨F1, hF1⟩ : ∃ q, F.eraseIdx pa = q := ⟨_, rfl⟩
            rw [hF1] at hKt HKst hdel
            have HGg := Lib.hid hgg
            have HKt := Lib.hid hKt
            have HDel := Lib.hid hdel
            have HOk := Lib.hid hOk
            have HRk := Lib.hid (HR.out.below HB.out)
            have HGN := Lib.hid hgN
            have hp1 : (pa : Int) < (k : Int) := by omega
            have hp2 : decide ((pa : Int) < (k : Int)) = true := decide_eq_true hp1
            have hadd : IntKind.i64.wrap ((pa : Int) + 1) = ((pa + 1 : Nat) : Int) := by rw [IntKind.wrap_i64]; omega
            have hadd2 : wrap64 ((pa : Int) + 1) = ((pa + 1 : Nat) : Int) := by unfold wrap64; omega
            clear hpe hge hgg hF1 hKt hdel hOk hml hmd hFN hgN hg3 HK HS HO HR HFn HFe
            go_upto_region 19 with fail
            clear p1 hk2 hk3
            go_wp2_with fail
            refine HDel.out.mono ?_
            rintro e wd ⟨vd, he, hod, hfd, hsd⟩
            rw [he.out]
            have HSd := Lib.hid (HSk.out.row HOk.out hfd HV.out.1 HV.out.2)
            have HRd := Lib.hid (hfd.own HRk.out (fun q hq r => row_far HRk.out HOk.out (by decide) q hq r))
            have HOd := Lib.hid hod
            have HVd := Lib.hid (HV.out.sub hsd)
            clear he hod hfd hsd HDel HSk HOk HRk HV HB hadd hadd2 hp1 hp2
            have hat := HSd.out.gs.at' g HGN.out
            rw [HGg.out] at hat
            obtain ⟨ai, ci, evi⟩ := hat.ids.slice
            obtain ⟨ni, hni⟩ : ∃ q, ((mkG ids lst E wt g).ids).length = q := ⟨_, rfl⟩
            rw [hni] at evi
            obtain ⟨ab, cb, evb⟩ := hat.bh.slice
            obtain ⟨nb, hnb⟩ : ∃ q, ((mkG ids lst E wt g).bh.map fun i => L.grp.getD i 0).length = q := ⟨_, rfl⟩
            rw [hnb] at evb
            have k0 := Bk.cell hat.bk 0
            simp only [List.getElem?_cons_zero] at k0
            rw [evi] at k0
            have HVi := Lib.hid evi
            have HVb := Lib.hid evb
            have HBg := Lib.hid hat.bk
            have HNb : Hid ((E g).length = nb) := Lib.hid (by rw [← hnb, List.length_map]; rfl)
            obtain ⟨bx, hbx⟩ : ∃ q, wd.heap.size = q := ⟨_, rfl⟩
            obtain ⟨wa, hwa⟩ : ∃ q, wd.alloc (.cells #[.slice ai ni ci] 23) = q := ⟨_, rfl⟩
            have hba2 : Below wd.heap.size wd wa := by rw [← hwa]; exact (Below.refl _ _).alloc (Nat.le_refl _) _
            have HSa := Lib.hid (HSd.out.below hba2)
            have HRa : Hid (SK.Rd wa (.slice (some ⟨bx, 0, none⟩) 1 1) [(ai, ni, ci)]) := Lib.hid (by rw [← hwa]; exact SK.rd_boxAt (ai, ni, ci) _ 1 wd bx hbx)
            have HOa := Lib.hid (HOd.out.below hba2)
            have HRo := Lib.hid (HRd.out.below hba2)
            have HBa := Lib.hid (Bk.below HBg.out hba2)
            have T6 : rs.length + [(ai, ni, ci)].length ≤ 1000000 := by rw [HN6.out]; have := HRs.out; have q := congrArg List.length this; simp at q; have := HOu.out; have := HN6.out; have := HN.out; simp; omega
            clear hat hni hnb evi evb hba2 HSd HOd HRd HBg
            go_upto_region 21 with (first
              | (refine SK.app2 (by kernel_rfl) (.tmp 67) (.tmp 72) rfl (m + 4) (.slice a6 n6 c6) rs rfl HRo.out bx 1 [(ai, ni, ci)] rfl HRa.out (by simp) T6 HSa.out.sz ?_; intro v7 w7 ho7 hb7 hg7 hn7; have hf7 : Fr (fun k => (Value.slice a6 n6 c6).ownBlock = some k) wa w7 := (Fr.grown hg7).mono (fun j _ q => q.symm); have HS7 := Lib.hid (HSa.out.rowS HRo.out hf7); have HO7 := Lib.hid (hf7.own HOa.out (fun q hq r => row_far HOa.out HRo.out (by decide) q hq r)); have HR7 := Lib.hid ho7; have HB7 := Lib.hid (hf7.bk HBa.out (row_far0 HRo.out HBa.out (by decide))); clear ho7 hb7 hg7 hn7 hf7 hwa hbx)
              | fail)
            clear k0 HSa HOa HRo HBa HRa
            have k5 := Bk.cell HB7.out 5
            simp only [List.getElem?_cons_zero, List.getElem?_cons_succ] at k5
            rw [HVb.out] at k5
            have hnb63 : nb ≤ 9223372036854775807 := by have q := (HB1.out g).1; have := HNb.out; omega
            have HRs7 : Hid ((rs ++ [(ai, ni, ci)]).map trV = (out ++ [g]).map vi) := Lib.hid (by rw [List.map_append, List.map_append, HRs.out]; simp [trV, HVi.out])
            go_wp2_with fail
            clear k5
            go_loopw [3, 79] (fun s3 i wr => ∃ (k : Nat) (F2 : List Nat) (wt2 : Nat → Nat), k ≤ nb ∧ i = .int .i64 k ∧ Hid (LkS W0 m bw web L vw vo (.slice ag j cg) j (mkG ids lst E wt2) vi vb1 wr) ∧ Hid (PK.Own wr (m + 4) s3 (F2.map fun i => L.grp.getD i 0)) ∧ Hid (FarV j vb1 (.slice ag j cg) s3) ∧ Hid (SK.Own wr (m + 4) v7 (rs ++ [(ai, ni, ci)])) ∧ Hid ((F2, wt2) = ((E g).take k).foldl kdec (F1, wt)) ∧ Hid (KI j E ((E g).drop k) F2 wt2 (out ++ [g]))) (fun _ i _ => nb - (intOf i).toNat)
            case atStart => exact ⟨0, F1, wt, Nat.zero_le _, rfl, HS7, HO7, HVd, HR7, Lib.hid rfl, HKt⟩
            case round =>
            clear HS7 HO7 HVd HR7 HKt HB7
            obtain ⟨k2, F2, wt2, hk2, rfl, HS, HO, HV, HR, HD, HK⟩ := hrel
            by_cases hkb : k2 < nb
            · have hk1 : (k2 : Int) < (nb : Int) := by omega
              have hk2' : decide ((k2 : Int) < (nb : Int)) = true := decide_eq_true hk1
              have hk3' : decide (k2 < nb) = true := decide_eq_true hkb
              have hkl : k2 < (E g).length := by rw [HNb.out]; exact hkb
              have hat := HS.out.gs.at' g HGN.out
              have hbo := hat.bh
              rw [HVb.out] at hbo
              have hbl : ((mkG ids lst E wt2 g).bh.map fun i => L.grp.getD i 0).length = nb := by rw [List.length_map]; exact HNb.out
              obtain ⟨gb, rfl, hgb, -, p0⟩ := pk_cell hbo k2 (by rw [hbl]; exact hkb)
              have hbh : (mkG ids lst E wt2 g).bh = E g := rfl
              rw [hbh, map_getD _ hkl, getD_at hkl] at p0
              have hdr : (E g).drop k2 = (E g)[k2] :: (E g).drop (k2 + 1) := List.drop_eq_getElem_cons hkl
              obtain ⟨b, hb⟩ : ∃ q, (E g)[k2] = q := ⟨_, rfl⟩
              have hbN : b < j := by rw [← hb]; exact HEN.out g HGN.out _ (List.getElem_mem hkl)
              have hD := foldl_snoc_take kdec (F1, wt) (E g) k2 hkl
              rw [← HD.out] at hD
              rw [hb] at p0 hdr hD
              have hKd := HK.out
              rw [hdr] at hKd
              obtain ⟨hwp, hKd⟩ := hKd.dec hbN
              obtain ⟨bb, hbb⟩ : ∃ q, L.grp.getD b 0 = q := ⟨_, rfl⟩
              rw [hbb] at p0
              obtain ⟨wb, hwb⟩ : ∃ q, wt2 b = q := ⟨_, rfl⟩
              obtain ⟨ub, hub⟩ : ∃ q, wb - 1 = q := ⟨_, rfl⟩
              have hwm : (mkG ids lst E wt2 b).wt = wb := hwb
              have hbk := (HS.out.gs.at' b hbN).bk
              rw [hbb, hwm] at hbk
              have hkd : kdec (F2, wt2) b = (if ub = 0 then F2 ++ [b] else F2, upG wt2 b ub) := by unfold kdec; simp only; rw [hwb, hub]
              rw [hkd] at hD hKd
              have hws : wb = ub + 1 := by rw [hwb] at hwp; omega
              have hwl : wb ≤ 1000000 := by
                have q := HK.out.wt' b
                have q2 := rem_le (N := j) (fun i => (HB1.out i).1) (out ++ [g]) b
                have q3 : ((E g).drop k2).count b ≤ ((E g).drop k2).length := List.count_le_length
                have q4 := (HB1.out g).1
                rw [List.length_drop] at q3
                have q5 : j * 8000 ≤ 20 * 8000 := Nat.mul_le_mul_right _ HN.out
                omega
              have hsub : IntKind.i64.wrap ((wb : Int) - 1) = (ub : Int) := by rw [IntKind.wrap_i64]; omega
              have hsub2 : wrap64 ((wb : Int) - 1) = (ub : Int) := by unfold wrap64; omega
              have k4 := Bk.cell hbk 4
              have f4 := hbk.fz 4
              have l4 := hbk.lt
              simp only [List.getElem?_cons_zero, List.getElem?_cons_succ] at k4
              have HSw : Hid (LkS W0 m bw web L vw vo (.slice ag j cg) j (mkG ids lst E (upG wt2 b ub)) vi vb1 (wr.setCell ⟨bb, 4, none⟩ (.int .i64 (ub : Int)))) := Lib.hid (by have q := HS.out.wait (n := ub) hbN; rwa [mkG_up, hbb] at q)
              have HFs := Fr.set wr ⟨bb, 4, none⟩ (.int .i64 (ub : Int))
              have HOw := Lib.hid (HFs.own HO.out (fun q hq r => row_far0 HO.out hbk (by decide) (by rw [hq, r])))
              have HRw := Lib.hid (HFs.own HR.out (fun q hq r => row_far0 HR.out hbk (by decide) (by rw [hq, r])))
              obtain ⟨w8, hw8⟩ : ∃ q, wr.setCell ⟨bb, 4, none⟩ (.int .i64 (ub : Int)) = q := ⟨_, rfl⟩
              rw [hw8] at HSw HOw HRw
              have HKd := Lib.hid hKd
              have HDd := Lib.hid hD
              have HBb := Lib.hid hbb
              have HbN := Lib.hid hbN
              clear hat hbo hbl hdr hb hD hKd hwp hwb hub hwm hkd hws hwl hbh HFs hbb hbN HS HO HR HD HK hkl hgb hbk
              go_upto_region 25 with fail
              try rw [hw8]
              clear hw8 p0 k4 f4 l4 hsub hsub2 hk1 hk2' hk3'
              have hbk := (HSw.out.gs.at' b HbN.out).bk
              rw [HBb.out] at hbk
              have hwm : (mkG ids lst E (upG wt2 b ub) b).wt = ub := upG_same _ _ _
              rw [hwm] at hbk
              have k4 := Bk.cell hbk 4
              simp only [List.getElem?_cons_zero, List.getElem?_cons_succ] at k4
              clear hbk hwm
              by_cases hz : ub = 0
              · have hz1 : (ub : Int) = 0 := by omega
                have hz2 : decide ((ub : Int) = 0) = true := decide_eq_true hz1
                have HKd2 : Hid (KI j E ((E g).drop (k2 + 1)) (F2 ++ [b]) (upG wt2 b ub) (out ++ [g])) := Lib.hid (by have q := HKd.out; rwa [if_pos hz] at q)
                have HDd2 : Hid ((F2 ++ [b], upG wt2 b ub) = ((E g).take (k2 + 1)).foldl kdec (F1, wt)) := Lib.hid (by have q := HDd.out; rw [if_pos hz] at q; exact q.symm)
                obtain ⟨a4, c4, ev4⟩ := HOw.out.slice
                obtain ⟨n4, hn4⟩ : ∃ q, (F2.map fun i => L.grp.getD i 0).length = q := ⟨_, rfl⟩
                rw [hn4] at ev4
                subst ev4
                obtain ⟨ba, hba⟩ : ∃ q, w8.heap.size = q := ⟨_, rfl⟩
                obtain ⟨wa, hwa⟩ : ∃ q, w8.alloc (.cells #[.pointer (some ⟨bb, 0, none⟩)] 88) = q := ⟨_, rfl⟩
                have hba2 : Below w8.heap.size w8 wa := by rw [← hwa]; exact (Below.refl _ _).alloc (Nat.le_refl _) _
                have HSa := Lib.hid (HSw.out.below hba2)
                have HRa : Hid (PK.Rd wa (.slice (some ⟨ba, 0, none⟩) 1 1) [bb]) := Lib.hid (by rw [← hwa]; exact PK.rd_boxAt bb _ 1 w8 ba hba)
                have HOa := Lib.hid (HOw.out.below hba2)
                have HRo := Lib.hid (HRw.out.below hba2)
                have T1 : (F2.map fun i => L.grp.getD i 0).length + [bb].length ≤ 1000000 := by
                  have q := len_nat HKd2.out.nd (fun x hx => HKd2.out.lt x hx)
                  have := HN.out
                  simp only [List.length_append, List.length_cons, List.length_nil, List.length_map] at q ⊢
                  omega
                clear hba2 HSw HOw HRw HKd HDd hn4
                go_upto_region 26 with fail
                clear k4 hz1 hz2
                go_upto_region 27 with (first
                  | (refine PK.app2 (by kernel_rfl) (.tmp 95) (.tmp 97) rfl (m + 4) (.slice a4 n4 c4) _ rfl HOa.out ba 1 [bb] rfl HRa.out (by simp) T1 HSa.out.sz ?_; intro v9 w9 ho9 hb9 hg9 hn9; have hf9 : Fr (fun k => (Value.slice a4 n4 c4).ownBlock = some k) wa w9 := (Fr.grown hg9).mono (fun j _ q => q.symm); have HS9 := Lib.hid (HSa.out.row HOa.out hf9 HV.out.1 HV.out.2); have HV9 := Lib.hid (HV.out.next HSa.out hn9); have HR9 := Lib.hid (hf9.own HRo.out (fun q hq r => row_far HRo.out HOa.out (by decide) q hq r)); have HO9 := Lib.hid ho9; clear ho9 hb9 hg9 hn9 hf9 hwa hba)
                  | fail)
                clear HSa HOa HRo HRa
                go_wp2_with fail
                go_roundw
                case rel => exact ⟨k2 + 1, F2 ++ [b], _, by omega, by go_num, HS9, Lib.hid (by rw [List.map_append]; simp only [List.map_cons, List.map_nil, HBb.out]; exact HO9.out), HV9, HR9, HDd2, HKd2⟩
                case measure => simp [intOf]; omega
              · have hz1 : ¬ (ub : Int) = 0 := by omega
                have hz2 : decide ((ub : Int) = 0) = false := decide_eq_false hz1
                have HKd2 : Hid (KI j E ((E g).drop (k2 + 1)) F2 (upG wt2 b ub) (out ++ [g])) := Lib.hid (by have q := HKd.out; rwa [if_neg hz] at q)
                have HDd2 : Hid ((F2, upG wt2 b ub) = ((E g).take (k2 + 1)).foldl kdec (F1, wt)) := Lib.hid (by have q := HDd.out; rw [if_neg hz] at q; exact q.symm)
                clear HKd HDd
                go_wp2_with fail
                go_roundw
                case rel => exact ⟨k2 + 1, F2, _, by omega, by go_num, HSw, HOw, HV, HRw, HDd2, HKd2⟩
                case measure => simp [intOf]; omega
            · obtain rfl : k2 = nb := by omega
              have hk2' : decide ((k2 : Int) < (k2 : Int)) = false := decide_eq_false (by omega)
              have hk3' : decide (k2 < k2) = false := decide_eq_false (by omega)
              have hd2 := HD.out
              rw [List.take_of_length_le (by rw [HNb.out]; exact Nat.le_refl _)] at hd2
              have HKe : Hid ((⟨F2, wt2, out ++ [g]⟩ : KS) = kstep lst E ⟨F, wt, out⟩) := Lib.hid (by rw [HKst.out, ← hd2])
              have HKI : Hid (KI j E [] F2 wt2 (out ++ [g])) := Lib.hid (by have q := HK.out; rwa [List.drop_eq_nil_of_le (by rw [HNb.out]; exact Nat.le_refl _)] at q)
              clear hd2 HD HK HKst
              go_wp2_with fail
              go_roundg (j - (out ++ [g]).length)
              case measure => have h1 := HQ.out; have h2 := HOu.out; have h3 := HNp.out; simp only [List.length_append, List.length_cons, List.length_nil]; omega
              case rel =>
                refine ⟨F2, wt2, out ++ [g], _, HS, HO, HV, HR, HRs7, HKI, Lib.hid (Nat.le_refl _), Lib.hid ?_⟩
                obtain ⟨i, hi⟩ := HI.out
                exact ⟨i + 1, by rw [HKe.out, hi]; rfl⟩
end Go.Proofs.Ytlckjpjcfalfnaa
