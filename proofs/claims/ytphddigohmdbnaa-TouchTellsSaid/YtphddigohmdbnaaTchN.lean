/-
  The walk of package touch's disturbs.
-/
import Derived.Test.YtphddigohmdbnaaTchL
import Derived.Test.YtphddigohmdbnaaTchG
import Derived.WalkSpells
namespace Go.Proofs.Ytphddigohmdbnaa
open Go.RowKit
set_option linter.unusedSimpArgs false
set_option linter.unusedVariables false

/-- A row of cells, appended: whether it is nil or not. -/
theorem run_app2v {w : World} {base b2 : Nat} {v vy : Value} {l ks : List Cl} (hown : Own2 w base v l) (hy : Own2 w b2 vy ks) (hl : l.length + ks.length ≤ 1000000) (hbase : base ≤ w.heap.size) (ty : TypeId) :
    ∃ v' w', (Builtin.append_ #[32, 32] ty #[v, vy]).run Try.prog w = .ok v' w' ∧ Own2 w' base v' (l ++ ks) ∧ Below base w w' ∧ w.heap.size ≤ w'.heap.size := by
  rcases hy.2 with ⟨rfl, h0⟩ | ⟨g, cap, cur, rfl, hg, hh, hn, hm, hs, hx⟩
  · have hk : ks = [] := List.eq_nil_of_length_eq_zero h0
    subst hk
    obtain ⟨i0, hi, hz0, hz1, hz2⟩ := info_parts infoCell
    exact ⟨v, w, run_append_owned_none (P := Try.prog) (w := w) base 32 ty 49 i0 2 Try.underlying32 hi v l.length (vcs l) hown, by simpa using hown, Below.refl _ _, Nat.le_refl _⟩
  · refine run_app2 hown g cap ks (fun j u hj => ?_) hl hbase ty
    have hj2 : j < (vcs ks).length := (List.getElem?_eq_some_iff.1 hj).1
    rw [vcs_len] at hj2
    have e1 : cur[j]? = some u := by
      have h1 : (cur.toList.take (ks.length * 2))[j]? = (vcs ks)[j]? := by rw [hx]
      rw [List.getElem?_take, if_pos (by omega)] at h1
      rw [← Array.getElem?_toList, h1, hj]
    simp [World.cell?, hh, e1]
theorem step_app2v {ops : Array Oper} {o : Oper} {a : Act} {w : World} {K : Act → World → Prop} {Q : Exit → Act → World → Prop} {E : Prop} (hg : o.guard = none) (s x : Operand) (ho : o.op = .call { callee := .builtin .append, args := #[s, x], argTypes := #[32, 32] })
    (base b2 : Nat) (v vy : Value) (l ks : List Cl) (hs : a.eval s = v) (hown : Own2 w base v l) (hx : a.eval x = vy) (hy : Own2 w b2 vy ks)
    (hl : l.length + ks.length ≤ 1000000) (hbase : base ≤ w.heap.size)
    (hK : ∀ v' w', Own2 w' base v' (l ++ ks) → Below base w w' → w.heap.size ≤ w'.heap.size → K (a.put o.dst v') w') :
    if Region.wanted o (yielded ops a.tmps) = true then Oper.wp Try.prog o a w K Q else E := by
  obtain ⟨v', w', hr, q1, q2, q3⟩ := run_app2v hown hy hl hbase o.type
  refine step_value hg v' w' ?_ (hK v' w' q1 q2 q3)
  unfold execOp
  simp only [ho, resolve, invoke, builtin, Sem.run_bind, Sem.run_pure, Result.andThen_ok, List.map_toArray, List.map_cons, List.map_nil, hs, hx, hr]
theorem keep8 {wr w' : World} {b : Nat} {x0 x1 x2 x3 x4 x5 x6 x7 : Value} (hb : b < wr.heap.size) (d0 : wr.cell? ⟨b, 0, none⟩ = some x0) (d1 : wr.cell? ⟨b, 1, none⟩ = some x1) (d2 : wr.cell? ⟨b, 2, none⟩ = some x2) (d3 : wr.cell? ⟨b, 3, none⟩ = some x3) (d4 : wr.cell? ⟨b, 4, none⟩ = some x4) (d5 : wr.cell? ⟨b, 5, none⟩ = some x5) (d6 : wr.cell? ⟨b, 6, none⟩ = some x6) (d7 : wr.cell? ⟨b, 7, none⟩ = some x7) (hB : Below wr.heap.size wr w') :
    w'.cell? ⟨b, 0, none⟩ = some x0 ∧ w'.cell? ⟨b, 1, none⟩ = some x1 ∧ w'.cell? ⟨b, 2, none⟩ = some x2 ∧ w'.cell? ⟨b, 3, none⟩ = some x3 ∧ w'.cell? ⟨b, 4, none⟩ = some x4 ∧ w'.cell? ⟨b, 5, none⟩ = some x5 ∧ w'.cell? ⟨b, 6, none⟩ = some x6 ∧ w'.cell? ⟨b, 7, none⟩ = some x7 ∧ Below wr.heap.size wr w' :=
  ⟨(hB.cell (p := ⟨b, 0, none⟩) hb).trans d0, (hB.cell (p := ⟨b, 1, none⟩) hb).trans d1, (hB.cell (p := ⟨b, 2, none⟩) hb).trans d2, (hB.cell (p := ⟨b, 3, none⟩) hb).trans d3, (hB.cell (p := ⟨b, 4, none⟩) hb).trans d4, (hB.cell (p := ⟨b, 5, none⟩) hb).trans d5, (hB.cell (p := ⟨b, 6, none⟩) hb).trans d6, (hB.cell (p := ⟨b, 7, none⟩) hb).trans d7, hB⟩
theorem Own2.keepB {w w' : World} {base : Nat} {v : Value} {l : List Cl} (h : Own2 w base v l) (hk : ∀ k, v.ownBlock = some k → w'.heap[k]? = w.heap[k]?) : Own2 w' base v l := by
  obtain ⟨h1, h2⟩ := h
  refine ⟨h1, ?_⟩
  rcases h2 with h2 | ⟨g, cap, cur, hv, hg, hh, hr⟩
  · exact .inl h2
  · exact .inr ⟨g, cap, cur, hv, hg, (hk g (by rw [hv]; rfl)).trans hh, hr⟩
set_option maxRecDepth 100000 in
set_option maxHeartbeats 4000000 in
theorem disturbs_try (c1 s1 o1 : Int) (p1 x1 : ByteArray) (n1 a1 b1 : Int) (c2 s2 o2 : Int) (p2 x2 : ByteArray) (n2 a2 b2 : Int) (w : World) (hp1 : p1.size ≤ 1000) (hp2 : p2.size ≤ 1000) (hm : ML w) :
    Calls Try.prog 31 #[.agg #[.int .i64 c1, .int .i64 s1, .int .i64 o1, .string p1, .string x1, .int .i64 n1, .int .i64 a1, .int .i64 b1], .agg #[.int .i64 c2, .int .i64 s2, .int .i64 o2, .string p2, .string x2, .int .i64 n2, .int .i64 a2, .int .i64 b2]] w
      fun e w' => e = .returned (.bool (dst o1 p1 o2 p2)) ∧ Below w.heap.size w w' := by
  have HM := Lib.hid hm
  have hmm := @run_makeMap Try.prog
  obtain ⟨W0, hW0⟩ : ∃ W0, (((w.alloc (.cells #[.int .i64 c1, .int .i64 s1, .int .i64 o1, .string p1, .string x1, .int .i64 n1, .int .i64 a1, .int .i64 b1] 24)).alloc (.cells #[.int .i64 c2, .int .i64 s2, .int .i64 o2, .string p2, .string x2, .int .i64 n2, .int .i64 a2, .int .i64 b2] 24)).alloc (.map #[] 0)) = W0 := ⟨_, rfl⟩
  have hz0 : W0.heap.size = w.heap.size + 3 := by rw [← hW0]; simp
  have hBW : Below w.heap.size w W0 := by rw [← hW0]; exact (((Below.refl _ _).alloc (Nat.le_refl _) _).alloc (by simp) _).alloc (by simp; omega) _
  have HZ0 := Lib.hid hz0
  have HBW := Lib.hid hBW
  have cW := writes_any c1 s1 o1 p1 x1 n1 a1 b1 W0 hp1 (hm.below hBW)
  have HW0 := Lib.hid hW0
  clear hm hz0 hBW hW0
  go_enter Try.func31, Try.ntmps31
  go_wp2_with fail
  rw [HW0.out]
  refine cW.mono ?_
  rintro e w1 ⟨v1, he, ho1, hb1⟩
  subst he
  obtain ⟨ad1, cc1, e1⟩ := ho1.slice
  obtain ⟨N, hN⟩ : ∃ N, (wrs o1 p1).length = N := ⟨_, rfl⟩
  rw [hN] at e1
  subst e1
  have HO1 := Lib.hid ho1
  have HB1 := Lib.hid hb1
  have HN := Lib.hid hN
  clear ho1 hb1 hN cW hmm
  go_wp2_with fail
  have hm1 : w1.ownsMap (H := Unit) Try.prog 49 unitElem (w.heap.size + 1 + 1) 0 (cset ((wrs o1 p1).take 0)) := by
    have h0 : W0.ownsMap (H := Unit) Try.prog 49 unitElem (w.heap.size + 1 + 1) 0 (.map []) := by
      rw [← HW0.out]
      have := World.ownsMap_made (H := Unit) ((w.alloc (.cells #[.int .i64 c1, .int .i64 s1, .int .i64 o1, .string p1, .string x1, .int .i64 n1, .int .i64 a1, .int .i64 b1] 24)).alloc (.cells #[.int .i64 c2, .int .i64 s2, .int .i64 o2, .string p2, .string x2, .int .i64 n2, .int .i64 a2, .int .i64 b2] 24)) Try.prog 49 unitElem
      simpa using this
    exact h0.kept (row := none) ⟨HB1.out.os, HB1.out.tape, HB1.out.output, HB1.out.size, fun k hk _ => HB1.out.block k hk⟩ (by simp)
  have HM1 := Lib.hid hm1
  have HB1' : Hid (Below (w.heap.size + 2) W0 w1) := Lib.hid (HB1.out.mono (by rw [HZ0.out]; omega))
  clear hm1
  go_loopw [16] (fun i wr => ∃ k : Nat, k ≤ N ∧ i = .int .i64 k ∧ Hid (wr.ownsMap (H := Unit) Try.prog 49 unitElem (w.heap.size + 1 + 1) k (cset ((wrs o1 p1).take k))) ∧ Hid (Own2 wr W0.heap.size (.slice ad1 N cc1) (wrs o1 p1)) ∧ Hid (Below (w.heap.size + 2) W0 wr)) (fun i _ => N - (intOf i).toNat)
  case atStart => exact ⟨0, Nat.zero_le _, rfl, HM1, HO1, HB1'⟩
  case round =>
    clear HM1 HB1'
    obtain ⟨k, hk, rfl, hMp, hRow, hB⟩ := hrel
    by_cases hlt : k < N
    · have hlt' : (k : Int) < (N : Int) := by omega
      have hltL : k < (wrs o1 p1).length := by rw [HN.out]; exact hlt
      have hok := wrs_ok (op := o1) hp1
      obtain ⟨g, cg, eg, hgl, _, hcl⟩ := hRow.out.cells (by intro h; rw [h] at hltL; simp at hltL)
      have hgb : W0.heap.size ≤ g := own2_from hRow.out g (by rw [eg]; rfl)
      have q1 := hcl _ _ (vcs_at (wrs o1 p1) k hltL).1
      have q2 := hcl _ _ (vcs_at (wrs o1 p1) k hltL).2
      obtain ⟨X, hX⟩ : ∃ X, (wrs o1 p1).getD k (ByteArray.empty, 0) = X := ⟨_, rfl⟩
      have hXm : X ∈ wrs o1 p1 := by rw [← hX]; simp [List.getD, hltL]
      have hkey := kf_key (hok X hXm)
      rw [hX] at q1 q2
      simp only [Value.slice.injEq] at eg
      obtain ⟨e2, e5, e3⟩ := eg
      subst e2
      clear e5
      have HXE := Lib.hid hX
      have HKEY := Lib.hid hkey
      clear hcl hX hXm hkey e3 hok
      have HTK : Hid ((wrs o1 p1).take k ++ [X] = (wrs o1 p1).take (k + 1)) := Lib.hid (by
        rw [List.take_succ_eq_append_getElem hltL, ← HXE.out]
        simp [List.getD, hltL])
      have hN3 := wrs_len o1 p1
      rw [HN.out] at hN3
      have hkm : k < maxLen := by unfold maxLen; omega
      have hkb : (k : Int) ≤ 10 := by omega
      go_wp2_with (at_mapUpdate; refine wpList_mapUpdate_own _ rfl _ _ _ 78 rfl 49 79 cellLaw Try.underlying78 unitElem (w.heap.size + 1 + 1) k _ rfl (hMp.out.alloc _) hkm _ _ (kf X) rfl rfl HKEY.out (.agg []) [] unitElem_mk ?_)
      intro w6 hown6 hg6
      have hown7 : w6.ownsMap (H := Unit) Try.prog 49 unitElem (w.heap.size + 1 + 1) (k + 1) (cset ((wrs o1 p1).take (k + 1))) := by
        unfold cset
        rw [← HTK.out, List.map_append, List.map_cons, List.map_nil, Maps.setOf_snoc]
        exact hown6
      have HOWN7 := Lib.hid hown7
      have hzr := hB.out.size
      have hrow7 : Own2 w6 W0.heap.size (.slice (some ⟨g, 0, none⟩) N cc1) (wrs o1 p1) := by
        refine (hRow.out.below ((Below.refl _ _).alloc (Nat.le_refl _) (.cells #[.string X.1, .int .u8 X.2] 49))).keepB fun j hj => hg6.block j ?_ ?_
        · simp [Value.ownBlock] at hj; subst hj; simp; omega
        · simp [Value.ownBlock] at hj; subst hj
          have := HZ0.out
          intro hc
          simp only [Option.some.injEq] at hc
          omega
      have HROW7 := Lib.hid hrow7
      have hB7 : Below (w.heap.size + 2) W0 w6 := by
        have h1 : Below (w.heap.size + 2) W0 (wr.alloc (.cells #[.string X.1, .int .u8 X.2] 49)) := hB.out.alloc (by have := HZ0.out; omega) _
        exact h1.grown hg6 (by simp; have := HZ0.out; omega) (fun j hj => by simp only [Option.some.injEq] at hj; omega)
      have HB7 := Lib.hid hB7
      clear hown6 hg6 hown7 hrow7 hB7 hMp hRow hB
      go_wp2
      go_roundw
      case rel => exact ⟨k + 1, by omega, by go_num, HOWN7, HROW7, HB7⟩
      case measure => simp [intOf]; omega
    · obtain rfl : k = N := by omega
      have hMp' := hMp.out
      rw [← HN.out, List.take_length, HN.out] at hMp'
      have HMP := Lib.hid hMp'
      clear hMp hMp'
      have hlen : (rds o2 p2).length + (wrs o2 p2).length ≤ 1000000 := by have := rds_len o2 p2; have := wrs_len o2 p2; omega
      obtain ⟨M, hM⟩ : ∃ M, (rds o2 p2 ++ wrs o2 p2).length = M := ⟨_, rfl⟩
      have HLM := Lib.hid hM
      have hMl : M ≤ 5 := by rw [← hM, List.length_append]; have := rds_len o2 p2; have := wrs_len o2 p2; omega
      clear hM
      have hzr := hB.out.size
      have hzb : w.heap.size + 1 < wr.heap.size := by have := HZ0.out; omega
      have d0 : wr.cell? ⟨w.heap.size + 1, 0, none⟩ = some (.int .i64 c2) := (hB.out.cell (p := ⟨w.heap.size + 1, 0, none⟩) (by dsimp only; omega)).trans (by rw [← HW0.out]; simp [go_sem])
      have d1 : wr.cell? ⟨w.heap.size + 1, 1, none⟩ = some (.int .i64 s2) := (hB.out.cell (p := ⟨w.heap.size + 1, 1, none⟩) (by dsimp only; omega)).trans (by rw [← HW0.out]; simp [go_sem])
      have d2 : wr.cell? ⟨w.heap.size + 1, 2, none⟩ = some (.int .i64 o2) := (hB.out.cell (p := ⟨w.heap.size + 1, 2, none⟩) (by dsimp only; omega)).trans (by rw [← HW0.out]; simp [go_sem])
      have d3 : wr.cell? ⟨w.heap.size + 1, 3, none⟩ = some (.string p2) := (hB.out.cell (p := ⟨w.heap.size + 1, 3, none⟩) (by dsimp only; omega)).trans (by rw [← HW0.out]; simp [go_sem])
      have d4 : wr.cell? ⟨w.heap.size + 1, 4, none⟩ = some (.string x2) := (hB.out.cell (p := ⟨w.heap.size + 1, 4, none⟩) (by dsimp only; omega)).trans (by rw [← HW0.out]; simp [go_sem])
      have d5 : wr.cell? ⟨w.heap.size + 1, 5, none⟩ = some (.int .i64 n2) := (hB.out.cell (p := ⟨w.heap.size + 1, 5, none⟩) (by dsimp only; omega)).trans (by rw [← HW0.out]; simp [go_sem])
      have d6 : wr.cell? ⟨w.heap.size + 1, 6, none⟩ = some (.int .i64 a2) := (hB.out.cell (p := ⟨w.heap.size + 1, 6, none⟩) (by dsimp only; omega)).trans (by rw [← HW0.out]; simp [go_sem])
      have d7 : wr.cell? ⟨w.heap.size + 1, 7, none⟩ = some (.int .i64 b2) := (hB.out.cell (p := ⟨w.heap.size + 1, 7, none⟩) (by dsimp only; omega)).trans (by rw [← HW0.out]; simp [go_sem])
      have HBR : Hid (Below w.heap.size w wr) := Lib.hid (HBW.out.trans (hB.out.mono (by omega)))
      have hzw := HBR.out.size
      go_wp2_with fail
      go_region_held3 (fun w' => w'.cell? ⟨w.heap.size + 1, 0, none⟩ = some (.int .i64 c2) ∧ w'.cell? ⟨w.heap.size + 1, 1, none⟩ = some (.int .i64 s2) ∧ w'.cell? ⟨w.heap.size + 1, 2, none⟩ = some (.int .i64 o2) ∧ w'.cell? ⟨w.heap.size + 1, 3, none⟩ = some (.string p2) ∧ w'.cell? ⟨w.heap.size + 1, 4, none⟩ = some (.string x2) ∧ w'.cell? ⟨w.heap.size + 1, 5, none⟩ = some (.int .i64 n2) ∧ w'.cell? ⟨w.heap.size + 1, 6, none⟩ = some (.int .i64 a2) ∧ w'.cell? ⟨w.heap.size + 1, 7, none⟩ = some (.int .i64 b2) ∧ Below wr.heap.size wr w')
        (first
          | exact keep8 hzb d0 d1 d2 d3 d4 d5 d6 d7 (Below.refl _ _).drew
          | (go_split_ands; exact keep8 hzb d0 d1 d2 d3 d4 d5 d6 d7 (by assumption)))
        (first
          | (go_at_call 12; go_split_ands; refine (reads_any _ _ _ _ _ _ _ _ _ hp2 (HM.out.below (HBR.out.trans (Below.mono (by assumption) hzw)))).mono ?_; rintro e w7 ⟨v7, he, ho7, hb7⟩; subst he; have hS7 : Below wr.heap.size wr w7 := below_self (by assumption) hb7; have ho7b := ho7.base (show wr.heap.size ≤ _ from Below.size (by assumption)))
          | (go_at_call 13; go_split_ands; refine (writes_any _ _ _ _ _ _ _ _ _ hp2 (HM.out.below (HBR.out.trans (Below.mono (by assumption) hzw)))).mono ?_; rintro e w8 ⟨v8, he, ho8, hb8⟩; subst he; have hS8 : Below wr.heap.size wr w8 := below_self (by assumption) hb8; have ho7c := ho7b.below (show Below w7.heap.size w7 w8 from hb8))
          | (have hx8 := ho7c; clear hx8; go_split_ands; refine step_app2v rfl (.tmp 25) (.tmp 27) rfl wr.heap.size _ _ _ (rds o2 p2) (wrs o2 p2) rfl ho7c rfl ho8 hlen (Below.size hS8) ?_; intro v9 w9 ho9 hb9 hz9; have hS9 := hS8.trans hb9; obtain ⟨a9, q9, e9⟩ := ho9.slice; rw [HLM.out] at e9; subst e9))
      go_split_ands
      go_wp2_with fail
      have hm9 : w9.ownsMap (H := Unit) Try.prog 49 unitElem (w.heap.size + 1 + 1) k (cset (wrs o1 p1)) := HMP.out.kept (row := none) ⟨hS9.os, hS9.tape, hS9.output, hS9.size, fun j hj _ => hS9.block j hj⟩ (by simp)
      have HM9 := Lib.hid hm9
      have HO9 := Lib.hid ho9
      have HB9 : Hid (Below w.heap.size w w9) := Lib.hid (HBR.out.trans (hS9.mono hzw))
      have hok1 := wrs_ok (op := o1) hp1
      have hok2 : ∀ c ∈ rds o2 p2 ++ wrs o2 p2, okC c := by
        intro c hc
        rcases List.mem_append.1 hc with h | h
        · exact rds_ok hp2 c h
        · exact wrs_ok hp2 c h
      have HK1 := Lib.hid hok1
      have HK2 := Lib.hid hok2
      have hdst : dst o1 p1 o2 p2 = (rds o2 p2 ++ wrs o2 p2).any (fun x => memB x (wrs o1 p1)) := rfl
      have HDST := Lib.hid hdst
      obtain ⟨L2, hL2⟩ : ∃ L2, rds o2 p2 ++ wrs o2 p2 = L2 := ⟨_, rfl⟩
      rw [hL2] at HLM HO9 HK2 HDST
      have zeroU : ∀ w, (zeroValue 79).run Try.prog w = .ok (.agg #[]) w := fun w => by kernel_rfl
      have HZU := Lib.hid zeroU
      clear hm9 ho9 hok1 hok2 hdst hL2 zeroU hS9 hb9 hz9 ho7 ho7b ho7c ho8 hS7 hS8 hb7 hb8 d0 d1 d2 d3 d4 d5 d6 d7 HMP hRow hB
      go_loopw [30] (fun i wr => ∃ j : Nat, j ≤ M ∧ i = .int .i64 j ∧ Hid (Below w9.heap.size w9 wr) ∧ Hid (∀ q, q < j → memB (L2.getD q (ByteArray.empty, 0)) (wrs o1 p1) = false)) (fun i _ => M - (intOf i).toNat)
      case atStart => exact ⟨0, Nat.zero_le _, rfl, Lib.hid (Below.refl _ _), Lib.hid (fun q h => by omega)⟩
      case round =>
        obtain ⟨j, hj, rfl, hB2, hF⟩ := hrel
        by_cases hlt2 : j < M
        · have hlt2' : (j : Int) < (M : Int) := by omega
          have hltL2 : j < L2.length := by rw [HLM.out]; exact hlt2
          have hrow2 := HO9.out.below hB2.out
          obtain ⟨g2, cg2, eg2, hgl2, _, hcl2⟩ := hrow2.cells (by intro h; rw [h] at hltL2; simp at hltL2)
          have q1 := hcl2 _ _ (vcs_at L2 j hltL2).1
          have q2 := hcl2 _ _ (vcs_at L2 j hltL2).2
          obtain ⟨X, hX⟩ : ∃ X, L2.getD j (ByteArray.empty, 0) = X := ⟨_, rfl⟩
          have hXm : X ∈ L2 := by rw [← hX]; simp [List.getD, hltL2]
          have hkey := kf_key (HK2.out X hXm)
          have hhas := has_cells (H := Unit) (wrs o1 p1) X HK1.out (HK2.out X hXm)
          have hmp2 : _root_.Go.World.ownsMap (H := Unit) wr Try.prog 49 unitElem (w.heap.size + 1 + 1) k (cset (wrs o1 p1)) := HM9.out.kept (row := none) ⟨hB2.out.os, hB2.out.tape, hB2.out.output, hB2.out.size, fun j hj _ => hB2.out.block j hj⟩ (by simp)
          have HMP2 := Lib.hid hmp2
          rw [hX] at q1 q2
          simp only [Value.slice.injEq] at eg2
          obtain ⟨e2, e5, e3⟩ := eg2
          subst e2
          have HXE := Lib.hid hX
          have HKEY := Lib.hid hkey
          have hjb : (j : Int) ≤ 10 := by omega
          cases hmb : memB X (wrs o1 p1) with
          | true =>
            rw [hmb] at hhas
            have HH := Lib.hid hhas
            have hdt : dst o1 p1 o2 p2 = true := by
              rw [HDST.out, List.any_eq_true]
              exact ⟨X, hXm, hmb⟩
            have HDT := Lib.hid hdt
            clear e5 e3 hcl2 hX hXm hkey hmp2 hrow2 hhas hmb hdt
            go_wp2_with (at_lookup; refine wpList_lookup_own_unit _ rfl _ _ 78 rfl 49 79 cellLaw Try.underlying78 (HZU.out _) (w.heap.size + 1 + 1) k _ rfl (HMP2.out.alloc _) _ _ rfl HKEY.out ?_; rw [HH.out])
            go_ret
            exact ⟨by rw [HDT.out]; rfl, HB9.out.trans ((((hB2.out.alloc (hB2.out.size) _).alloc (by simp; have := hB2.out.size; omega) _)).mono (HB9.out.size))⟩
          | false =>
            rw [hmb] at hhas
            have HH := Lib.hid hhas
            have HF2 : Hid (∀ q, q < j + 1 → memB (L2.getD q (ByteArray.empty, 0)) (wrs o1 p1) = false) := Lib.hid (by
              intro q hq
              by_cases hqj : q = j
              · subst hqj; rw [hX]; exact hmb
              · exact hF.out q (by omega))
            clear e5 e3 hcl2 hX hXm hkey hmp2 hrow2 hhas hmb
            go_wp2_with (at_lookup; refine wpList_lookup_own_unit _ rfl _ _ 78 rfl 49 79 cellLaw Try.underlying78 (HZU.out _) (w.heap.size + 1 + 1) k _ rfl (HMP2.out.alloc _) _ _ rfl HKEY.out ?_; rw [HH.out])
            go_roundw
            case rel => exact ⟨j + 1, by omega, by go_num, Lib.hid (((hB2.out.alloc (hB2.out.size) _).alloc (by simp; have := hB2.out.size; omega) _)), HF2⟩
            case measure => simp [intOf]; omega
        · obtain rfl : j = M := by omega
          have hdf : dst o1 p1 o2 p2 = false := by
            rw [HDST.out, Bool.eq_false_iff]
            intro hc
            rw [List.any_eq_true] at hc
            obtain ⟨X, hX, hm⟩ := hc
            obtain ⟨q, hq, rfl⟩ := List.getElem_of_mem hX
            have := hF.out q (by rw [← HLM.out]; exact hq)
            simp only [List.getD, List.getElem?_eq_getElem hq, Option.getD_some] at this
            rw [hm] at this
            cases this
          have HDF := Lib.hid hdf
          clear hdf
          go_wp2
          go_ret
          exact ⟨by rw [HDF.out]; rfl, HB9.out.trans (hB2.out.mono HB9.out.size)⟩
end Go.Proofs.Ytphddigohmdbnaa
