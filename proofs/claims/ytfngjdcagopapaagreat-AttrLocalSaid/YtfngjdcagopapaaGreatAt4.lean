/-
  The walks of package attr's Valid.
-/
import Derived.Test.YtfngjdcagopapaaGreatAt3
namespace Go.Proofs.YtfngjdcagopapaaGreat
open Go.RowKit
set_option linter.unusedSimpArgs false
set_option linter.unusedVariables false
set_option maxRecDepth 100000

theorem vldI3_eq (x : I3) : vldI3 x = vldI x := rfl
/-- The instance that an attribute is of, in its box. -/
def IdBox (w : World) (g : Nat) (id : I3) : Prop := Bk w g 24 (idE id)
theorem idBox_cells {w : World} {g : Nat} {i1 i2 i3 : Int} (h : IdBox w g (i1, i2, i3)) : w.cell? ⟨g, 0, none⟩ = some (.int .i64 i1) ∧ w.cell? ⟨g, 1, none⟩ = some (.int .i64 i2) ∧ w.cell? ⟨g, 2, none⟩ = some (.int .i64 i3) := ⟨h.cell 0, h.cell 1, h.cell 2⟩
set_option maxHeartbeats 1000000 in
theorem aodd_any (g : Nat) (i1 i2 i3 x1 x2 x3 : Int) (w : World) (h : IdBox w g (i1, i2, i3)) :
    Calls Tryz.prog 25 #[.agg #[.int .i64 x1, .int .i64 x2, .int .i64 x3], .pointer (some ⟨g, 0, none⟩)] w fun e w' => e = .returned (.bool (oddA (i1, i2, i3) (x1, x2, x3))) ∧ Below w.heap.size w w' := by
  have hlt := h.lt
  have H := Lib.hid h
  have HV := Lib.hid (valid_any x1 x2 x3 (w.alloc (.cells #[.int .i64 x1, .int .i64 x2, .int .i64 x3] 24)))
  unfold oddA
  rw [vldI3_eq]
  obtain ⟨V, hV⟩ : ∃ V, vldI (x1, x2, x3) = V := ⟨_, rfl⟩
  rw [hV] at HV ⊢
  simp only
  clear h hV
  cases V with
  | false =>
    simp only [Bool.not_false, Bool.true_or]
    go_enter Tryz.func25, Tryz.ntmps25
    go_wp2_with fail
    refine HV.out.mono ?_
    rintro e w1 ⟨rfl, hb⟩
    have HB := Lib.hid ((al1 _ _).trans (hb.below.mono (by simp)))
    clear hb
    go_wp2
    go_ret
    exact ⟨rfl, HB.out⟩
  | true =>
    simp only [Bool.not_true, Bool.false_or]
    obtain ⟨he, hgd⟩ := eqI_run x1 x2 x3 i1 i2 i3
    cases g1 : (x1 == i1) with
    | false =>
      have e1 : decide (x1 = i1) = false := by simpa using g1
      have g2 : (x1 != i1) = true := by simpa using g1
      simp only [e1, Bool.not_false, Bool.true_or]
      clear he hgd e1
      go_enter Tryz.func25, Tryz.ntmps25
      go_wp2_with fail
      refine HV.out.mono ?_
      rintro e w1 ⟨rfl, hb⟩
      have HB := Lib.hid ((al1 w (.cells #[.int .i64 x1, .int .i64 x2, .int .i64 x3] 24)).trans (hb.below.mono (by simp)))
      have b1 : Bk w1 w.heap.size 24 _ := Bk.below (Bk.newAt rfl _ _) hb.below
      have b2 : IdBox w1 g (i1, i2, i3) := H.out.below HB.out
      obtain ⟨q0, q1, q2⟩ := idBox_cells b2
      have p0 := b1.cell 0
      have p1 := b1.cell 1
      have p2 := b1.cell 2
      simp only [List.getElem?_cons_zero, List.getElem?_cons_succ] at p0 p1 p2
      clear hb b1 b2
      go_wp2
      go_ret
      exact ⟨rfl, HB.out⟩
    | true =>
      have e1 : decide (x1 = i1) = true := by simpa using g1
      have g2 : (x1 != i1) = false := by simp at g1; simp [g1]
      simp only [e1, Bool.not_true, Bool.false_or]
      obtain ⟨D, hD⟩ : ∃ D, decide (((x1, x2, x3) : I3) = (i1, i2, i3)) = D := ⟨_, rfl⟩
      rw [hD] at he ⊢
      clear e1 hD
      go_enter Tryz.func25, Tryz.ntmps25
      go_wp2_with fail
      refine HV.out.mono ?_
      rintro e w1 ⟨rfl, hb⟩
      have HB := Lib.hid ((al1 w (.cells #[.int .i64 x1, .int .i64 x2, .int .i64 x3] 24)).trans (hb.below.mono (by simp)))
      have b1 : Bk w1 w.heap.size 24 _ := Bk.below (Bk.newAt rfl _ _) hb.below
      have b2 : IdBox w1 g (i1, i2, i3) := H.out.below HB.out
      obtain ⟨q0, q1, q2⟩ := idBox_cells b2
      have p0 := b1.cell 0
      have p1 := b1.cell 1
      have p2 := b1.cell 2
      simp only [List.getElem?_cons_zero, List.getElem?_cons_succ] at p0 p1 p2
      clear hb b1 b2
      go_wp2
      go_ret
      exact ⟨rfl, HB.out⟩
set_option maxHeartbeats 1000000 in
theorem indexOdd_any (g : Nat) (i1 i2 i3 : Int) (v : Value) (l : List I3) (w : World) (hg : IdBox w g (i1, i2, i3)) (h : IK.Rd w v l) (hl : l.length ≤ 10000) :
    Calls Tryz.prog 41 #[v, .func (.func 25) #[] #[.pointer (some ⟨g, 0, none⟩)]] w fun e w' => ∃ r : Int, Hid (e = .returned (.int .i64 r)) ∧ (0 ≤ r ↔ l.any (oddA (i1, i2, i3)) = true) ∧ Below w.heap.size w w' := by
  obtain ⟨a, c, e⟩ := h.slice
  subst e
  obtain ⟨N, hN⟩ : ∃ N, l.length = N := ⟨_, rfl⟩
  rw [hN] at h hl ⊢
  have HN := Lib.hid hN
  have HRD := Lib.hid h
  have HG := Lib.hid hg
  clear h hg hN
  go_enter Tryz.func41, Tryz.ntmps41
  go_wp2_with fail
  go_loopw [8] (fun i wr => ∃ k : Nat, k ≤ N ∧ i = .int .i64 k ∧ Hid (Below w.heap.size w wr) ∧ Hid (∀ j, j < k → oddA (i1, i2, i3) (l.getD j (0, 0, 0)) = false)) (fun i _ => N - (intOf i).toNat)
  case atStart => exact ⟨0, Nat.zero_le _, rfl, Lib.hid (Below.refl _ _), Lib.hid (fun j hj => by omega)⟩
  case round =>
    obtain ⟨k, hk, rfl, hB, hF⟩ := hrel
    by_cases hlt : k < N
    · have hlt' : (k : Int) < (N : Int) := by omega
      have hkb : (k : Int) ≤ 10000 := by omega
      obtain ⟨e0, g2, off2, hda, hg2, q1, q2, q3, hjl⟩ := idCell (HRD.out.below hB.out) k hlt
      obtain ⟨⟨y1, y2, y3⟩, hX⟩ : ∃ X, l.getD k (0, 0, 0) = X := ⟨_, rfl⟩
      rw [hX] at q1 q2 q3
      have HX := Lib.hid hX
      have HXM := Lib.hid (getD_mem hX hjl)
      subst hda
      have HO := Lib.hid (aodd_any g i1 i2 i3 y1 y2 y3 wr (HG.out.below hB.out))
      obtain ⟨R, hR⟩ : ∃ R, oddA (i1, i2, i3) (y1, y2, y3) = R := ⟨_, rfl⟩
      rw [hR] at HO
      have HR := Lib.hid hR
      clear hX hjl e0 hR
      cases R with
      | true =>
        go_wp2_with fail
        refine HO.out.mono ?_
        rintro e w1 ⟨rfl, hb⟩
        have HB := Lib.hid (below_self2 hB.out hb)
        clear hb hB
        go_wp2
        go_ret
        exact ⟨(k : Int), Lib.hid rfl, ⟨fun _ => by rw [List.any_eq_true]; exact ⟨_, HXM.out, HR.out⟩, fun _ => by omega⟩, HB.out⟩
      | false =>
        go_wp2_with fail
        refine HO.out.mono ?_
        rintro e w1 ⟨rfl, hb⟩
        have HB := Lib.hid (below_self2 hB.out hb)
        clear hb hB
        have HF2 : Hid (∀ j, j < k + 1 → oddA (i1, i2, i3) (l.getD j (0, 0, 0)) = false) := Lib.hid (fun j hj => by
          by_cases e : j = k
          · subst e; rw [HX.out]; exact HR.out
          · exact hF.out j (by omega))
        go_wp2
        go_roundw
        case rel => exact ⟨k + 1, by omega, by go_num, HB, HF2⟩
        case measure => simp [intOf]; omega
    · obtain rfl : k = N := by omega
      go_wp2
      go_ret
      refine ⟨-1, Lib.hid rfl, ⟨fun q => by omega, fun q => ?_⟩, hB.out⟩
      rw [List.any_eq_true] at q
      obtain ⟨x, hx, hq⟩ := q
      obtain ⟨j, hj, e⟩ := List.getElem_of_mem hx
      have := hF.out j (by rw [← HN.out]; exact hj)
      rw [List.getD, List.getElem?_eq_getElem hj, Option.getD_some, e, hq] at this
      cases this
set_option maxHeartbeats 1000000 in
theorem containsOdd_any (g : Nat) (i1 i2 i3 : Int) (v : Value) (l : List I3) (w : World) (hg : IdBox w g (i1, i2, i3)) (h : IK.Rd w v l) (hl : l.length ≤ 10000) :
    Calls Tryz.prog 27 #[v, .func (.func 25) #[] #[.pointer (some ⟨g, 0, none⟩)]] w fun e w' => e = .returned (.bool (l.any (oddA (i1, i2, i3)))) ∧ Below w.heap.size w w' := by
  have HC := Lib.hid (indexOdd_any g i1 i2 i3 v l w hg h hl)
  obtain ⟨a, c, e⟩ := h.slice
  obtain ⟨N, hN⟩ : ∃ N, l.length = N := ⟨_, rfl⟩
  rw [hN] at e
  subst e
  obtain ⟨R, hR⟩ : ∃ R, l.any (oddA (i1, i2, i3)) = R := ⟨_, rfl⟩
  rw [hR] at HC ⊢
  clear h hg hR hN
  go_enter Tryz.func27, Tryz.ntmps27
  go_wp2_with fail
  refine HC.out.mono ?_
  rintro e w1 ⟨r, he, hr, hb⟩
  have he := he.out
  subst he
  have HB := Lib.hid hb
  have hd : decide (0 ≤ r) = R := by cases R <;> simp_all
  clear hb hr
  go_wp2
  go_ret
  exact ⟨ret_bool (by simp), HB.out⟩
set_option maxHeartbeats 2000000 in
theorem avalid_any (i1 i2 i3 s : Int) (v : Value) (l : List I3) (w : World) (h : IK.Rd w v l) (hl : l.length ≤ 10000) :
    Calls Tryz.prog 11 #[.agg #[.int .i64 i1, .int .i64 i2, .int .i64 i3], .agg #[.int .i64 s, v]] w fun e w' => e = .returned (.bool (vldA (i1, i2, i3) (s, l))) ∧ Below w.heap.size w w' := by
  have HRT : Hid (∀ W, Below w.heap.size w W → Calls Tryz.prog 24 #[v] W fun e w' => e = .returned (.bool (rgtI l)) ∧ Below W.heap.size W w') := Lib.hid (fun W hb => right_any v l W (h.below hb) hl)
  have HCO : Hid (∀ (W : World) (g : Nat), Below w.heap.size w W → IdBox W g (i1, i2, i3) → Calls Tryz.prog 27 #[v, .func (.func 25) #[] #[.pointer (some ⟨g, 0, none⟩)]] W fun e w' => e = .returned (.bool (l.any (oddA (i1, i2, i3)))) ∧ Below W.heap.size W w') := Lib.hid (fun W g hb hg => containsOdd_any g i1 i2 i3 v l W hg (h.below hb) hl)
  obtain ⟨a, c, e⟩ := h.slice
  obtain ⟨N, hN⟩ : ∃ N, l.length = N := ⟨_, rfl⟩
  rw [hN] at e hl
  subst e
  have hv : vldA (i1, i2, i3) (s, l) = (decide (0 ≤ s) && decide (s ≤ 1099511627776) && decide (N ≤ 1024) && rgtI l && !l.any (oddA (i1, i2, i3))) := by unfold vldA; simp only; rw [hN]
  rw [hv]
  clear h hN hv
  by_cases g1 : s < 0
  · have e1 : decide (0 ≤ s) = false := by simp; omega
    have f1 : decide (s < 0) = true := decide_eq_true g1
    simp only [e1, Bool.false_and]
    clear HRT HCO
    go_enter Tryz.func11, Tryz.ntmps11
    go_wp2
    go_ret
    exact ⟨rfl, al2 _ _ _⟩
  · have e1 : decide (0 ≤ s) = true := by simp; omega
    have f1 : decide (s < 0) = false := decide_eq_false g1
    by_cases g2 : (1099511627776 : Int) < s
    · have e2 : decide (s ≤ 1099511627776) = false := by simp; omega
      have f2 : decide ((1099511627776 : Int) < s) = true := decide_eq_true g2
      simp only [e1, e2, Bool.false_and, Bool.and_false]
      clear HRT HCO
      go_enter Tryz.func11, Tryz.ntmps11
      go_wp2
      go_ret
      exact ⟨rfl, al2 _ _ _⟩
    · have e2 : decide (s ≤ 1099511627776) = true := by simp; omega
      have f2 : decide ((1099511627776 : Int) < s) = false := decide_eq_false g2
      by_cases g3 : 1024 < N
      · have e3 : decide (N ≤ 1024) = false := by simp; omega
        have f3 : decide ((1024 : Int) < (N : Int)) = true := decide_eq_true (by omega)
        have f4 : decide (1024 < N) = true := decide_eq_true g3
        simp only [e1, e2, e3, Bool.false_and, Bool.and_false]
        clear HRT HCO
        go_enter Tryz.func11, Tryz.ntmps11
        go_wp2
        go_ret
        exact ⟨rfl, al2 _ _ _⟩
      · have e3 : decide (N ≤ 1024) = true := by simp; omega
        have f3 : decide ((1024 : Int) < (N : Int)) = false := decide_eq_false (by omega)
        have f4 : decide (1024 < N) = false := decide_eq_false g3
        obtain ⟨R, hR⟩ : ∃ R, rgtI l = R := ⟨_, rfl⟩
        obtain ⟨O, hO⟩ : ∃ O, l.any (oddA (i1, i2, i3)) = O := ⟨_, rfl⟩
        rw [hR] at HRT ⊢
        rw [hO] at HCO ⊢
        simp only [e1, e2, e3, Bool.true_and]
        clear hR hO e1 e2 e3
        cases R with
        | false =>
          simp only [Bool.false_and]
          clear HCO
          go_enter Tryz.func11, Tryz.ntmps11
          go_wp2_with fail
          refine (HRT.out _ (al2 _ _ _)).mono ?_
          rintro e w1 ⟨rfl, hb⟩
          have HB := Lib.hid ((al2 _ _ _).trans (hb.mono (by simp; omega)))
          clear hb
          go_wp2
          go_ret
          exact ⟨rfl, HB.out⟩
        | true =>
          simp only [Bool.true_and]
          go_enter Tryz.func11, Tryz.ntmps11
          go_wp2_with fail
          refine (HRT.out _ (al2 _ _ _)).mono ?_
          rintro e w1 ⟨rfl, hb⟩
          have HB := Lib.hid ((al2 w (.cells #[.int .i64 i1, .int .i64 i2, .int .i64 i3] 24) (.cells #[.int .i64 s, .slice a N c] 30)).trans (hb.mono (by simp; omega)))
          have b1 : IdBox w1 w.heap.size (i1, i2, i3) := Bk.below ((Bk.newAt rfl _ _).old _) hb
          have b2 : Bk w1 (w.heap.size + 1) 30 _ := Bk.below (Bk.newAt (by simp) _ _) hb
          have HBX := Lib.hid b1
          have q0 := b2.cell 0
          have q1 := b2.cell 1
          simp only [List.getElem?_cons_zero, List.getElem?_cons_succ] at q0 q1
          clear hb b1 b2
          go_wp2_with fail
          refine (HCO.out _ _ HB.out HBX.out).mono ?_
          rintro e w2 ⟨rfl, hb⟩
          have HB2 := Lib.hid (below_self2 HB.out hb)
          clear hb
          go_wp2
          go_ret
          exact ⟨rfl, HB2.out⟩
end Go.Proofs.YtfngjdcagopapaaGreat
