/-
  The walks of package attr's Same, Linked, Agree, Valid.
-/
import Derived.Test.YtfngjdcagopapaaGreatAt2
import Derived.Test.YtfngjdcagopapaaGreatIds9
namespace Go.Proofs.YtfngjdcagopapaaGreat
open Go.RowKit
set_option linter.unusedSimpArgs false
set_option linter.unusedVariables false
set_option maxRecDepth 100000

set_option maxHeartbeats 1000000 in
theorem asame_any (s1 s2 : Int) (v1 v2 : Value) (l1 l2 : List I3) (w : World) (h1 : IK.Rd w v1 l1) (o1 : okL l1) (n1 : l1.length ≤ 1000) (h2 : IK.Rd w v2 l2) (o2 : okL l2) (n2 : l2.length ≤ 1000) :
    Calls Tryz.prog 14 #[.agg #[.int .i64 s1, v1], .agg #[.int .i64 s2, v2]] w fun e w' => e = .returned (.bool (sameA (s1, l1) (s2, l2))) ∧ Below w.heap.size w w' := by
  obtain ⟨a1, c1, e1⟩ := h1.slice
  obtain ⟨a2, c2, e2⟩ := h2.slice
  subst e1
  subst e2
  have HC : Hid (∀ W, Below w.heap.size w W → Calls Tryz.prog 31 #[.slice a1 l1.length c1, .slice a2 l2.length c2] W fun e w' => e = .returned (.bool (samI l1 l2)) ∧ Below W.heap.size W w') := Lib.hid (fun W hb => same_any _ _ l1 l2 W (h1.below hb) o1 n1 (h2.below hb) o2 n2)
  obtain ⟨N1, hN1⟩ : ∃ N1, l1.length = N1 := ⟨_, rfl⟩
  obtain ⟨N2, hN2⟩ : ∃ N2, l2.length = N2 := ⟨_, rfl⟩
  rw [hN1, hN2] at HC
  rw [hN1, hN2]
  clear h1 h2 hN1 hN2 n1 n2 o1 o2
  cases g : (s1 == s2) with
  | true =>
    have e : sameA (s1, l1) (s2, l2) = samI l1 l2 := by unfold sameA; simp at g; simp [g]
    rw [e]
    obtain ⟨R, hR⟩ : ∃ R, samI l1 l2 = R := ⟨_, rfl⟩
    rw [hR] at HC ⊢
    clear e hR
    go_enter Tryz.func14, Tryz.ntmps14
    go_wp2_with fail
    refine (HC.out _ (al2 _ _ _)).mono ?_
    rintro e w1 ⟨rfl, hb⟩
    have HB := Lib.hid ((al2 _ _ _).trans (hb.mono (by simp; omega)))
    clear hb
    go_wp2
    go_ret
    exact ⟨rfl, HB.out⟩
  | false =>
    have e : sameA (s1, l1) (s2, l2) = false := by unfold sameA; simp at g; simp [g]
    rw [e]
    clear e HC
    go_enter Tryz.func14, Tryz.ntmps14
    go_wp2
    go_ret
    exact ⟨rfl, al2 _ _ _⟩
/-- A known one, as a value. -/
abbrev knV (k : Kn) (v : Value) : Value := .agg #[.int .i64 k.id.1, .int .i64 k.id.2.1, .int .i64 k.id.2.2, .int .i64 k.cm.cl, .int .i64 k.cm.sq, .int .i64 k.cm.op, .string k.cm.pa, .string k.cm.va, .int .i64 k.cm.ver, .int .i64 k.cm.a, .int .i64 k.cm.b, .int .i64 k.a.1, v]
theorem knV_eq (k : Kn) (v : Value) : knV k v = .agg (knE k v).toArray := rfl
def lnkA (k1 k2 : Kn) : Bool := hasI k2.a.2 k1.id || hasI k1.a.2 k2.id
set_option maxHeartbeats 2000000 in
theorem linked_any (k1 k2 : Kn) (v1 v2 : Value) (w : World) (h1 : IK.Rd w v1 k1.a.2) (n1 : k1.a.2.length ≤ 1000) (h2 : IK.Rd w v2 k2.a.2) (n2 : k2.a.2.length ≤ 1000) :
    Calls Tryz.prog 15 #[knV k1 v1, knV k2 v2] w fun e w' => e = .returned (.bool (lnkA k1 k2)) ∧ Below w.heap.size w w' := by
  obtain ⟨⟨i1, i2, i3⟩, ⟨c1, c2, c3, c4, c5, c6, c7, c8⟩, s1, l1⟩ := k1
  obtain ⟨⟨j1, j2, j3⟩, ⟨d1, d2, d3, d4, d5, d6, d7, d8⟩, s2, l2⟩ := k2
  simp only [knV] at h1 n1 h2 n2 ⊢
  obtain ⟨a1, cc1, e1⟩ := h1.slice
  obtain ⟨a2, cc2, e2⟩ := h2.slice
  subst e1
  subst e2
  have HC1 : Hid (∀ W, Below w.heap.size w W → Calls Tryz.prog 32 #[.slice a2 l2.length cc2, .agg #[.int .i64 i1, .int .i64 i2, .int .i64 i3]] W fun e w' => e = .returned (.bool (hasI l2 (i1, i2, i3))) ∧ Below W.heap.size W w') := Lib.hid (fun W hb => has_any _ l2 i1 i2 i3 W (h2.below hb) n2)
  have HC2 : Hid (∀ W, Below w.heap.size w W → Calls Tryz.prog 32 #[.slice a1 l1.length cc1, .agg #[.int .i64 j1, .int .i64 j2, .int .i64 j3]] W fun e w' => e = .returned (.bool (hasI l1 (j1, j2, j3))) ∧ Below W.heap.size W w') := Lib.hid (fun W hb => has_any _ l1 j1 j2 j3 W (h1.below hb) n1)
  obtain ⟨N1, hN1⟩ : ∃ N1, l1.length = N1 := ⟨_, rfl⟩
  obtain ⟨N2, hN2⟩ : ∃ N2, l2.length = N2 := ⟨_, rfl⟩
  rw [hN2] at HC1
  rw [hN1] at HC2
  rw [hN1, hN2]
  clear h1 h2 hN1 hN2 n1 n2
  unfold lnkA
  simp only
  obtain ⟨R2, hR2⟩ : ∃ R, hasI l1 (j1, j2, j3) = R := ⟨_, rfl⟩
  rw [hR2] at HC2 ⊢
  cases hR1 : hasI l2 (i1, i2, i3) with
  | true =>
    rw [hR1] at HC1
    simp only [Bool.true_or]
    clear hR1 hR2 HC2
    go_enter Tryz.func15, Tryz.ntmps15
    go_wp2_with fail
    refine (HC1.out _ (al2 _ _ _)).mono ?_
    rintro e w1 ⟨rfl, hb⟩
    have HB := Lib.hid ((al2 _ _ _).trans (hb.mono (by simp; omega)))
    clear hb
    go_wp2
    go_ret
    exact ⟨rfl, HB.out⟩
  | false =>
    rw [hR1] at HC1
    simp only [Bool.false_or]
    clear hR1 hR2
    go_enter Tryz.func15, Tryz.ntmps15
    go_wp2_with fail
    refine (HC1.out _ (al2 _ _ _)).mono ?_
    rintro e w1 ⟨rfl, hb⟩
    have HB := Lib.hid ((al2 _ _ _).trans (hb.mono (by simp; omega)))
    have b1 : Bk w1 w.heap.size 43 _ := Bk.below ((Bk.newAt rfl _ _).old _) hb
    have b2 : Bk w1 (w.heap.size + 1) 43 _ := Bk.below (Bk.newAt (by simp) _ _) hb
    have p12 := b1.cell 12
    have q0 := b2.cell 0
    have q1 := b2.cell 1
    have q2 := b2.cell 2
    simp only [List.getElem?_cons_zero, List.getElem?_cons_succ] at p12 q0 q1 q2
    clear hb b1 b2
    go_wp2_with fail
    refine (HC2.out _ HB.out).mono ?_
    rintro e w2 ⟨rfl, hb⟩
    have HB2 := Lib.hid (HB.out.trans (hb.mono HB.out.size))
    clear hb
    go_wp2
    go_ret
    exact ⟨rfl, HB2.out⟩
end Go.Proofs.YtfngjdcagopapaaGreat
