/-
  The walks of package attr's Same, Linked, Agree, Valid.
-/
import Derived.Test.YtplplehfkfjhnaaAt2
import Derived.Test.YtplplehfkfjhnaaIds9
namespace Go.Proofs.Ytplplehfkfjhnaa
open Go.RowKit
set_option linter.unusedSimpArgs false
set_option linter.unusedVariables false
set_option maxRecDepth 100000

set_option maxHeartbeats 1000000 in
theorem asame_any (s1 s2 : Int) (v1 v2 : Value) (l1 l2 : List I3) (w : World) (h1 : IK.Rd w v1 l1) (o1 : okL l1) (n1 : l1.length ≤ 3000) (h2 : IK.Rd w v2 l2) (o2 : okL l2) (n2 : l2.length ≤ 3000) :
    Calls Try.prog 49 #[.agg #[.int .i64 s1, v1], .agg #[.int .i64 s2, v2]] w fun e w' => e = .returned (.bool (sameA (s1, l1) (s2, l2))) ∧ Below w.heap.size w w' := by
  obtain ⟨a1, c1, e1⟩ := h1.slice
  obtain ⟨a2, c2, e2⟩ := h2.slice
  subst e1
  subst e2
  have HC : Hid (∀ W, Below w.heap.size w W → Calls Try.prog 60 #[.slice a1 l1.length c1, .slice a2 l2.length c2] W fun e w' => e = .returned (.bool (samI l1 l2)) ∧ Below W.heap.size W w') := Lib.hid (fun W hb => same_any _ _ l1 l2 W (h1.below hb) o1 n1 (h2.below hb) o2 n2)
  obtain ⟨N1, hN1⟩ : ∃ N1, l1.length = N1 := ⟨_, rfl⟩
  obtain ⟨N2, hN2⟩ : ∃ N2, l2.length = N2 := ⟨_, rfl⟩
  rw [hN1, hN2] at HC
  rw [hN1, hN2]
  clear h1 h2 hN1 hN2 n1 n2 o1 o2
  cases g : (s1 == s2) with
  | true =>
    have e : sameA (s1, l1) (s2, l2) = samI l1 l2 := by unfold sameA; simp at g; simp [g]
    rw [e]
    obtain ⟨R, hR⟩ : ∃ R, samI l1 l2 = R := ⟨_, rfl⟩
    rw [hR] at HC ⊢
    clear e hR
    go_enter Try.func49, Try.ntmps49
    go_wp2_with fail
    refine (HC.out _ (al2 _ _ _)).mono ?_
    rintro e w1 ⟨rfl, hb⟩
    have HB := Lib.hid ((al2 _ _ _).trans (hb.mono (by simp; omega)))
    clear hb
    go_wp2
    go_ret
    exact ⟨rfl, HB.out⟩
  | false =>
    have e : sameA (s1, l1) (s2, l2) = false := by unfold sameA; simp at g; simp [g]
    rw [e]
    clear e HC
    go_enter Try.func49, Try.ntmps49
    go_wp2
    go_ret
    exact ⟨rfl, al2 _ _ _⟩
/-- A known one, as a value. -/
abbrev knV (k : Kn) (v : Value) : Value := .agg #[.int .i64 k.id.1, .int .i64 k.id.2.1, .int .i64 k.id.2.2, .int .i64 k.cm.cl, .int .i64 k.cm.sq, .int .i64 k.cm.op, .string k.cm.pa, .string k.cm.va, .int .i64 k.cm.ver, .int .i64 k.cm.a, .int .i64 k.cm.b, .int .i64 k.a.1, v]
theorem knV_eq (k : Kn) (v : Value) : knV k v = .agg (knE k v).toArray := rfl
def lnkA (k1 k2 : Kn) : Bool := hasI k2.a.2 k1.id || hasI k1.a.2 k2.id
end Go.Proofs.Ytplplehfkfjhnaa
