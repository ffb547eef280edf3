/-
  Attributes, and what comes of several: numbers and sets.
-/
import Derived.Test.YtchhcaoondfpiaaGreatIdsM
namespace Go.Proofs.YtchhcaoondfpiaaGreat
set_option linter.unusedSimpArgs false
set_option linter.unusedVariables false

/-- An attribute: its number, what it depends on. -/
abbrev At : Type := Int × List I3
def sqStep (s : Option Int) (a : At) : Option Int := some (match s with | none => a.1 | some m => if m < a.1 then a.1 else m)
/-- The greatest number of all. -/
def sqA (l : List At) : Int := (l.foldl sqStep none).getD 0
def dpA (l : List At) : List I3 := l.flatMap (·.2)
theorem foldl_sq_some (l : List At) (h : l ≠ []) : ∃ m, l.foldl sqStep none = some m := by
  cases l with
  | nil => exact absurd rfl h
  | cons a l =>
    have : ∀ (l : List At) (m : Int), ∃ m', l.foldl sqStep (some m) = some m' := by
      intro l
      induction l with
      | nil => intro m; exact ⟨m, rfl⟩
      | cons b l ih => intro m; exact ih _
    exact this l a.1
theorem sqA_snoc (l : List At) (a : At) : sqA (l ++ [a]) = if l = [] ∨ sqA l < a.1 then a.1 else sqA l := by
  unfold sqA
  rw [List.foldl_append]
  by_cases h : l = []
  · subst h; simp [sqStep]
  · obtain ⟨m, hm⟩ := foldl_sq_some l h
    rw [hm]
    simp [sqStep, h]
theorem dpA_snoc (l : List At) (a : At) : dpA (l ++ [a]) = dpA l ++ a.2 := by simp [dpA]
/-- All together. -/
def allA (l : List At) : At := (sqA l, clnI (dpA l))
def mrgA (a b : At) : At := allA [a, b]
/-- The number among those that are known. -/
def mxS (l : List Int) : Int := l.foldl max 0
theorem mrg_eq (a b : At) : mrgA a b = (if a.1 < b.1 then b.1 else a.1, clnI (a.2 ++ b.2)) := by simp [mrgA, allA, sqA, sqStep, dpA]
/-- May it be? -/
def vldI3 (x : I3) : Bool := decide (0 ≤ x.1) && decide (x.1 ≤ 1048576) && decide (0 ≤ x.2.1) && decide (x.2.1 ≤ 31) && decide (0 ≤ x.2.2) && decide (x.2.2 ≤ 1099511627776)
def oddA (id x : I3) : Bool := !vldI3 x || !decide (x.1 = id.1) || decide (x = id)
def vldA (id : I3) (a : At) : Bool := decide (0 ≤ a.1) && decide (a.1 ≤ 1099511627776) && decide (a.2.length ≤ 1024) && rgtI a.2 && !a.2.any (oddA id)
theorem vldA_iff (id : I3) (a : At) : vldA id a = true ↔ (0 ≤ a.1 ∧ a.1 ≤ 1099511627776) ∧ a.2.length ≤ 1024 ∧ Rises a.2 ∧ ∀ x ∈ a.2, oddA id x = false := by
  unfold vldA
  simp only [Bool.and_eq_true, decide_eq_true_iff, rgtI_iff, Bool.not_eq_true', List.any_eq_false, and_assoc]
  simp
end Go.Proofs.YtchhcaoondfpiaaGreat

