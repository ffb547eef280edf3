/-
  Attributes, and what comes of several: numbers and sets.
-/
import Derived.Test.YtchhcaoondfpiaaGreatIdsM
namespace Go.Proofs.YtchhcaoondfpiaaGreat
set_option linter.unusedSimpArgs false
set_option linter.unusedVariables false

/-- An attribute: its number, what it depends on. -/
abbrev At : Type := Int × List I3
def sqStep (s : Option Int) (a : At) : Option Int := some (match s with | none => a.1 | some m => if m < a.1 then a.1 else m)
/-- The greatest number of all. -/
def sqA (l : List At) : Int := (l.foldl sqStep none).getD 0
def dpA (l : List At) : List I3 := l.flatMap (·.2)
theorem sqA_nil : sqA [] = 0 := rfl
theorem foldl_sq_some (l : List At) (h : l ≠ []) : ∃ m, l.foldl sqStep none = some m := by
  cases l with
  | nil => exact absurd rfl h
  | cons a l =>
    have : ∀ (l : List At) (m : Int), ∃ m', l.foldl sqStep (some m) = some m' := by
      intro l
      induction l with
      | nil => intro m; exact ⟨m, rfl⟩
      | cons b l ih => intro m; exact ih _
    exact this l a.1
theorem sqA_snoc (l : List At) (a : At) : sqA (l ++ [a]) = if l = [] ∨ sqA l < a.1 then a.1 else sqA l := by
  unfold sqA
  rw [List.foldl_append]
  by_cases h : l = []
  · subst h; simp [sqStep]
  · obtain ⟨m, hm⟩ := foldl_sq_some l h
    rw [hm]
    simp [sqStep, h]
theorem dpA_snoc (l : List At) (a : At) : dpA (l ++ [a]) = dpA l ++ a.2 := by simp [dpA]
/-- All together. -/
def allA (l : List At) : At := (sqA l, clnI (dpA l))
def mrgA (a b : At) : At := allA [a, b]
def sameA (a b : At) : Bool := decide (a.1 = b.1) && samI a.2 b.2
/-- The number among those that are known. -/
def mxS (l : List Int) : Int := l.foldl max 0
theorem mrg_eq (a b : At) : mrgA a b = (if a.1 < b.1 then b.1 else a.1, clnI (a.2 ++ b.2)) := by simp [mrgA, allA, sqA, sqStep, dpA]
theorem all3_eq (a b c : At) : allA [a, b, c] = (if (if a.1 < b.1 then b.1 else a.1) < c.1 then c.1 else (if a.1 < b.1 then b.1 else a.1), clnI (a.2 ++ (b.2 ++ c.2))) := by simp [allA, sqA, sqStep, dpA]
theorem sameA_iff (a b : At) : sameA a b = true ↔ a.1 = b.1 ∧ ∀ x, x ∈ a.2 ↔ x ∈ b.2 := by unfold sameA; rw [Bool.and_eq_true, samI_iff, decide_eq_true_iff]
theorem mrg_comm (a b : At) : sameA (mrgA a b) (mrgA b a) = true := by
  rw [sameA_iff, mrg_eq, mrg_eq]
  refine ⟨?_, fun x => ?_⟩
  · simp only; split <;> split <;> omega
  · simp only [mem_clnI, List.mem_append]; exact Or.comm
theorem mrg_all (a b c : At) : sameA (mrgA (mrgA a b) c) (allA [c, b, a]) = true := by
  rw [sameA_iff, mrg_eq (mrgA a b), mrg_eq a b, all3_eq]
  refine ⟨?_, fun x => ?_⟩
  · simp only; (repeat' split) <;> omega
  · simp only [mem_clnI, List.mem_append]
    constructor
    · rintro ((h | h) | h)
      · exact .inr (.inr h)
      · exact .inr (.inl h)
      · exact .inl h
    · rintro (h | h | h)
      · exact .inr h
      · exact .inl (.inr h)
      · exact .inl (.inl h)
theorem mrg_self (a : At) : sameA (mrgA a a) a = true := by
  rw [sameA_iff, mrg_eq]
  refine ⟨by simp, fun x => ?_⟩
  simp only [mem_clnI, List.mem_append, or_self]
theorem mrg_ge (a b : At) : a.1 ≤ (mrgA a b).1 ∧ b.1 ≤ (mrgA a b).1 := by
  rw [mrg_eq]
  constructor <;> (simp only; split <;> omega)
theorem mrg_has (a b : At) (x : I3) : hasI (mrgA a b).2 x = (hasI a.2 x || hasI b.2 x) := by
  rw [mrg_eq, Bool.eq_iff_iff, Bool.or_eq_true, hasI_iff, hasI_iff, hasI_iff]
  simp only [mem_clnI, List.mem_append]
theorem mrg_rgt (a b : At) : rgtI (mrgA a b).2 = true := by rw [mrg_eq, rgtI_iff]; exact clnI_rises _
theorem sameA_self (a : At) : sameA a a = true := by rw [sameA_iff]; exact ⟨rfl, fun x => Iff.rfl⟩
/-- May it be? -/
def vldI3 (x : I3) : Bool := decide (0 ≤ x.1) && decide (x.1 ≤ 1048576) && decide (0 ≤ x.2.1) && decide (x.2.1 ≤ 31) && decide (0 ≤ x.2.2) && decide (x.2.2 ≤ 1099511627776)
def oddA (id x : I3) : Bool := !vldI3 x || !decide (x.1 = id.1) || decide (x = id)
def vldA (id : I3) (a : At) : Bool := decide (0 ≤ a.1) && decide (a.1 ≤ 1099511627776) && decide (a.2.length ≤ 1024) && rgtI a.2 && !a.2.any (oddA id)
theorem vldA_iff (id : I3) (a : At) : vldA id a = true ↔ (0 ≤ a.1 ∧ a.1 ≤ 1099511627776) ∧ a.2.length ≤ 1024 ∧ Rises a.2 ∧ ∀ x ∈ a.2, oddA id x = false := by
  unfold vldA
  simp only [Bool.and_eq_true, decide_eq_true_iff, rgtI_iff, Bool.not_eq_true', List.any_eq_false, and_assoc]
  simp
theorem vldA_mrg (id : I3) (a b : At) (ha : vldA id a = true) (hb : vldA id b = true) (hl : a.2.length + b.2.length ≤ 1024) : vldA id (mrgA a b) = true ∧ (mrgA a b).1 = (if a.1 < b.1 then b.1 else a.1) ∧ (mrgA a b).2.length ≤ a.2.length + b.2.length := by
  rw [vldA_iff] at *
  have hlen : (clnI (a.2 ++ b.2)).length ≤ a.2.length + b.2.length := by have := len_clnI (a.2 ++ b.2); rw [List.length_append] at this; exact this
  rw [mrg_eq]
  refine ⟨⟨?_, by simp only; omega, clnI_rises _, fun x hx => ?_⟩, rfl, hlen⟩
  · simp only; split <;> omega
  · simp only [mem_clnI, List.mem_append] at hx
    rcases hx with hx | hx
    · exact ha.2.2.2 x hx
    · exact hb.2.2.2 x hx
end Go.Proofs.YtchhcaoondfpiaaGreat
