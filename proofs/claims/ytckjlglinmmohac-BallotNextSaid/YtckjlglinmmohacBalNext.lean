/-
  The walk of BallotNext: it returns true whatever the two ballots and the two nodes are.
-/
import Derived.Test.YtckjlglinmmohacBalNxA
import Derived.Test.YtckjlglinmmohacBalNxB
import Derived.Test.YtckjlglinmmohacBalNxC
import Derived.Test.YtckjlglinmmohacBalNxD
import Derived.Test.YtckjlglinmmohacBalNxE
import Derived.Test.YtckjlglinmmohacBalNxF
import Derived.Test.YtckjlglinmmohacBalNxG
namespace Go.Proofs.Ytckjlglinmmohac
open Go.RowKit
theorem less_self (a1 a2 : Int) : lessB a1 a2 a1 a2 = false := by simp [lessB]
theorem less_next (a1 a2 m : Int) : lessB a1 a2 (a1 + 1) m = true := by simp [lessB]; omega
theorem less_anti {a1 a2 b1 b2 : Int} (h : lessB a1 a2 b1 b2 = true) : lessB b1 b2 a1 a2 = false := by simp [lessB] at h ⊢; omega
theorem next_law (a1 a2 b1 b2 m n : Int) (w : World) : Calls Try.prog 4 #[pr a1 a2, pr b1 b2, .int .i64 m, .int .i64 n] w fun e w' => e = .returned (.bool true) ∧ Below w.heap.size w w' := by
  cases va : vaB a1 a2
  · exact next_bad1 a1 a2 b1 b2 m n va w
  cases vb : vaB b1 b2
  · exact next_bad2 a1 a2 b1 b2 m n va vb w
  have q5 := less_next a1 a2 m
  cases l : lessB a1 a2 b1 b2
  · have q1 : mo1 a1 a2 b1 b2 = a1 := by simp [mo1, l]
    have q2 : mo2 a1 a2 b1 b2 = a2 := by simp [mo2, l]
    have q34 : mo1 b1 b2 a1 a2 = a1 ∧ mo2 b1 b2 a1 a2 = a2 := by
      cases r : lessB b1 b2 a1 a2
      · have : a1 = b1 ∧ a2 = b2 := by simp [lessB] at l r; omega
        simp [mo1, mo2, this.1, this.2]
      · simp [mo1, mo2, r]
    by_cases h : m = n
    · subst h
      exact next_ge_eq a1 a2 b1 b2 m va vb q1 q2 q34.1 q34.2 q5 (less_self _ _) l w
    · exact next_ge_ne a1 a2 b1 b2 m n va vb (by simpa using h) q1 q2 q34.1 q34.2 q5 (less_self _ _) l w
  · have q1 : mo1 a1 a2 b1 b2 = b1 := by simp [mo1, l]
    have q2 : mo2 a1 a2 b1 b2 = b2 := by simp [mo2, l]
    have r := less_anti l
    have q3 : mo1 b1 b2 a1 a2 = b1 := by simp [mo1, r]
    have q4 : mo2 b1 b2 a1 a2 = b2 := by simp [mo2, r]
    by_cases hb : b1 = a1
    · subst hb
      have h2 : (b2 == a2) = false := by
        simp [lessB] at l; simp; omega
      by_cases h : m = n
      · subst h
        exact next_lt2_eq b1 a2 b2 m va vb h2 q1 q2 q3 q4 q5 r (less_self _ _) w
      · exact next_lt2_ne b1 a2 b2 m n va vb (by simpa using h) h2 q1 q2 q3 q4 q5 r (less_self _ _) w
    · have h1 : (b1 == a1) = false := by simpa using hb
      by_cases h : m = n
      · subst h
        exact next_lt_eq a1 a2 b1 b2 m va vb h1 q1 q2 q3 q4 q5 r (less_self _ _) w
      · exact next_lt_ne a1 a2 b1 b2 m n va vb (by simpa using h) h1 q1 q2 q3 q4 q5 r (less_self _ _) w
end Go.Proofs.Ytckjlglinmmohac
