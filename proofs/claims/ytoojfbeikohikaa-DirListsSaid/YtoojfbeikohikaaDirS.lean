/-
  The reference's Same, of two replies without names that are the same.
-/
import Derived.Test.YtoojfbeikohikaaDirG
namespace Go.Proofs.Ytoojfbeikohikaa
open Go.RowKit
set_option linter.unusedSimpArgs false
set_option linter.unusedVariables false

set_option maxHeartbeats 2000000 in
theorem same_none (a : Int) (v : ByteArray) (n : Int) (w : World) :
    Calls Try.prog 22 #[.agg #[.int .i64 a, .string v, .int .i64 n, .slice none 0 0], .agg #[.int .i64 a, .string v, .int .i64 n, .slice none 0 0]] w fun e w' => e = .returned (.bool true) ∧ Below w.heap.size w w' := by
  have q1 : (v.toList == v.toList) = true := by simp
  have g1 : (a == a) = true := by simp
  have g2 : (a != a) = false := by simp
  have g3 : (n == n) = true := by simp
  have g4 : (n != n) = false := by simp
  have q2 : (v.toList != v.toList) = false := by simp
  go_enter Try.func22, Try.ntmps22
  go_wp2
  go_loopw [5] (fun i wr => i = .int .i64 0 ∧ wr = ((w.alloc (.cells #[.int .i64 a, .string v, .int .i64 n, .slice none 0 0] 30)).alloc (.cells #[.int .i64 a, .string v, .int .i64 n, .slice none 0 0] 30))) (fun _ _ => 0)
  case atStart => exact ⟨rfl, rfl⟩
  case round =>
    obtain ⟨rfl, rfl⟩ := hrel
    go_wp2
    go_ret
    exact ⟨rfl, ((Below.refl _ _).alloc (Nat.le_refl _) _).alloc (by simp) _⟩
end Go.Proofs.Ytoojfbeikohikaa
