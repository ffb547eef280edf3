/-
  The walks of the document's Has, Row, Right; ids' Right.
-/
import Derived.Test.YtfngjdcagopapaaIds7
namespace Go.Proofs.Ytfngjdcagopapaa
open Go.RowKit Go.Sort Go.Shelf Go.Lib
set_option linter.unusedSimpArgs false
set_option linter.unusedVariables false

/-- Two instances held apart. -/
theorem neI_run (a1 a2 a3 b1 b2 b3 : Int) : (∀ w, Sem.run Try.prog (binOp .neq 26 (.agg #[.int .i64 a1, .int .i64 a2, .int .i64 a3]) (.agg #[.int .i64 b1, .int .i64 b2, .int .i64 b3])) w = .ok (.bool (!decide (((a1, a2, a3) : I3) = (b1, b2, b3)))) w) ∧
    (∀ op x y w, Sem.run Try.prog (eqGuard op 26 x y (.agg #[.int .i64 a1, .int .i64 a2, .int .i64 a3]) (.agg #[.int .i64 b1, .int .i64 b2, .int .i64 b3])) w = .ok () w) := by
  refine ⟨fun w => ?_, (eqI_run a1 a2 a3 b1 b2 b3).2⟩
  have h := (eqI_run a1 a2 a3 b1 b2 b3).1 w
  rw [run_eql_struct] at h
  rw [run_neq_struct]
  revert h
  generalize Sem.run Try.prog (Op.equalIn 10000 26 (.agg #[.int .i64 a1, .int .i64 a2, .int .i64 a3]) (.agg #[.int .i64 b1, .int .i64 b2, .int .i64 b3])) w = r
  intro h
  cases r with
  | ok v w' => simp [Result.andThen] at h ⊢; simp [h]
  | halt x w' => simp [Result.andThen] at h
theorem getD_mem {l : List I3} {k : Nat} {X : I3} (hX : l.getD k (0, 0, 0) = X) (hk : k < l.length) : X ∈ l := by
  rw [← hX]; simp [List.getD, hk]
end Go.Proofs.Ytfngjdcagopapaa
