/-
  Leads: a command is itself.
-/
import Derived.Test.YtplplehfkfjhnaaLdH
namespace Go.Proofs.Ytplplehfkfjhnaa
open Go.RowKit
open Bb (quoN thN allB)
set_option linter.unusedSimpArgs false
set_option linter.unusedVariables false
set_option maxRecDepth 100000

theorem eqC_self (a b c : Int) (d e : ByteArray) (f g h : Int) : (∀ w, Sem.run Try.prog (binOp .eql 33 (.agg #[.int .i64 a, .int .i64 b, .int .i64 c, .string d, .string e, .int .i64 f, .int .i64 g, .int .i64 h]) (.agg #[.int .i64 a, .int .i64 b, .int .i64 c, .string d, .string e, .int .i64 f, .int .i64 g, .int .i64 h])) w = .ok (.bool true) w) ∧ (∀ w, Sem.run Try.prog (binOp .neq 33 (.agg #[.int .i64 a, .int .i64 b, .int .i64 c, .string d, .string e, .int .i64 f, .int .i64 g, .int .i64 h]) (.agg #[.int .i64 a, .int .i64 b, .int .i64 c, .string d, .string e, .int .i64 f, .int .i64 g, .int .i64 h])) w = .ok (.bool false) w) ∧
    (∀ op x y w, Sem.run Try.prog (eqGuard op 33 x y (.agg #[.int .i64 a, .int .i64 b, .int .i64 c, .string d, .string e, .int .i64 f, .int .i64 g, .int .i64 h]) (.agg #[.int .i64 a, .int .i64 b, .int .i64 c, .string d, .string e, .int .i64 f, .int .i64 g, .int .i64 h])) w = .ok () w) := by
  have hq : ∀ w, Sem.run Try.prog (binOp .eql 33 (.agg #[.int .i64 a, .int .i64 b, .int .i64 c, .string d, .string e, .int .i64 f, .int .i64 g, .int .i64 h]) (.agg #[.int .i64 a, .int .i64 b, .int .i64 c, .string d, .string e, .int .i64 f, .int .i64 g, .int .i64 h])) w = .ok (.bool true) w := by
    intro w
    have u3 := Try.underlying9
    have a3 := Try.isAgg9
    have z3 := Try.sizeOf9
    have u4 := Try.underlying3
    have a4 := Try.isAgg3
    have z4 := Try.sizeOf3
    have u5 := Try.underlying31
    have a5 := Try.isAgg31
    have z5 := Try.sizeOf31
    have hS : Try.prog.underlying 33 = some (.struct (Try.prog.fieldsOf 33)) := by kernel_rfl
    have hp : Try.prog.stoodInHeld 33 = false := by kernel_rfl
    rw [run_eql_struct, show (10000 : Nat) = 9999 + 1 from rfl, run_equalIn_agg w 9999 33 _ _ hS hp]
    simp only [Program.fieldsOf, Try.underlying33]
    go_simp
    try simp
  refine ⟨hq, fun w => ?_, fun op x y w => run_eqGuard_agg w op 33 x y _ _ (by kernel_rfl)⟩
  have h := hq w
  rw [run_eql_struct] at h
  rw [run_neq_struct]
  revert h
  generalize Sem.run Try.prog (Op.equalIn 10000 33 (.agg #[.int .i64 a, .int .i64 b, .int .i64 c, .string d, .string e, .int .i64 f, .int .i64 g, .int .i64 h]) (.agg #[.int .i64 a, .int .i64 b, .int .i64 c, .string d, .string e, .int .i64 f, .int .i64 g, .int .i64 h])) w = r
  intro h
  cases r with
  | ok v w' => simp [Result.andThen] at h ⊢; simp [h]
  | halt x w' => simp [Result.andThen] at h
end Go.Proofs.Ytplplehfkfjhnaa
