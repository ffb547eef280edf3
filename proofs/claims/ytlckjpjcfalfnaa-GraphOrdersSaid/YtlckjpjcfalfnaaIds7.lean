/-
  The walks of ids' Has, Right; the document's Has, Right, Row.
-/
import Derived.Test.YtlckjpjcfalfnaaIds6
import Derived.Deep.QuietTactic
import Derived.BigQuiet
namespace Go.Proofs.Ytlckjpjcfalfnaa
open Go.RowKit Go.Sort Go.Shelf Go.Lib
set_option linter.unusedSimpArgs false
set_option linter.unusedVariables false

/-- Two instances compared. -/
theorem eqI_run (a1 a2 a3 b1 b2 b3 : Int) : (∀ w, Sem.run Try.prog (binOp .eql 25 (.agg #[.int .i64 a1, .int .i64 a2, .int .i64 a3]) (.agg #[.int .i64 b1, .int .i64 b2, .int .i64 b3])) w = .ok (.bool (decide (((a1, a2, a3) : I3) = (b1, b2, b3)))) w) ∧
    (∀ op x y w, Sem.run Try.prog (eqGuard op 25 x y (.agg #[.int .i64 a1, .int .i64 a2, .int .i64 a3]) (.agg #[.int .i64 b1, .int .i64 b2, .int .i64 b3])) w = .ok () w) :=
  ⟨fun w => eqIds.1 (a1, a2, a3) (b1, b2, b3) w, fun op x y w => eqIds.2 op x y (a1, a2, a3) (b1, b2, b3) w⟩
theorem index_none (a : Option Addr) (c : Nat) (x1 x2 x3 : Int) (w : World) :
    Calls Try.prog 60 #[.slice a 0 c, .agg #[.int .i64 x1, .int .i64 x2, .int .i64 x3]] w fun e w' => e = .returned (.int .i64 (-1)) ∧ Grew w w' := by
  go_enter Try.func60, Try.ntmps60
  go_wp2
  refine wp_loop_rounds 1 ?_
  rw [rounds_succ]
  go_wp2
  go_ret
  exact ⟨rfl, grew_alloc _ _⟩
end Go.Proofs.Ytlckjpjcfalfnaa
