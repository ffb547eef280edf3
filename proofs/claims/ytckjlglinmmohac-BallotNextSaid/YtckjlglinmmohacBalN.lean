/-
  Small laws for the walk of BallotNext.
-/
import Derived.Test.YtckjlglinmmohacBal5
namespace Go.Proofs.Ytckjlglinmmohac
open Go.RowKit
set_option linter.unusedSimpArgs false
set_option linter.unusedVariables false

theorem va_range {a b : Int} (h : vaB a b = true) : 0 ≤ a ∧ a ≤ 1099511627776 := by
  simp [vaB] at h; omega
theorem next_in (a b n : Int) (w : World) (h : vaB a b = true) :
    Calls Try.prog 17 #[pr a b, .int .i64 n] w fun e w' => e = .returned (pr (a + 1) n) ∧ Below w.heap.size w w' := by
  have hr := va_range h
  exact (next_any a b n w).mono fun e w' h => ⟨h.1.trans (by rw [IntWalk.wrap64_in (a + 1) ⟨by omega, by omega⟩]), h.2⟩
end Go.Proofs.Ytckjlglinmmohac
