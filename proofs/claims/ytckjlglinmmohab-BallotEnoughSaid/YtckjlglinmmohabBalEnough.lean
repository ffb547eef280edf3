/-
  The walk of BallotEnough: it returns true whatever is handed in.
-/
import Derived.Test.YtckjlglinmmohabBalEnoughN
namespace Go.Proofs.Ytckjlglinmmohab
open Go.RowKit
set_option linter.unusedSimpArgs false
set_option linter.unusedVariables false

theorem enoughlaw_any (n ep : Int) (a a2 : Option Addr) (cap cap2 : Nat) (ns who : List Int) (w : World) (hrow : IRow w a ns) (hrw : IRow w a2 who) :
    Calls Try.prog 9 #[.int .i64 n, .agg #[.int .i64 ep, .slice a ns.length cap], .slice a2 who.length cap2] w fun e w' => e = .returned (.bool true) ∧ Below w.heap.size w w' := by
  have hn := hrow.1
  have hx := hrw.1
  by_cases h0 : (100000 : Int) < n
  · exact enoughlaw_far0 n ep a a2 cap cap2 ns who w h0 hn hx
  by_cases h1 : (60 : Int) < (ns.length : Int)
  · exact enoughlaw_far1 n ep a a2 cap cap2 ns who w h0 h1 hn hx
  by_cases h2 : (60 : Int) < (who.length : Int)
  · exact enoughlaw_far2 n ep a a2 cap cap2 ns who w h0 h1 h2 hn hx
  have ht := thN_le who ns
  cases kq : (thN who ns == (ns.length : Int))
  · exact enoughlaw_ne n ep a a2 cap cap2 ns who w h0 h1 h2 hrow hrw kq (by unfold allB; rw [kq]; simp)
  · have he : thN who ns = (ns.length : Int) := by simpa using kq
    by_cases hp : 0 < thN who ns
    · exact enoughlaw_pos n ep a a2 cap cap2 ns who w h0 h1 h2 hrow hrw kq (decide_eq_true hp) (by unfold allB; rw [kq]; simp; omega)
    · exact enoughlaw_zero n ep a a2 cap cap2 ns who w h0 h1 h2 hrow hrw kq (decide_eq_false hp) (by have q : decide (0 < ns.length) = false := decide_eq_false (by omega); unfold allB; rw [q]; rfl)
end Go.Proofs.Ytckjlglinmmohab
