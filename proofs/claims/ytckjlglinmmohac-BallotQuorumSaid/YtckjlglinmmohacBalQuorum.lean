/-
  The walk of BallotQuorum: it returns true whatever is handed in.
-/
import Derived.Test.YtckjlglinmmohacBalQw
import Derived.Test.YtckjlglinmmohacBalQnA
import Derived.Test.YtckjlglinmmohacBalQnB
import Derived.Test.YtckjlglinmmohacBalQnC
import Derived.Test.YtckjlglinmmohacBalQnD
import Derived.Test.YtckjlglinmmohacBalQnE
import Derived.Test.YtckjlglinmmohacBalQnF
namespace Go.Proofs.Ytckjlglinmmohac
open Go.RowKit
set_option linter.unusedSimpArgs false
set_option linter.unusedVariables false
theorem all_enough {who ns : List Int} (h : allB who ns = true) : decide (quoN ns.length ≤ thN who ns) = true := by
  have : thN who ns = ns.length := by simp [allB] at h; exact h.2
  rw [this]; exact decide_eq_true (quo_le _)
theorem all_none {ns : List Int} : allB [] ns = false := by
  have : thN [] ns = 0 := by unfold thN; simp [inB]
  simp [allB, this]; omega
theorem quorum_law (n ep : Int) (a a2 : Option Addr) (cap cap2 : Nat) (ns who : List Int) (other : Int) (w : World) (hrow : IRow w a ns) (hrw : IRow w a2 who) (hnil : a2 = none → cap2 = 0) :
    Calls Try.prog 5 #[.int .i64 n, cfgq ep a ns.length cap, .slice a2 who.length cap2, .int .i64 other] w fun e w' => e = .returned (.bool true) ∧ Below w.heap.size w w' := by
  have hn := hrow.1
  have hx := hrw.1
  by_cases h0 : n < 1
  · exact quorum_far0 n ep a a2 cap cap2 ns who other w h0 hn hx
  by_cases h1 : (100000 : Int) < n
  · exact quorum_far1 n ep a a2 cap cap2 ns who other w h0 h1 hn hx
  by_cases h2 : (60 : Int) < (ns.length : Int)
  · exact quorum_far2 n ep a a2 cap cap2 ns who other w h0 h1 h2 hn hx
  by_cases h3 : (60 : Int) < (who.length : Int)
  · exact quorum_far3 n ep a a2 cap cap2 ns who other w h0 h1 h2 h3 hn hx
  cases a2 with
  | none =>
    have hw : who = [] := by
      rcases hrw.2 with h | ⟨b, off, h, _⟩
      · exact h
      · cases h
    obtain rfl := hnil rfl
    subst hw
    cases e1 : decide (quoN ns.length ≤ thN [] ns) <;> cases ei : inB other ns
    · exact quorum_nil1 n ep a cap ns other w h0 h1 h2 hrow e1 ei all_none
    · exact quorum_nil0 n ep a cap ns other w h0 h1 h2 hrow e1 ei all_none
    · exact quorum_nil3 n ep a cap ns other w h0 h1 h2 hrow e1 ei all_none
    · exact quorum_nil2 n ep a cap ns other w h0 h1 h2 hrow e1 ei all_none
  | some ad =>
    cases e1 : decide (quoN ns.length ≤ thN who ns) <;> cases ei : inB other ns <;> cases ea : allB who ns
    · exact quorum_near1 n ep a ad cap cap2 ns who other w h0 h1 h2 h3 hrow hrw e1 ei ea
    · exact absurd (all_enough ea) (by rw [e1]; simp)
    · exact quorum_near0 n ep a ad cap cap2 ns who other w h0 h1 h2 h3 hrow hrw e1 ei ea
    · exact absurd (all_enough ea) (by rw [e1]; simp)
    · exact quorum_near3 n ep a ad cap cap2 ns who other w h0 h1 h2 h3 hrow hrw e1 ei ea
    · exact quorum_near5 n ep a ad cap cap2 ns who other w h0 h1 h2 h3 hrow hrw e1 ei ea
    · exact quorum_near2 n ep a ad cap cap2 ns who other w h0 h1 h2 h3 hrow hrw e1 ei ea
    · exact quorum_near4 n ep a ad cap cap2 ns who other w h0 h1 h2 h3 hrow hrw e1 ei ea
end Go.Proofs.Ytckjlglinmmohac
