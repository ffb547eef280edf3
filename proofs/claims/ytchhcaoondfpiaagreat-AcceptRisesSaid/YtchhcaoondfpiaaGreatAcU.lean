/-
  Package accept: may a message be heard.
-/
import Derived.Test.YtchhcaoondfpiaaGreatAcTa
import Derived.Test.YtchhcaoondfpiaaGreatAcTb
import Derived.Test.YtchhcaoondfpiaaGreatAcTc
namespace Go.Proofs.YtchhcaoondfpiaaGreat
open Go.RowKit Go.Sort
open Go.WideMaps
set_option linter.unusedSimpArgs false
set_option linter.unusedVariables false
set_option maxRecDepth 100000

theorem eqB_dec (a b : Int) : (a == b) = decide (a = b) := by
  by_cases h : a = b
  · simp [h]
  · simp [h]
theorem bright_any {w : World} {B g mb K : Nat} {b : BSt} (h : BkAt w B g mb K b) (hn : b.ns.length ≤ 1000) {v : Value} {m : Mg} (hm : MgA w v m) (hl : m.ins.at'.2.length ≤ 10000) : Calls Tryz.prog 15 #[bP g, v] w fun e w' => e = .returned (.bool (rightB b m)) ∧ Below w.heap.size w w' := by
  cases q0 : (m.to == b.node) with
  | false =>
    rw [show rightB b m = false by unfold rightB; simp [← eqB_dec, q0]]
    exact right_0 h hn hm hl q0
  | true =>
  cases q1 : inB m.fr b.ns with
  | false =>
    rw [show rightB b m = false by unfold rightB; simp [← eqB_dec, q0, q1]]
    exact right_1 h hn hm hl q0 q1
  | true =>
  cases q2 : inB m.to b.ns with
  | false =>
    rw [show rightB b m = false by unfold rightB; simp [← eqB_dec, q0, q1, q2]]
    exact right_2 h hn hm hl q0 q1 q2
  | true =>
  cases q3 : vldI3 m.id with
  | false =>
    rw [show rightB b m = false by unfold rightB; simp [← eqB_dec, q0, q1, q2, q3]]
    exact right_3 h hn hm hl q0 q1 q2 q3
  | true =>
  cases q4 : (m.id.1 == b.ep) with
  | false =>
    rw [show rightB b m = false by unfold rightB; simp [← eqB_dec, q0, q1, q2, q3, ← eqB_dec, q4]]
    exact right_4 h hn hm hl q0 q1 q2 q3 q4
  | true =>
  cases q5 : inB m.id.2.1 b.ns with
  | false =>
    rw [show rightB b m = false by unfold rightB; simp [← eqB_dec, q0, q1, q2, q3, ← eqB_dec, q4, q5]]
    exact right_5 h hn hm hl q0 q1 q2 q3 q4 q5
  | true =>
  cases q6 : Bb.vaB m.bal.1 m.bal.2 with
  | false =>
    rw [show rightB b m = false by unfold rightB; simp [← eqB_dec, q0, q1, q2, q3, ← eqB_dec, q4, q5, q6]]
    exact right_6 h hn hm hl q0 q1 q2 q3 q4 q5 q6
  | true =>
  cases q7 : Bb.vaB m.ins.vo.1 m.ins.vo.2 with
  | false =>
    rw [show rightB b m = false by unfold rightB; simp [← eqB_dec, q0, q1, q2, q3, ← eqB_dec, q4, q5, q6, q7]]
    exact right_7 h hn hm hl q0 q1 q2 q3 q4 q5 q6 q7
  | true =>
  cases q8 : vldA m.id m.ins.at' with
  | false =>
    rw [show rightB b m = false by unfold rightB; simp [← eqB_dec, q0, q1, q2, q3, ← eqB_dec, q4, q5, q6, q7, q8]]
    exact right_8 h hn hm hl q0 q1 q2 q3 q4 q5 q6 q7 q8
  | true =>
  rw [show rightB b m = true by unfold rightB; simp [← eqB_dec, q0, q1, q2, q3, ← eqB_dec, q4, q5, q6, q7, q8]]
  exact right_9 h hn hm hl q0 q1 q2 q3 q4 q5 q6 q7 q8
end Go.Proofs.YtchhcaoondfpiaaGreat
