/-
  The walk of BallotQuorum, way by way.
-/
import Derived.Test.YtckjlglinmmohacBalQ
namespace Go.Proofs.Ytckjlglinmmohac
open Go.RowKit
set_option linter.unusedSimpArgs false
set_option linter.unusedVariables false

set_option maxHeartbeats 1000000 in
theorem quorum_far0 (n ep : Int) (a : Option Addr) (a2 : Option Addr) (cap cap2 : Nat) (ns who : List Int) (other : Int) (w : World)  (h0 : (n < 1)) (hn : ns.length ≤ 9223372036854775807) (hx : who.length ≤ 9223372036854775807) :
    Calls Try.prog 5 #[.int .i64 n, cfgq ep a ns.length cap, .slice a2 who.length cap2, .int .i64 other] w fun e w' => e = .returned (.bool true) ∧ Below w.heap.size w w' := by
  have hs : Held w (w.heap.size + 1) [(⟨w.heap.size, 0, none⟩, .int .i64 ep), (⟨w.heap.size, 1, none⟩, .slice a ns.length cap)] (w.alloc (Obj.cells #[.int .i64 ep, .slice a ns.length cap] 24)) := by
    refine ⟨by simp, ?_, by simp, (Below.refl _ _).alloc (Nat.le_refl _) _, by omega⟩
    simp [AllC, go_sem]
  have HS0 := Lib.hid hs
  clear hs
  go_enter Try.func5, Try.ntmps5
  go_wp2_with (go_at_call 13; refine (works_any _).mono ?_; rintro e w1 ⟨rfl, hb⟩; have hn := HS0.out.kept hb; clear hb; have HS := Lib.hid hn; have hc := hn.cells; dsimp only [AllC] at hc; clear hn; go_split_ands)
  go_ret
  exact ⟨rfl, HS.out.below⟩

set_option maxHeartbeats 1000000 in
theorem quorum_far1 (n ep : Int) (a : Option Addr) (a2 : Option Addr) (cap cap2 : Nat) (ns who : List Int) (other : Int) (w : World) (h0 : ¬ (n < 1)) (h1 : ((100000 : Int) < n)) (hn : ns.length ≤ 9223372036854775807) (hx : who.length ≤ 9223372036854775807) :
    Calls Try.prog 5 #[.int .i64 n, cfgq ep a ns.length cap, .slice a2 who.length cap2, .int .i64 other] w fun e w' => e = .returned (.bool true) ∧ Below w.heap.size w w' := by
  have hs : Held w (w.heap.size + 1) [(⟨w.heap.size, 0, none⟩, .int .i64 ep), (⟨w.heap.size, 1, none⟩, .slice a ns.length cap)] (w.alloc (Obj.cells #[.int .i64 ep, .slice a ns.length cap] 24)) := by
    refine ⟨by simp, ?_, by simp, (Below.refl _ _).alloc (Nat.le_refl _) _, by omega⟩
    simp [AllC, go_sem]
  have HS0 := Lib.hid hs
  clear hs
  go_enter Try.func5, Try.ntmps5
  go_wp2_with (go_at_call 13; refine (works_any _).mono ?_; rintro e w1 ⟨rfl, hb⟩; have hn := HS0.out.kept hb; clear hb; have HS := Lib.hid hn; have hc := hn.cells; dsimp only [AllC] at hc; clear hn; go_split_ands)
  go_ret
  exact ⟨rfl, HS.out.below⟩

set_option maxHeartbeats 1000000 in
theorem quorum_far2 (n ep : Int) (a : Option Addr) (a2 : Option Addr) (cap cap2 : Nat) (ns who : List Int) (other : Int) (w : World) (h0 : ¬ (n < 1)) (h1 : ¬ ((100000 : Int) < n)) (h2 : ((60 : Int) < (ns.length : Int))) (hn : ns.length ≤ 9223372036854775807) (hx : who.length ≤ 9223372036854775807) :
    Calls Try.prog 5 #[.int .i64 n, cfgq ep a ns.length cap, .slice a2 who.length cap2, .int .i64 other] w fun e w' => e = .returned (.bool true) ∧ Below w.heap.size w w' := by
  have hs : Held w (w.heap.size + 1) [(⟨w.heap.size, 0, none⟩, .int .i64 ep), (⟨w.heap.size, 1, none⟩, .slice a ns.length cap)] (w.alloc (Obj.cells #[.int .i64 ep, .slice a ns.length cap] 24)) := by
    refine ⟨by simp, ?_, by simp, (Below.refl _ _).alloc (Nat.le_refl _) _, by omega⟩
    simp [AllC, go_sem]
  have HS0 := Lib.hid hs
  clear hs
  go_enter Try.func5, Try.ntmps5
  go_wp2_with (go_at_call 13; refine (works_any _).mono ?_; rintro e w1 ⟨rfl, hb⟩; have hn := HS0.out.kept hb; clear hb; have HS := Lib.hid hn; have hc := hn.cells; dsimp only [AllC] at hc; clear hn; go_split_ands)
  go_ret
  exact ⟨rfl, HS.out.below⟩

set_option maxHeartbeats 1000000 in
theorem quorum_far3 (n ep : Int) (a : Option Addr) (a2 : Option Addr) (cap cap2 : Nat) (ns who : List Int) (other : Int) (w : World) (h0 : ¬ (n < 1)) (h1 : ¬ ((100000 : Int) < n)) (h2 : ¬ ((60 : Int) < (ns.length : Int))) (h3 : ((60 : Int) < (who.length : Int))) (hn : ns.length ≤ 9223372036854775807) (hx : who.length ≤ 9223372036854775807) :
    Calls Try.prog 5 #[.int .i64 n, cfgq ep a ns.length cap, .slice a2 who.length cap2, .int .i64 other] w fun e w' => e = .returned (.bool true) ∧ Below w.heap.size w w' := by
  have hs : Held w (w.heap.size + 1) [(⟨w.heap.size, 0, none⟩, .int .i64 ep), (⟨w.heap.size, 1, none⟩, .slice a ns.length cap)] (w.alloc (Obj.cells #[.int .i64 ep, .slice a ns.length cap] 24)) := by
    refine ⟨by simp, ?_, by simp, (Below.refl _ _).alloc (Nat.le_refl _) _, by omega⟩
    simp [AllC, go_sem]
  have HS0 := Lib.hid hs
  clear hs
  go_enter Try.func5, Try.ntmps5
  go_wp2_with (go_at_call 13; refine (works_any _).mono ?_; rintro e w1 ⟨rfl, hb⟩; have hn := HS0.out.kept hb; clear hb; have HS := Lib.hid hn; have hc := hn.cells; dsimp only [AllC] at hc; clear hn; go_split_ands)
  go_ret
  exact ⟨rfl, HS.out.below⟩
end Go.Proofs.Ytckjlglinmmohac
