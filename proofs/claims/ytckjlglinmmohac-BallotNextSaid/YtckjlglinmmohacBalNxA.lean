/-
  The walk of BallotNext, one theorem for each way through its tests.
-/
import Derived.Test.YtckjlglinmmohacBalN
import Derived.Deep.DeepCutAuto
namespace Go.Proofs.Ytckjlglinmmohac
open Go.RowKit
set_option linter.unusedSimpArgs false
set_option linter.unusedVariables false

set_option maxHeartbeats 4000000 in
theorem next_bad1 (a1 a2 b1 b2 m n : Int) (hva : vaB a1 a2 = false) (w : World) : Calls Try.prog 4 #[pr a1 a2, pr b1 b2, .int .i64 m, .int .i64 n] w fun e w' => e = .returned (.bool true) ∧ Below w.heap.size w w' := by
  have hs : Held w (w.heap.size + 1 + 1) [(⟨w.heap.size, 0, none⟩, (Value.int IntKind.i64 a1)), (⟨w.heap.size, 1, none⟩, (Value.int IntKind.i64 a2)), (⟨w.heap.size + 1, 0, none⟩, (Value.int IntKind.i64 b1)), (⟨w.heap.size + 1, 1, none⟩, (Value.int IntKind.i64 b2))] ((w.alloc (Obj.cells #[(Value.int IntKind.i64 a1), (Value.int IntKind.i64 a2)] 30)).alloc (Obj.cells #[(Value.int IntKind.i64 b1), (Value.int IntKind.i64 b2)] 30)) := by
    refine ⟨by simp; omega, ?_, by simp, ((Below.refl _ _).alloc (Nat.le_refl _) _).alloc (by simp) _, by omega⟩
    simp [AllC, go_sem]
  have HS0 := Lib.hid hs
  clear hs
  have Hhva := Lib.hid hva; clear hva
  go_enter Try.func4, Try.ntmps4
  go_wp2_with (first
    | (go_at_call 13; refine (works_any _).mono ?_; rintro e w1 ⟨rfl, hb⟩; have hn := HS0.out.kept hb; clear hb; have HS := Lib.hid hn; have hc := hn.cells; dsimp only [AllC] at hc; clear hn; go_split_ands)
    | (go_at_call 16; refine (valid_any _ _ _).mono ?_; simp only [Hhva.out]; rintro e w1 ⟨rfl, hb⟩; have hn := HS.out.kept hb; clear HS hb; have HS := Lib.hid hn; have hc := hn.cells; dsimp only [AllC] at hc; clear hn; go_split_ands))
  go_ret
  exact ⟨rfl, HS.out.below⟩

set_option maxHeartbeats 4000000 in
theorem next_bad2 (a1 a2 b1 b2 m n : Int) (hva : vaB a1 a2 = true) (hvb : vaB b1 b2 = false) (w : World) : Calls Try.prog 4 #[pr a1 a2, pr b1 b2, .int .i64 m, .int .i64 n] w fun e w' => e = .returned (.bool true) ∧ Below w.heap.size w w' := by
  have hs : Held w (w.heap.size + 1 + 1) [(⟨w.heap.size, 0, none⟩, (Value.int IntKind.i64 a1)), (⟨w.heap.size, 1, none⟩, (Value.int IntKind.i64 a2)), (⟨w.heap.size + 1, 0, none⟩, (Value.int IntKind.i64 b1)), (⟨w.heap.size + 1, 1, none⟩, (Value.int IntKind.i64 b2))] ((w.alloc (Obj.cells #[(Value.int IntKind.i64 a1), (Value.int IntKind.i64 a2)] 30)).alloc (Obj.cells #[(Value.int IntKind.i64 b1), (Value.int IntKind.i64 b2)] 30)) := by
    refine ⟨by simp; omega, ?_, by simp, ((Below.refl _ _).alloc (Nat.le_refl _) _).alloc (by simp) _, by omega⟩
    simp [AllC, go_sem]
  have HS0 := Lib.hid hs
  clear hs
  have Hhva := Lib.hid hva; clear hva
  have Hhvb := Lib.hid hvb; clear hvb
  go_enter Try.func4, Try.ntmps4
  go_wp2_with (first
    | (go_at_call 13; refine (works_any _).mono ?_; rintro e w1 ⟨rfl, hb⟩; have hn := HS0.out.kept hb; clear hb; have HS := Lib.hid hn; have hc := hn.cells; dsimp only [AllC] at hc; clear hn; go_split_ands)
    | (go_at_call 16; refine (valid_any _ _ _).mono ?_; simp only [Hhva.out, Hhvb.out]; rintro e w1 ⟨rfl, hb⟩; have hn := HS.out.kept hb; clear HS hb; have HS := Lib.hid hn; have hc := hn.cells; dsimp only [AllC] at hc; clear hn; go_split_ands))
  go_ret
  exact ⟨rfl, HS.out.below⟩
end Go.Proofs.Ytckjlglinmmohac
