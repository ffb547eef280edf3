/-
  FrameJoins, for every input.
-/
import Derived.Test.YtcieilbnlbielaaFrmK
namespace Go.Proofs.Ytcieilbnlbielaa
open Go.RowKit
set_option linter.unusedSimpArgs false
set_option linter.unusedVariables false

set_option maxRecDepth 100000 in
set_option maxHeartbeats 4000000 in
theorem joins_law (a : Option Addr) (cap : Nat) (A : List ByteArray) (a' : Option Addr) (cap' : Nat) (B : List ByteArray) (rest : ByteArray) (w : World)
    (hA : SRd w a A ∧ (a = none → cap = 0)) (hzA : ∀ s ∈ A, s.size ≤ maxLen) (hB : SRd w a' B ∧ (a' = none → cap' = 0)) (hzB : ∀ s ∈ B, s.size ≤ maxLen) :
    Calls Try.prog 7 #[.slice a A.length cap, .slice a' B.length cap', .string rest] w fun e w' => e = .returned (.bool true) ∧ Below w.heap.size w w' := by
  have HSA := Lib.hid hA.1
  have HSB := Lib.hid hB.1
  by_cases oA : overB A = false
  · by_cases oB : overB B = false
    · by_cases hr : rest.size ≤ 500
      · exact joins_in a cap A a' cap' B rest w hA.1 hA.2 hzA hB.1 hB.2 hzB oA oB hr
      · have HOA := Lib.hid oA
        have HOB := Lib.hid oB
        have t1 : decide ((500 : Int) < rest.size) = true := by simp; omega
        clear hA hB hzA hzB oA oB
        go_enter Try.func7, Try.ntmps7
        go_wp2_with fail
        refine (works_any _).mono ?_
        rintro e w1 ⟨rfl, hb1⟩
        have HB1 := Lib.hid hb1
        clear hb1
        go_wp2_with fail
        refine (over_any a cap A _ (HSA.out.below HB1.out)).mono ?_
        rw [HOA.out]
        rintro e w2 ⟨rfl, rfl⟩
        go_wp2_with fail
        refine (over_any a' cap' B _ (HSB.out.below HB1.out)).mono ?_
        rw [HOB.out]
        rintro e w2 ⟨rfl, rfl⟩
        go_wp2
        go_ret
        exact ⟨rfl, HB1.out⟩
    · have oB : overB B = true := by simpa using oB
      have HOA := Lib.hid oA
      have HOB := Lib.hid oB
      clear hA hB hzA hzB oA oB
      go_enter Try.func7, Try.ntmps7
      go_wp2_with fail
      refine (works_any _).mono ?_
      rintro e w1 ⟨rfl, hb1⟩
      have HB1 := Lib.hid hb1
      clear hb1
      go_wp2_with fail
      refine (over_any a cap A _ (HSA.out.below HB1.out)).mono ?_
      rw [HOA.out]
      rintro e w2 ⟨rfl, rfl⟩
      go_wp2_with fail
      refine (over_any a' cap' B _ (HSB.out.below HB1.out)).mono ?_
      rw [HOB.out]
      rintro e w2 ⟨rfl, rfl⟩
      go_wp2
      go_ret
      exact ⟨rfl, HB1.out⟩
  · have oA : overB A = true := by simpa using oA
    have HOA := Lib.hid oA
    clear hA hB hzA hzB oA
    go_enter Try.func7, Try.ntmps7
    go_wp2_with fail
    refine (works_any _).mono ?_
    rintro e w1 ⟨rfl, hb1⟩
    have HB1 := Lib.hid hb1
    clear hb1
    go_wp2_with fail
    refine (over_any a cap A _ (HSA.out.below HB1.out)).mono ?_
    rw [HOA.out]
    rintro e w2 ⟨rfl, rfl⟩
    go_wp2
    go_ret
    exact ⟨rfl, HB1.out⟩
end Go.Proofs.Ytcieilbnlbielaa
