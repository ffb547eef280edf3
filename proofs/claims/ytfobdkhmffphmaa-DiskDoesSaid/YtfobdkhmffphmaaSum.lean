/-
  The walks of package sum's step, and of the document's.
-/
import Derived.Test.YtfobdkhmffphmaaSumM
import Derived.Test.YtfobdkhmffphmaaArr
namespace Go.Proofs.Ytfobdkhmffphmaa
open Go.RowKit
set_option linter.unusedSimpArgs false
set_option linter.unusedVariables false

theorem xor32 (a b : Nat) (ha : a < 4294967296) (hb : b < 4294967296) : bits BinOp.xor IntKind.u32 (a : Int) (b : Int) = ((a ^^^ b : Nat) : Int) := u32_xor_nat a b ha hb
theorem odd32 (y : Nat) (hy : y < 4294967296) : bits BinOp.and IntKind.u32 (y : Int) 1 = ((y % 2 : Nat) : Int) := by
  have := u32_and_nat y 1 hy (by decide)
  rw [nat_mask1] at this
  exact this
theorem hal_odd {y : Nat} (hy : y < 4294967296) (h : y % 2 = 1) : bits BinOp.xor IntKind.u32 ((y : Int) / 2) 3988292384 = (hal y : Int) := by
  have := xor32 (y / 2) 3988292384 (by omega) (by decide)
  unfold hal
  rw [if_pos h]
  rw [← this]
  rfl
theorem hal_even {y : Nat} (h : ¬ y % 2 = 1) : (y : Int) / 2 = (hal y : Int) := by
  unfold hal
  rw [if_neg h]
  rfl
theorem hals_step {k y n : Nat} (hk : k < 8) (h : hals (8 - k) y = n) : hals (8 - (k + 1)) (hal y) = n := by
  rw [show 8 - k = (8 - (k + 1)) + 1 from by omega] at h
  exact h
set_option maxHeartbeats 800000 in
theorem sumstep_any (x : Nat) (w : World) (hx : x < 4294967296) : Calls Try.prog 38 #[.int .u32 x] w fun e w' => e = .returned (.int .u32 (stp x)) ∧ w = w' := by
  go_enter Try.func38, Try.ntmps38
  go_wp2
  go_loop [0, 4] (fun a c => ∃ k y : Nat, k ≤ 8 ∧ y < 4294967296 ∧ a = .int .u32 y ∧ c = .int .i64 k ∧ Hid (hals (8 - k) y = stp x)) (fun _ c => 8 - (intOf c).toNat)
  case atStart => exact ⟨0, x, by omega, hx, rfl, rfl, rfl⟩
  case round =>
    obtain ⟨k, y, hk, hy, rfl, rfl, hH⟩ := hrel
    by_cases hlt : k < 8
    · have hst := hals_step hlt hH.out
      have hl := hal_lt hy
      by_cases ho : y % 2 = 1
      · have hb : (bits BinOp.and IntKind.u32 (y : Int) 1 == 1) = true := by rw [odd32 y hy, ho]; rfl
        have hq := hal_odd hy ho
        have HST := Lib.hid hst
        have HQ := Lib.hid hq
        clear hst hq ho
        go_wp2
        go_round
        case rel => exact ⟨k + 1, hal y, by omega, hl, by rw [HQ.out], by go_num, HST.out⟩
        case measure => simp [intOf]; omega
      · have hb : (bits BinOp.and IntKind.u32 (y : Int) 1 == 1) = false := by rw [odd32 y hy, show y % 2 = 0 from by omega]; rfl
        have hq := hal_even ho
        have HST := Lib.hid hst
        have HQ := Lib.hid hq
        clear hst hq ho
        go_wp2
        go_round
        case rel => exact ⟨k + 1, hal y, by omega, hl, by rw [HQ.out], by go_num, HST.out⟩
        case measure => simp [intOf]; omega
    · have hz : y = stp x := by have := hH.out; rw [show 8 - k = 0 from by omega] at this; exact this
      subst hz
      go_wp2
      go_ret
      exact ⟨rfl, rfl⟩
set_option maxHeartbeats 800000 in
theorem rstep_any (x : Nat) (w : World) (hx : x < 4294967296) : Calls Try.prog 35 #[.int .u32 x] w fun e w' => e = .returned (.int .u32 (stp x)) ∧ w = w' := by
  go_enter Try.func35, Try.ntmps35
  go_wp2
  go_loop [0, 3] (fun a c => ∃ k y : Nat, k ≤ 8 ∧ y < 4294967296 ∧ a = .int .u32 y ∧ c = .int .i64 k ∧ Hid (hals (8 - k) y = stp x)) (fun _ c => 8 - (intOf c).toNat)
  case atStart => exact ⟨0, x, by omega, hx, rfl, rfl, rfl⟩
  case round =>
    obtain ⟨k, y, hk, hy, rfl, rfl, hH⟩ := hrel
    by_cases hlt : k < 8
    · have hst := hals_step hlt hH.out
      have hl := hal_lt hy
      by_cases ho : y % 2 = 1
      · have hb : ((y : Int) % 2 == 1) = true := by simp; omega
        have hq := hal_odd hy ho
        have HST := Lib.hid hst
        have HQ := Lib.hid hq
        clear hst hq ho
        go_wp2
        go_round
        case rel => exact ⟨k + 1, hal y, by omega, hl, by rw [HQ.out], by go_num, HST.out⟩
        case measure => simp [intOf]; omega
      · have hb : ((y : Int) % 2 == 1) = false := by simp; omega
        have hq := hal_even ho
        have HST := Lib.hid hst
        have HQ := Lib.hid hq
        clear hst hq ho
        go_wp2
        go_round
        case rel => exact ⟨k + 1, hal y, by omega, hl, by rw [HQ.out], by go_num, HST.out⟩
        case measure => simp [intOf]; omega
    · have hz : y = stp x := by have := hH.out; rw [show 8 - k = 0 from by omega] at this; exact this
      subst hz
      go_wp2
      go_ret
      exact ⟨rfl, rfl⟩
end Go.Proofs.Ytfobdkhmffphmaa
