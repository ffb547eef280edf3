/-
  The walks of package num.
-/
import Derived.Test.YtllcmapgigfgoaaNumM
import Derived.Test.YtllcmapgigfgoaaByt
import Derived.WalkKit
import Derived.WalkSpells
import Derived.WalkLawsBesides
import Derived.StillTactics
import Derived.Laws.Pointers
import Derived.LoopTactic
import Derived.Deep.QuietTactic
import Derived.BigQuiet
import Derived.Lib.Hide
import Derived.Outline
namespace Go.Proofs.Ytllcmapgigfgoaa
open Go.RowKit
set_option linter.unusedSimpArgs false
set_option linter.unusedVariables false


set_option maxHeartbeats 800000 in
theorem size_any (n : Int) (w : World) : Calls Try.prog 112 #[.int .i64 n] w fun e w' => e = .returned (.int .i64 (sizeN n)) ∧ w = w' := by
  by_cases h0 : n < 0
  · have e : sizeN n = 0 := by unfold sizeN; rw [if_neg (by omega)]
    rw [e]
    go_enter Try.func112, Try.ntmps112
    go_wp2
    go_ret
    exact ⟨rfl, rfl⟩
  by_cases h1 : 281474976710656 < n
  · have e : sizeN n = 0 := by unfold sizeN; rw [if_neg (by omega)]
    rw [e]
    go_enter Try.func112, Try.ntmps112
    go_wp2
    go_ret
    exact ⟨rfl, rfl⟩
  · have e : sizeN n = 1 + remN (n / 128) := by unfold sizeN; rw [if_pos (by omega)]
    have E := Lib.hid e
    clear e
    have d0 : decide (n < 0) = false := by simpa using h0
    have d1 : decide ((281474976710656 : Int) < n) = false := by simpa using h1
    go_enter Try.func112, Try.ntmps112
    go_wp2
    go_loop [0, 3] (fun a c => ∃ m s : Int, 0 ≤ m ∧ m ≤ 2199023255552 ∧ 1 ≤ s ∧ s ≤ 8 ∧ a = .int .i64 m ∧ c = .int .i64 s ∧ Hid (s + remN m = sizeN n)) (fun a _ => (intOf a).toNat)
    case atStart => exact ⟨n / 128, 1, by omega, by omega, by omega, by omega, rfl, rfl, E.out.symm⟩
    case round =>
      obtain ⟨m, s, hm0, hm1, hs0, hs1, rfl, rfl, hH⟩ := hrel
      by_cases hlt : 0 < m
      · have hr := remN_div m (by omega) (by omega)
        have hrr := remN_range (m / 128)
        have hsz := sizeN_range n
        have hs2 : s + 1 + remN (m / 128) = sizeN n := by have := hH.out; omega
        have HS : Hid (s + 1 + remN (m / 128) = sizeN n) := hs2
        have hs3 : s + 1 ≤ 8 := by omega
        clear hr hrr hsz hs2
        go_wp2
        go_round
        case rel => exact ⟨m / 128, s + 1, by omega, by omega, by omega, by omega, rfl, rfl, HS⟩
        case measure => simp [intOf]; omega
      · have hz : s = sizeN n := by have := hH.out; rw [remN_zero m (by omega)] at this; omega
        have HZ := Lib.hid hz
        clear hz
        go_wp2
        go_ret
        exact ⟨ret_int HZ.out, rfl⟩
end Go.Proofs.Ytllcmapgigfgoaa
