/-
  The walks of package paths: names.
-/
import Derived.Test.YtdhmalpeooobfaaPthI
import Derived.Test.YtdhmalpeooobfaaTxt
import Derived.Shelf.GgClosure.Gives
namespace Go.Proofs.Ytdhmalpeooobfaa
open Go.RowKit
set_option linter.unusedSimpArgs false
set_option linter.unusedVariables false

theorem odd_any (x : Nat) (w : World) : Calls Try.prog 42 #[.int .i32 (x : Int)] w fun e w' => e = .returned (.bool (oddR x)) ∧ w = w' := by
  by_cases h1 : 97 ≤ x
  · by_cases h2 : x ≤ 122
    · have e : oddR x = false := by unfold oddR; simp [h1, h2]
      rw [e]
      have k1 : (97 : Int) ≤ (x : Int) := by omega
      have k2 : (x : Int) ≤ 122 := by omega
      have k3 : ¬ (x : Int) ≤ 57 := by omega
      clear e
      go_enter Try.func42, Try.ntmps42
      go_wp2
      go_ret
      exact ⟨rfl, rfl⟩
    · have e : oddR x = true := by
        unfold oddR
        have : ¬ x ≤ 57 := by omega
        have q1 : ¬ x = 45 := by omega
        have q2 : ¬ x = 95 := by omega
        simp [h2, this, q1, q2]
      rw [e]
      have k1 : (97 : Int) ≤ (x : Int) := by omega
      have k2 : ¬ (x : Int) ≤ 122 := by omega
      have k3 : ¬ (x : Int) ≤ 57 := by omega
      have k4 : ((x : Int) == 45) = false := by simp; omega
      have k5 : ((x : Int) == 95) = false := by simp; omega
      have k6 : (48 : Int) ≤ (x : Int) := by omega
      clear e
      go_enter Try.func42, Try.ntmps42
      go_wp2
      go_ret
      exact ⟨rfl, rfl⟩
  · have k1 : ¬ (97 : Int) ≤ (x : Int) := by omega
    by_cases h3 : 48 ≤ x ∧ x ≤ 57
    · have e : oddR x = false := by unfold oddR; simp [h3]
      rw [e]
      have k2 : (48 : Int) ≤ (x : Int) := by omega
      have k3 : (x : Int) ≤ 57 := by omega
      clear e
      go_enter Try.func42, Try.ntmps42
      go_wp2
      go_ret
      exact ⟨rfl, rfl⟩
    · have e : oddR x = (!(decide (x = 45)) && !(decide (x = 95))) := by
        unfold oddR
        have q : ¬ (48 ≤ x ∧ x ≤ 57) := h3
        by_cases a : 48 ≤ x
        · have : ¬ x ≤ 57 := fun b => h3 ⟨a, b⟩
          simp [h1, a, this]
        · simp [h1, a]
      have kk : (48 : Int) ≤ (x : Int) → ¬ (x : Int) ≤ 57 := by omega
      by_cases h5 : x = 45
      · subst h5
        go_enter Try.func42, Try.ntmps42
        go_wp2
        go_ret
        exact ⟨rfl, rfl⟩
      · by_cases h6 : x = 95
        · subst h6
          go_enter Try.func42, Try.ntmps42
          go_wp2
          go_ret
          exact ⟨rfl, rfl⟩
        · have e2 : oddR x = true := by rw [e]; simp [h5, h6]
          rw [e2]
          have k4 : ((x : Int) == 45) = false := by simp; omega
          have k5 : ((x : Int) == 95) = false := by simp; omega
          clear e e2 h5 h6 h3
          by_cases a : (48 : Int) ≤ (x : Int)
          · have b := kk a
            clear kk
            go_enter Try.func42, Try.ntmps42
            go_wp2
            go_ret
            exact ⟨rfl, rfl⟩
          · clear kk
            go_enter Try.func42, Try.ntmps42
            go_wp2
            go_ret
            exact ⟨rfl, rfl⟩
theorem odd_pays (w : World) : Go.Proofs.PredAt Try.prog 42 #[] encR oddR w := fun W x _ => (odd_any x W).mono fun e w' ⟨he, hw⟩ => ⟨he, 0, hw.symm⟩
end Go.Proofs.Ytdhmalpeooobfaa
