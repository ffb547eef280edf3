/-
  The walk of TouchBoth.
-/
import Derived.Test.YtphddigohmdbnaaTchW
namespace Go.Proofs.Ytphddigohmdbnaa
open Go.RowKit
set_option linter.unusedSimpArgs false
set_option linter.unusedVariables false

def ovr (p1 x1 p2 x2 : ByteArray) : Bool := decide (300 < p1.size) || decide (300 < x1.size) || decide (300 < p2.size) || decide (300 < x2.size)
set_option maxHeartbeats 2000000 in
theorem over2_any (g : Nat) (p1 x1 p2 x2 : ByteArray) (w : World) (d3 : w.cell? ⟨g, 3, none⟩ = some (.string p1)) (d4 : w.cell? ⟨g, 4, none⟩ = some (.string x1)) (d11 : w.cell? ⟨g, 11, none⟩ = some (.string p2)) (d12 : w.cell? ⟨g, 12, none⟩ = some (.string x2)) :
    Calls Try.prog 9 #[.slice (some ⟨g, 0, none⟩) 2 2] w fun e w' => e = .returned (.bool (ovr p1 x1 p2 x2)) ∧ w = w' := by
  obtain ⟨R, hR⟩ : ∃ R, ovr p1 x1 p2 x2 = R := ⟨_, rfl⟩
  rw [hR]
  have HR := Lib.hid hR
  clear hR
  go_enter Try.func9, Try.ntmps9
  go_wp2_with fail
  go_loop [3] (fun i => ∃ k : Nat, k ≤ 2 ∧ i = .int .i64 k ∧ Hid (0 < k → p1.size ≤ 300 ∧ x1.size ≤ 300) ∧ Hid (1 < k → p2.size ≤ 300 ∧ x2.size ≤ 300)) (fun i => 2 - (intOf i).toNat)
  case atStart => exact ⟨0, by omega, rfl, Lib.hid (fun h => by omega), Lib.hid (fun h => by omega)⟩
  case round =>
    obtain ⟨k, hk, rfl, h1, h2⟩ := hrel
    have hk3 : k = 0 ∨ k = 1 ∨ k = 2 := by omega
    rcases hk3 with rfl | rfl | rfl
    · by_cases y1 : (300 : Int) < p1.size
      · have e : R = true := by rw [← HR.out]; unfold ovr; have : 300 < p1.size := by omega
                                simp [this]
        subst e
        clear h1 h2 HR
        go_wp2
        go_ret
        exact ⟨rfl, rfl⟩
      · by_cases y2 : (300 : Int) < x1.size
        · have e : R = true := by rw [← HR.out]; unfold ovr; have : 300 < x1.size := by omega
                                  simp [this]
          subst e
          clear h1 h2 HR
          go_wp2
          go_ret
          exact ⟨rfl, rfl⟩
        · go_wp2
          go_round
          case rel => exact ⟨1, by omega, rfl, Lib.hid (fun _ => ⟨by omega, by omega⟩), Lib.hid (fun h => by omega)⟩
          case measure => simp [intOf]
    · by_cases y1 : (300 : Int) < p2.size
      · have e : R = true := by rw [← HR.out]; unfold ovr; have : 300 < p2.size := by omega
                                simp [this]
        subst e
        clear h1 h2 HR
        go_wp2
        go_ret
        exact ⟨rfl, rfl⟩
      · by_cases y2 : (300 : Int) < x2.size
        · have e : R = true := by rw [← HR.out]; unfold ovr; have : 300 < x2.size := by omega
                                  simp [this]
          subst e
          clear h1 h2 HR
          go_wp2
          go_ret
          exact ⟨rfl, rfl⟩
        · go_wp2
          go_round
          case rel => exact ⟨2, by omega, rfl, Lib.hid (fun _ => h1.out (by omega)), Lib.hid (fun _ => ⟨by omega, by omega⟩)⟩
          case measure => simp [intOf]
    · have e : R = false := by
        have q1 := h1.out (by omega)
        have q2 := h2.out (by omega)
        rw [← HR.out]
        unfold ovr
        have e1 : ¬ 300 < p1.size := by omega
        have e2 : ¬ 300 < x1.size := by omega
        have e3 : ¬ 300 < p2.size := by omega
        have e4 : ¬ 300 < x2.size := by omega
        simp [e1, e2, e3, e4]
      subst e
      clear h1 h2 HR
      go_wp2
      go_ret
      exact ⟨rfl, rfl⟩
end Go.Proofs.Ytphddigohmdbnaa
