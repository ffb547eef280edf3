/-
  Plain arithmetic of numbers that are written: longer is not less, and unlike numbers are written unlike.
-/
import Derived.Test.YtllcmapgigfgoaaRn9
namespace Go.Proofs.Ytllcmapgigfgoaa
set_option linter.unusedSimpArgs false
set_option linter.unusedVariables false
theorem geN_mono {x y : Int} (k : Int) (h : x ≤ y) : geN x k ≤ geN y k := by
  unfold geN
  by_cases g : k ≤ x
  · rw [if_pos g, if_pos (by omega)]; omega
  · rw [if_neg g]; split <;> omega
theorem remN_mono {x y : Int} (h : x ≤ y) : remN x ≤ remN y := by
  unfold remN
  have a1 := geN_mono 1 h
  have a2 := geN_mono 128 h
  have a3 := geN_mono 16384 h
  have a4 := geN_mono 2097152 h
  have a5 := geN_mono 268435456 h
  have a6 := geN_mono 34359738368 h
  have a7 := geN_mono 4398046511104 h
  omega
abbrev okN (n : Int) : Prop := 0 ≤ n ∧ n ≤ 281474976710656
theorem sizeN_mono {a b : Int} (ha : okN a) (hb : okN b) (h : a ≤ b) : sizeN a ≤ sizeN b := by
  unfold sizeN
  rw [if_pos ha, if_pos hb]
  have := remN_mono (show a / 128 ≤ b / 128 by omega)
  omega
theorem sizeN_seven {a : Int} (ha : okN a) : 1 ≤ sizeN a ∧ sizeN a ≤ 7 := by
  unfold sizeN
  rw [if_pos ha]
  have r := remN_range (a / 128)
  have t : geN (a / 128) 4398046511104 = 0 := by unfold geN; rw [if_neg (by have := ha.2; omega)]
  have g : ∀ x k : Int, geN x k ≤ 1 := by intro x k; unfold geN; split <;> omega
  have a1 := g (a / 128) 1
  have a2 := g (a / 128) 128
  have a3 := g (a / 128) 16384
  have a4 := g (a / 128) 2097152
  have a5 := g (a / 128) 268435456
  have a6 := g (a / 128) 34359738368
  refine ⟨by omega, ?_⟩
  unfold remN
  omega
/-- The number that digits say. -/
def valN : List Int → Int
  | [] => 0
  | x :: r => x % 128 + 128 * valN r
theorem val_encN : ∀ (f : Nat) (m : Int), 0 ≤ m → m < 128 ^ f → valN (encN f m) = m
  | 0, m, a, b => by
    have : m < 1 := by simpa using b
    simp [encN, valN]; omega
  | f + 1, m, a, b => by
    rw [encN_succ]
    split
    · simp [valN]; omega
    · rw [Int.pow_succ] at b
      have := val_encN f (m / 128) (by omega) (by omega)
      simp only [valN]
      rw [this]; omega
theorem enc_inj {a b : Int} (ha : okN a) (hb : okN b) (h : enc a = enc b) : a = b := by
  have p : (128 : Int) ^ 8 = 72057594037927936 := by decide
  have va := val_encN 8 a ha.1 (by rw [p]; have := ha.2; omega)
  have vb := val_encN 8 b hb.1 (by rw [p]; have := hb.2; omega)
  unfold enc at h
  rw [h] at va
  omega
theorem encN_bytes : ∀ (f : Nat) (m : Int), 0 ≤ m → ∀ x ∈ encN f m, 0 ≤ x ∧ x ≤ 255
  | 0, m, _, x, hx => by simp [encN] at hx
  | f + 1, m, a, x, hx => by
    rw [encN_succ] at hx
    split at hx
    · simp at hx; omega
    · rcases List.mem_cons.1 hx with h | h
      · omega
      · exact encN_bytes f (m / 128) (by omega) x h
theorem txt_inj {xs ys : List Int} (hx : ∀ x ∈ xs, 0 ≤ x ∧ x ≤ 255) (hy : ∀ x ∈ ys, 0 ≤ x ∧ x ≤ 255) (h : txt xs = txt ys) : xs = ys := by
  rw [← byt_txt hx, ← byt_txt hy, h]
theorem str_enc {a b : Int} (ha : okN a) (hb : okN b) : txt (enc a) = txt (enc b) ↔ a = b :=
  ⟨fun h => enc_inj ha hb (txt_inj (encN_bytes 8 a ha.1) (encN_bytes 8 b hb.1) h), fun h => by rw [h]⟩
end Go.Proofs.Ytllcmapgigfgoaa
