/-
  How many digits a number has, to the base 128: plain arithmetic.
-/
import Derived.Test.YtllcmapgigfgoaaRows
namespace Go.Proofs.Ytllcmapgigfgoaa
set_option linter.unusedSimpArgs false
set_option linter.unusedVariables false
def geN (m k : Int) : Int := if k ≤ m then 1 else 0
/-- How many digits are left of a number that may be 0. -/
def remN (m : Int) : Int := geN m 1 + geN m 128 + geN m 16384 + geN m 2097152 + geN m 268435456 + geN m 34359738368 + geN m 4398046511104
/-- How many bytes a number is; 0 of one that can't be written. -/
def sizeN (n : Int) : Int := if 0 ≤ n ∧ n ≤ 281474976710656 then 1 + remN (n / 128) else 0
theorem geN_div (m k j : Int) (h : 1 ≤ k) (hj : j = k * 128) : geN (m / 128) k = geN m j := by
  subst hj
  unfold geN
  by_cases g : k ≤ m / 128
  · rw [if_pos g, if_pos (by omega)]
  · rw [if_neg g, if_neg (by omega)]
theorem remN_div (m : Int) (h : 1 ≤ m) (h2 : m < 562949953421312) : remN m = 1 + remN (m / 128) := by
  unfold remN
  rw [geN_div m 1 128 (by omega) (by omega), geN_div m 128 16384 (by omega) (by omega), geN_div m 16384 2097152 (by omega) (by omega), geN_div m 2097152 268435456 (by omega) (by omega), geN_div m 268435456 34359738368 (by omega) (by omega), geN_div m 34359738368 4398046511104 (by omega) (by omega), geN_div m 4398046511104 562949953421312 (by omega) (by omega)]
  have a : geN m 1 = 1 := by unfold geN; rw [if_pos h]
  have b : geN m 562949953421312 = 0 := by unfold geN; rw [if_neg (by omega)]
  rw [a, b]
  omega
theorem remN_zero (m : Int) (h : m ≤ 0) : remN m = 0 := by
  unfold remN geN
  rw [if_neg (by omega), if_neg (by omega), if_neg (by omega), if_neg (by omega), if_neg (by omega), if_neg (by omega), if_neg (by omega)]
  rfl
theorem remN_range (m : Int) : 0 ≤ remN m ∧ remN m ≤ 7 := by
  unfold remN geN
  repeat' split
  all_goals omega
theorem sizeN_range (n : Int) : 0 ≤ sizeN n ∧ sizeN n ≤ 8 := by
  unfold sizeN
  have := remN_range (n / 128)
  split <;> omega
/-- A number's bytes, the lowest digit first. -/
def encN : Nat → Int → List Int
  | 0, _ => []
  | f + 1, m => if m < 128 then [m] else (m % 128 + 128) :: encN f (m / 128)
def enc (m : Int) : List Int := encN 8 m
theorem encN_succ (f : Nat) (m : Int) : encN (f + 1) m = if m < 128 then [m] else (m % 128 + 128) :: encN f (m / 128) := rfl
theorem encN_more (f : Nat) : ∀ m : Int, m < 128 ^ (f + 1) → encN (f + 1) m = encN (f + 2) m := by
  induction f with
  | zero => intro m h; have : m < 128 := by simpa using h
            simp [encN, this]
  | succ f ih =>
    intro m h
    by_cases g : m < 128
    · simp [encN, g]
    · have h2 : m / 128 < 128 ^ (f + 1) := by
        rw [Int.pow_succ] at h
        omega
      rw [encN_succ (f + 1) m, encN_succ (f + 2) m, if_neg g, if_neg g, ih _ h2]
theorem enc_small (m : Int) (h : m < 128) : enc m = [m] := by unfold enc; rw [encN_succ, if_pos h]
theorem enc_step (m : Int) (h : 128 ≤ m) (h2 : m < 72057594037927936) : enc m = (m % 128 + 128) :: enc (m / 128) := by
  unfold enc
  rw [encN_succ, if_neg (by omega), encN_more 6 (m / 128) (by
    have : (128 : Int) ^ 7 = 562949953421312 := by decide
    show m / 128 < 128 ^ 7
    rw [this]; omega)]
theorem enc_length (m : Int) (h0 : 0 ≤ m) (h : m ≤ 281474976710656) : ((enc m).length : Int) = sizeN m := by
  have key : ∀ (f : Nat) (m : Int), 0 ≤ m → m < 562949953421312 → m < 128 ^ (f + 1) → ((encN (f + 1) m).length : Int) = 1 + remN (m / 128) := by
    intro f
    induction f with
    | zero => intro m a b c
              have : m < 128 := by simpa using c
              simp [encN, this]; rw [remN_zero _ (by omega)]; rfl
    | succ f ih =>
      intro m a b c
      by_cases g : m < 128
      · simp [encN, g]; rw [remN_zero _ (by omega)]; rfl
      · have h2 : m / 128 < 128 ^ (f + 1) := by
          rw [Int.pow_succ] at c
          omega
        rw [encN_succ, if_neg g, List.length_cons]
        have := ih (m / 128) (by omega) (by omega) h2
        rw [remN_div (m / 128) (by omega) (by omega)]
        omega
  unfold enc sizeN
  rw [if_pos ⟨h0, h⟩]
  exact key 7 m h0 (by omega) (by
    have : (128 : Int) ^ 8 = 72057594037927936 := by decide
    show m < 128 ^ 8
    rw [this]; omega)
end Go.Proofs.Ytllcmapgigfgoaa
