/-
  What is written is read again: numbers and texts, plain.
-/
import Derived.Test.YtllcmapgigfgoaaNumQ
namespace Go.Proofs.Ytllcmapgigfgoaa
set_option linter.unusedSimpArgs false
set_option linter.unusedVariables false
theorem enc_len8 (n : Int) : (enc n).length ≤ 8 := by
  have key : ∀ (f : Nat) (m : Int), (encN f m).length ≤ f := by
    intro f
    induction f with
    | zero => intro m; simp [encN]
    | succ f ih =>
      intro m
      rw [encN_succ]
      split
      · simp
      · rw [List.length_cons]; have := ih (m / 128); omega
  exact key 8 n
theorem numG_back_g : ∀ (g f i : Nat) (acc m : Int) (R : List Int), 0 ≤ m → m < 128 ^ g → 1 ≤ g → g ≤ f → sizeN (acc + 128 ^ i * m) = (i : Int) + (encN g m).length → numG f i acc (encN g m ++ R) = (acc + 128 ^ i * m, (i : Int) + (encN g m).length, 0)
  | 0, _, _, _, _, _, _, _, h, _, _ => by omega
  | g + 1, 0, _, _, _, _, _, _, _, h, _ => by omega
  | g + 1, f + 1, i, acc, m, R, h0, hm, _, hf, hs => by
    rw [encN_succ] at hs ⊢
    by_cases q : m < 128
    · rw [if_pos q] at hs ⊢
      simp only [List.cons_append, List.nil_append, List.length_singleton] at hs ⊢
      unfold numG
      rw [if_neg (by omega), show m % 128 = m from by omega, if_pos (by simpa using hs)]
      rfl
    · rw [if_neg q] at hs ⊢
      simp only [List.cons_append, List.length_cons] at hs ⊢
      unfold numG
      rw [if_pos (by omega), show (m % 128 + 128) % 128 = m % 128 from by omega]
      have hg1 : 1 ≤ g := by
        by_cases z : g = 0
        · subst z; have : (128 : Int) ^ (0 + 1) = 128 := by decide
          omega
        · omega
      have e : acc + 128 ^ i * (m % 128) + 128 ^ (i + 1) * (m / 128) = acc + 128 ^ i * m := by
        rw [Int.pow_succ, Int.mul_assoc, Int.add_assoc, ← Int.mul_add]
        congr 2
        omega
      have hm2 : m / 128 < 128 ^ g := by rw [Int.pow_succ] at hm; omega
      have key := numG_back_g g f (i + 1) (acc + 128 ^ i * (m % 128)) (m / 128) R (by omega) hm2 hg1 (by omega) (by rw [e, hs]; omega)
      rw [key, e]
      simp only [Prod.mk.injEq, true_and, and_true]
      omega
theorem numG_back (n : Int) (R : List Int) (h : okN n) : numG 8 0 0 (enc n ++ R) = (n, sizeN n, 0) := by
  have hl := enc_length n h.1 h.2
  have p : (128 : Int) ^ 8 = 72057594037927936 := by decide
  have key := numG_back_g 8 8 0 0 n R h.1 (by rw [p]; have := h.2; omega) (by omega) (by omega) (by
    show sizeN (0 + 1 * n) = ((0 : Nat) : Int) + (enc n).length
    rw [hl, show (0 : Int) + 1 * n = n from by omega]; omega)
  show numG 8 0 0 (encN 8 n ++ R) = _
  rw [key]
  have hl2 : ((encN 8 n).length : Int) = sizeN n := hl
  rw [hl2]
  simp
theorem textN_back (s : ByteArray) (R : List Int) (most : Int) (h : s.size ≤ 100000000) (hm : (s.size : Int) ≤ most) : textN most (enc s.size ++ byt s ++ R) = (byt s, R, 0) := by
  have ok : okN (s.size : Int) := ⟨by omega, by omega⟩
  have hl := enc_length s.size ok.1 ok.2
  have hn := numG_back s.size (byt s ++ R) ok
  rw [← List.append_assoc] at hn
  have hl1 : (sizeN s.size).toNat = (enc s.size).length := by omega
  unfold textN
  rw [hn]
  simp only
  rw [if_neg (by simp), if_neg (by omega), if_neg (by simp [byt_length]; omega), hl1, Int.toNat_natCast]
  refine Prod.ext ?_ (Prod.ext ?_ rfl)
  · simp only
    rw [List.append_assoc, List.drop_left, ← byt_length s, List.take_left]
  · simp only
    rw [← byt_length s, ← List.length_append, List.drop_left]
end Go.Proofs.Ytllcmapgigfgoaa
