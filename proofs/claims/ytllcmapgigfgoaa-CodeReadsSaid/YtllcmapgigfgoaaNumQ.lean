/-
  Plain arithmetic of numbers that are read: they are written as they were read.
-/
import Derived.Test.YtllcmapgigfgoaaNumP
namespace Go.Proofs.Ytllcmapgigfgoaa
set_option linter.unusedSimpArgs false
set_option linter.unusedVariables false
/-- Digits that go on, but the last one. -/
def WfD : List Int → Prop
  | [] => False
  | [x] => 0 ≤ x ∧ x < 128
  | x :: y :: r => 128 ≤ x ∧ x ≤ 255 ∧ WfD (y :: r)
theorem wfd_pos : ∀ l, WfD l → 0 ≤ valN l
  | [], h => h.elim
  | [x], h => by simp only [valN]; have := h.1; omega
  | x :: y :: r, h => by
    have := wfd_pos (y :: r) h.2.2
    simp only [valN] at this ⊢
    omega
theorem wfd_lt : ∀ l, WfD l → valN l < 128 ^ l.length
  | [], h => h.elim
  | [x], h => by simp only [valN, List.length_singleton]; have := h.2; omega
  | x :: y :: r, h => by
    have := wfd_lt (y :: r) h.2.2
    rw [List.length_cons, Int.pow_succ]
    show x % 128 + 128 * valN (y :: r) < _
    generalize valN (y :: r) = v at this
    generalize (128 : Int) ^ (y :: r).length = p at this
    omega
theorem enc_wfd : ∀ (l : List Int), WfD l → (l.length = 1 ∨ 128 ^ (l.length - 1) ≤ valN l) → encN l.length (valN l) = l
  | [], h, _ => h.elim
  | [x], h, _ => by
    have e : valN [x] = x := by simp only [valN]; have := h.1; have := h.2; omega
    rw [e]
    show encN (0 + 1) x = [x]
    rw [encN_succ, if_pos h.2]
  | x :: y :: r, h, hm => by
    have h2 := h.2.2
    have hx1 := h.1
    have hx2 := h.2.1
    have hm2 : 128 ^ (y :: r).length ≤ valN (x :: y :: r) := by
      rcases hm with q | q
      · simp at q
      · simpa using q
    have hv : valN (x :: y :: r) = x % 128 + 128 * valN (y :: r) := rfl
    have hp := wfd_pos (y :: r) h2
    have key : encN (y :: r).length (valN (y :: r)) = y :: r := by
      refine enc_wfd (y :: r) h2 ?_
      by_cases q : (y :: r).length = 1
      · exact .inl q
      · right
        have e : (y :: r).length = ((y :: r).length - 1) + 1 := by simp
        rw [e, Int.pow_succ] at hm2
        rw [hv] at hm2
        generalize (128 : Int) ^ ((y :: r).length - 1) = p at hm2
        omega
    have h1 : 1 ≤ valN (y :: r) := by
      rw [hv, List.length_cons, Int.pow_succ] at hm2
      have : (0 : Int) < 128 ^ r.length := Int.pow_pos (by decide)
      generalize (128 : Int) ^ r.length = p at hm2 this
      omega
    show encN ((y :: r).length + 1) (valN (x :: y :: r)) = x :: y :: r
    rw [encN_succ, hv, if_neg (by omega)]
    rw [show (x % 128 + 128 * valN (y :: r)) % 128 + 128 = x from by omega, show (x % 128 + 128 * valN (y :: r)) / 128 = valN (y :: r) from by omega, key]
theorem enc_fuel (f : Nat) (m : Int) (h : m < 128 ^ (f + 1)) : ∀ d, encN (f + 1) m = encN (f + 1 + d) m
  | 0 => rfl
  | d + 1 => by
    rw [enc_fuel f m h d]
    have : m < 128 ^ (f + d + 1) := by
      have e : (128 : Int) ^ (f + d + 1) = 128 ^ (f + 1) * 128 ^ d := by rw [← Int.pow_add]; congr 1; omega
      have p : (1 : Int) ≤ 128 ^ d := Int.pow_pos (by decide)
      have q : (0 : Int) < 128 ^ (f + 1) := Int.pow_pos (by decide)
      have := Int.mul_le_mul_of_nonneg_left p (Int.le_of_lt q)
      rw [e]; omega
    rw [show f + 1 + d = f + d + 1 from by omega, encN_more (f + d) m this, show f + 1 + (d + 1) = f + d + 2 from by omega]
theorem sizeN_low {n : Int} {k : Nat} (h : sizeN n = (k : Int)) (h2 : 2 ≤ k) (h8 : k ≤ 8) : 128 ^ (k - 1) ≤ n := by
  have hn : 0 ≤ n ∧ n ≤ 281474976710656 := by
    unfold sizeN at h
    by_cases q : 0 ≤ n ∧ n ≤ 281474976710656
    · exact q
    · rw [if_neg q] at h; omega
  unfold sizeN at h
  rw [if_pos hn] at h
  unfold remN geN at h
  obtain rfl | rfl | rfl | rfl | rfl | rfl | rfl : k = 2 ∨ k = 3 ∨ k = 4 ∨ k = 5 ∨ k = 6 ∨ k = 7 ∨ k = 8 := by omega
  · show (128 : Int) ≤ n
    repeat' split at h
    all_goals omega
  · show (16384 : Int) ≤ n
    repeat' split at h
    all_goals omega
  · show (2097152 : Int) ≤ n
    repeat' split at h
    all_goals omega
  · show (268435456 : Int) ≤ n
    repeat' split at h
    all_goals omega
  · show (34359738368 : Int) ≤ n
    repeat' split at h
    all_goals omega
  · show (4398046511104 : Int) ≤ n
    repeat' split at h
    all_goals omega
  · exfalso
    repeat' split at h
    all_goals omega
theorem sizeN_ok {n : Int} (h : 1 ≤ sizeN n) : okN n := by
  unfold sizeN at h
  by_cases q : 0 ≤ n ∧ n ≤ 281474976710656
  · exact q
  · rw [if_neg q] at h; omega
/-- What is read as a number. -/
theorem numG_digits : ∀ (f i : Nat) (acc : Int) (l : List Int), (∀ x ∈ l, 0 ≤ x ∧ x ≤ 255) → (numG f i acc l).2.2 = 0 → ∃ m : Nat, 1 ≤ m ∧ m ≤ f ∧ m ≤ l.length ∧ (numG f i acc l).2.1 = (i : Int) + m ∧ WfD (l.take m) ∧ (numG f i acc l).1 = acc + 128 ^ i * valN (l.take m) ∧ sizeN (numG f i acc l).1 = (i : Int) + m
  | 0, _, _, _, _, h => by simp [numG] at h
  | _ + 1, _, _, [], _, h => by simp [numG] at h
  | f + 1, i, acc, x :: r, hx, h => by
    have hx0 := hx x (by simp)
    unfold numG at h ⊢
    by_cases q : 128 ≤ x
    · rw [if_pos q] at h ⊢
      obtain ⟨m, h1, h2, h3, h4, h5, h6, h7⟩ := numG_digits f (i + 1) (acc + 128 ^ i * (x % 128)) r (fun y hy => hx y (by simp [hy])) h
      refine ⟨m + 1, by omega, by omega, by simp; omega, by rw [h4]; omega, ?_, ?_, by rw [h7]; omega⟩
      · rw [List.take_succ_cons]
        cases hr : r.take m with
        | nil => rw [hr] at h5; exact h5.elim
        | cons y t => rw [hr] at h5; exact ⟨q, hx0.2, h5⟩
      · rw [h6, List.take_succ_cons]
        show _ = acc + 128 ^ i * (x % 128 + 128 * valN (r.take m))
        rw [Int.mul_add, Int.pow_succ, Int.mul_assoc, Int.add_assoc]
    · rw [if_neg q] at h ⊢
      by_cases z : sizeN (acc + 128 ^ i * (x % 128)) = (i : Int) + 1
      · rw [if_pos z]
        refine ⟨1, by omega, by omega, by simp, rfl, ?_, ?_, z⟩
        · exact ⟨hx0.1, by omega⟩
        · simp [valN]
      · rw [if_neg z] at h; simp at h
/-- A number that is read is written as it was read. -/
theorem numG_enc (xs : List Int) (hx : ∀ x ∈ xs, 0 ≤ x ∧ x ≤ 255) (h : (numG 8 0 0 xs).2.2 = 0) : ∃ m : Nat, 1 ≤ m ∧ m ≤ xs.length ∧ (numG 8 0 0 xs).2.1 = (m : Int) ∧ okN (numG 8 0 0 xs).1 ∧ enc (numG 8 0 0 xs).1 = xs.take m ∧ sizeN (numG 8 0 0 xs).1 = (m : Int) := by
  obtain ⟨m, h1, h2, h3, h4, h5, h6, h7⟩ := numG_digits 8 0 0 xs hx h
  have h4' : (numG 8 0 0 xs).2.1 = (m : Int) := by rw [h4]; omega
  have h7' : sizeN (numG 8 0 0 xs).1 = (m : Int) := by rw [h7]; omega
  have h6' : (numG 8 0 0 xs).1 = valN (xs.take m) := by rw [h6]; simp
  refine ⟨m, h1, h3, h4', sizeN_ok (by omega), ?_, h7'⟩
  have hl : (xs.take m).length = m := by simp; omega
  have hlt := wfd_lt _ h5
  have key := enc_wfd _ h5 (by
    rw [hl]
    by_cases q : m = 1
    · exact .inl q
    · right
      rw [← h6']
      exact sizeN_low h7' (by omega) h2)
  rw [hl] at key hlt
  rw [h6']
  unfold enc
  obtain ⟨g, rfl⟩ : ∃ g, m = g + 1 := ⟨m - 1, by omega⟩
  have := enc_fuel g _ hlt (7 - g)
  rw [show g + 1 + (7 - g) = 8 from by omega] at this
  rw [← this]
  exact key
end Go.Proofs.Ytllcmapgigfgoaa
