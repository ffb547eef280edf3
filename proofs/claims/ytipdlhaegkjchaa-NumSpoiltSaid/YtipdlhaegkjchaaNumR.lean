/-
  What is written is read again: plain.
-/
import Derived.Test.YtipdlhaegkjchaaNumB
namespace Go.Proofs.Ytipdlhaegkjchaa
open Go.RowKit
set_option linter.unusedSimpArgs false
set_option linter.unusedVariables false

theorem numG_back_g : ∀ (g f i : Nat) (acc m : Int) (R : List Int), 0 ≤ m → m < 128 ^ g → 1 ≤ g → g ≤ f → sizeN (acc + 128 ^ i * m) = (i : Int) + (encN g m).length → numG f i acc (encN g m ++ R) = (acc + 128 ^ i * m, (i : Int) + (encN g m).length, 0)
  | 0, _, _, _, _, _, _, _, h, _, _ => by omega
  | g + 1, 0, _, _, _, _, _, _, _, h, _ => by omega
  | g + 1, f + 1, i, acc, m, R, h0, hm, _, hf, hs => by
    rw [encN_succ] at hs ⊢
    by_cases q : m < 128
    · rw [if_pos q] at hs ⊢
      simp only [List.cons_append, List.nil_append, List.length_singleton] at hs ⊢
      unfold numG
      rw [if_neg (by omega), show m % 128 = m from by omega, if_pos (by simpa using hs)]
      rfl
    · rw [if_neg q] at hs ⊢
      simp only [List.cons_append, List.length_cons] at hs ⊢
      unfold numG
      rw [if_pos (by omega), show (m % 128 + 128) % 128 = m % 128 from by omega]
      have hg1 : 1 ≤ g := by
        by_cases z : g = 0
        · subst z; have : (128 : Int) ^ (0 + 1) = 128 := by decide
          omega
        · omega
      have e : acc + 128 ^ i * (m % 128) + 128 ^ (i + 1) * (m / 128) = acc + 128 ^ i * m := by
        rw [Int.pow_succ, Int.mul_assoc, Int.add_assoc, ← Int.mul_add]
        congr 2
        omega
      have hm2 : m / 128 < 128 ^ g := by rw [Int.pow_succ] at hm; omega
      have key := numG_back_g g f (i + 1) (acc + 128 ^ i * (m % 128)) (m / 128) R (by omega) hm2 hg1 (by omega) (by rw [e, hs]; omega)
      rw [key, e]
      simp only [Prod.mk.injEq, true_and, and_true]
      omega
theorem numG_back (n : Int) (R : List Int) (h : okN n) : numG 8 0 0 (enc n ++ R) = (n, sizeN n, 0) := by
  have hl := enc_length n h.1 h.2
  have p : (128 : Int) ^ 8 = 72057594037927936 := by decide
  have key := numG_back_g 8 8 0 0 n R h.1 (by rw [p]; have := h.2; omega) (by omega) (by omega) (by
    show sizeN (0 + 1 * n) = ((0 : Nat) : Int) + (enc n).length
    rw [hl, show (0 : Int) + 1 * n = n from by omega]; omega)
  show numG 8 0 0 (encN 8 n ++ R) = _
  rw [key]
  have hl2 : ((encN 8 n).length : Int) = sizeN n := hl
  rw [hl2]
  simp
theorem textN_back (s : ByteArray) (R : List Int) (most : Int) (h : s.size ≤ 100000000) (hm : (s.size : Int) ≤ most) : textN most (enc s.size ++ byt s ++ R) = (byt s, R, 0) := by
  have ok : okN (s.size : Int) := ⟨by omega, by omega⟩
  have hl := enc_length s.size ok.1 ok.2
  have hn := numG_back s.size (byt s ++ R) ok
  rw [← List.append_assoc] at hn
  have hl1 : (sizeN s.size).toNat = (enc s.size).length := by omega
  unfold textN
  rw [hn]
  simp only
  rw [if_neg (by simp), if_neg (by omega), if_neg (by simp [byt_length]; omega), hl1, Int.toNat_natCast]
  refine Prod.ext ?_ (Prod.ext ?_ rfl)
  · simp only
    rw [List.append_assoc, List.drop_left, ← byt_length s, List.take_left]
  · simp only
    rw [← byt_length s, ← List.length_append, List.drop_left]
/-- All bytes of things. -/
def encs (ts : List Th) : List Int := (ts.map fun t => (encT t).getD []).flatten
theorem encs_range (ts : List Th) : ∀ x ∈ encs ts, 0 ≤ x ∧ x ≤ 255 := by
  intro x hx
  simp only [encs, List.mem_flatten, List.mem_map] at hx
  obtain ⟨l, ⟨t, _, rfl⟩, hl⟩ := hx
  unfold encT at hl
  by_cases c : t.1 = true
  · rw [if_pos c] at hl
    rcases List.mem_append.1 hl with h | h
    · exact encN_bytes 8 _ (by omega) x h
    · exact byt_range _ x h
  · rw [if_neg c] at hl
    by_cases d : 0 ≤ t.2.1 ∧ t.2.1 ≤ 281474976710656
    · rw [if_pos d] at hl; exact encN_bytes 8 _ d.1 x hl
    · rw [if_neg d] at hl; cases hl
theorem wst_spoilt (ts : List Th) : ∀ st : List Int × Bool, st.2 = true → (ts.foldl wst st).2 = true := by
  induction ts with
  | nil => intro st h; exact h
  | cons t r ih =>
    intro st h
    exact ih _ (by unfold wst; rw [if_pos h])
theorem wst_good (ts : List Th) : ∀ st : List Int × Bool, st.2 = false → (ts.foldl wst st).2 = false → (ts.foldl wst st).1 = st.1 ++ encs ts ∧ ∀ t ∈ ts, ∃ e, encT t = some e := by
  induction ts with
  | nil => intro st h1 h2; simp [encs]
  | cons t r ih =>
    intro st h1 h2
    rw [List.foldl_cons] at h2 ⊢
    have e0 : wst st t = match encT t with | none => ([], true) | some e => (st.1 ++ e, false) := by unfold wst; rw [if_neg (by simp [h1])]; rfl
    cases he : encT t with
    | none =>
      rw [he] at e0
      rw [e0] at h2
      have := wst_spoilt r ([], true) rfl
      rw [this] at h2; cases h2
    | some e =>
      rw [he] at e0
      simp only at e0
      rw [e0] at h2 ⊢
      obtain ⟨q1, q2⟩ := ih (st.1 ++ e, false) rfl h2
      refine ⟨?_, ?_⟩
      · rw [q1]; simp [encs, he]
      · intro u hu
        rcases List.mem_cons.1 hu with rfl | hu
        · exact ⟨e, he⟩
        · exact q2 u hu
theorem wsts_good (ts : List Th) (h : (wsts ts ts.length).2 = false) : (wsts ts ts.length).1 = encs ts ∧ ∀ t ∈ ts, ∃ e, encT t = some e := by
  have e : wsts ts ts.length = ts.foldl wst ([], false) := by unfold wsts; rw [List.take_length]
  rw [e] at h ⊢
  have := wst_good ts ([], false) rfl h
  simpa using this
theorem encs_drop (ts : List Th) (k : Nat) (h : k < ts.length) : encs (ts.drop k) = (encT (ts.getD k default)).getD [] ++ encs (ts.drop (k + 1)) := by
  rw [List.drop_eq_getElem_cons h, show ts.getD k default = ts[k] from by simp [List.getD, h]]
  simp only [encs, List.map_cons, List.flatten_cons]
theorem encs_split (ts : List Th) (k : Nat) : encs ts = encs (ts.take k) ++ encs (ts.drop k) := by
  conv => lhs; rw [← List.take_append_drop k ts]
  simp only [encs, List.map_append, List.flatten_append]
theorem encs_le (ts : List Th) (k : Nat) : (encs (ts.drop k)).length ≤ (encs ts).length := by
  rw [encs_split ts k, List.length_append]; omega
theorem RdAt.drew {w : World} {b : Nat} {xs : List Int} {er : Int} (h : RdAt w b xs er) : RdAt w.drew b xs er := ⟨h.wrong, h.free0, h.free1, h.size, h.left, h.apart⟩
end Go.Proofs.Ytipdlhaegkjchaa
