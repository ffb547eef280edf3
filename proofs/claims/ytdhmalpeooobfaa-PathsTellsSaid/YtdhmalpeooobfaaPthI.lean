/-
  A name's bytes, as the library looks for an odd one.
-/
import Derived.Test.YtdhmalpeooobfaaPthL
import Derived.Shelf.GgClosure.StringsIndexFunc
namespace Go.Proofs.Ytdhmalpeooobfaa
open Go
set_option linter.unusedSimpArgs false
set_option linter.unusedVariables false

/-- An odd rune. -/
def oddR (x : Nat) : Bool := !((decide (97 ≤ x) && decide (x ≤ 122)) || (decide (48 ≤ x) && decide (x ≤ 57)) || decide (x = 45) || decide (x = 95))
theorem oddR_byte (c : UInt8) : oddR c.toNat = !okc c := rfl
theorem oddR_big (x : Nat) (h : 128 ≤ x) : oddR x = true := by
  unfold oddR
  have h1 : ¬ x ≤ 122 := by omega
  have h2 : ¬ x ≤ 57 := by omega
  have h3 : ¬ x = 45 := by omega
  have h4 : ¬ x = 95 := by omega
  simp [h1, h2, h3, h4]
theorem dec_small (s : ByteArray) (i : Nat) (h : (s.get! i).toNat < 128) : Utf8.decode s i = ((s.get! i).toNat, 1) := by
  unfold Utf8.decode
  simp [h]
theorem dec_big (s : ByteArray) (i : Nat) (h : ¬ (s.get! i).toNat < 128) : 128 ≤ (Utf8.decode s i).1 := by
  have e : (Utf8.runeError : Nat) = 65533 := by decide
  unfold Utf8.decode
  simp only [Nat.add_zero, h, if_false]
  repeat' split
  all_goals first | (simp only [e]; omega) | (simp only [Bool.and_eq_true, decide_eq_true_eq, ge_iff_le] at *; omega)
theorem get_at (s : ByteArray) (i : Nat) (h : i < s.data.toList.length) : s.get! i = s.data.toList[i] := by
  have h' : i < s.data.size := by simpa using h
  show s.data[i]! = _
  rw [getElem!_pos s.data i h']
  simp
theorem okc_small {c : UInt8} (h : okc c = true) : c.toNat < 128 := by
  unfold okc at h
  simp only [Bool.or_eq_true, Bool.and_eq_true, decide_eq_true_eq] at h
  omega
theorem idx_from (s : ByteArray) : ∀ (f pos : Nat), s.size ≤ pos + f → (decide (0 ≤ Lib.idxFuncFrom oddR true s f pos)) = !((s.data.toList.drop pos).all okc)
  | 0, pos, h => by
    have : s.data.toList.drop pos = [] := List.drop_eq_nil_of_le (by have := Lib.size_eq s; omega)
    rw [this]; rfl
  | f + 1, pos, h => by
    have hs : s.data.toList.length = s.size := (Lib.size_eq s).symm
    unfold Lib.idxFuncFrom
    by_cases hp : pos < s.size
    · rw [if_pos hp]
      have hl : pos < s.data.toList.length := by omega
      have hd : s.data.toList.drop pos = s.data.toList[pos] :: s.data.toList.drop (pos + 1) := List.drop_eq_getElem_cons hl
      have hg := get_at s pos hl
      rw [hd]
      obtain ⟨c, hc⟩ : ∃ c, s.data.toList[pos] = c := ⟨_, rfl⟩
      rw [hc] at hg ⊢
      rw [List.all_cons]
      by_cases ho : okc c = true
      · have hd2 := dec_small s pos (by rw [hg]; exact okc_small ho)
        rw [hd2, hg]
        simp only [oddR_byte, ho, Bool.not_true, Bool.false_eq_true, if_false, Bool.true_and]
        exact idx_from s f (pos + 1) (by omega)
      · have : oddR (Utf8.decode s pos).1 = true := by
          by_cases hb : (s.get! pos).toNat < 128
          · rw [dec_small s pos hb, hg]
            show oddR c.toNat = true
            rw [oddR_byte]; simpa using ho
          · exact oddR_big _ (dec_big s pos hb)
        rw [if_pos this]
        have ho' : okc c = false := by simpa using ho
        rw [ho']
        simp
    · rw [if_neg hp]
      have : s.data.toList.drop pos = [] := List.drop_eq_nil_of_le (by omega)
      rw [this]; rfl
theorem idx_all (s : ByteArray) : (decide (0 ≤ Lib.idxFunc oddR true s)) = !(s.data.toList.all okc) := by
  have := idx_from s s.size 0 (by omega)
  rw [List.drop_zero] at this
  exact this
end Go.Proofs.Ytdhmalpeooobfaa
