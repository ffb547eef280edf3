/-
  Who is below whom, on names.
-/
import Derived.Test.YtdhmalpeooobfaaPthO
namespace Go.Proofs.Ytdhmalpeooobfaa
open Go.RowKit
set_option linter.unusedSimpArgs false
set_option linter.unusedVariables false

theorem par_of {p : ByteArray} (hn : nmL p ≠ []) : par p = pth (nmL p).dropLast ∧ vld (par p) = true ∧ nmL (par p) = (nmL p).dropLast := by
  have h0 : (nmL p).length ≠ 0 := fun h => hn (List.eq_nil_of_length_eq_zero h)
  have e : par p = pth (nmL p).dropLast := by unfold par; rw [if_neg h0]
  have := pth_vld (okN_dropLast (nm_ok p))
  rw [e]
  exact ⟨rfl, this.1, this.2⟩
theorem blw_irr (p : ByteArray) : blw p p = false := by unfold blw; simp
theorem blw_asymm {p q : ByteArray} (h : blw p q = true) : blw q p = false := by
  unfold blw at *
  simp only [Bool.and_eq_true, decide_eq_true_eq] at h
  have : ¬ (nmL q).length < (nmL p).length := by omega
  simp [this]
theorem blw_trans {p q r : ByteArray} (h1 : blw p q = true) (h2 : blw q r = true) : blw p r = true := by
  unfold blw at *
  simp only [Bool.and_eq_true, decide_eq_true_eq] at *
  refine ⟨⟨⟨h1.1.1.1, h2.1.1.2⟩, by omega⟩, ?_⟩
  have e := h1.2
  rw [← h2.2, List.take_take, Nat.min_eq_left (by omega)] at e
  exact e
theorem blw_root {p q : ByteArray} (h : nmL q = []) : blw p q = false := by
  unfold blw
  rw [h]
  simp
theorem blw_par {p q : ByteArray} (hp : vld p = true) (hq : vld q = true) (hn : nmL q ≠ []) : blw p q = (decide (par q = p) || blw p (par q)) := by
  obtain ⟨e1, e2, e3⟩ := par_of hn
  obtain ⟨D, z, hD⟩ : ∃ D z, nmL q = D ++ [z] := ⟨(nmL q).dropLast, (nmL q).getLast hn, (List.dropLast_concat_getLast hn).symm⟩
  rw [hD, List.dropLast_concat] at e3
  have hq2 : par q = p ↔ D = nmL p := by
    constructor
    · intro h; rw [← h, e3]
    · intro h; exact nm_inj e2 hp (by rw [e3, h])
  unfold blw
  rw [hp, hq, e2, e3, hD]
  simp only [Bool.true_and, List.length_append, List.length_singleton]
  rw [Bool.eq_iff_iff]
  simp only [Bool.and_eq_true, Bool.or_eq_true, decide_eq_true_eq, hq2]
  constructor
  · rintro ⟨h1, h2⟩
    rw [List.take_append_of_le_length (by omega)] at h2
    by_cases c : (nmL p).length < D.length
    · exact .inr ⟨c, h2⟩
    · left
      rw [List.take_of_length_le (by omega)] at h2
      exact h2
  · rintro (h | ⟨h1, h2⟩)
    · subst h; simp
    · refine ⟨by omega, ?_⟩
      rw [List.take_append_of_le_length (by omega)]
      exact h2
theorem root_str {p : ByteArray} (hv : vld p = true) : (nmL p = [] → (p.toList == [47]) = true ∧ (p.toList != [47]) = false) ∧ (nmL p ≠ [] → (p.toList == [47]) = false ∧ (p.toList != [47]) = true) := by
  constructor
  · intro h
    have : p = pth [] := (root_iff hv).2 h
    have e : p.toList = [47] := by rw [Lib.toList_data, this]; rfl
    rw [e]
    exact ⟨rfl, rfl⟩
  · intro h
    have : (p.toList == [47]) = false := by
      rw [Lib.toList_data]
      simp only [beq_eq_false_iff_ne, ne_eq]
      intro e
      exact h ((root_iff hv).1 (data_inj (by rw [e]; rfl)))
    exact ⟨this, by simp only [bne, this]; rfl⟩
theorem tx_snoc {p : ByteArray} (hn : nmL p ≠ []) : tx (nmL p).dropLast ++ [lst p] = tx (nmL p) := by
  have h0 : (nmL p).length ≠ 0 := fun h => hn (List.eq_nil_of_length_eq_zero h)
  have e : lst p = ofL ((nmL p).getLastD []) := by unfold lst; rw [if_neg h0]
  have e2 : (nmL p).getLastD [] = (nmL p).getLast hn := by
    rw [List.getLastD_eq_getLast?, List.getLast?_eq_some_getLast hn]; rfl
  rw [e, e2]
  have := List.dropLast_concat_getLast hn
  have h2 : tx ((nmL p).dropLast ++ [(nmL p).getLast hn]) = tx (nmL p) := by rw [this]
  rw [← h2]
  simp [tx]
theorem of_back {p : ByteArray} (hv : vld p = true) : ofP (tx (nmL p)) = p ∧ ofE (tx (nmL p)) = 0 := by
  have hd := tx_data (nmL p)
  unfold ofP ofE
  rw [hd, nm_ok p]
  exact ⟨(vld_pth hv).symm, rfl⟩
theorem dpt_of {p : ByteArray} (hv : vld p = true) : dpt p = ((nmL p).length : Int) := by unfold dpt; rw [hv]; rfl
theorem par_size {p : ByteArray} : (par p).size ≤ 137 := by
  unfold par
  split
  · exact Nat.zero_le _
  · exact pth_size _ (okN_dropLast (nm_ok p))
end Go.Proofs.Ytdhmalpeooobfaa
