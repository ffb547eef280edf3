/-
  What is listed; no program.
-/
import Derived.Test.YtoojfbeikohikaaDirY
namespace Go.Proofs.Ytoojfbeikohikaa
set_option linter.unusedSimpArgs false
set_option linter.unusedVariables false

/-- A name is listed just where the path below it is there. -/
theorem lists_law {l : List E3} (h : RightD l) {p : ByteArray} (hv : vld p = true) (name u : ByteArray) (z : Int) :
    (ofE (tx (nmL p) ++ [name]) = 0 ∧ (appD l 4 (ofP (tx (nmL p) ++ [name])) u z).1.err = 0) ↔ name ∈ kidD l p := by
  have e0 : (tx (nmL p) ++ [name]).map (·.data.toList) = nmL p ++ [name.data.toList] := by rw [List.map_append, tx_data]; rfl
  unfold ofE ofP
  rw [e0]
  have hk : name ∈ kidD l p ↔ ∃ e ∈ l, par e.1 = p ∧ lst e.1 = name := by
    unfold kidD
    rw [List.mem_map]
    constructor
    · rintro ⟨e, he, hq⟩
      have := List.mem_filter.1 he
      exact ⟨e, this.1, by simpa using this.2, hq⟩
    · rintro ⟨e, he, h1, h2⟩
      exact ⟨e, List.mem_filter.2 ⟨he, by simpa using h1⟩, h2⟩
  rw [hk]
  cases ho : okN (nmL p ++ [name.data.toList]) with
  | false =>
    simp only [Bool.false_eq_true, if_false]
    constructor
    · rintro ⟨h1, _⟩; exact absurd h1 (by simp)
    · rintro ⟨e, he, h1, h2⟩
      have hp := h.keys e he
      rw [par_eq hp.2] at h1
      have hd : (nmL e.1).dropLast = nmL p := by rw [← h1, (pth_vld (okN_dropLast (nm_ok e.1))).2]
      have hl : (nmL e.1).getLastD [] = name.data.toList := by rw [← h2, lst_eq hp.2]
      have := nm_ok e.1
      rw [okN_last hp.2, hd, hl, ho] at this
      cases this
  | true =>
    simp only [if_true]
    have hq := pth_vld ho
    have hne : pth (nmL p ++ [name.data.toList]) ≠ pth [] := fun e => by
      have := pth_inj ho rfl e
      simp at this
    rw [app4 hq.1]
    have hg : (gtD l (pth (nmL p ++ [name.data.toList]))).1.err = 0 ↔ ∃ e ∈ l, e.1 = pth (nmL p ++ [name.data.toList]) := by
      rw [← fndD_mem]
      cases hf : fndD l (pth (nmL p ++ [name.data.toList])) with
      | none => rw [gt_none hne hf]; simp [bad]
      | some x => rw [gt_some hf]; simp
    rw [hg]
    constructor
    · rintro ⟨_, e, he, h1⟩
      have hp := h.keys e he
      have hn : nmL e.1 = nmL p ++ [name.data.toList] := by rw [h1, hq.2]
      refine ⟨e, he, ?_, ?_⟩
      · rw [par_eq hp.2, hn, List.dropLast_concat, ← vld_pth hv]
      · refine data_inj ?_
        rw [lst_eq hp.2, hn]
        simp
    · rintro ⟨e, he, h1, h2⟩
      have hp := h.keys e he
      rw [par_eq hp.2] at h1
      have hd : (nmL e.1).dropLast = nmL p := by rw [← h1, (pth_vld (okN_dropLast (nm_ok e.1))).2]
      have hl : (nmL e.1).getLastD [] = name.data.toList := by rw [← h2, lst_eq hp.2]
      refine ⟨trivial, e, he, ?_⟩
      rw [vld_pth hp.1, okN_last hp.2, hd, hl]
end Go.Proofs.Ytoojfbeikohikaa
