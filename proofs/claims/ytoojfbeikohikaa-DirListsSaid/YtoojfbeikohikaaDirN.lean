/-
  What is just below a path; no program.
-/
import Derived.Test.YtoojfbeikohikaaDir1
import Derived.Sort.OwnSorted
import Derived.Sort.KeysCollected
namespace Go.Proofs.Ytoojfbeikohikaa
open Go.RowKit Go.Sort
set_option linter.unusedSimpArgs false
set_option linter.unusedVariables false

theorem okN_last {ns : List (List UInt8)} (h : ns ≠ []) : ns = ns.dropLast ++ [ns.getLastD []] := by
  have := List.dropLast_concat_getLast h
  rw [List.getLastD_eq_getLast?, List.getLast?_eq_some_getLast h]
  exact this.symm
theorem pth_inj {a b : List (List UInt8)} (ha : okN a = true) (hb : okN b = true) (h : pth a = pth b) : a = b := by
  rw [← (pth_vld ha).2, ← (pth_vld hb).2, h]
theorem par_eq {p : ByteArray} (h : nmL p ≠ []) : par p = pth (nmL p).dropLast := by
  unfold par
  rw [if_neg (by simpa using h)]
theorem lst_eq {p : ByteArray} (h : nmL p ≠ []) : (lst p).data.toList = (nmL p).getLastD [] := by
  unfold lst
  rw [if_neg (by simpa using h), ofL_data]
theorem ltN_last (A : List (List UInt8)) (x y : List UInt8) : ltN (A ++ [x]) (A ++ [y]) = if x = y then false else Op.bytesLess x y := by
  induction A with
  | nil => simp [ltN]
  | cons a A ih => simp only [List.cons_append, ltN, if_true]; exact ih
theorem bl_lt (x y : List UInt8) : Op.bytesLess x y = decide (x < y) := bytesLess_eq x y
/-- Of two paths just below the same one the lesser has the lesser name. -/
theorem lst_rise {a b : ByteArray} (ha : okP a) (hb : okP b) (hp : par a = par b) (h : lsr a b = true) : (lst a).data.toList < (lst b).data.toList := by
  rw [par_eq ha.2, par_eq hb.2] at hp
  have hd := pth_inj (okN_dropLast (nm_ok a)) (okN_dropLast (nm_ok b)) hp
  simp only [lsr, Bool.and_eq_true] at h
  have h2 := h.2
  rw [okN_last ha.2, okN_last hb.2, hd, ltN_last] at h2
  rw [lst_eq ha.2, lst_eq hb.2]
  split at h2
  · cases h2
  · rw [bl_lt] at h2; simpa using h2
theorem kid_rise {l : List E3} (h : RisesD l) (hk : okKeys l) (p : ByteArray) : ((kidD l p).map (·.data.toList)).Pairwise (· < ·) := by
  unfold kidD
  rw [List.map_map, List.pairwise_map]
  have h1 : (l.filter fun e => decide (par e.1 = p)).Pairwise fun a b => lsr a.1 b.1 = true := List.Pairwise.sublist List.filter_sublist h
  refine List.Pairwise.imp_of_mem ?_ h1
  intro a b ha hb hl
  have ha := List.mem_filter.1 ha
  have hb := List.mem_filter.1 hb
  have e1 : par a.1 = p := by simpa using ha.2
  have e2 : par b.1 = p := by simpa using hb.2
  exact lst_rise (hk a ha.1) (hk b hb.1) (by rw [e1, e2]) hl
/-- The names of what was met so far. -/
def namesOf (ks : List (List UInt8)) (p : ByteArray) : List ByteArray := ((ks.map ofL).filter fun q => decide (par q = p)).map lst
theorem namesOf_snoc (ks : List (List UInt8)) (q : ByteArray) (p : ByteArray) : namesOf (ks ++ [q.data.toList]) p = namesOf ks p ++ (if par q = p then [lst q] else []) := by
  unfold namesOf
  rw [List.map_append, List.filter_append, List.map_append]
  congr 1
  by_cases e : par q = p <;> simp [ofL_of, e, List.filter_cons]
theorem keys_perm {D : DataW Unit} {l : List E3} {left : Lit → Bool} {ks : List (List UInt8)} (hI : DirIs D l) (hr : RisesD l) (h : Collected D left ks) (hl : ∀ kl, left kl = false) : (ks.map ofL).Perm (l.map (·.1)) := by
  have h1 : (ks.map ofL).Nodup := by
    rw [List.nodup_iff_pairwise_ne, List.pairwise_map]
    exact List.Pairwise.imp (fun {a b} q e => q (ofL_inj e)) (List.nodup_iff_pairwise_ne.1 h.1)
  rw [List.perm_ext_iff_of_nodup h1 hr.keys]
  intro q
  have h2 := h.2 q.data.toList
  rw [hl] at h2
  have h3 : Maps.has D (.string q.data.toList) = (fndD l q).isSome := hI.has q
  rw [h3, fndD_mem] at h2
  simp only [and_true] at h2
  rw [List.mem_map, List.mem_map]
  constructor
  · rintro ⟨x, hx, rfl⟩
    rw [ofL_data] at h2
    obtain ⟨e, he, hq⟩ := h2.1 hx
    exact ⟨e, he, hq⟩
  · rintro ⟨e, he, hq⟩
    exact ⟨q.data.toList, h2.2 ⟨e, he, hq⟩, ofL_of q⟩
theorem names_perm {l : List E3} {ks : List (List UInt8)} (h : (ks.map ofL).Perm (l.map (·.1))) (p : ByteArray) : (namesOf ks p).Perm (kidD l p) := by
  unfold namesOf kidD
  have h1 := ((h.filter fun q => decide (par q = p)).map lst)
  have e1 : (kidD l p) = ((l.map (·.1)).filter fun q => decide (par q = p)).map lst := by
    unfold kidD
    rw [List.filter_map, List.map_map]
    rfl
  unfold kidD at e1
  rw [e1]
  exact h1
theorem names_sorted {l : List E3} {ks : List (List UInt8)} (h : (ks.map ofL).Perm (l.map (·.1))) (hr : RisesD l) (hk : okKeys l) (p : ByteArray) : (((namesOf ks p).map (·.data.toList)).mergeSort fun x y => decide (x ≤ y)) = (kidD l p).map (·.data.toList) := by
  have h1 := (names_perm h p).map (·.data.toList)
  have h2 : _ = _ := mergeSort_of_perm h1
  refine h2.trans (List.mergeSort_of_pairwise ?_)
  refine List.Pairwise.imp ?_ (kid_rise hr hk p)
  intro a b q
  simp only [decide_eq_true_eq]
  first | exact List.le_of_lt q | exact Std.le_of_lt q | exact le_of_lt q
end Go.Proofs.Ytoojfbeikohikaa
