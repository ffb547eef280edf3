/-
 The document's Right, plainly.
-/
import Derived.Test.YtodcmhmankmaoaaGreatRd3
import Derived.Test.YtodcmhmankmaoaaGreatRd5
namespace Go.Proofs.YtodcmhmankmaoaaGreat
open Go.RowKit
set_option linter.unusedSimpArgs false
set_option linter.unusedVariables false

theorem dpt_ok (p : ByteArray) : (¬ dpt p < 1) ↔ okP p := by
 unfold dpt okP
 cases h : vld p with
 | false => simp
 | true =>
  simp only [if_true, true_and]
  constructor
  ·intro q e
   rw [e] at q
   simp at q
  ·intro q
   have := List.length_pos_iff.2 q
   omega
theorem fix_there (l : List E3) (p : ByteArray) : (decide (p = pth []) || decide (0 ≤ fixI l p)) = thrD l p := by
 rw [show decide (0 ≤ fixI l p) = decide (fixI l p ≥ 0) from rfl, fixI_fnd, Bool.or_comm]
 rfl
theorem rises_adj {l : List E3} (h : ∀ k (hk : k + 1 < l.length), lsr l[k].1 l[k + 1].1 = true) : RisesD l := by
 unfold RisesD
 rw [List.pairwise_iff_getElem]
 intro i j hi hj hij
 obtain ⟨d, rfl⟩ : ∃ d, j = i + 1 + d := ⟨j - i - 1, by omega⟩
 induction d with
 | zero => exact h i hj
 | succ d ih => exact lsr_trans (ih (by omega) (by omega)) (h (i + 1 + d) hj)
theorem rght_iff (l : List E3) : rghtB l = true ↔ RightD l := by
 have gd : ∀ k (hk : k < l.length), l.getD k EK.d = l[k] := fun k hk => by simp [List.getD, hk]
 unfold rghtB
 rw [List.all_eq_true]
 have key : ∀ k (hk : k < l.length), rghtK l k = true ↔ (okP l[k].1 ∧ l[k].2.1.size ≤ 64 ∧ 1 ≤ l[k].2.2 ∧ (k = 0 ∨ lsr (l.getD (k - 1) EK.d).1 l[k].1 = true) ∧ thrD l (par l[k].1) = true) := fun k hk => by
  unfold rghtK
  rw [gd k hk, fix_there]
  simp only [Bool.and_eq_true, Bool.or_eq_true, Bool.not_eq_true', decide_eq_false_iff_not, beq_iff_eq, dpt_ok, and_assoc]
  constructor
  ·rintro ⟨a, b, c, d, e⟩
   exact ⟨a, by omega, by omega, d, e⟩
  ·rintro ⟨a, b, c, d, e⟩
   exact ⟨a, by omega, by omega, d, e⟩
 constructor
 ·intro h
  have h' : ∀ k (hk : k < l.length), _ := fun k hk => (key k hk).1 (h k (List.mem_range.2 hk))
  refine ⟨rises_adj fun k hk => ?_, fun e he => ?_, fun e he => ?_, fun e he => ?_, fun e he => ?_⟩
  ·have q := (h' (k + 1) hk).2.2.2.1
   rw [Nat.add_sub_cancel, gd k (by omega)] at q
   exact q.resolve_left (by omega)
  ·obtain ⟨k, hk, rfl⟩ := List.getElem_of_mem he
   exact (h' k hk).1
  ·obtain ⟨k, hk, rfl⟩ := List.getElem_of_mem he
   exact (h' k hk).2.1
  ·obtain ⟨k, hk, rfl⟩ := List.getElem_of_mem he
   exact (h' k hk).2.2.1
  ·obtain ⟨k, hk, rfl⟩ := List.getElem_of_mem he
   exact (h' k hk).2.2.2.2
 ·intro h k hk
  have hk := List.mem_range.1 hk
  have hm : l[k] ∈ l := List.getElem_mem hk
  refine (key k hk).2 ⟨h.keys _ hm, h.vals _ hm, h.vers _ hm, ?_, h.up _ hm⟩
  by_cases e : k = 0
  ·exact .inl e
  ·right
   rw [gd (k - 1) (by omega)]
   exact List.pairwise_iff_getElem.1 h.rise (k - 1) k (by omega) hk (by omega)
end Go.Proofs.YtodcmhmankmaoaaGreat
