/-
  Entries that are a directory's; no program.
-/
import Derived.Test.YtoojfbeikohikaaDirT
namespace Go.Proofs.Ytoojfbeikohikaa
set_option linter.unusedSimpArgs false
set_option linter.unusedVariables false

theorem take_succ' {l : List E3} {k : Nat} (h : k < l.length) : l.take (k + 1) = l.take k ++ [l[k]] := List.take_succ_eq_append_getElem h
theorem put_take {l : List E3} (hr : RisesD l) (hk : okKeys l) {k : Nat} (h : k < l.length) : putD (l.take k) l[k].1 l[k].2.1 l[k].2.2 = l.take (k + 1) := by
  have hrk : RisesD (l.take k) := List.Pairwise.sublist (List.take_sublist _ _) hr
  have hrk1 : RisesD (l.take (k + 1)) := List.Pairwise.sublist (List.take_sublist _ _) hr
  have hkk : okKeys (l.take k) := fun e he => hk e (List.mem_of_mem_take he)
  refine RisesD.ext (hrk.put _ _ _) hrk1 fun e => ?_
  rw [mem_putD hkk (hk _ (List.getElem_mem h)), take_succ' h, List.mem_append, List.mem_singleton]
  constructor
  · rintro (rfl | ⟨q, _⟩)
    · exact .inr rfl
    · exact .inl q
  · rintro (q | rfl)
    · refine .inr ⟨q, ?_⟩
      rw [take_succ' h] at hrk1
      exact lsr_ne ((List.pairwise_append.1 hrk1).2.2 e q _ (List.mem_singleton.2 rfl))
    · exact .inl rfl
theorem par_lsr {p : ByteArray} (h : okP p) : lsr (par p) p = true := by
  have hd := okN_dropLast (nm_ok p)
  rw [par_eq h.2]
  have h1 := pth_vld hd
  have hl : (nmL p).dropLast.length < (nmL p).length := by
    have : 0 < (nmL p).length := List.length_pos_iff.2 h.2
    simp; omega
  simp only [lsr, h1.1, h1.2, h.1, Bool.true_and]
  exact ltN_pre _ _ hl (by rw [List.length_dropLast, ← List.dropLast_eq_take])
/-- What a directory holds. -/
structure RightD (l : List E3) : Prop where
  rise : RisesD l
  keys : okKeys l
  vals : ∀ e ∈ l, e.2.1.size ≤ 64
  vers : ∀ e ∈ l, 1 ≤ e.2.2
  up : ∀ e ∈ l, thrD l (par e.1) = true
theorem RightD.empty : RightD [] := ⟨List.Pairwise.nil, (fun e he => by cases he), (fun e he => by cases he), (fun e he => by cases he), (fun e he => by cases he)⟩
theorem thrD_iff {l : List E3} {p : ByteArray} : thrD l p = true ↔ p = pth [] ∨ ∃ e ∈ l, e.1 = p := by
  unfold thrD
  rw [Bool.or_eq_true, fndD_mem, decide_eq_true_eq]
  exact Or.comm
theorem RightD.fit {l : List E3} (h : RightD l) {k : Nat} (hk : k < l.length) : fitD (l.take k) l[k] = true := by
  have hm := List.getElem_mem hk
  have ho := h.keys _ hm
  have hd : dpt l[k].1 = ((nmL l[k].1).length : Int) := by unfold dpt; rw [ho.1]; rfl
  have hl : 0 < (nmL l[k].1).length := List.length_pos_iff.2 ho.2
  have h1 : thrD (l.take k) (par l[k].1) = true := by
    rw [thrD_iff]
    rcases thrD_iff.1 (h.up _ hm) with q | ⟨e, he, q⟩
    · exact .inl q
    · refine .inr ⟨e, ?_, q⟩
      have hls : lsr e.1 l[k].1 = true := by rw [q]; exact par_lsr ho
      have hsplit : l = l.take k ++ l[k] :: l.drop (k + 1) := by rw [← List.drop_eq_getElem_cons hk, List.take_append_drop]
      have hr := h.rise
      unfold RisesD at hr
      rw [hsplit, List.pairwise_append, List.pairwise_cons] at hr
      rw [hsplit] at he
      rcases List.mem_append.1 he with q1 | q1
      · exact q1
      · rcases List.mem_cons.1 q1 with q2 | q2
        · rw [q2] at hls
          rw [lsr_irr] at hls
          cases hls
        · have := hr.2.1.1 e q2
          rw [lsr_asym this] at hls
          cases hls
  unfold fitD
  rw [h1, hd]
  have h2 := h.vals _ hm
  have h3 := h.vers _ hm
  simp only [Bool.and_eq_true, decide_eq_true_eq]
  exact ⟨⟨⟨by omega, trivial⟩, h2⟩, h3⟩
end Go.Proofs.Ytoojfbeikohikaa
