/-
  What follows of two changes, one behind the other. Of no program.
-/
import Derived.Test.YtacjmcjmenbekaaCfgM
namespace Go.Proofs.Ytacjmcjmenbekaa
set_option linter.unusedSimpArgs false
set_option linter.unusedVariables false

theorem chg_add {ep : Int} {l : List Int} {a b : Int} (h : (chg ep l 7 a b).err = 0) : chg ep l 7 a b = ⟨0, ep + 1, ins a l⟩ ∧ 0 ≤ a ∧ a ≤ 31 ∧ a ∉ l ∧ l.length < 7 := by
  have hv := chg_val h
  have hd := chg_does h
  have hep := hv.2.2.2
  have hns : (chg ep l 7 a b).ns = ins a l ∧ 0 ≤ a ∧ a ≤ 31 ∧ a ∉ l ∧ l.length < 7 := by
    obtain ⟨m, hm⟩ : ∃ m, (chg ep l 7 a b).ns = m := ⟨_, rfl⟩
    rw [hm] at hd ⊢
    cases hd with
    | add _ h0 h1 h2 h3 => exact ⟨rfl, h0, h1, h2, h3⟩
    | rem h0 => omega
    | rep h0 => omega
  refine ⟨?_, hns.2⟩
  cases hc : chg ep l 7 a b with
  | mk e p n => rw [hc] at h hep hns; simp only at h hep hns; rw [h, hep, hns.1]
theorem chg_rep {ep : Int} {l : List Int} {a b : Int} (h : (chg ep l 9 a b).err = 0) : chg ep l 9 a b = ⟨0, ep + 1, ins b (del a l)⟩ ∧ a ∈ l ∧ 0 ≤ b ∧ b ≤ 31 ∧ b ∉ l := by
  have hv := chg_val h
  have hd := chg_does h
  have hep := hv.2.2.2
  have hns : (chg ep l 9 a b).ns = ins b (del a l) ∧ a ∈ l ∧ 0 ≤ b ∧ b ≤ 31 ∧ b ∉ l := by
    obtain ⟨m, hm⟩ : ∃ m, (chg ep l 9 a b).ns = m := ⟨_, rfl⟩
    rw [hm] at hd ⊢
    cases hd with
    | add h0 => omega
    | rem h0 => omega
    | rep _ h0 h1 h2 h3 => exact ⟨rfl, h0, h1, h2, h3⟩
  refine ⟨?_, hns.2⟩
  cases hc : chg ep l 9 a b with
  | mk e p n => rw [hc] at h hep hns; simp only at h hep hns; rw [h, hep, hns.1]
theorem ins_del {x : Int} {l : List Int} (hl : Rises l) (hx : x ∈ l) : ins x (del x l) = l :=
  rises_ext (ins_rises x (del_rises x hl) (by rw [mem_del]; simp)) hl fun z => by
    rw [mem_ins, mem_del]
    constructor
    · rintro (h | h)
      · subst h; exact hx
      · exact h.1
    · intro h
      by_cases e : z = x
      · exact .inl e
      · exact .inr ⟨h, e⟩
theorem chg_back1 {ep : Int} {l : List Int} {a b : Int} (h : (chg ep l 7 a b).err = 0) (he : ep ≤ 524288) (b2 : Int) : chg (ep + 1) (ins a l) 8 a b2 = ⟨0, ep + 1 + 1, l⟩ := by
  have hv := chg_val h
  obtain ⟨h1, h2, h3, h4, h5⟩ := chg_add h
  have hr := hv.1.2.2.1
  have hl := hv.1.2.2.2.2.1
  have hv2 := hv.2.2.1
  rw [h1] at hv2
  have n1 : ¬ (¬ Val (ep + 1) (ins a l) ∨ ep + 1 = 1048576) := by simp only [not_or, Classical.not_not]; exact ⟨hv2, by omega⟩
  unfold chg
  rw [if_neg n1, if_neg (by omega), if_pos rfl]
  unfold chgRem
  rw [if_neg (by simp [mem_ins]), if_neg (by rw [ins_length]; omega), del_ins hr h4]
theorem chg_back2 {ep : Int} {l : List Int} {a b : Int} (h : (chg ep l 9 a b).err = 0) (he : ep ≤ 524288) : chg (ep + 1) (ins b (del a l)) 9 b a = ⟨0, ep + 1 + 1, l⟩ := by
  have hv := chg_val h
  obtain ⟨h1, h2, h3, h4, h5⟩ := chg_rep h
  have hr := hv.1.2.2.1
  have hl := hv.1.2.2.2.2.1
  have hv2 := hv.2.2.1
  rw [h1] at hv2
  have hab : a ≠ b := fun e => h5 (e ▸ h2)
  have hbd : b ∉ del a l := fun q => h5 ((mem_del a b l).1 q).1
  have ha := hv.1.2.2.2.1 a h2
  have n1 : ¬ (¬ Val (ep + 1) (ins b (del a l)) ∨ ep + 1 = 1048576) := by simp only [not_or, Classical.not_not]; exact ⟨hv2, by omega⟩
  unfold chg
  rw [if_neg n1, if_neg (by omega), if_neg (by omega), if_pos rfl]
  unfold chgRep
  rw [if_neg (by simp [mem_ins]), if_neg (by have := (isN_iff a).2 ha; simp [this]), if_neg (by rw [mem_ins, mem_del]; simp [hab]), del_ins (del_rises a hr) hbd, ins_del hr h2]
theorem chg_order {ep : Int} {l : List Int} {a b c d : Int} (h : (chg ep l 7 a c).err = 0) (h' : (chg ep l 7 b d).err = 0) (hab : a ≠ b) (c2 d2 : Int) :
    chg (ep + 1) (ins a l) 7 b c2 = chg (ep + 1) (ins b l) 7 a d2 ∧ ((chg (ep + 1) (ins b l) 7 a d2).err = 0 ∨ l.length = 6 ∨ ep + 1 = 1048576) := by
  have hv := chg_val h
  have hv' := chg_val h'
  obtain ⟨h1, h2, h3, h4, h5⟩ := chg_add h
  obtain ⟨g1, g2, g3, g4, g5⟩ := chg_add h'
  have hr := hv.1.2.2.1
  have va := hv.2.2.1
  have vb := hv'.2.2.1
  rw [h1] at va
  rw [g1] at vb
  by_cases he : ep + 1 = 1048576
  · refine ⟨?_, .inr (.inr he)⟩
    unfold chg
    rw [if_pos (.inr he), if_pos (.inr he)]
  have n1 : ¬ (¬ Val (ep + 1) (ins a l) ∨ ep + 1 = 1048576) := by simp only [not_or, Classical.not_not]; exact ⟨va, he⟩
  have n2 : ¬ (¬ Val (ep + 1) (ins b l) ∨ ep + 1 = 1048576) := by simp only [not_or, Classical.not_not]; exact ⟨vb, he⟩
  unfold chg
  rw [if_neg n1, if_neg n2, if_pos rfl, if_pos rfl]
  unfold chgAdd
  have ia := (isN_iff a).2 ⟨h2, h3⟩
  have ib := (isN_iff b).2 ⟨g2, g3⟩
  have ma : ¬ a ∈ ins b l := by rw [mem_ins]; simp [hab, h4]
  have mb : ¬ b ∈ ins a l := by rw [mem_ins]; simp [hab.symm, g4]
  rw [if_neg (show ¬ isN b = false by simp [ib]), if_neg (show ¬ isN a = false by simp [ia]), if_neg ma, if_neg mb, ins_length, ins_length]
  by_cases hl : l.length + 1 = 7
  · rw [if_pos hl, if_pos hl]
    exact ⟨rfl, .inr (.inl (by omega))⟩
  · rw [if_neg hl, if_neg hl]
    exact ⟨by rw [ins_comm hr g4 h4 hab.symm], .inl rfl⟩
end Go.Proofs.Ytacjmcjmenbekaa
