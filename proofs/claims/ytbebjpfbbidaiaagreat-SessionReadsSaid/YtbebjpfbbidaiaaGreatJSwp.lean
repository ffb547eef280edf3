/-
  Two commands of which neither writes what the other one reads, or writes, do the same in either order; no program.
-/
import Derived.Test.YtbebjpfbbidaiaaGreatJ4
import Derived.Test.YtbebjpfbbidaiaaGreatT1
namespace Go.Proofs.YtbebjpfbbidaiaaGreat
open Tc (Cl rds wrs memB dst mtr wrs_read)
set_option linter.unusedSimpArgs false
set_option linter.unusedVariables false

/-- Do two directories have the same in a cell? -/
structure CelEq (c : Cl) (l k : List E3) : Prop where
  e : c.2 = 101 → thrD l c.1 = thrD k c.1
  v : c.2 = 118 → fndD l c.1 = fndD k c.1
  k : c.2 = 107 → kidD l c.1 = kidD k c.1
theorem CelEq.rfl' (c : Cl) (l : List E3) : CelEq c l l := ⟨fun _ => rfl, fun _ => rfl, fun _ => rfl⟩
theorem kid_ext {l k : List E3} (hl : RisesD l) (hk : RisesD k) {q : ByteArray} (h : ∀ p, par p = q → (fndD l p).isSome = (fndD k p).isSome) : kidD l q = kidD k q := by
  have key : ∀ l : List E3, kidD l q = ((l.filter fun e => decide (par e.1 = q)).map fun e => ((e.1, v0, 0) : E3)).map fun e => lst e.1 := fun l => by
    unfold kidD
    rw [List.map_map]
    rfl
  have ris : ∀ {l : List E3}, RisesD l → RisesD ((l.filter fun e => decide (par e.1 = q)).map fun e => ((e.1, v0, 0) : E3)) := fun {l} h => by
    unfold RisesD
    rw [List.pairwise_map]
    exact List.Pairwise.sublist List.filter_sublist h
  have mem : ∀ (l : List E3) (e : E3), e ∈ ((l.filter fun e => decide (par e.1 = q)).map fun e => ((e.1, v0, 0) : E3)) ↔ (e.2 = (v0, 0) ∧ par e.1 = q ∧ (fndD l e.1).isSome = true) := fun l e => by
    rw [List.mem_map, fndD_mem]
    constructor
    · rintro ⟨x, hx, rfl⟩
      have hx := List.mem_filter.1 hx
      exact ⟨rfl, by simpa using hx.2, x, hx.1, rfl⟩
    · rintro ⟨h1, h2, x, hx, h3⟩
      refine ⟨x, List.mem_filter.2 ⟨hx, by rw [h3]; simpa using h2⟩, ?_⟩
      obtain ⟨a, b⟩ := e
      simp only at h1 h3
      rw [h3, h1]
  rw [key l, key k]
  congr 1
  refine RisesD.ext (ris hl) (ris hk) fun e => ?_
  rw [mem l, mem k]
  constructor
  · rintro ⟨h1, h2, h3⟩
    exact ⟨h1, h2, by rw [← h e.1 h2]; exact h3⟩
  · rintro ⟨h1, h2, h3⟩
    exact ⟨h1, h2, by rw [h e.1 h2]; exact h3⟩
theorem fnd_ext {l k : List E3} (hl : RisesD l) (hk : RisesD k) (h : ∀ p, fndD l p = fndD k p) : l = k := by
  refine RisesD.ext hl hk fun e => ?_
  obtain ⟨p, v, n⟩ := e
  rw [← fndD_some hl, ← fndD_some hk, h]
theorem app_way2 (l : List E3) (op : Int) (q v : ByteArray) (ver : Int) : (appD l op q v ver).2 = l ∨ (op = 1 ∧ okP q ∧ (appD l op q v ver).2 = putD l q v 1) ∨ ((op = 3 ∨ op = 6) ∧ okP q ∧ ∃ x n, fndD l q = some x ∧ (appD l op q v ver).2 = putD l q v n) ∨ (op = 2 ∧ okP q ∧ (appD l op q v ver).2 = delD l q) := by
  have hset : okP q → ((setD l q v).2 = l ∨ (okP q ∧ ∃ x n, fndD l q = some x ∧ (setD l q v).2 = putD l q v n)) := by
    intro ho
    unfold setD
    cases h : fndD l q with
    | none => exact .inl rfl
    | some x => exact .inr ⟨ho, x, x.2 + 1, rfl, rfl⟩
  unfold appD
  cases hr : rgt op q v with
  | false => exact .inl rfl
  | true =>
    have hv : vld q = true := by have h := hr; simp only [rgt, Bool.and_eq_true] at h; exact h.1
    simp only [Bool.not_true, Bool.false_eq_true, if_false]
    split
    · rename_i h0
      unfold crD
      split
      · exact .inl rfl
      · rename_i h1
        split
        · exact .inr (.inl ⟨h0, okP_ne hv (fun e => h1 (by rw [e]; simp [thrD])), rfl⟩)
        · exact .inl rfl
    · split
      · rename_i h0
        have hne : q ≠ pth [] := by rintro rfl; subst h0; simp [rgt] at hr
        unfold rmD
        split
        · split
          · exact .inl rfl
          · exact .inr (.inr (.inr ⟨h0, okP_ne hv hne, rfl⟩))
        · exact .inl rfl
      · split
        · rename_i h3
          have hne : q ≠ pth [] := by rintro rfl; subst h3; simp [rgt] at hr
          rcases hset (okP_ne hv hne) with h | h
          · exact .inl h
          · exact .inr (.inr (.inl ⟨.inl h3, h⟩))
        · split
          · unfold gtD; split <;> exact .inl rfl
          · split
            · unfold lsD; split <;> exact .inl rfl
            · split
              · rename_i h6
                have hne : q ≠ pth [] := by rintro rfl; subst h6; simp [rgt] at hr
                unfold casD
                split
                · exact .inl rfl
                · rcases hset (okP_ne hv hne) with h | h
                  · exact .inl h
                  · exact .inr (.inr (.inl ⟨.inr h6, h⟩))
              · exact .inl rfl
theorem wrs_cd {op : Int} {p : ByteArray} (ho : okP p) (h : op = 1 ∨ op = 2) : wrs op p = [(p, 101), (p, 118), (par p, 107)] := by
  unfold wrs
  rw [if_neg (by simp [ho.1, ho.2]), if_pos h]
theorem wrs_set {op : Int} {p : ByteArray} (ho : okP p) (h : op = 3 ∨ op = 6) : wrs op p = [(p, 118)] := by
  unfold wrs
  rw [if_neg (by simp [ho.1, ho.2]), if_neg (by omega), if_pos h]
/-- What is not written stays. -/
theorem app_frame {l : List E3} (h : RightD l) (op : Int) (p v : ByteArray) (ver : Int) {c : Cl} (hc : c ∉ wrs op p) : CelEq c l (appD l op p v ver).2 := by
  obtain ⟨q, k⟩ := c
  rcases app_way2 l op p v ver with e | ⟨h1, ho, e⟩ | ⟨h1, ho, x, n, hx, e⟩ | ⟨h1, ho, e⟩
  · rw [e]; exact CelEq.rfl' _ _
  · rw [e]
    rw [wrs_cd ho (.inl h1)] at hc
    simp only [List.mem_cons, Prod.mk.injEq, List.not_mem_nil, or_false, not_or, not_and] at hc
    refine ⟨fun hk => ?_, fun hk => ?_, fun hk => ?_⟩
    · simp only at hk ⊢
      have hne : q ≠ p := fun e2 => hc.1 e2 hk
      unfold thrD
      rw [fndD_put h.rise h.keys ho, if_neg hne]
    · simp only at hk ⊢
      have hne : q ≠ p := fun e2 => hc.2.1 e2 hk
      rw [fndD_put h.rise h.keys ho, if_neg hne]
    · simp only at hk ⊢
      refine kid_ext h.rise (h.rise.put _ _ _) fun p2 hp2 => ?_
      have hne : p2 ≠ p := fun e2 => hc.2.2 (by rw [← hp2, e2]) hk
      rw [fndD_put h.rise h.keys ho, if_neg hne]
  · rw [e]
    rw [wrs_set ho h1] at hc
    simp only [List.mem_cons, Prod.mk.injEq, List.not_mem_nil, or_false, not_and] at hc
    have his : ∀ p2, (fndD l p2).isSome = (fndD (putD l p v n) p2).isSome := fun p2 => by
      rw [fndD_put h.rise h.keys ho]
      by_cases e2 : p2 = p
      · rw [if_pos e2, e2, hx]; rfl
      · rw [if_neg e2]
    refine ⟨fun hk => ?_, fun hk => ?_, fun hk => ?_⟩
    · simp only
      unfold thrD
      rw [his]
    · simp only at hk ⊢
      have hne : q ≠ p := fun e2 => hc e2 hk
      rw [fndD_put h.rise h.keys ho, if_neg hne]
    · exact kid_ext h.rise (h.rise.put _ _ _) fun p2 _ => his p2
  · rw [e]
    rw [wrs_cd ho (.inr h1)] at hc
    simp only [List.mem_cons, Prod.mk.injEq, List.not_mem_nil, or_false, not_or, not_and] at hc
    refine ⟨fun hk => ?_, fun hk => ?_, fun hk => ?_⟩
    · simp only at hk ⊢
      have hne : q ≠ p := fun e2 => hc.1 e2 hk
      unfold thrD
      rw [fndD_del h.rise, if_neg hne]
    · simp only at hk ⊢
      have hne : q ≠ p := fun e2 => hc.2.1 e2 hk
      rw [fndD_del h.rise, if_neg hne]
    · simp only at hk ⊢
      refine kid_ext h.rise (h.rise.del _) fun p2 hp2 => ?_
      have hne : p2 ≠ p := fun e2 => hc.2.2 (by rw [← hp2, e2]) hk
      rw [fndD_del h.rise, if_neg hne]
/-- The reply, and what is written, come of what is read, and was written. -/
theorem app_local {l k : List E3} (hl : RightD l) (hk : RightD k) (op : Int) (p v : ByteArray) (ver : Int) (h : ∀ c, c ∈ rds op p ++ wrs op p → CelEq c l k) :
    (appD l op p v ver).1 = (appD k op p v ver).1 ∧ ((p, 118) ∈ wrs op p → fndD (appD l op p v ver).2 p = fndD (appD k op p v ver).2 p) := by
  cases hr : rgt op p v with
  | false =>
    have e1 : ∀ l, appD l op p v ver = (bad 1, l) := fun l => by simp [appD, hr]
    rw [e1 l, e1 k]
    exact ⟨rfl, fun hm => (h _ (List.mem_append_right _ hm)).v rfl⟩
  | true =>
    have hv : vld p = true := by have h := hr; simp only [rgt, Bool.and_eq_true] at h; exact h.1
    by_cases hroot : p = pth []
    · have hn : nmL p = [] := by rw [hroot]; exact (pth_vld rfl).2
      have hw : wrs op p = [] := by unfold wrs; rw [if_pos (.inr hn)]
      have ht : ∀ l, thrD l p = true := fun l => by rw [hroot]; simp [thrD]
      refine ⟨?_, fun hm => by rw [hw] at hm; cases hm⟩
      by_cases h1 : op = 1
      · subst h1; simp [appD, hr, crD, ht]
      by_cases h2 : op = 2
      · subst h2; subst hroot; simp [rgt] at hr
      by_cases h3 : op = 3
      · subst h3; subst hroot; simp [rgt] at hr
      by_cases h4 : op = 4
      · subst h4
        have hf := (h (p, 118) (by simp [rds, hv])).v rfl
        simp only at hf
        simp [appD, hr, gtD, ht, hf]
      by_cases h5 : op = 5
      · subst h5
        have hf := (h (p, 107) (by simp [rds, hv])).k rfl
        simp only at hf
        simp [appD, hr, lsD, ht, hf]
      by_cases h6 : op = 6
      · subst h6; subst hroot; simp [rgt] at hr
      simp [appD, hr, h1, h2, h3, h4, h5, h6]
    · have ho : okP p := okP_ne hv hroot
      have hsd : fndD l p = fndD k p → (setD l p v).1 = (setD k p v).1 ∧ fndD (setD l p v).2 p = fndD (setD k p v).2 p := fun hf => by
        unfold setD
        rw [← hf]
        cases hx : fndD l p with
        | none => exact ⟨rfl, by simp only; rw [← hf]⟩
        | some x =>
          refine ⟨rfl, ?_⟩
          simp only
          rw [fndD_put hl.rise hl.keys ho, fndD_put hk.rise hk.keys ho, if_pos rfl, if_pos rfl]
      by_cases h1 : op = 1
      · subst h1
        have a1 := (h (par p, 101) (by simp [rds, hv, ho.2])).e rfl
        have a2 := (h (p, 101) (by simp [rds, hv, ho.2])).e rfl
        have a3 := (h (p, 118) (by simp [wrs_cd ho (.inl rfl)])).v rfl
        simp only at a1 a2 a3
        simp only [appD, hr, Bool.not_true, Bool.false_eq_true, if_false, if_true, crD, a1, a2]
        split
        · exact ⟨rfl, fun _ => a3⟩
        · split
          · exact ⟨rfl, fun _ => by simp only; rw [fndD_put hl.rise hl.keys ho, fndD_put hk.rise hk.keys ho, if_pos rfl, if_pos rfl]⟩
          · exact ⟨rfl, fun _ => a3⟩
      by_cases h2 : op = 2
      · subst h2
        have a1 := (h (p, 101) (by simp [rds, hv, ho.2])).e rfl
        have a2 := (h (p, 107) (by simp [rds, hv, ho.2])).k rfl
        have a3 := (h (p, 118) (by simp [wrs_cd ho (.inr rfl)])).v rfl
        simp only at a1 a2 a3
        have e : ∀ l, appD l 2 p v ver = rmD l p := fun l => by simp [appD, hr]
        rw [e l, e k]
        unfold rmD
        rw [a1, a2]
        split
        · split
          · exact ⟨rfl, fun _ => a3⟩
          · exact ⟨rfl, fun _ => by simp only; rw [fndD_del hl.rise, fndD_del hk.rise, if_pos rfl, if_pos rfl]⟩
        · exact ⟨rfl, fun _ => a3⟩
      by_cases h3 : op = 3
      · subst h3
        have a3 := (h (p, 118) (by simp [wrs_set ho (.inl rfl)])).v rfl
        simp only at a3
        have e : ∀ l, appD l 3 p v ver = setD l p v := fun l => by simp [appD, hr]
        rw [e l, e k]
        exact ⟨(hsd a3).1, fun _ => (hsd a3).2⟩
      by_cases h4 : op = 4
      · subst h4
        have a1 := (h (p, 101) (by simp [rds, hv])).e rfl
        have a3 := (h (p, 118) (by simp [rds, hv])).v rfl
        simp only at a1 a3
        have e : ∀ l, appD l 4 p v ver = gtD l p := fun l => by simp [appD, hr]
        rw [e l, e k]
        unfold gtD
        rw [a1, a3]
        split
        · exact ⟨rfl, fun _ => a3⟩
        · exact ⟨rfl, fun _ => a3⟩
      by_cases h5 : op = 5
      · subst h5
        have a1 := (h (p, 101) (by simp [rds, hv])).e rfl
        have a2 := (h (p, 107) (by simp [rds, hv])).k rfl
        simp only at a1 a2
        have e : ∀ l, appD l 5 p v ver = lsD l p := fun l => by simp [appD, hr]
        rw [e l, e k]
        unfold lsD
        rw [a1, a2]
        have hw : wrs 5 p = [] := wrs_read p (.inr rfl)
        rw [hw]
        split
        · exact ⟨rfl, fun hm => by cases hm⟩
        · exact ⟨rfl, fun hm => by cases hm⟩
      by_cases h6 : op = 6
      · subst h6
        have a1 := (h (p, 101) (by simp [rds, hv, ho.2])).e rfl
        have a3 := (h (p, 118) (by simp [rds, hv, ho.2])).v rfl
        simp only at a1 a3
        have e : ∀ l, appD l 6 p v ver = casD l p v ver := fun l => by simp [appD, hr]
        rw [e l, e k]
        unfold casD
        rw [a1, a3]
        split
        · exact ⟨rfl, fun _ => a3⟩
        · exact ⟨(hsd a3).1, fun _ => (hsd a3).2⟩
      have e : ∀ l, appD l op p v ver = (bad 1, l) := fun l => by simp [appD, hr, h1, h2, h3, h4, h5, h6]
      rw [e l, e k]
      exact ⟨rfl, fun hm => (h _ (List.mem_append_right _ hm)).v rfl⟩
theorem dst_not {o1 o2 : Int} {p1 p2 : ByteArray} (h : dst o1 p1 o2 p2 = false) : ∀ c, c ∈ rds o2 p2 ++ wrs o2 p2 → c ∉ wrs o1 p1 := by
  intro c hc hw
  unfold dst memB at h
  rw [List.any_eq_false] at h
  have := h c hc
  apply this
  rw [List.any_eq_true]
  exact ⟨c, hw, by simp⟩
theorem wrs_val {o : Int} {p q : ByteArray} (h : (q, (118 : Int)) ∈ wrs o p) : q = p := by
  unfold wrs at h
  split at h
  · cases h
  · split at h
    · simpa using h
    · split at h
      · simpa using h
      · cases h
/-- Two that don't matter to each other. -/
theorem swap_law {l : List E3} (h : RightD l) (o1 : Int) (p1 v1 : ByteArray) (n1 : Int) (o2 : Int) (p2 v2 : ByteArray) (n2 : Int) (hm : mtr o1 p1 o2 p2 = false) :
    (appD l o1 p1 v1 n1).1 = (appD (appD l o2 p2 v2 n2).2 o1 p1 v1 n1).1 ∧ (appD (appD l o1 p1 v1 n1).2 o2 p2 v2 n2).1 = (appD l o2 p2 v2 n2).1 ∧
      (appD (appD l o1 p1 v1 n1).2 o2 p2 v2 n2).2 = (appD (appD l o2 p2 v2 n2).2 o1 p1 v1 n1).2 := by
  unfold mtr at hm
  rw [Bool.or_eq_false_iff] at hm
  have d1 := dst_not hm.1
  have d2 := dst_not hm.2
  have hA := h.app o1 p1 v1 n1
  have hB := h.app o2 p2 v2 n2
  have L1 := app_local h hB o1 p1 v1 n1 (fun c hc => app_frame h o2 p2 v2 n2 (d2 c hc))
  have L2 := app_local h hA o2 p2 v2 n2 (fun c hc => app_frame h o1 p1 v1 n1 (d1 c hc))
  refine ⟨L1.1, L2.1.symm, fnd_ext (hA.app o2 p2 v2 n2).rise (hB.app o1 p1 v1 n1).rise fun q => ?_⟩
  by_cases w2 : (q, (118 : Int)) ∈ wrs o2 p2
  · have w1 := d1 _ (List.mem_append_right _ w2)
    have hq := wrs_val w2
    have e1 := L2.2 (by have h := w2; rw [hq] at h; exact h)
    have e2 := (app_frame hB o1 p1 v1 n1 w1).v rfl
    simp only at e2
    rw [← e2, hq]
    exact e1.symm
  · have e1 := (app_frame hA o2 p2 v2 n2 w2).v rfl
    simp only at e1
    rw [← e1]
    by_cases w1 : (q, (118 : Int)) ∈ wrs o1 p1
    · have hq := wrs_val w1
      have e2 := L1.2 (by have h := w1; rw [hq] at h; exact h)
      rw [hq]
      exact e2
    · have e2 := (app_frame h o1 p1 v1 n1 w1).v rfl
      have e3 := (app_frame h o2 p2 v2 n2 w2).v rfl
      have e4 := (app_frame hB o1 p1 v1 n1 w1).v rfl
      simp only at e2 e3 e4
      rw [← e2, ← e4, e3]
end Go.Proofs.YtbebjpfbbidaiaaGreat
