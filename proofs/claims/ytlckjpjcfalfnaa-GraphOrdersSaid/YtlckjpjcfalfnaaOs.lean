/-
  Graph, plainly: what Order's answer is, told by what leads where.
-/
import Derived.Test.YtlckjpjcfalfnaaTi
import Derived.Test.YtlckjpjcfalfnaaGrD
namespace Go.Proofs.Ytlckjpjcfalfnaa
open Go.RowKit Go.Sort
open Go.WideMaps
set_option linter.unusedSimpArgs false
set_option linter.unusedVariables false
set_option maxRecDepth 100000

/-- Groups that lead to each other, each behind all it leads to, the least first of those that may come. -/
structure OrdSem (web : List (I3 × NV)) (os : List (List I3)) : Prop where
  nd : os.flatten.Nodup
  mem : ∀ x, x ∈ os.flatten ↔ x ∈ keysV web
  srt : ∀ g ∈ os, g ≠ [] ∧ g.Pairwise (fun x y => ltG web x y = true)
  mutu : ∀ g ∈ os, ∀ x ∈ g, ∀ y ∈ g, x = y ∨ Rch (eV web) x y
  dep : ∀ o1 g o2, os = o1 ++ g :: o2 → ∀ x ∈ g, ∀ d ∈ eV web x, d ∈ g ∨ d ∈ o1.flatten
  lst : ∀ o1 g o2, os = o1 ++ g :: o2 → ∀ h ∈ o2, (∀ x ∈ h, ∀ d ∈ eV web x, d ∈ h ∨ d ∈ o1.flatten) → ∃ a ∈ g, ∀ b ∈ h, ltI a b = true
/-- Who comes behind whom. -/
theorem lkD_mem (ofi : List (I3 × Nat)) (j : Nat) (G : Nat → Gp) (d : I3) (t i : Nat) : t ∈ (lkD ofi j G d i).bh ↔ t ∈ (G i).bh ∨ (t = j ∧ getV ofi d = some i ∧ i ≠ j) := by
  cases e : getV ofi d with
  | none =>
    have e0 : lkD ofi j G d = G := by unfold lkD; rw [e]
    rw [e0]
    simp
  | some k =>
    by_cases hne : k = j
    · have e0 : lkD ofi j G d = G := by unfold lkD; rw [e]; exact if_pos hne
      subst hne
      rw [e0]
      constructor
      · exact .inl
      · rintro (q | ⟨_, q, r⟩)
        · exact q
        · injection q with q; exact absurd q.symm r
    · have e0 : lkD ofi j G d = upG (upG G k { G k with bh := (G k).bh ++ [j] }) j { upG G k { G k with bh := (G k).bh ++ [j] } j with wt := (upG G k { G k with bh := (G k).bh ++ [j] } j).wt + 1 } := by unfold lkD; rw [e]; exact if_neg hne
      have hb : ∀ t', (upG (upG G k { G k with bh := (G k).bh ++ [j] }) j { upG G k { G k with bh := (G k).bh ++ [j] } j with wt := (upG G k { G k with bh := (G k).bh ++ [j] } j).wt + 1 } t').bh = if t' = k then (G k).bh ++ [j] else (G t').bh := fun t' => by
        have hjk : j ≠ k := fun e => hne e.symm
        by_cases e1 : t' = j
        · subst e1; rw [upG_same, if_neg hjk]; simp only; rw [upG_else _ _ hjk]
        · rw [upG_else _ _ e1]
          by_cases e2 : t' = k
          · subst e2; rw [upG_same, if_pos rfl]
          · rw [upG_else _ _ e2, if_neg e2]
      rw [e0, hb]
      by_cases e3 : i = k
      · subst e3
        rw [if_pos rfl, List.mem_append, List.mem_singleton]
        constructor
        · rintro (q | q)
          · exact .inl q
          · exact .inr ⟨q, rfl, hne⟩
        · rintro (q | ⟨q, _, _⟩)
          · exact .inl q
          · exact .inr q
      · rw [if_neg e3]
        constructor
        · exact .inl
        · rintro (q | ⟨_, q, _⟩)
          · exact q
          · injection q with q; exact absurd q.symm e3
theorem lkX_mem (ofi : List (I3 × Nat)) (j : Nat) (t i : Nat) : ∀ (l : List I3) (G : Nat → Gp), t ∈ (l.foldl (lkD ofi j) G i).bh ↔ t ∈ (G i).bh ∨ (t = j ∧ ∃ d ∈ l, getV ofi d = some i ∧ i ≠ j)
  | [], G => by simp
  | a :: l, G => by
    rw [List.foldl_cons, lkX_mem ofi j t i l, lkD_mem]
    constructor
    · rintro ((q | ⟨q1, q2, q3⟩) | ⟨q1, d, q2, q3⟩)
      · exact .inl q
      · exact .inr ⟨q1, a, List.mem_cons_self .., q2, q3⟩
      · exact .inr ⟨q1, d, List.mem_cons_of_mem _ q2, q3⟩
    · rintro (q | ⟨q1, d, q2, q3⟩)
      · exact .inl (.inl q)
      · rcases List.mem_cons.1 q2 with e | e
        · subst e; exact .inl (.inr ⟨q1, q3.1, q3.2⟩)
        · exact .inr ⟨q1, d, e, q3⟩
theorem lkG_mem (web : List (I3 × NV)) (ofi : List (I3 × Nat)) (j : Nat) (t i : Nat) : ∀ (l : List I3) (G : Nat → Gp), t ∈ (l.foldl (lkX web ofi j) G i).bh ↔ t ∈ (G i).bh ∨ (t = j ∧ ∃ x ∈ l, ∃ d ∈ stepsV web x, getV ofi d = some i ∧ i ≠ j)
  | [], G => by simp
  | a :: l, G => by
    rw [List.foldl_cons, lkG_mem web ofi j t i l]
    unfold lkX
    rw [lkX_mem]
    constructor
    · rintro ((q | ⟨q1, q2⟩) | ⟨q1, x, q2, q3⟩)
      · exact .inl q
      · exact .inr ⟨q1, a, List.mem_cons_self .., q2⟩
      · exact .inr ⟨q1, x, List.mem_cons_of_mem _ q2, q3⟩
    · rintro (q | ⟨q1, x, q2, q3⟩)
      · exact .inl (.inl q)
      · rcases List.mem_cons.1 q2 with e | e
        · subst e; exact .inl (.inr ⟨q1, q3⟩)
        · exact .inr ⟨q1, x, e, q3⟩
theorem lkA_mem (web : List (I3 × NV)) (ofi : List (I3 × Nat)) (ids : Nat → List I3) (t i : Nat) : ∀ (l : List Nat) (G : Nat → Gp), t ∈ (l.foldl (lkG web ofi ids) G i).bh ↔ t ∈ (G i).bh ∨ (t ∈ l ∧ ∃ x ∈ ids t, ∃ d ∈ stepsV web x, getV ofi d = some i ∧ i ≠ t)
  | [], G => by simp
  | a :: l, G => by
    rw [List.foldl_cons, lkA_mem web ofi ids t i l]
    unfold lkG
    rw [lkG_mem]
    constructor
    · rintro ((q | ⟨q1, q2⟩) | ⟨q1, q2⟩)
      · exact .inl q
      · subst q1; exact .inr ⟨List.mem_cons_self .., q2⟩
      · exact .inr ⟨List.mem_cons_of_mem _ q1, q2⟩
    · rintro (q | ⟨q1, q2⟩)
      · exact .inl (.inl q)
      · rcases List.mem_cons.1 q1 with e | e
        · subst e; exact .inl (.inr ⟨rfl, q2⟩)
        · exact .inr ⟨e, q2⟩
theorem bhO_mem (web : List (I3 × NV)) (M : FM) (t i : Nat) : t ∈ bhO web M i ↔ t < M.gs.length ∧ ∃ x ∈ idsO web M.gs t, ∃ d ∈ stepsV web x, getV M.ofi d = some i ∧ i ≠ t := by
  unfold bhO lkO
  rw [lkA_mem, List.mem_range]
  constructor
  · rintro (q | q)
    · cases q
    · exact q
  · exact .inr
theorem sum_zero : ∀ (l : List Nat) (f : Nat → Nat), (∀ i ∈ l, f i = 0) → (l.map f).sum = 0
  | [], _, _ => rfl
  | a :: l, f, h => by
    rw [List.map_cons, List.sum_cons, h a (List.mem_cons_self ..), sum_zero l f (fun i hi => h i (List.mem_cons_of_mem _ hi))]
theorem zero_sum : ∀ (l : List Nat) (f : Nat → Nat), (l.map f).sum = 0 → ∀ i ∈ l, f i = 0
  | [], _, _, i, hi => by cases hi
  | a :: l, f, h, i, hi => by
    rw [List.map_cons, List.sum_cons] at h
    rcases List.mem_cons.1 hi with e | e
    · subst e; omega
    · exact zero_sum l f (by omega) i e
theorem rem_zero {N : Nat} {E : Nat → List Nat} {out : List Nat} {j : Nat} : rem N E out j = 0 ↔ ∀ i, i < N → j ∈ E i → i ∈ out := by
  unfold rem
  constructor
  · intro h i hi hj
    have q := zero_sum _ _ h i (List.mem_range.2 hi)
    by_cases e : i ∈ out
    · exact e
    · rw [if_neg e] at q
      exact absurd hj (List.count_eq_zero.1 q)
  · intro h
    refine sum_zero _ _ fun i hi => ?_
    split
    · rfl
    · rename_i e
      exact List.count_eq_zero.2 fun q => e (h i (List.mem_range.1 hi) q)
/-- In which order groups come. -/
def KO (N : Nat) (lst : Nat → I3) (E : Nat → List Nat) (out : List Nat) : Prop := ∀ o1 g o2, out = o1 ++ g :: o2 → (∀ i, i < N → g ∈ E i → i ∈ o1) ∧ ∀ h, h < N → h ∉ o1 → (∀ i, i < N → h ∈ E i → i ∈ o1) → h = g ∨ ltI (lst g) (lst h) = true
theorem KO.step {N : Nat} {lst : Nat → I3} {E : Nat → List Nat} {S : KS} (hK : KI N E [] S.F S.wt S.out) (h : KO N lst E S.out) (hl : ∀ a b, a < N → b < N → lst a = lst b → a = b) : KO N lst E (kstep lst E S).out := by
  unfold kstep
  split
  · exact h
  · rename_i hne
    have hp : 0 < S.F.length := List.length_pos_iff.2 hne
    have hpl := pick_lt lst S.F S.F.length hp (Nat.le_refl _)
    have hgF : S.F.getD (pick lst S.F S.F.length) 0 ∈ S.F := by rw [getD_at hpl]; exact List.getElem_mem hpl
    have hgN := hK.lt _ (List.mem_append_right _ hgF)
    intro o1 g o2 e
    simp only at e
    rcases List.append_eq_append_iff.1 e with ⟨t, e1, e2⟩ | ⟨t, e1, e2⟩
    · cases t with
      | nil =>
        simp at e2 e1
        subst e1
        obtain ⟨e2, -⟩ := e2
        rw [← e2]
        refine ⟨fun i hi hg => ?_, fun k hk hko hkp => ?_⟩
        · have q := (hK.mem _ hgN).2 (List.mem_append_right _ hgF)
          have q2 := hK.wt' (S.F.getD (pick lst S.F S.F.length) 0)
          rw [q] at q2
          exact rem_zero.1 (by simp at q2; omega) i hi hg
        · have q2 := hK.wt' k
          rw [rem_zero.2 hkp] at q2
          have q3 := (hK.mem k hk).1 (by simpa using q2)
          rcases List.mem_append.1 q3 with r | r
          · exact absurd r hko
          · obtain ⟨i, hi, hik⟩ := List.getElem_of_mem r
            have q4 := pick_least lst S.F S.F.length i hi
            rw [getD_at hi, hik] at q4
            cases q5 : ltI (lst (S.F.getD (pick lst S.F S.F.length) 0)) (lst k)
            · exact .inl (hl _ _ hk hgN (ltI_total q4 q5))
            · exact .inr q5
      | cons t0 t => simp at e2
    · cases t with
      | nil =>
        simp at e2 e1
        subst e1
        obtain ⟨e2, -⟩ := e2
        rw [e2]
        refine ⟨fun i hi hg => ?_, fun k hk hko hkp => ?_⟩
        · have q := (hK.mem _ hgN).2 (List.mem_append_right _ hgF)
          have q2 := hK.wt' (S.F.getD (pick lst S.F S.F.length) 0)
          rw [q] at q2
          exact rem_zero.1 (by simp at q2; omega) i hi hg
        · have q2 := hK.wt' k
          rw [rem_zero.2 hkp] at q2
          have q3 := (hK.mem k hk).1 (by simpa using q2)
          rcases List.mem_append.1 q3 with r | r
          · exact absurd r hko
          · obtain ⟨i, hi, hik⟩ := List.getElem_of_mem r
            have q4 := pick_least lst S.F S.F.length i hi
            rw [getD_at hi, hik] at q4
            cases q5 : ltI (lst (S.F.getD (pick lst S.F S.F.length) 0)) (lst k)
            · exact .inl (hl _ _ hk hgN (ltI_total q4 q5))
            · exact .inr q5
      | cons t0 t =>
        rw [List.cons_append] at e2
        obtain ⟨rfl, e3⟩ := List.cons.inj e2
        exact h o1 g t e1
theorem ord_sem {web : List (I3 × NV)} {os : List (List I3)} (h : OrdIs web os) : OrdSem web os := by
  obtain ⟨M, out, i, wt, hr, hos, hk⟩ := h.ex
  obtain ⟨hT, hI, hM⟩ := hr.ti (fun x hx => (mem_clnI _ _).1 hx)
  have hopn : M.opn = [] := hT.opn
  have hall : ∀ x, x ∈ keysV web ↔ ∃ j, getV M.ofi x = some j := fun x => by
    constructor
    · intro hx
      rcases (hT.cov x).1 (hM x ((mem_clnI _ _).2 hx)) with q | q
      · rw [hopn] at q; cases q
      · exact Option.isSome_iff_exists.1 q
    · rintro ⟨j, q⟩
      exact hI.web x ((hT.cov x).2 (.inr (by rw [q]; rfl)))
  have hlt : ∀ x j, getV M.ofi x = some j → j < M.gs.length := fun x j q => by
    obtain ⟨t, e, _⟩ := (hT.gof x j).1 q
    exact (List.getElem?_eq_some_iff.1 e).1
  have hids : ∀ j x, x ∈ idsO web M.gs j ↔ getV M.ofi x = some j := fun j x => by
    unfold idsO sortL
    rw [List.mem_mergeSort, hT.gof]
    by_cases hj : j < M.gs.length
    · rw [getD_at hj]
      constructor
      · exact fun q => ⟨_, List.getElem?_eq_getElem hj, q⟩
      · rintro ⟨t, e, q⟩
        rw [List.getElem?_eq_getElem hj] at e
        injection e with e
        rw [e]; exact q
    · rw [show M.gs.getD j [] = [] by simp [List.getD, List.getElem?_eq_none (Nat.le_of_not_lt hj)]]
      constructor
      · intro q; cases q
      · rintro ⟨t, e, q⟩
        exact absurd (List.getElem?_eq_some_iff.1 e).1 hj
  have hgs : ∀ j, j < M.gs.length → Rises (M.gs.getD j []) ∧ M.gs.getD j [] ≠ [] := fun j hj => by
    rw [getD_at hj]
    exact hT.gri _ (List.getElem_mem hj)
  have hmg : ∀ j x, x ∈ M.gs.getD j [] ↔ x ∈ idsO web M.gs j := fun j x => by unfold idsO sortL; rw [List.mem_mergeSort]
  have hlst : ∀ j, j < M.gs.length → lstO M.gs j ∈ idsO web M.gs j ∧ ∀ b ∈ idsO web M.gs j, b = lstO M.gs j ∨ ltI (lstO M.gs j) b = true := fun j hj => by
    obtain ⟨q1, q2⟩ := hgs j hj
    unfold lstO
    cases q : M.gs.getD j [] with
    | nil => exact absurd q q2
    | cons a l =>
      rw [q] at q1
      have r := List.pairwise_cons.1 q1
      refine ⟨(hmg j _).1 (by rw [q]; exact List.mem_cons_self ..), fun b hb => ?_⟩
      have hb2 := (hmg j b).2 hb
      rw [q] at hb2
      rcases List.mem_cons.1 hb2 with e | e
      · exact .inl e
      · exact .inr (r.1 b e)
  have hlo : ∀ x i, getV M.ofi x = some i → i < M.gs.length := hlt
  have hW : LkW M.gs.length (lkO web M) := LkW.all (web := web) hlo (idsO web M.gs) ⟨fun j => by
    have q : ∀ (l : List Nat), (l.map fun i => (gsOf web M.gs i).bh.count j).sum = 0 := fun l => by
      induction l with
      | nil => rfl
      | cons a l ih => rw [List.map_cons, List.sum_cons, ih]; rfl
    exact (q _).symm, fun i b hb => (by cases hb)⟩ (List.range M.gs.length) (fun j hj => List.mem_range.1 hj)
  have hEN : ∀ i, i < M.gs.length → ∀ b ∈ bhO web M i, b < M.gs.length := fun i _ b hb => hW.bh i b hb
  have hinj : ∀ a b, a < M.gs.length → b < M.gs.length → lstO M.gs a = lstO M.gs b → a = b := fun a b ha hb e => by
    have q1 := (hids a _).1 (hlst a ha).1
    have q2 := (hids b _).1 (hlst b hb).1
    rw [e, q2] at q1
    injection q1 with q1
    exact q1.symm
  have hrun : ∀ k, KI M.gs.length (bhO web M) [] (Nat.repeat (kstep (lstO M.gs) (bhO web M)) k ⟨(List.range M.gs.length).filter fun j => decide (wtO web M j = 0), wtO web M, []⟩).F (Nat.repeat (kstep (lstO M.gs) (bhO web M)) k ⟨(List.range M.gs.length).filter fun j => decide (wtO web M j = 0), wtO web M, []⟩).wt (Nat.repeat (kstep (lstO M.gs) (bhO web M)) k ⟨(List.range M.gs.length).filter fun j => decide (wtO web M j = 0), wtO web M, []⟩).out ∧ KO M.gs.length (lstO M.gs) (bhO web M) (Nat.repeat (kstep (lstO M.gs) (bhO web M)) k ⟨(List.range M.gs.length).filter fun j => decide (wtO web M j = 0), wtO web M, []⟩).out := fun k => by
    induction k with
    | zero => exact ⟨KI.start hW, fun o1 g o2 e => by simp [Nat.repeat] at e⟩
    | succ k ih => exact ⟨ih.1.step _ hEN, KO.step ih.1 ih.2 hinj⟩
  obtain ⟨hKI, hKO⟩ := hrun i
  rw [← hk] at hKI hKO
  simp only at hKI hKO
  have hcomp : ∀ m j, j < m → j < M.gs.length → j ∈ out := fun m => by
    induction m with
    | zero => exact fun j h => absurd h (Nat.not_lt_zero _)
    | succ m ih =>
      intro j hjm hj
      have hz : rem M.gs.length (bhO web M) out j = 0 := rem_zero.2 fun i hi hji => by
        obtain ⟨_, x, hx, d, hd, hdi, hne⟩ := (bhO_mem web M j i).1 hji
        have hxj := (hids j x).1 hx
        have hde : d ∈ eV web x := mem_eV.2 ⟨hd, by rw [getV_isSome, hasI_iff]; exact (hall d).2 ⟨i, hdi⟩⟩
        obtain ⟨k, hk1, hk2⟩ := hT.gcl x j hxj d hde
        rw [hdi] at hk2
        injection hk2 with hk2
        exact ih i (by omega) hi
      have q := hKI.wt' j
      rw [hz] at q
      have q2 := (hKI.mem j hj).1 (by simpa using q)
      simpa using q2
  have hout : ∀ j, j ∈ out ↔ j < M.gs.length := fun j => ⟨fun q => hKI.lt j (List.mem_append_left _ q), fun q => hcomp (j + 1) j (by omega) q⟩
  have hnd : out.Nodup := by have q := hKI.nd; simpa using q
  have hflat : ∀ (l : List Nat) x, x ∈ (l.map (idsO web M.gs)).flatten ↔ ∃ j ∈ l, getV M.ofi x = some j := fun l x => by
    rw [List.mem_flatten]
    constructor
    · rintro ⟨t, ht, hx⟩
      obtain ⟨j, hj, rfl⟩ := List.mem_map.1 ht
      exact ⟨j, hj, (hids j x).1 hx⟩
    · rintro ⟨j, hj, hx⟩
      exact ⟨_, List.mem_map_of_mem hj, (hids j x).2 hx⟩
  subst hos
  have hcut : ∀ o1 g o2, out.map (idsO web M.gs) = o1 ++ g :: o2 → ∃ p1 j p2, out = p1 ++ j :: p2 ∧ o1 = p1.map (idsO web M.gs) ∧ g = idsO web M.gs j ∧ o2 = p2.map (idsO web M.gs) := fun o1 g o2 e => by
    obtain ⟨p1, q, e1, e2, e3⟩ := List.map_eq_append_iff.1 e
    obtain ⟨j, p2, e4, e5, e6⟩ := List.map_eq_cons_iff.1 e3
    exact ⟨p1, j, p2, by rw [e1, e4], e2.symm, e5.symm, e6.symm⟩
  refine ⟨?_, fun x => ?_, fun g hg => ?_, fun g hg x hx y hy => ?_, fun o1 g o2 e x hx d hd => ?_, fun o1 g o2 e t ht hp => ?_⟩
  · unfold List.Nodup
    rw [List.pairwise_flatten]
    refine ⟨fun l hl => ?_, ?_⟩
    · obtain ⟨j, hj, rfl⟩ := List.mem_map.1 hl
      have q : (idsO web M.gs j).Nodup := by unfold idsO sortL; exact (List.mergeSort_perm _ _).nodup_iff.2 (hgs j ((hout j).1 hj)).1.nodup
      exact q
    · rw [List.pairwise_map]
      exact hnd.imp fun {a b} hab x hx y hy e => by
        subst e
        have q1 := (hids a x).1 hx
        have q2 := (hids b x).1 hy
        rw [q1] at q2
        injection q2 with q2
        exact hab q2
  · rw [hflat, hall]
    constructor
    · rintro ⟨j, _, q⟩; exact ⟨j, q⟩
    · rintro ⟨j, q⟩; exact ⟨j, (hout j).2 (hlt x j q), q⟩
  · obtain ⟨j, hj, rfl⟩ := List.mem_map.1 hg
    have hjN := (hout j).1 hj
    refine ⟨fun e => ?_, sortL_rises web (hgs j hjN).1.nodup⟩
    have := (hlst j hjN).1
    rw [e] at this
    cases this
  · obtain ⟨j, hj, rfl⟩ := List.mem_map.1 hg
    have hjN := (hout j).1 hj
    exact hT.gmu _ (List.getElem_mem hjN) x (by have q := (hmg j x).2 hx; rwa [getD_at hjN] at q) y (by have q := (hmg j y).2 hy; rwa [getD_at hjN] at q)
  · obtain ⟨p1, j, p2, e1, rfl, rfl, rfl⟩ := hcut o1 g o2 e
    have hxj := (hids j x).1 hx
    obtain ⟨k, hk1, hk2⟩ := hT.gcl x j hxj d hd
    by_cases hkj : k = j
    · subst hkj; exact .inl ((hids k d).2 hk2)
    · refine .inr ((hflat p1 d).2 ⟨k, (hKO p1 j p2 e1).1 k (hlt d k hk2) ?_, hk2⟩)
      exact (bhO_mem web M j k).2 ⟨hlt x j hxj, x, hx, d, (mem_eV.1 hd).1, hk2, hkj⟩
  · obtain ⟨p1, j, p2, e1, rfl, rfl, rfl⟩ := hcut o1 g o2 e
    obtain ⟨k, hk, rfl⟩ := List.mem_map.1 ht
    have hnd2 := hnd
    rw [e1, List.nodup_append, List.nodup_cons] at hnd2
    have hkN : k < M.gs.length := (hout k).1 (by rw [e1]; simp [hk])
    have hjN : j < M.gs.length := (hout j).1 (by rw [e1]; simp)
    have hkp : k ∉ p1 := fun r => hnd2.2.2 k r k (List.mem_cons_of_mem _ hk) rfl
    have hpre : ∀ i, i < M.gs.length → k ∈ bhO web M i → i ∈ p1 := fun i hi hki => by
      obtain ⟨_, x, hx, d, hd, hdi, hne⟩ := (bhO_mem web M k i).1 hki
      have hde : d ∈ eV web x := mem_eV.2 ⟨hd, by rw [getV_isSome, hasI_iff]; exact (hall d).2 ⟨i, hdi⟩⟩
      rcases hp x hx d hde with q | q
      · have q2 := (hids k d).1 q
        rw [hdi] at q2
        injection q2 with q2
        exact absurd q2 hne
      · obtain ⟨p, hpm, hpd⟩ := (hflat p1 d).1 q
        rw [hdi] at hpd
        injection hpd with hpd
        rw [hpd]; exact hpm
    rcases (hKO p1 j p2 e1).2 k hkN hkp hpre with q | q
    · subst q; exact absurd hk hnd2.2.1.1
    · refine ⟨lstO M.gs j, (hlst j hjN).1, fun b hb => ?_⟩
      rcases (hlst k hkN).2 b hb with r | r
      · rw [r]; exact q
      · exact ltI_trans q r
/-- Groups are told by what leads where. -/
theorem OrdSem.class' {web : List (I3 × NV)} {os : List (List I3)} (h : OrdSem web os) {o1 o2 : List (List I3)} {g : List I3} (e : os = o1 ++ g :: o2) {x y : I3} (hx : x ∈ g) (hxy : Rch (eV web) x y) (hyx : Rch (eV web) y x) : y ∈ g := by
  have hcl : ∀ (A B : List (List I3)), os = A ++ B → ∀ a b, Rch (eV web) a b → a ∈ A.flatten → b ∈ A.flatten := fun A B eA a b hr ha => by
    have st : ∀ c ∈ A.flatten, ∀ d ∈ eV web c, d ∈ A.flatten := fun c hc d hd => by
      obtain ⟨t, ht, hct⟩ := List.mem_flatten.1 hc
      obtain ⟨a1, a2, e1⟩ := List.append_of_mem ht
      rw [e1] at eA ⊢
      rw [List.append_assoc, List.cons_append] at eA
      rcases h.dep a1 t (a2 ++ B) eA c hct d hd with q | q
      · simp [q]
      · rw [List.flatten_append]; exact List.mem_append_left _ q
    induction hr with
    | one hd => exact st _ ha _ hd
    | more _ hd ih => exact st _ ih _ hd
  have hy1 : y ∈ (o1 ++ [g]).flatten := hcl (o1 ++ [g]) o2 (by rw [e]; simp) x y hxy (by simp [hx])
  rw [List.flatten_append, List.mem_append] at hy1
  rcases hy1 with q | q
  · have hx1 := hcl o1 (g :: o2) e y x hyx q
    have hn := h.nd
    rw [e, List.flatten_append, List.nodup_append] at hn
    exact absurd rfl (hn.2.2 x hx1 x (by simp [hx]))
  · simpa using q
theorem OrdSem.uniq {web : List (I3 × NV)} {os os' : List (List I3)} (h : OrdSem web os) (h' : OrdSem web os') : os = os' := by
  have key : ∀ (r r' p : List (List I3)), os = p ++ r → os' = p ++ r' → r = r' := by
    intro r
    induction r with
    | nil =>
      intro r' p e e'
      cases r' with
      | nil => rfl
      | cons g r' =>
        have hg := h'.srt g (by rw [e']; simp)
        obtain ⟨x, hx⟩ := List.exists_mem_of_ne_nil g hg.1
        have q := (h'.mem x).1 (by rw [e']; simp [hx])
        have q2 := (h.mem x).2 q
        have hn := h'.nd
        rw [e', List.flatten_append, List.nodup_append] at hn
        rw [e] at q2
        exact absurd rfl (hn.2.2 x (by simpa using q2) x (by simp [hx]))
    | cons g r ih =>
      intro r' p e e'
      cases r' with
      | nil =>
        have hg := h.srt g (by rw [e]; simp)
        obtain ⟨x, hx⟩ := List.exists_mem_of_ne_nil g hg.1
        have q := (h.mem x).1 (by rw [e]; simp [hx])
        have q2 := (h'.mem x).2 q
        have hn := h.nd
        rw [e, List.flatten_append, List.nodup_append] at hn
        rw [e'] at q2
        exact absurd rfl (hn.2.2 x (by simpa using q2) x (by simp [hx]))
      | cons g' r' =>
        have fnd : ∀ {A B p : List (List I3)} {a b : List I3}, OrdSem web (p ++ a :: A) → OrdSem web (p ++ b :: B) → ∀ x ∈ b, x ∈ a → a = b := fun {A B p a b} hA hB x hxb hxa => by
          refine ltG_uniq web (hA.srt a (by simp)).2 (hB.srt b (by simp)).2 fun y => ⟨fun hy => ?_, fun hy => ?_⟩
          · rcases hA.mutu a (by simp) x hxa y hy with q | q
            · rw [← q]; exact hxb
            · rcases hA.mutu a (by simp) y hy x hxa with q2 | q2
              · rw [q2]; exact hxb
              · exact hB.class' rfl hxb q q2
          · rcases hB.mutu b (by simp) x hxb y hy with q | q
            · rw [← q]; exact hxa
            · rcases hB.mutu b (by simp) y hy x hxb with q2 | q2
              · rw [q2]; exact hxa
              · exact hA.class' rfl hxa q q2
        rw [e] at h
        rw [e'] at h'
        have low : ∀ {A B p : List (List I3)} {a b : List I3}, OrdSem web (p ++ a :: A) → OrdSem web (p ++ b :: B) → a ≠ b → ∃ c ∈ a, ∀ d ∈ b, ltI c d = true := fun {A B p a b} hA hB hne => by
          obtain ⟨x, hx⟩ := List.exists_mem_of_ne_nil b (hB.srt b (by simp)).1
          have q := (hA.mem x).2 ((hB.mem x).1 (by simp [hx]))
          rw [List.flatten_append, List.flatten_cons, List.mem_append, List.mem_append] at q
          rcases q with q | q | q
          · have hn := hB.nd
            rw [List.flatten_append, List.nodup_append] at hn
            exact absurd rfl (hn.2.2 x q x (by simp [hx]))
          · exact absurd (fnd hA hB x hx q) hne
          · obtain ⟨t, ht, hxt⟩ := List.mem_flatten.1 q
            obtain ⟨t1, t2, et⟩ := List.append_of_mem ht
            have htb : t = b := by
              refine ltG_uniq web (hA.srt t (by rw [et]; simp)).2 (hB.srt b (by simp)).2 fun y => ⟨fun hy => ?_, fun hy => ?_⟩
              · rcases hA.mutu t (by rw [et]; simp) x hxt y hy with q | q
                · rw [← q]; exact hx
                · rcases hA.mutu t (by rw [et]; simp) y hy x hxt with q2 | q2
                  · rw [q2]; exact hx
                  · exact hB.class' rfl hx q q2
              · rcases hB.mutu b (by simp) x hx y hy with q | q
                · rw [← q]; exact hxt
                · rcases hB.mutu b (by simp) y hy x hx with q2 | q2
                  · rw [q2]; exact hxt
                  · exact hA.class' (o1 := p ++ a :: t1) (o2 := t2) (by rw [et]; simp) hxt q q2
            subst htb
            exact hA.lst p a A rfl t ht (fun z hz d hd => hB.dep p t B rfl z hz d hd)
        by_cases hgg : g = g'
        · subst hgg
          have q := ih r' (p ++ [g]) (by rw [e]; simp) (by rw [e']; simp)
          rw [q]
        · obtain ⟨c, hc, hcl⟩ := low h h' hgg
          obtain ⟨c', hc', hcl'⟩ := low h' h (fun q => hgg q.symm)
          have q1 := hcl c' hc'
          have q2 := hcl' c hc
          rw [ltI_asymm q1] at q2
          cases q2
  exact key os os' [] rfl rfl
end Go.Proofs.Ytlckjpjcfalfnaa
