/-
  A machine: a directory's entries, and what each client was answered last; no program.
-/
import Derived.Test.YtbebjpfbbidaiaaGreatJSwp
import Derived.Test.YtbebjpfbbidaiaaGreatJ6
namespace Go.Proofs.YtbebjpfbbidaiaaGreat
open Tc (ctl bth mtr)
set_option linter.unusedSimpArgs false
set_option linter.unusedVariables false

/-- A client, its number, its reply. -/
abbrev S3 := Int × Int × Rep
def RisesS (s : List S3) : Prop := s.Pairwise fun a b => a.1 < b.1
def fndS (s : List S3) (c : Int) : Option (Int × Rep) := (s.find? fun e => decide (e.1 = c)).map (·.2)
def lowS (s : List S3) (c : Int) : List S3 := s.filter fun e => decide (e.1 < c)
def upS (s : List S3) (c : Int) : List S3 := s.filter fun e => decide (c < e.1)
def putS (s : List S3) (c q : Int) (r : Rep) : List S3 := lowS s c ++ (c, q, r) :: upS s c
theorem RisesS.one {l : List S3} (h : RisesS l) {a b : S3} (ha : a ∈ l) (hb : b ∈ l) (e : a.1 = b.1) : a = b := by
  induction l with
  | nil => cases ha
  | cons x l ih =>
    have hx := List.pairwise_cons.1 h
    rcases List.mem_cons.1 ha with rfl | ha'
    · rcases List.mem_cons.1 hb with rfl | hb'
      · rfl
      · have := hx.1 b hb'; omega
    · rcases List.mem_cons.1 hb with rfl | hb'
      · have := hx.1 a ha'; omega
      · exact ih hx.2 ha' hb'
theorem fndS_some {l : List S3} (h : RisesS l) {c q : Int} {r : Rep} : fndS l c = some (q, r) ↔ (c, q, r) ∈ l := by
  unfold fndS
  constructor
  · intro g
    rw [Option.map_eq_some_iff] at g
    obtain ⟨e, he, hv⟩ := g
    have h1 := List.mem_of_find?_eq_some he
    have h2 := List.find?_some he
    obtain ⟨ep, ev⟩ := e
    simp only [decide_eq_true_eq] at h2 hv
    subst h2 hv
    exact h1
  · intro g
    cases hf : l.find? (fun e => decide (e.1 = c)) with
    | none =>
      have := List.find?_eq_none.1 hf _ g
      simp at this
    | some e =>
      have h1 := List.mem_of_find?_eq_some hf
      have h2 := List.find?_some hf
      have := h.one h1 g (by simpa using h2)
      subst this
      rfl
theorem mem_putS {l : List S3} {c q : Int} {r : Rep} {e : S3} : e ∈ putS l c q r ↔ e = (c, q, r) ∨ (e ∈ l ∧ e.1 ≠ c) := by
  unfold putS lowS upS
  rw [List.mem_append, List.mem_cons, List.mem_filter, List.mem_filter]
  simp only [decide_eq_true_eq]
  constructor
  · rintro (⟨h, g⟩ | rfl | ⟨h, g⟩)
    · exact .inr ⟨h, by omega⟩
    · exact .inl rfl
    · exact .inr ⟨h, by omega⟩
  · rintro (rfl | ⟨h, g⟩)
    · exact .inr (.inl rfl)
    · by_cases hl : e.1 < c
      · exact .inl ⟨h, hl⟩
      · exact .inr (.inr ⟨h, by omega⟩)
theorem RisesS.put {l : List S3} (h : RisesS l) (c q : Int) (r : Rep) : RisesS (putS l c q r) := by
  unfold RisesS putS lowS upS
  rw [List.pairwise_append, List.pairwise_cons]
  refine ⟨List.Pairwise.sublist List.filter_sublist h, ⟨?_, List.Pairwise.sublist List.filter_sublist h⟩, ?_⟩
  · intro a ha
    simpa using (List.mem_filter.1 ha).2
  · intro a ha b hb
    have h1 : a.1 < c := by simpa using (List.mem_filter.1 ha).2
    rcases List.mem_cons.1 hb with rfl | hb
    · exact h1
    · have h2 : c < b.1 := by simpa using (List.mem_filter.1 hb).2
      omega
theorem optS_ext {a b : Option (Int × Rep)} (h : ∀ v n, a = some (v, n) ↔ b = some (v, n)) : a = b := by
  cases a with
  | none =>
    cases b with
    | none => rfl
    | some y => exact absurd ((h y.1 y.2).2 rfl) (by simp)
  | some x => exact ((h x.1 x.2).1 rfl).symm
theorem fndS_put {l : List S3} (h : RisesS l) (c q : Int) (r : Rep) (d : Int) : fndS (putS l c q r) d = if d = c then some (q, r) else fndS l d := by
  refine optS_ext fun u m => ?_
  rw [fndS_some (h.put c q r), mem_putS]
  by_cases e : d = c
  · subst e
    rw [if_pos rfl]
    simp [eq_comm]
  · rw [if_neg e, fndS_some h]
    simp [e]
theorem RisesS.ext : ∀ {l k : List S3}, RisesS l → RisesS k → (∀ e, e ∈ l ↔ e ∈ k) → l = k
  | [], k, _, _, h => by
    cases k with
    | nil => rfl
    | cons x k => exact absurd ((h x).2 (.head _)) (by simp)
  | x :: l, [], _, _, h => absurd ((h x).1 (.head _)) (by simp)
  | x :: l, y :: k, hl, hk, h => by
    have hx := List.pairwise_cons.1 hl
    have hy := List.pairwise_cons.1 hk
    have e : x = y := by
      rcases List.mem_cons.1 ((h x).1 (.head _)) with g | g
      · exact g
      · rcases List.mem_cons.1 ((h y).2 (.head _)) with r | r
        · exact r.symm
        · have h1 := hy.1 x g
          have h2 := hx.1 y r
          omega
    subst e
    congr 1
    refine RisesS.ext hx.2 hy.2 fun z => ?_
    constructor
    · intro g
      rcases List.mem_cons.1 ((h z).1 (.tail _ g)) with r | r
      · subst r; have := hx.1 z g; omega
      · exact r
    · intro g
      rcases List.mem_cons.1 ((h z).2 (.tail _ g)) with r | r
      · subst r; have := hy.1 z g; omega
      · exact r
theorem fndS_ext {l k : List S3} (hl : RisesS l) (hk : RisesS k) (h : ∀ c, fndS l c = fndS k c) : l = k := by
  refine RisesS.ext hl hk fun e => ?_
  obtain ⟨c, q, r⟩ := e
  rw [← fndS_some hl, ← fndS_some hk, h]
theorem len_putS_eq {l : List S3} (h : RisesS l) (c q : Int) (r : Rep) : (putS l c q r).length = if (fndS l c).isSome then l.length else l.length + 1 := by
  have key : ∀ l : List S3, RisesS l → (lowS l c).length + (upS l c).length + (if (fndS l c).isSome then 1 else 0) = l.length := by
    intro l
    induction l with
    | nil => intro _; rfl
    | cons x l ih =>
      intro h
      have hx := List.pairwise_cons.1 h
      have := ih hx.2
      by_cases e : x.1 = c
      · have h1 : (fndS (x :: l) c).isSome = true := by simp [fndS, List.find?_cons, e]
        have h2 : (fndS l c).isSome = false := by
          cases hf : fndS l c with
          | none => rfl
          | some y =>
            have hm := (fndS_some (q := y.1) (r := y.2) hx.2).1 hf
            have := hx.1 _ hm
            simp only at this
            omega
        rw [h2] at this
        rw [h1]
        unfold lowS upS at this ⊢
        rw [List.filter_cons, List.filter_cons]
        simp [e] at this ⊢
        exact this
      · have h1 : (fndS (x :: l) c).isSome = (fndS l c).isSome := by simp [fndS, List.find?_cons, e]
        rw [h1, List.length_cons]
        unfold lowS upS at this ⊢
        rw [List.filter_cons, List.filter_cons]
        by_cases hlt : x.1 < c
        · have hn : ¬ c < x.1 := by omega
          simp only [hlt, hn, decide_true, decide_false, if_true, Bool.false_eq_true, if_false, List.length_cons]
          omega
        · have hgt : c < x.1 := by omega
          simp only [hlt, hgt, decide_true, decide_false, if_true, Bool.false_eq_true, if_false, List.length_cons]
          omega
  have h1 := key l h
  unfold putS
  rw [List.length_append, List.length_cons]
  split at h1 <;> rename_i g <;> simp [g] <;> omega
/-- May a client and its number be? -/
def valS (cl sq : Int) : Bool := decide (0 ≤ cl) && decide (cl ≤ 1099511627776) && decide (1 ≤ sq) && decide (sq ≤ 1099511627776)
structure Mac where
  l : List E3
  s : List S3
/-- What a command is told without that it is done. -/
def actM (s : List S3) (t : Cm) : Option Rep :=
  if t.op = 0 then some (bad 0) else if valS t.cl t.sq = false then some (bad 1) else
  match fndS s t.cl with
  | some (q, r) => if t.sq < q then some (bad 6) else if q = t.sq then some r else none
  | none => none
def doM (m : Mac) (t : Cm) (c : Rep) : Rep × Mac :=
  if ctl t.op then (c, ⟨m.l, putS m.s t.cl t.sq c⟩) else ((appD m.l t.op t.pa t.va t.ver).1, ⟨(appD m.l t.op t.pa t.va t.ver).2, putS m.s t.cl t.sq (appD m.l t.op t.pa t.va t.ver).1⟩)
def appM (m : Mac) (t : Cm) (c : Rep) : Rep × Mac :=
  match actM m.s t with
  | some r => (r, m)
  | none => doM m t c
structure RightM (m : Mac) : Prop where
  dir : RightD m.l
  rise : RisesS m.s
  val : ∀ e ∈ m.s, valS e.1 e.2.1 = true
  err : ∀ e ∈ m.s, e.2.2.err ≠ 6
theorem app_err6 (l : List E3) (op : Int) (p v : ByteArray) (ver : Int) : (appD l op p v ver).1.err ≠ 6 := by
  have hset : (setD l p v).1.err ≠ 6 := by unfold setD; cases fndD l p <;> simp [bad]
  unfold appD
  split
  · simp [bad]
  · split
    · unfold crD; split
      · simp [bad]
      · split <;> simp [bad]
    · split
      · unfold rmD; split
        · split <;> simp [bad]
        · simp [bad]
      · split
        · exact hset
        · split
          · unfold gtD; split <;> simp [bad]
          · split
            · unfold lsD; split <;> simp [bad]
            · split
              · unfold casD; split
                · simp
                · exact hset
              · simp [bad]
theorem act_val {s : List S3} {t : Cm} (h : actM s t = none) : t.op ≠ 0 ∧ valS t.cl t.sq = true := by
  unfold actM at h
  split at h
  · cases h
  · rename_i h0
    split at h
    · cases h
    · rename_i h1
      exact ⟨h0, by simpa using h1⟩
theorem RightM.put {m : Mac} (h : RightM m) {l : List E3} (hl : RightD l) {c q : Int} (hv : valS c q = true) {r : Rep} (hr : r.err ≠ 6) : RightM ⟨l, putS m.s c q r⟩ := by
  refine ⟨hl, h.rise.put _ _ _, fun e he => ?_, fun e he => ?_⟩
  · rcases mem_putS.1 he with rfl | ⟨h1, _⟩
    · exact hv
    · exact h.val e h1
  · rcases mem_putS.1 he with rfl | ⟨h1, _⟩
    · exact hr
    · exact h.err e h1
theorem RightM.app {m : Mac} (h : RightM m) (t : Cm) {c : Rep} (hc : c.err ≠ 6) : RightM (appM m t c).2 := by
  unfold appM
  cases ha : actM m.s t with
  | some r => exact h
  | none =>
    have hv := (act_val ha).2
    simp only
    unfold doM
    split
    · exact h.put h.dir hv hc
    · exact h.put (h.dir.app _ _ _ _) hv (app_err6 _ _ _ _ _)
theorem RightM.empty : RightM ⟨[], []⟩ := ⟨RightD.empty, List.Pairwise.nil, (fun e he => by cases he), (fun e he => by cases he)⟩
theorem act_other {s : List S3} (h : RisesS s) {t : Cm} {c q : Int} {r : Rep} (hne : t.cl ≠ c) : actM (putS s c q r) t = actM s t := by
  unfold actM
  rw [fndS_put h, if_neg hne]
theorem putS_comm {s : List S3} (h : RisesS s) {c1 c2 : Int} (hne : c1 ≠ c2) (q1 q2 : Int) (r1 r2 : Rep) : putS (putS s c1 q1 r1) c2 q2 r2 = putS (putS s c2 q2 r2) c1 q1 r1 := by
  refine fndS_ext ((h.put _ _ _).put _ _ _) ((h.put _ _ _).put _ _ _) fun c => ?_
  rw [fndS_put (h.put _ _ _), fndS_put h, fndS_put (h.put _ _ _), fndS_put h]
  by_cases e1 : c = c1
  · by_cases e2 : c = c2
    · exact absurd (e1.symm.trans e2) hne
    · simp [e1, hne]
  · by_cases e2 : c = c2 <;> simp [e1, e2]
    intro e3
    exact absurd e3.symm hne
/-- Two that don't matter to each other. -/
theorem swapM {m : Mac} (h : RightM m) (t u : Cm) (c : Rep) (hc : c.err ≠ 6) (hb : bth t.cl t.op t.pa u.cl u.op u.pa = false) :
    (appM m t c).1 = (appM (appM m u c).2 t c).1 ∧ (appM (appM m t c).2 u c).1 = (appM m u c).1 ∧ (appM (appM m t c).2 u c).2 = (appM (appM m u c).2 t c).2 := by
  cases ht : actM m.s t with
  | some r =>
    have e1 : appM m t c = (r, m) := by unfold appM; rw [ht]
    rw [e1]
    refine ⟨?_, rfl, ?_⟩
    all_goals
      cases hu : actM m.s u with
      | some r2 =>
        have e2 : appM m u c = (r2, m) := by unfold appM; rw [hu]
        rw [e2, e1]
      | none =>
        have hne : t.op = 0 ∨ valS t.cl t.sq = false ∨ t.cl ≠ u.cl := by
          by_cases h0 : t.op = 0
          · exact .inl h0
          · by_cases hv : valS t.cl t.sq = false
            · exact .inr (.inl hv)
            · right; right
              have hu0 := (act_val hu).1
              unfold bth at hb
              simp [h0, hu0] at hb
              exact hb.1.2
        have h2 : ∃ l' s', (appM m u c).2 = ⟨l', s'⟩ ∧ actM s' t = some r := by
          have e2 : appM m u c = doM m u c := by unfold appM; rw [hu]
          rw [e2]
          unfold doM
          have key : ∀ q r', actM (putS m.s u.cl q r') t = some r := fun q r' => by
            rcases hne with h0 | hv | hn
            · have := ht; unfold actM at this ⊢; rw [if_pos h0] at this ⊢; exact this
            · have := ht
              unfold actM at this ⊢
              by_cases h0 : t.op = 0
              · rw [if_pos h0] at this ⊢; exact this
              · rw [if_neg h0, if_pos hv] at this ⊢; exact this
            · rw [act_other h.rise hn]; exact ht
          split
          · exact ⟨_, _, rfl, key _ _⟩
          · exact ⟨_, _, rfl, key _ _⟩
        obtain ⟨l', s', e3, e4⟩ := h2
        rw [e3]
        have e5 : appM ⟨l', s'⟩ t c = (r, ⟨l', s'⟩) := by unfold appM; simp only [e4]
        rw [e5]
  | none =>
    have e1 : appM m t c = doM m t c := by unfold appM; rw [ht]
    have ht0 := act_val ht
    cases hu : actM m.s u with
    | some r2 =>
      have e2 : appM m u c = (r2, m) := by unfold appM; rw [hu]
      rw [e2]
      have hne : u.op = 0 ∨ valS u.cl u.sq = false ∨ u.cl ≠ t.cl := by
        by_cases h0 : u.op = 0
        · exact .inl h0
        · by_cases hv : valS u.cl u.sq = false
          · exact .inr (.inl hv)
          · right; right
            unfold bth at hb
            simp [h0, ht0.1] at hb
            exact fun e => hb.1.2 e.symm
      have h2 : ∃ l' s', (appM m t c).2 = ⟨l', s'⟩ ∧ actM s' u = some r2 := by
        rw [e1]
        unfold doM
        have key : ∀ q r', actM (putS m.s t.cl q r') u = some r2 := fun q r' => by
          rcases hne with h0 | hv | hn
          · have := hu; unfold actM at this ⊢; rw [if_pos h0] at this ⊢; exact this
          · have := hu
            unfold actM at this ⊢
            by_cases h0 : u.op = 0
            · rw [if_pos h0] at this ⊢; exact this
            · rw [if_neg h0, if_pos hv] at this ⊢; exact this
          · rw [act_other h.rise hn]; exact hu
        split
        · exact ⟨_, _, rfl, key _ _⟩
        · exact ⟨_, _, rfl, key _ _⟩
      obtain ⟨l', s', e3, e4⟩ := h2
      rw [e3]
      have e5 : appM ⟨l', s'⟩ u c = (r2, ⟨l', s'⟩) := by unfold appM; simp only [e4]
      rw [e5]
      exact ⟨rfl, rfl, rfl⟩
    | none =>
      have hu0 := act_val hu
      unfold bth at hb
      simp [ht0.1, hu0.1] at hb
      obtain ⟨⟨⟨c1, c2⟩, hne⟩, hm⟩ := hb
      have e2 : appM m u c = doM m u c := by unfold appM; rw [hu]
      have et : doM m t c = ((appD m.l t.op t.pa t.va t.ver).1, ⟨(appD m.l t.op t.pa t.va t.ver).2, putS m.s t.cl t.sq (appD m.l t.op t.pa t.va t.ver).1⟩) := by unfold doM; rw [c1]; rfl
      have eu : doM m u c = ((appD m.l u.op u.pa u.va u.ver).1, ⟨(appD m.l u.op u.pa u.va u.ver).2, putS m.s u.cl u.sq (appD m.l u.op u.pa u.va u.ver).1⟩) := by unfold doM; rw [c2]; rfl
      rw [e1, e2, et, eu]
      simp only
      have f1 : ∀ l r, appM ⟨l, putS m.s u.cl u.sq r⟩ t c = doM ⟨l, putS m.s u.cl u.sq r⟩ t c := fun l r => by unfold appM; simp only; rw [act_other h.rise hne, ht]
      have f2 : ∀ l r, appM ⟨l, putS m.s t.cl t.sq r⟩ u c = doM ⟨l, putS m.s t.cl t.sq r⟩ u c := fun l r => by unfold appM; simp only; rw [act_other h.rise (fun e => hne e.symm), hu]
      rw [f1, f2]
      have sw := swap_law h.dir t.op t.pa t.va t.ver u.op u.pa u.va u.ver hm
      unfold doM
      rw [c1, c2]
      simp only [Bool.false_eq_true, if_false]
      refine ⟨sw.1, sw.2.1, ?_⟩
      rw [sw.2.2, sw.2.1, ← sw.1, putS_comm h.rise hne]
/-- What is done by one client is nothing to what another one was told. -/
theorem fnd_app {m : Mac} (h : RightM m) (t : Cm) (c : Rep) (cl : Int) :
    fndS (appM m t c).2.s cl = if actM m.s t = none ∧ t.cl = cl then some (t.sq, (appM m t c).1) else fndS m.s cl := by
  unfold appM
  cases ha : actM m.s t with
  | some r => simp
  | none =>
    simp only [true_and]
    unfold doM
    split
    · simp only
      rw [fndS_put h.rise]
      by_cases e : cl = t.cl
      · simp [e]
      · rw [if_neg e, if_neg (fun q => e q.symm)]
    · simp only
      rw [fndS_put h.rise]
      by_cases e : cl = t.cl
      · simp [e]
      · rw [if_neg e, if_neg (fun q => e q.symm)]
theorem app_rep (m : Mac) (t : Cm) (c : Rep) : (∃ r, actM m.s t = some r ∧ appM m t c = (r, m)) ∨ (actM m.s t = none ∧ appM m t c = doM m t c) := by
  unfold appM
  cases h : actM m.s t with
  | some r => exact .inl ⟨r, rfl, rfl⟩
  | none => exact .inr ⟨rfl, rfl⟩
end Go.Proofs.YtbebjpfbbidaiaaGreat
