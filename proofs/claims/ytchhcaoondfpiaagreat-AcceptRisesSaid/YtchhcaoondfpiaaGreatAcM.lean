/-
  Package accept, plainly: what a member knows, how it hears, and what holds of it. (Where an instance stands among the others is a parameter: loc.)
-/
import Derived.Test.YtchhcaoondfpiaaGreatMs
import Derived.Test.YtchhcaoondfpiaaGreatBb
namespace Go.Proofs.YtchhcaoondfpiaaGreat
set_option linter.unusedSimpArgs false
set_option linter.unusedVariables false

/-- What a member knows of an epoch's instances, rising. -/
structure BSt where
  node : Int
  ep : Int
  ns : List Int
  l : List (I3 × Ist)
abbrev RisesB (l : List (I3 × Ist)) : Prop := l.Pairwise fun a b => ltI a.1 b.1 = true
def getL (l : List (I3 × Ist)) (id : I3) : Ist := ((l.find? fun e => decide (e.1 = id)).map (·.2)).getD in0
def lowB (l : List (I3 × Ist)) (id : I3) : List (I3 × Ist) := l.filter fun e => ltI e.1 id
def upB (l : List (I3 × Ist)) (id : I3) : List (I3 × Ist) := l.filter fun e => ltI id e.1
def setL (l : List (I3 × Ist)) (id : I3) (x : Ist) : List (I3 × Ist) := lowB l id ++ (id, x) :: upB l id
theorem mem_setL {l : List (I3 × Ist)} {id : I3} {x : Ist} {e : I3 × Ist} : e ∈ setL l id x ↔ e = (id, x) ∨ (e ∈ l ∧ e.1 ≠ id) := by
  unfold setL lowB upB
  rw [List.mem_append, List.mem_cons, List.mem_filter, List.mem_filter]
  constructor
  · rintro (⟨h1, h2⟩ | h | ⟨h1, h2⟩)
    · exact .inr ⟨h1, fun q => by rw [q, ltI_irrefl] at h2; cases h2⟩
    · exact .inl h
    · exact .inr ⟨h1, fun q => by rw [q, ltI_irrefl] at h2; cases h2⟩
  · rintro (h | ⟨h1, h2⟩)
    · exact .inr (.inl h)
    · cases q : ltI e.1 id with
      | true => exact .inl ⟨h1, rfl⟩
      | false =>
        cases q2 : ltI id e.1 with
        | true => exact .inr (.inr ⟨h1, rfl⟩)
        | false => exact absurd (ltI_total q q2) h2
theorem RisesB.set {l : List (I3 × Ist)} (h : RisesB l) (id : I3) (x : Ist) : RisesB (setL l id x) := by
  unfold setL lowB upB
  refine List.pairwise_append.2 ⟨h.sublist List.filter_sublist, List.pairwise_cons.2 ⟨fun e he => (List.mem_filter.1 he).2, h.sublist List.filter_sublist⟩, fun a ha b hb => ?_⟩
  have h1 := (List.mem_filter.1 ha).2
  rcases List.mem_cons.1 hb with q | q
  · subst q; exact h1
  · exact ltI_trans h1 (List.mem_filter.1 q).2
theorem RisesB.one {l : List (I3 × Ist)} (h : RisesB l) {a b : I3 × Ist} (ha : a ∈ l) (hb : b ∈ l) (e : a.1 = b.1) : a = b := by
  induction l with
  | nil => cases ha
  | cons x l ih =>
    have hp := List.pairwise_cons.1 h
    rcases List.mem_cons.1 ha with q | q
    · rcases List.mem_cons.1 hb with r | r
      · rw [q, r]
      · have := hp.1 b r
        rw [← q, e, ltI_irrefl] at this
        cases this
    · rcases List.mem_cons.1 hb with r | r
      · have := hp.1 a q
        rw [← r, e, ltI_irrefl] at this
        cases this
      · exact ih hp.2 q r
theorem getL_mem {l : List (I3 × Ist)} (h : RisesB l) {id : I3} {x : Ist} (hm : (id, x) ∈ l) : getL l id = x := by
  unfold getL
  have hs : (l.find? fun e => decide (e.1 = id)).isSome = true := List.find?_isSome.2 ⟨(id, x), hm, by simp⟩
  obtain ⟨e, he⟩ := Option.isSome_iff_exists.1 hs
  have h1 := List.mem_of_find?_eq_some he
  have h2 : e.1 = id := by simpa using List.find?_some he
  have h3 := h.one h1 hm h2
  rw [he, h3]; rfl
theorem getL_none {l : List (I3 × Ist)} {id : I3} (hm : ∀ x, (id, x) ∉ l) : getL l id = in0 := by
  unfold getL
  have : (l.find? fun e => decide (e.1 = id)) = none := by
    rw [List.find?_eq_none]
    intro e he q
    have : e.1 = id := by simpa using q
    exact hm e.2 (by rw [← this]; exact he)
  rw [this]; rfl
theorem getL_set {l : List (I3 × Ist)} (h : RisesB l) (id : I3) (x : Ist) : getL (setL l id x) id = x := getL_mem (h.set id x) (mem_setL.2 (.inl rfl))
theorem getL_other {l : List (I3 × Ist)} (h : RisesB l) {id o : I3} (x : Ist) (hne : o ≠ id) : getL (setL l id x) o = getL l o := by
  by_cases q : ∃ y, (o, y) ∈ l
  · obtain ⟨y, hy⟩ := q
    rw [getL_mem h hy, getL_mem (h.set id x) (mem_setL.2 (.inr ⟨hy, hne⟩))]
  · have q1 : ∀ y, (o, y) ∉ l := fun y hy => q ⟨y, hy⟩
    rw [getL_none q1, getL_none]
    intro y hy
    rcases mem_setL.1 hy with e | e
    · exact hne (Prod.mk.inj e).1
    · exact q1 y e.1
/-- Those that were proposed. -/
def knB (l : List (I3 × Ist)) : List Kn := (l.filter fun e => decide (1 ≤ e.2.st)).map fun e => ⟨e.1, e.2.cm, e.2.at'⟩
def vldB (x : I3) : Bool := vldI3 x
/-- May a message be heard? -/
def rightB (b : BSt) (m : Mg) : Bool :=
  decide (m.to = b.node) && (inB m.fr b.ns && (inB m.to b.ns && (vldI3 m.id && (decide (m.id.1 = b.ep) && (inB m.id.2.1 b.ns && (Bb.vaB m.bal.1 m.bal.2 && (Bb.vaB m.ins.vo.1 m.ins.vo.2 && vldA m.id m.ins.at')))))))
def snp0 : Snp := ((0, []), [], [])
def ansB (b : BSt) (k : Int) (m : Mg) (bal : Bal) (x : Ist) : Mg := ⟨k, b.node, m.fr, m.id, bal, x, snp0⟩
def lessBl (a b : Bal) : Bool := Bb.lessB a.1 a.2 b.1 b.2
/-- What it votes, asked by a message that goes through, and what it answers. -/
def voteB (loc : List Kn → I3 → CM → At) (b : BSt) (m : Mg) (x : Ist) : BSt × List Mg :=
  if m.kind = 0 then
    if 1 < x.st ∧ x.vo = m.bal then (b, [])
    else if x.st < 1 ∨ x.vo ≠ m.bal then
      ({ b with l := setL b.l m.id ⟨1, m.bal, m.bal, m.ins.cm, mrgA m.ins.at' (loc (knB b.l) m.id m.ins.cm)⟩ }, [ansB b 1 m m.bal ⟨1, m.bal, m.bal, m.ins.cm, mrgA m.ins.at' (loc (knB b.l) m.id m.ins.cm)⟩])
    else (b, [ansB b 1 m m.bal x])
  else if m.kind = 2 then ({ b with l := setL b.l m.id ⟨2, m.bal, m.bal, m.ins.cm, m.ins.at'⟩ }, [ansB b 3 m m.bal ⟨2, m.bal, m.bal, m.ins.cm, m.ins.at'⟩])
  else ({ b with l := setL b.l m.id { x with pr := m.bal } }, [ansB b 6 m m.bal { x with pr := m.bal }])
/-- What it is behind a message, and what it answers. -/
def hearB (loc : List Kn → I3 → CM → At) (b : BSt) (m : Mg) : BSt × List Mg :=
  if rightB b m = false ∨ (m.kind ≠ 0 ∧ m.kind ≠ 2 ∧ m.kind ≠ 4 ∧ m.kind ≠ 5) then (b, [])
  else if m.kind = 4 then
    (if (getL b.l m.id).st ≠ 3 then { b with l := setL b.l m.id ⟨3, (getL b.l m.id).pr, m.ins.vo, m.ins.cm, m.ins.at'⟩ } else b, [])
  else if (getL b.l m.id).st = 3 then (b, [ansB b 4 m m.bal (getL b.l m.id)])
  else if lessBl m.bal (getL b.l m.id).pr = true then (b, [ansB b 7 m (getL b.l m.id).pr in0])
  else voteB loc b m (getL b.l m.id)
theorem less_irrefl (a : Bal) : lessBl a a = false := by
  unfold lessBl Bb.lessB
  simp
section
variable (loc : List Kn → I3 → CM → At)
theorem hear_rise {b : BSt} (h : RisesB b.l) (m : Mg) : RisesB (hearB loc b m).1.l := by
  unfold hearB
  split
  · exact h
  split
  · split
    · exact h.set _ _
    · exact h
  split
  · exact h
  split
  · exact h
  unfold voteB
  split
  · split
    · exact h
    · split
      · exact h.set _ _
      · exact h
  split
  · exact h.set _ _
  · exact h.set _ _
/-- What is heard of one instance is nothing to any other one. -/
theorem hear_other {b : BSt} (h : RisesB b.l) (m : Mg) {o : I3} (hne : o ≠ m.id) : getL (hearB loc b m).1.l o = getL b.l o := by
  unfold hearB
  split
  · rfl
  split
  · split
    · exact getL_other h _ hne
    · rfl
  split
  · rfl
  split
  · rfl
  unfold voteB
  split
  · split
    · rfl
    · split
      · exact getL_other h _ hne
      · rfl
  split
  · exact getL_other h _ hne
  · exact getL_other h _ hne
theorem hear_not {b : BSt} {m : Mg} (h : rightB b m = false) : hearB loc b m = (b, []) := by
  unfold hearB
  rw [if_pos (.inl h)]
theorem hear_few (b : BSt) (m : Mg) : (hearB loc b m).2.length ≤ 1 := by
  unfold hearB
  split
  · exact Nat.zero_le _
  split
  · exact Nat.zero_le _
  split
  · exact Nat.le_refl _
  split
  · exact Nat.le_refl _
  unfold voteB
  split
  · split
    · exact Nat.zero_le _
    · split <;> exact Nat.le_refl _
  split <;> exact Nat.le_refl _
/-- A promise never falls, what was decided stays, what was voted is no less decided. -/
theorem hear_rises {b : BSt} (h : RisesB b.l) (m : Mg) :
    lessBl (getL (hearB loc b m).1.l m.id).pr (getL b.l m.id).pr = false ∧
    ((getL b.l m.id).st = 3 → getL (hearB loc b m).1.l m.id = getL b.l m.id) ∧
    ((getL (hearB loc b m).1.l m.id).st < (getL b.l m.id).st → (getL b.l m.id).st ≠ 3 ∧ ((getL b.l m.id).st ≤ 3 → m.kind = 0)) := by
  unfold hearB
  split
  · exact ⟨less_irrefl _, fun _ => rfl, fun q => absurd q (Int.lt_irrefl _)⟩
  split
  · split
    · rename_i h1 h2 h3
      rw [getL_set h]
      exact ⟨less_irrefl _, fun q => absurd q h3, fun q => ⟨h3, fun q2 => by simp only at q; omega⟩⟩
    · exact ⟨less_irrefl _, fun _ => rfl, fun q => absurd q (Int.lt_irrefl _)⟩
  split
  · exact ⟨less_irrefl _, fun _ => rfl, fun q => absurd q (Int.lt_irrefl _)⟩
  split
  · exact ⟨less_irrefl _, fun _ => rfl, fun q => absurd q (Int.lt_irrefl _)⟩
  rename_i h1 h2 h3 h4
  have h5 : lessBl m.bal (getL b.l m.id).pr = false := by simpa using h4
  unfold voteB
  split
  · rename_i k0
    split
    · exact ⟨less_irrefl _, fun _ => rfl, fun q => absurd q (Int.lt_irrefl _)⟩
    · split
      · rw [getL_set h]
        exact ⟨h5, fun q => absurd q h3, fun q => ⟨h3, fun _ => k0⟩⟩
      · exact ⟨less_irrefl _, fun _ => rfl, fun q => absurd q (Int.lt_irrefl _)⟩
  split
  · rename_i k2
    rw [getL_set h]
    exact ⟨h5, fun q => absurd q h3, fun q => ⟨h3, fun q2 => by simp only at q; omega⟩⟩
  · rw [getL_set h]
    exact ⟨h5, fun q => absurd q h3, fun q => absurd q (Int.lt_irrefl _)⟩
theorem hear_same {b : BSt} (m : Mg) : (hearB loc b m).1.node = b.node ∧ (hearB loc b m).1.ep = b.ep ∧ (hearB loc b m).1.ns = b.ns := by
  unfold hearB
  split
  · exact ⟨rfl, rfl, rfl⟩
  split
  · split <;> exact ⟨rfl, rfl, rfl⟩
  split
  · exact ⟨rfl, rfl, rfl⟩
  split
  · exact ⟨rfl, rfl, rfl⟩
  unfold voteB
  split
  · split
    · exact ⟨rfl, rfl, rfl⟩
    · split <;> exact ⟨rfl, rfl, rfl⟩
  split <;> exact ⟨rfl, rfl, rfl⟩
theorem right_same {b c : BSt} (h : c.node = b.node ∧ c.ep = b.ep ∧ c.ns = b.ns) (m : Mg) : rightB c m = rightB b m := by
  unfold rightB
  rw [h.1, h.2.1, h.2.2]
/-- Hearing, by what is known of the instance: right, of a kind that is heard. -/
theorem hear_is {b : BSt} {m : Mg} (hr : rightB b m = true) (hk : m.kind = 0 ∨ m.kind = 2 ∨ m.kind = 5) (h3 : (getL b.l m.id).st ≠ 3) (hl : lessBl m.bal (getL b.l m.id).pr = false) : hearB loc b m = voteB loc b m (getL b.l m.id) := by
  unfold hearB
  rw [if_neg (by rw [hr]; rintro (q | q); cases q; omega), if_neg (by omega), if_neg h3, if_neg (by rw [hl]; decide)]
theorem hear_no {b : BSt} {m : Mg} (hr : rightB b m = true) (hk : m.kind = 0 ∨ m.kind = 2 ∨ m.kind = 5) (h3 : (getL b.l m.id).st ≠ 3) (hl : lessBl m.bal (getL b.l m.id).pr = true) : hearB loc b m = (b, [ansB b 7 m (getL b.l m.id).pr in0]) := by
  unfold hearB
  rw [if_neg (by rw [hr]; rintro (q | q); cases q; omega), if_neg (by omega), if_neg h3, if_pos hl]
theorem hear_done {b : BSt} {m : Mg} (hr : rightB b m = true) (hk : m.kind = 0 ∨ m.kind = 2 ∨ m.kind = 5) (h3 : (getL b.l m.id).st = 3) : hearB loc b m = (b, [ansB b 4 m m.bal (getL b.l m.id)]) := by
  unfold hearB
  rw [if_neg (by rw [hr]; rintro (q | q); cases q; omega), if_neg (by omega), if_pos h3]
theorem hear_off {b : BSt} {m : Mg} (hk : m.kind ≠ 0 ∧ m.kind ≠ 2 ∧ m.kind ≠ 4 ∧ m.kind ≠ 5) : hearB loc b m = (b, []) := by
  unfold hearB
  rw [if_pos (.inr hk)]
theorem hear_com {b : BSt} {m : Mg} (hr : rightB b m = true) (hk : m.kind = 4) : hearB loc b m = (if (getL b.l m.id).st ≠ 3 then { b with l := setL b.l m.id ⟨3, (getL b.l m.id).pr, m.ins.vo, m.ins.cm, m.ins.at'⟩ } else b, []) := by
  unfold hearB
  rw [if_neg (by rw [hr]; rintro (q | q); cases q; omega), if_pos hk]
/-- What is asked again is answered again, the same, and changes nothing more. -/
theorem hear_again {b : BSt} (h : RisesB b.l) (m : Mg) : (hearB loc (hearB loc b m).1 m).2 = (hearB loc b m).2 ∧ getL (hearB loc (hearB loc b m).1 m).1.l m.id = getL (hearB loc b m).1.l m.id := by
  cases hr : rightB b m with
  | false => rw [hear_not loc hr]; simp only; rw [hear_not loc hr]; exact ⟨rfl, rfl⟩
  | true =>
    have hr2 : rightB (hearB loc b m).1 m = true := by rw [right_same (hear_same loc m)]; exact hr
    by_cases hk4 : m.kind = 4
    · rw [hear_com loc hr2 hk4]
      rw [hear_com loc hr hk4] at hr2 ⊢
      by_cases h3 : (getL b.l m.id).st = 3
      · simp [h3]
      · simp only [ne_eq, h3, not_false_eq_true, if_true]
        rw [getL_set h]
        simp [getL_set h]
    · by_cases hk : m.kind = 0 ∨ m.kind = 2 ∨ m.kind = 5
      · by_cases h3 : (getL b.l m.id).st = 3
        · rw [hear_done loc hr hk h3]; simp only; rw [hear_done loc hr hk h3]; exact ⟨rfl, rfl⟩
        · cases hl : lessBl m.bal (getL b.l m.id).pr with
          | true => rw [hear_no loc hr hk h3 hl]; simp only; rw [hear_no loc hr hk h3 hl]; exact ⟨rfl, rfl⟩
          | false =>
            have e1 := hear_is loc hr hk h3 hl
            rw [e1] at hr2 ⊢
            unfold voteB at hr2 ⊢
            by_cases k0 : m.kind = 0
            · simp only [k0, if_true] at hr2 ⊢
              by_cases c1 : 1 < (getL b.l m.id).st ∧ (getL b.l m.id).vo = m.bal
              · simp only [c1, and_self, if_true] at hr2 ⊢
                rw [e1]; unfold voteB
                simp [k0, c1]
              · by_cases c2 : (getL b.l m.id).st < 1 ∨ (getL b.l m.id).vo ≠ m.bal
                · rw [if_neg c1, if_pos c2] at hr2 ⊢
                  simp only at hr2 ⊢
                  have g := getL_set h m.id ⟨1, m.bal, m.bal, m.ins.cm, mrgA m.ins.at' (loc (knB b.l) m.id m.ins.cm)⟩
                  rw [hear_is loc hr2 hk (by simp only; rw [g]; simp) (by simp only; rw [g]; exact less_irrefl _)]
                  simp only
                  rw [g]
                  unfold voteB
                  simp only [k0, if_true]
                  rw [if_neg (by simp), if_neg (by simp)]
                  exact ⟨rfl, g⟩
                · rw [if_neg c1, if_neg c2] at hr2 ⊢
                  simp only
                  rw [e1]; unfold voteB
                  simp only [k0, if_true]
                  rw [if_neg c1, if_neg c2]
                  exact ⟨rfl, rfl⟩
            · rw [if_neg k0] at hr2 ⊢
              by_cases k2 : m.kind = 2
              · rw [if_pos k2] at hr2 ⊢
                simp only at hr2 ⊢
                have g := getL_set h m.id ⟨2, m.bal, m.bal, m.ins.cm, m.ins.at'⟩
                rw [hear_is loc hr2 hk (by simp only; rw [g]; simp) (by simp only; rw [g]; exact less_irrefl _)]
                unfold voteB
                rw [if_neg k0, if_pos k2]
                refine ⟨rfl, ?_⟩
                simp only
                rw [getL_set (h.set _ _), g]
              · rw [if_neg k2] at hr2 ⊢
                simp only at hr2 ⊢
                have g := getL_set h m.id { getL b.l m.id with pr := m.bal }
                rw [hear_is loc hr2 hk (by simp only; rw [g]; exact h3) (by simp only; rw [g]; exact less_irrefl _)]
                unfold voteB
                rw [if_neg k0, if_neg k2]
                simp only
                rw [g]
                exact ⟨rfl, by rw [getL_set (h.set _ _)]⟩
      · have e := hear_off loc (b := b) (m := m) ⟨by omega, by omega, hk4, by omega⟩
        rw [e]
        exact ⟨by rw [e], by rw [e]⟩
theorem less_asymm {a b : Bal} (h : lessBl a b = true) : lessBl b a = false := by
  unfold lessBl Bb.lessB at *
  simp only [Bool.or_eq_true, Bool.and_eq_true, decide_eq_true_eq] at h
  simp only [Bool.or_eq_false_iff, Bool.and_eq_false_iff, decide_eq_false_iff_not]
  omega
/-- Behind a promise no lesser ballot is voted for. -/
theorem hear_promise {b : BSt} (h : RisesB b.l) {p m : Mg} (hp : p.kind = 5) (ha : ∃ x, (hearB loc b p).2 = [x] ∧ x.kind = 6) (hid : m.id = p.id) (hl : lessBl m.bal p.bal = true) (hr : rightB b m = true) :
    if m.kind = 0 ∨ m.kind = 2 ∨ m.kind = 5 then hearB loc (hearB loc b p).1 m = ((hearB loc b p).1, [ansB b 7 m p.bal in0]) else (hearB loc (hearB loc b p).1 m).2 = [] := by
  have hr2 : rightB (hearB loc b p).1 m = true := by rw [right_same (hear_same loc p)]; exact hr
  have hrp : rightB b p = true := by
    cases q : rightB b p with
    | true => rfl
    | false => rw [hear_not loc q] at ha; obtain ⟨x, e, _⟩ := ha; cases e
  have h3 : (getL b.l p.id).st ≠ 3 := by
    intro q
    rw [hear_done loc hrp (.inr (.inr hp)) q] at ha
    obtain ⟨x, e, k⟩ := ha
    simp only [List.cons.injEq, and_true] at e
    rw [← e] at k
    exact absurd (show (4 : Int) = 6 from k) (by decide)
  have hlp : lessBl p.bal (getL b.l p.id).pr = false := by
    cases q : lessBl p.bal (getL b.l p.id).pr with
    | false => rfl
    | true =>
      rw [hear_no loc hrp (.inr (.inr hp)) h3 q] at ha
      obtain ⟨x, e, k⟩ := ha
      simp only [List.cons.injEq, and_true] at e
      rw [← e] at k
      exact absurd (show (7 : Int) = 6 from k) (by decide)
  have e1 : (hearB loc b p).1 = { b with l := setL b.l p.id { getL b.l p.id with pr := p.bal } } := by
    rw [hear_is loc hrp (.inr (.inr hp)) h3 hlp]
    unfold voteB
    rw [if_neg (by omega), if_neg (by omega)]
  have g : getL (hearB loc b p).1.l m.id = { getL b.l p.id with pr := p.bal } := by rw [e1, hid]; exact getL_set h _ _
  split
  · rename_i hk
    rw [hear_no loc hr2 hk (by rw [g]; exact h3) (by rw [g]; exact hl), g]
    unfold ansB
    rw [(hear_same loc p).1]
  · rename_i hk
    by_cases k4 : m.kind = 4
    · rw [hear_com loc hr2 k4]
    · rw [hear_off loc ⟨by omega, by omega, k4, by omega⟩]
/-- Of two that ask by unlike ballots, whoever asks last by the greater one has its vote. -/
theorem hear_ballots {k : BSt} (h : RisesB k.l) {a b : Mg} (ka : a.kind = 2) (kb : b.kind = 2) (ra : rightB k a = true) (rb : rightB k b = true) (hid : a.id = b.id) (h3 : (getL k.l a.id).st ≠ 3) (hl : lessBl a.bal (getL k.l a.id).pr = false) (hab : lessBl a.bal b.bal = true) :
    ∃ xa xb : Ist, (hearB loc k a).2 = [ansB k 3 a a.bal xa] ∧ (hearB loc (hearB loc k a).1 b).2 = [ansB k 3 b b.bal xb] ∧ (hearB loc (hearB loc (hearB loc k a).1 b).1 a).2 = [ansB k 7 a b.bal in0] ∧
      getL (hearB loc (hearB loc (hearB loc k a).1 b).1 a).1.l a.id = ⟨2, b.bal, b.bal, b.ins.cm, b.ins.at'⟩ := by
  have e1 : hearB loc k a = ({ k with l := setL k.l a.id ⟨2, a.bal, a.bal, a.ins.cm, a.ins.at'⟩ }, [ansB k 3 a a.bal ⟨2, a.bal, a.bal, a.ins.cm, a.ins.at'⟩]) := by
    rw [hear_is loc ra (.inr (.inl ka)) h3 hl]
    unfold voteB
    rw [if_neg (by omega), if_pos ka]
  have r1 := h.set a.id ⟨2, a.bal, a.bal, a.ins.cm, a.ins.at'⟩
  have g1 := getL_set h a.id ⟨2, a.bal, a.bal, a.ins.cm, a.ins.at'⟩
  rw [e1]
  simp only
  have rb1 : rightB { k with l := setL k.l a.id ⟨2, a.bal, a.bal, a.ins.cm, a.ins.at'⟩ } b = true := rb
  have e2 : hearB loc { k with l := setL k.l a.id ⟨2, a.bal, a.bal, a.ins.cm, a.ins.at'⟩ } b = ({ k with l := setL (setL k.l a.id ⟨2, a.bal, a.bal, a.ins.cm, a.ins.at'⟩) b.id ⟨2, b.bal, b.bal, b.ins.cm, b.ins.at'⟩ }, [ansB k 3 b b.bal ⟨2, b.bal, b.bal, b.ins.cm, b.ins.at'⟩]) := by
    rw [hear_is loc rb1 (.inr (.inl kb)) (by simp only; rw [← hid, g1]; simp) (by simp only; rw [← hid, g1]; exact less_asymm hab)]
    unfold voteB
    rw [if_neg (by omega), if_pos kb]
    rfl
  rw [e2]
  simp only
  have g2 := getL_set r1 b.id ⟨2, b.bal, b.bal, b.ins.cm, b.ins.at'⟩
  have g2a : getL (setL (setL k.l a.id ⟨2, a.bal, a.bal, a.ins.cm, a.ins.at'⟩) b.id ⟨2, b.bal, b.bal, b.ins.cm, b.ins.at'⟩) a.id = ⟨2, b.bal, b.bal, b.ins.cm, b.ins.at'⟩ := by
    have q := g2
    rw [← hid] at q ⊢
    exact q
  have ra2 : rightB { k with l := setL (setL k.l a.id ⟨2, a.bal, a.bal, a.ins.cm, a.ins.at'⟩) b.id ⟨2, b.bal, b.bal, b.ins.cm, b.ins.at'⟩ } a = true := ra
  have e3 : hearB loc { k with l := setL (setL k.l a.id ⟨2, a.bal, a.bal, a.ins.cm, a.ins.at'⟩) b.id ⟨2, b.bal, b.bal, b.ins.cm, b.ins.at'⟩ } a = ({ k with l := setL (setL k.l a.id ⟨2, a.bal, a.bal, a.ins.cm, a.ins.at'⟩) b.id ⟨2, b.bal, b.bal, b.ins.cm, b.ins.at'⟩ }, [ansB k 7 a b.bal in0]) := by
    rw [hear_no loc ra2 (.inr (.inl ka)) (by simp only; rw [g2a]; simp) (by simp only; rw [g2a]; exact hab)]
    simp only
    rw [g2a]
    rfl
  rw [e3]
  exact ⟨_, _, rfl, rfl, rfl, g2a⟩
/-- All that it has are of its epoch, and good ones. -/
def EpB (b : BSt) : Prop := ∀ e ∈ b.l, e.1.1 = b.ep
theorem vote_ep {b : BSt} (h : EpB b) {m : Mg} (hr : rightB b m = true) (x : Ist) : ∀ e ∈ setL b.l m.id x, e.1.1 = b.ep := by
  intro e he
  rcases mem_setL.1 he with q | q
  · rw [q]
    unfold rightB at hr
    simp only [Bool.and_eq_true, decide_eq_true_eq] at hr
    exact hr.2.2.2.2.1
  · exact h e q.1
theorem hear_ep {b : BSt} (h : EpB b) (m : Mg) : EpB (hearB loc b m).1 := by
  cases hr : rightB b m with
  | false => rw [hear_not loc hr]; exact h
  | true =>
    unfold hearB
    split
    · exact h
    split
    · split
      · exact vote_ep h hr _
      · exact h
    split
    · exact h
    split
    · exact h
    unfold voteB
    split
    · split
      · exact h
      · split
        · exact vote_ep h hr _
        · exact h
    split
    · exact vote_ep h hr _
    · exact vote_ep h hr _
/-- Who votes for an instance tells all that matters to it: what is proposed is answered with the proposal's dependencies, and those that were proposed here ahead, and matter, and a greater number. -/
theorem hear_sees {b : BSt} (he : EpB b) {m : Mg} (mat : CM → CM → Bool) (hk : m.kind = 0)
    (hloc : ∀ k ∈ knB b.l, k.id ≠ m.id → k.id.1 = m.id.1 → mat k.cm m.ins.cm = true → k.id ∈ (loc (knB b.l) m.id m.ins.cm).2 ∧ k.a.1 < (loc (knB b.l) m.id m.ins.cm).1)
    (hself : m.id ∉ (loc (knB b.l) m.id m.ins.cm).2) {x : Mg} (hx : (hearB loc b m).2 = [x]) (hx1 : x.kind = 1) (hv : ¬ (1 ≤ (getL b.l m.id).st ∧ (getL b.l m.id).vo = m.bal)) :
    (∀ d ∈ m.ins.at'.2, d ∈ x.ins.at'.2) ∧ (∀ k ∈ knB b.l, k.id ≠ m.id → mat k.cm m.ins.cm = true → k.id ∈ x.ins.at'.2 ∧ k.a.1 < x.ins.at'.1) ∧ m.ins.at'.1 ≤ x.ins.at'.1 ∧ x.ins.cm = m.ins.cm ∧ m.id ∉ x.ins.at'.2 ∧ rgtI x.ins.at'.2 = true := by
  have hr : rightB b m = true := by
    cases q : rightB b m with
    | true => rfl
    | false => rw [hear_not loc q] at hx; cases hx
  have h3 : (getL b.l m.id).st ≠ 3 := by
    intro q
    rw [hear_done loc hr (.inl hk) q] at hx
    simp only [List.cons.injEq, and_true] at hx
    rw [← hx] at hx1
    exact absurd (show (4 : Int) = 1 from hx1) (by decide)
  have hl : lessBl m.bal (getL b.l m.id).pr = false := by
    cases q : lessBl m.bal (getL b.l m.id).pr with
    | false => rfl
    | true =>
      rw [hear_no loc hr (.inl hk) h3 q] at hx
      simp only [List.cons.injEq, and_true] at hx
      rw [← hx] at hx1
      exact absurd (show (7 : Int) = 1 from hx1) (by decide)
  rw [hear_is loc hr (.inl hk) h3 hl] at hx
  unfold voteB at hx
  rw [if_pos hk] at hx
  by_cases c1 : 1 < (getL b.l m.id).st ∧ (getL b.l m.id).vo = m.bal
  · rw [if_pos c1] at hx; cases hx
  · have c2 : (getL b.l m.id).st < 1 ∨ (getL b.l m.id).vo ≠ m.bal := by
      by_cases q : (getL b.l m.id).vo = m.bal
      · left
        by_cases q2 : 1 ≤ (getL b.l m.id).st
        · exact absurd ⟨q2, q⟩ hv
        · omega
      · exact .inr q
    rw [if_neg c1, if_pos c2] at hx
    simp only [List.cons.injEq, and_true] at hx
    subst hx
    show (∀ d ∈ m.ins.at'.2, d ∈ (mrgA m.ins.at' (loc (knB b.l) m.id m.ins.cm)).2) ∧ (∀ k ∈ knB b.l, k.id ≠ m.id → mat k.cm m.ins.cm = true → k.id ∈ (mrgA m.ins.at' (loc (knB b.l) m.id m.ins.cm)).2 ∧ k.a.1 < (mrgA m.ins.at' (loc (knB b.l) m.id m.ins.cm)).1) ∧ m.ins.at'.1 ≤ (mrgA m.ins.at' (loc (knB b.l) m.id m.ins.cm)).1 ∧ m.ins.cm = m.ins.cm ∧ m.id ∉ (mrgA m.ins.at' (loc (knB b.l) m.id m.ins.cm)).2 ∧ rgtI (mrgA m.ins.at' (loc (knB b.l) m.id m.ins.cm)).2 = true
    have hmem : ∀ y, y ∈ (mrgA m.ins.at' (loc (knB b.l) m.id m.ins.cm)).2 ↔ y ∈ m.ins.at'.2 ∨ y ∈ (loc (knB b.l) m.id m.ins.cm).2 := by
      intro y
      rw [mrg_eq]
      simp only
      rw [mem_clnI, List.mem_append]
    have hge := mrg_ge m.ins.at' (loc (knB b.l) m.id m.ins.cm)
    have hid : m.id.1 = b.ep ∧ m.id ∉ m.ins.at'.2 := by
      unfold rightB at hr
      simp only [Bool.and_eq_true, decide_eq_true_eq] at hr
      refine ⟨hr.2.2.2.2.1, fun q => ?_⟩
      have hva := (vldA_iff m.id m.ins.at').1 hr.2.2.2.2.2.2.2.2
      have h1 := hva.2.2.2 m.id q
      unfold oddA at h1
      simp at h1
    refine ⟨fun d hd => (hmem d).2 (.inl hd), fun k hkm hne hm => ?_, hge.1, rfl, fun q => ?_, mrg_rgt _ _⟩
    · have hke : k.id.1 = m.id.1 := by
        unfold knB at hkm
        obtain ⟨e, he1, he2⟩ := List.mem_map.1 hkm
        rw [← he2, hid.1]
        exact he e (List.mem_filter.1 he1).1
      have h1 := hloc k hkm hne hke hm
      exact ⟨(hmem _).2 (.inr h1.1), Int.lt_of_lt_of_le h1.2 hge.2⟩
    · rcases (hmem _).1 q with r | r
      · exact hid.2 r
      · exact hself r
end
/-- What is set as another book has it is that book's list. -/
theorem RisesB.ext : ∀ {l k : List (I3 × Ist)}, RisesB l → RisesB k → (∀ e, e ∈ l ↔ e ∈ k) → l = k
  | [], k, _, _, h => by
    cases k with
    | nil => rfl
    | cons x k => exact absurd ((h x).2 (.head _)) (by simp)
  | x :: l, [], _, _, h => absurd ((h x).1 (.head _)) (by simp)
  | x :: l, y :: k, hl, hk, h => by
    have hx := List.pairwise_cons.1 hl
    have hy := List.pairwise_cons.1 hk
    have e : x = y := by
      rcases List.mem_cons.1 ((h x).1 (.head _)) with q | q
      · exact q
      · rcases List.mem_cons.1 ((h y).2 (.head _)) with r | r
        · exact r.symm
        · have h1 := hy.1 x q
          have h2 := ltI_trans (hx.1 y r) h1
          rw [ltI_irrefl] at h2
          cases h2
    subst e
    refine congrArg _ (RisesB.ext hx.2 hy.2 fun e => ⟨fun he => ?_, fun he => ?_⟩)
    · rcases List.mem_cons.1 ((h e).1 (.tail _ he)) with q | q
      · have h1 := hx.1 e he
        rw [q, ltI_irrefl] at h1
        cases h1
      · exact q
    · rcases List.mem_cons.1 ((h e).2 (.tail _ he)) with q | q
      · have h1 := hy.1 e he
        rw [q, ltI_irrefl] at h1
        cases h1
      · exact q
theorem set_all : ∀ (l : List (I3 × Ist)) (d : List (I3 × Ist)), RisesB (d ++ l) → l.foldl (fun a e => setL a e.1 e.2) d = d ++ l
  | [], d, _ => by simp
  | x :: l, d, h => by
    have e1 : setL d x.1 x.2 = d ++ [x] := by
      have hp := List.pairwise_append.1 h
      refine RisesB.ext (RisesB.set hp.1 _ _) (h.sublist (by simp)) fun e => ?_
      rw [mem_setL, List.mem_append, List.mem_singleton]
      constructor
      · rintro (q | q)
        · exact .inr q
        · exact .inl q.1
      · rintro (q | q)
        · refine .inr ⟨q, fun r => ?_⟩
          have h1 := hp.2.2 e q x (.head _)
          rw [r, ltI_irrefl] at h1
          cases h1
        · exact .inl q
    rw [List.foldl_cons, e1, set_all l (d ++ [x]) (by simpa using h)]
    simp
end Go.Proofs.YtchhcaoondfpiaaGreat
