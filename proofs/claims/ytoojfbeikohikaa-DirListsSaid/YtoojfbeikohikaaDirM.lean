/-
  A directory as a row of entries, rising; no program.
-/
import Derived.Test.YtoojfbeikohikaaDirP
namespace Go.Proofs.Ytoojfbeikohikaa
set_option linter.unusedSimpArgs false
set_option linter.unusedVariables false

/-- An entry: path, value, version. -/
abbrev E3 := ByteArray × ByteArray × Int
def okP (p : ByteArray) : Prop := vld p = true ∧ nmL p ≠ []
def RisesD (l : List E3) : Prop := l.Pairwise fun a b => lsr a.1 b.1 = true
def okKeys (l : List E3) : Prop := ∀ e ∈ l, okP e.1
def fndD (l : List E3) (p : ByteArray) : Option (ByteArray × Int) := (l.find? fun e => decide (e.1 = p)).map (·.2)
def putD (l : List E3) (p v : ByteArray) (n : Int) : List E3 := (l.filter fun e => lsr e.1 p) ++ (p, v, n) :: (l.filter fun e => lsr p e.1)
def delD (l : List E3) (p : ByteArray) : List E3 := l.filter fun e => decide (e.1 ≠ p)
def thrD (l : List E3) (p : ByteArray) : Bool := (fndD l p).isSome || decide (p = pth [])
def kidD (l : List E3) (p : ByteArray) : List ByteArray := (l.filter fun e => decide (par e.1 = p)).map fun e => lst e.1

theorem lsr_irr (p : ByteArray) : lsr p p = false := by simp [lsr, ltN_irr]
theorem lsr_trans {p q r : ByteArray} (h1 : lsr p q = true) (h2 : lsr q r = true) : lsr p r = true := by
  simp only [lsr, Bool.and_eq_true] at *
  exact ⟨⟨h1.1.1, h2.1.2⟩, ltN_trans _ _ _ h1.2 h2.2⟩
theorem lsr_tot {p q : ByteArray} (hp : okP p) (hq : okP q) (h : p ≠ q) : lsr p q = !lsr q p := by
  have hn : nmL p ≠ nmL q := fun e => h (nm_inj hp.1 hq.1 e)
  simp [lsr, hp.1, hq.1, ltN_tot _ _ hn]
theorem lsr_asym {p q : ByteArray} (h : lsr p q = true) : lsr q p = false := by
  cases e : lsr q p with
  | false => rfl
  | true => have := lsr_trans h e; rw [lsr_irr] at this; cases this
theorem lsr_ne {p q : ByteArray} (h : lsr p q = true) : p ≠ q := fun e => by subst e; rw [lsr_irr] at h; cases h

theorem RisesD.keys {l : List E3} (h : RisesD l) : (l.map (·.1)).Nodup := by
  rw [List.nodup_iff_pairwise_ne, List.pairwise_map]
  exact List.Pairwise.imp (fun {a b} q => lsr_ne q) h
theorem RisesD.one {l : List E3} (h : RisesD l) {a b : E3} (ha : a ∈ l) (hb : b ∈ l) (e : a.1 = b.1) : a = b := by
  induction l with
  | nil => cases ha
  | cons x l ih =>
    have hx := List.pairwise_cons.1 h
    rcases List.mem_cons.1 ha with rfl | ha'
    · rcases List.mem_cons.1 hb with rfl | hb'
      · rfl
      · exact absurd e (lsr_ne (hx.1 b hb'))
    · rcases List.mem_cons.1 hb with rfl | hb'
      · exact absurd e.symm (lsr_ne (hx.1 a ha'))
      · exact ih hx.2 ha' hb'
theorem fndD_some {l : List E3} (h : RisesD l) {p v : ByteArray} {n : Int} : fndD l p = some (v, n) ↔ (p, v, n) ∈ l := by
  unfold fndD
  constructor
  · intro q
    rw [Option.map_eq_some_iff] at q
    obtain ⟨e, he, hv⟩ := q
    have h1 := List.mem_of_find?_eq_some he
    have h2 := List.find?_some he
    obtain ⟨ep, ev⟩ := e
    simp only [decide_eq_true_eq] at h2 hv
    subst h2 hv
    exact h1
  · intro q
    cases hf : l.find? (fun e => decide (e.1 = p)) with
    | none =>
      have := List.find?_eq_none.1 hf _ q
      simp at this
    | some e =>
      have h1 := List.mem_of_find?_eq_some hf
      have h2 := List.find?_some hf
      have := h.one h1 q (by simpa using h2)
      subst this
      rfl
theorem fndD_none {l : List E3} {p : ByteArray} : fndD l p = none ↔ ∀ e ∈ l, e.1 ≠ p := by
  unfold fndD
  rw [Option.map_eq_none_iff, List.find?_eq_none]
  simp
theorem fndD_mem {l : List E3} {p : ByteArray} : (fndD l p).isSome = true ↔ ∃ e ∈ l, e.1 = p := by
  cases h : fndD l p with
  | none =>
    have := fndD_none.1 h
    simp only [Option.isSome_none, Bool.false_eq_true, false_iff]
    rintro ⟨e, he, q⟩
    exact this e he q
  | some x =>
    simp only [Option.isSome_some, true_iff]
    refine Classical.byContradiction fun q => ?_
    have : fndD l p = none := fndD_none.2 fun e he hq => q ⟨e, he, hq⟩
    rw [h] at this
    cases this
/-- Rows that rise and have the same things are the same. -/
theorem RisesD.ext : ∀ {l k : List E3}, RisesD l → RisesD k → (∀ e, e ∈ l ↔ e ∈ k) → l = k
  | [], k, _, _, h => by
    cases k with
    | nil => rfl
    | cons x k => exact absurd ((h x).2 (.head _)) (by simp)
  | x :: l, [], _, _, h => absurd ((h x).1 (.head _)) (by simp)
  | x :: l, y :: k, hl, hk, h => by
    have hx := List.pairwise_cons.1 hl
    have hy := List.pairwise_cons.1 hk
    have e : x = y := by
      rcases List.mem_cons.1 ((h x).1 (.head _)) with q | q
      · exact q
      · rcases List.mem_cons.1 ((h y).2 (.head _)) with r | r
        · exact r.symm
        · have h1 := hy.1 x q
          have h2 := hx.1 y r
          rw [lsr_asym h1] at h2
          cases h2
    subst e
    congr 1
    refine RisesD.ext hx.2 hy.2 fun z => ?_
    constructor
    · intro q
      rcases List.mem_cons.1 ((h z).1 (.tail _ q)) with r | r
      · subst r; exact absurd rfl (lsr_ne (hx.1 z q))
      · exact r
    · intro q
      rcases List.mem_cons.1 ((h z).2 (.tail _ q)) with r | r
      · subst r; exact absurd rfl (lsr_ne (hy.1 z q))
      · exact r
theorem RisesD.del {l : List E3} (h : RisesD l) (p : ByteArray) : RisesD (delD l p) := List.Pairwise.sublist List.filter_sublist h
theorem mem_delD {l : List E3} {p : ByteArray} {e : E3} : e ∈ delD l p ↔ e ∈ l ∧ e.1 ≠ p := by simp [delD, List.mem_filter]
theorem mem_putD {l : List E3} (hk : okKeys l) {p v : ByteArray} {n : Int} (hp : okP p) {e : E3} : e ∈ putD l p v n ↔ e = (p, v, n) ∨ (e ∈ l ∧ e.1 ≠ p) := by
  unfold putD
  rw [List.mem_append, List.mem_cons, List.mem_filter, List.mem_filter]
  constructor
  · rintro (⟨h, q⟩ | rfl | ⟨h, q⟩)
    · exact .inr ⟨h, lsr_ne q⟩
    · exact .inl rfl
    · exact .inr ⟨h, fun e => lsr_ne q e.symm⟩
  · rintro (rfl | ⟨h, q⟩)
    · exact .inr (.inl rfl)
    · have := lsr_tot (hk e h) hp q
      cases hl : lsr e.1 p with
      | true => exact .inl ⟨h, rfl⟩
      | false =>
        rw [hl] at this
        exact .inr (.inr ⟨h, by simpa using this.symm⟩)
theorem RisesD.put {l : List E3} (h : RisesD l) (p v : ByteArray) (n : Int) : RisesD (putD l p v n) := by
  unfold RisesD putD
  rw [List.pairwise_append, List.pairwise_cons]
  refine ⟨List.Pairwise.sublist List.filter_sublist h, ⟨?_, List.Pairwise.sublist List.filter_sublist h⟩, ?_⟩
  · intro a ha
    exact (List.mem_filter.1 ha).2
  · intro a ha b hb
    have h1 := (List.mem_filter.1 ha).2
    rcases List.mem_cons.1 hb with rfl | hb
    · exact h1
    · exact lsr_trans h1 (List.mem_filter.1 hb).2
theorem okKeys.put {l : List E3} (h : okKeys l) {p : ByteArray} (hp : okP p) (v : ByteArray) (n : Int) : okKeys (putD l p v n) := fun e he => by
  rcases (mem_putD h hp).1 he with rfl | ⟨q, _⟩
  · exact hp
  · exact h e q
theorem okKeys.del {l : List E3} (h : okKeys l) (p : ByteArray) : okKeys (delD l p) := fun e he => h e (mem_delD.1 he).1
theorem opt_ext {a b : Option (ByteArray × Int)} (h : ∀ v n, a = some (v, n) ↔ b = some (v, n)) : a = b := by
  cases a with
  | none =>
    cases b with
    | none => rfl
    | some y => exact absurd ((h y.1 y.2).2 rfl) (by simp)
  | some x => exact ((h x.1 x.2).1 rfl).symm
theorem fndD_put {l : List E3} (h : RisesD l) (hk : okKeys l) {p : ByteArray} (hp : okP p) (v : ByteArray) (n : Int) (q : ByteArray) : fndD (putD l p v n) q = if q = p then some (v, n) else fndD l q := by
  refine opt_ext fun u m => ?_
  rw [fndD_some (h.put p v n), mem_putD hk hp]
  by_cases e : q = p
  · subst e
    rw [if_pos rfl]
    simp [eq_comm]
  · rw [if_neg e, fndD_some h]
    simp [e]
theorem fndD_del {l : List E3} (h : RisesD l) (p q : ByteArray) : fndD (delD l p) q = if q = p then none else fndD l q := by
  refine opt_ext fun u m => ?_
  rw [fndD_some (h.del p), mem_delD]
  by_cases e : q = p
  · subst e
    rw [if_pos rfl]
    simp
  · rw [if_neg e, fndD_some h]
    simp [e]
theorem len_delD {l : List E3} (h : RisesD l) (p : ByteArray) : (delD l p).length + (if (fndD l p).isSome then 1 else 0) = l.length := by
  induction l with
  | nil => rfl
  | cons x l ih =>
    have hx := List.pairwise_cons.1 h
    have := ih hx.2
    by_cases e : x.1 = p
    · have hn : (fndD l p).isSome = false := by
        rw [Bool.eq_false_iff]
        intro q
        obtain ⟨y, hy, he⟩ := fndD_mem.1 q
        exact lsr_ne (hx.1 y hy) (by rw [e, he])
      have h1 : (fndD (x :: l) p).isSome = true := fndD_mem.2 ⟨x, .head _, e⟩
      rw [hn] at this
      rw [h1]
      have h2 : delD (x :: l) p = delD l p := by simp [delD, List.filter_cons, e]
      rw [h2]
      simp at this ⊢
      exact this
    · have h1 : (fndD (x :: l) p).isSome = (fndD l p).isSome := by simp [fndD, List.find?_cons, e]
      have h2 : delD (x :: l) p = x :: delD l p := by simp [delD, List.filter_cons, e]
      rw [h1, h2, List.length_cons, List.length_cons]
      omega
theorem len_putD {l : List E3} (h : RisesD l) (hk : okKeys l) {p : ByteArray} (hp : okP p) (v : ByteArray) (n : Int) : (putD l p v n).length = if (fndD l p).isSome then l.length else l.length + 1 := by
  have h1 := len_delD (h.put p v n) p
  rw [fndD_put h hk hp, if_pos rfl] at h1
  have h2 : delD (putD l p v n) p = delD l p := by
    refine RisesD.ext ((h.put p v n).del p) (h.del p) fun e => ?_
    rw [mem_delD, mem_delD, mem_putD hk hp]
    constructor
    · rintro ⟨rfl | q, r⟩
      · exact absurd rfl r
      · exact q
    · rintro ⟨q, r⟩
      exact ⟨.inr ⟨q, r⟩, r⟩
  rw [h2] at h1
  have h3 := len_delD h p
  simp at h1
  split at h3 <;> rename_i q <;> simp [q] <;> omega
end Go.Proofs.Ytoojfbeikohikaa
