/-
  Instances, and sets of them: their order, and lists in it.
-/
import Derived.Test.YtlckjpjcfalfnaaRows
namespace Go.Proofs.Ytlckjpjcfalfnaa
set_option linter.unusedSimpArgs false
set_option linter.unusedVariables false

/-- An instance: epoch, node, number. -/
abbrev I3 : Type := Int × Int × Int
def ltI (a b : I3) : Bool := if a.1 ≠ b.1 then decide (a.1 < b.1) else if a.2.2 ≠ b.2.2 then decide (a.2.2 < b.2.2) else decide (a.2.1 < b.2.1)
theorem ltI_iff (a b : I3) : ltI a b = true ↔ a.1 < b.1 ∨ (a.1 = b.1 ∧ (a.2.2 < b.2.2 ∨ (a.2.2 = b.2.2 ∧ a.2.1 < b.2.1))) := by
  unfold ltI
  split
  · simp; omega
  · split
    · simp; omega
    · simp; omega
theorem ltI_irrefl (a : I3) : ltI a a = false := by rw [Bool.eq_false_iff]; intro h; rw [ltI_iff] at h; omega
theorem ltI_trans {a b c : I3} (h : ltI a b = true) (k : ltI b c = true) : ltI a c = true := by rw [ltI_iff] at *; omega
theorem ltI_asymm {a b : I3} (h : ltI a b = true) : ltI b a = false := by rw [Bool.eq_false_iff]; intro k; rw [ltI_iff] at *; omega
theorem i3_ext {a b : I3} (h1 : a.1 = b.1) (h2 : a.2.1 = b.2.1) (h3 : a.2.2 = b.2.2) : a = b := Prod.ext h1 (Prod.ext h2 h3)
theorem ltI_total {a b : I3} (h : ltI a b = false) (k : ltI b a = false) : a = b := by
  rw [Bool.eq_false_iff, ne_eq, ltI_iff] at h k
  exact i3_ext (by omega) (by omega) (by omega)
/-- It rises, each once. -/
abbrev Rises (l : List I3) : Prop := l.Pairwise fun a b => ltI a b = true
theorem Rises.uniq : ∀ {a b : List I3}, Rises a → Rises b → (∀ x, x ∈ a ↔ x ∈ b) → a = b
  | [], [], _, _, _ => rfl
  | [], y :: b, _, _, h => by have := (h y).2 (by simp); simp at this
  | x :: a, [], _, _, h => by have := (h x).1 (by simp); simp at this
  | x :: a, y :: b, ha, hb, h => by
    replace ha := List.pairwise_cons.1 ha
    replace hb := List.pairwise_cons.1 hb
    have e : x = y := by
      have h1 := (h x).1 (by simp)
      have h2 := (h y).2 (by simp)
      rcases List.mem_cons.1 h1 with e | m
      · exact e
      · rcases List.mem_cons.1 h2 with e | m2
        · exact e.symm
        · have q1 := hb.1 x m
          have q2 := ha.1 y m2
          rw [ltI_asymm q1] at q2; cases q2
    subst e
    have : a = b := Rises.uniq ha.2 hb.2 (fun z => by
      have hz := h z
      simp only [List.mem_cons] at hz
      constructor
      · intro m
        rcases hz.1 (.inr m) with e | m2
        · subst e; have := ha.1 z m; rw [ltI_irrefl] at this; cases this
        · exact m2
      · intro m
        rcases hz.2 (.inr m) with e | m2
        · subst e; have := hb.1 z m; rw [ltI_irrefl] at this; cases this
        · exact m2)
    rw [this]
/-- Put at its place. -/
def hasI (l : List I3) (x : I3) : Bool := l.any fun y => decide (y = x)
theorem hasI_iff (l : List I3) (x : I3) : hasI l x = true ↔ x ∈ l := by unfold hasI; simp
theorem hasI_false (l : List I3) (x : I3) : hasI l x = false ↔ x ∉ l := by rw [← hasI_iff]; simp
def putI (l : List I3) (x : I3) : List I3 := if hasI l x then l else (l.takeWhile fun y => !ltI x y) ++ x :: l.dropWhile fun y => !ltI x y
def clnI (l : List I3) : List I3 := l.foldl putI []
theorem mem_putI (l : List I3) (x y : I3) : y ∈ putI l x ↔ y = x ∨ y ∈ l := by
  unfold putI
  split
  · rename_i h
    rw [hasI_iff] at h
    constructor
    · exact .inr
    · rintro (rfl | m)
      · exact h
      · exact m
  · have e : ∀ z, z ∈ l ↔ z ∈ (l.takeWhile fun y => !ltI x y) ∨ z ∈ (l.dropWhile fun y => !ltI x y) := by
      intro z; rw [← List.mem_append, List.takeWhile_append_dropWhile]
    rw [List.mem_append, List.mem_cons, e y]
    constructor
    · rintro (h | h | h)
      · exact .inr (.inl h)
      · exact .inl h
      · exact .inr (.inr h)
    · rintro (h | h | h)
      · exact .inr (.inl h)
      · exact .inl h
      · exact .inr (.inr h)
theorem drop_after {x : I3} : ∀ {l : List I3}, Rises l → ∀ z ∈ l.dropWhile (fun y => !ltI x y), ltI x z = true
  | [], _, z, h => by simp at h
  | y :: l, hl, z, h => by
    replace hl := List.pairwise_cons.1 hl
    rw [List.dropWhile_cons] at h
    cases q : ltI x y with
    | false => rw [q] at h; exact drop_after hl.2 z (by simpa using h)
    | true =>
      rw [q] at h
      simp at h
      rcases h with rfl | h
      · exact q
      · exact ltI_trans q (hl.1 z h)
theorem take_before {x : I3} : ∀ {l : List I3}, x ∉ l → ∀ z ∈ l.takeWhile (fun y => !ltI x y), ltI z x = true
  | [], _, z, h => by simp at h
  | y :: l, hx, z, h => by
    rw [List.takeWhile_cons] at h
    cases q : ltI x y with
    | true => rw [q] at h; simp at h
    | false =>
      rw [q] at h
      simp at h
      simp at hx
      rcases h with rfl | h
      · cases k : ltI z x with
        | true => rfl
        | false => exact absurd (ltI_total q k) hx.1
      · exact take_before hx.2 z h
theorem rises_putI {l : List I3} (x : I3) (h : Rises l) : Rises (putI l x) := by
  unfold putI
  split
  · exact h
  · rename_i hn
    have hx : x ∉ l := by rw [← hasI_false]; simpa using hn
    rw [Rises, List.pairwise_append]
    refine ⟨h.sublist (List.takeWhile_sublist _), ?_, ?_⟩
    · rw [List.pairwise_cons]
      exact ⟨drop_after h, h.sublist (List.dropWhile_sublist _)⟩
    · intro a ha b hb
      have h1 := take_before hx a ha
      rcases List.mem_cons.1 hb with rfl | hb
      · exact h1
      · exact ltI_trans h1 (drop_after h b hb)
theorem foldl_putI (l : List I3) : ∀ o, (Rises o → Rises (l.foldl putI o)) ∧ ∀ y, y ∈ l.foldl putI o ↔ y ∈ o ∨ y ∈ l := by
  induction l with
  | nil => intro o; exact ⟨id, fun y => by simp⟩
  | cons x l ih =>
    intro o
    refine ⟨fun h => (ih _).1 (rises_putI x h), fun y => ?_⟩
    rw [List.foldl_cons, (ih _).2, mem_putI, List.mem_cons]
    constructor
    · rintro ((h | h) | h)
      · exact .inr (.inl h)
      · exact .inl h
      · exact .inr (.inr h)
    · rintro (h | h | h)
      · exact .inl (.inr h)
      · exact .inl (.inl h)
      · exact .inr h
theorem clnI_rises (l : List I3) : Rises (clnI l) := (foldl_putI l []).1 List.Pairwise.nil
theorem mem_clnI (l : List I3) (y : I3) : y ∈ clnI l ↔ y ∈ l := by unfold clnI; rw [(foldl_putI l []).2]; simp
/-- A rising list of just those is the set. -/
theorem clnI_eq {l a : List I3} (h : Rises a) (hm : ∀ x, x ∈ a ↔ x ∈ l) : clnI l = a := (clnI_rises l).uniq h fun x => (mem_clnI l x).trans (hm x).symm
theorem clnI_congr {l k : List I3} (h : ∀ x, x ∈ l ↔ x ∈ k) : clnI l = clnI k := clnI_eq (clnI_rises k) fun x => (mem_clnI k x).trans (h x).symm
def uniI (a b : List I3) : List I3 := clnI (a ++ b)
def lesI (a b : List I3) : List I3 := clnI (a.filter fun x => !hasI b x)
def samI (a b : List I3) : Bool := a.all (hasI b) && b.all (hasI a)
theorem mem_uniI (a b : List I3) (y : I3) : y ∈ uniI a b ↔ y ∈ a ∨ y ∈ b := by unfold uniI; rw [mem_clnI, List.mem_append]
theorem mem_lesI (a b : List I3) (y : I3) : y ∈ lesI a b ↔ y ∈ a ∧ y ∉ b := by
  unfold lesI; rw [mem_clnI, List.mem_filter]
  simp [hasI_false]
theorem samI_iff (a b : List I3) : samI a b = true ↔ ∀ x, x ∈ a ↔ x ∈ b := by
  unfold samI
  rw [Bool.and_eq_true, List.all_eq_true, List.all_eq_true]
  constructor
  · rintro ⟨h1, h2⟩ x
    exact ⟨fun m => (hasI_iff _ _).1 (h1 x m), fun m => (hasI_iff _ _).1 (h2 x m)⟩
  · intro h
    exact ⟨fun x m => (hasI_iff _ _).2 ((h x).1 m), fun x m => (hasI_iff _ _).2 ((h x).2 m)⟩
theorem samI_cln (a b : List I3) : samI a b = decide (clnI a = clnI b) := by
  rw [Bool.eq_iff_iff, samI_iff, decide_eq_true_iff]
  constructor
  · exact clnI_congr
  · intro h x
    rw [← mem_clnI a, ← mem_clnI b, h]
theorem len_putI (l : List I3) (x : I3) : (putI l x).length ≤ l.length + 1 := by
  unfold putI
  split
  · omega
  · have := congrArg List.length (List.takeWhile_append_dropWhile (p := fun y => !ltI x y) (l := l))
    rw [List.length_append] at this
    simp only [List.length_append, List.length_cons]
    omega
theorem foldl_len (l : List I3) : ∀ o, (l.foldl putI o).length ≤ o.length + l.length := by
  induction l with
  | nil => intro o; simp
  | cons x l ih => intro o; have := ih (putI o x); have := len_putI o x; simp only [List.foldl_cons, List.length_cons]; omega
theorem len_clnI (l : List I3) : (clnI l).length ≤ l.length := by have := foldl_len l []; simpa [clnI] using this
theorem len_uniI (a b : List I3) : (uniI a b).length ≤ a.length + b.length := by have := len_clnI (a ++ b); rw [List.length_append] at this; exact this
theorem len_lesI (a b : List I3) : (lesI a b).length ≤ a.length := by have := len_clnI (a.filter fun x => !hasI b x); have := List.length_filter_le (fun x => !hasI b x) a; unfold lesI; omega
/-- Each rises above the one ahead. -/
def rgtI : List I3 → Bool
  | [] => true
  | [_] => true
  | a :: b :: l => ltI a b && rgtI (b :: l)
theorem rgtI_iff : ∀ l, rgtI l = true ↔ Rises l
  | [] => by simp [rgtI]
  | [a] => by simp [rgtI]
  | a :: b :: l => by
    rw [rgtI, Bool.and_eq_true, rgtI_iff (b :: l)]
    refine Iff.trans ?_ (List.pairwise_cons (l := b :: l)).symm
    constructor
    · rintro ⟨h, k⟩
      refine ⟨fun z hz => ?_, k⟩
      rcases List.mem_cons.1 hz with rfl | hz
      · exact h
      · exact ltI_trans h ((List.pairwise_cons.1 k).1 z hz)
    · rintro ⟨h, k⟩
      exact ⟨h b (by simp), k⟩
theorem rgtI_at : ∀ (l : List I3), rgtI l = true ↔ ∀ i, i + 1 < l.length → ltI (l.getD i (0, 0, 0)) (l.getD (i + 1) (0, 0, 0)) = true
  | [] => by simp [rgtI]
  | [a] => by simp [rgtI]
  | a :: b :: l => by
    rw [rgtI, Bool.and_eq_true, rgtI_at (b :: l)]
    constructor
    · rintro ⟨h, k⟩ i hi
      cases i with
      | zero => simpa [List.getD] using h
      | succ i =>
        have := k i (by simp at hi ⊢; omega)
        simpa [List.getD] using this
    · intro h
      refine ⟨by simpa [List.getD] using h 0 (by simp), fun i hi => ?_⟩
      have := h (i + 1) (by simp at hi ⊢; omega)
      simpa [List.getD] using this
theorem split_len (a b : List I3) : (lesI a b).length + (lesI a (lesI a b)).length = (clnI a).length := by
  have h1 : lesI a b = (clnI a).filter fun x => !hasI b x := by
    refine clnI_eq ((clnI_rises a).sublist List.filter_sublist) fun x => ?_
    simp [List.mem_filter, mem_clnI]
  have h2 : lesI a (lesI a b) = (clnI a).filter fun x => hasI b x := by
    refine clnI_eq ((clnI_rises a).sublist List.filter_sublist) fun x => ?_
    simp only [List.mem_filter, mem_clnI, Bool.not_eq_true', hasI_false, mem_lesI, hasI_iff]
    constructor
    · rintro ⟨h, k⟩
      exact ⟨h, fun q => q.2 k⟩
    · rintro ⟨h, k⟩
      exact ⟨h, Classical.byContradiction fun q => k ⟨h, q⟩⟩
  rw [h2, h1]
  generalize clnI a = l
  induction l with
  | nil => rfl
  | cons x l ih =>
    simp only [List.filter_cons]
    cases hasI b x <;> simp <;> omega
end Go.Proofs.Ytlckjpjcfalfnaa
