/-
  Graph, plainly: what one leads to.
-/
import Derived.Test.YtlckjpjcfalfnaaGn
namespace Go.Proofs.Ytlckjpjcfalfnaa
open Go.RowKit Go.Sort
open Go.WideMaps
set_option linter.unusedSimpArgs false
set_option linter.unusedVariables false
set_option maxRecDepth 100000

/-- What one leads to, by the steps of f. -/
inductive Rch (f : I3 → List I3) (a : I3) : I3 → Prop
  | one {y : I3} : y ∈ f a → Rch f a y
  | more {x y : I3} : Rch f a x → y ∈ f x → Rch f a y
/-- A search: what is still to do, what was met, and what of whom is gone through. -/
structure RI (f : I3 → List I3) (a : I3) (todo met : List I3) (ex : Option (I3 × Nat)) : Prop where
  nodup : met.Nodup
  met' : ∀ y ∈ met, Rch f a y
  todo' : ∀ x ∈ todo, x = a ∨ x ∈ met
  cl : ∀ z, (z = a ∨ z ∈ met) → z ∉ todo → (∀ y ∈ f z, y ∈ met) ∨ ∃ i, ex = some (z, i) ∧ ∀ y ∈ (f z).take i, y ∈ met
  ex' : ∀ x i, ex = some (x, i) → (x = a ∨ x ∈ met) ∧ i ≤ (f x).length ∧ ∀ y ∈ (f x).take i, y ∈ met
theorem RI.start (f : I3 → List I3) (a : I3) : RI f a [a] [] none :=
  ⟨List.nodup_nil, (fun _ h => by cases h), (fun x h => .inl (by simpa using h)), (fun z h hn => by
    rcases h with h | h
    · exact absurd (by simp [h]) hn
    · cases h), (fun _ _ h => by cases h)⟩
theorem RI.pop {f : I3 → List I3} {a x : I3} {todo met : List I3} (h : RI f a (todo ++ [x]) met none) : RI f a todo met (some (x, 0)) := by
  refine ⟨h.nodup, h.met', fun y hy => h.todo' y (List.mem_append_left _ hy), fun z hz hn => ?_, fun y i e => ?_⟩
  · by_cases q : z = x
    · subst q
      exact .inr ⟨0, rfl, by simp⟩
    · rcases h.cl z hz (by simp [hn, q]) with r | ⟨_, e, _⟩
      · exact .inl r
      · cases e
  · cases e
    exact ⟨h.todo' x (by simp), Nat.zero_le _, by simp⟩
theorem RI.old {f : I3 → List I3} {a x : I3} {todo met : List I3} {i : Nat} (h : RI f a todo met (some (x, i))) (hi : i < (f x).length) (hm : (f x)[i] ∈ met) : RI f a todo met (some (x, i + 1)) := by
  have ht : ∀ y ∈ (f x).take (i + 1), y ∈ met := fun y hy => by
    rw [List.take_succ_eq_append_getElem hi] at hy
    rcases List.mem_append.1 hy with q | q
    · exact (h.ex' x i rfl).2.2 y q
    · simp at q; subst q; exact hm
  refine ⟨h.nodup, h.met', h.todo', fun z hz hn => ?_, fun y j e => ?_⟩
  · rcases h.cl z hz hn with r | ⟨j, e, _⟩
    · exact .inl r
    · cases e
      exact .inr ⟨i + 1, rfl, ht⟩
  · cases e
    exact ⟨(h.ex' x i rfl).1, hi, ht⟩
theorem RI.new {f : I3 → List I3} {a x : I3} {todo met : List I3} {i : Nat} (h : RI f a todo met (some (x, i))) (hi : i < (f x).length) (hm : (f x)[i] ∉ met) : RI f a (todo ++ [(f x)[i]]) (met ++ [(f x)[i]]) (some (x, i + 1)) := by
  have hx := (h.ex' x i rfl).1
  have ht : ∀ y ∈ (f x).take (i + 1), y ∈ met ++ [(f x)[i]] := fun y hy => by
    rw [List.take_succ_eq_append_getElem hi] at hy
    rcases List.mem_append.1 hy with q | q
    · exact List.mem_append_left _ ((h.ex' x i rfl).2.2 y q)
    · simp at q; subst q; simp
  have hr : Rch f a (f x)[i] := by
    rcases hx with q | q
    · subst q; exact .one (List.getElem_mem hi)
    · exact .more (h.met' x q) (List.getElem_mem hi)
  refine ⟨?_, fun y hy => ?_, fun y hy => ?_, fun z hz hn => ?_, fun y j e => ?_⟩
  · rw [List.nodup_append]
    refine ⟨h.nodup, by simp, fun u hu v hv e => ?_⟩
    simp at hv
    subst hv e
    exact hm hu
  · rcases List.mem_append.1 hy with q | q
    · exact h.met' y q
    · simp at q; subst q; exact hr
  · rcases List.mem_append.1 hy with q | q
    · rcases h.todo' y q with r | r
      · exact .inl r
      · exact .inr (List.mem_append_left _ r)
    · simp at q; subst q; exact .inr (by simp)
  · have hn1 : z ∉ todo := fun q => hn (List.mem_append_left _ q)
    have hn2 : z ≠ (f x)[i] := fun q => hn (by rw [q]; simp)
    have hz2 : z = a ∨ z ∈ met := by
      rcases hz with q | q
      · exact .inl q
      · rcases List.mem_append.1 q with r | r
        · exact .inr r
        · simp at r; exact absurd r hn2
    rcases h.cl z hz2 hn1 with r | ⟨j, e, _⟩
    · exact .inl fun y hy => List.mem_append_left _ (r y hy)
    · cases e
      exact .inr ⟨i + 1, rfl, ht⟩
  · cases e
    refine ⟨?_, hi, ht⟩
    rcases hx with q | q
    · exact .inl q
    · exact .inr (List.mem_append_left _ q)
theorem RI.done {f : I3 → List I3} {a x : I3} {todo met : List I3} {i : Nat} (h : RI f a todo met (some (x, i))) (hi : i = (f x).length) : RI f a todo met none := by
  refine ⟨h.nodup, h.met', h.todo', fun z hz hn => ?_, fun y j e => by cases e⟩
  rcases h.cl z hz hn with r | ⟨j, e, r⟩
  · exact .inl r
  · cases e
    rw [hi, List.take_length] at r
    exact .inl r
theorem RI.all {f : I3 → List I3} {a : I3} {met : List I3} (h : RI f a [] met none) (x : I3) : x ∈ met ↔ Rch f a x := by
  constructor
  · exact h.met' x
  · intro r
    induction r with
    | one hy =>
      rcases h.cl a (.inl rfl) (by simp) with q | ⟨_, e, _⟩
      · exact q _ hy
      · cases e
    | more hx hy ih =>
      rcases h.cl _ (.inr ih) (by simp) with q | ⟨_, e, _⟩
      · exact q _ hy
      · cases e
theorem len_sub : ∀ {l k : List I3}, l.Nodup → (∀ x ∈ l, x ∈ k) → l.length ≤ k.length := by
  intro l
  induction l with
  | nil => exact fun _ _ => Nat.zero_le _
  | cons a l ih =>
    intro k hn hs
    have hp := List.nodup_cons.1 hn
    have ha := hs a (.head _)
    have h1 := ih (k := k.erase a) hp.2 fun x hx => (List.mem_erase_of_ne (fun (e : x = a) => hp.1 (e ▸ hx))).2 (hs x (.tail _ hx))
    rw [List.length_erase_of_mem ha] at h1
    have h2 : 0 < k.length := List.length_pos_of_mem ha
    simp
    omega
theorem RI.few {f : I3 → List I3} {a : I3} {todo met : List I3} {ex : Option (I3 × Nat)} (h : RI f a todo met ex) {U : List I3} (hU : ∀ x, ∀ y ∈ f x, y ∈ U) : met.length ≤ U.length :=
  len_sub h.nodup fun y hy => by
    have := h.met' y hy
    cases this with
    | one q => exact hU _ _ q
    | more _ q => exact hU _ _ q
/-- A node that is not there. -/
def nv0 : NV := ⟨⟨(0, 0, 0), 0, []⟩, none, 0⟩
def ndOf (m : List (I3 × NV)) (x : I3) : NV := (getV m x).getD nv0
/-- To which one leads by one step. -/
def stepsV (m : List (I3 × NV)) (x : I3) : List I3 := (ndOf m x).d.dl
theorem ndOf_ok {W : World} {m : List (I3 × NV)} (h : ∀ e ∈ m, e.2.Ok W) (x : I3) : (ndOf m x).Ok W := by
  unfold ndOf
  cases q : getV m x with
  | none => exact ⟨⟨by rfl, by rfl, by rfl⟩, (fun y hy => by cases hy), Knd.Rd.nil W⟩
  | some n =>
    unfold getV at q
    rw [Option.map_eq_some_iff] at q
    obtain ⟨e, h1, h2⟩ := q
    subst h2
    exact h e (List.mem_of_find?_eq_some h1)
theorem look_ndV (m : List (I3 × NV)) (x : I3) : ((getV m x).map ndV).getD (ndV nv0) = ndV (ndOf m x) := by
  unfold ndOf
  cases getV m x <;> rfl
end Go.Proofs.Ytlckjpjcfalfnaa
