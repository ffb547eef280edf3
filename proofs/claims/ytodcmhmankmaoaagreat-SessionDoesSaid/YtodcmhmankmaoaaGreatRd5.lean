/-
 The document's directory, plainly: an entry that is there is set, or taken out, at its place.
-/
import Derived.Test.YtodcmhmankmaoaaGreatRd4
namespace Go.Proofs.YtodcmhmankmaoaaGreat
open Go.RowKit
set_option linter.unusedSimpArgs false
set_option linter.unusedVariables false

/-- Where a path is, and what it has; or that it is not there. -/
theorem fix_cases (l : List E3) (p : ByteArray) : (fixI l p = -1 ∧ fndD l p = none) ∨ ∃ (k : Nat) (v : ByteArray) (n : Int), k < l.length ∧ l[k]? = some (p, v, n) ∧ fixI l p = (k : Int) ∧ fndD l p = some (v, n) := by
 unfold fixI fndD
 cases h : l.findIdx? (fun e => decide (e.1 = p)) with
 | none =>
  rw [List.findIdx?_eq_none_iff] at h
  refine .inl ⟨rfl, ?_⟩
  rw [List.find?_eq_none.2 (fun x hx => by simpa using h x hx)]
  rfl
 | some k =>
  obtain ⟨hk, h1, h2⟩ := List.findIdx?_eq_some_iff_getElem.1 h
  obtain ⟨⟨q, v, n⟩, hx⟩ : ∃ x, l[k] = x := ⟨_, rfl⟩
  rw [hx] at h1
  simp at h1
  subst h1
  have hf : l.find? (fun e => decide (e.1 = q)) = some (q, v, n) := by
   rw [List.find?_eq_some_iff_getElem]
   exact ⟨by simp, k, hk, hx, fun j hj => by simpa using h2 j hj⟩
  exact .inr ⟨k, v, n, hk, by rw [List.getElem?_eq_getElem hk, hx], rfl, by rw [hf]; rfl⟩
/-- What lies ahead of an entry is less, what lies behind it is greater. -/
theorem around {l : List E3} (hr : RisesD l) {k : Nat} {p v : ByteArray} {n : Int} (hx : l[k]? = some (p, v, n)) : (∀ x ∈ l.take k, lsr x.1 p = true) ∧ ∀ x ∈ l.drop (k + 1), lsr p x.1 = true := by
 obtain ⟨hk, ex⟩ := List.getElem?_eq_some_iff.1 hx
 have hp := List.pairwise_iff_getElem.1 hr
 refine ⟨fun x q => ?_, fun x q => ?_⟩
 ·obtain ⟨j, hj, e⟩ := List.mem_take_iff_getElem.1 q
  have := hp j k (by omega) hk (by omega)
  rw [ex, e] at this
  exact this
 ·obtain ⟨j, hj⟩ := List.mem_iff_getElem?.1 q
  rw [List.getElem?_drop] at hj
  obtain ⟨hl, e⟩ := List.getElem?_eq_some_iff.1 hj
  have := hp k (k + 1 + j) hk hl (by omega)
  rw [ex, e] at this
  exact this
theorem split_at {l : List E3} {k : Nat} {x : E3} (hx : l[k]? = some x) : l = l.take k ++ x :: l.drop (k + 1) := by
 obtain ⟨hk, ex⟩ := List.getElem?_eq_some_iff.1 hx
 have h := (List.take_append_drop k l).symm
 rwa [List.drop_eq_getElem_cons hk, ex] at h
theorem set_put {l : List E3} (hr : RisesD l) {k : Nat} {p v v' : ByteArray} {n n' : Int} (hx : l[k]? = some (p, v, n)) : putD l p v' n' = l.set k (p, v', n') := by
 obtain ⟨h1, h2⟩ := around hr hx
 have hk : k < l.length := (List.getElem?_eq_some_iff.1 hx).1
 have e1 : l.filter (fun e => lsr e.1 p) = l.take k := by
  conv => lhs; rw [split_at hx]
  rw [List.filter_append, List.filter_eq_self.2 h1, List.filter_cons]
  rw [if_neg (by rw [lsr_irr]; simp), List.filter_eq_nil_iff.2 (fun x q => by rw [lsr_asym (h2 x q)]; simp), List.append_nil]
 have e2 : l.filter (fun e => lsr p e.1) = l.drop (k + 1) := by
  conv => lhs; rw [split_at hx]
  rw [List.filter_append, List.filter_eq_nil_iff.2 (fun x q => by rw [lsr_asym (h1 x q)]; simp), List.filter_cons]
  rw [if_neg (by rw [lsr_irr]; simp), List.filter_eq_self.2 h2, List.nil_append]
 unfold putD
 rw [e1, e2, List.set_eq_take_append_cons_drop, if_pos hk]
theorem del_at {l : List E3} (hr : RisesD l) {k : Nat} {p v : ByteArray} {n : Int} (hx : l[k]? = some (p, v, n)) : delD l p = l.take k ++ l.drop (k + 1) := by
 obtain ⟨h1, h2⟩ := around hr hx
 unfold delD
 conv => lhs; rw [split_at hx]
 rw [List.filter_append, List.filter_eq_self.2 (fun x q => by simpa using lsr_ne (h1 x q)), List.filter_cons]
 rw [if_neg (by simp), List.filter_eq_self.2 (fun x q => by simpa using fun e => lsr_ne (h2 x q) e.symm)]
end Go.Proofs.YtodcmhmankmaoaaGreat
