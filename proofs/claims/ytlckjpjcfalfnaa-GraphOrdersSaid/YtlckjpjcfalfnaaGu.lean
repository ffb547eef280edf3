/-
  Graph: where one stands in a row.
-/
import Derived.Test.YtlckjpjcfalfnaaGt
import Derived.Shelf.SlicesQ.Index
namespace Go.Proofs.Ytlckjpjcfalfnaa
open Go.RowKit Go.Sort Go.Shelf
open Go.WideMaps
set_option linter.unusedSimpArgs false
set_option linter.unusedVariables false
set_option maxRecDepth 100000

shelf_lay_g SlLaysQ.n6 Slgq 6 at Try 60 as Try.indexIds
theorem index_any {w : World} {v : Value} {l : List I3} (h : IK.Rd w v l) (i1 i2 i3 : Int) (p : Nat) (hp : p < l.length) (hx : l[p] = (i1, i2, i3)) (hn : ∀ j (hj : j < p), l[j] ≠ (i1, i2, i3)) :
    Calls Try.prog 60 #[v, .agg #[.int .i64 i1, .int .i64 i2, .int .i64 i3]] w fun e w' => e = .returned (.int .i64 p) ∧ Below w.heap.size w w' := by
  obtain ⟨a, c, rfl⟩ := h.slice
  have hl := h.len
  obtain ⟨_, g, off, rfl, hg, hc⟩ := h.at (by intro e; rw [e] at hp; simp at hp)
  have hcon := AnyQ.slices_Index Try.indexIds 3 Try.isAgg25 Try.sizeOf25 idE (fun _ => rfl) (fun x y => decide (x = y)) eqIds g off l.length c l (i1, i2, i3) w (Nat.le_refl _) (by unfold maxLen at hl; omega)
    (fun j hj i v hv => hc j hj i v (by
      have e : l.getD j IK.d = l[j]! := by rw [getElem!_pos l j hj]; simp [List.getD, hj]
      rw [e]
      exact hv))
  change Calls Try.prog 60 _ _ _ at hcon
  rw [List.take_length] at hcon
  have e : Lib.idxBy (fun x y : I3 => decide (x = y)) l (i1, i2, i3) = (p : Int) := by
    unfold Lib.idxBy
    have q := Lib.idxByFrom_hit (fun x y : I3 => decide (x = y)) (i1, i2, i3) l p 0 hp (by rw [getElem!_pos l p hp, hx]; simp) (fun j hj => by
      rw [getElem!_pos l j (by omega)]
      exact decide_eq_false fun r => hn j hj r.symm)
    simpa using q
  rw [e] at hcon
  refine hcon.mono ?_
  rintro e w' ⟨he, q, hw⟩
  refine ⟨he, ?_⟩
  rw [hw]
  exact below_drewNA ((Below.refl _ _).alloc (Nat.le_refl _) _) q
/-- A row's first part is its own. -/
theorem own_take {P : Program} {α : Type} {K : Knd P α} {w : World} {base : Nat} {a : Option Addr} {n c : Nat} {l k : List α} (h : K.Own w base (.slice a n c) (l ++ k)) (hl : l ≠ [] ∨ a ≠ none) : K.Own w base (.slice a l.length c) l := by
  revert h
  induction k using snoc_ind generalizing n with
  | h0 =>
    intro h
    have e := (own_cap h).2
    rw [List.append_nil] at h e
    rw [e] at h
    exact h
  | hs k x ih =>
    intro h
    rw [← List.append_assoc] at h
    exact ih (own_pop h).2
/-- A row's last part can be read. -/
theorem rd_drop {P : Program} {α : Type} {K : Knd P α} {w : World} {g n c : Nat} {l k : List α} (h : K.Rd w (.slice (some ⟨g, 0, none⟩) n c) (l ++ k)) (hk : k ≠ []) : K.Rd w (.slice (some ⟨g, l.length * K.k, none⟩) (n - l.length) (c - l.length)) k := by
  obtain ⟨a', c', e, h1, h2, h3⟩ := h
  simp only [Value.slice.injEq] at e
  obtain ⟨rfl, hn, rfl⟩ := e
  have hlen : (l ++ k).length = l.length + k.length := by simp
  refine ⟨some ⟨g, l.length * K.k, none⟩, c - l.length, by rw [hn, hlen]; simp, by omega, (fun q => by cases q), .inr ⟨g, l.length * K.k, rfl, ?_, fun t u ht => ?_⟩⟩
  · rcases h3 with h3 | ⟨g', off, ha, hg, hc⟩
    · simp at h3; exact absurd h3.2 hk
    · simp only [Option.some.injEq, Addr.mk.injEq, and_true] at ha
      obtain ⟨rfl, rfl⟩ := ha
      exact hg
  · rcases h3 with h3 | ⟨g', off, ha, hg, hc⟩
    · simp at h3; exact absurd h3.2 hk
    · simp only [Option.some.injEq, Addr.mk.injEq, and_true] at ha
      obtain ⟨rfl, rfl⟩ := ha
      have := hc (l.length * K.k + t) u (by
        rw [K.row_app, List.getElem?_append_right (by rw [K.row_len]; omega), K.row_len, Nat.add_sub_cancel_left]
        exact ht)
      rwa [Nat.zero_add] at this
end Go.Proofs.Ytlckjpjcfalfnaa
