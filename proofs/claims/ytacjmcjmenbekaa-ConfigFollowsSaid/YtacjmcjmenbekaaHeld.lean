/-
  What is kept of a world while calls make new memory: some cells, and all that was there.
-/
import Derived.Test.YtacjmcjmenbekaaInt
import Derived.RowKit3
import Derived.Deep.RegionHeld3
namespace Go.Proofs.Ytacjmcjmenbekaa
open Go.RowKit
set_option linter.unusedSimpArgs false
set_option linter.unusedVariables false

@[reducible] def AllC (w : World) : List (Addr × Value) → Prop
  | [] => True
  | (p, v) :: l => w.cell? p = some v ∧ AllC w l
/-- The cells of L, all in blocks below N, hold in w'; and all that was in w is as it was. -/
structure Held (w : World) (N : Nat) (L : List (Addr × Value)) (w' : World) : Prop where
  low : ∀ x ∈ L, x.1.block < N
  cells : AllC w' L
  size : N ≤ w'.heap.size
  below : Below w.heap.size w w'
  base : w.heap.size ≤ N
theorem AllC.below {w0 w1 : World} {N : Nat} (hb : Below N w0 w1) : ∀ {L : List (Addr × Value)}, (∀ x ∈ L, x.1.block < N) → AllC w0 L → AllC w1 L
  | [], _, _ => trivial
  | (p, v) :: l, hl, h => ⟨(hb.cell (p := p) (by have := hl (p, v) (by simp); simpa using this)).trans h.1, AllC.below hb (fun x hx => hl x (List.mem_cons_of_mem _ hx)) h.2⟩
theorem Held.keptN {w w0 w1 : World} {N : Nat} {L : List (Addr × Value)} (h : Held w N L w0) (hb : Below N w0 w1) : Held w N L w1 :=
  ⟨h.low, AllC.below hb h.low h.cells, Nat.le_trans h.size hb.size, h.below.trans (hb.mono h.base), h.base⟩
theorem Held.kept {w w0 w1 : World} {N : Nat} {L : List (Addr × Value)} (h : Held w N L w0) (hb : Below w0.heap.size w0 w1) : Held w N L w1 := h.keptN (hb.mono h.size)
theorem Held.set {w w0 : World} {N : Nat} {L : List (Addr × Value)} (h : Held w N L w0) {a : Addr} (ha : N ≤ a.block) (v : Value) : Held w N L (w0.setCell a v) := h.keptN ((Below.refl _ _).setCell ha v)
theorem Held.more {w w0 : World} {N g : Nat} {L : List (Addr × Value)} (h : Held w N L w0) (hN : N ≤ g) (hg : g < w0.heap.size) {v0 v1 : Value} (c0 : w0.cell? ⟨g, 0, none⟩ = some v0) (c1 : w0.cell? ⟨g, 1, none⟩ = some v1) :
    Held w (g + 1) ((⟨g, 0, none⟩, v0) :: (⟨g, 1, none⟩, v1) :: L) w0 :=
  ⟨fun x hx => by
    simp only [List.mem_cons] at hx
    rcases hx with rfl | rfl | hx
    · simp
    · simp
    · have := h.low x hx; omega, ⟨c0, c1, h.cells⟩, hg, h.below, by have := h.base; omega⟩
theorem Held.drew {w w0 : World} {N : Nat} {L : List (Addr × Value)} (h : Held w N L w0) : Held w N L w0.drew := h.kept ((Below.refl _ _).drew)
theorem Held.alloc {w w0 : World} {N : Nat} {L : List (Addr × Value)} (h : Held w N L w0) (o : Obj) : Held w N L (w0.alloc o) := h.kept ((Below.refl _ _).alloc (Nat.le_refl _) o)
theorem Held.parts {w w' : World} {N : Nat} {L : List (Addr × Value)} (h : Held w N L w') : AllC w' L ∧ Held w N L w' := ⟨h.cells, h⟩

theorem Held.also {A : Prop} {w w' : World} {N : Nat} {L : List (Addr × Value)} (h : Held w N L w') (f : Held w N L w' → A) : A ∧ Held w N L w' := ⟨f h, h⟩

theorem Held.start {w w' : World} {N : Nat} {L : List (Addr × Value)} (hlow : ∀ x ∈ L, x.1.block < N) (hc : AllC w' L) (hs : N ≤ w'.heap.size) (hb : Below w.heap.size w w') (h : w.heap.size ≤ N) : Held w N L w' := ⟨hlow, hc, hs, hb, h⟩
/-- The cells of a block, one behind the other. -/
@[reducible] def rowL (g : Nat) : Nat → List Value → List (Addr × Value) → List (Addr × Value)
  | _, [], L => L
  | i, v :: vs, L => (⟨g, i, none⟩, v) :: rowL g (i + 1) vs L
theorem rowL_allC {w : World} {g : Nat} {cs : Array Value} {t : TypeId} {fr : Nat × Nat} (hh : w.heap[g]? = some (.cells cs t fr)) : ∀ (vs : List Value) (i : Nat) (L : List (Addr × Value)), (∀ j, j < vs.length → cs[i + j]? = vs[j]?) → AllC w L → AllC w (rowL g i vs L)
  | [], _, _, _, h => h
  | v :: vs, i, L, hv, h => ⟨by
      have := hv 0 (by simp)
      simp at this
      simp [World.cell?, hh, this], rowL_allC hh vs (i + 1) L (fun j hj => by
      have := hv (j + 1) (by simpa using hj)
      rw [show i + 1 + j = i + (j + 1) from by omega, this]; simp) h⟩
theorem rowL_low {N g : Nat} : ∀ (vs : List Value) (i : Nat) (L : List (Addr × Value)), g < N → (∀ x ∈ L, x.1.block < N) → ∀ x ∈ rowL g i vs L, x.1.block < N
  | [], _, _, _, h => h
  | v :: vs, i, L, hg, h => fun x hx => by
      simp only [rowL, List.mem_cons] at hx
      rcases hx with rfl | hx
      · exact hg
      · exact rowL_low vs (i + 1) L hg h x hx
/-- A block more. -/
theorem Held.row {w w0 : World} {N : Nat} {L : List (Addr × Value)} (h : Held w N L w0) (cs : Array Value) (t : TypeId) : Held w (w0.heap.size + 1) (rowL w0.heap.size 0 cs.toList L) (w0.alloc (.cells cs t)) := by
  have hb := (h.alloc (.cells cs t))
  have hs := h.size
  have hbs := h.base
  refine ⟨rowL_low _ _ _ (by omega) (fun x hx => by have := h.low x hx; omega), rowL_allC (heap_alloc_new w0 _) _ _ _ (fun j hj => by simp) hb.cells, by simp, hb.below, by omega⟩
end Go.Proofs.Ytacjmcjmenbekaa
