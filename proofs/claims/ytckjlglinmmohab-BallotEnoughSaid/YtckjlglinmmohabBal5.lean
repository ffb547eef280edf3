/-
  What is kept of a world while calls make new memory: some cells, and all that was there.
-/
import Derived.Test.YtckjlglinmmohabBal4
namespace Go.Proofs.Ytckjlglinmmohab
open Go.RowKit
set_option linter.unusedSimpArgs false
set_option linter.unusedVariables false

@[reducible] def AllC (w : World) : List (Addr × Value) → Prop
  | [] => True
  | (p, v) :: l => w.cell? p = some v ∧ AllC w l
/-- The cells of L, all in blocks below N, hold in w'; and all that was in w is as it was. -/
structure Held (w : World) (N : Nat) (L : List (Addr × Value)) (w' : World) : Prop where
  low : ∀ x ∈ L, x.1.block < N
  cells : AllC w' L
  size : N ≤ w'.heap.size
  below : Below w.heap.size w w'
  base : w.heap.size ≤ N
theorem AllC.below {w0 w1 : World} {N : Nat} (hb : Below N w0 w1) : ∀ {L : List (Addr × Value)}, (∀ x ∈ L, x.1.block < N) → AllC w0 L → AllC w1 L
  | [], _, _ => trivial
  | (p, v) :: l, hl, h => ⟨(hb.cell (p := p) (by have := hl (p, v) (by simp); simpa using this)).trans h.1, AllC.below hb (fun x hx => hl x (List.mem_cons_of_mem _ hx)) h.2⟩
theorem Held.keptN {w w0 w1 : World} {N : Nat} {L : List (Addr × Value)} (h : Held w N L w0) (hb : Below N w0 w1) : Held w N L w1 :=
  ⟨h.low, AllC.below hb h.low h.cells, Nat.le_trans h.size hb.size, h.below.trans (hb.mono h.base), h.base⟩
theorem Held.kept {w w0 w1 : World} {N : Nat} {L : List (Addr × Value)} (h : Held w N L w0) (hb : Below w0.heap.size w0 w1) : Held w N L w1 := h.keptN (hb.mono h.size)
theorem Held.set {w w0 : World} {N : Nat} {L : List (Addr × Value)} (h : Held w N L w0) {a : Addr} (ha : N ≤ a.block) (v : Value) : Held w N L (w0.setCell a v) := h.keptN ((Below.refl _ _).setCell ha v)
theorem Held.more {w w0 : World} {N g : Nat} {L : List (Addr × Value)} (h : Held w N L w0) (hN : N ≤ g) (hg : g < w0.heap.size) {v0 v1 : Value} (c0 : w0.cell? ⟨g, 0, none⟩ = some v0) (c1 : w0.cell? ⟨g, 1, none⟩ = some v1) :
    Held w (g + 1) ((⟨g, 0, none⟩, v0) :: (⟨g, 1, none⟩, v1) :: L) w0 :=
  ⟨fun x hx => by
    simp only [List.mem_cons] at hx
    rcases hx with rfl | rfl | hx
    · simp
    · simp
    · have := h.low x hx; omega, ⟨c0, c1, h.cells⟩, hg, h.below, by have := h.base; omega⟩
theorem Held.drew {w w0 : World} {N : Nat} {L : List (Addr × Value)} (h : Held w N L w0) : Held w N L w0.drew := h.kept ((Below.refl _ _).drew)
theorem Held.alloc {w w0 : World} {N : Nat} {L : List (Addr × Value)} (h : Held w N L w0) (o : Obj) : Held w N L (w0.alloc o) := h.kept ((Below.refl _ _).alloc (Nat.le_refl _) o)
theorem Held.parts {w w' : World} {N : Nat} {L : List (Addr × Value)} (h : Held w N L w') : AllC w' L ∧ Held w N L w' := ⟨h.cells, h⟩

theorem Held.also {A : Prop} {w w' : World} {N : Nat} {L : List (Addr × Value)} (h : Held w N L w') (f : Held w N L w' → A) : A ∧ Held w N L w' := ⟨f h, h⟩

theorem mo_assoc (a1 a2 b1 b2 c1 c2 : Int) : mo1 a1 a2 (mo1 b1 b2 c1 c2) (mo2 b1 b2 c1 c2) = mo1 (mo1 a1 a2 b1 b2) (mo2 a1 a2 b1 b2) c1 c2 ∧ mo2 a1 a2 (mo1 b1 b2 c1 c2) (mo2 b1 b2 c1 c2) = mo2 (mo1 a1 a2 b1 b2) (mo2 a1 a2 b1 b2) c1 c2 := by
  unfold mo1 mo2 lessB
  repeat' split
  all_goals (simp_all; try omega)
theorem mo_rev (a1 a2 b1 b2 c1 c2 : Int) : mo1 c1 c2 (mo1 b1 b2 a1 a2) (mo2 b1 b2 a1 a2) = mo1 (mo1 a1 a2 b1 b2) (mo2 a1 a2 b1 b2) c1 c2 ∧ mo2 c1 c2 (mo1 b1 b2 a1 a2) (mo2 b1 b2 a1 a2) = mo2 (mo1 a1 a2 b1 b2) (mo2 a1 a2 b1 b2) c1 c2 := by
  unfold mo1 mo2 lessB
  repeat' split
  all_goals (simp_all; try omega)
end Go.Proofs.Ytckjlglinmmohab
