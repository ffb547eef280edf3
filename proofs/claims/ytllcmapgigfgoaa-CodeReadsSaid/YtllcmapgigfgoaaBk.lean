/-
  Blocks of cells whose values are known.
-/
import Derived.Test.YtllcmapgigfgoaaRow
namespace Go.Proofs.Ytllcmapgigfgoaa
open Go.RowKit
set_option linter.unusedSimpArgs false
set_option linter.unusedVariables false

/-- A block that holds just these. -/
def Bk (w : World) (b : Nat) (T : TypeId) (cs : List Value) : Prop := w.heap[b]? = some (.cells cs.toArray T (0, 0))
theorem Bk.lt {w : World} {b : Nat} {T : TypeId} {cs : List Value} (h : Bk w b T cs) : b < w.heap.size := (Array.getElem?_eq_some_iff.1 h).1
theorem Bk.on {w w' : World} {b N : Nat} {T : TypeId} {cs : List Value} (h : Bk w b T cs) (hb : Below N w w') (hN : b < N) : Bk w' b T cs := (hb.block b hN).trans h
theorem Bk.below {w w' : World} {b : Nat} {T : TypeId} {cs : List Value} (h : Bk w b T cs) (hb : Below w.heap.size w w') : Bk w' b T cs := h.on hb h.lt
theorem Bk.cell {w : World} {b : Nat} {T : TypeId} {cs : List Value} (h : Bk w b T cs) (j : Nat) : w.cell? ⟨b, j, none⟩ = cs[j]? := by
  have := cell_of_row w b j cs.toArray T (0, 0) h
  simpa using this
theorem Bk.fz {w : World} {b : Nat} {T : TypeId} {cs : List Value} (h : Bk w b T cs) (o : Nat) : w.frozen? ⟨b, o, none⟩ = false := by
  unfold World.frozen?
  rw [h]
  simp
theorem Bk.new (w : World) (T : TypeId) (cs : List Value) : Bk (w.alloc (.cells cs.toArray T)) w.heap.size T cs := heap_alloc_new w _
theorem Bk.old {w : World} {b : Nat} {T : TypeId} {cs : List Value} (h : Bk w b T cs) (o : Obj) : Bk (w.alloc o) b T cs := h.below ((Below.refl _ _).alloc (Nat.le_refl _) _)
theorem Bk.set {w : World} {b : Nat} {T : TypeId} {cs : List Value} (h : Bk w b T cs) (j : Nat) (u : Value) : Bk (w.setCell ⟨b, j, none⟩ u) b T (cs.set j u) := by
  have hlt := h.lt
  have h' : w.heap[b]? = some (.cells cs.toArray T (0, 0)) := h
  unfold Bk World.setCell
  simp only [Array.getElem?_modify, h', if_true, Option.map_some]
  simp
theorem Bk.other {w : World} {b b2 : Nat} {T : TypeId} {cs : List Value} (h : Bk w b T cs) (hne : b ≠ b2) (j : Nat) (u : Value) : Bk (w.setCell ⟨b2, j, none⟩ u) b T cs := (Below.heap_setCell w ⟨b2, j, none⟩ u b hne).trans h
theorem Bk.grown {w w' : World} {b : Nat} {T : TypeId} {cs : List Value} {r : Option Nat} (h : Bk w b T cs) (hg : w.grownBy w' r) (hne : some b ≠ r) : Bk w' b T cs := (hg.block b h.lt hne).trans h
end Go.Proofs.Ytllcmapgigfgoaa
