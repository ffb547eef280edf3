/-
  The walks of the document's Right, and of ids' Right.
-/
import Derived.Test.YtplplehfkfjhnaaIds8
import Derived.Deep.RegionHeld3
namespace Go.Proofs.Ytplplehfkfjhnaa
open Go.RowKit Go.Sort Go.Shelf Go.Lib
set_option linter.unusedSimpArgs false
set_option linter.unusedVariables false

/-- Six cells that stay. -/
theorem keep6 {wr w' : World} {b1 b2 o1 o2 : Nat} {x1 x2 x3 y1 y2 y3 : Value} (hb1 : b1 < wr.heap.size) (hb2 : b2 < wr.heap.size) (d1 : wr.cell? ⟨b1, o1, none⟩ = some x1) (d2 : wr.cell? ⟨b1, o1 + 1, none⟩ = some x2) (d3 : wr.cell? ⟨b1, o1 + 2, none⟩ = some x3)
    (c1 : wr.cell? ⟨b2, o2, none⟩ = some y1) (c2 : wr.cell? ⟨b2, o2 + 1, none⟩ = some y2) (c3 : wr.cell? ⟨b2, o2 + 2, none⟩ = some y3) (hB : Below wr.heap.size wr w') :
    w'.cell? ⟨b1, o1, none⟩ = some x1 ∧ w'.cell? ⟨b1, o1 + 1, none⟩ = some x2 ∧ w'.cell? ⟨b1, o1 + 2, none⟩ = some x3 ∧ w'.cell? ⟨b2, o2, none⟩ = some y1 ∧ w'.cell? ⟨b2, o2 + 1, none⟩ = some y2 ∧ w'.cell? ⟨b2, o2 + 2, none⟩ = some y3 ∧ Below wr.heap.size wr w' :=
  ⟨(hB.cell (p := ⟨b1, o1, none⟩) hb1).trans d1, (hB.cell (p := ⟨b1, o1 + 1, none⟩) hb1).trans d2, (hB.cell (p := ⟨b1, o1 + 2, none⟩) hb1).trans d3, (hB.cell (p := ⟨b2, o2, none⟩) hb2).trans c1, (hB.cell (p := ⟨b2, o2 + 1, none⟩) hb2).trans c2, (hB.cell (p := ⟨b2, o2 + 2, none⟩) hb2).trans c3, hB⟩
end Go.Proofs.Ytplplehfkfjhnaa
