/-
  Cells as the keys of a map.
-/
import Derived.Test.YtphddigohmdbnaaTchC
import Derived.Maps.OwnSet
import Derived.DeepKeys4
namespace Go.Proofs.Ytphddigohmdbnaa
open Go.RowKit
set_option linter.unusedSimpArgs false
set_option linter.unusedVariables false

set_option maxRecDepth 100000 in
theorem laidOut8 : laidOutB Try.prog = true := by kernel_rfl
theorem cellRow : (49 : TypeId) < Try.prog.types.size := of_decide_eq_true (by kernel_rfl)
theorem cells49 : Try.prog.cellsOf 49 = 2 := by kernel_rfl
theorem cells9 : Try.prog.cellsOf 9 = 1 := by kernel_rfl
theorem cells5 : Try.prog.cellsOf 5 = 1 := by kernel_rfl
theorem cellDeep : Try.prog.keyType 49 = true := by kernel_rfl
theorem cellWide : (match Try.prog.underlying 49 with | some (.array _ _) | some (.struct _) => true | _ => false) = true := by kernel_rfl
set_option maxRecDepth 100000 in
theorem cellLaw : Go.Maps.Keyed Try.prog 49 := Go.Maps.Keyed.of_law (deep_law_laid laidOut8 (m := 3) (by omega) cellRow (by kernel_rfl) cellWide)
theorem cellFormed {c0 c1 : Value} : (Value.agg #[c0, c1]).formed Try.prog 49 = true := by simp [Value.formed, Try.underlying49, cells49]
theorem pos_succ {a b : Nat} (h : a < b) : ∃ n, b = n + 1 := ⟨b - 1, by omega⟩
/-- Each cell is a key. -/
theorem cellKey (c : Cl) (h1 : c.1.size ≤ maxLen) (h2 : (Lit.int .u8 c.2).wf = true) : ∃ kl, keyOf Try.prog 49 (.agg #[.string c.1, .int .u8 c.2]) = some kl := by
  obtain ⟨n, hn⟩ := pos_succ cellRow
  unfold keyOf
  simp only [Try.underlying49, cellDeep, cellFormed, hn, Value.cells]
  simp [Program.keyLits, Try.underlying49, Try.underlying9, Try.underlying5, cells49, cells9, cells5, h1, h2]
end Go.Proofs.Ytphddigohmdbnaa
