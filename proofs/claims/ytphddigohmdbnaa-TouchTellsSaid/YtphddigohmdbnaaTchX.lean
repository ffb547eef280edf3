/-
  Cells as elements of rows that can be read; two cells compared.
-/
import Derived.Test.YtphddigohmdbnaaTchW
import Derived.Test.YtphddigohmdbnaaTchB
import Derived.Test.YtphddigohmdbnaaRow
import Derived.Laws.StructEq
import Derived.Shelf.SlicesE.Kit
import Derived.Deep.QuietTactic
import Derived.BigQuiet
namespace Go.Proofs.Ytphddigohmdbnaa
open Go.RowKit
set_option linter.unusedSimpArgs false
set_option linter.unusedVariables false

/-- Cells as elements of rows. -/
noncomputable def CK : Knd Try.prog Cl where
  T := 49
  S := 32
  k := 2
  enc := vc
  z := .agg #[.string ByteArray.empty, .int .u8 0]
  B := 24
  len := fun _ => rfl
  one := fun x v h => by simp [vc] at h; rcases h with rfl | rfl <;> rfl
  und := Try.underlying32
  info := infoCell
  zc := rfl
  pos := by omega
  small := by omega
  d := (ByteArray.empty, 0)
theorem Own2.ck {w : World} {base : Nat} {v : Value} {l : List Cl} (h : Own2 w base v l) : CK.Own w base v l := h
theorem clCell {w : World} {a : Option Addr} {n c : Nat} {l : List Cl} (h : CK.Rd w (.slice a n c) l) (k : Nat) (hk : k < n) : n = l.length ∧ ∃ g off, a = some ⟨g, off, none⟩ ∧ g < w.heap.size ∧
    w.cell? ⟨g, off + k * 2, none⟩ = some (.string (l.getD k (ByteArray.empty, 0)).1) ∧ w.cell? ⟨g, off + k * 2 + 1, none⟩ = some (.int .u8 (l.getD k (ByteArray.empty, 0)).2) ∧ k < l.length := by
  have hl : l ≠ [] := by
    intro e
    obtain ⟨a', c', e', _⟩ := h
    subst e
    simp at e'
    omega
  obtain ⟨hn, g, off, rfl, hg, hc⟩ := h.at hl
  exact ⟨hn, g, off, rfl, hg, hc k hk 0 _ rfl, hc k hk 1 _ rfl, by omega⟩
/-- Two cells compared. -/
theorem eqC_run (a1 : ByteArray) (a2 : Int) (b1 : ByteArray) (b2 : Int) : (∀ w, Sem.run Try.prog (binOp .eql 49 (.agg #[.string a1, .int .u8 a2]) (.agg #[.string b1, .int .u8 b2])) w = .ok (.bool (decide (((a1, a2) : Cl) = (b1, b2)))) w) ∧
    (∀ op x y w, Sem.run Try.prog (eqGuard op 49 x y (.agg #[.string a1, .int .u8 a2]) (.agg #[.string b1, .int .u8 b2])) w = .ok () w) := by
  refine ⟨fun w => ?_, fun op x y w => run_eqGuard_agg w op 49 x y _ _ (by kernel_rfl)⟩
  have u3 := Try.underlying9
  have a3 := Try.isAgg9
  have z3 := Try.sizeOf9
  have u4 := Try.underlying5
  have a4 := Try.isAgg5
  have z4 := Try.sizeOf5
  have hS : Try.prog.underlying 49 = some (.struct (Try.prog.fieldsOf 49)) := by kernel_rfl
  have hp : Try.prog.stoodInHeld 49 = false := by kernel_rfl
  rw [run_eql_struct, show (10000 : Nat) = 9999 + 1 from rfl, run_equalIn_agg w 9999 49 _ _ hS hp]
  simp only [Program.fieldsOf, Try.underlying49]
  go_simp
  by_cases h1 : a1 = b1
  · subst h1
    by_cases h2 : a2 = b2 <;> simp [h2]
  · have h3 : a1.toList ≠ b1.toList := by
      intro e
      rw [ByteArray.toList_eq, ByteArray.toList_eq] at e
      exact h1 (ByteArray.ext (by simpa using e))
    simp [h1, h3]
end Go.Proofs.Ytphddigohmdbnaa
