/-
 Snaps as they come in.
-/
import Derived.Test.YtnancdbkmompdaaGreatSQR
namespace Go.Proofs.YtnancdbkmompdaaGreat
open Go.ChangeShapes Go.WideShapes Go.ChangeAt Go.RowKit Go.Joins Go.Deep
set_option linter.unusedSimpArgs false
set_option linter.unusedVariables false
set_option maxRecDepth 100000

theorem snp_of_arg {H : Type} {enc : TypeId × Value → H} {w : World} {r : Reach} {b0 base : Nat} {spare : Nat → Bool} {held : Bool} {v : Value} {d : DataW H} {p : List MemPlace}
  (hv : Value.okWide Tryz.prog w r b0 28 v) (h : DataW.Trod enc Tryz.prog w base spare held 28 v d p) : ∃ x ca, v = .agg ca ∧ snS.is w ca.toList x := by
 obtain ⟨cs, x, rfl, hx⟩ := arg_struct Tryz.underlying28 opens_sn hv h
 exact ⟨x, cs, rfl, hx⟩
end Go.Proofs.YtnancdbkmompdaaGreat
