/-
  Graph: the finder goes back.
-/
import Derived.Test.YtlckjpjcfalfnaaGg
import Derived.StillTailTactics
import Derived.Deep.CutRange
import Derived.Lib.MinMax
namespace Go.Proofs.Ytlckjpjcfalfnaa
open Go.RowKit Go.Sort
open Go.WideMaps
set_option linter.unusedSimpArgs false
set_option linter.unusedVariables false
set_option maxRecDepth 100000

theorem below_drewNA {B : Nat} {w w' : World} (h : Below B w w') (n : Nat) : Below B w (w'.drewN n) :=
  ⟨h.os, h.tape, h.output, h.size, h.block⟩
def numOf (l : List (I3 × Nat)) (x : I3) : Nat := (getV l x).getD 0
theorem look_num (l : List (I3 × Nat)) (x : I3) : ((getV l x).map encN).getD (.int .i64 0) = encN (numOf l x) := by
  unfold numOf
  cases getV l x <;> rfl
theorem MV.num {w : World} {b : Nat} {l : List (I3 × Nat)} (h : MV encN w b l) (i1 i2 i3 : Int) (hx : okI (i1, i2, i3)) {n : Nat} (hn : numOf l (i1, i2, i3) = n) : (Instr.lookup 58 (.map (some b)) (.agg #[.int .i64 i1, .int .i64 i2, .int .i64 i3]) false).run Try.prog w = .ok (encN n) w := by
  have q := h.look (t := 58) Try.underlying58 (zeroInt w) (x := (i1, i2, i3)) hx
  rw [look_num, hn] at q
  exact q
end Go.Proofs.Ytlckjpjcfalfnaa
