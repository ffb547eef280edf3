/-
  A command that came in, field by field.
-/
import Derived.Test.YtfngjdcagopapaaGreatAt3
namespace Go.Proofs.YtfngjdcagopapaaGreat
set_option linter.unusedSimpArgs false
set_option linter.unusedVariables false
set_option maxRecDepth 100000

theorem cmd_of_arg {H : Type} {enc : TypeId × Value → H} {w : World} {r : Reach} {b0 base : Nat} {spare : Nat → Bool} {held : Bool} {v : Value} {d : DataW H} {p : List MemPlace}
    (hv : Value.okWide Tryz.prog w r b0 27 v) (h : DataW.Trod enc Tryz.prog w base spare held 27 v d p) :
    ∃ (cl sq op : Int) (pa va : ByteArray) (ver a b : Int), v = .agg #[.int .i64 cl, .int .i64 sq, .int .i64 op, .string pa, .string va, .int .i64 ver, .int .i64 a, .int .i64 b] := by
  obtain ⟨cs, x, rfl, hx⟩ := arg_struct Tryz.underlying27 opens_cm hv h
  refine ⟨x.cl, x.sq, x.op, x.pa, x.va, x.ver, x.a, x.b, ?_⟩
  have hx : cs.toList = cmE x := hx
  cases cs
  simp at hx
  rw [hx]
  rfl
theorem kn_of_arg2 {H : Type} {enc : TypeId × Value → H} {w : World} {r : Reach} {b0 base : Nat} {spare : Nat → Bool} {held : Bool} {v : Value} {d : DataW H} {p : List MemPlace}
    (hv : Value.okWide Tryz.prog w r b0 43 v) (h : DataW.Trod enc Tryz.prog w base spare held 43 v d p) : ∃ (k : Kn) (u : Value), v = knV k u ∧ okI k.id ∧ IK.Rd w u k.a.2 ∧ okL k.a.2 := by
  obtain ⟨k, u, hv, h1, h2, h3⟩ := kn_of_arg hv h
  exact ⟨k, u, hv.trans (knV_eq k u).symm, h1, h2, h3⟩
end Go.Proofs.YtfngjdcagopapaaGreat
