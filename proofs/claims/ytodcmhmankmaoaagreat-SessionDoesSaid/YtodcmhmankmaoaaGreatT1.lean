/-
  Which commands are of members.
-/
import Derived.Test.YtodcmhmankmaoaaGreatJ6
namespace Go.Proofs.YtodcmhmankmaoaaGreat
namespace Tc
open Go.RowKit
set_option linter.unusedSimpArgs false
set_option linter.unusedVariables false

def ctl (o : Int) : Bool := decide (o = 7) || decide (o = 8) || decide (o = 9)
theorem control_any (cl sq op : Int) (pa va : ByteArray) (ver ca cb : Int) (w : World) :
    Calls Tryz.prog 49 #[.agg #[.int .i64 cl, .int .i64 sq, .int .i64 op, .string pa, .string va, .int .i64 ver, .int .i64 ca, .int .i64 cb]] w fun e w' => e = .returned (.bool (ctl op)) ∧ Below w.heap.size w w' := by
  by_cases h7 : op = 7
  · subst h7
    go_enter Tryz.func49, Tryz.ntmps49
    go_wp2
    go_ret
    exact ⟨rfl, (Below.refl _ _).alloc (Nat.le_refl _) _⟩
  · by_cases h8 : op = 8
    · subst h8
      go_enter Tryz.func49, Tryz.ntmps49
      go_wp2
      go_ret
      exact ⟨rfl, (Below.refl _ _).alloc (Nat.le_refl _) _⟩
    · by_cases h9 : op = 9
      · subst h9
        go_enter Tryz.func49, Tryz.ntmps49
        go_wp2
        go_ret
        exact ⟨rfl, (Below.refl _ _).alloc (Nat.le_refl _) _⟩
      · have e : ctl op = false := by unfold ctl; simp [h7, h8, h9]
        rw [e]
        have z7 : (op == 7) = false := by simpa using h7
        have z8 : (op == 8) = false := by simpa using h8
        have z9 : (op == 9) = false := by simpa using h9
        clear h7 h8 h9 e
        go_enter Tryz.func49, Tryz.ntmps49
        go_wp2
        go_ret
        exact ⟨rfl, (Below.refl _ _).alloc (Nat.le_refl _) _⟩
end Tc
end Go.Proofs.YtodcmhmankmaoaaGreat
