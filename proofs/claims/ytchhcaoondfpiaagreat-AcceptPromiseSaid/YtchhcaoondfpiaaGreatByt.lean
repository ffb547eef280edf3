/-
  Rows of bytes that can be read, and texts made of them: for whatever program.
-/
import Derived.Test.YtchhcaoondfpiaaGreatRows
import Derived.WalkKit
import Derived.WalkSpells
import Derived.WalkLawsBesides
import Derived.StillTactics
import Derived.Laws.Pointers
import Derived.LoopTactic
import Derived.Deep.QuietTactic
import Derived.BigQuiet
import Derived.Lib.Hide
import Derived.Outline
import Derived.Laws.AppendOwnNone
import Derived.Lib.AppendStr
import Derived.Laws.IdiomStrings
namespace Go.Proofs.YtchhcaoondfpiaaGreat
open Go.RowKit
set_option linter.unusedSimpArgs false
set_option linter.unusedVariables false

theorem ret_str {a b : ByteArray} (h : a = b) : Ending.returned (.string a) = .returned (.string b) := by rw [h]
theorem ret_bool {a b : Bool} (h : a = b) : Ending.returned (.bool a) = .returned (.bool b) := by rw [h]
/-- Bytes that can be read from an address. -/
def BRd (w : World) (a : Option Addr) (xs : List Int) : Prop :=
  xs.length ≤ 9223372036854775807 ∧ (xs = [] ∨ ∃ g off, a = some ⟨g, off, none⟩ ∧ g < w.heap.size ∧ ∀ i, i < xs.length → w.cell? ⟨g, off + i, none⟩ = some (.int .u8 (xs.getD i 0)))
theorem BRd.below {w w' : World} {a : Option Addr} {xs : List Int} (h : BRd w a xs) (hb : Below w.heap.size w w') : BRd w' a xs := by
  obtain ⟨h1, h2⟩ := h
  refine ⟨h1, ?_⟩
  rcases h2 with h2 | ⟨b, off, ha, hbl, hc⟩
  · exact .inl h2
  · exact .inr ⟨b, off, ha, by have := hb.size; omega, fun i hi => by rw [hb.cell (p := ⟨b, off + i, none⟩) hbl]; exact hc i hi⟩
/-- How a slice's address and capacity fit its bytes. -/
def Fits (a : Option Addr) (xs : List Int) (cap : Nat) : Prop := (a = none → cap = 0) ∧ xs.length ≤ cap ∧ cap ≤ 9223372036854775807 ∧ ∀ x, a = some x → x.spot = none
/-- A slice of bytes. -/
structure Bt (w : World) (v : Value) (xs : List Int) : Prop where
  row : ∃ a cap, v = .slice a xs.length cap ∧ BRd w a xs ∧ Fits a xs cap
theorem Bt.below {w w' : World} {v : Value} {xs : List Int} (h : Bt w v xs) (hb : Below w.heap.size w w') : Bt w' v xs := by
  obtain ⟨a, cap, e, h1, h2⟩ := h.row
  exact ⟨a, cap, e, h1.below hb, h2⟩
theorem Bt.nil (w : World) : Bt w (.slice none 0 0) [] := ⟨none, 0, rfl, ⟨by simp, .inl rfl⟩, fun _ => rfl, by simp, by omega, fun x h => by cases h⟩
theorem Bt.len {w : World} {v : Value} {xs : List Int} (h : Bt w v xs) : xs.length ≤ 9223372036854775807 := by
  obtain ⟨a, cap, e, h1, h2⟩ := h.row
  exact h1.1
/-- Of what makes memory alone: what was there stays. -/
theorem below_self {w w1 w2 : World} (h : Below w.heap.size w w1) (k : Below w1.heap.size w1 w2) : Below w.heap.size w w2 := h.trans (k.mono h.size)

section
variable {P : Program}
end
end Go.Proofs.YtchhcaoondfpiaaGreat

