/-
  A slice of numbers that came in, opened to its cells; a configuration likewise.
-/
import Derived.Test.YtckjlglinmmohabBal2
import Derived.ProofKit
import Derived.OpenShut
import Derived.Lib.SmallJoins
namespace Go.Proofs.Ytckjlglinmmohab
open Go.ChangeShapes Go.WideShapes Go.ChangeAt Go.RowKit Go.Joins
set_option linter.unusedSimpArgs false
set_option linter.unusedVariables false

theorem block_lt_of_cell {w : World} {p : Addr} {v : Value} (h : w.cell? p = some v) (hs : p.spot = none) : p.block < w.heap.size := by
  by_cases g : p.block < w.heap.size
  · exact g
  · exfalso
    have e : w.heap[p.block]? = none := by simp; omega
    simp [World.cell?, hs, e] at h

theorem irow_of_trod {H : Type} {enc : TypeId × Value → H} {w : World} {base m : Nat} {spare : Nat → Bool} {held : Bool} {v : Value} {y : DataW H × List MemPlace}
    (h : DataW.trod enc Try.prog w base spare held m 52 [v] = some y) : ∃ (a : Option Addr) (cap : Nat) (zs : List Int), v = .slice a zs.length cap ∧ zs.length ≤ cap ∧ cap ≤ maxLen ∧ IRow w a zs ∧ (∀ n ∈ zs, (Lit.int .i64 n).wf = true) ∧ (a = none → cap = 0) := by
  rcases open_ints Try.underlying52 Try.underlying3 (by kernel_rfl) h with ⟨hcs, _⟩ | ⟨x, len, cap, zs, hcs, _, hl, hm, hz, _, hcell, hwz⟩
  · simp at hcs
    exact ⟨none, 0, [], hcs, Nat.le_refl _, Nat.zero_le _, ⟨by simp, .inl rfl⟩, by simp, fun _ => rfl⟩
  · simp at hcs
    have hlz : len ≤ zs.length := by rw [hz]; split <;> omega
    have e : (zs.take len).length = len := by simp; omega
    refine ⟨some x, cap, zs.take len, by rw [e]; exact hcs, by rw [e]; exact hl, hm, ⟨by rw [e]; unfold maxLen at hm; omega, ?_⟩, fun n hn => hwz n (List.mem_of_mem_take hn), fun h => by cases h⟩
    by_cases h0 : len = 0
    · left; subst h0; rfl
    · right
      have hc0 := hcell 0 (by omega)
      obtain ⟨b, off, spot⟩ := x
      have hspot : spot = none := by simpa [Addr.add] using World.cell?_spot hc0
      subst hspot
      refine ⟨b, off, rfl, ?_, fun i hi => ?_⟩
      · exact block_lt_of_cell hc0 (by simp [Addr.add])
      · have hi' : i < len := by rw [e] at hi; exact hi
        have := hcell i (by omega)
        rw [show (zs.take len).getD i 0 = zs.getD i 0 from by simp [List.getD, List.getElem?_take, hi']]
        by_cases hi0 : i = 0
        · subst hi0; simpa [Addr.add] using this
        · simpa [Addr.add, hi0] using this
theorem irow_of_arg {H : Type} {enc : TypeId × Value → H} {w : World} {r : Reach} {b0 base : Nat} {spare : Nat → Bool} {held : Bool} {v : Value} {d : DataW H} {p : List MemPlace}
    (hv : Value.okWide Try.prog w r b0 52 v) (h : DataW.Trod enc Try.prog w base spare held 52 v d p) : ∃ (a : Option Addr) (cap : Nat) (zs : List Int), v = .slice a zs.length cap ∧ zs.length ≤ cap ∧ cap ≤ maxLen ∧ IRow w a zs ∧ (∀ n ∈ zs, (Lit.int .i64 n).wf = true) ∧ (a = none → cap = 0) := by
  obtain ⟨a0, len0, cap0, rfl⟩ := okWide_slice Try.underlying52 hv
  obtain ⟨fuel, hf⟩ := h
  exact irow_of_trod (by simpa [Value.cells] using hf)
theorem config_of_arg {H : Type} {enc : TypeId × Value → H} {w : World} {r : Reach} {b0 base : Nat} {spare : Nat → Bool} {held : Bool} {v : Value} {d : DataW H} {p : List MemPlace}
    (hv : Value.okWide Try.prog w r b0 54 v) (h : DataW.Trod enc Try.prog w base spare held 54 v d p) :
    ∃ (ep : Int) (a : Option Addr) (cap : Nat) (zs : List Int), v = .agg #[.int .i64 ep, .slice a zs.length cap] ∧ (Lit.int .i64 ep).wf = true ∧ zs.length ≤ cap ∧ cap ≤ maxLen ∧ IRow w a zs ∧ (∀ n ∈ zs, (Lit.int .i64 n).wf = true) ∧ (a = none → cap = 0) := by
  obtain ⟨c0, c1, y0, y1, m, rfl, _, _, hy0, hy1⟩ := open_agg2 Try.underlying54 (by kernel_rfl) (by kernel_rfl) hv h
  obtain ⟨ep, e0, _, we⟩ := DataW.trod_int Try.underlying3 hy0
  obtain ⟨a, cap, zs, hzs, r1, r2, r3, r4⟩ := irow_of_trod hy1
  simp at e0
  subst e0 hzs
  exact ⟨ep, a, cap, zs, rfl, we, r1, r2, r3, r4⟩
end Go.Proofs.Ytckjlglinmmohab
