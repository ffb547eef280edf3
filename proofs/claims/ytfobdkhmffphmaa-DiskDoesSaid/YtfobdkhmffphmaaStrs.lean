/-
  A slice of texts that came in, opened to its cells.
-/
import Derived.Test.YtfobdkhmffphmaaByt
import Derived.ProofKit
import Derived.OpenShut
import Derived.Lib.SmallJoins
import Derived.Deep.Slices
namespace Go.Proofs.Ytfobdkhmffphmaa
open Go.ChangeShapes Go.WideShapes Go.ChangeAt Go.RowKit Go.Joins Go.Deep
set_option linter.unusedSimpArgs false
set_option linter.unusedVariables false

/-- Things one by one make a list. -/
theorem list_of {α : Type} {dflt : α} {Pr : Nat → α → Prop} : ∀ n, (∀ i, i < n → ∃ t, Pr i t) → ∃ ts : List α, ts.length = n ∧ ∀ i, i < n → Pr i (ts.getD i dflt)
  | 0, _ => ⟨[], rfl, fun i h => by omega⟩
  | n + 1, h => by
    obtain ⟨ts, h1, h2⟩ := list_of (dflt := dflt) n (fun i hi => h i (by omega))
    obtain ⟨t, ht⟩ := h n (by omega)
    refine ⟨ts ++ [t], by simp [h1], fun i hi => ?_⟩
    by_cases q : i < n
    · have := h2 i q
      simpa [List.getD, List.getElem?_append, h1, q] using this
    · obtain rfl : i = n := by omega
      simpa [List.getD, List.getElem?_append, h1] using ht
/-- Texts that can be read from an address. -/
def SRd (w : World) (a : Option Addr) (ss : List ByteArray) : Prop :=
  ss.length ≤ 9223372036854775807 ∧ (ss = [] ∨ ∃ g off, a = some ⟨g, off, none⟩ ∧ g < w.heap.size ∧ ∀ i, i < ss.length → w.cell? ⟨g, off + i, none⟩ = some (.string (ss.getD i ByteArray.empty)))
theorem SRd.below {w w' : World} {a : Option Addr} {ss : List ByteArray} (h : SRd w a ss) (hb : Below w.heap.size w w') : SRd w' a ss := by
  obtain ⟨h1, h2⟩ := h
  refine ⟨h1, ?_⟩
  rcases h2 with h2 | ⟨b, off, ha, hbl, hc⟩
  · exact .inl h2
  · exact .inr ⟨b, off, ha, by have := hb.size; omega, fun i hi => by rw [hb.cell (p := ⟨b, off + i, none⟩) hbl]; exact hc i hi⟩
theorem SRd.cell {w : World} {a : Option Addr} {ss : List ByteArray} (h : SRd w a ss) (k : Nat) (hk : k < ss.length) : ∃ g off, a = some ⟨g, off, none⟩ ∧ g < w.heap.size ∧ w.cell? ⟨g, off + k, none⟩ = some (.string (ss.getD k ByteArray.empty)) := by
  rcases h.2 with h0 | ⟨g, off, ha, hg, hc⟩
  · subst h0; simp at hk
  · exact ⟨g, off, ha, hg, hc k hk⟩
theorem block_lt_of_cell2 {w : World} {p : Addr} {v : Value} (h : w.cell? p = some v) (hs : p.spot = none) : p.block < w.heap.size := by
  by_cases g : p.block < w.heap.size
  · exact g
  · exfalso
    have e : w.heap[p.block]? = none := by simp; omega
    simp [World.cell?, hs, e] at h
theorem add_at (b o j : Nat) : (⟨b, o, none⟩ : Addr).add j = ⟨b, o + j, none⟩ := by unfold Addr.add; split <;> simp_all
theorem cellsStr : Try.prog.cellsOf 9 = 1 := by kernel_rfl
theorem srow_of_arg {H : Type} {enc : TypeId × Value → H} {w : World} {r : Reach} {b0 base : Nat} {spare : Nat → Bool} {held : Bool} {v : Value} {d : DataW H} {p : List MemPlace}
    (hv : Value.okWide Try.prog w r b0 36 v) (h : DataW.Trod enc Try.prog w base spare held 36 v d p) : ∃ (a : Option Addr) (cap : Nat) (ss : List ByteArray), v = .slice a ss.length cap ∧ ss.length ≤ cap ∧ cap ≤ maxLen ∧ SRd w a ss ∧ (∀ s ∈ ss, s.size ≤ maxLen) := by
  obtain ⟨a0, len0, cap0, rfl⟩ := okWide_slice Try.underlying36 hv
  obtain ⟨fuel, hf⟩ := h
  have hf2 : DataW.trod enc Try.prog w base spare held fuel 36 [.slice a0 len0 cap0] = some (d, p) := by simpa [Value.cells] using hf
  rcases open_slice Try.underlying36 hf2 with ⟨hcs, _⟩ | ⟨x, len, cap, m, n, D, Pl, hcs, _, hl, hm, hmm, _, hi⟩
  · simp at hcs
    obtain ⟨rfl, rfl, rfl⟩ := hcs
    exact ⟨none, 0, [], rfl, by simp, by simp, ⟨by simp, .inl rfl⟩, by simp⟩
  · simp at hcs
    obtain ⟨rfl, rfl, rfl⟩ := hcs
    have hlm : len0 ≤ m := by rw [hmm]; split <;> omega
    have key : ∀ i, i < len0 → ∃ s : ByteArray, w.cell? (x.add i) = some (.string s) ∧ s.size ≤ maxLen := by
      intro i hil
      obtain ⟨cs', hc, ht'⟩ := hi i (by omega)
      rw [cellsStr, Nat.mul_one] at hc
      obtain ⟨_, hcl, hat⟩ := World.cells?_some hc
      match cs', hcl, hat, ht' with
      | [c], _, hat, ht' =>
        obtain ⟨q2, e2, _, w2⟩ := DataW.trod_string Try.underlying9 ht'
        simp at e2
        subst e2
        have := hat 0 (by decide)
        exact ⟨q2, by simpa [Addr.add] using this, w2⟩
    obtain ⟨ss, hss, hp⟩ := list_of (dflt := ByteArray.empty) len0 key
    subst hss
    refine ⟨some x, cap0, ss, rfl, hl, hm, ⟨by unfold maxLen at hm; omega, ?_⟩, ?_⟩
    · by_cases h0 : ss.length = 0
      · exact .inl (List.eq_nil_of_length_eq_zero h0)
      · right
        have hc0 := (hp 0 (by omega)).1
        obtain ⟨b, off, spot⟩ := x
        have hspot : spot = none := by simpa [Addr.add] using World.cell?_spot hc0
        subst hspot
        refine ⟨b, off, rfl, ?_, fun i hil => ?_⟩
        · exact block_lt_of_cell2 hc0 (by simp [Addr.add])
        · have p0 := (hp i hil).1
          rw [add_at] at p0; exact p0
    · intro s q
      obtain ⟨i, hi1, hi2⟩ := List.getElem_of_mem q
      have := (hp i hi1).2
      rw [show ss.getD i ByteArray.empty = s from by simp [List.getD, hi1, hi2]] at this
      exact this
end Go.Proofs.Ytfobdkhmffphmaa
