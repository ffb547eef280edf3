/-
  A slice of things that came in, opened to its cells: each a number, or a text.
-/
import Derived.Test.YtipdlhaegkjchaaNumO
import Derived.ProofKit
import Derived.OpenShut
import Derived.Lib.SmallJoins
import Derived.Deep.Slices
import Derived.Deep.Fields
import Derived.ChangeSame
namespace Go.Proofs.Ytipdlhaegkjchaa
open Go.ChangeShapes Go.WideShapes Go.ChangeAt Go.RowKit Go.Joins Go.Deep
set_option linter.unusedSimpArgs false
set_option linter.unusedVariables false

section
variable {H : Type} {enc : TypeId × Value → H} {P : Program} {w : World} {base : Nat} {spare : Nat → Bool} {held : Bool}
theorem open_slice_fields {t e : TypeId} {fs : Array Field} {fuel : Nat} {cs : List Value} {x : DataW H × List MemPlace} (ht : P.underlying t = some (.slice e)) (he : P.underlying e = some (.struct fs))
    (hone : oneCellFields P fs = true) (hC : P.cellsOf e = fs.size) (h : DataW.trod enc P w base spare held fuel t cs = some x) :
    (cs = [.slice none 0 0] ∧ x = (.nil, [])) ∨
    ∃ (a : Addr) (len cap m : Nat) (D : Nat → DataW H) (Pl : Nat → List MemPlace), cs = [.slice (some a) len cap] ∧ base ≤ a.block ∧ len ≤ cap ∧ cap ≤ maxLen ∧ m = (if spare a.block then cap else len) ∧
      x = (.slice ((List.range len).map D) ((List.range (m - len)).map fun j => D (len + j)), MemPlace.row a (m * fs.size) ++ (List.range m).flatMap Pl) ∧
      ∀ i, i < m → ∃ (ys : List (DataW H × List MemPlace)) (n : Nat), D i = .agg (ys.map (·.1)) ∧ Pl i = ys.flatMap (·.2) ∧ ys.length = fs.size ∧
        ∀ (j : Nat) (f : Field), fs[j]? = some f → ∃ (v : Value) (y : DataW H × List MemPlace), w.cell? (a.add (i * fs.size + j)) = some v ∧ ys[j]? = some y ∧ DataW.trod enc P w base spare held n f.type [v] = some y := by
  rcases open_slice ht h with h0 | ⟨a, len, cap, m, n, D, Pl, hcs, hb, hl, hm, hmm, hx, hi⟩
  · exact .inl h0
  · refine .inr ⟨a, len, cap, m, D, Pl, hcs, hb, hl, hm, hmm, by rw [hC] at hx; exact hx, fun i him => ?_⟩
    obtain ⟨cs', hc, ht'⟩ := hi i him
    rw [hC] at hc
    obtain ⟨ys, n', hn', hy, hlen, hyl, hf⟩ := DataW.trod_struct he ht'
    obtain ⟨_, hcl, hat⟩ := World.cells?_some hc
    simp only [Prod.mk.injEq] at hy
    refine ⟨ys, n', hy.1, hy.2, hyl, fun j f hj => ?_⟩
    obtain ⟨ho, hk⟩ := hone_of hone j f hj
    have hjl : j < fs.size := (Array.getElem?_eq_some_iff.1 hj).1
    have hcell := hat j hjl
    have hv : cs'[j]? = some (cs'[j]'(by omega)) := List.getElem?_eq_getElem (by omega)
    have h1 := hf j f hj
    rw [ho, hk] at h1
    have hone' : (cs'.drop j).take 1 = [cs'[j]'(by omega)] := by
      rw [List.drop_eq_getElem_cons (by omega)]
      rfl
    rw [hone'] at h1
    have hys : ys[j]? = some (ys[j]'(by omega)) := List.getElem?_eq_getElem (by omega)
    refine ⟨_, _, ?_, hys, h1.trans hys⟩
    rw [← Go.Deep.add_add, hcell, hv]
end
/-- Things one by one make a list. -/
theorem list_of {α : Type} [Inhabited α] {Pr : Nat → α → Prop} : ∀ n, (∀ i, i < n → ∃ t, Pr i t) → ∃ ts : List α, ts.length = n ∧ ∀ i, i < n → Pr i (ts.getD i default)
  | 0, _ => ⟨[], rfl, fun i h => by omega⟩
  | n + 1, h => by
    obtain ⟨ts, h1, h2⟩ := list_of n (fun i hi => h i (by omega))
    obtain ⟨t, ht⟩ := h n (by omega)
    refine ⟨ts ++ [t], by simp [h1], fun i hi => ?_⟩
    by_cases q : i < n
    · have := h2 i q
      simpa [List.getD, List.getElem?_append, h1, q] using this
    · obtain rfl : i = n := by omega
      simpa [List.getD, List.getElem?_append, h1] using ht
/-- A thing: is it a text; the number; the text. -/
abbrev Th : Type := Bool × Int × ByteArray
instance : Inhabited Th := ⟨(false, 0, ByteArray.empty)⟩
/-- Things that can be read from an address. -/
def TRd (w : World) (a : Option Addr) (ts : List Th) : Prop :=
  ts.length ≤ 9223372036854775807 ∧ (ts = [] ∨ ∃ g off, a = some ⟨g, off, none⟩ ∧ g < w.heap.size ∧ ∀ i, i < ts.length → w.cell? ⟨g, off + i * 3, none⟩ = some (.bool (ts.getD i default).1) ∧ w.cell? ⟨g, off + i * 3 + 1, none⟩ = some (.int .i64 (ts.getD i default).2.1) ∧ w.cell? ⟨g, off + i * 3 + 2, none⟩ = some (.string (ts.getD i default).2.2))
theorem TRd.below {w w' : World} {a : Option Addr} {ts : List Th} (h : TRd w a ts) (hb : Below w.heap.size w w') : TRd w' a ts := by
  obtain ⟨h1, h2⟩ := h
  refine ⟨h1, ?_⟩
  rcases h2 with h2 | ⟨b, off, ha, hbl, hc⟩
  · exact .inl h2
  · exact .inr ⟨b, off, ha, by have := hb.size; omega, fun i hi => ⟨by rw [hb.cell (p := ⟨b, off + i * 3, none⟩) hbl]; exact (hc i hi).1, by rw [hb.cell (p := ⟨b, off + i * 3 + 1, none⟩) hbl]; exact (hc i hi).2.1, by rw [hb.cell (p := ⟨b, off + i * 3 + 2, none⟩) hbl]; exact (hc i hi).2.2⟩⟩
/-- What is known of each thing. -/
def ThOk (t : Th) : Prop := (Lit.int .i64 t.2.1).wf = true ∧ t.2.2.size ≤ maxLen
theorem block_lt_of_cell2 {w : World} {p : Addr} {v : Value} (h : w.cell? p = some v) (hs : p.spot = none) : p.block < w.heap.size := by
  by_cases g : p.block < w.heap.size
  · exact g
  · exfalso
    have e : w.heap[p.block]? = none := by simp; omega
    simp [World.cell?, hs, e] at h
theorem add_at (b o j : Nat) : (⟨b, o, none⟩ : Addr).add j = ⟨b, o + j, none⟩ := by unfold Addr.add; split <;> simp_all
theorem trow_of_arg {H : Type} {enc : TypeId × Value → H} {w : World} {r : Reach} {b0 base : Nat} {spare : Nat → Bool} {held : Bool} {v : Value} {d : DataW H} {p : List MemPlace}
    (hv : Value.okWide Try.prog w r b0 22 v) (h : DataW.Trod enc Try.prog w base spare held 22 v d p) : ∃ (a : Option Addr) (cap : Nat) (ts : List Th), v = .slice a ts.length cap ∧ cap ≤ maxLen ∧ TRd w a ts ∧ (∀ t ∈ ts, ThOk t) := by
  obtain ⟨a0, len0, cap0, rfl⟩ := okWide_slice Try.underlying22 hv
  obtain ⟨fuel, hf⟩ := h
  have hf2 : DataW.trod enc Try.prog w base spare held fuel 22 [.slice a0 len0 cap0] = some (d, p) := by simpa [Value.cells] using hf
  rcases open_slice_fields Try.underlying22 Try.underlying27 (by kernel_rfl) (by kernel_rfl) hf2 with ⟨hcs, _⟩ | ⟨x, len, cap, m, D, Pl, hcs, _, hl, hm, hmm, _, hi⟩
  · simp at hcs
    obtain ⟨rfl, rfl, rfl⟩ := hcs
    exact ⟨none, 0, [], rfl, by simp, ⟨by simp, .inl rfl⟩, by simp⟩
  · simp at hcs
    obtain ⟨rfl, rfl, rfl⟩ := hcs
    have hlm : len0 ≤ m := by rw [hmm]; split <;> omega
    have key : ∀ i, i < len0 → ∃ t : Th, w.cell? (x.add (i * 3 + 0)) = some (.bool t.1) ∧ w.cell? (x.add (i * 3 + 1)) = some (.int .i64 t.2.1) ∧ w.cell? (x.add (i * 3 + 2)) = some (.string t.2.2) ∧ ThOk t := by
      intro i hil
      obtain ⟨ys, n, _, _, _, hf⟩ := hi i (by omega)
      obtain ⟨v0, y0, c0, _, t0⟩ := hf 0 _ rfl
      obtain ⟨v1, y1, c1, _, t1⟩ := hf 1 _ rfl
      obtain ⟨v2, y2, c2, _, t2⟩ := hf 2 _ rfl
      obtain ⟨q0, e0, _⟩ := DataW.trod_bool Try.underlying4 t0
      obtain ⟨q1, e1, _, w1⟩ := DataW.trod_int Try.underlying3 t1
      obtain ⟨q2, e2, _, w2⟩ := DataW.trod_string Try.underlying9 t2
      simp at e0 e1 e2
      subst e0 e1 e2
      exact ⟨(q0, q1, q2), c0, c1, c2, w1, w2⟩
    obtain ⟨ts, hts, hp⟩ := list_of len0 key
    subst hts
    refine ⟨some x, cap0, ts, rfl, hm, ⟨by unfold maxLen at hm; omega, ?_⟩, ?_⟩
    · by_cases h0 : ts.length = 0
      · exact .inl (List.eq_nil_of_length_eq_zero h0)
      · right
        have hc0 := (hp 0 (by omega)).1
        obtain ⟨b, off, spot⟩ := x
        have hspot : spot = none := by simpa [Addr.add] using World.cell?_spot hc0
        subst hspot
        refine ⟨b, off, rfl, ?_, fun i hil => ?_⟩
        · exact block_lt_of_cell2 hc0 (by simp [Addr.add])
        · obtain ⟨p0, p1, p2, _⟩ := hp i hil
          refine ⟨?_, ?_, ?_⟩
          · rw [add_at] at p0; exact p0
          · rw [add_at] at p1; exact p1
          · rw [add_at] at p2; exact p2
    · intro t ht
      obtain ⟨i, hil, rfl⟩ := List.mem_iff_getElem.1 ht
      have := (hp i hil).2.2.2
      simpa [List.getD, hil] using this
end Go.Proofs.Ytipdlhaegkjchaa
