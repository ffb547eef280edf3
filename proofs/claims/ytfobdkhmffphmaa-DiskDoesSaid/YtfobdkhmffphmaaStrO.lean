/-
  Rows of texts: those that came in, cut, and those of one's own.
-/
import Derived.Test.YtfobdkhmffphmaaFrmQ
import Derived.Laws.AppendOwnNone
namespace Go.Proofs.Ytfobdkhmffphmaa
open Go.RowKit Go.ChangeShapes Go.WideShapes Go.ChangeAt Go.Joins Go.Deep
set_option linter.unusedSimpArgs false
set_option linter.unusedVariables false

set_option linter.unusedSimpArgs false
set_option linter.unusedVariables false

theorem srow_of_arg2 {H : Type} {enc : TypeId × Value → H} {w : World} {r : Reach} {b0 base : Nat} {spare : Nat → Bool} {held : Bool} {v : Value} {d : DataW H} {p : List MemPlace}
    (hv : Value.okWide Try.prog w r b0 36 v) (h : DataW.Trod enc Try.prog w base spare held 36 v d p) : ∃ (a : Option Addr) (cap : Nat) (ss : List ByteArray), v = .slice a ss.length cap ∧ ss.length ≤ cap ∧ cap ≤ maxLen ∧ (SRd w a ss ∧ (a = none → cap = 0)) ∧ (∀ s ∈ ss, s.size ≤ maxLen) := by
  obtain ⟨a, cap, ss, rfl, h1, h2, h3, h4⟩ := srow_of_arg hv h
  refine ⟨a, cap, ss, rfl, h1, h2, ⟨h3, ?_⟩, h4⟩
  rintro rfl
  obtain ⟨fuel, hf⟩ := h
  have hf2 : DataW.trod enc Try.prog w base spare held fuel 36 [.slice none ss.length cap] = some (d, p) := by simpa [Value.cells] using hf
  rcases open_slice Try.underlying36 hf2 with ⟨hcs, _⟩ | ⟨x, len, cp, m, n, D, Pl, hcs, _⟩
  · simp at hcs; exact hcs.2
  · simp at hcs
theorem infoStr : (Try.prog.info? 9).map (fun i => (i.zero, i.size, i.bytes)) = some (some (.string ByteArray.empty), 1, 16) := by kernel_rfl
section
variable {ops : Array Oper} {rest : List Oper} {o : Oper} {a : Act} {w : World} {Q : Exit → Act → World → Prop}
/-- 'append(l, x...)' of texts, l a row of one's own. -/
theorem wpList_appS (hgd : o.guard = none) (s x : Operand) (ho : o.op = .call { callee := .builtin .append, args := #[s, x], argTypes := #[36, 36] })
    (base : Nat) (v : Value) (vs : List ByteArray) (hs : a.eval s = v) (hown : Own1 w base 9 v (vs.map .string)) (ad : Option Addr) (cap : Nat) (ss : List ByteArray) (hx : a.eval x = .slice ad ss.length cap) (hy : SRd w ad ss) (hc : ad = none → cap = 0)
    (hl : vs.length + ss.length ≤ 1000000) (hbase : base ≤ w.heap.size)
    (h : ∀ v' w', Own1 w' base 9 v' ((vs ++ ss).map .string) → Below base w w' → w.heap.size ≤ w'.heap.size → wpList Try.prog ops Q rest (a.put o.dst v') w') : wpList Try.prog ops Q (o :: rest) a w := by
  obtain ⟨i0, hi, hz0, hz1, hz2⟩ := info_parts infoStr
  have hown' : w.ownsRow base 9 1 v vs.length (vs.map .string) := by have := hown; unfold Own1 at this; rw [List.length_map] at this; exact this
  cases ad with
  | none =>
    have hss : ss = [] := by
      rcases hy.2 with h0 | ⟨g, off, ha, _⟩
      · exact h0
      · cases ha
    subst hss
    obtain rfl := hc rfl
    refine wpList_append_own_none hgd s x 36 ho base 9 i0 1 Try.underlying36 hi v vs.length (vs.map .string) hs hown' hx ?_
    have := h v w (by simpa using hown) (Below.refl _ _) (Nat.le_refl _)
    exact this
  | some ad =>
    refine wpList_append_own _ hgd s x 36 ho base 9 i0 (.string ByteArray.empty) 1 16 Try.underlying36 hi hz0 hz1 hz2 rfl (by decide) v vs.length (vs.map .string) hs hown' ad ss.length cap (ss.map .string) hx (by simp) ?_ (by intro u hu; simp at hu; obtain ⟨z, _, rfl⟩ := hu; rfl) (by unfold maxLen; omega) (by omega) hbase ?_
    · intro j u hu
      rcases hy.2 with h0 | ⟨b, off, ha, _, hcl⟩
      · subst h0; simp at hu
      · cases ha
        have hj : j < ss.length := by
          have := (List.getElem?_eq_some_iff.1 hu).1
          simpa using this
        have e : u = .string (ss.getD j ByteArray.empty) := by
          simp [hj] at hu; simp [List.getD, hj, ← hu]
        rw [e, add_at]
        exact hcl j hj
    · intro v' w' q1 q2 _
      refine h v' w' ?_ ((Below.refl base w).grown q2 hbase (own1_from hown)) q2.size
      unfold Own1
      rw [List.length_map, List.length_append, List.map_append]
      exact q1
end
theorem srd_of_own {w : World} {base : Nat} {v : Value} {ss : List ByteArray} (h : Own1 w base 9 v (ss.map .string)) (hl : ss.length ≤ 1000000) : ∃ a c, v = .slice a ss.length c ∧ SRd w a ss := by
  obtain ⟨a, c, e⟩ := h.slice
  rw [List.length_map] at e
  refine ⟨a, c, e, by omega, ?_⟩
  by_cases h0 : ss = []
  · exact .inl h0
  right
  have hpos : 0 < ss.length := List.length_pos_iff.2 h0
  obtain ⟨g, c', e', hg, _⟩ := h.cell 0 (by simpa using hpos)
  rw [e] at e'
  simp only [Value.slice.injEq] at e'
  obtain ⟨rfl, _, rfl⟩ := e'
  refine ⟨g, 0, rfl, hg, fun i hi => ?_⟩
  obtain ⟨g2, c2, e2, _, hc⟩ := h.cell i (by simpa using hi)
  rw [e] at e2
  simp only [Value.slice.injEq, Option.some.injEq, Addr.mk.injEq] at e2
  obtain ⟨⟨rfl, _, _⟩, _, _⟩ := e2
  rw [Nat.zero_add, hc]
  simp [List.getD, hi]
/-- 's[:n]' of texts that came in. -/
theorem srd_cut {w : World} {a : Option Addr} {c : Nat} {ss : List ByteArray} (h : SRd w a ss) (n : Nat) (hn : n ≤ ss.length) : SRd w a (ss.take n) := by
  refine ⟨by simp; have := h.1; omega, ?_⟩
  rcases h.2 with h0 | ⟨g, off, ha, hg, hc⟩
  · exact .inl (by rw [h0]; simp)
  · by_cases z : ss.take n = []
    · exact .inl z
    · refine .inr ⟨g, off, ha, hg, fun i hi => ?_⟩
      have hi' : i < n ∧ i < ss.length := by simp at hi; omega
      rw [hc i hi'.2]
      simp [List.getD, List.getElem?_take, hi'.1]
end Go.Proofs.Ytfobdkhmffphmaa
