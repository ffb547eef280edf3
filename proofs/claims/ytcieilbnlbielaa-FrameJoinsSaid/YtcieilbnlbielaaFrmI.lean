/-
  The walk of FrameJoins.
-/
import Derived.Test.YtcieilbnlbielaaFrmB
import Derived.Lib.AppendStr
namespace Go.Proofs.Ytcieilbnlbielaa
open Go.RowKit Go.ChangeShapes Go.WideShapes Go.ChangeAt Go.Joins Go.Deep
set_option linter.unusedSimpArgs false
set_option linter.unusedVariables false

theorem srow_of_arg2 {H : Type} {enc : TypeId × Value → H} {w : World} {r : Reach} {b0 base : Nat} {spare : Nat → Bool} {held : Bool} {v : Value} {d : DataW H} {p : List MemPlace}
    (hv : Value.okWide Try.prog w r b0 36 v) (h : DataW.Trod enc Try.prog w base spare held 36 v d p) : ∃ (a : Option Addr) (cap : Nat) (ss : List ByteArray), v = .slice a ss.length cap ∧ ss.length ≤ cap ∧ cap ≤ maxLen ∧ (SRd w a ss ∧ (a = none → cap = 0)) ∧ (∀ s ∈ ss, s.size ≤ maxLen) := by
  obtain ⟨a, cap, ss, rfl, h1, h2, h3, h4⟩ := srow_of_arg hv h
  refine ⟨a, cap, ss, rfl, h1, h2, ⟨h3, ?_⟩, h4⟩
  rintro rfl
  obtain ⟨fuel, hf⟩ := h
  have hf2 : DataW.trod enc Try.prog w base spare held fuel 36 [.slice none ss.length cap] = some (d, p) := by simpa [Value.cells] using hf
  rcases open_slice Try.underlying36 hf2 with ⟨hcs, _⟩ | ⟨x, len, cp, m, n, D, Pl, hcs, _⟩
  · simp at hcs; exact hcs.2
  · simp at hcs
section
variable {ops : Array Oper} {rest : List Oper} {o : Oper} {a : Act} {w : World} {Q : Exit → Act → World → Prop}
/-- 'append(b, s...)', b bytes of one's own, s a text. -/
theorem wpList_appStr (hgd : o.guard = none) (s x : Operand) (ho : o.op = .call { callee := .builtin .append, args := #[s, x], argTypes := #[23, 9] })
    (base : Nat) (v : Value) (xs : List Int) (hs : a.eval s = v) (hown : Own8 w base v xs) (t : ByteArray) (hx : a.eval x = .string t) (hl : xs.length + t.size ≤ 100000000000) (hbase : base ≤ w.heap.size)
    (h : ∀ v' w', Own8 w' base v' (xs ++ byt t) → Below base w w' → w.heap.size ≤ w'.heap.size → wpList Try.prog ops Q rest (a.put o.dst v') w') : wpList Try.prog ops Q (o :: rest) a w := by
  obtain ⟨i0, hi, hz0, hz1, hz2⟩ := info_parts info8
  refine Lib.wpList_append_own_string _ hgd s x 23 9 ho base 5 i0 Try.underlying23 Try.underlying9 hi hz0 hz1 hz2 v xs.length (u8v xs) hs hown t hx (by unfold maxLen; omega) (by omega) hbase ?_
  intro v' w' q1 q2 _
  refine h v' w' ?_ ((Below.refl base w).grown q2 hbase (own8_from hown)) q2.size
  unfold Own8
  rw [byt_cells] at q1
  rw [List.length_append, byt_length]
  have e : u8v (xs ++ byt t) = u8v xs ++ u8v (byt t) := by simp [u8v]
  rw [e]; exact q1
/-- 'append(l, x...)' of texts, l a row of one's own. -/
theorem wpList_appS (hgd : o.guard = none) (s x : Operand) (ho : o.op = .call { callee := .builtin .append, args := #[s, x], argTypes := #[36, 36] })
    (base : Nat) (v : Value) (vs : List ByteArray) (hs : a.eval s = v) (hown : Own1 w base 9 v (vs.map .string)) (ad : Option Addr) (cap : Nat) (ss : List ByteArray) (hx : a.eval x = .slice ad ss.length cap) (hy : SRd w ad ss) (hc : ad = none → cap = 0)
    (hl : vs.length + ss.length ≤ 1000000) (hbase : base ≤ w.heap.size)
    (h : ∀ v' w', Own1 w' base 9 v' ((vs ++ ss).map .string) → Below base w w' → w.heap.size ≤ w'.heap.size → wpList Try.prog ops Q rest (a.put o.dst v') w') : wpList Try.prog ops Q (o :: rest) a w := by
  obtain ⟨i0, hi, hz0, hz1, hz2⟩ := info_parts infoStr
  have hown' : w.ownsRow base 9 1 v vs.length (vs.map .string) := by have := hown; unfold Own1 at this; rw [List.length_map] at this; exact this
  cases ad with
  | none =>
    have hss : ss = [] := by
      rcases hy.2 with h0 | ⟨g, off, ha, _⟩
      · exact h0
      · cases ha
    subst hss
    obtain rfl := hc rfl
    refine wpList_append_own_none hgd s x 36 ho base 9 i0 1 Try.underlying36 hi v vs.length (vs.map .string) hs hown' hx ?_
    have := h v w (by simpa using hown) (Below.refl _ _) (Nat.le_refl _)
    exact this
  | some ad =>
    refine wpList_append_own _ hgd s x 36 ho base 9 i0 (.string ByteArray.empty) 1 16 Try.underlying36 hi hz0 hz1 hz2 rfl (by decide) v vs.length (vs.map .string) hs hown' ad ss.length cap (ss.map .string) hx (by simp) ?_ (by intro u hu; simp at hu; obtain ⟨z, _, rfl⟩ := hu; rfl) (by unfold maxLen; omega) (by omega) hbase ?_
    · intro j u hu
      rcases hy.2 with h0 | ⟨b, off, ha, _, hcl⟩
      · subst h0; simp at hu
      · cases ha
        have hj : j < ss.length := by
          have := (List.getElem?_eq_some_iff.1 hu).1
          simpa using this
        have e : u = .string (ss.getD j ByteArray.empty) := by
          simp [hj] at hu; simp [List.getD, hj, ← hu]
        rw [e, add_at]
        exact hcl j hj
    · intro v' w' q1 q2 _
      refine h v' w' ?_ ((Below.refl base w).grown q2 hbase (own1_from hown)) q2.size
      unfold Own1
      rw [List.length_map, List.length_append, List.map_append]
      exact q1
end
theorem srd_of_own {w : World} {base : Nat} {v : Value} {ss : List ByteArray} (h : Own1 w base 9 v (ss.map .string)) (hl : ss.length ≤ 1000000) : ∃ a c, v = .slice a ss.length c ∧ SRd w a ss := by
  obtain ⟨a, c, e⟩ := h.slice
  rw [List.length_map] at e
  refine ⟨a, c, e, by omega, ?_⟩
  by_cases h0 : ss = []
  · exact .inl h0
  right
  have hpos : 0 < ss.length := List.length_pos_iff.2 h0
  obtain ⟨g, c', e', hg, _⟩ := h.cell 0 (by simpa using hpos)
  rw [e] at e'
  simp only [Value.slice.injEq] at e'
  obtain ⟨rfl, _, rfl⟩ := e'
  refine ⟨g, 0, rfl, hg, fun i hi => ?_⟩
  obtain ⟨g2, c2, e2, _, hc⟩ := h.cell i (by simpa using hi)
  rw [e] at e2
  simp only [Value.slice.injEq, Option.some.injEq, Addr.mk.injEq] at e2
  obtain ⟨⟨rfl, _, _⟩, _, _⟩ := e2
  rw [Nat.zero_add, hc]
  simp [List.getD, hi]
theorem good_append {A B : List (List Int)} (h1 : GoodL A) (h2 : GoodL B) : GoodL (A ++ B) := fun X q => (List.mem_append.1 q).elim (h1 X) (h2 X)
end Go.Proofs.Ytcieilbnlbielaa
