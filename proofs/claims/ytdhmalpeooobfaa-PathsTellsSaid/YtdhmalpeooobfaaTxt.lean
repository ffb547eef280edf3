/-
  Rows of texts, those that came in and those of one's own.
-/
import Derived.Test.YtdhmalpeooobfaaStrs
import Derived.Test.YtdhmalpeooobfaaArr
import Derived.Laws.AppendOwnNone
namespace Go.Proofs.Ytdhmalpeooobfaa
open Go.RowKit Go.ChangeShapes Go.WideShapes Go.ChangeAt Go.Joins Go.Deep
set_option linter.unusedSimpArgs false
set_option linter.unusedVariables false

theorem srow_of_arg2 {H : Type} {enc : TypeId × Value → H} {w : World} {r : Reach} {b0 base : Nat} {spare : Nat → Bool} {held : Bool} {v : Value} {d : DataW H} {p : List MemPlace}
    (hv : Value.okWide Try.prog w r b0 25 v) (h : DataW.Trod enc Try.prog w base spare held 25 v d p) : ∃ (a : Option Addr) (cap : Nat) (ss : List ByteArray), v = .slice a ss.length cap ∧ ss.length ≤ cap ∧ cap ≤ maxLen ∧ (SRd w a ss ∧ (a = none → cap = 0)) ∧ (∀ s ∈ ss, s.size ≤ maxLen) := by
  obtain ⟨a, cap, ss, rfl, h1, h2, h3, h4⟩ := srow_of_arg hv h
  refine ⟨a, cap, ss, rfl, h1, h2, ⟨h3, ?_⟩, h4⟩
  rintro rfl
  obtain ⟨fuel, hf⟩ := h
  have hf2 : DataW.trod enc Try.prog w base spare held fuel 25 [.slice none ss.length cap] = some (d, p) := by simpa [Value.cells] using hf
  rcases open_slice Try.underlying25 hf2 with ⟨hcs, _⟩ | ⟨x, len, cp, m, n, D, Pl, hcs, _⟩
  · simp at hcs; exact hcs.2
  · simp at hcs
/-- An own row of values, each a cell. -/
def Own1 (w : World) (base e : Nat) (v : Value) (vs : List Value) : Prop := w.ownsRow base e 1 v vs.length vs
theorem own1_from {w : World} {base e : Nat} {v : Value} {vs : List Value} (h : Own1 w base e v vs) : ∀ k, v.ownBlock = some k → base ≤ k := by
  intro k hk
  rcases h.2 with ⟨rfl, _⟩ | ⟨g, cap, cur, rfl, hg, _⟩
  · cases hk
  · simp [Value.ownBlock] at hk; omega
theorem Own1.nil (w : World) (base e : Nat) : Own1 w base e (.slice none 0 0) [] := ⟨rfl, .inl ⟨rfl, rfl⟩⟩
theorem Own1.slice {w : World} {base e : Nat} {v : Value} {vs : List Value} (h : Own1 w base e v vs) : ∃ a c, v = .slice a vs.length c := by
  rcases h.2 with ⟨rfl, h0⟩ | ⟨g, cap, cur, rfl, _⟩
  · exact ⟨_, _, by rw [h0]⟩
  · exact ⟨_, _, rfl⟩
theorem Own1.below {w w' : World} {base e : Nat} {v : Value} {vs : List Value} (h : Own1 w base e v vs) (hb : Below w.heap.size w w') : Own1 w' base e v vs := by
  obtain ⟨h1, h2⟩ := h
  refine ⟨h1, ?_⟩
  rcases h2 with h2 | ⟨g, cap, cur, hv, hg, hh, hr⟩
  · exact .inl h2
  · exact .inr ⟨g, cap, cur, hv, hg, (hb.block g (Array.getElem?_eq_some_iff.1 hh).1).trans hh, hr⟩
theorem Own1.cell {w : World} {base e : Nat} {v : Value} {vs : List Value} (h : Own1 w base e v vs) (k : Nat) (hk : k < vs.length) : ∃ g c, v = .slice (some ⟨g, 0, none⟩) vs.length c ∧ g < w.heap.size ∧ w.cell? ⟨g, k, none⟩ = some (vs.getD k undef) := by
  rcases h.2 with ⟨rfl, h0⟩ | ⟨g, cap, cur, rfl, hg, hh, hn, hm, hs, hx⟩
  · omega
  · refine ⟨g, cap, rfl, (Array.getElem?_eq_some_iff.1 hh).1, ?_⟩
    have e1 : cur[k]? = some (vs.getD k undef) := by
      have h1 : (cur.toList.take (vs.length * 1))[k]? = vs[k]? := by rw [hx]
      rw [List.getElem?_take, if_pos (by omega)] at h1
      rw [← Array.getElem?_toList, h1]
      simp [List.getD, hk]
    simp [World.cell?, hh, e1]
section
variable {ops : Array Oper} {rest : List Oper} {o : Oper} {a : Act} {w : World} {Q : Exit → Act → World → Prop}
/-- 'append(s, x)', s a row of one's own, x one value that is a cell. -/
theorem wpList_app1 (hgd : o.guard = none) (s x : Operand) (t e : TypeId) (z : Value) (bytes : Nat) (ho : o.op = .call { callee := .builtin .append, args := #[s, x], argTypes := #[t, t] })
    (ht : Try.prog.underlying t = some (.slice e)) (hinfo : (Try.prog.info? e).map (fun i => (i.zero, i.size, i.bytes)) = some (some z, 1, bytes)) (hzs : z.cells.size = 1) (hby : bytes ≤ 100)
    (base : Nat) (v : Value) (vs : List Value) (hs : a.eval s = v) (hown : Own1 w base e v vs) (g : Nat) (u : Value) (hx : a.eval x = .slice (some ⟨g, 0, none⟩) 1 1) (hu : w.cell? ⟨g, 0, none⟩ = some u) (h1 : u.oneCell' = true)
    (hl : vs.length ≤ 1000000000) (hbase : base ≤ w.heap.size)
    (h : ∀ v' w', Own1 w' base e v' (vs ++ [u]) → Below base w w' → w.heap.size ≤ w'.heap.size → w.grownBy w' v.ownBlock → wpList Try.prog ops Q rest (a.put o.dst v') w') : wpList Try.prog ops Q (o :: rest) a w := by
  obtain ⟨i0, hi, hz0, hz1, hz2⟩ := info_parts hinfo
  refine wpList_append_own _ hgd s x t ho base e i0 z 1 bytes ht hi hz0 hz1 hz2 hzs (by decide) v vs.length vs hs hown ⟨g, 0, none⟩ 1 1 [u] hx rfl ?_ (by intro q hq; simp at hq; subst hq; exact h1) (by unfold maxLen; omega) (Nat.le_trans (Nat.mul_le_mul (show vs.length + 1 ≤ 1000000001 by omega) hby) (by decide)) hbase ?_
  · intro j q hj
    match j, hj with
    | 0, hj => simp at hj; subst hj; simpa [Addr.add] using hu
  · intro v' w' q1 q2 _
    refine h v' w' ?_ ((Below.refl base w).grown q2 hbase (own1_from hown)) q2.size q2
    unfold Own1
    rw [List.length_append]
    exact q1
end
theorem infoStr : (Try.prog.info? 9).map (fun i => (i.zero, i.size, i.bytes)) = some (some (.string ByteArray.empty), 1, 16) := by kernel_rfl
section
variable {ops : Array Oper} {rest : List Oper} {o : Oper} {a : Act} {w : World} {Q : Exit → Act → World → Prop}
/-- 'append(l, x...)' of texts, l a row of one's own. -/
theorem wpList_appS (hgd : o.guard = none) (s x : Operand) (ho : o.op = .call { callee := .builtin .append, args := #[s, x], argTypes := #[25, 25] })
    (base : Nat) (v : Value) (vs : List ByteArray) (hs : a.eval s = v) (hown : Own1 w base 9 v (vs.map .string)) (ad : Option Addr) (cap : Nat) (ss : List ByteArray) (hx : a.eval x = .slice ad ss.length cap) (hy : SRd w ad ss) (hc : ad = none → cap = 0)
    (hl : vs.length + ss.length ≤ 1000000) (hbase : base ≤ w.heap.size)
    (h : ∀ v' w', Own1 w' base 9 v' ((vs ++ ss).map .string) → Below base w w' → w.heap.size ≤ w'.heap.size → wpList Try.prog ops Q rest (a.put o.dst v') w') : wpList Try.prog ops Q (o :: rest) a w := by
  obtain ⟨i0, hi, hz0, hz1, hz2⟩ := info_parts infoStr
  have hown' : w.ownsRow base 9 1 v vs.length (vs.map .string) := by have := hown; unfold Own1 at this; rw [List.length_map] at this; exact this
  cases ad with
  | none =>
    have hss : ss = [] := by
      rcases hy.2 with h0 | ⟨g, off, ha, _⟩
      · exact h0
      · cases ha
    subst hss
    obtain rfl := hc rfl
    refine wpList_append_own_none hgd s x 25 ho base 9 i0 1 Try.underlying25 hi v vs.length (vs.map .string) hs hown' hx ?_
    have := h v w (by simpa using hown) (Below.refl _ _) (Nat.le_refl _)
    exact this
  | some ad =>
    refine wpList_append_own _ hgd s x 25 ho base 9 i0 (.string ByteArray.empty) 1 16 Try.underlying25 hi hz0 hz1 hz2 rfl (by decide) v vs.length (vs.map .string) hs hown' ad ss.length cap (ss.map .string) hx (by simp) ?_ (by intro u hu; simp at hu; obtain ⟨z, _, rfl⟩ := hu; rfl) (by unfold maxLen; omega) (by omega) hbase ?_
    · intro j u hu
      rcases hy.2 with h0 | ⟨b, off, ha, _, hcl⟩
      · subst h0; simp at hu
      · cases ha
        have hj : j < ss.length := by
          have := (List.getElem?_eq_some_iff.1 hu).1
          simpa using this
        have e : u = .string (ss.getD j ByteArray.empty) := by
          simp [hj] at hu; simp [List.getD, hj, ← hu]
        rw [e, add_at]
        exact hcl j hj
    · intro v' w' q1 q2 _
      refine h v' w' ?_ ((Below.refl base w).grown q2 hbase (own1_from hown)) q2.size
      unfold Own1
      rw [List.length_map, List.length_append, List.map_append]
      exact q1
end
theorem srd_of_own {w : World} {base : Nat} {v : Value} {ss : List ByteArray} (h : Own1 w base 9 v (ss.map .string)) (hl : ss.length ≤ 1000000) : ∃ a c, v = .slice a ss.length c ∧ SRd w a ss := by
  obtain ⟨a, c, e⟩ := h.slice
  rw [List.length_map] at e
  refine ⟨a, c, e, by omega, ?_⟩
  by_cases h0 : ss = []
  · exact .inl h0
  right
  have hpos : 0 < ss.length := List.length_pos_iff.2 h0
  obtain ⟨g, c', e', hg, _⟩ := h.cell 0 (by simpa using hpos)
  rw [e] at e'
  simp only [Value.slice.injEq] at e'
  obtain ⟨rfl, _, rfl⟩ := e'
  refine ⟨g, 0, rfl, hg, fun i hi => ?_⟩
  obtain ⟨g2, c2, e2, _, hc⟩ := h.cell i (by simpa using hi)
  rw [e] at e2
  simp only [Value.slice.injEq, Option.some.injEq, Addr.mk.injEq] at e2
  obtain ⟨⟨rfl, _, _⟩, _, _⟩ := e2
  rw [Nat.zero_add, hc]
  simp [List.getD, hi]
/-- 's[:n]' of texts that came in. -/
theorem srd_cut {w : World} {a : Option Addr} {c : Nat} {ss : List ByteArray} (h : SRd w a ss) (n : Nat) (hn : n ≤ ss.length) : SRd w a (ss.take n) := by
  refine ⟨by simp; have := h.1; omega, ?_⟩
  rcases h.2 with h0 | ⟨g, off, ha, hg, hc⟩
  · exact .inl (by rw [h0]; simp)
  · by_cases z : ss.take n = []
    · exact .inl z
    · refine .inr ⟨g, off, ha, hg, fun i hi => ?_⟩
      have hi' : i < n ∧ i < ss.length := by simp at hi; omega
      rw [hc i hi'.2]
      simp [List.getD, List.getElem?_take, hi'.1]
section
variable {ops : Array Oper} {rest : List Oper} {o : Oper} {a : Act} {w : World} {Q : Exit → Act → World → Prop}
/-- 's[:h]' of texts. -/
theorem wpList_cutS (hw : Region.wanted o (yielded ops a.tmps) = true) (x hi : Operand) (ho : o.op = .slice 25 x none (some hi) none) (ad : Option Addr) (n c : Nat) (hx : a.eval x = .slice ad n c)
    (h : Nat) (hh : a.eval hi = .int .i64 (h : Int)) (hn : h ≤ c)
    (hk : wpList Try.prog ops Q rest (a.put o.dst (.slice ad h c)) w) : wpList Try.prog ops Q (o :: rest) a w := by
  refine wpList_value hw _ w ?_ hk
  have hu : Try.prog.underlying 25 = some (.slice (Try.prog.elem 25)) := by kernel_rfl
  have hs : ∀ w, (sizeOf (Try.prog.elem 25)).run Try.prog w = .ok 1 w := fun w => by kernel_rfl
  unfold execOp
  simp only [ho, Option.map_some, Option.map_none, hx, hh, Sem.run_bind, Sem.run_pure, Result.andThen_ok]
  rw [run_sliceAt_slice (h := hu), run_slice_h (ht := hu) (h0 := by omega) (h2 := by omega), hs]
  rcases ad with _ | ⟨b, k, q⟩ <;> simp [sliced, Addr.add]
end
theorem Own1.blk {w : World} {base e : Nat} {v : Value} {vs : List Value} (h : Own1 w base e v vs) : ∀ k, v.ownBlock = some k → ∃ cs fr, w.heap[k]? = some (.cells cs e fr) := by
  intro k hk
  rcases h.2 with ⟨rfl, _⟩ | ⟨g, cap, cur, rfl, hg, hh, _⟩
  · cases hk
  · simp [Value.ownBlock] at hk
    subst hk
    exact ⟨_, _, hh⟩
theorem Own1.keepB {w w' : World} {base e : Nat} {v : Value} {vs : List Value} (h : Own1 w base e v vs) (hk : ∀ k, v.ownBlock = some k → w'.heap[k]? = w.heap[k]?) : Own1 w' base e v vs := by
  obtain ⟨h1, h2⟩ := h
  refine ⟨h1, ?_⟩
  rcases h2 with h2 | ⟨g, cap, cur, hv, hg, hh, hr⟩
  · exact .inl h2
  · exact .inr ⟨g, cap, cur, hv, hg, (hk g (by rw [hv]; rfl)).trans hh, hr⟩
end Go.Proofs.Ytdhmalpeooobfaa
