/-
  Rows of bytes of a call's own: made, and appended to.
-/
import Derived.Test.YtllcmapgigfgoaaArr
import Derived.Laws.MakeOwn
namespace Go.Proofs.Ytllcmapgigfgoaa
open Go.RowKit
set_option linter.unusedSimpArgs false
set_option linter.unusedVariables false

theorem info8 : (Try.prog.info? 5).map (fun i => (i.zero, i.size, i.bytes)) = some (some (.int .u8 0), 1, 1) := by kernel_rfl
/-- A row of bytes of one's own, from a block on. -/
def Own8 (w : World) (base : Nat) (v : Value) (xs : List Int) : Prop := w.ownsRow base 5 1 v xs.length (u8v xs)
theorem Own8.bt {w : World} {base : Nat} {v : Value} {xs : List Int} (h : Own8 w base v xs) (hl : xs.length ≤ 9223372036854775807) : Bt w v xs := bt_of_owns h hl
theorem own8_from {w : World} {base : Nat} {v : Value} {xs : List Int} (h : Own8 w base v xs) : ∀ k, v.ownBlock = some k → base ≤ k := by
  intro k hk
  rcases h.2 with ⟨rfl, _⟩ | ⟨g, cap, cur, rfl, hg, _⟩
  · cases hk
  · simp [Value.ownBlock] at hk; omega
theorem Own8.nil (w : World) (base : Nat) : Own8 w base (.slice none 0 0) [] := ⟨rfl, .inl ⟨rfl, rfl⟩⟩
section
variable {ops : Array Oper} {rest : List Oper} {o : Oper} {a : Act} {w : World} {Q : Exit → Act → World → Prop}
/-- 'append(s, x...)' of bytes, s a row of one's own. -/
theorem wpList_app (hgd : o.guard = none) (s x : Operand) (ho : o.op = .call { callee := .builtin .append, args := #[s, x], argTypes := #[49, 49] })
    (base : Nat) (v : Value) (xs : List Int) (hs : a.eval s = v) (hown : Own8 w base v xs) (vy : Value) (ys : List Int) (hx : a.eval x = vy) (hy : Bt w vy ys) (hl : xs.length + ys.length ≤ 100000000000) (hbase : base ≤ w.heap.size)
    (h : ∀ v' w', Own8 w' base v' (xs ++ ys) → Below base w w' → w.heap.size ≤ w'.heap.size → wpList Try.prog ops Q rest (a.put o.dst v') w') : wpList Try.prog ops Q (o :: rest) a w := by
  obtain ⟨i0, hi, hz0, hz1, hz2⟩ := info_parts info8
  obtain ⟨ad, cap, rfl, h1, h2⟩ := hy.row
  cases ad with
  | none =>
    have hys : ys = [] := by
      rcases h1.2 with h0 | ⟨g, off, ha, _⟩
      · exact h0
      · cases ha
    subst hys
    obtain rfl := h2.1 rfl
    refine wpList_append_own_none hgd s x 49 ho base 5 i0 1 Try.underlying49 hi v xs.length (u8v xs) hs hown hx ?_
    have := h v w (by simpa using hown) (Below.refl _ _) (Nat.le_refl _)
    exact this
  | some ad =>
    refine wpList_append_own _ hgd s x 49 ho base 5 i0 (.int .u8 0) 1 1 Try.underlying49 hi hz0 hz1 hz2 rfl (by decide) v xs.length (u8v xs) hs hown ad ys.length cap (u8v ys) hx (by simp) (brd_news h1) (by intro u hu; simp at hu; obtain ⟨z, _, rfl⟩ := hu; rfl) (by unfold maxLen; omega) (by omega) hbase ?_
    intro v' w' q1 q2 _
    refine h v' w' ?_ ?_ q2.size
    · unfold Own8
      rw [List.length_append]
      have e : u8v (xs ++ ys) = u8v xs ++ u8v ys := by simp [u8v]
      rw [e]; exact q1
    · exact (Below.refl base w).grown q2 hbase (own8_from hown)
/-- 'make([]byte, 0, c)'. -/
theorem wpList_make8 (hw : Region.wanted o (yielded ops a.tmps) = true) (x y : Operand) (ho : o.op = .makeSlice 49 x y) (hx : a.eval x = .int .i64 0) (c : Nat) (ci : Int) (hy : a.eval y = .int .i64 ci) (hci : ci = (c : Int)) (hc : c ≤ 100000000000) (base : Nat) (hbase : base ≤ w.heap.size)
    (h : ∀ v' w', Own8 w' base v' [] → Below w.heap.size w w' → wpList Try.prog ops Q rest (a.put o.dst v') w') : wpList Try.prog ops Q (o :: rest) a w := by
  subst hci
  obtain ⟨i0, hi, hz0, hz1, hz2⟩ := info_parts info8
  obtain ⟨w', hr, h1, h2⟩ := run_make_own (P := Try.prog) w base 49 5 i0 (.int .u8 0) 1 Try.underlying49 hi hz0 hz1 .i64 .i64 c (by rw [hz2]; omega) (by unfold maxLen; omega) hbase
  refine wpList_value hw _ w' ?_ (h _ w' h1 ((Below.refl _ w).grown h2 (Nat.le_refl _) (fun k e => by cases e)))
  unfold execOp
  simp only [ho, hx, hy, hr, Sem.run_bind, Sem.run_pure, Result.andThen_ok]
end
end Go.Proofs.Ytllcmapgigfgoaa
