/-
  Rows of texts, as elements of rows; appended to in a region that draws.
-/
import Derived.Test.YtbebjpfbbidaiaaGreatJ6
namespace Go.Proofs.YtbebjpfbbidaiaaGreat
open Go.RowKit
set_option linter.unusedSimpArgs false
set_option linter.unusedVariables false

/-- Texts as elements of rows. -/
noncomputable def SK : Knd Tryz.prog ByteArray where
  T := 9
  S := 26
  k := 1
  enc := fun x => [.string x]
  z := .string ByteArray.empty
  B := 16
  len := fun _ => rfl
  one := fun x v h => by simp at h; subst h; rfl
  und := Tryz.underlying26
  info := infoStr
  zc := rfl
  pos := by omega
  small := by omega
  d := ByteArray.empty
theorem sk_row (l : List ByteArray) : SK.row l = l.map .string := by
  unfold Knd.row
  rw [show SK.enc = fun x => [Value.string x] from rfl]
  induction l with
  | nil => rfl
  | cons x l ih => simp only [List.flatMap_cons, List.map_cons, ih]; rfl
theorem Own1.sk {w : World} {base : Nat} {v : Value} {l : List ByteArray} (h : Own1 w base 9 v (l.map .string)) : SK.Own w base v l := by
  unfold Knd.Own
  rw [sk_row]
  unfold Own1 at h
  rw [List.length_map] at h
  exact h
theorem Knd.Own.own1 {w : World} {base : Nat} {v : Value} {l : List ByteArray} (h : SK.Own w base v l) : Own1 w base 9 v (l.map .string) := by
  unfold Knd.Own at h
  rw [sk_row] at h
  unfold Own1
  rw [List.length_map]
  exact h
theorem Knd.step_app {P : Program} {α : Type} {ops : Array Oper} {o : Oper} {a : Act} {w : World} {K : Act → World → Prop} {Q : Exit → Act → World → Prop} {E : Prop} (N : Knd P α) (hw : Region.wanted o (yielded ops a.tmps) = true) (s x : Operand) (ho : o.op = .call { callee := .builtin .append, args := #[s, x], argTypes := #[N.S, N.S] })
    (base : Nat) (v : Value) (l : List α) (hs : a.eval s = v) (hown : N.Own w base v l) (vy : Value) (ks : List α) (hx : a.eval x = vy) (hks : N.Rd w vy ks)
    (hl : l.length + ks.length ≤ 1000000) (hbase : base ≤ w.heap.size)
    (h : ∀ v' w', N.Own w' base v' (l ++ ks) → Below base w w' → w.grownBy w' v.ownBlock → K (a.put o.dst v') w') : if Region.wanted o (yielded ops a.tmps) = true then Oper.wp P o a w K Q else E := by
  obtain ⟨v', w', hr, q1, q2, q3, _⟩ := N.run_app hown vy ks hks (fun _ _ => trivial) hl hbase o.type
  rw [if_pos hw]
  unfold Oper.wp execOp
  simp only [ho, resolve, invoke, builtin, Sem.run_bind, Sem.run_pure, Result.andThen_ok, List.map_toArray, List.map_cons, List.map_nil, hs, hx, hr]
  exact h _ _ q1 q2 q3
end Go.Proofs.YtbebjpfbbidaiaaGreat
