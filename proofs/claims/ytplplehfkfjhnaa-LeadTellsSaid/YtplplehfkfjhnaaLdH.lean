/-
  Leads: what becomes of the rows of whom it heard, and with what.
-/
import Derived.Test.YtplplehfkfjhnaaLdG
namespace Go.Proofs.Ytplplehfkfjhnaa
open Go.RowKit
open Bb (quoN thN allB)
set_option linter.unusedSimpArgs false
set_option linter.unusedVariables false
set_option maxRecDepth 100000

/-- All that was there is, but the lead's own block and one row. -/
structure Gb (X : World) (g : Nat) (bo : Option Nat) (w' : World) : Prop where
  os : w'.os = X.os
  tape : w'.tape = X.tape
  output : w'.output = X.output
  size : X.heap.size ≤ w'.heap.size
  block : ∀ k, k < X.heap.size → k ≠ g → some k ≠ bo → w'.heap[k]? = X.heap[k]?
theorem Gb.refl (X : World) (g : Nat) (bo : Option Nat) : Gb X g bo X := ⟨rfl, rfl, rfl, Nat.le_refl _, fun _ _ _ _ => rfl⟩
theorem Gb.below {X w' : World} {g : Nat} {bo : Option Nat} (h : Below X.heap.size X w') : Gb X g bo w' := ⟨h.os, h.tape, h.output, h.size, fun k hk _ _ => h.block k hk⟩
theorem Gb.set {X w' : World} {g : Nat} {bo : Option Nat} (h : Gb X g bo w') (o : Nat) (u : Value) : Gb X g bo (w'.setCell ⟨g, o, none⟩ u) := ⟨h.os, h.tape, h.output, by simpa using h.size, fun k hk hn hb => (Below.heap_setCell _ _ _ k hn).trans (h.block k hk hn hb)⟩
theorem Gb.alloc {X w' : World} {g : Nat} {bo : Option Nat} (h : Gb X g bo w') (o : Obj) : Gb X g bo (w'.alloc o) := ⟨h.os, h.tape, h.output, by have := h.size; simp; omega, fun k hk hn hb => (Below.heap_alloc _ _ _ (by have := h.size; omega)).trans (h.block k hk hn hb)⟩
theorem Gb.trans {X w1 w2 : World} {g : Nat} {bo : Option Nat} (h : Gb X g bo w1) (hb : Below w1.heap.size w1 w2) : Gb X g bo w2 := ⟨hb.os.trans h.os, hb.tape.trans h.tape, hb.output.trans h.output, Nat.le_trans h.size hb.size, fun k hk hn hq => (hb.block k (Nat.lt_of_lt_of_le hk h.size)).trans (h.block k hk hn hq)⟩
theorem Gb.grown {X w1 w2 : World} {g : Nat} {bo : Option Nat} (h : Gb X g bo w1) (hg : w1.grownBy w2 bo) : Gb X g bo w2 := ⟨hg.os.trans h.os, hg.tape.trans h.tape, hg.output.trans h.output, Nat.le_trans h.size hg.size, fun k hk hn hq => (hg.block k (Nat.lt_of_lt_of_le hk h.size) hq).trans (h.block k hk hn hq)⟩
theorem Gb.toBelow {X w' : World} {g B : Nat} {bo : Option Nat} (h : Gb X g bo w') (hg : B ≤ g) (hb : ∀ k, bo = some k → B ≤ k) (hB : B ≤ X.heap.size) : Below B X w' := ⟨h.os, h.tape, h.output, h.size, fun k hk => h.block k (by omega) (by omega) (fun e => by have := hb k e.symm; omega)⟩
def HasT (w : World) (k : Nat) (T : TypeId) : Prop := ∃ cs fr, w.heap[k]? = some (Obj.cells cs T fr)
theorem HasT.ne {w : World} {k j : Nat} {S T : TypeId} (h1 : HasT w k S) (h2 : HasT w j T) (hST : S ≠ T) : k ≠ j := by
  obtain ⟨cs, fr, h1⟩ := h1
  obtain ⟨ds, f2, h2⟩ := h2
  exact ty_ne h1 h2 hST
/-- A row that may turn: numbers, or what was heard. -/
structure RowB (w : World) (Bw : Nat) (bo : Option Nat) (T : TypeId) : Prop where
  lo : ∀ k, bo = some k → Bw ≤ k
  ty : ∀ k, bo = some k → HasT w k T
theorem HRow.move {w w' : World} {B Bw g : Nat} {v : Value} {l : List Ist} {bo : Option Nat} (h : HRow w B Bw v l) (hg : HasT w g 75) (hr : RowB w Bw bo 3) (hG : Gb w g bo w') : HRow w' B Bw v l := by
  obtain ⟨rs, h1, h2, h3⟩ := h
  refine ⟨rs, h1.keepB (fun k hk => ?_), h2, fun j a b => (h3 j a b).keep (fun k cs fr q => hG.block k (Array.getElem?_eq_some_iff.1 q).1 (HasT.ne ⟨cs, fr, q⟩ hg (by decide)) (fun e => HasT.ne ⟨cs, fr, q⟩ (hr.ty k e.symm) (by decide) rfl))⟩
  obtain ⟨hlt, hT⟩ := h1.blk k hk
  exact hG.block k hlt (HasT.ne hT hg (by decide)) (fun e => HasT.ne hT (hr.ty k e.symm) (by decide) rfl)
theorem own_move {w w' : World} {B Bw g : Nat} {v : Value} {l : List I3} {bo : Option Nat} {T : TypeId} (h : IK.Own w B v l) (hg : HasT w g 75) (hr : RowB w Bw bo T) (hT : T ≠ 27) (hG : Gb w g bo w') : IK.Own w' B v l := by
  refine h.keepB fun k hk => ?_
  obtain ⟨hlt, hk2⟩ := h.blk k hk
  exact hG.block k hlt (HasT.ne hk2 hg (by decide)) (fun e => HasT.ne (hr.ty k e.symm) hk2 hT rfl)
theorem HIs.move {w w' : World} {B Bw g : Nat} {cs : List Value} {x : Ist} {bo : Option Nat} {T : TypeId} (h : HIs w B cs x) (hg : HasT w g 75) (hr : RowB w Bw bo T) (hT : T ≠ 27) (hG : Gb w g bo w') : HIs w' B cs x := by
  obtain ⟨u, h1, h2, h3⟩ := h
  exact ⟨u, h1, own_move h2 hg hr hT hG, h3⟩
theorem conf_move {w w' : World} {B Bw g : Nat} {v : Value} {l : List Int} {bo : Option Nat} {T : TypeId} (h : OwnI w B v l) (hc : ∀ k, v.ownBlock = some k → k < Bw) (hg : HasT w g 75) (hr : RowB w Bw bo T) (hG : Gb w g bo w') : OwnI w' B v l := by
  refine h.keepB fun k hk => ?_
  obtain ⟨hlt, hk2⟩ := h.blk k hk
  exact hG.block k hlt (HasT.ne hk2 hg (by decide)) (fun e => by have := hr.lo k e.symm; have := hc k hk; omega)
theorem LdV.hasT {w : World} {B Bw g : Nat} {L : LSt} {vn vd vw vh : Value} (h : LdV w B Bw g L vn vd vw vh) : HasT w g 75 := ⟨_, _, h.bk⟩
theorem LdV.rowW {w : World} {B Bw g : Nat} {L : LSt} {vn vd vw vh : Value} (h : LdV w B Bw g L vn vd vw vh) : RowB w Bw vw.ownBlock 3 := ⟨ownI_from h.who, fun k hk => (h.who.blk k hk).2⟩
theorem LdV.rowH {w : World} {B Bw g : Nat} {L : LSt} {vn vd vw vh : Value} (h : LdV w B Bw g L vn vd vw vh) : RowB w Bw vh.ownBlock 38 := by
  obtain ⟨rs, h1, _⟩ := h.heard
  exact ⟨h1.from, fun k hk => (h1.blk k hk).2⟩
theorem LdV.gNe {w : World} {B Bw g : Nat} {L : LSt} {vn vd vw vh : Value} (h : LdV w B Bw g L vn vd vw vh) {bo : Option Nat} {T : TypeId} (hr : RowB w Bw bo T) : some g ≠ bo := fun e => by have := hr.lo g e.symm; have := h.hi; omega
/-- One more that was heard. -/
theorem LdV.whoMore {w w' : World} {B Bw g : Nat} {L : LSt} {vn vd vw vh v2 : Value} {l : List Int} (h : LdV w B Bw g L vn vd vw vh) (hG : Gb w g vw.ownBlock w') (hb : Bk w' g 75 (ldE L vn vd vw vh)) (ho : OwnI w' Bw v2 l) :
    LdV (w'.setCell ⟨g, 22, none⟩ v2) B Bw g { L with who := l } vn vd v2 vh := by
  have hG2 := hG.set 22 v2
  have hg := h.hasT
  have hr := h.rowW
  refine ⟨hb.set 22 v2, h.lo, h.hi, Nat.le_trans h.sz hG2.size, conf_move h.conf h.cb hg hr hG2, h.cb, own_move h.deps hg hr (by decide) hG2, h.ok, ?_, h.heard.move hg hr hG2⟩
  refine ho.keepB fun k hk => Below.heap_setCell _ _ _ k ?_
  have := ownI_from ho k hk
  have := h.hi
  show k ≠ g
  omega
theorem LdV.heardMore {w w' : World} {B Bw g : Nat} {L : LSt} {vn vd vw vh v2 : Value} {rs : List (Cls 15)} {y : Cls 15} {x : Ist} (h : LdV w B Bw g L vn vd vw vh) (hG : Gb w g vh.ownBlock w') (hb : Bk w' g 75 (ldE L vn vd vw vh)) (ho : KX.Own w' Bw v2 (rs ++ [y])) (hrl : rs.length = L.heard.length) (hrs : ∀ (j : Nat) (h : j < rs.length) (h2 : j < L.heard.length), HIs w B rs[j].cs L.heard[j]) (hy : HIs w B y.cs x) :
    LdV (w'.setCell ⟨g, 23, none⟩ v2) B Bw g { L with heard := L.heard ++ [x] } vn vd vw v2 := by
  have hG2 := hG.set 23 v2
  have hg := h.hasT
  have hr := h.rowH
  refine ⟨hb.set 23 v2, h.lo, h.hi, Nat.le_trans h.sz hG2.size, conf_move h.conf h.cb hg hr hG2, h.cb, own_move h.deps hg hr (by decide) hG2, h.ok, ?_, rs ++ [y], ?_, by simp [hrl], fun j a b => ?_⟩
  · refine h.who.keepB fun k hk => ?_
    obtain ⟨hlt, hk2⟩ := h.who.blk k hk
    exact hG2.block k hlt (HasT.ne hk2 hg (by decide)) (fun e => HasT.ne hk2 (hr.ty k e.symm) (by decide) rfl)
  · refine ho.keepB fun k hk => Below.heap_setCell _ _ _ k ?_
    have := ho.from k hk
    have := h.hi
    show k ≠ g
    omega
  · by_cases q : j < rs.length
    · simp only [List.getElem_append_left q, List.getElem_append_left (show j < L.heard.length by omega)]
      exact (hrs j q (by omega)).move hg hr (by decide) hG2
    · have e : j = rs.length := by simp at a; omega
      subst e
      have e2 : (L.heard ++ [x])[rs.length]'b = x := by
        rw [List.getElem_append_right (by omega)]
        simp [hrl]
      simp only [e2, List.getElem_append_right (Nat.le_refl _), Nat.sub_self, List.getElem_cons_zero]
      exact hy.move hg hr (by decide) hG2
theorem Gb.bk {w w' : World} {B Bw g : Nat} {L : LSt} {vn vd vw vh : Value} {bo : Option Nat} {T : TypeId} (h : LdV w B Bw g L vn vd vw vh) (hr : RowB w Bw bo T) {wm : World} (hb : Below w.heap.size w wm) (hg : wm.grownBy w' bo) : Bk w' g 75 (ldE L vn vd vw vh) := (h.bk.below hb).grown hg (h.gNe hr)
theorem Gb.kt {w w' : World} {B Bw g : Nat} {L : LSt} {vn vd vw vh : Value} {bo : Option Nat} {T : TypeId} (h : Gb w g bo w') (hv : LdV w B Bw g L vn vd vw vh) (hr : RowB w Bw bo T) (hT : T = 3 ∨ T = 38) : Kt w w' :=
  ⟨h.size, fun k cs S fr q a b c => (h.block k (Array.getElem?_eq_some_iff.1 q).1 (HasT.ne ⟨cs, fr, q⟩ hv.hasT a) (fun e => by
    have h1 : HasT w k S := ⟨cs, fr, q⟩
    rcases hT with rfl | rfl
    · exact HasT.ne h1 (hr.ty k e.symm) b rfl
    · exact HasT.ne h1 (hr.ty k e.symm) c rfl)).trans q⟩
section
variable {ops : Array Oper} {o : Oper} {a : Act} {w : World} {K : Act → World → Prop} {Q : Exit → Act → World → Prop} {E : Prop}
theorem step_valueL {P : Program} (hg : o.guard = none) (v : Value) (w' : World) (hr : (execOp a.eval o).run P w = .ok (.value v) w') (hK : K (a.put o.dst v) w') :
    if Region.wanted o (yielded ops a.tmps) = true then Oper.wp P o a w K Q else E := by
  rw [if_pos (by simp [Region.wanted, hg])]
  unfold Oper.wp
  rw [hr]
  exact hK
theorem step_appI (hgd : o.guard = none) (s x : Operand) (ho : o.op = .call { callee := .builtin .append, args := #[s, x], argTypes := #[22, 22] })
    (base : Nat) (v : Value) (xs : List Int) (hs : a.eval s = v) (hown : OwnI w base v xs) (vy : Value) (ys : List Int) (hx : a.eval x = vy) (hy : It w vy ys) (hl : xs.length + ys.length ≤ 100000000000) (hbase : base ≤ w.heap.size)
    (hK : ∀ v' w', OwnI w' base v' (xs ++ ys) → w.grownBy w' v.ownBlock → K (a.put o.dst v') w') : if Region.wanted o (yielded ops a.tmps) = true then Oper.wp Try.prog o a w K Q else E := by
  obtain ⟨v', w', hr, q1, q2, q3, q4⟩ := run_appI hown hy hl hbase o.type
  refine step_valueL hgd v' w' ?_ (hK v' w' q1 q4)
  unfold execOp
  simp only [ho, resolve, invoke, builtin, Sem.run_bind, Sem.run_pure, Result.andThen_ok, List.map_toArray, List.map_cons, List.map_nil, hs, hx, hr]
theorem Knd.step_app {P : Program} {α : Type} (Kd : Knd P α) (hgd : o.guard = none) (s x : Operand) (ho : o.op = .call { callee := .builtin .append, args := #[s, x], argTypes := #[Kd.S, Kd.S] })
    (base : Nat) (v : Value) (l : List α) (hs : a.eval s = v) (hown : Kd.Own w base v l) (vy : Value) (ks : List α) (hx : a.eval x = vy) (hks : Kd.Rd w vy ks)
    (hl : l.length + ks.length ≤ 1000000) (hbase : base ≤ w.heap.size)
    (hK : ∀ v' w', Kd.Own w' base v' (l ++ ks) → w.grownBy w' v.ownBlock → K (a.put o.dst v') w') : if Region.wanted o (yielded ops a.tmps) = true then Oper.wp P o a w K Q else E := by
  obtain ⟨v', w', hr, q1, q2, q3, q4⟩ := Kd.run_app hown vy ks hks (fun _ _ => trivial) hl hbase o.type
  refine step_valueL hgd v' w' ?_ (hK v' w' q1 q3)
  unfold execOp
  simp only [ho, resolve, invoke, builtin, Sem.run_bind, Sem.run_pure, Result.andThen_ok, List.map_toArray, List.map_cons, List.map_nil, hs, hx, hr]
end
/-- Two ballots held apart. -/
theorem eqBals : EqlAt Try.prog 29 (fun x : Bal => .agg #[.int .i64 x.1, .int .i64 x.2]) (fun x y : Bal => decide (x = y)) := by
  refine ⟨fun x y w => ?_, GuardAt.agg _ (by kernel_rfl)⟩
  have u3 := Try.underlying3
  have a3 := Try.isAgg3
  have z3 := Try.sizeOf3
  have hS : Try.prog.underlying 29 = some (.struct (Try.prog.fieldsOf 29)) := by kernel_rfl
  have hp : Try.prog.stoodInHeld 29 = false := by kernel_rfl
  rw [run_eql_struct, show (10000 : Nat) = 9999 + 1 from rfl, run_equalIn_agg w 9999 29 _ _ hS hp]
  simp only [Program.fieldsOf, Try.underlying29]
  go_simp
  by_cases h1 : x.1 = y.1 <;> by_cases h2 : x.2 = y.2 <;> simp [h1, h2, Prod.ext_iff]
theorem neB_run (a1 a2 b1 b2 : Int) : (∀ w, Sem.run Try.prog (binOp .neq 29 (.agg #[.int .i64 a1, .int .i64 a2]) (.agg #[.int .i64 b1, .int .i64 b2])) w = .ok (.bool (!decide (((a1, a2) : Bal) = (b1, b2)))) w) ∧
    (∀ op x y w, Sem.run Try.prog (eqGuard op 29 x y (.agg #[.int .i64 a1, .int .i64 a2]) (.agg #[.int .i64 b1, .int .i64 b2])) w = .ok () w) := by
  refine ⟨fun w => ?_, fun op x y w => eqBals.2 op x y (a1, a2) (b1, b2) w⟩
  have h := eqBals.1 (a1, a2) (b1, b2) w
  rw [run_eql_struct] at h
  rw [run_neq_struct]
  revert h
  generalize Sem.run Try.prog (Op.equalIn 10000 29 (.agg #[.int .i64 a1, .int .i64 a2]) (.agg #[.int .i64 b1, .int .i64 b2])) w = r
  intro h
  cases r with
  | ok v w' => simp [Result.andThen] at h ⊢; simp [h]
  | halt x w' => simp [Result.andThen] at h
/-- A message: its value, as far as a lead looks at it. -/
def MgV (w : World) (v : Value) (x : Mg) : Prop := ∃ (ua : Option Addr) (uc : Nat) (a1 : Option Addr) (d1 c1 : Nat) (a2 : Option Addr) (d2 c2 : Nat) (a3 : Option Addr) (d3 c3 : Nat), v = .agg (msE x (.slice ua x.ins.at'.2.length uc) (.slice a1 d1 c1) (.slice a2 d2 c2) (.slice a3 d3 c3)).toArray ∧ IK.Rd w (.slice ua x.ins.at'.2.length uc) x.ins.at'.2 ∧ okL x.ins.at'.2
theorem MgV.below {w w' : World} {v : Value} {x : Mg} (h : MgV w v x) (hb : Below w.heap.size w w') : MgV w' v x := by
  obtain ⟨ua, uc, a1, d1, c1, a2, d2, c2, a3, d3, c3, h1, h2, h3⟩ := h
  exact ⟨ua, uc, a1, d1, c1, a2, d2, c2, a3, d3, c3, h1, h2.below hb, h3⟩
theorem MsgIs.mgv {w : World} {v : Value} {x : Mg} (h : MsgIs w v x) : MgV w v x := by
  obtain ⟨cs, e, u, u1, u2, u3, hm⟩ := h
  obtain ⟨a, c, a1, c1, a2, c2, a3, c3, e0, e1, e2, e3⟩ := hm.sl
  subst e0 e1 e2 e3
  have h1 := hm.ins.rd
  have h2 := hm.ins.ok
  have h3 := hm.cs
  exact ⟨a, c, a1, x.sn.1.2.length, c1, a2, x.sn.2.1.length, c2, a3, x.sn.2.2.length, c3, by rw [e, ← h3], h1, h2⟩
end Go.Proofs.Ytplplehfkfjhnaa
