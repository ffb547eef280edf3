/-
  Texts put together: Mv, Ids6, Ids7, Rcf.
-/
import Derived.Test.YtnancdbkmompdaaGreatPQM
import Derived.Shelf.SlicesQ.Contains
import Derived.Laws.StructEq
import Derived.Ground.SlgqProg
import Derived.Deep.QuietTactic
import Derived.BigQuiet
import Derived.Test.YtnancdbkmompdaaGreatRceP
import Derived.Test.YtnancdbkmompdaaGreatPQL
namespace Go.Proofs.YtnancdbkmompdaaGreat
open Go.RowKit Go.Sort
set_option linter.unusedSimpArgs false
set_option linter.unusedVariables false
set_option maxRecDepth 100000

/-- How any value reads. -/
def vR : Value → Option (DataW Value × List MemPlace) := fun v => some (.held v, [])
section
variable {α : Type}
def getV (l : List (I3 × α)) (x : I3) : Option α := (l.find? fun e => decide (e.1 = x)).map (·.2)
def delV (l : List (I3 × α)) (x : I3) : List (I3 × α) := l.filter fun e => decide (e.1 ≠ x)
def putV (l : List (I3 × α)) (x : I3) (v : α) : List (I3 × α) := delV l x ++ [(x, v)]
abbrev keysV (l : List (I3 × α)) : List I3 := l.map (·.1)
theorem getV_nil (x : I3) : getV ([] : List (I3 × α)) x = none := rfl
theorem getV_none {l : List (I3 × α)} {x : I3} : getV l x = none ↔ ∀ v, (x, v) ∉ l := by
 unfold getV
 rw [Option.map_eq_none_iff, List.find?_eq_none]
 constructor
 ·intro h v hv
  exact h _ hv (by simp)
 ·intro h e he q
  have : e.1 = x := by simpa using q
  subst this
  exact h e.2 he
theorem getV_some {l : List (I3 × α)} (hn : (keysV l).Nodup) {x : I3} {v : α} : getV l x = some v ↔ (x, v) ∈ l := by
 constructor
 ·intro h
  unfold getV at h
  rw [Option.map_eq_some_iff] at h
  obtain ⟨e, h1, h2⟩ := h
  have h3 := List.mem_of_find?_eq_some h1
  have h4 : e.1 = x := by simpa using List.find?_some h1
  subst h4 h2
  exact h3
 ·intro h
  induction l with
  | nil => cases h
  | cons a l ih =>
   have hp := List.nodup_cons.1 hn
   unfold getV
   rw [List.find?_cons]
   rcases List.mem_cons.1 h with q | q
   ·subst q; simp
   ·have hne : a.1 ≠ x := fun e => hp.1 (List.mem_map.2 ⟨_, q, e.symm⟩)
    rw [decide_eq_false hne]
    exact ih hp.2 q
theorem getV_isSome {l : List (I3 × α)} {x : I3} : (getV l x).isSome = hasI (keysV l) x := by
 rw [Bool.eq_iff_iff, hasI_iff, Option.isSome_iff_ne_none, Ne, getV_none]
 constructor
 ·intro h
  apply Classical.byContradiction
  intro q
  exact h fun v hv => q (List.mem_map.2 ⟨_, hv, rfl⟩)
 ·intro h q
  obtain ⟨e, he, rfl⟩ := List.mem_map.1 h
  exact q e.2 he
theorem mem_delV {l : List (I3 × α)} {x : I3} {e : I3 × α} : e ∈ delV l x ↔ e ∈ l ∧ e.1 ≠ x := by
 unfold delV
 rw [List.mem_filter]
 simp
theorem keys_delV (l : List (I3 × α)) (x : I3) : keysV (delV l x) = (keysV l).filter fun y => decide (y ≠ x) := by
 unfold delV keysV
 rw [List.filter_map]
 rfl
theorem nodup_delV {l : List (I3 × α)} (h : (keysV l).Nodup) (x : I3) : (keysV (delV l x)).Nodup := by
 rw [keys_delV]
 exact h.sublist List.filter_sublist
theorem nodup_putV {l : List (I3 × α)} (h : (keysV l).Nodup) (x : I3) (v : α) : (keysV (putV l x v)).Nodup := by
 unfold putV keysV
 rw [List.map_append, List.nodup_append]
 refine ⟨nodup_delV h x, by simp, ?_⟩
 intro a ha b hb e
 have hb2 : b = x := by simpa using hb
 obtain ⟨q, hq, rfl⟩ := List.mem_map.1 ha
 exact (mem_delV.1 hq).2 (e.trans hb2)
theorem getV_put {l : List (I3 × α)} (h : (keysV l).Nodup) (x : I3) (v : α) (y : I3) : getV (putV l x v) y = if y = x then some v else getV l y := by
 split
 ·rename_i e
  subst e
  exact (getV_some (nodup_putV h y v)).2 (by unfold putV; simp)
 ·rename_i e
  cases q : getV l y with
  | none =>
   rw [getV_none] at q ⊢
   intro u hu
   unfold putV at hu
   rcases List.mem_append.1 hu with r | r
   ·exact q u (mem_delV.1 r).1
   ·simp at r; exact e r.1
  | some u =>
   rw [getV_some h] at q
   rw [getV_some (nodup_putV h x v)]
   unfold putV
   exact List.mem_append.2 (.inl (mem_delV.2 ⟨q, e⟩))
theorem getV_del {l : List (I3 × α)} (h : (keysV l).Nodup) (x : I3) (y : I3) : getV (delV l x) y = if y = x then none else getV l y := by
 split
 ·rename_i e
  subst e
  rw [getV_none]
  intro u hu
  exact (mem_delV.1 hu).2 rfl
 ·rename_i e
  cases q : getV l y with
  | none =>
   rw [getV_none] at q ⊢
   intro u hu
   exact q u (mem_delV.1 hu).1
  | some u =>
   rw [getV_some h] at q
   rw [getV_some (nodup_delV h x)]
   exact mem_delV.2 ⟨q, e⟩
theorem len_delV {l : List (I3 × α)} (h : (keysV l).Nodup) (x : I3) : (delV l x).length + (if (getV l x).isSome then 1 else 0) = l.length := by
 have q := filter_ne_len (keysV l) x h
 rw [← keys_delV] at q
 rw [getV_isSome]
 simpa using q
theorem len_putV {l : List (I3 × α)} (h : (keysV l).Nodup) (x : I3) (v : α) : (putV l x v).length = if (getV l x).isSome then l.length else l.length + 1 := by
 have q := len_delV h x
 unfold putV
 rw [List.length_append]
 split at q <;> simp_all <;> omega
end
section
variable {α : Type} {enc : α → Value} {w : World} {b : Nat} {l : List (I3 × α)}
/-- The map at a block has these entries. -/
structure MV (enc : α → Value) (w : World) (b : Nat) (l : List (I3 × α)) : Prop where
 own : ∃ D, w.ownsMap (H := Value) Tryz.prog 49 vR b l.length D ∧ Maps.Tidy D ∧ Maps.size D = l.length ∧ (∀ x, okI x → Maps.has D (kf x) = (getV l x).isSome) ∧ (∀ x a, okI x → getV l x = some a → ∀ z, D.atKey (kf x) z = .held (enc a))
 keys : ∀ e ∈ l, okI e.1
 nodup : (keysV l).Nodup
theorem owns_tight {H : Type} {P : Program} {k : TypeId} {R : Value → Option (DataW H × List MemPlace)} {n : Nat} {D : DataW H} (h : w.ownsMap P k R b n D) : w.ownsMap P k R b (Maps.size D) D := by
 obtain ⟨es, clock, hb, F, hs, rfl⟩ := h
 refine ⟨es, clock, hb, F, ?_, rfl⟩
 simp [Maps.size, length_read]
theorem MV.lt (h : MV enc w b l) : b < w.heap.size := by obtain ⟨D, hD, _⟩ := h.own; exact hD.lt
theorem MV.kept {w' : World} {row : Option Nat} (h : MV enc w b l) (hg : w.grownBy w' row) (hne : some b ≠ row) : MV enc w' b l := by
 obtain ⟨D, h1, h2⟩ := h.own
 exact ⟨⟨D, h1.kept hg hne, h2⟩, h.keys, h.nodup⟩
theorem MV.below {w' : World} (h : MV enc w b l) (hb : Below w.heap.size w w') : MV enc w' b l :=
 h.kept (row := none) ⟨hb.os, hb.tape, hb.output, hb.size, fun k hk _ => hb.block k hk⟩ (by simp)
theorem MV.same {w' : World} (h : MV enc w b l) (e : w'.heap[b]? = w.heap[b]?) : MV enc w' b l := by
 obtain ⟨D, ⟨es, ck, hb, hF⟩, h2⟩ := h.own
 exact ⟨⟨D, ⟨es, ck, e.trans hb, hF⟩, h2⟩, h.keys, h.nodup⟩
theorem MV.on {N : Nat} {w' : World} (h : MV enc w b l) (hb : Below N w w') (hN : b < N) : MV enc w' b l := h.same (hb.block b hN)
theorem MV.setCell (h : MV enc w b l) {a : Addr} (ha : b ≠ a.block) (u : Value) : MV enc (w.setCell a u) b l := by
 obtain ⟨D, h1, h2⟩ := h.own
 exact ⟨⟨D, h1.setCell ha u, h2⟩, h.keys, h.nodup⟩
theorem MV.made (enc : α → Value) (w : World) : MV enc (w.alloc (.map #[] 0)) w.heap.size [] :=
 ⟨⟨.map [], World.ownsMap_made _ _ _ _, Maps.tidy_empty, rfl, fun x _ => rfl, fun x a _ h => by cases h⟩, (fun e h => by cases h), List.nodup_nil⟩
/-- No block of cells is the map's. -/
theorem MV.blkNe (h : MV enc w b l) : ∀ k cs T fr, w.heap[k]? = some (.cells cs T fr) → k ≠ b := by
 rintro k cs T fr hc rfl
 obtain ⟨D, ⟨es, ck, hb, _⟩, _⟩ := h.own
 rw [hb] at hc
 cases hc
theorem MV.look {t e : TypeId} (h : MV enc w b l) (ht : Tryz.prog.underlying t = some (.map 49 e)) {z : Value} (hz : (zeroValue e).run Tryz.prog w = .ok z w) {x : I3} (hx : okI x) : (Instr.lookup t (.map (some b)) (idW x) false).run Tryz.prog w = .ok (((getV l x).map enc).getD z) w := by
 obtain ⟨D, h1, _, _, h4, h5⟩ := h.own
 obtain ⟨v, ps, hr, hv⟩ := h1.lookup idLaw ht hz (zd := .held z) (zp := []) rfl (kf_key hx)
 have hv2 : DataW.held v = D.atKey (kf x) (.held z) := (Prod.mk.inj (Option.some.inj hv)).1
 rw [hr]
 cases q : getV l x with
 | none =>
  have h6 := h4 x hx
  rw [q] at h6
  rw [Maps.atKey_of_not_has h6] at hv2
  injection hv2 with e
  rw [e]; rfl
 | some a =>
  rw [h5 x a hx q] at hv2
  injection hv2 with e
  rw [e]; rfl
theorem MV.look2 {t e : TypeId} (h : MV enc w b l) (ht : Tryz.prog.underlying t = some (.map 49 e)) {z : Value} (hz : (zeroValue e).run Tryz.prog w = .ok z w) {x : I3} (hx : okI x) : (Instr.lookup t (.map (some b)) (idW x) true).run Tryz.prog w = .ok (.tuple #[((getV l x).map enc).getD z, .bool (getV l x).isSome]) w := by
 obtain ⟨D, h1, _, _, h4, h5⟩ := h.own
 obtain ⟨v, ps, hr, hv⟩ := h1.look_ok idLaw ht hz (zd := .held z) (zp := []) rfl (kf_key hx)
 have hv2 : DataW.held v = D.atKey (kf x) (.held z) := (Prod.mk.inj (Option.some.inj hv)).1
 rw [hr, h4 x hx]
 cases q : getV l x with
 | none =>
  have h6 := h4 x hx
  rw [q] at h6
  rw [Maps.atKey_of_not_has h6] at hv2
  injection hv2 with e
  rw [e]; rfl
 | some a =>
  rw [h5 x a hx q] at hv2
  injection hv2 with e
  rw [e]; rfl
theorem MV.len {t e : TypeId} (h : MV enc w b l) (ht : Tryz.prog.underlying t = some (.map 49 e)) (ty : TypeId) : (Builtin.len_ #[t] ty #[.map (some b)]).run Tryz.prog w = .ok (.int .i64 l.length) w := by
 obtain ⟨D, h1, _, h3, _⟩ := h.own
 rw [h1.len ht ty, h3]
theorem MV.put {t e : TypeId} (h : MV enc w b l) (ht : Tryz.prog.underlying t = some (.map 49 e)) (hn : l.length < maxLen) {x : I3} (hx : okI x) (a : α) : ∃ w', (Instr.mapUpdate t (.map (some b)) (idW x) (enc a)).run Tryz.prog w = .ok () w' ∧ MV enc w' b (putV l x a) ∧ w.mapTurned w' b := by
 obtain ⟨D, h1, h2, h3, h4, h5⟩ := h.own
 obtain ⟨w', r1, r2, r3⟩ := h1.store idLaw ht hn (d := .held (enc a)) (ps := []) (kf_key hx) rfl
 have hs : Maps.size (D.put (kf x) (.held (enc a))) = (putV l x a).length := by
  rw [Maps.size_put h2, h4 x hx, h3, len_putV h.nodup]
 refine ⟨w', r1, ⟨⟨_, by rw [← hs]; exact owns_tight r2, h2.put (kf_lit hx) _, hs, fun y hy => ?_, fun y c hy hc z => ?_⟩, fun e he => ?_, nodup_putV h.nodup x a⟩, r3⟩
 ·rw [getV_put h.nodup]
  by_cases q : y = x
  ·subst q
   rw [Maps.has_put_same h2.isMap (kf_lit hy), if_pos rfl]; rfl
  ·rw [Maps.has_put_other (fun r => q (kf_inj hy hx r)), if_neg q, h4 y hy]
 ·rw [getV_put h.nodup] at hc
  by_cases q : y = x
  ·subst q
   rw [if_pos rfl] at hc
   rw [Maps.atKey_put_same h2.isMap (kf_lit hy), Option.some.inj hc]
  ·rw [if_neg q] at hc
   rw [Maps.atKey_put_other (fun r => q (kf_inj hy hx r))]
   exact h5 y c hy hc z
 ·unfold putV at he
  rcases List.mem_append.1 he with q | q
  ·exact h.keys e (mem_delV.1 q).1
  ·simp at q; subst q; exact hx
theorem MV.del {t e : TypeId} (h : MV enc w b l) (ht : Tryz.prog.underlying t = some (.map 49 e)) {x : I3} (hx : okI x) (ty : TypeId) : ∃ w', (Builtin.delete_ #[t, 49] ty #[.map (some b), idW x]).run Tryz.prog w = .ok (.tuple #[]) w' ∧ MV enc w' b (delV l x) ∧ w.mapTurned w' b := by
 obtain ⟨D, h1, h2, h3, h4, h5⟩ := h.own
 obtain ⟨w', r1, r2, r3⟩ := h1.drop idLaw ht (kf_key hx) ty
 have hs : Maps.size (D.del (kf x)) = (delV l x).length := by
  have q1 := Maps.size_del (k := kf x) h2
  have q2 := len_delV h.nodup x
  rw [h4 x hx, h3] at q1
  omega
 refine ⟨w', r1, ⟨⟨_, by rw [← hs]; exact owns_tight r2, h2.del _, hs, fun y hy => ?_, fun y c hy hc z => ?_⟩, fun e he => h.keys e (mem_delV.1 he).1, nodup_delV h.nodup x⟩, r3⟩
 ·rw [getV_del h.nodup]
  by_cases q : y = x
  ·subst q
   rw [Maps.has_del_same, if_pos rfl]; rfl
  ·rw [Maps.has_del_other (fun r => q (kf_inj hy hx r)), if_neg q, h4 y hy]
 ·rw [getV_del h.nodup] at hc
  by_cases q : y = x
  ·rw [if_pos q] at hc; cases hc
  ·rw [if_neg q] at hc
   rw [Maps.atKey_del_other (fun r => q (kf_inj hy hx r))]
   exact h5 y c hy hc z
end
section
variable {α : Type} {ops : Array Oper} {rest : List Oper} {o : Oper} {a : Act} {w : World} {Q : Exit → Act → World → Prop}
/-- 'm[x] = v'. -/
theorem wpList_put_mv (hg : o.guard = none) (m x v : Operand) (t : TypeId) (hop : o.op = Op.mapUpdate t m x v) (e : TypeId) (ht : Tryz.prog.underlying t = some (.map 49 e)) (enc : α → Value) (b : Nat) (l : List (I3 × α))
  (hm : a.eval m = .map (some b)) (h : MV enc w b l) (hn : l.length < maxLen) (k : I3) (c : α) (hx : a.eval x = idW k) (hk : okI k) (hv : a.eval v = enc c)
  (hK : ∀ w', MV enc w' b (putV l k c) → w.mapTurned w' b → wpList Tryz.prog ops Q rest (a.put o.dst undef) w') : wpList Tryz.prog ops Q (o :: rest) a w := by
 refine wpList_plain hg fun K' hK' => ?_
 obtain ⟨w', hrun, r1, r2⟩ := h.put ht hn hk c
 unfold Oper.wp
 simp [execOp, hop, hm, hx, hv, hrun, Result.andThen]
 exact hK' _ _ (hK w' r1 r2)
/-- 'm[x]'. -/
theorem wpList_look_mv (hg : o.guard = none) (m x : Operand) (t : TypeId) (hop : o.op = Op.lookup t m x false) (e : TypeId) (ht : Tryz.prog.underlying t = some (.map 49 e)) (enc : α → Value) (b : Nat) (l : List (I3 × α))
  (hm : a.eval m = .map (some b)) (h : MV enc w b l) (k : I3) (hx : a.eval x = idW k) (hk : okI k) (z : Value) (hz : (zeroValue e).run Tryz.prog w = .ok z w) (v : Value) (hv : ((getV l k).map enc).getD z = v)
  (hK : wpList Tryz.prog ops Q rest (a.put o.dst v) w) : wpList Tryz.prog ops Q (o :: rest) a w := by
 refine wpList_plain hg fun K' hK' => ?_
 have hrun := h.look ht hz hk
 rw [hv] at hrun
 unfold Oper.wp
 simp [execOp, hop, hm, hx, hrun, Result.andThen]
 exact hK' _ _ hK
/-- 'v, ok := m[x]'. -/
theorem wpList_look2_mv (hg : o.guard = none) (m x : Operand) (t : TypeId) (hop : o.op = Op.lookup t m x true) (e : TypeId) (ht : Tryz.prog.underlying t = some (.map 49 e)) (enc : α → Value) (b : Nat) (l : List (I3 × α))
  (hm : a.eval m = .map (some b)) (h : MV enc w b l) (k : I3) (hx : a.eval x = idW k) (hk : okI k) (z : Value) (hz : (zeroValue e).run Tryz.prog w = .ok z w) (v : Value) (hv : ((getV l k).map enc).getD z = v) (q : Bool) (hq : (getV l k).isSome = q)
  (hK : wpList Tryz.prog ops Q rest (a.put o.dst (.tuple #[v, .bool q])) w) : wpList Tryz.prog ops Q (o :: rest) a w := by
 refine wpList_plain hg fun K' hK' => ?_
 have hrun := h.look2 ht hz hk
 rw [hv, hq] at hrun
 unfold Oper.wp
 simp [execOp, hop, hm, hx, hrun, Result.andThen]
 exact hK' _ _ hK
/-- 'delete(m, x)'. -/
theorem wpList_del_mv (hg : o.guard = none) (m x : Operand) (t : TypeId) (hop : o.op = Op.call { callee := Callee.builtin Builtin.delete, args := #[m, x], argTypes := #[t, 49] }) (e : TypeId) (ht : Tryz.prog.underlying t = some (.map 49 e)) (enc : α → Value) (b : Nat) (l : List (I3 × α))
  (hm : a.eval m = .map (some b)) (h : MV enc w b l) (k : I3) (hx : a.eval x = idW k) (hk : okI k)
  (hK : ∀ w', MV enc w' b (delV l k) → w.mapTurned w' b → wpList Tryz.prog ops Q rest (a.put o.dst (.tuple #[])) w') : wpList Tryz.prog ops Q (o :: rest) a w := by
 refine wpList_plain hg fun K' hK' => ?_
 obtain ⟨w', hrun, r1, r2⟩ := h.del ht hk o.type
 unfold Oper.wp
 simp [execOp, hop, resolve, invoke, builtin, hm, hx, hrun, Result.andThen]
 exact hK' _ _ (hK w' r1 r2)
/-- 'len(m)'. -/
theorem wpList_len_mv (hg : o.guard = none) (m : Operand) (t : TypeId) (hop : o.op = Op.call { callee := Callee.builtin Builtin.len, args := #[m], argTypes := #[t] }) (e : TypeId) (ht : Tryz.prog.underlying t = some (.map 49 e)) (enc : α → Value) (b : Nat) (l : List (I3 × α))
  (hm : a.eval m = .map (some b)) (h : MV enc w b l) (n : Nat) (hn : l.length = n)
  (hK : wpList Tryz.prog ops Q rest (a.put o.dst (.int .i64 n)) w) : wpList Tryz.prog ops Q (o :: rest) a w := by
 refine wpList_plain hg fun K' hK' => ?_
 have hrun := h.len ht o.type
 rw [hn] at hrun
 unfold Oper.wp
 simp [execOp, hop, resolve, invoke, builtin, hm, hrun, Result.andThen]
 exact hK' _ _ hK
/-- 'len(m)', guarded. -/
theorem wpList_len_mvG (hw : Region.wanted o (yielded ops a.tmps) = true) (m : Operand) (t : TypeId) (hop : o.op = Op.call { callee := Callee.builtin Builtin.len, args := #[m], argTypes := #[t] }) (e : TypeId) (ht : Tryz.prog.underlying t = some (.map 49 e)) (enc : α → Value) (b : Nat) (l : List (I3 × α))
  (hm : a.eval m = .map (some b)) (h : MV enc w b l) (n : Nat) (hn : l.length = n)
  (hK : wpList Tryz.prog ops Q rest (a.put o.dst (.int .i64 n)) w) : wpList Tryz.prog ops Q (o :: rest) a w := by
 refine wpList_value hw (.int .i64 n) w ?_ hK
 have hrun := h.len ht o.type
 rw [hn] at hrun
 simp [execOp, hop, resolve, invoke, builtin, hm, hrun, Result.andThen]
end
end Go.Proofs.YtnancdbkmompdaaGreat
namespace Go.Proofs.YtnancdbkmompdaaGreat
open Go.RowKit Go.Sort Go.Shelf Go.Lib
set_option linter.unusedSimpArgs false
set_option linter.unusedVariables false

theorem setOf_two (v1 v2 : Value) (l1 l2 : List I3) (w : World) (h1 : IK.Rd w v1 l1) (o1 : okL l1) (n1 : l1.length ≤ 1000) (h2 : IK.Rd w v2 l2) (o2 : okL l2) (n2 : l2.length ≤ 1000) :
  Calls Tryz.prog 72 #[.slice (some ⟨w.heap.size, 0, none⟩) 2 2] (w.alloc (.cells #[v1, v2] 34)) (SetP (l1 ++ l2) (w.alloc (.cells #[v1, v2] 34))) := by
 have cS := setOf_any w.heap.size 2 2 [v1, v2] [l1, l2] (w.alloc (.cells #[v1, v2] 34)) rfl rfl (by omega) (by simp)
  (fun i hi => by
   obtain rfl | rfl : i = 0 ∨ i = 1 := by omega
   ·exact new_cell w #[v1, v2] 34 0
   ·exact new_cell w #[v1, v2] 34 1)
  (fun i hi => by
   obtain rfl | rfl : i = 0 ∨ i = 1 := by omega
   ·exact h1.below ((Below.refl _ _).alloc (Nat.le_refl _) _)
   ·exact h2.below ((Below.refl _ _).alloc (Nat.le_refl _) _))
  (fun i hi => by
   obtain rfl | rfl : i = 0 ∨ i = 1 := by omega
   ·exact o1
   ·exact o2)
  (fun i hi => by
   obtain rfl | rfl : i = 0 ∨ i = 1 := by omega
   ·exact n1
   ·exact n2)
 simpa using cS
theorem okL_app {a b : List I3} (h : okL a) (k : okL b) : okL (a ++ b) := fun x hx => by
 rcases List.mem_append.1 hx with q | q
 ·exact h x q
 ·exact k x q
set_option maxRecDepth 100000 in
theorem union_any (v1 v2 : Value) (l1 l2 : List I3) (w : World) (h1 : IK.Rd w v1 l1) (o1 : okL l1) (n1 : l1.length ≤ 1000) (h2 : IK.Rd w v2 l2) (o2 : okL l2) (n2 : l2.length ≤ 1000) :
  Calls Tryz.prog 45 #[v1, v2] w (RowP (uniI l1 l2) w) := by
 have HC := Lib.hid (setOf_two v1 v2 l1 l2 w h1 o1 n1 h2 o2 n2)
 obtain ⟨a1, c1, e1⟩ := h1.slice
 obtain ⟨a2, c2, e2⟩ := h2.slice
 subst e1
 subst e2
 have HO := Lib.hid (okL_app o1 o2)
 clear h1 o1 n1 h2 o2 n2
 go_enter Tryz.func45, Tryz.ntmps45
 go_wp2_with fail
 refine HC.out.mono ?_
 rintro e w1 ⟨rfl, hs1, hb1⟩
 have hz1 := hb1.size
 simp only [World.size_alloc] at hs1 hb1 hz1
 have HR := Lib.hid (risen_any _ (l1 ++ l2) w1 hs1 HO.out)
 have HB1 : Hid (Below w.heap.size w w1) := Lib.hid (((Below.refl w.heap.size w).alloc (Nat.le_refl _) _).trans (hb1.mono (by omega)))
 have HZ1 : Hid (w.heap.size ≤ w1.heap.size) := Lib.hid (by omega)
 simp only [World.size_alloc]
 clear hs1 hb1 hz1 HC
 go_wp2_with fail
 refine HR.out.mono ?_
 rintro e w2 ⟨v2, he, ho2, hb2⟩
 rw [he.out]
 have HO2 := Lib.hid (ho2.base HZ1.out)
 have HB2 := Lib.hid (HB1.out.trans (hb2.mono HZ1.out))
 clear ho2 hb2 he HR
 go_wp2
 go_ret
 exact ⟨_, Lib.hid rfl, HO2.out, HB2.out⟩
shelf_lay_g SlLaysQ.n7 Slgq 7 at Tryz 70 as Tryz.containsIds
theorem eqIds : EqlAt Tryz.prog 49 (fun x => .agg (idE x).toArray) (fun x y : I3 => decide (x = y)) := by
 refine ⟨fun x y w => ?_, GuardAt.agg _ (by kernel_rfl)⟩
 have u3 := Tryz.underlying3
 have a3 := Tryz.isAgg3
 have z3 := Tryz.sizeOf3
 have hS : Tryz.prog.underlying 49 = some (.struct (Tryz.prog.fieldsOf 49)) := by kernel_rfl
 have hp : Tryz.prog.stoodInHeld 49 = false := by kernel_rfl
 simp only [idE]
 rw [run_eql_struct, show (10000 : Nat) = 9999 + 1 from rfl, run_equalIn_agg w 9999 49 _ _ hS hp]
 simp only [Program.fieldsOf, Tryz.underlying49]
 go_simp
 by_cases h1 : x.1 = y.1 <;> by_cases h2 : x.2.1 = y.2.1 <;> by_cases h3 : x.2.2 = y.2.2 <;> simp [h1, h2, h3, Prod.ext_iff]
end Go.Proofs.YtnancdbkmompdaaGreat
namespace Go.Proofs.YtnancdbkmompdaaGreat
open Go.RowKit Go.Sort Go.Shelf Go.Lib
set_option linter.unusedSimpArgs false
set_option linter.unusedVariables false

/-- Two instances compared. -/
theorem eqI_run (a1 a2 a3 b1 b2 b3 : Int) : (∀ w, Sem.run Tryz.prog (binOp .eql 49 (.agg #[.int .i64 a1, .int .i64 a2, .int .i64 a3]) (.agg #[.int .i64 b1, .int .i64 b2, .int .i64 b3])) w = .ok (.bool (decide (((a1, a2, a3) : I3) = (b1, b2, b3)))) w) ∧
  (∀ op x y w, Sem.run Tryz.prog (eqGuard op 49 x y (.agg #[.int .i64 a1, .int .i64 a2, .int .i64 a3]) (.agg #[.int .i64 b1, .int .i64 b2, .int .i64 b3])) w = .ok () w) :=
 ⟨fun w => eqIds.1 (a1, a2, a3) (b1, b2, b3) w, fun op x y w => eqIds.2 op x y (a1, a2, a3) (b1, b2, b3) w⟩
theorem index_none (a : Option Addr) (c : Nat) (x1 x2 x3 : Int) (w : World) :
  Calls Tryz.prog 90 #[.slice a 0 c, .agg #[.int .i64 x1, .int .i64 x2, .int .i64 x3]] w fun e w' => e = .returned (.int .i64 (-1)) ∧ Grew w w' := by
 go_enter Tryz.func90, Tryz.ntmps90
 go_wp2
 refine wp_loop_rounds 1 ?_
 rw [rounds_succ]
 go_wp2
 go_ret
 exact ⟨rfl, grew_alloc _ _⟩
set_option maxRecDepth 100000 in
theorem has_any (v : Value) (l : List I3) (x1 x2 x3 : Int) (w : World) (h : IK.Rd w v l) (hn : l.length ≤ 1000) :
  Calls Tryz.prog 44 #[v, .agg #[.int .i64 x1, .int .i64 x2, .int .i64 x3]] w fun e w' => e = .returned (.bool (hasI l (x1, x2, x3))) ∧ Below w.heap.size w w' := by
 obtain ⟨a, c, e⟩ := h.slice
 subst e
 by_cases h0 : l = []
 ·subst h0
  have hI := fun W => index_none a c x1 x2 x3 W
  have HI := Lib.hid hI
  clear h hI
  have hc : ∀ W : World, Calls Tryz.prog 70 #[.slice a 0 c, .agg #[.int .i64 x1, .int .i64 x2, .int .i64 x3]] W fun e w' => e = .returned (.bool false) ∧ Grew W w' := by
   intro W
   go_enter Tryz.func70, Tryz.ntmps70
   go_wp2_with fail
   refine (HI.out _).mono ?_
   rintro e w1 ⟨rfl, hg⟩
   have HG := Lib.hid hg
   clear hg
   go_wp2
   go_ret
   exact ⟨rfl, (grew_alloc _ _).trans HG.out⟩
  have HC := Lib.hid hc
  clear hc HI
  show Calls Tryz.prog _ #[.slice a 0 c, _] w _
  go_enter Tryz.func44, Tryz.ntmps44
  go_wp2_with fail
  refine (HC.out _).mono ?_
  rintro e w1 ⟨rfl, hg⟩
  have HG := Lib.hid hg
  clear hg
  go_wp2
  go_ret
  exact ⟨rfl, ((grew_alloc _ _).trans HG.out).below⟩
 ·obtain ⟨_, g, off, rfl, hg, hc⟩ := h.at h0
  have hB : Below w.heap.size w (w.alloc (.cells #[.int .i64 x1, .int .i64 x2, .int .i64 x3] 49)) := (Below.refl _ _).alloc (Nat.le_refl _) _
  have hcon := AnyQ.slices_Contains Tryz.containsIds 3 Tryz.isAgg49 Tryz.sizeOf49 idE (fun _ => rfl) (fun x y => decide (x = y)) eqIds g off l.length c l (x1, x2, x3) (w.alloc (.cells #[.int .i64 x1, .int .i64 x2, .int .i64 x3] 49)) (Nat.le_refl _) (by omega)
   (fun j hj i v hv => (hB.cell (p := ⟨g, off + j * 3 + i, none⟩) hg).trans (hc j hj i v (by
    have e : l.getD j IK.d = l[j]! := by rw [getElem!_pos l j hj]; simp [List.getD, hj]
    rw [e]
    exact hv)))
  change Calls Tryz.prog 70 _ _ _ at hcon
  rw [List.take_length] at hcon
  have e : (l.any fun y => decide ((x1, x2, x3) = y)) = hasI l (x1, x2, x3) := by unfold hasI; congr 1; funext y; rw [decide_eq_decide]; exact eq_comm
  rw [e] at hcon
  obtain ⟨R, hR⟩ : ∃ R, hasI l (x1, x2, x3) = R := ⟨_, rfl⟩
  rw [hR] at hcon ⊢
  obtain ⟨N, hN⟩ : ∃ N, l.length = N := ⟨_, rfl⟩
  rw [hN] at hcon ⊢
  have HCON := Lib.hid hcon
  have HB := Lib.hid hB
  clear hcon hB hc hR e h hN hn
  go_enter Tryz.func44, Tryz.ntmps44
  go_wp2_with fail
  refine HCON.out.mono ?_
  rintro e w1 ⟨rfl, hg⟩
  have HG := Lib.hid hg
  clear hg
  go_wp2
  go_ret
  exact ⟨rfl, HB.out.trans (HG.out.mono (by simp))⟩
end Go.Proofs.YtnancdbkmompdaaGreat
namespace Go.Proofs.YtnancdbkmompdaaGreat
open Go.RowKit Go.Sort
open Go.WideMaps
set_option linter.unusedSimpArgs false
set_option linter.unusedVariables false

theorem RowIs.typed {P : Program} {k : Nat} {R : Knd P (Cls k)} {α : Type} {S : Shp α} {K : Knd P α} {w : World} {v : Value} {rs : List (Cls k)} {l : List α} (h : RowIs R S w v rs l) (hR : R.enc = Cls.cs) (hS : ∀ w cs x, S.is w cs x → cs = K.enc x) : K.Rd w v l := by
 have e : R.row rs = K.row l := by
  unfold Knd.row
  rw [hR, List.flatMap_def, List.flatMap_def]
  congr 1
  refine List.ext_getElem (by simp [h.len]) fun j h1 h2 => ?_
  simp only [List.getElem_map]
  exact hS _ _ _ (h.at' j (by simpa using h1) (by simpa using h2))
 obtain ⟨a, c, hv, h1, h2, h3⟩ := h.rd
 rw [h.len] at hv h1
 refine ⟨a, c, hv, h1, h2, ?_⟩
 rw [e] at h3
 rcases h3 with h3 | h3
 ·left
  have := h.len
  rw [h3] at this
  exact List.eq_nil_of_length_eq_zero this.symm
 ·exact .inr h3
theorem irow_of {w : World} {a : Option Addr} {n c : Nat} {rs : List (Cls 1)} {l : List Int} (h : RowIs KN numS w (.slice a n c) rs l) (hl : l.length ≤ 1000000) : Cv.IRow w a l ∧ n = l.length := by
 have hn : n = rs.length := by obtain ⟨_, _, e⟩ := h.rd.slice; simp only [Value.slice.injEq] at e; exact e.2.1
 refine ⟨⟨by omega, ?_⟩, by rw [hn, h.len]⟩
 by_cases q : l = []
 ·exact .inl q
 ·right
  have hp : 0 < l.length := List.length_pos_iff.2 q
  obtain ⟨_, _, g, off, cs, ha, hg, _, _⟩ := h.el rfl 0 (by rw [hn, h.len]; exact hp)
  refine ⟨g, off, ha, hg, fun i hi => ?_⟩
  obtain ⟨_, hli, g2, off2, cs2, ha2, _, hc2, hcel⟩ := h.el rfl i (by rw [hn, h.len]; exact hi)
  rw [ha] at ha2
  simp only [Option.some.injEq, Addr.mk.injEq, and_true] at ha2
  obtain ⟨rfl, rfl⟩ := ha2
  have hc2 : cs2 = [.int .i64 l[i]] := hc2
  subst hc2
  have := hcel 0 _ rfl
  simpa [KN, rawK, List.getD, hi] using this
theorem cvalid (n0 : Int) (a : Option Addr) (m c : Nat) (rs : List (Cls 1)) (l : List Int) (w : World) (h : RowIs KN numS w (.slice a m c) rs l) (hl : l.length ≤ 1000000) : Calls Tryz.prog 43 #[.agg #[.int .i64 n0, .slice a m c]] w fun e w' => e = .returned (.bool (Cv.valB n0 l)) ∧ Below w.heap.size w w' := by
 obtain ⟨h1, rfl⟩ := irow_of h hl
 exact Cv.valid_any n0 a c l w h1
/-- A value is an instance whose row is a state's. -/
def InO (w : World) (v : Value) (y : Ins) : Prop := ∃ u, v = .agg (inV y u).toArray ∧ y.2.2.2.1.2.2.2.1.size ≤ maxLen ∧ y.2.2.2.1.2.2.2.2.1.size ≤ maxLen ∧ RowO KI idS w u y.2.2.2.2.2
theorem InO.keepT {w w' : World} {v : Value} {y : Ins} (h : InO w v y) (hk : KeepT w w') : InO w' v y := by
 obtain ⟨u, e, h1, h2, h3⟩ := h
 exact ⟨u, e, h1, h2, h3.keepT hk (.inr (.inr (.inr (.inr rfl)))) (fun _ _ q => q)⟩
theorem InO.in {w : World} {v : Value} {y : Ins} (h : InO w v y) : ∃ cs : Array Value, v = .agg cs ∧ inS.is w cs.toList y := by
 obtain ⟨u, e, h1, h2, rs, _, h3⟩ := h
 exact ⟨_, e, by simpa using in_mk (x := y) h1 h2 h3⟩
structure OfIs (w : World) (E : List (I3 × Value)) (M : List (I3 × Ins)) : Prop where
 keys : keysV E = keysV M
 nd : (keysV E).Nodup
 at' : ∀ id v, getV E id = some v → ∃ y, getV M id = some y ∧ InO w v y
theorem OfIs.keepT {w w' : World} {E : List (I3 × Value)} {M : List (I3 × Ins)} (h : OfIs w E M) (hk : KeepT w w') : OfIs w' E M := ⟨h.keys, h.nd, fun id v e => by obtain ⟨y, h1, h2⟩ := h.at' id v e; exact ⟨y, h1, h2.keepT hk⟩⟩
theorem OfIs.nil (w : World) : OfIs w [] [] := ⟨rfl, by simp, fun id v e => by cases e⟩
/-- A state: its cells. -/
structure StIs (w : World) (cs : Array Value) (b : Nat) (x : Snp) (L : List I3) (M : List (I3 × Ins)) : Prop where
 cells : ∃ v1 v2 v3 v4, cs = #[.int .i64 x.1.1, v1, v2, v3, v4, .map (some b)] ∧ SnO w v1 v2 v3 x ∧ IK.Own w 0 v4 L
 okl : ∀ id ∈ L, okI id
 mv : ∃ E, MV (fun v => v) w b E ∧ OfIs w E M
theorem ik_keepT {w w' : World} {v : Value} {l : List I3} (h : IK.Own w 0 v l) (hk : KeepT w w') : IK.Own w' 0 v l := h.keepB fun i hi => by
 obtain ⟨_, cs, fr, q⟩ := h.blk i hi
 exact hk i cs IK.T fr q (.inr (.inr (.inr (.inr rfl))))
theorem StIs.keepT {w w' : World} {cs : Array Value} {b : Nat} {x : Snp} {L : List I3} {M : List (I3 × Ins)} (h : StIs w cs b x L M) (hk : KeepT w w') (hb : w'.heap[b]? = w.heap[b]?) : StIs w' cs b x L M := by
 obtain ⟨v1, v2, v3, v4, e, h1, h2⟩ := h.cells
 obtain ⟨E, k1, k2⟩ := h.mv
 exact ⟨⟨v1, v2, v3, v4, e, h1.keepT hk, ik_keepT h2 hk⟩, h.okl, E, k1.same hb, k2.keepT hk⟩
theorem StIs.lt {w : World} {cs : Array Value} {b : Nat} {x : Snp} {L : List I3} {M : List (I3 × Ins)} (h : StIs w cs b x L M) : b < w.heap.size := by
 obtain ⟨E, k1, k2⟩ := h.mv
 exact k1.lt
theorem StIs.on {w w' : World} {cs : Array Value} {b : Nat} {x : Snp} {L : List I3} {M : List (I3 × Ins)} (h : StIs w cs b x L M) (hb : Below w.heap.size w w') : StIs w' cs b x L M := h.keepT (KeepT.of_below hb) (hb.block b h.lt)
def BgP (x : Snp) (w : World) (e : Ending) (w' : World) : Prop := ∃ (cs : Array Value) (b : Nat), Hid (e = .returned (.agg cs)) ∧ (∀ w'' : World, (∀ k, w.heap.size ≤ k → k < w'.heap.size → w''.heap[k]? = w'.heap[k]?) → StIs w'' cs b x [] []) ∧ w.heap.size ≤ b ∧ Below w.heap.size w w'
set_option maxRecDepth 100000 in
set_option maxHeartbeats 4000000 in
theorem begun_any (x : Snp) (ca : Array Value) (w : World) (h : snS.is w ca.toList x) (hN : Sn6 x) : Calls Tryz.prog 19 #[.agg ca] w (BgP x w) := by
 obtain ⟨a1, m1, c1, rs1, a2, m2, c2, rs2, a3, m3, c3, rs3, hcs, k1, k2, k3⟩ := sn_is h
 obtain ⟨⟨n0, l1⟩, l2, l3⟩ := x
 obtain rfl : ca = #[.int .i64 n0, .slice a1 m1 c1, .slice a2 m2 c2, .slice a3 m3 c3] := by
  cases ca
  simpa [snV] using hcs
 obtain ⟨X, hX⟩ : ∃ X, (w.alloc (.cells #[.int .i64 n0, .slice a1 m1 c1, .slice a2 m2 c2, .slice a3 m3 c3] 28)).alloc (.cells #[.int .i64 0, .slice none 0 0, .slice none 0 0, .slice none 0 0, .slice none 0 0, .map none] 37) = X := ⟨_, rfl⟩
 have hB : Below w.heap.size w X := by rw [← hX]; exact ((Below.refl _ _).alloc (Nat.le_refl _) _).alloc (by simp) _
 have hb1 : Bk X w.heap.size 28 [.int .i64 n0, .slice a1 m1 c1, .slice a2 m2 c2, .slice a3 m3 c3] := by rw [← hX]; exact (Bk.new w _ _).old _
 have hb2 : Bk X (w.heap.size + 1) 37 [.int .i64 0, .slice none 0 0, .slice none 0 0, .slice none 0 0, .slice none 0 0, .map none] := by rw [← hX]; have := Bk.new (w.alloc (.cells #[.int .i64 n0, .slice a1 m1 c1, .slice a2 m2 c2, .slice a3 m3 c3] 28)) 37 [.int .i64 0, .slice none 0 0, .slice none 0 0, .slice none 0 0, .slice none 0 0, .map none]; rwa [World.size_alloc] at this
 have HB := Lib.hid hB
 have H1 := Lib.hid hb1
 have H2 := Lib.hid hb2
 have HC := Lib.hid (csnap ((n0, l1), l2, l3) #[.int .i64 n0, .slice a1 m1 c1, .slice a2 m2 c2, .slice a3 m3 c3] X (snS.keep h hB) hN)
 have HXi : Hid ((Tryz.prog.info? 28).map (·.size) = some 4) := Lib.hid (by kernel_rfl)
 have HXt : Hid ((Tryz.prog.info? 37).map (·.size) = some 6) := Lib.hid (by kernel_rfl)
 clear h hN hcs k1 k2 k3 hB hb1 hb2
 have hmm := @run_makeMap Tryz.prog
 go_enter Tryz.func19, Tryz.ntmps19
 go_wp2_with (refine wpList_load_row rfl _ _ rfl w.heap.size rfl 28 #[.int .i64 n0, .slice a1 m1 c1, .slice a2 m2 c2, .slice a3 m3 c3] (0, 0) _ H1.out Tryz.underlying28 rfl HXi.out ?_)
 refine HC.out.mono ?_
 rintro e w1 ⟨u1, u2, u3, he, hs, hb⟩
 obtain ⟨b1, d1, b2, d2, b3, d3, e1, e2, e3⟩ := (hs w1 (fun _ _ _ => rfl)).slices
 obtain ⟨n1, hn1⟩ : ∃ q, l1.length = q := ⟨_, rfl⟩
 obtain ⟨n2, hn2⟩ : ∃ q, l2.length = q := ⟨_, rfl⟩
 obtain ⟨n3, hn3⟩ : ∃ q, l3.length = q := ⟨_, rfl⟩
 simp only [hn1] at e1
 simp only [hn2] at e2
 simp only [hn3] at e3
 subst e1 e2 e3
 rw [he.out]
 have H2b := Lib.hid ((H2.out.below hb).below ((Below.refl _ _).alloc (Nat.le_refl _) (.map #[] 0)))
 have HB1 := Lib.hid ((HB.out.trans (hb.mono HB.out.size)).alloc (Nat.le_trans HB.out.size hb.size) (.map #[] 0))
 have HSz := Lib.hid (show w.heap.size + 1 < w1.heap.size from (H2.out.below hb).lt)
 have HS := Lib.hid hs
 have HXz := Lib.hid (show X.heap.size = w.heap.size + 2 by rw [← hX]; simp)
 clear he hs hb hn1 hn2 hn3 hX
 go_wp2_with (refine wpList_store_row rfl 37 _ _ rfl (w.heap.size + 1) rfl #[.int .i64 n0, .slice b1 n1 d1, .slice b2 n2 d2, .slice b3 n3 d3, .slice none 0 0, .map (some w1.heap.size)] rfl #[.int .i64 0, .slice none 0 0, .slice none 0 0, .slice none 0 0, .slice none 0 0, .map none] 37 H2b.out HXt.out rfl (by rw [← Array.all_toList]; rfl) ?_)
 have hfar : ∀ k, k ≠ w.heap.size + 1 → ((w1.alloc (.map #[] 0)).setRow (w.heap.size + 1) #[.int .i64 n0, .slice b1 n1 d1, .slice b2 n2 d2, .slice b3 n3 d3, .slice none 0 0, .map (some w1.heap.size)]).heap[k]? = (w1.alloc (.map #[] 0)).heap[k]? := fun k hk => (sx_setRow _ (w.heap.size + 1) #[.int .i64 n0, .slice b1 n1 d1, .slice b2 n2 d2, .slice b3 n3 d3, .slice none 0 0, .map (some w1.heap.size)]).block k hk
 have hlv := run_loadVar_row ((w1.alloc (.map #[] 0)).setRow (w.heap.size + 1) #[.int .i64 n0, .slice b1 n1 d1, .slice b2 n2 d2, .slice b3 n3 d3, .slice none 0 0, .map (some w1.heap.size)]) _ _ _ #[.int .i64 n0, .slice b1 n1 d1, .slice b2 n2 d2, .slice b3 n3 d3, .slice none 0 0, .map (some w1.heap.size)] (0, 0) _ (heap_setRow_same _ _ #[.int .i64 0, .slice none 0 0, .slice none 0 0, .slice none 0 0, .slice none 0 0, .map none] #[.int .i64 n0, .slice b1 n1 d1, .slice b2 n2 d2, .slice b3 n3 d3, .slice none 0 0, .map (some w1.heap.size)] _ H2b.out) Tryz.underlying37 rfl HXt.out
 have hBf := below_setRow HB1.out (show w.heap.size ≤ w.heap.size + 1 by omega) #[.int .i64 n0, .slice b1 n1 d1, .slice b2 n2 d2, .slice b3 n3 d3, .slice none 0 0, .map (some w1.heap.size)]
 have hsz : ((w1.alloc (.map #[] 0)).setRow (w.heap.size + 1) #[.int .i64 n0, .slice b1 n1 d1, .slice b2 n2 d2, .slice b3 n3 d3, .slice none 0 0, .map (some w1.heap.size)]).heap.size = w1.heap.size + 1 := by rw [(sx_setRow _ (w.heap.size + 1) #[.int .i64 n0, .slice b1 n1 d1, .slice b2 n2 d2, .slice b3 n3 d3, .slice none 0 0, .map (some w1.heap.size)]).size]; simp
 have hSt : ∀ w'' : World, (∀ k, w.heap.size ≤ k → k < ((w1.alloc (.map #[] 0)).setRow (w.heap.size + 1) #[.int .i64 n0, .slice b1 n1 d1, .slice b2 n2 d2, .slice b3 n3 d3, .slice none 0 0, .map (some w1.heap.size)]).heap.size → w''.heap[k]? = ((w1.alloc (.map #[] 0)).setRow (w.heap.size + 1) #[.int .i64 n0, .slice b1 n1 d1, .slice b2 n2 d2, .slice b3 n3 d3, .slice none 0 0, .map (some w1.heap.size)]).heap[k]?) → StIs w'' #[.int .i64 n0, .slice b1 n1 d1, .slice b2 n2 d2, .slice b3 n3 d3, .slice none 0 0, .map (some w1.heap.size)] w1.heap.size ((n0, l1), l2, l3) [] [] := fun w'' hw => by
  have hsn := HS.out w'' (fun k h1 h2 => (hw k (by have := HXz.out; omega) (by omega)).trans ((hfar k (by have := HXz.out; omega)).trans (Below.heap_alloc _ _ _ h2)))
  refine ⟨⟨_, _, _, _, rfl, hsn, Knd.Own.nil _ _⟩, fun id h => (by cases h), [], ?_, OfIs.nil _⟩
  refine (MV.made (fun v => v) w1).same ?_
  rw [hw w1.heap.size (by have := HSz.out; omega) (by omega), hfar _ (by have := HSz.out; omega)]
 exact bodyPost_ret (v := .agg #[.int .i64 n0, .slice b1 n1 d1, .slice b2 n2 d2, .slice b3 n3 d3, .slice none 0 0, .map (some w1.heap.size)]) (by simp [results, Tryz.results19, asAddr, Act.put, hlv]) rfl ⟨#[.int .i64 n0, .slice b1 n1 d1, .slice b2 n2 d2, .slice b3 n3 d3, .slice none 0 0, .map (some w1.heap.size)], w1.heap.size, rfl, hSt, by have := HSz.out; omega, hBf⟩
end Go.Proofs.YtnancdbkmompdaaGreat
