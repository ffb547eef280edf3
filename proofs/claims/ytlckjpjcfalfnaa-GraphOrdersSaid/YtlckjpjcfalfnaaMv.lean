/-
  Maps whose keys are instances: their entries as a list, whatever the values are.
-/
import Derived.Test.YtlckjpjcfalfnaaIds5
namespace Go.Proofs.Ytlckjpjcfalfnaa
open Go.RowKit Go.Sort
set_option linter.unusedSimpArgs false
set_option linter.unusedVariables false
set_option maxRecDepth 100000

/-- How any value reads. -/
def vR : Value → Option (DataW Value × List MemPlace) := fun v => some (.held v, [])
section
variable {α : Type}
def getV (l : List (I3 × α)) (x : I3) : Option α := (l.find? fun e => decide (e.1 = x)).map (·.2)
def delV (l : List (I3 × α)) (x : I3) : List (I3 × α) := l.filter fun e => decide (e.1 ≠ x)
def putV (l : List (I3 × α)) (x : I3) (v : α) : List (I3 × α) := delV l x ++ [(x, v)]
abbrev keysV (l : List (I3 × α)) : List I3 := l.map (·.1)
theorem getV_nil (x : I3) : getV ([] : List (I3 × α)) x = none := rfl
theorem getV_none {l : List (I3 × α)} {x : I3} : getV l x = none ↔ ∀ v, (x, v) ∉ l := by
  unfold getV
  rw [Option.map_eq_none_iff, List.find?_eq_none]
  constructor
  · intro h v hv
    exact h _ hv (by simp)
  · intro h e he q
    have : e.1 = x := by simpa using q
    subst this
    exact h e.2 he
theorem getV_some {l : List (I3 × α)} (hn : (keysV l).Nodup) {x : I3} {v : α} : getV l x = some v ↔ (x, v) ∈ l := by
  constructor
  · intro h
    unfold getV at h
    rw [Option.map_eq_some_iff] at h
    obtain ⟨e, h1, h2⟩ := h
    have h3 := List.mem_of_find?_eq_some h1
    have h4 : e.1 = x := by simpa using List.find?_some h1
    subst h4 h2
    exact h3
  · intro h
    induction l with
    | nil => cases h
    | cons a l ih =>
      have hp := List.nodup_cons.1 hn
      unfold getV
      rw [List.find?_cons]
      rcases List.mem_cons.1 h with q | q
      · subst q; simp
      · have hne : a.1 ≠ x := fun e => hp.1 (List.mem_map.2 ⟨_, q, e.symm⟩)
        rw [decide_eq_false hne]
        exact ih hp.2 q
theorem getV_isSome {l : List (I3 × α)} {x : I3} : (getV l x).isSome = hasI (keysV l) x := by
  rw [Bool.eq_iff_iff, hasI_iff, Option.isSome_iff_ne_none, Ne, getV_none]
  constructor
  · intro h
    apply Classical.byContradiction
    intro q
    exact h fun v hv => q (List.mem_map.2 ⟨_, hv, rfl⟩)
  · intro h q
    obtain ⟨e, he, rfl⟩ := List.mem_map.1 h
    exact q e.2 he
theorem mem_delV {l : List (I3 × α)} {x : I3} {e : I3 × α} : e ∈ delV l x ↔ e ∈ l ∧ e.1 ≠ x := by
  unfold delV
  rw [List.mem_filter]
  simp
theorem keys_delV (l : List (I3 × α)) (x : I3) : keysV (delV l x) = (keysV l).filter fun y => decide (y ≠ x) := by
  unfold delV keysV
  rw [List.filter_map]
  rfl
theorem nodup_delV {l : List (I3 × α)} (h : (keysV l).Nodup) (x : I3) : (keysV (delV l x)).Nodup := by
  rw [keys_delV]
  exact h.sublist List.filter_sublist
theorem nodup_putV {l : List (I3 × α)} (h : (keysV l).Nodup) (x : I3) (v : α) : (keysV (putV l x v)).Nodup := by
  unfold putV keysV
  rw [List.map_append, List.nodup_append]
  refine ⟨nodup_delV h x, by simp, ?_⟩
  intro a ha b hb e
  have hb2 : b = x := by simpa using hb
  obtain ⟨q, hq, rfl⟩ := List.mem_map.1 ha
  exact (mem_delV.1 hq).2 (e.trans hb2)
theorem getV_put {l : List (I3 × α)} (h : (keysV l).Nodup) (x : I3) (v : α) (y : I3) : getV (putV l x v) y = if y = x then some v else getV l y := by
  split
  · rename_i e
    subst e
    exact (getV_some (nodup_putV h y v)).2 (by unfold putV; simp)
  · rename_i e
    cases q : getV l y with
    | none =>
      rw [getV_none] at q ⊢
      intro u hu
      unfold putV at hu
      rcases List.mem_append.1 hu with r | r
      · exact q u (mem_delV.1 r).1
      · simp at r; exact e r.1
    | some u =>
      rw [getV_some h] at q
      rw [getV_some (nodup_putV h x v)]
      unfold putV
      exact List.mem_append.2 (.inl (mem_delV.2 ⟨q, e⟩))
theorem getV_del {l : List (I3 × α)} (h : (keysV l).Nodup) (x : I3) (y : I3) : getV (delV l x) y = if y = x then none else getV l y := by
  split
  · rename_i e
    subst e
    rw [getV_none]
    intro u hu
    exact (mem_delV.1 hu).2 rfl
  · rename_i e
    cases q : getV l y with
    | none =>
      rw [getV_none] at q ⊢
      intro u hu
      exact q u (mem_delV.1 hu).1
    | some u =>
      rw [getV_some h] at q
      rw [getV_some (nodup_delV h x)]
      exact mem_delV.2 ⟨q, e⟩
theorem len_delV {l : List (I3 × α)} (h : (keysV l).Nodup) (x : I3) : (delV l x).length + (if (getV l x).isSome then 1 else 0) = l.length := by
  have q := filter_ne_len (keysV l) x h
  rw [← keys_delV] at q
  rw [getV_isSome]
  simpa using q
theorem len_putV {l : List (I3 × α)} (h : (keysV l).Nodup) (x : I3) (v : α) : (putV l x v).length = if (getV l x).isSome then l.length else l.length + 1 := by
  have q := len_delV h x
  unfold putV
  rw [List.length_append]
  split at q <;> simp_all <;> omega
end
section
variable {α : Type} {enc : α → Value} {w : World} {b : Nat} {l : List (I3 × α)}
/-- The map at a block has these entries. -/
structure MV (enc : α → Value) (w : World) (b : Nat) (l : List (I3 × α)) : Prop where
  own : ∃ D, w.ownsMap (H := Value) Try.prog 25 vR b l.length D ∧ Maps.Tidy D ∧ Maps.size D = l.length ∧ (∀ x, okI x → Maps.has D (kf x) = (getV l x).isSome) ∧ (∀ x a, okI x → getV l x = some a → ∀ z, D.atKey (kf x) z = .held (enc a))
  keys : ∀ e ∈ l, okI e.1
  nodup : (keysV l).Nodup
theorem owns_tight {H : Type} {P : Program} {k : TypeId} {R : Value → Option (DataW H × List MemPlace)} {n : Nat} {D : DataW H} (h : w.ownsMap P k R b n D) : w.ownsMap P k R b (Maps.size D) D := by
  obtain ⟨es, clock, hb, F, hs, rfl⟩ := h
  refine ⟨es, clock, hb, F, ?_, rfl⟩
  simp [Maps.size, length_read]
theorem MV.lt (h : MV enc w b l) : b < w.heap.size := by obtain ⟨D, hD, _⟩ := h.own; exact hD.lt
theorem MV.kept {w' : World} {row : Option Nat} (h : MV enc w b l) (hg : w.grownBy w' row) (hne : some b ≠ row) : MV enc w' b l := by
  obtain ⟨D, h1, h2⟩ := h.own
  exact ⟨⟨D, h1.kept hg hne, h2⟩, h.keys, h.nodup⟩
theorem MV.below {w' : World} (h : MV enc w b l) (hb : Below w.heap.size w w') : MV enc w' b l :=
  h.kept (row := none) ⟨hb.os, hb.tape, hb.output, hb.size, fun k hk _ => hb.block k hk⟩ (by simp)
theorem MV.same {w' : World} (h : MV enc w b l) (e : w'.heap[b]? = w.heap[b]?) : MV enc w' b l := by
  obtain ⟨D, ⟨es, ck, hb, hF⟩, h2⟩ := h.own
  exact ⟨⟨D, ⟨es, ck, e.trans hb, hF⟩, h2⟩, h.keys, h.nodup⟩
theorem MV.on {N : Nat} {w' : World} (h : MV enc w b l) (hb : Below N w w') (hN : b < N) : MV enc w' b l := h.same (hb.block b hN)
theorem MV.setCell (h : MV enc w b l) {a : Addr} (ha : b ≠ a.block) (u : Value) : MV enc (w.setCell a u) b l := by
  obtain ⟨D, h1, h2⟩ := h.own
  exact ⟨⟨D, h1.setCell ha u, h2⟩, h.keys, h.nodup⟩
theorem MV.made (enc : α → Value) (w : World) : MV enc (w.alloc (.map #[] 0)) w.heap.size [] :=
  ⟨⟨.map [], World.ownsMap_made _ _ _ _, Maps.tidy_empty, rfl, fun x _ => rfl, fun x a _ h => by cases h⟩, (fun e h => by cases h), List.nodup_nil⟩
/-- No block of cells is the map's. -/
theorem MV.blkNe (h : MV enc w b l) : ∀ k cs T fr, w.heap[k]? = some (.cells cs T fr) → k ≠ b := by
  rintro k cs T fr hc rfl
  obtain ⟨D, ⟨es, ck, hb, _⟩, _⟩ := h.own
  rw [hb] at hc
  cases hc
theorem MV.look {t e : TypeId} (h : MV enc w b l) (ht : Try.prog.underlying t = some (.map 25 e)) {z : Value} (hz : (zeroValue e).run Try.prog w = .ok z w) {x : I3} (hx : okI x) : (Instr.lookup t (.map (some b)) (idV x) false).run Try.prog w = .ok (((getV l x).map enc).getD z) w := by
  obtain ⟨D, h1, _, _, h4, h5⟩ := h.own
  obtain ⟨v, ps, hr, hv⟩ := h1.lookup idLaw ht hz (zd := .held z) (zp := []) rfl (kf_key hx)
  have hv2 : DataW.held v = D.atKey (kf x) (.held z) := (Prod.mk.inj (Option.some.inj hv)).1
  rw [hr]
  cases q : getV l x with
  | none =>
    have h6 := h4 x hx
    rw [q] at h6
    rw [Maps.atKey_of_not_has h6] at hv2
    injection hv2 with e
    rw [e]; rfl
  | some a =>
    rw [h5 x a hx q] at hv2
    injection hv2 with e
    rw [e]; rfl
theorem MV.look2 {t e : TypeId} (h : MV enc w b l) (ht : Try.prog.underlying t = some (.map 25 e)) {z : Value} (hz : (zeroValue e).run Try.prog w = .ok z w) {x : I3} (hx : okI x) : (Instr.lookup t (.map (some b)) (idV x) true).run Try.prog w = .ok (.tuple #[((getV l x).map enc).getD z, .bool (getV l x).isSome]) w := by
  obtain ⟨D, h1, _, _, h4, h5⟩ := h.own
  obtain ⟨v, ps, hr, hv⟩ := h1.look_ok idLaw ht hz (zd := .held z) (zp := []) rfl (kf_key hx)
  have hv2 : DataW.held v = D.atKey (kf x) (.held z) := (Prod.mk.inj (Option.some.inj hv)).1
  rw [hr, h4 x hx]
  cases q : getV l x with
  | none =>
    have h6 := h4 x hx
    rw [q] at h6
    rw [Maps.atKey_of_not_has h6] at hv2
    injection hv2 with e
    rw [e]; rfl
  | some a =>
    rw [h5 x a hx q] at hv2
    injection hv2 with e
    rw [e]; rfl
theorem MV.len {t e : TypeId} (h : MV enc w b l) (ht : Try.prog.underlying t = some (.map 25 e)) (ty : TypeId) : (Builtin.len_ #[t] ty #[.map (some b)]).run Try.prog w = .ok (.int .i64 l.length) w := by
  obtain ⟨D, h1, _, h3, _⟩ := h.own
  rw [h1.len ht ty, h3]
theorem MV.put {t e : TypeId} (h : MV enc w b l) (ht : Try.prog.underlying t = some (.map 25 e)) (hn : l.length < maxLen) {x : I3} (hx : okI x) (a : α) : ∃ w', (Instr.mapUpdate t (.map (some b)) (idV x) (enc a)).run Try.prog w = .ok () w' ∧ MV enc w' b (putV l x a) ∧ w.mapTurned w' b := by
  obtain ⟨D, h1, h2, h3, h4, h5⟩ := h.own
  obtain ⟨w', r1, r2, r3⟩ := h1.store idLaw ht hn (d := .held (enc a)) (ps := []) (kf_key hx) rfl
  have hs : Maps.size (D.put (kf x) (.held (enc a))) = (putV l x a).length := by
    rw [Maps.size_put h2, h4 x hx, h3, len_putV h.nodup]
  refine ⟨w', r1, ⟨⟨_, by rw [← hs]; exact owns_tight r2, h2.put (kf_lit hx) _, hs, fun y hy => ?_, fun y c hy hc z => ?_⟩, fun e he => ?_, nodup_putV h.nodup x a⟩, r3⟩
  · rw [getV_put h.nodup]
    by_cases q : y = x
    · subst q
      rw [Maps.has_put_same h2.isMap (kf_lit hy), if_pos rfl]; rfl
    · rw [Maps.has_put_other (fun r => q (kf_inj hy hx r)), if_neg q, h4 y hy]
  · rw [getV_put h.nodup] at hc
    by_cases q : y = x
    · subst q
      rw [if_pos rfl] at hc
      rw [Maps.atKey_put_same h2.isMap (kf_lit hy), Option.some.inj hc]
    · rw [if_neg q] at hc
      rw [Maps.atKey_put_other (fun r => q (kf_inj hy hx r))]
      exact h5 y c hy hc z
  · unfold putV at he
    rcases List.mem_append.1 he with q | q
    · exact h.keys e (mem_delV.1 q).1
    · simp at q; subst q; exact hx
theorem MV.del {t e : TypeId} (h : MV enc w b l) (ht : Try.prog.underlying t = some (.map 25 e)) {x : I3} (hx : okI x) (ty : TypeId) : ∃ w', (Builtin.delete_ #[t, 25] ty #[.map (some b), idV x]).run Try.prog w = .ok (.tuple #[]) w' ∧ MV enc w' b (delV l x) ∧ w.mapTurned w' b := by
  obtain ⟨D, h1, h2, h3, h4, h5⟩ := h.own
  obtain ⟨w', r1, r2, r3⟩ := h1.drop idLaw ht (kf_key hx) ty
  have hs : Maps.size (D.del (kf x)) = (delV l x).length := by
    have q1 := Maps.size_del (k := kf x) h2
    have q2 := len_delV h.nodup x
    rw [h4 x hx, h3] at q1
    omega
  refine ⟨w', r1, ⟨⟨_, by rw [← hs]; exact owns_tight r2, h2.del _, hs, fun y hy => ?_, fun y c hy hc z => ?_⟩, fun e he => h.keys e (mem_delV.1 he).1, nodup_delV h.nodup x⟩, r3⟩
  · rw [getV_del h.nodup]
    by_cases q : y = x
    · subst q
      rw [Maps.has_del_same, if_pos rfl]; rfl
    · rw [Maps.has_del_other (fun r => q (kf_inj hy hx r)), if_neg q, h4 y hy]
  · rw [getV_del h.nodup] at hc
    by_cases q : y = x
    · rw [if_pos q] at hc; cases hc
    · rw [if_neg q] at hc
      rw [Maps.atKey_del_other (fun r => q (kf_inj hy hx r))]
      exact h5 y c hy hc z
end
section
variable {α : Type} {ops : Array Oper} {rest : List Oper} {o : Oper} {a : Act} {w : World} {Q : Exit → Act → World → Prop}
/-- 'm[x] = v'. -/
theorem wpList_put_mv (hg : o.guard = none) (m x v : Operand) (t : TypeId) (hop : o.op = Op.mapUpdate t m x v) (e : TypeId) (ht : Try.prog.underlying t = some (.map 25 e)) (enc : α → Value) (b : Nat) (l : List (I3 × α))
    (hm : a.eval m = .map (some b)) (h : MV enc w b l) (hn : l.length < maxLen) (k : I3) (c : α) (hx : a.eval x = idV k) (hk : okI k) (hv : a.eval v = enc c)
    (hK : ∀ w', MV enc w' b (putV l k c) → w.mapTurned w' b → wpList Try.prog ops Q rest (a.put o.dst undef) w') : wpList Try.prog ops Q (o :: rest) a w := by
  refine wpList_plain hg fun K' hK' => ?_
  obtain ⟨w', hrun, r1, r2⟩ := h.put ht hn hk c
  unfold Oper.wp
  simp [execOp, hop, hm, hx, hv, hrun, Result.andThen]
  exact hK' _ _ (hK w' r1 r2)
/-- 'm[x]'. -/
theorem wpList_look_mv (hg : o.guard = none) (m x : Operand) (t : TypeId) (hop : o.op = Op.lookup t m x false) (e : TypeId) (ht : Try.prog.underlying t = some (.map 25 e)) (enc : α → Value) (b : Nat) (l : List (I3 × α))
    (hm : a.eval m = .map (some b)) (h : MV enc w b l) (k : I3) (hx : a.eval x = idV k) (hk : okI k) (z : Value) (hz : (zeroValue e).run Try.prog w = .ok z w) (v : Value) (hv : ((getV l k).map enc).getD z = v)
    (hK : wpList Try.prog ops Q rest (a.put o.dst v) w) : wpList Try.prog ops Q (o :: rest) a w := by
  refine wpList_plain hg fun K' hK' => ?_
  have hrun := h.look ht hz hk
  rw [hv] at hrun
  unfold Oper.wp
  simp [execOp, hop, hm, hx, hrun, Result.andThen]
  exact hK' _ _ hK
/-- 'v, ok := m[x]'. -/
theorem wpList_look2_mv (hg : o.guard = none) (m x : Operand) (t : TypeId) (hop : o.op = Op.lookup t m x true) (e : TypeId) (ht : Try.prog.underlying t = some (.map 25 e)) (enc : α → Value) (b : Nat) (l : List (I3 × α))
    (hm : a.eval m = .map (some b)) (h : MV enc w b l) (k : I3) (hx : a.eval x = idV k) (hk : okI k) (z : Value) (hz : (zeroValue e).run Try.prog w = .ok z w) (v : Value) (hv : ((getV l k).map enc).getD z = v) (q : Bool) (hq : (getV l k).isSome = q)
    (hK : wpList Try.prog ops Q rest (a.put o.dst (.tuple #[v, .bool q])) w) : wpList Try.prog ops Q (o :: rest) a w := by
  refine wpList_plain hg fun K' hK' => ?_
  have hrun := h.look2 ht hz hk
  rw [hv, hq] at hrun
  unfold Oper.wp
  simp [execOp, hop, hm, hx, hrun, Result.andThen]
  exact hK' _ _ hK
/-- 'delete(m, x)'. -/
theorem wpList_del_mv (hg : o.guard = none) (m x : Operand) (t : TypeId) (hop : o.op = Op.call { callee := Callee.builtin Builtin.delete, args := #[m, x], argTypes := #[t, 25] }) (e : TypeId) (ht : Try.prog.underlying t = some (.map 25 e)) (enc : α → Value) (b : Nat) (l : List (I3 × α))
    (hm : a.eval m = .map (some b)) (h : MV enc w b l) (k : I3) (hx : a.eval x = idV k) (hk : okI k)
    (hK : ∀ w', MV enc w' b (delV l k) → w.mapTurned w' b → wpList Try.prog ops Q rest (a.put o.dst (.tuple #[])) w') : wpList Try.prog ops Q (o :: rest) a w := by
  refine wpList_plain hg fun K' hK' => ?_
  obtain ⟨w', hrun, r1, r2⟩ := h.del ht hk o.type
  unfold Oper.wp
  simp [execOp, hop, resolve, invoke, builtin, hm, hx, hrun, Result.andThen]
  exact hK' _ _ (hK w' r1 r2)
/-- 'len(m)'. -/
theorem wpList_len_mv (hg : o.guard = none) (m : Operand) (t : TypeId) (hop : o.op = Op.call { callee := Callee.builtin Builtin.len, args := #[m], argTypes := #[t] }) (e : TypeId) (ht : Try.prog.underlying t = some (.map 25 e)) (enc : α → Value) (b : Nat) (l : List (I3 × α))
    (hm : a.eval m = .map (some b)) (h : MV enc w b l) (n : Nat) (hn : l.length = n)
    (hK : wpList Try.prog ops Q rest (a.put o.dst (.int .i64 n)) w) : wpList Try.prog ops Q (o :: rest) a w := by
  refine wpList_plain hg fun K' hK' => ?_
  have hrun := h.len ht o.type
  rw [hn] at hrun
  unfold Oper.wp
  simp [execOp, hop, resolve, invoke, builtin, hm, hrun, Result.andThen]
  exact hK' _ _ hK
/-- 'len(m)', guarded. -/
theorem wpList_len_mvG (hw : Region.wanted o (yielded ops a.tmps) = true) (m : Operand) (t : TypeId) (hop : o.op = Op.call { callee := Callee.builtin Builtin.len, args := #[m], argTypes := #[t] }) (e : TypeId) (ht : Try.prog.underlying t = some (.map 25 e)) (enc : α → Value) (b : Nat) (l : List (I3 × α))
    (hm : a.eval m = .map (some b)) (h : MV enc w b l) (n : Nat) (hn : l.length = n)
    (hK : wpList Try.prog ops Q rest (a.put o.dst (.int .i64 n)) w) : wpList Try.prog ops Q (o :: rest) a w := by
  refine wpList_value hw (.int .i64 n) w ?_ hK
  have hrun := h.len ht o.type
  rw [hn] at hrun
  simp [execOp, hop, resolve, invoke, builtin, hm, hrun, Result.andThen]
end
end Go.Proofs.Ytlckjpjcfalfnaa
