/-
  Texts put together: RtS, TchM, TchC, TchD, TchE, TchF, TchG, TchK, TchL, TchN, TchQ.
-/
import Derived.Test.YtchhcaoondfpiaaGreatJPa
import Derived.Laws.MakeOwn
import Derived.Deep.RegionHeld3
import Derived.Maps.OwnSet
import Derived.DeepKeys4
import Derived.WalkSpells
namespace Go.Proofs.YtchhcaoondfpiaaGreat.Tc
set_option linter.unusedSimpArgs false
set_option linter.unusedVariables false

theorem par_size {p : ByteArray} : (par p).size ≤ 137 := by
  unfold par
  split
  · exact Nat.zero_le _
  · exact pth_size _ (okN_dropLast (nm_ok p))
theorem root_str {p : ByteArray} (hv : vld p = true) : (nmL p = [] → (p.toList == [47]) = true ∧ (p.toList != [47]) = false) ∧ (nmL p ≠ [] → (p.toList == [47]) = false ∧ (p.toList != [47]) = true) := by
  constructor
  · intro h
    have : p = pth [] := (root_iff hv).2 h
    have e : p.toList = [47] := by rw [Lib.toList_data, this]; rfl
    rw [e]
    exact ⟨rfl, rfl⟩
  · intro h
    have : (p.toList == [47]) = false := by
      rw [Lib.toList_data]
      simp only [beq_eq_false_iff_ne, ne_eq]
      intro e
      exact h ((root_iff hv).1 (data_inj (by rw [e]; rfl)))
    exact ⟨this, by simp only [bne, this]; rfl⟩
end Go.Proofs.YtchhcaoondfpiaaGreat.Tc
namespace Go.Proofs.YtchhcaoondfpiaaGreat.Tc
open Go
set_option linter.unusedSimpArgs false
set_option linter.unusedVariables false

abbrev Cl := ByteArray × Int
def rt : ByteArray := pth []
/-- The cells that an operation on a path reads. -/
def rds (op : Int) (p : ByteArray) : List Cl :=
  if vld p = false then [] else
  if op = 1 then (if nmL p = [] then [(rt, 101)] else [(par p, 101), (p, 101)]) else
  if op = 4 then [(p, 101), (p, 118)] else
  if op = 5 then [(p, 101), (p, 107)] else
  if nmL p = [] then [] else
  if op = 2 then [(p, 101), (p, 107)] else
  if op = 3 then [(p, 101)] else
  if op = 6 then [(p, 101), (p, 118)] else []
/-- The cells that it writes. -/
def wrs (op : Int) (p : ByteArray) : List Cl :=
  if vld p = false ∨ nmL p = [] then [] else
  if op = 1 ∨ op = 2 then [(p, 101), (p, 118), (par p, 107)] else
  if op = 3 ∨ op = 6 then [(p, 118)] else []
def memB (x : Cl) (l : List Cl) : Bool := l.any (fun c => decide (c = x))
def dst (o1 : Int) (p1 : ByteArray) (o2 : Int) (p2 : ByteArray) : Bool := (rds o2 p2 ++ wrs o2 p2).any (fun x => memB x (wrs o1 p1))
def mtr (o1 : Int) (p1 : ByteArray) (o2 : Int) (p2 : ByteArray) : Bool := dst o1 p1 o2 p2 || dst o2 p2 o1 p1
def ctl (o : Int) : Bool := decide (o = 7) || decide (o = 8) || decide (o = 9)
def bth (c1 o1 : Int) (p1 : ByteArray) (c2 o2 : Int) (p2 : ByteArray) : Bool :=
  !(decide (o1 = 0)) && !(decide (o2 = 0)) && (ctl o1 || ctl o2 || decide (c1 = c2) || mtr o1 p1 o2 p2)
theorem mtr_comm (o1 o2 : Int) (p1 p2 : ByteArray) : mtr o1 p1 o2 p2 = mtr o2 p2 o1 p1 := by unfold mtr; rw [Bool.or_comm]
theorem bth_comm (c1 c2 o1 o2 : Int) (p1 p2 : ByteArray) : bth c1 o1 p1 c2 o2 p2 = bth c2 o2 p2 c1 o1 p1 := by
  unfold bth
  rw [mtr_comm]
  have : decide (c1 = c2) = decide (c2 = c1) := by rw [decide_eq_decide]; exact eq_comm
  rw [this]
  cases decide (o1 = 0) <;> cases decide (o2 = 0) <;> cases ctl o1 <;> cases ctl o2 <;> rfl
theorem wrs_read {o : Int} (p : ByteArray) (h : o = 4 ∨ o = 5) : wrs o p = [] := by
  unfold wrs
  split
  · rfl
  · rcases h with rfl | rfl <;> simp
theorem bth_read {c1 c2 o1 o2 : Int} {p1 p2 : ByteArray} (h1 : o1 = 4 ∨ o1 = 5) (h2 : o2 = 4 ∨ o2 = 5) : bth c1 o1 p1 c2 o2 p2 = decide (c1 = c2) := by
  have w1 := wrs_read p1 h1
  have w2 := wrs_read p2 h2
  unfold bth mtr dst
  rw [w1, w2]
  have a1 : ctl o1 = false := by rcases h1 with rfl | rfl <;> rfl
  have a2 : ctl o2 = false := by rcases h2 with rfl | rfl <;> rfl
  have b1 : decide (o1 = 0) = false := by rcases h1 with rfl | rfl <;> rfl
  have b2 : decide (o2 = 0) = false := by rcases h2 with rfl | rfl <;> rfl
  rw [a1, a2, b1, b2]
  simp [memB]
theorem bth_none_l (c1 c2 o2 : Int) (p1 p2 : ByteArray) : bth c1 0 p1 c2 o2 p2 = false := rfl
theorem bth_none_r (c1 c2 o1 : Int) (p1 p2 : ByteArray) : bth c1 o1 p1 c2 0 p2 = false := by rw [bth_comm]; rfl
theorem rds_len (o : Int) (p : ByteArray) : (rds o p).length ≤ 2 := by
  unfold rds
  repeat' split
  all_goals simp
theorem wrs_len (o : Int) (p : ByteArray) : (wrs o p).length ≤ 3 := by
  unfold wrs
  repeat' split
  all_goals simp
end Go.Proofs.YtchhcaoondfpiaaGreat.Tc
namespace Go.Proofs.YtchhcaoondfpiaaGreat.Tc
open Go.RowKit
set_option linter.unusedSimpArgs false
set_option linter.unusedVariables false

def vc (c : Cl) : List Value := [.string c.1, .int .u8 c.2]
def vcs (l : List Cl) : List Value := l.flatMap vc
theorem vcs_len (l : List Cl) : (vcs l).length = l.length * 2 := by
  induction l with
  | nil => rfl
  | cons c l ih => simp only [vcs, List.flatMap_cons, List.length_append, List.length_cons] at ih ⊢; rw [ih]; simp [vc]; omega
theorem vcs_app (l k : List Cl) : vcs (l ++ k) = vcs l ++ vcs k := by simp [vcs]
theorem vcs_one (l : List Cl) : ∀ u ∈ vcs l, u.oneCell' = true := by
  intro u hu
  unfold vcs at hu
  rw [List.mem_flatMap] at hu
  obtain ⟨c, _, hc⟩ := hu
  simp only [vc, List.mem_cons, List.not_mem_nil, or_false] at hc
  rcases hc with rfl | rfl <;> rfl
theorem vcs_at (l : List Cl) (k : Nat) (h : k < l.length) : (vcs l)[k * 2]? = some (.string (l.getD k (ByteArray.empty, 0)).1) ∧ (vcs l)[k * 2 + 1]? = some (.int .u8 (l.getD k (ByteArray.empty, 0)).2) := by
  induction l generalizing k with
  | nil => simp at h
  | cons c l ih =>
    cases k with
    | zero => exact ⟨rfl, rfl⟩
    | succ k =>
      have := ih k (by simpa using h)
      have e : vcs (c :: l) = .string c.1 :: .int .u8 c.2 :: vcs l := rfl
      rw [e, show (k + 1) * 2 = k * 2 + 1 + 1 by omega]
      simpa [List.getD] using this
theorem infoCell : (Tryz.prog.info? 140).map (fun i => (i.zero, i.size, i.bytes)) = some (some (.agg #[.string ByteArray.empty, .int .u8 0]), 2, 24) := by kernel_rfl
/-- An own row of cells. -/
def Own2 (w : World) (base : Nat) (v : Value) (l : List Cl) : Prop := w.ownsRow base 140 2 v l.length (vcs l)
theorem Own2.nil (w : World) (base : Nat) : Own2 w base (.slice none 0 0) [] := ⟨rfl, .inl ⟨rfl, rfl⟩⟩
theorem own2_from {w : World} {base : Nat} {v : Value} {l : List Cl} (h : Own2 w base v l) : ∀ k, v.ownBlock = some k → base ≤ k := by
  intro k hk
  rcases h.2 with ⟨rfl, _⟩ | ⟨g, cap, cur, rfl, hg, _⟩
  · cases hk
  · simp [Value.ownBlock] at hk; omega
theorem Own2.base {w : World} {b b2 : Nat} {v : Value} {l : List Cl} (h : Own2 w b v l) (hb : b2 ≤ b) : Own2 w b2 v l := by
  obtain ⟨h1, h2⟩ := h
  refine ⟨h1, ?_⟩
  rcases h2 with h2 | ⟨g, cap, cur, hv, hg, hr⟩
  · exact .inl h2
  · exact .inr ⟨g, cap, cur, hv, Nat.le_trans hb hg, hr⟩
theorem Own2.slice {w : World} {base : Nat} {v : Value} {l : List Cl} (h : Own2 w base v l) : ∃ a c, v = .slice a l.length c := by
  rcases h.2 with ⟨rfl, h0⟩ | ⟨g, cap, cur, rfl, _⟩
  · exact ⟨_, _, by rw [h0]⟩
  · exact ⟨_, _, rfl⟩
theorem Own2.below {w w' : World} {base : Nat} {v : Value} {l : List Cl} (h : Own2 w base v l) (hb : Below w.heap.size w w') : Own2 w' base v l := by
  obtain ⟨h1, h2⟩ := h
  refine ⟨h1, ?_⟩
  rcases h2 with h2 | ⟨g, cap, cur, hv, hg, hh, hr⟩
  · exact .inl h2
  · exact .inr ⟨g, cap, cur, hv, hg, (hb.block g (Array.getElem?_eq_some_iff.1 hh).1).trans hh, hr⟩
/-- Its cells, one by one. -/
theorem Own2.cells {w : World} {base : Nat} {v : Value} {l : List Cl} (h : Own2 w base v l) (hl : l ≠ []) : ∃ g c, v = .slice (some ⟨g, 0, none⟩) l.length c ∧ g < w.heap.size ∧ l.length ≤ c ∧ ∀ (j : Nat) (u : Value), (vcs l)[j]? = some u → w.cell? ⟨g, j, none⟩ = some u := by
  rcases h.2 with ⟨rfl, h0⟩ | ⟨g, cap, cur, rfl, hg, hh, hn, hm, hs, hx⟩
  · exact absurd (List.eq_nil_of_length_eq_zero h0) hl
  · refine ⟨g, cap, rfl, (Array.getElem?_eq_some_iff.1 hh).1, hn, fun j u hj => ?_⟩
    have hj2 : j < (vcs l).length := (List.getElem?_eq_some_iff.1 hj).1
    rw [vcs_len] at hj2
    have e1 : cur[j]? = some u := by
      have h1 : (cur.toList.take (l.length * 2))[j]? = (vcs l)[j]? := by rw [hx]
      rw [List.getElem?_take, if_pos (by omega)] at h1
      rw [← Array.getElem?_toList, h1, hj]
    simp [World.cell?, hh, e1]
/-- An append of cells: its run. -/
theorem run_app2 {w : World} {base : Nat} {v : Value} {l : List Cl} (hown : Own2 w base v l) (g : Nat) (c : Nat) (ks : List Cl) (hcl : ∀ (j : Nat) (u : Value), (vcs ks)[j]? = some u → w.cell? ⟨g, j, none⟩ = some u)
    (hl : l.length + ks.length ≤ 1000000) (hbase : base ≤ w.heap.size) (ty : TypeId) :
    ∃ v' w', (Builtin.append_ #[137, 137] ty #[v, .slice (some ⟨g, 0, none⟩) ks.length c]).run Tryz.prog w = .ok v' w' ∧ Own2 w' base v' (l ++ ks) ∧ Below base w w' ∧ w.heap.size ≤ w'.heap.size := by
  obtain ⟨i0, hi, hz0, hz1, hz2⟩ := info_parts infoCell
  obtain ⟨v', w', hr, q1, q2, _⟩ := run_append_own (P := Tryz.prog) w base 137 ty 140 i0 (.agg #[.string ByteArray.empty, .int .u8 0]) 2 24 Tryz.underlying137 hi hz0 hz1 hz2 rfl (by decide) v l.length (vcs l) hown ⟨g, 0, none⟩ ks.length c (vcs ks) (vcs_len ks) (by
    intro j u hj
    have := hcl j u hj
    by_cases h0 : j = 0
    · subst h0; simpa [Addr.add] using this
    · simpa [Addr.add, h0] using this) (vcs_one ks) (by unfold maxLen; omega) (by omega) hbase
  refine ⟨v', w', hr, ?_, (Below.refl base w).grown q2 hbase (own2_from hown), q2.size⟩
  unfold Own2
  rw [List.length_append, vcs_app]
  exact q1
section
variable {ops : Array Oper} {rest : List Oper} {o : Oper} {a : Act} {w : World} {Q : Exit → Act → World → Prop}
/-- 'append(l, x...)' of cells. -/
theorem wpList_app2 (hw : Region.wanted o (yielded ops a.tmps) = true) (s x : Operand) (ho : o.op = .call { callee := .builtin .append, args := #[s, x], argTypes := #[137, 137] })
    (base : Nat) (v : Value) (l : List Cl) (hs : a.eval s = v) (hown : Own2 w base v l) (g c n : Nat) (ks : List Cl) (hn : ks.length = n) (hx : a.eval x = .slice (some ⟨g, 0, none⟩) n c) (hcl : ∀ (j : Nat) (u : Value), (vcs ks)[j]? = some u → w.cell? ⟨g, j, none⟩ = some u)
    (hl : l.length + ks.length ≤ 1000000) (hbase : base ≤ w.heap.size)
    (h : ∀ v' w', Own2 w' base v' (l ++ ks) → Below base w w' → w.heap.size ≤ w'.heap.size → wpList Tryz.prog ops Q rest (a.put o.dst v') w') : wpList Tryz.prog ops Q (o :: rest) a w := by
  subst hn
  obtain ⟨v', w', hr, q1, q2, q3⟩ := run_app2 hown g c ks hcl hl hbase o.type
  refine wpList_value hw _ w' ?_ (h v' w' q1 q2 q3)
  unfold execOp
  simp only [ho, resolve, invoke, builtin, Sem.run_bind, Sem.run_pure, Result.andThen_ok, List.map_toArray, List.map_cons, List.map_nil, hs, hx, hr]
/-- 'make([]Cell, 0, c)'. -/
theorem wpList_make2 (hw : Region.wanted o (yielded ops a.tmps) = true) (x y : Operand) (ho : o.op = .makeSlice 137 x y) (hx : a.eval x = .int .i64 0) (c : Nat) (hy : a.eval y = .int .i64 (c : Int)) (hc : c ≤ 1000000) (base : Nat) (hbase : base ≤ w.heap.size)
    (h : ∀ v' w', Own2 w' base v' [] → Below w.heap.size w w' → wpList Tryz.prog ops Q rest (a.put o.dst v') w') : wpList Tryz.prog ops Q (o :: rest) a w := by
  obtain ⟨i0, hi, hz0, hz1, hz2⟩ := info_parts infoCell
  obtain ⟨w', hr, h1, h2⟩ := run_make_own (P := Tryz.prog) w base 137 140 i0 (.agg #[.string ByteArray.empty, .int .u8 0]) 2 Tryz.underlying137 hi hz0 hz1 .i64 .i64 c (by rw [hz2]; omega) (by unfold maxLen; omega) hbase
  refine wpList_value hw _ w' ?_ (h _ w' h1 ((Below.refl _ w).grown h2 (Nat.le_refl _) (fun k e => by cases e)))
  unfold execOp
  simp only [ho, hx, hy, hr, Sem.run_bind, Sem.run_pure, Result.andThen_ok]
end
def ClP (l : List Cl) (w : World) (e : Ending) (w' : World) : Prop := ∃ v, Hid (e = .returned v) ∧ Own2 w' w.heap.size v l ∧ Below w.heap.size w w'
set_option maxHeartbeats 1000000 in
theorem cells_any (p : ByteArray) (g : Nat) (off c : Nat) (xs : List Int) (n : Nat) (hn : xs.length = n) (w : World) (hx : n ≤ 10) (hg : g < w.heap.size) (hc : ∀ i, i < n → w.cell? ⟨g, off + i, none⟩ = some (.int .u8 (xs.getD i 0))) :
    Calls Tryz.prog 102 #[.string p, .slice (some ⟨g, off, none⟩) n c] w (ClP (xs.map fun x => (p, x)) w) := by
  have HC := Lib.hid hc
  have HN := Lib.hid hn
  clear hc hn
  go_enter Tryz.func102, Tryz.ntmps102
  go_wp2_with (refine wpList_make2 rfl _ _ rfl rfl n rfl (by omega) w.heap.size (Nat.le_refl _) ?_)
  intro v0 w0 ho hb
  have HO := Lib.hid ho
  have HB := Lib.hid hb
  clear ho hb
  go_wp2_with fail
  go_loopw [5, 13] (fun l i wr => ∃ (k : Nat) (v : Value), k ≤ n ∧ l = v ∧ i = .int .i64 k ∧ Hid (Own2 wr w.heap.size v ((xs.take k).map fun x => (p, x))) ∧ Hid (Below w.heap.size w wr)) (fun _ i _ => n - (intOf i).toNat)
  case atStart => exact ⟨0, v0, by omega, rfl, rfl, HO, HB⟩
  case round =>
    clear HO HB
    obtain ⟨k, v, hk, rfl, rfl, hO, hB⟩ := hrel
    by_cases hlt : k < n
    · have hc := HC.out k hlt
      obtain ⟨x, hxk⟩ : ∃ x, xs.getD k 0 = x := ⟨_, rfl⟩
      rw [hxk] at hc
      have hc' : wr.cell? ⟨g, off + k, none⟩ = some (.int .u8 x) := (hB.out.cell (p := ⟨g, off + k, none⟩) hg).trans hc
      have hkn : (k : Int) < (n : Int) := by omega
      have HT : Hid ((xs.take k).map (fun x => (p, x)) ++ [(p, x)] = (xs.take (k + 1)).map fun x => (p, x)) := Lib.hid (by
        have hl : k < xs.length := by rw [HN.out]; exact hlt
        rw [List.take_succ_eq_append_getElem hl, List.map_append]
        simp only [List.getD, List.getElem?_eq_getElem hl, Option.getD_some] at hxk
        rw [hxk]; rfl)
      have HL : Hid (((xs.take k).map (fun x => ((p, x) : Cl))).length + [((p, x) : Cl)].length ≤ 1000000) := Lib.hid (by simp; omega)
      have hz := hB.out.size
      clear hc hxk
      go_wp2_with (refine wpList_app2 rfl _ _ rfl w.heap.size _ ((xs.take k).map fun x => (p, x)) rfl (hO.out.below ?hb) _ 1 1 [(p, x)] rfl rfl ?hu HL.out (by simp; omega) ?_)
      case hb => exact ((Below.refl _ _).alloc (Nat.le_refl _) _)
      case hu =>
        intro j u hj
        match j, hj with
        | 0, hj => simp [vcs, vc] at hj; subst hj; simp [go_sem]
        | 1, hj => simp [vcs, vc] at hj; subst hj; simp [go_sem]
        | j + 2, hj => simp [vcs, vc] at hj
      intro v2 w2 ho2 hb2 hz2
      have HO2 : Hid (Own2 w2 w.heap.size v2 ((xs.take (k + 1)).map fun x => (p, x))) := Lib.hid (by rw [← HT.out]; simpa using ho2)
      have HB2 : Hid (Below w.heap.size w w2) := Lib.hid (hB.out.trans ((((Below.refl _ _).alloc (Nat.le_refl _) _).mono hz).trans hb2))
      clear ho2 hb2 hz2 hO hB
      go_wp2
      go_roundw
      case rel => exact ⟨k + 1, v2, by omega, rfl, by go_num, HO2, HB2⟩
      case measure => simp [intOf]; omega
    · obtain rfl : k = n := by omega
      have hO' := hO.out
      rw [List.take_of_length_le (by rw [HN.out]; exact Nat.le_refl _)] at hO'
      have HO := Lib.hid hO'
      clear hO hO'
      go_wp2
      go_ret
      exact ⟨_, rfl, HO.out, hB.out⟩
end Go.Proofs.YtchhcaoondfpiaaGreat.Tc
namespace Go.Proofs.YtchhcaoondfpiaaGreat.Tc
open Go.RowKit
set_option linter.unusedSimpArgs false
set_option linter.unusedVariables false

theorem bcell {W w1 : World} (hb : Below W.heap.size W w1) : (∀ b o, b < W.heap.size → w1.cell? ⟨b, o, none⟩ = W.cell? ⟨b, o, none⟩) ∧ (∀ b o, b < W.heap.size → w1.frozen? ⟨b, o, none⟩ = W.frozen? ⟨b, o, none⟩) :=
  ⟨fun b o h => hb.cell (p := ⟨b, o, none⟩) h, fun b o h => hb.frozen (p := ⟨b, o, none⟩) h⟩
theorem step_value {P : Program} {ops : Array Oper} {o : Oper} {a : Act} {w : World} {K : Act → World → Prop} {Q : Exit → Act → World → Prop} {E : Prop} (hg : o.guard = none) (v : Value) (w' : World)
    (hr : (execOp a.eval o).run P w = .ok (.value v) w') (h : K (a.put o.dst v) w') : if Region.wanted o (yielded ops a.tmps) = true then Oper.wp P o a w K Q else E := by
  have hw : Region.wanted o (yielded ops a.tmps) = true := by simp [Region.wanted, hg]
  rw [if_pos hw]
  unfold Oper.wp
  rw [hr]
  exact h
theorem step_app2 {ops : Array Oper} {o : Oper} {a : Act} {w : World} {K : Act → World → Prop} {Q : Exit → Act → World → Prop} {E : Prop} (hg : o.guard = none) (s x : Operand) (ho : o.op = .call { callee := .builtin .append, args := #[s, x], argTypes := #[137, 137] })
    (base : Nat) (v : Value) (l : List Cl) (hs : a.eval s = v) (hown : Own2 w base v l) (g c n : Nat) (ks : List Cl) (hn : ks.length = n) (hx : a.eval x = .slice (some ⟨g, 0, none⟩) n c) (hcl : ∀ (j : Nat) (u : Value), (vcs ks)[j]? = some u → w.cell? ⟨g, j, none⟩ = some u)
    (hl : l.length + ks.length ≤ 1000000) (hbase : base ≤ w.heap.size)
    (hK : ∀ v' w', Own2 w' base v' (l ++ ks) → Below base w w' → w.heap.size ≤ w'.heap.size → K (a.put o.dst v') w') :
    if Region.wanted o (yielded ops a.tmps) = true then Oper.wp Tryz.prog o a w K Q else E := by
  subst hn
  obtain ⟨v', w', hr, q1, q2, q3⟩ := run_app2 hown g c ks hcl hl hbase o.type
  refine step_value hg v' w' ?_ (hK v' w' q1 q2 q3)
  unfold execOp
  simp only [ho, resolve, invoke, builtin, Sem.run_bind, Sem.run_pure, Result.andThen_ok, List.map_toArray, List.map_cons, List.map_nil, hs, hx, hr]
/-- A command in a box. -/
abbrev cbox (w : World) (cl sq op : Int) (pa va : ByteArray) (ver ca cb : Int) : World := w.alloc (.cells #[.int .i64 cl, .int .i64 sq, .int .i64 op, .string pa, .string va, .int .i64 ver, .int .i64 ca, .int .i64 cb] 43)
abbrev cval (cl sq op : Int) (pa va : ByteArray) (ver ca cb : Int) : Value := .agg #[.int .i64 cl, .int .i64 sq, .int .i64 op, .string pa, .string va, .int .i64 ver, .int .i64 ca, .int .i64 cb]
theorem root_pth : rt = { data := #[47] } := rfl
theorem keepT {w1 w' : World} {b o : Nat} {x : Value} (hc : w1.cell? ⟨b, o, none⟩ = some x) (hb : b < w1.heap.size) (hB : Below w1.heap.size w1 w') : w'.cell? ⟨b, o, none⟩ = some x ∧ Below w1.heap.size w1 w' :=
  ⟨(hB.cell (p := ⟨b, o, none⟩) hb).trans hc, hB⟩
theorem rds_none {op : Int} {p : ByteArray} (h : vld p = false) : rds op p = [] := by unfold rds; rw [if_pos h]
set_option maxHeartbeats 2000000 in
theorem reads_no (cl sq op : Int) (pa va : ByteArray) (ver ca cb : Int) (w : World) (hp : pa.size ≤ 1000) (hm : ML w) (hv : vld pa = false) :
    Calls Tryz.prog 94 #[.agg #[.int .i64 cl, .int .i64 sq, .int .i64 op, .string pa, .string va, .int .i64 ver, .int .i64 ca, .int .i64 cb]] w (ClP (rds op pa) w) := by
  have hM1 : ML (cbox w cl sq op pa va ver ca cb) := hm.below ((Below.refl _ _).alloc (Nat.le_refl _) _)
  have cV := valid_any pa _ hp hM1
  rw [hv] at cV
  rw [rds_none hv]
  clear hm hM1 hp hv
  go_enter Tryz.func94, Tryz.ntmps94
  go_wp2_with (go_at_call 101; refine cV.mono ?_; rintro e w1 ⟨rfl, hb⟩; have HB := Lib.hid hb; clear hb)
  go_ret
  exact ⟨_, rfl, Own2.nil _ _, ((Below.refl _ _).alloc (Nat.le_refl _) _).trans (HB.out.mono (by simp))⟩
end Go.Proofs.YtchhcaoondfpiaaGreat.Tc
namespace Go.Proofs.YtchhcaoondfpiaaGreat.Tc
open Go.RowKit
set_option linter.unusedSimpArgs false
set_option linter.unusedVariables false

set_option maxHeartbeats 4000000 in
theorem reads_get (cl sq : Int) (pa va : ByteArray) (ver ca cb : Int) (w : World) (hp : pa.size ≤ 1000) (hm : ML w) (hv : vld pa = true)  :
    Calls Tryz.prog 94 #[.agg #[.int .i64 cl, .int .i64 sq, .int .i64 4, .string pa, .string va, .int .i64 ver, .int .i64 ca, .int .i64 cb]] w (ClP (rds 4 pa) w) := by
  have hM1 : ML (w.alloc (.cells #[.int .i64 cl, .int .i64 sq, .int .i64 4, .string pa, .string va, .int .i64 ver, .int .i64 ca, .int .i64 cb] 43)) := hm.below ((Below.refl _ _).alloc (Nat.le_refl _) _)
  have cV := valid_any pa _ hp hM1
  rw [hv] at cV
  have HR : Hid (rds 4 pa = [(pa, 101), (pa, 118)]) := Lib.hid (by unfold rds; simp [hv])
  clear hm hM1 hp hv
  go_enter Tryz.func94, Tryz.ntmps94
  go_wp2_with (first
    | (go_at_call 101; refine cV.mono ?_; rintro e w1 ⟨rfl, hb⟩; have c3 : w1.cell? ⟨w.heap.size, 3, none⟩ = some (.string pa) := (hb.cell (p := ⟨w.heap.size, 3, none⟩) (by simp)).trans (by simp [go_sem]); have c2 : w1.cell? ⟨w.heap.size, 2, none⟩ = some (.int .i64 4) := (hb.cell (p := ⟨w.heap.size, 2, none⟩) (by simp)).trans (by simp [go_sem]); have hz : w.heap.size < w1.heap.size := Nat.lt_of_lt_of_le (by simp) hb.size; have HB := Lib.hid hb; clear hb)
    | (go_at_call 102; refine (cells_any pa _ _ _ [101, 118] 2 rfl _ (by omega) (by simp) (by intro i hi; match i, hi with | 0, _ => simp [go_sem, *] | 1, _ => simp [go_sem, *])).mono ?_; rintro e w2 ⟨v2, he, ho, hb2⟩; subst he; have HO := Lib.hid ho; have HB2 := Lib.hid hb2; clear ho hb2))
  go_ret
  exact ⟨v2, rfl, by rw [HR.out]; exact HO.out.base (by simp; omega), ((Below.refl _ _).alloc (Nat.le_refl _) _).trans ((HB.out.mono (by simp)).trans ((((Below.refl _ _).alloc (Nat.le_refl _) _).mono (by omega)).trans (HB2.out.mono (by simp; omega))))⟩
set_option maxHeartbeats 4000000 in
theorem reads_list (cl sq : Int) (pa va : ByteArray) (ver ca cb : Int) (w : World) (hp : pa.size ≤ 1000) (hm : ML w) (hv : vld pa = true)  :
    Calls Tryz.prog 94 #[.agg #[.int .i64 cl, .int .i64 sq, .int .i64 5, .string pa, .string va, .int .i64 ver, .int .i64 ca, .int .i64 cb]] w (ClP (rds 5 pa) w) := by
  have hM1 : ML (w.alloc (.cells #[.int .i64 cl, .int .i64 sq, .int .i64 5, .string pa, .string va, .int .i64 ver, .int .i64 ca, .int .i64 cb] 43)) := hm.below ((Below.refl _ _).alloc (Nat.le_refl _) _)
  have cV := valid_any pa _ hp hM1
  rw [hv] at cV
  have HR : Hid (rds 5 pa = [(pa, 101), (pa, 107)]) := Lib.hid (by unfold rds; simp [hv])
  clear hm hM1 hp hv
  go_enter Tryz.func94, Tryz.ntmps94
  go_wp2_with (first
    | (go_at_call 101; refine cV.mono ?_; rintro e w1 ⟨rfl, hb⟩; have c3 : w1.cell? ⟨w.heap.size, 3, none⟩ = some (.string pa) := (hb.cell (p := ⟨w.heap.size, 3, none⟩) (by simp)).trans (by simp [go_sem]); have c2 : w1.cell? ⟨w.heap.size, 2, none⟩ = some (.int .i64 5) := (hb.cell (p := ⟨w.heap.size, 2, none⟩) (by simp)).trans (by simp [go_sem]); have hz : w.heap.size < w1.heap.size := Nat.lt_of_lt_of_le (by simp) hb.size; have HB := Lib.hid hb; clear hb)
    | (go_at_call 102; refine (cells_any pa _ _ _ [101, 107] 2 rfl _ (by omega) (by simp) (by intro i hi; match i, hi with | 0, _ => simp [go_sem, *] | 1, _ => simp [go_sem, *])).mono ?_; rintro e w2 ⟨v2, he, ho, hb2⟩; subst he; have HO := Lib.hid ho; have HB2 := Lib.hid hb2; clear ho hb2))
  go_ret
  exact ⟨v2, rfl, by rw [HR.out]; exact HO.out.base (by simp; omega), ((Below.refl _ _).alloc (Nat.le_refl _) _).trans ((HB.out.mono (by simp)).trans ((((Below.refl _ _).alloc (Nat.le_refl _) _).mono (by omega)).trans (HB2.out.mono (by simp; omega))))⟩
set_option maxHeartbeats 4000000 in
theorem reads_root1 (cl sq : Int) (pa va : ByteArray) (ver ca cb : Int) (w : World) (hp : pa.size ≤ 1000) (hm : ML w) (hv : vld pa = true) (hn : nmL pa = []) :
    Calls Tryz.prog 94 #[.agg #[.int .i64 cl, .int .i64 sq, .int .i64 1, .string pa, .string va, .int .i64 ver, .int .i64 ca, .int .i64 cb]] w (ClP (rds 1 pa) w) := by
  have hM1 : ML (w.alloc (.cells #[.int .i64 cl, .int .i64 sq, .int .i64 1, .string pa, .string va, .int .i64 ver, .int .i64 ca, .int .i64 cb] 43)) := hm.below ((Below.refl _ _).alloc (Nat.le_refl _) _)
  have cV := valid_any pa _ hp hM1
  rw [hv] at cV
  have HR : Hid (rds 1 pa = [(rt, 101)]) := Lib.hid (by unfold rds; simp [hv, hn])
  obtain ⟨s1, s2⟩ := (root_str hv).1 hn
  clear hn
  clear hm hM1 hp hv
  go_enter Tryz.func94, Tryz.ntmps94
  go_wp2_with (first
    | (go_at_call 101; refine cV.mono ?_; rintro e w1 ⟨rfl, hb⟩; have c3 : w1.cell? ⟨w.heap.size, 3, none⟩ = some (.string pa) := (hb.cell (p := ⟨w.heap.size, 3, none⟩) (by simp)).trans (by simp [go_sem]); have c2 : w1.cell? ⟨w.heap.size, 2, none⟩ = some (.int .i64 1) := (hb.cell (p := ⟨w.heap.size, 2, none⟩) (by simp)).trans (by simp [go_sem]); have hz : w.heap.size < w1.heap.size := Nat.lt_of_lt_of_le (by simp) hb.size; have HB := Lib.hid hb; clear hb)
    | (go_at_call 102; refine (cells_any _ _ _ _ [101] 1 rfl _ (by omega) (by simp) (by intro i hi; match i, hi with | 0, _ => simp [go_sem, *])).mono ?_; rintro e w2 ⟨v2, he, ho, hb2⟩; subst he; have HO := Lib.hid ho; have HB2 := Lib.hid hb2; clear ho hb2))
  go_ret
  exact ⟨v2, rfl, by rw [HR.out]; exact HO.out.base (by simp; omega), ((Below.refl _ _).alloc (Nat.le_refl _) _).trans ((HB.out.mono (by simp)).trans ((((Below.refl _ _).alloc (Nat.le_refl _) _).mono (by omega)).trans (HB2.out.mono (by simp; omega))))⟩
set_option maxHeartbeats 4000000 in
theorem reads_root (cl sq op : Int) (pa va : ByteArray) (ver ca cb : Int) (w : World) (hp : pa.size ≤ 1000) (hm : ML w) (hv : vld pa = true) (h1 : op ≠ 1) (h4 : op ≠ 4) (h5 : op ≠ 5) (hn : nmL pa = []) :
    Calls Tryz.prog 94 #[.agg #[.int .i64 cl, .int .i64 sq, .int .i64 op, .string pa, .string va, .int .i64 ver, .int .i64 ca, .int .i64 cb]] w (ClP (rds op pa) w) := by
  have hM1 : ML (w.alloc (.cells #[.int .i64 cl, .int .i64 sq, .int .i64 op, .string pa, .string va, .int .i64 ver, .int .i64 ca, .int .i64 cb] 43)) := hm.below ((Below.refl _ _).alloc (Nat.le_refl _) _)
  have cV := valid_any pa _ hp hM1
  rw [hv] at cV
  have HR : Hid (rds op pa = []) := Lib.hid (by unfold rds; simp [hv, hn, h1, h4, h5])
  obtain ⟨s1, s2⟩ := (root_str hv).1 hn
  clear hn
  have z1 : (op == 1) = false := by simpa using h1
  have z4 : (op == 4) = false := by simpa using h4
  have z5 : (op == 5) = false := by simpa using h5
  clear h1 h4 h5
  clear hm hM1 hp hv
  go_enter Tryz.func94, Tryz.ntmps94
  go_wp2_with (first
    | (go_at_call 101; refine cV.mono ?_; rintro e w1 ⟨rfl, hb⟩; have c3 : w1.cell? ⟨w.heap.size, 3, none⟩ = some (.string pa) := (hb.cell (p := ⟨w.heap.size, 3, none⟩) (by simp)).trans (by simp [go_sem]); have c2 : w1.cell? ⟨w.heap.size, 2, none⟩ = some (.int .i64 op) := (hb.cell (p := ⟨w.heap.size, 2, none⟩) (by simp)).trans (by simp [go_sem]); have hz : w.heap.size < w1.heap.size := Nat.lt_of_lt_of_le (by simp) hb.size; have HB := Lib.hid hb; clear hb))
  go_ret
  exact ⟨_, rfl, by rw [HR.out]; exact Own2.nil _ _, ((Below.refl _ _).alloc (Nat.le_refl _) _).trans (HB.out.mono (by simp))⟩
set_option maxHeartbeats 4000000 in
theorem reads_del (cl sq : Int) (pa va : ByteArray) (ver ca cb : Int) (w : World) (hp : pa.size ≤ 1000) (hm : ML w) (hv : vld pa = true) (hn : nmL pa ≠ []) :
    Calls Tryz.prog 94 #[.agg #[.int .i64 cl, .int .i64 sq, .int .i64 2, .string pa, .string va, .int .i64 ver, .int .i64 ca, .int .i64 cb]] w (ClP (rds 2 pa) w) := by
  have hM1 : ML (w.alloc (.cells #[.int .i64 cl, .int .i64 sq, .int .i64 2, .string pa, .string va, .int .i64 ver, .int .i64 ca, .int .i64 cb] 43)) := hm.below ((Below.refl _ _).alloc (Nat.le_refl _) _)
  have cV := valid_any pa _ hp hM1
  rw [hv] at cV
  have HR : Hid (rds 2 pa = [(pa, 101), (pa, 107)]) := Lib.hid (by unfold rds; simp [hv, hn])
  obtain ⟨s1, s2⟩ := (root_str hv).2 hn
  clear hn
  clear hm hM1 hp hv
  go_enter Tryz.func94, Tryz.ntmps94
  go_wp2_with (first
    | (go_at_call 101; refine cV.mono ?_; rintro e w1 ⟨rfl, hb⟩; have c3 : w1.cell? ⟨w.heap.size, 3, none⟩ = some (.string pa) := (hb.cell (p := ⟨w.heap.size, 3, none⟩) (by simp)).trans (by simp [go_sem]); have c2 : w1.cell? ⟨w.heap.size, 2, none⟩ = some (.int .i64 2) := (hb.cell (p := ⟨w.heap.size, 2, none⟩) (by simp)).trans (by simp [go_sem]); have hz : w.heap.size < w1.heap.size := Nat.lt_of_lt_of_le (by simp) hb.size; have HB := Lib.hid hb; clear hb)
    | (go_at_call 102; refine (cells_any pa _ _ _ [101, 107] 2 rfl _ (by omega) (by simp) (by intro i hi; match i, hi with | 0, _ => simp [go_sem, *] | 1, _ => simp [go_sem, *])).mono ?_; rintro e w2 ⟨v2, he, ho, hb2⟩; subst he; have HO := Lib.hid ho; have HB2 := Lib.hid hb2; clear ho hb2))
  go_ret
  exact ⟨v2, rfl, by rw [HR.out]; exact HO.out.base (by simp; omega), ((Below.refl _ _).alloc (Nat.le_refl _) _).trans ((HB.out.mono (by simp)).trans ((((Below.refl _ _).alloc (Nat.le_refl _) _).mono (by omega)).trans (HB2.out.mono (by simp; omega))))⟩
set_option maxHeartbeats 4000000 in
theorem reads_set (cl sq : Int) (pa va : ByteArray) (ver ca cb : Int) (w : World) (hp : pa.size ≤ 1000) (hm : ML w) (hv : vld pa = true) (hn : nmL pa ≠ []) :
    Calls Tryz.prog 94 #[.agg #[.int .i64 cl, .int .i64 sq, .int .i64 3, .string pa, .string va, .int .i64 ver, .int .i64 ca, .int .i64 cb]] w (ClP (rds 3 pa) w) := by
  have hM1 : ML (w.alloc (.cells #[.int .i64 cl, .int .i64 sq, .int .i64 3, .string pa, .string va, .int .i64 ver, .int .i64 ca, .int .i64 cb] 43)) := hm.below ((Below.refl _ _).alloc (Nat.le_refl _) _)
  have cV := valid_any pa _ hp hM1
  rw [hv] at cV
  have HR : Hid (rds 3 pa = [(pa, 101)]) := Lib.hid (by unfold rds; simp [hv, hn])
  obtain ⟨s1, s2⟩ := (root_str hv).2 hn
  clear hn
  clear hm hM1 hp hv
  go_enter Tryz.func94, Tryz.ntmps94
  go_wp2_with (first
    | (go_at_call 101; refine cV.mono ?_; rintro e w1 ⟨rfl, hb⟩; have c3 : w1.cell? ⟨w.heap.size, 3, none⟩ = some (.string pa) := (hb.cell (p := ⟨w.heap.size, 3, none⟩) (by simp)).trans (by simp [go_sem]); have c2 : w1.cell? ⟨w.heap.size, 2, none⟩ = some (.int .i64 3) := (hb.cell (p := ⟨w.heap.size, 2, none⟩) (by simp)).trans (by simp [go_sem]); have hz : w.heap.size < w1.heap.size := Nat.lt_of_lt_of_le (by simp) hb.size; have HB := Lib.hid hb; clear hb)
    | (go_at_call 102; refine (cells_any pa _ _ _ [101] 1 rfl _ (by omega) (by simp) (by intro i hi; match i, hi with | 0, _ => simp [go_sem, *])).mono ?_; rintro e w2 ⟨v2, he, ho, hb2⟩; subst he; have HO := Lib.hid ho; have HB2 := Lib.hid hb2; clear ho hb2))
  go_ret
  exact ⟨v2, rfl, by rw [HR.out]; exact HO.out.base (by simp; omega), ((Below.refl _ _).alloc (Nat.le_refl _) _).trans ((HB.out.mono (by simp)).trans ((((Below.refl _ _).alloc (Nat.le_refl _) _).mono (by omega)).trans (HB2.out.mono (by simp; omega))))⟩
set_option maxHeartbeats 4000000 in
theorem reads_cas (cl sq : Int) (pa va : ByteArray) (ver ca cb : Int) (w : World) (hp : pa.size ≤ 1000) (hm : ML w) (hv : vld pa = true) (hn : nmL pa ≠ []) :
    Calls Tryz.prog 94 #[.agg #[.int .i64 cl, .int .i64 sq, .int .i64 6, .string pa, .string va, .int .i64 ver, .int .i64 ca, .int .i64 cb]] w (ClP (rds 6 pa) w) := by
  have hM1 : ML (w.alloc (.cells #[.int .i64 cl, .int .i64 sq, .int .i64 6, .string pa, .string va, .int .i64 ver, .int .i64 ca, .int .i64 cb] 43)) := hm.below ((Below.refl _ _).alloc (Nat.le_refl _) _)
  have cV := valid_any pa _ hp hM1
  rw [hv] at cV
  have HR : Hid (rds 6 pa = [(pa, 101), (pa, 118)]) := Lib.hid (by unfold rds; simp [hv, hn])
  obtain ⟨s1, s2⟩ := (root_str hv).2 hn
  clear hn
  clear hm hM1 hp hv
  go_enter Tryz.func94, Tryz.ntmps94
  go_wp2_with (first
    | (go_at_call 101; refine cV.mono ?_; rintro e w1 ⟨rfl, hb⟩; have c3 : w1.cell? ⟨w.heap.size, 3, none⟩ = some (.string pa) := (hb.cell (p := ⟨w.heap.size, 3, none⟩) (by simp)).trans (by simp [go_sem]); have c2 : w1.cell? ⟨w.heap.size, 2, none⟩ = some (.int .i64 6) := (hb.cell (p := ⟨w.heap.size, 2, none⟩) (by simp)).trans (by simp [go_sem]); have hz : w.heap.size < w1.heap.size := Nat.lt_of_lt_of_le (by simp) hb.size; have HB := Lib.hid hb; clear hb)
    | (go_at_call 102; refine (cells_any pa _ _ _ [101, 118] 2 rfl _ (by omega) (by simp) (by intro i hi; match i, hi with | 0, _ => simp [go_sem, *] | 1, _ => simp [go_sem, *])).mono ?_; rintro e w2 ⟨v2, he, ho, hb2⟩; subst he; have HO := Lib.hid ho; have HB2 := Lib.hid hb2; clear ho hb2))
  go_ret
  exact ⟨v2, rfl, by rw [HR.out]; exact HO.out.base (by simp; omega), ((Below.refl _ _).alloc (Nat.le_refl _) _).trans ((HB.out.mono (by simp)).trans ((((Below.refl _ _).alloc (Nat.le_refl _) _).mono (by omega)).trans (HB2.out.mono (by simp; omega))))⟩
set_option maxHeartbeats 4000000 in
theorem reads_oth (cl sq op : Int) (pa va : ByteArray) (ver ca cb : Int) (w : World) (hp : pa.size ≤ 1000) (hm : ML w) (hv : vld pa = true) (h1 : op ≠ 1) (h4 : op ≠ 4) (h5 : op ≠ 5) (h2 : op ≠ 2) (h3 : op ≠ 3) (h6 : op ≠ 6) (hn : nmL pa ≠ []) :
    Calls Tryz.prog 94 #[.agg #[.int .i64 cl, .int .i64 sq, .int .i64 op, .string pa, .string va, .int .i64 ver, .int .i64 ca, .int .i64 cb]] w (ClP (rds op pa) w) := by
  have hM1 : ML (w.alloc (.cells #[.int .i64 cl, .int .i64 sq, .int .i64 op, .string pa, .string va, .int .i64 ver, .int .i64 ca, .int .i64 cb] 43)) := hm.below ((Below.refl _ _).alloc (Nat.le_refl _) _)
  have cV := valid_any pa _ hp hM1
  rw [hv] at cV
  have HR : Hid (rds op pa = []) := Lib.hid (by unfold rds; simp [hv, hn, h1, h2, h3, h4, h5, h6])
  obtain ⟨s1, s2⟩ := (root_str hv).2 hn
  clear hn
  have z1 : (op == 1) = false := by simpa using h1
  have z4 : (op == 4) = false := by simpa using h4
  have z5 : (op == 5) = false := by simpa using h5
  have z2 : (op == 2) = false := by simpa using h2
  have z3 : (op == 3) = false := by simpa using h3
  have z6 : (op == 6) = false := by simpa using h6
  clear h1 h2 h3 h4 h5 h6
  clear hm hM1 hp hv
  go_enter Tryz.func94, Tryz.ntmps94
  go_wp2_with (first
    | (go_at_call 101; refine cV.mono ?_; rintro e w1 ⟨rfl, hb⟩; have c3 : w1.cell? ⟨w.heap.size, 3, none⟩ = some (.string pa) := (hb.cell (p := ⟨w.heap.size, 3, none⟩) (by simp)).trans (by simp [go_sem]); have c2 : w1.cell? ⟨w.heap.size, 2, none⟩ = some (.int .i64 op) := (hb.cell (p := ⟨w.heap.size, 2, none⟩) (by simp)).trans (by simp [go_sem]); have hz : w.heap.size < w1.heap.size := Nat.lt_of_lt_of_le (by simp) hb.size; have HB := Lib.hid hb; clear hb))
  go_ret
  exact ⟨_, rfl, by rw [HR.out]; exact Own2.nil _ _, ((Below.refl _ _).alloc (Nat.le_refl _) _).trans (HB.out.mono (by simp))⟩
set_option maxHeartbeats 4000000 in
theorem writes_root (cl sq op : Int) (pa va : ByteArray) (ver ca cb : Int) (w : World) (hp : pa.size ≤ 1000) (hm : ML w) (hv : vld pa = true) (hn : nmL pa = []) :
    Calls Tryz.prog 93 #[.agg #[.int .i64 cl, .int .i64 sq, .int .i64 op, .string pa, .string va, .int .i64 ver, .int .i64 ca, .int .i64 cb]] w (ClP (wrs op pa) w) := by
  have hM1 : ML (w.alloc (.cells #[.int .i64 cl, .int .i64 sq, .int .i64 op, .string pa, .string va, .int .i64 ver, .int .i64 ca, .int .i64 cb] 43)) := hm.below ((Below.refl _ _).alloc (Nat.le_refl _) _)
  have cV := valid_any pa _ hp hM1
  rw [hv] at cV
  have HR : Hid (wrs op pa = []) := Lib.hid (by unfold wrs; simp [hn])
  obtain ⟨s1, s2⟩ := (root_str hv).1 hn
  clear hn
  clear hm hM1 hp hv
  go_enter Tryz.func93, Tryz.ntmps93
  go_wp2_with (first
    | (go_at_call 101; refine cV.mono ?_; rintro e w1 ⟨rfl, hb⟩; have c3 : w1.cell? ⟨w.heap.size, 3, none⟩ = some (.string pa) := (hb.cell (p := ⟨w.heap.size, 3, none⟩) (by simp)).trans (by simp [go_sem]); have c2 : w1.cell? ⟨w.heap.size, 2, none⟩ = some (.int .i64 op) := (hb.cell (p := ⟨w.heap.size, 2, none⟩) (by simp)).trans (by simp [go_sem]); have hz : w.heap.size < w1.heap.size := Nat.lt_of_lt_of_le (by simp) hb.size; have HB := Lib.hid hb; clear hb))
  go_ret
  exact ⟨_, rfl, by rw [HR.out]; exact Own2.nil _ _, ((Below.refl _ _).alloc (Nat.le_refl _) _).trans (HB.out.mono (by simp))⟩
set_option maxHeartbeats 4000000 in
theorem writes_set (cl sq : Int) (pa va : ByteArray) (ver ca cb : Int) (w : World) (hp : pa.size ≤ 1000) (hm : ML w) (hv : vld pa = true) (hn : nmL pa ≠ []) :
    Calls Tryz.prog 93 #[.agg #[.int .i64 cl, .int .i64 sq, .int .i64 3, .string pa, .string va, .int .i64 ver, .int .i64 ca, .int .i64 cb]] w (ClP (wrs 3 pa) w) := by
  have hM1 : ML (w.alloc (.cells #[.int .i64 cl, .int .i64 sq, .int .i64 3, .string pa, .string va, .int .i64 ver, .int .i64 ca, .int .i64 cb] 43)) := hm.below ((Below.refl _ _).alloc (Nat.le_refl _) _)
  have cV := valid_any pa _ hp hM1
  rw [hv] at cV
  have HR : Hid (wrs 3 pa = [(pa, 118)]) := Lib.hid (by unfold wrs; simp [hv, hn])
  obtain ⟨s1, s2⟩ := (root_str hv).2 hn
  clear hn
  clear hm hM1 hp hv
  go_enter Tryz.func93, Tryz.ntmps93
  go_wp2_with (first
    | (go_at_call 101; refine cV.mono ?_; rintro e w1 ⟨rfl, hb⟩; have c3 : w1.cell? ⟨w.heap.size, 3, none⟩ = some (.string pa) := (hb.cell (p := ⟨w.heap.size, 3, none⟩) (by simp)).trans (by simp [go_sem]); have c2 : w1.cell? ⟨w.heap.size, 2, none⟩ = some (.int .i64 3) := (hb.cell (p := ⟨w.heap.size, 2, none⟩) (by simp)).trans (by simp [go_sem]); have hz : w.heap.size < w1.heap.size := Nat.lt_of_lt_of_le (by simp) hb.size; have HB := Lib.hid hb; clear hb)
    | (go_at_call 102; refine (cells_any pa _ _ _ [118] 1 rfl _ (by omega) (by simp) (by intro i hi; match i, hi with | 0, _ => simp [go_sem, *])).mono ?_; rintro e w2 ⟨v2, he, ho, hb2⟩; subst he; have HO := Lib.hid ho; have HB2 := Lib.hid hb2; clear ho hb2))
  go_ret
  exact ⟨v2, rfl, by rw [HR.out]; exact HO.out.base (by simp; omega), ((Below.refl _ _).alloc (Nat.le_refl _) _).trans ((HB.out.mono (by simp)).trans ((((Below.refl _ _).alloc (Nat.le_refl _) _).mono (by omega)).trans (HB2.out.mono (by simp; omega))))⟩
set_option maxHeartbeats 4000000 in
theorem writes_cas (cl sq : Int) (pa va : ByteArray) (ver ca cb : Int) (w : World) (hp : pa.size ≤ 1000) (hm : ML w) (hv : vld pa = true) (hn : nmL pa ≠ []) :
    Calls Tryz.prog 93 #[.agg #[.int .i64 cl, .int .i64 sq, .int .i64 6, .string pa, .string va, .int .i64 ver, .int .i64 ca, .int .i64 cb]] w (ClP (wrs 6 pa) w) := by
  have hM1 : ML (w.alloc (.cells #[.int .i64 cl, .int .i64 sq, .int .i64 6, .string pa, .string va, .int .i64 ver, .int .i64 ca, .int .i64 cb] 43)) := hm.below ((Below.refl _ _).alloc (Nat.le_refl _) _)
  have cV := valid_any pa _ hp hM1
  rw [hv] at cV
  have HR : Hid (wrs 6 pa = [(pa, 118)]) := Lib.hid (by unfold wrs; simp [hv, hn])
  obtain ⟨s1, s2⟩ := (root_str hv).2 hn
  clear hn
  clear hm hM1 hp hv
  go_enter Tryz.func93, Tryz.ntmps93
  go_wp2_with (first
    | (go_at_call 101; refine cV.mono ?_; rintro e w1 ⟨rfl, hb⟩; have c3 : w1.cell? ⟨w.heap.size, 3, none⟩ = some (.string pa) := (hb.cell (p := ⟨w.heap.size, 3, none⟩) (by simp)).trans (by simp [go_sem]); have c2 : w1.cell? ⟨w.heap.size, 2, none⟩ = some (.int .i64 6) := (hb.cell (p := ⟨w.heap.size, 2, none⟩) (by simp)).trans (by simp [go_sem]); have hz : w.heap.size < w1.heap.size := Nat.lt_of_lt_of_le (by simp) hb.size; have HB := Lib.hid hb; clear hb)
    | (go_at_call 102; refine (cells_any pa _ _ _ [118] 1 rfl _ (by omega) (by simp) (by intro i hi; match i, hi with | 0, _ => simp [go_sem, *])).mono ?_; rintro e w2 ⟨v2, he, ho, hb2⟩; subst he; have HO := Lib.hid ho; have HB2 := Lib.hid hb2; clear ho hb2))
  go_ret
  exact ⟨v2, rfl, by rw [HR.out]; exact HO.out.base (by simp; omega), ((Below.refl _ _).alloc (Nat.le_refl _) _).trans ((HB.out.mono (by simp)).trans ((((Below.refl _ _).alloc (Nat.le_refl _) _).mono (by omega)).trans (HB2.out.mono (by simp; omega))))⟩
set_option maxHeartbeats 4000000 in
theorem writes_oth (cl sq op : Int) (pa va : ByteArray) (ver ca cb : Int) (w : World) (hp : pa.size ≤ 1000) (hm : ML w) (hv : vld pa = true) (h1 : op ≠ 1) (h2 : op ≠ 2) (h3 : op ≠ 3) (h6 : op ≠ 6) (hn : nmL pa ≠ []) :
    Calls Tryz.prog 93 #[.agg #[.int .i64 cl, .int .i64 sq, .int .i64 op, .string pa, .string va, .int .i64 ver, .int .i64 ca, .int .i64 cb]] w (ClP (wrs op pa) w) := by
  have hM1 : ML (w.alloc (.cells #[.int .i64 cl, .int .i64 sq, .int .i64 op, .string pa, .string va, .int .i64 ver, .int .i64 ca, .int .i64 cb] 43)) := hm.below ((Below.refl _ _).alloc (Nat.le_refl _) _)
  have cV := valid_any pa _ hp hM1
  rw [hv] at cV
  have HR : Hid (wrs op pa = []) := Lib.hid (by unfold wrs; simp [hv, hn, h1, h2, h3, h6])
  obtain ⟨s1, s2⟩ := (root_str hv).2 hn
  clear hn
  have z1 : (op == 1) = false := by simpa using h1
  have z2 : (op == 2) = false := by simpa using h2
  have z3 : (op == 3) = false := by simpa using h3
  have z6 : (op == 6) = false := by simpa using h6
  clear h1 h2 h3 h6
  clear hm hM1 hp hv
  go_enter Tryz.func93, Tryz.ntmps93
  go_wp2_with (first
    | (go_at_call 101; refine cV.mono ?_; rintro e w1 ⟨rfl, hb⟩; have c3 : w1.cell? ⟨w.heap.size, 3, none⟩ = some (.string pa) := (hb.cell (p := ⟨w.heap.size, 3, none⟩) (by simp)).trans (by simp [go_sem]); have c2 : w1.cell? ⟨w.heap.size, 2, none⟩ = some (.int .i64 op) := (hb.cell (p := ⟨w.heap.size, 2, none⟩) (by simp)).trans (by simp [go_sem]); have hz : w.heap.size < w1.heap.size := Nat.lt_of_lt_of_le (by simp) hb.size; have HB := Lib.hid hb; clear hb))
  go_ret
  exact ⟨_, rfl, by rw [HR.out]; exact Own2.nil _ _, ((Below.refl _ _).alloc (Nat.le_refl _) _).trans (HB.out.mono (by simp))⟩
end Go.Proofs.YtchhcaoondfpiaaGreat.Tc
namespace Go.Proofs.YtchhcaoondfpiaaGreat.Tc
open Go.RowKit
set_option linter.unusedSimpArgs false
set_option linter.unusedVariables false

theorem upA {n : Nat} {W0 W : World} (h : Below (n + 1) W0 W) (hs : W0.heap.size = n + 1) {o : Obj} : Below (n + 1) W0 (W.alloc o) := h.alloc (by have := h.size; omega) _
theorem upC {n : Nat} {W0 W w' : World} (h : Below (n + 1) W0 W) (hs : W0.heap.size = n + 1) (hb : Below W.heap.size W w') : Below (n + 1) W0 w' := h.trans (hb.mono (by have := h.size; omega))
theorem upS {n : Nat} {W0 W : World} (h : Below (n + 1) W0 W) (hs : W0.heap.size = n + 1) : n + 1 ≤ W.heap.size := by have := h.size; omega
theorem keepU {w W : World} {cl sq op : Int} {pa va : ByteArray} {ver ca cb : Int} (hB : Below (w.heap.size + 1) (cbox w cl sq op pa va ver ca cb) W) :
    W.cell? ⟨w.heap.size, 3, none⟩ = some (.string pa) ∧ Below (w.heap.size + 1) (cbox w cl sq op pa va ver ca cb) W :=
  ⟨(hB.cell (p := ⟨w.heap.size, 3, none⟩) (Nat.lt_succ_self _)).trans (by simp [go_sem]), hB⟩
set_option maxRecDepth 100000 in
set_option maxHeartbeats 4000000 in
theorem reads_create (cl sq : Int) (pa va : ByteArray) (ver ca cb : Int) (w : World) (hp : pa.size ≤ 1000) (hm : ML w) (hv : vld pa = true) (hn : nmL pa ≠ []) :
    Calls Tryz.prog 94 #[.agg #[.int .i64 cl, .int .i64 sq, .int .i64 1, .string pa, .string va, .int .i64 ver, .int .i64 ca, .int .i64 cb]] w (ClP (rds 1 pa) w) := by
  have hM1 : ML (w.alloc (.cells #[.int .i64 cl, .int .i64 sq, .int .i64 1, .string pa, .string va, .int .i64 ver, .int .i64 ca, .int .i64 cb] 43)) := hm.below ((Below.refl _ _).alloc (Nat.le_refl _) _)
  have cV := valid_any pa _ hp hM1
  rw [hv] at cV
  have HR : Hid (rds 1 pa = [(par pa, 101), (pa, 101)]) := Lib.hid (by unfold rds; simp [hv, hn])
  obtain ⟨s1, s2⟩ := (root_str hv).2 hn
  clear hn
  obtain ⟨U, hU⟩ : ∃ U, par pa = U := ⟨_, rfl⟩
  rw [hU] at HR
  have cP : Hid (∀ W, Below (w.heap.size + 1) (w.alloc (.cells #[.int .i64 cl, .int .i64 sq, .int .i64 1, .string pa, .string va, .int .i64 ver, .int .i64 ca, .int .i64 cb] 43)) W → Calls Tryz.prog 103 #[.string pa] W fun e w' => e = .returned (.string U) ∧ Below W.heap.size W w') := Lib.hid (fun W hb => by have := parent_any pa W hp (hM1.below (by simpa using hb)); rw [hU] at this; exact this)
  clear hm hM1 hp hv hU
  go_enter Tryz.func94, Tryz.ntmps94
  go_wp2_with (go_at_call 101; refine cV.mono ?_; rintro e w1 ⟨rfl, hb⟩; have c3 : w1.cell? ⟨w.heap.size, 3, none⟩ = some (.string pa) := (hb.cell (p := ⟨w.heap.size, 3, none⟩) (by simp)).trans (by simp [go_sem]); have c2 : w1.cell? ⟨w.heap.size, 2, none⟩ = some (.int .i64 1) := (hb.cell (p := ⟨w.heap.size, 2, none⟩) (by simp)).trans (by simp [go_sem]); have hz : w.heap.size < w1.heap.size := Nat.lt_of_lt_of_le (by simp) hb.size; have HB := Lib.hid hb; clear hb)
  have HS1 : Below (w.heap.size + 1) (w.alloc (.cells #[.int .i64 cl, .int .i64 sq, .int .i64 1, .string pa, .string va, .int .i64 ver, .int .i64 ca, .int .i64 cb] 43)) w1 := by simpa using HB.out
  have hsz : (w.alloc (.cells #[.int .i64 cl, .int .i64 sq, .int .i64 1, .string pa, .string va, .int .i64 ver, .int .i64 ca, .int .i64 cb] 43)).heap.size = w.heap.size + 1 := by simp
  go_wp2_with fail
  go_region_held3 (fun w' => w'.cell? ⟨w.heap.size, 3, none⟩ = some (.string pa) ∧ Below (w.heap.size + 1) (w.alloc (.cells #[.int .i64 cl, .int .i64 sq, .int .i64 1, .string pa, .string va, .int .i64 ver, .int .i64 ca, .int .i64 cb] 43)) w')
    (first
      | exact keepU HS1.drew
      | exact keepU (upA HS1 hsz).drew
      | exact keepU (upA (upA HS1 hsz) hsz).drew
      | (go_split_ands; exact keepU (by assumption))
      | (go_split_ands; exact keepU (upA (by assumption) hsz)))
    (first
      | (go_at_call 102; have hx7 := ho7; clear hx7; go_split_ands; refine (cells_any _ _ _ _ [101] 1 rfl _ (by omega) (by first | (simp; done) | omega | (simp; omega) | fail) (by intro i hi; have hi2 : i = 0 := (by omega); subst hi2; (first | (simp [go_sem]; done) | exact ((hcw5 _ _ (by first | (simp; done) | omega | (simp; omega) | fail)).trans (by first | (simp [go_sem]; done) | (change (World.alloc _ _).cell? _ = _; simp [go_sem]; done) | fail)) | exact ((hcw5 _ _ (by first | (simp; done) | omega | (simp; omega) | fail)).trans ((((Below.refl _ _).alloc (Nat.le_refl _) _).cell (p := ⟨_, _, none⟩) (by first | (simp; done) | omega | (simp; omega) | fail)).trans (by first | (simp [go_sem]; done) | (change (World.alloc _ _).cell? _ = _; simp [go_sem]; done) | fail))) | exact ((((Below.refl _ _).alloc (Nat.le_refl _) _).cell (p := ⟨_, _, none⟩) (by first | (simp; done) | omega | (simp; omega) | fail)).trans ((hcw5 _ _ (by first | (simp; done) | omega | (simp; omega) | fail)).trans (by first | (simp [go_sem]; done) | (change (World.alloc _ _).cell? _ = _; simp [go_sem]; done) | fail))) | exact ((((Below.refl _ _).alloc (Nat.le_refl _) _).cell (p := ⟨_, _, none⟩) (by first | (simp; done) | omega | (simp; omega) | fail)).trans ((hcw5 _ _ (by first | (simp; done) | omega | (simp; omega) | fail)).trans ((((Below.refl _ _).alloc (Nat.le_refl _) _).cell (p := ⟨_, _, none⟩) (by first | (simp; done) | omega | (simp; omega) | fail)).trans (by first | (simp [go_sem]; done) | (change (World.alloc _ _).cell? _ = _; simp [go_sem]; done) | fail)))) | exact ((hcw7 _ _ (by first | (simp; done) | omega | (simp; omega) | fail)).trans (by first | (simp [go_sem]; done) | (change (World.alloc _ _).cell? _ = _; simp [go_sem]; done) | fail)) | exact ((hcw7 _ _ (by first | (simp; done) | omega | (simp; omega) | fail)).trans ((((Below.refl _ _).alloc (Nat.le_refl _) _).cell (p := ⟨_, _, none⟩) (by first | (simp; done) | omega | (simp; omega) | fail)).trans (by first | (simp [go_sem]; done) | (change (World.alloc _ _).cell? _ = _; simp [go_sem]; done) | fail))) | exact ((((Below.refl _ _).alloc (Nat.le_refl _) _).cell (p := ⟨_, _, none⟩) (by first | (simp; done) | omega | (simp; omega) | fail)).trans ((hcw7 _ _ (by first | (simp; done) | omega | (simp; omega) | fail)).trans (by first | (simp [go_sem]; done) | (change (World.alloc _ _).cell? _ = _; simp [go_sem]; done) | fail))) | exact ((((Below.refl _ _).alloc (Nat.le_refl _) _).cell (p := ⟨_, _, none⟩) (by first | (simp; done) | omega | (simp; omega) | fail)).trans ((hcw7 _ _ (by first | (simp; done) | omega | (simp; omega) | fail)).trans ((((Below.refl _ _).alloc (Nat.le_refl _) _).cell (p := ⟨_, _, none⟩) (by first | (simp; done) | omega | (simp; omega) | fail)).trans (by first | (simp [go_sem]; done) | (change (World.alloc _ _).cell? _ = _; simp [go_sem]; done) | fail)))) | exact ((hcw7 _ _ (by first | (simp; done) | omega | (simp; omega) | fail)).trans ((hcw5 _ _ (by first | (simp; done) | omega | (simp; omega) | fail)).trans (by first | (simp [go_sem]; done) | (change (World.alloc _ _).cell? _ = _; simp [go_sem]; done) | fail))) | exact ((hcw7 _ _ (by first | (simp; done) | omega | (simp; omega) | fail)).trans ((hcw5 _ _ (by first | (simp; done) | omega | (simp; omega) | fail)).trans ((((Below.refl _ _).alloc (Nat.le_refl _) _).cell (p := ⟨_, _, none⟩) (by first | (simp; done) | omega | (simp; omega) | fail)).trans (by first | (simp [go_sem]; done) | (change (World.alloc _ _).cell? _ = _; simp [go_sem]; done) | fail)))) | exact ((hcw7 _ _ (by first | (simp; done) | omega | (simp; omega) | fail)).trans ((((Below.refl _ _).alloc (Nat.le_refl _) _).cell (p := ⟨_, _, none⟩) (by first | (simp; done) | omega | (simp; omega) | fail)).trans ((hcw5 _ _ (by first | (simp; done) | omega | (simp; omega) | fail)).trans (by first | (simp [go_sem]; done) | (change (World.alloc _ _).cell? _ = _; simp [go_sem]; done) | fail)))) | exact ((hcw7 _ _ (by first | (simp; done) | omega | (simp; omega) | fail)).trans ((((Below.refl _ _).alloc (Nat.le_refl _) _).cell (p := ⟨_, _, none⟩) (by first | (simp; done) | omega | (simp; omega) | fail)).trans ((hcw5 _ _ (by first | (simp; done) | omega | (simp; omega) | fail)).trans ((((Below.refl _ _).alloc (Nat.le_refl _) _).cell (p := ⟨_, _, none⟩) (by first | (simp; done) | omega | (simp; omega) | fail)).trans (by first | (simp [go_sem]; done) | (change (World.alloc _ _).cell? _ = _; simp [go_sem]; done) | fail))))) | exact ((((Below.refl _ _).alloc (Nat.le_refl _) _).cell (p := ⟨_, _, none⟩) (by first | (simp; done) | omega | (simp; omega) | fail)).trans ((hcw7 _ _ (by first | (simp; done) | omega | (simp; omega) | fail)).trans ((hcw5 _ _ (by first | (simp; done) | omega | (simp; omega) | fail)).trans (by first | (simp [go_sem]; done) | (change (World.alloc _ _).cell? _ = _; simp [go_sem]; done) | fail)))) | exact ((((Below.refl _ _).alloc (Nat.le_refl _) _).cell (p := ⟨_, _, none⟩) (by first | (simp; done) | omega | (simp; omega) | fail)).trans ((hcw7 _ _ (by first | (simp; done) | omega | (simp; omega) | fail)).trans ((hcw5 _ _ (by first | (simp; done) | omega | (simp; omega) | fail)).trans ((((Below.refl _ _).alloc (Nat.le_refl _) _).cell (p := ⟨_, _, none⟩) (by first | (simp; done) | omega | (simp; omega) | fail)).trans (by first | (simp [go_sem]; done) | (change (World.alloc _ _).cell? _ = _; simp [go_sem]; done) | fail))))) | exact ((((Below.refl _ _).alloc (Nat.le_refl _) _).cell (p := ⟨_, _, none⟩) (by first | (simp; done) | omega | (simp; omega) | fail)).trans ((hcw7 _ _ (by first | (simp; done) | omega | (simp; omega) | fail)).trans ((((Below.refl _ _).alloc (Nat.le_refl _) _).cell (p := ⟨_, _, none⟩) (by first | (simp; done) | omega | (simp; omega) | fail)).trans ((hcw5 _ _ (by first | (simp; done) | omega | (simp; omega) | fail)).trans (by first | (simp [go_sem]; done) | (change (World.alloc _ _).cell? _ = _; simp [go_sem]; done) | fail))))) | exact ((((Below.refl _ _).alloc (Nat.le_refl _) _).cell (p := ⟨_, _, none⟩) (by first | (simp; done) | omega | (simp; omega) | fail)).trans ((hcw7 _ _ (by first | (simp; done) | omega | (simp; omega) | fail)).trans ((((Below.refl _ _).alloc (Nat.le_refl _) _).cell (p := ⟨_, _, none⟩) (by first | (simp; done) | omega | (simp; omega) | fail)).trans ((hcw5 _ _ (by first | (simp; done) | omega | (simp; omega) | fail)).trans ((((Below.refl _ _).alloc (Nat.le_refl _) _).cell (p := ⟨_, _, none⟩) (by first | (simp; done) | omega | (simp; omega) | fail)).trans (by first | (simp [go_sem]; done) | (change (World.alloc _ _).cell? _ = _; simp [go_sem]; done) | fail)))))) | exact ((hcw5 _ _ (by first | (simp; done) | omega | (simp; omega) | fail)).trans ((hcw7 _ _ (by first | (simp; done) | omega | (simp; omega) | fail)).trans (by first | (simp [go_sem]; done) | (change (World.alloc _ _).cell? _ = _; simp [go_sem]; done) | fail))) | exact ((hcw5 _ _ (by first | (simp; done) | omega | (simp; omega) | fail)).trans ((hcw7 _ _ (by first | (simp; done) | omega | (simp; omega) | fail)).trans ((((Below.refl _ _).alloc (Nat.le_refl _) _).cell (p := ⟨_, _, none⟩) (by first | (simp; done) | omega | (simp; omega) | fail)).trans (by first | (simp [go_sem]; done) | (change (World.alloc _ _).cell? _ = _; simp [go_sem]; done) | fail)))) | exact ((hcw5 _ _ (by first | (simp; done) | omega | (simp; omega) | fail)).trans ((((Below.refl _ _).alloc (Nat.le_refl _) _).cell (p := ⟨_, _, none⟩) (by first | (simp; done) | omega | (simp; omega) | fail)).trans ((hcw7 _ _ (by first | (simp; done) | omega | (simp; omega) | fail)).trans (by first | (simp [go_sem]; done) | (change (World.alloc _ _).cell? _ = _; simp [go_sem]; done) | fail)))) | exact ((hcw5 _ _ (by first | (simp; done) | omega | (simp; omega) | fail)).trans ((((Below.refl _ _).alloc (Nat.le_refl _) _).cell (p := ⟨_, _, none⟩) (by first | (simp; done) | omega | (simp; omega) | fail)).trans ((hcw7 _ _ (by first | (simp; done) | omega | (simp; omega) | fail)).trans ((((Below.refl _ _).alloc (Nat.le_refl _) _).cell (p := ⟨_, _, none⟩) (by first | (simp; done) | omega | (simp; omega) | fail)).trans (by first | (simp [go_sem]; done) | (change (World.alloc _ _).cell? _ = _; simp [go_sem]; done) | fail))))) | exact ((((Below.refl _ _).alloc (Nat.le_refl _) _).cell (p := ⟨_, _, none⟩) (by first | (simp; done) | omega | (simp; omega) | fail)).trans ((hcw5 _ _ (by first | (simp; done) | omega | (simp; omega) | fail)).trans ((hcw7 _ _ (by first | (simp; done) | omega | (simp; omega) | fail)).trans (by first | (simp [go_sem]; done) | (change (World.alloc _ _).cell? _ = _; simp [go_sem]; done) | fail)))) | exact ((((Below.refl _ _).alloc (Nat.le_refl _) _).cell (p := ⟨_, _, none⟩) (by first | (simp; done) | omega | (simp; omega) | fail)).trans ((hcw5 _ _ (by first | (simp; done) | omega | (simp; omega) | fail)).trans ((hcw7 _ _ (by first | (simp; done) | omega | (simp; omega) | fail)).trans ((((Below.refl _ _).alloc (Nat.le_refl _) _).cell (p := ⟨_, _, none⟩) (by first | (simp; done) | omega | (simp; omega) | fail)).trans (by first | (simp [go_sem]; done) | (change (World.alloc _ _).cell? _ = _; simp [go_sem]; done) | fail))))) | exact ((((Below.refl _ _).alloc (Nat.le_refl _) _).cell (p := ⟨_, _, none⟩) (by first | (simp; done) | omega | (simp; omega) | fail)).trans ((hcw5 _ _ (by first | (simp; done) | omega | (simp; omega) | fail)).trans ((((Below.refl _ _).alloc (Nat.le_refl _) _).cell (p := ⟨_, _, none⟩) (by first | (simp; done) | omega | (simp; omega) | fail)).trans ((hcw7 _ _ (by first | (simp; done) | omega | (simp; omega) | fail)).trans (by first | (simp [go_sem]; done) | (change (World.alloc _ _).cell? _ = _; simp [go_sem]; done) | fail))))) | exact ((((Below.refl _ _).alloc (Nat.le_refl _) _).cell (p := ⟨_, _, none⟩) (by first | (simp; done) | omega | (simp; omega) | fail)).trans ((hcw5 _ _ (by first | (simp; done) | omega | (simp; omega) | fail)).trans ((((Below.refl _ _).alloc (Nat.le_refl _) _).cell (p := ⟨_, _, none⟩) (by first | (simp; done) | omega | (simp; omega) | fail)).trans ((hcw7 _ _ (by first | (simp; done) | omega | (simp; omega) | fail)).trans ((((Below.refl _ _).alloc (Nat.le_refl _) _).cell (p := ⟨_, _, none⟩) (by first | (simp; done) | omega | (simp; omega) | fail)).trans (by first | (simp [go_sem]; done) | (change (World.alloc _ _).cell? _ = _; simp [go_sem]; done) | fail)))))) | exact ((((Below.refl _ _).alloc (Nat.le_refl _) _).cell (p := ⟨_, _, none⟩) (by first | (simp; done) | omega | (simp; omega) | fail)).trans (by first | (simp [go_sem]; done) | (change (World.alloc _ _).cell? _ = _; simp [go_sem]; done) | fail)) | fail))).mono ?_; rintro e w8 ⟨v8, he, ho8, hbw8⟩; subst he; have hSw8 := upC (by assumption) hsz hbw8; obtain ⟨hcw8, hfw8⟩ := bcell hbw8; have hlw8 := hbw8.size; (first | simp only [World.size_alloc, World.size_drew] at hlw8 | skip); have h78 : Below w7.heap.size w7 w8 := (by first | exact hbw8 | exact below_self ((Below.refl _ _).alloc (Nat.le_refl _) _) hbw8); have ho78 := (ho7.below h78).base (show w.heap.size + 1 ≤ _ from upS (by assumption) hsz); obtain ⟨g8, cc8, e8, hg8, _, hcl8⟩ := ho8.cells (by simp); subst e8)
      | (go_at_call 102; go_split_ands; refine (cells_any _ _ _ _ [101] 1 rfl _ (by omega) (by first | (simp; done) | omega | (simp; omega) | fail) (by intro i hi; have hi2 : i = 0 := (by omega); subst hi2; (first | (simp [go_sem]; done) | exact ((hcw5 _ _ (by first | (simp; done) | omega | (simp; omega) | fail)).trans (by first | (simp [go_sem]; done) | (change (World.alloc _ _).cell? _ = _; simp [go_sem]; done) | fail)) | exact ((hcw5 _ _ (by first | (simp; done) | omega | (simp; omega) | fail)).trans ((((Below.refl _ _).alloc (Nat.le_refl _) _).cell (p := ⟨_, _, none⟩) (by first | (simp; done) | omega | (simp; omega) | fail)).trans (by first | (simp [go_sem]; done) | (change (World.alloc _ _).cell? _ = _; simp [go_sem]; done) | fail))) | exact ((((Below.refl _ _).alloc (Nat.le_refl _) _).cell (p := ⟨_, _, none⟩) (by first | (simp; done) | omega | (simp; omega) | fail)).trans ((hcw5 _ _ (by first | (simp; done) | omega | (simp; omega) | fail)).trans (by first | (simp [go_sem]; done) | (change (World.alloc _ _).cell? _ = _; simp [go_sem]; done) | fail))) | exact ((((Below.refl _ _).alloc (Nat.le_refl _) _).cell (p := ⟨_, _, none⟩) (by first | (simp; done) | omega | (simp; omega) | fail)).trans ((hcw5 _ _ (by first | (simp; done) | omega | (simp; omega) | fail)).trans ((((Below.refl _ _).alloc (Nat.le_refl _) _).cell (p := ⟨_, _, none⟩) (by first | (simp; done) | omega | (simp; omega) | fail)).trans (by first | (simp [go_sem]; done) | (change (World.alloc _ _).cell? _ = _; simp [go_sem]; done) | fail)))) | exact ((hcw7 _ _ (by first | (simp; done) | omega | (simp; omega) | fail)).trans (by first | (simp [go_sem]; done) | (change (World.alloc _ _).cell? _ = _; simp [go_sem]; done) | fail)) | exact ((hcw7 _ _ (by first | (simp; done) | omega | (simp; omega) | fail)).trans ((((Below.refl _ _).alloc (Nat.le_refl _) _).cell (p := ⟨_, _, none⟩) (by first | (simp; done) | omega | (simp; omega) | fail)).trans (by first | (simp [go_sem]; done) | (change (World.alloc _ _).cell? _ = _; simp [go_sem]; done) | fail))) | exact ((((Below.refl _ _).alloc (Nat.le_refl _) _).cell (p := ⟨_, _, none⟩) (by first | (simp; done) | omega | (simp; omega) | fail)).trans ((hcw7 _ _ (by first | (simp; done) | omega | (simp; omega) | fail)).trans (by first | (simp [go_sem]; done) | (change (World.alloc _ _).cell? _ = _; simp [go_sem]; done) | fail))) | exact ((((Below.refl _ _).alloc (Nat.le_refl _) _).cell (p := ⟨_, _, none⟩) (by first | (simp; done) | omega | (simp; omega) | fail)).trans ((hcw7 _ _ (by first | (simp; done) | omega | (simp; omega) | fail)).trans ((((Below.refl _ _).alloc (Nat.le_refl _) _).cell (p := ⟨_, _, none⟩) (by first | (simp; done) | omega | (simp; omega) | fail)).trans (by first | (simp [go_sem]; done) | (change (World.alloc _ _).cell? _ = _; simp [go_sem]; done) | fail)))) | exact ((hcw7 _ _ (by first | (simp; done) | omega | (simp; omega) | fail)).trans ((hcw5 _ _ (by first | (simp; done) | omega | (simp; omega) | fail)).trans (by first | (simp [go_sem]; done) | (change (World.alloc _ _).cell? _ = _; simp [go_sem]; done) | fail))) | exact ((hcw7 _ _ (by first | (simp; done) | omega | (simp; omega) | fail)).trans ((hcw5 _ _ (by first | (simp; done) | omega | (simp; omega) | fail)).trans ((((Below.refl _ _).alloc (Nat.le_refl _) _).cell (p := ⟨_, _, none⟩) (by first | (simp; done) | omega | (simp; omega) | fail)).trans (by first | (simp [go_sem]; done) | (change (World.alloc _ _).cell? _ = _; simp [go_sem]; done) | fail)))) | exact ((hcw7 _ _ (by first | (simp; done) | omega | (simp; omega) | fail)).trans ((((Below.refl _ _).alloc (Nat.le_refl _) _).cell (p := ⟨_, _, none⟩) (by first | (simp; done) | omega | (simp; omega) | fail)).trans ((hcw5 _ _ (by first | (simp; done) | omega | (simp; omega) | fail)).trans (by first | (simp [go_sem]; done) | (change (World.alloc _ _).cell? _ = _; simp [go_sem]; done) | fail)))) | exact ((hcw7 _ _ (by first | (simp; done) | omega | (simp; omega) | fail)).trans ((((Below.refl _ _).alloc (Nat.le_refl _) _).cell (p := ⟨_, _, none⟩) (by first | (simp; done) | omega | (simp; omega) | fail)).trans ((hcw5 _ _ (by first | (simp; done) | omega | (simp; omega) | fail)).trans ((((Below.refl _ _).alloc (Nat.le_refl _) _).cell (p := ⟨_, _, none⟩) (by first | (simp; done) | omega | (simp; omega) | fail)).trans (by first | (simp [go_sem]; done) | (change (World.alloc _ _).cell? _ = _; simp [go_sem]; done) | fail))))) | exact ((((Below.refl _ _).alloc (Nat.le_refl _) _).cell (p := ⟨_, _, none⟩) (by first | (simp; done) | omega | (simp; omega) | fail)).trans ((hcw7 _ _ (by first | (simp; done) | omega | (simp; omega) | fail)).trans ((hcw5 _ _ (by first | (simp; done) | omega | (simp; omega) | fail)).trans (by first | (simp [go_sem]; done) | (change (World.alloc _ _).cell? _ = _; simp [go_sem]; done) | fail)))) | exact ((((Below.refl _ _).alloc (Nat.le_refl _) _).cell (p := ⟨_, _, none⟩) (by first | (simp; done) | omega | (simp; omega) | fail)).trans ((hcw7 _ _ (by first | (simp; done) | omega | (simp; omega) | fail)).trans ((hcw5 _ _ (by first | (simp; done) | omega | (simp; omega) | fail)).trans ((((Below.refl _ _).alloc (Nat.le_refl _) _).cell (p := ⟨_, _, none⟩) (by first | (simp; done) | omega | (simp; omega) | fail)).trans (by first | (simp [go_sem]; done) | (change (World.alloc _ _).cell? _ = _; simp [go_sem]; done) | fail))))) | exact ((((Below.refl _ _).alloc (Nat.le_refl _) _).cell (p := ⟨_, _, none⟩) (by first | (simp; done) | omega | (simp; omega) | fail)).trans ((hcw7 _ _ (by first | (simp; done) | omega | (simp; omega) | fail)).trans ((((Below.refl _ _).alloc (Nat.le_refl _) _).cell (p := ⟨_, _, none⟩) (by first | (simp; done) | omega | (simp; omega) | fail)).trans ((hcw5 _ _ (by first | (simp; done) | omega | (simp; omega) | fail)).trans (by first | (simp [go_sem]; done) | (change (World.alloc _ _).cell? _ = _; simp [go_sem]; done) | fail))))) | exact ((((Below.refl _ _).alloc (Nat.le_refl _) _).cell (p := ⟨_, _, none⟩) (by first | (simp; done) | omega | (simp; omega) | fail)).trans ((hcw7 _ _ (by first | (simp; done) | omega | (simp; omega) | fail)).trans ((((Below.refl _ _).alloc (Nat.le_refl _) _).cell (p := ⟨_, _, none⟩) (by first | (simp; done) | omega | (simp; omega) | fail)).trans ((hcw5 _ _ (by first | (simp; done) | omega | (simp; omega) | fail)).trans ((((Below.refl _ _).alloc (Nat.le_refl _) _).cell (p := ⟨_, _, none⟩) (by first | (simp; done) | omega | (simp; omega) | fail)).trans (by first | (simp [go_sem]; done) | (change (World.alloc _ _).cell? _ = _; simp [go_sem]; done) | fail)))))) | exact ((hcw5 _ _ (by first | (simp; done) | omega | (simp; omega) | fail)).trans ((hcw7 _ _ (by first | (simp; done) | omega | (simp; omega) | fail)).trans (by first | (simp [go_sem]; done) | (change (World.alloc _ _).cell? _ = _; simp [go_sem]; done) | fail))) | exact ((hcw5 _ _ (by first | (simp; done) | omega | (simp; omega) | fail)).trans ((hcw7 _ _ (by first | (simp; done) | omega | (simp; omega) | fail)).trans ((((Below.refl _ _).alloc (Nat.le_refl _) _).cell (p := ⟨_, _, none⟩) (by first | (simp; done) | omega | (simp; omega) | fail)).trans (by first | (simp [go_sem]; done) | (change (World.alloc _ _).cell? _ = _; simp [go_sem]; done) | fail)))) | exact ((hcw5 _ _ (by first | (simp; done) | omega | (simp; omega) | fail)).trans ((((Below.refl _ _).alloc (Nat.le_refl _) _).cell (p := ⟨_, _, none⟩) (by first | (simp; done) | omega | (simp; omega) | fail)).trans ((hcw7 _ _ (by first | (simp; done) | omega | (simp; omega) | fail)).trans (by first | (simp [go_sem]; done) | (change (World.alloc _ _).cell? _ = _; simp [go_sem]; done) | fail)))) | exact ((hcw5 _ _ (by first | (simp; done) | omega | (simp; omega) | fail)).trans ((((Below.refl _ _).alloc (Nat.le_refl _) _).cell (p := ⟨_, _, none⟩) (by first | (simp; done) | omega | (simp; omega) | fail)).trans ((hcw7 _ _ (by first | (simp; done) | omega | (simp; omega) | fail)).trans ((((Below.refl _ _).alloc (Nat.le_refl _) _).cell (p := ⟨_, _, none⟩) (by first | (simp; done) | omega | (simp; omega) | fail)).trans (by first | (simp [go_sem]; done) | (change (World.alloc _ _).cell? _ = _; simp [go_sem]; done) | fail))))) | exact ((((Below.refl _ _).alloc (Nat.le_refl _) _).cell (p := ⟨_, _, none⟩) (by first | (simp; done) | omega | (simp; omega) | fail)).trans ((hcw5 _ _ (by first | (simp; done) | omega | (simp; omega) | fail)).trans ((hcw7 _ _ (by first | (simp; done) | omega | (simp; omega) | fail)).trans (by first | (simp [go_sem]; done) | (change (World.alloc _ _).cell? _ = _; simp [go_sem]; done) | fail)))) | exact ((((Below.refl _ _).alloc (Nat.le_refl _) _).cell (p := ⟨_, _, none⟩) (by first | (simp; done) | omega | (simp; omega) | fail)).trans ((hcw5 _ _ (by first | (simp; done) | omega | (simp; omega) | fail)).trans ((hcw7 _ _ (by first | (simp; done) | omega | (simp; omega) | fail)).trans ((((Below.refl _ _).alloc (Nat.le_refl _) _).cell (p := ⟨_, _, none⟩) (by first | (simp; done) | omega | (simp; omega) | fail)).trans (by first | (simp [go_sem]; done) | (change (World.alloc _ _).cell? _ = _; simp [go_sem]; done) | fail))))) | exact ((((Below.refl _ _).alloc (Nat.le_refl _) _).cell (p := ⟨_, _, none⟩) (by first | (simp; done) | omega | (simp; omega) | fail)).trans ((hcw5 _ _ (by first | (simp; done) | omega | (simp; omega) | fail)).trans ((((Below.refl _ _).alloc (Nat.le_refl _) _).cell (p := ⟨_, _, none⟩) (by first | (simp; done) | omega | (simp; omega) | fail)).trans ((hcw7 _ _ (by first | (simp; done) | omega | (simp; omega) | fail)).trans (by first | (simp [go_sem]; done) | (change (World.alloc _ _).cell? _ = _; simp [go_sem]; done) | fail))))) | exact ((((Below.refl _ _).alloc (Nat.le_refl _) _).cell (p := ⟨_, _, none⟩) (by first | (simp; done) | omega | (simp; omega) | fail)).trans ((hcw5 _ _ (by first | (simp; done) | omega | (simp; omega) | fail)).trans ((((Below.refl _ _).alloc (Nat.le_refl _) _).cell (p := ⟨_, _, none⟩) (by first | (simp; done) | omega | (simp; omega) | fail)).trans ((hcw7 _ _ (by first | (simp; done) | omega | (simp; omega) | fail)).trans ((((Below.refl _ _).alloc (Nat.le_refl _) _).cell (p := ⟨_, _, none⟩) (by first | (simp; done) | omega | (simp; omega) | fail)).trans (by first | (simp [go_sem]; done) | (change (World.alloc _ _).cell? _ = _; simp [go_sem]; done) | fail)))))) | exact ((((Below.refl _ _).alloc (Nat.le_refl _) _).cell (p := ⟨_, _, none⟩) (by first | (simp; done) | omega | (simp; omega) | fail)).trans (by first | (simp [go_sem]; done) | (change (World.alloc _ _).cell? _ = _; simp [go_sem]; done) | fail)) | fail))).mono ?_; rintro e w7 ⟨v7, he, ho7, hbw7⟩; subst he; have hSw7 := upC (by assumption) hsz hbw7; obtain ⟨hcw7, hfw7⟩ := bcell hbw7; have hlw7 := hbw7.size; (first | simp only [World.size_alloc, World.size_drew] at hlw7 | skip))
      | (go_at_call 103; go_split_ands; refine (cP.out _ (by assumption)).mono ?_; rintro e w5 ⟨rfl, hbw5⟩; have hSw5 := upC (by assumption) hsz hbw5; obtain ⟨hcw5, hfw5⟩ := bcell hbw5; have hlw5 := hbw5.size; (first | simp only [World.size_alloc, World.size_drew] at hlw5 | skip))
      | (have hx8 := ho78; clear hx8; go_split_ands; refine step_app2 rfl (.tmp 20) (.tmp 24) rfl (w.heap.size + 1) _ _ rfl ho78 g8 cc8 1 _ rfl rfl hcl8 (by simp) (upS hSw8 hsz) ?_; intro v9 w9 ho9 hb9 hz9; have hS9 := hSw8.trans hb9))
  all_goals
    go_split_ands
    go_wp2
    go_ret
    exact ⟨v9, rfl, by rw [HR.out]; exact ho9.base (Nat.le_succ _), ((Below.refl _ _).alloc (Nat.le_refl _) _).trans (hS9.mono (Nat.le_succ _))⟩
set_option maxRecDepth 100000 in
set_option maxHeartbeats 4000000 in
theorem writes_create (cl sq : Int) (pa va : ByteArray) (ver ca cb : Int) (w : World) (hp : pa.size ≤ 1000) (hm : ML w) (hv : vld pa = true) (hn : nmL pa ≠ []) :
    Calls Tryz.prog 93 #[.agg #[.int .i64 cl, .int .i64 sq, .int .i64 1, .string pa, .string va, .int .i64 ver, .int .i64 ca, .int .i64 cb]] w (ClP (wrs 1 pa) w) := by
  have hM1 : ML (w.alloc (.cells #[.int .i64 cl, .int .i64 sq, .int .i64 1, .string pa, .string va, .int .i64 ver, .int .i64 ca, .int .i64 cb] 43)) := hm.below ((Below.refl _ _).alloc (Nat.le_refl _) _)
  have cV := valid_any pa _ hp hM1
  rw [hv] at cV
  have HR : Hid (wrs 1 pa = [(pa, 101), (pa, 118), (par pa, 107)]) := Lib.hid (by unfold wrs; simp [hv, hn])
  obtain ⟨s1, s2⟩ := (root_str hv).2 hn
  clear hn
  obtain ⟨U, hU⟩ : ∃ U, par pa = U := ⟨_, rfl⟩
  rw [hU] at HR
  have cP : Hid (∀ W, Below (w.heap.size + 1) (w.alloc (.cells #[.int .i64 cl, .int .i64 sq, .int .i64 1, .string pa, .string va, .int .i64 ver, .int .i64 ca, .int .i64 cb] 43)) W → Calls Tryz.prog 103 #[.string pa] W fun e w' => e = .returned (.string U) ∧ Below W.heap.size W w') := Lib.hid (fun W hb => by have := parent_any pa W hp (hM1.below (by simpa using hb)); rw [hU] at this; exact this)
  clear hm hM1 hp hv hU
  go_enter Tryz.func93, Tryz.ntmps93
  go_wp2_with (go_at_call 101; refine cV.mono ?_; rintro e w1 ⟨rfl, hb⟩; have c3 : w1.cell? ⟨w.heap.size, 3, none⟩ = some (.string pa) := (hb.cell (p := ⟨w.heap.size, 3, none⟩) (by simp)).trans (by simp [go_sem]); have c2 : w1.cell? ⟨w.heap.size, 2, none⟩ = some (.int .i64 1) := (hb.cell (p := ⟨w.heap.size, 2, none⟩) (by simp)).trans (by simp [go_sem]); have hz : w.heap.size < w1.heap.size := Nat.lt_of_lt_of_le (by simp) hb.size; have HB := Lib.hid hb; clear hb)
  have HS1 : Below (w.heap.size + 1) (w.alloc (.cells #[.int .i64 cl, .int .i64 sq, .int .i64 1, .string pa, .string va, .int .i64 ver, .int .i64 ca, .int .i64 cb] 43)) w1 := by simpa using HB.out
  have hsz : (w.alloc (.cells #[.int .i64 cl, .int .i64 sq, .int .i64 1, .string pa, .string va, .int .i64 ver, .int .i64 ca, .int .i64 cb] 43)).heap.size = w.heap.size + 1 := by simp
  go_wp2_with fail
  go_region_held3 (fun w' => w'.cell? ⟨w.heap.size, 3, none⟩ = some (.string pa) ∧ Below (w.heap.size + 1) (w.alloc (.cells #[.int .i64 cl, .int .i64 sq, .int .i64 1, .string pa, .string va, .int .i64 ver, .int .i64 ca, .int .i64 cb] 43)) w')
    (first
      | exact keepU HS1.drew
      | exact keepU (upA HS1 hsz).drew
      | exact keepU (upA (upA HS1 hsz) hsz).drew
      | (go_split_ands; exact keepU (by assumption))
      | (go_split_ands; exact keepU (upA (by assumption) hsz)))
    (first
      | (go_at_call 102; have hx7 := ho7; clear hx7; go_split_ands; refine (cells_any _ _ _ _ [107] 1 rfl _ (by omega) (by first | (simp; done) | omega | (simp; omega) | fail) (by intro i hi; have hi2 : i = 0 := (by omega); subst hi2; (first | (simp [go_sem]; done) | exact ((hcw5 _ _ (by first | (simp; done) | omega | (simp; omega) | fail)).trans (by first | (simp [go_sem]; done) | (change (World.alloc _ _).cell? _ = _; simp [go_sem]; done) | fail)) | exact ((hcw5 _ _ (by first | (simp; done) | omega | (simp; omega) | fail)).trans ((((Below.refl _ _).alloc (Nat.le_refl _) _).cell (p := ⟨_, _, none⟩) (by first | (simp; done) | omega | (simp; omega) | fail)).trans (by first | (simp [go_sem]; done) | (change (World.alloc _ _).cell? _ = _; simp [go_sem]; done) | fail))) | exact ((((Below.refl _ _).alloc (Nat.le_refl _) _).cell (p := ⟨_, _, none⟩) (by first | (simp; done) | omega | (simp; omega) | fail)).trans ((hcw5 _ _ (by first | (simp; done) | omega | (simp; omega) | fail)).trans (by first | (simp [go_sem]; done) | (change (World.alloc _ _).cell? _ = _; simp [go_sem]; done) | fail))) | exact ((((Below.refl _ _).alloc (Nat.le_refl _) _).cell (p := ⟨_, _, none⟩) (by first | (simp; done) | omega | (simp; omega) | fail)).trans ((hcw5 _ _ (by first | (simp; done) | omega | (simp; omega) | fail)).trans ((((Below.refl _ _).alloc (Nat.le_refl _) _).cell (p := ⟨_, _, none⟩) (by first | (simp; done) | omega | (simp; omega) | fail)).trans (by first | (simp [go_sem]; done) | (change (World.alloc _ _).cell? _ = _; simp [go_sem]; done) | fail)))) | exact ((hcw7 _ _ (by first | (simp; done) | omega | (simp; omega) | fail)).trans (by first | (simp [go_sem]; done) | (change (World.alloc _ _).cell? _ = _; simp [go_sem]; done) | fail)) | exact ((hcw7 _ _ (by first | (simp; done) | omega | (simp; omega) | fail)).trans ((((Below.refl _ _).alloc (Nat.le_refl _) _).cell (p := ⟨_, _, none⟩) (by first | (simp; done) | omega | (simp; omega) | fail)).trans (by first | (simp [go_sem]; done) | (change (World.alloc _ _).cell? _ = _; simp [go_sem]; done) | fail))) | exact ((((Below.refl _ _).alloc (Nat.le_refl _) _).cell (p := ⟨_, _, none⟩) (by first | (simp; done) | omega | (simp; omega) | fail)).trans ((hcw7 _ _ (by first | (simp; done) | omega | (simp; omega) | fail)).trans (by first | (simp [go_sem]; done) | (change (World.alloc _ _).cell? _ = _; simp [go_sem]; done) | fail))) | exact ((((Below.refl _ _).alloc (Nat.le_refl _) _).cell (p := ⟨_, _, none⟩) (by first | (simp; done) | omega | (simp; omega) | fail)).trans ((hcw7 _ _ (by first | (simp; done) | omega | (simp; omega) | fail)).trans ((((Below.refl _ _).alloc (Nat.le_refl _) _).cell (p := ⟨_, _, none⟩) (by first | (simp; done) | omega | (simp; omega) | fail)).trans (by first | (simp [go_sem]; done) | (change (World.alloc _ _).cell? _ = _; simp [go_sem]; done) | fail)))) | exact ((hcw7 _ _ (by first | (simp; done) | omega | (simp; omega) | fail)).trans ((hcw5 _ _ (by first | (simp; done) | omega | (simp; omega) | fail)).trans (by first | (simp [go_sem]; done) | (change (World.alloc _ _).cell? _ = _; simp [go_sem]; done) | fail))) | exact ((hcw7 _ _ (by first | (simp; done) | omega | (simp; omega) | fail)).trans ((hcw5 _ _ (by first | (simp; done) | omega | (simp; omega) | fail)).trans ((((Below.refl _ _).alloc (Nat.le_refl _) _).cell (p := ⟨_, _, none⟩) (by first | (simp; done) | omega | (simp; omega) | fail)).trans (by first | (simp [go_sem]; done) | (change (World.alloc _ _).cell? _ = _; simp [go_sem]; done) | fail)))) | exact ((hcw7 _ _ (by first | (simp; done) | omega | (simp; omega) | fail)).trans ((((Below.refl _ _).alloc (Nat.le_refl _) _).cell (p := ⟨_, _, none⟩) (by first | (simp; done) | omega | (simp; omega) | fail)).trans ((hcw5 _ _ (by first | (simp; done) | omega | (simp; omega) | fail)).trans (by first | (simp [go_sem]; done) | (change (World.alloc _ _).cell? _ = _; simp [go_sem]; done) | fail)))) | exact ((hcw7 _ _ (by first | (simp; done) | omega | (simp; omega) | fail)).trans ((((Below.refl _ _).alloc (Nat.le_refl _) _).cell (p := ⟨_, _, none⟩) (by first | (simp; done) | omega | (simp; omega) | fail)).trans ((hcw5 _ _ (by first | (simp; done) | omega | (simp; omega) | fail)).trans ((((Below.refl _ _).alloc (Nat.le_refl _) _).cell (p := ⟨_, _, none⟩) (by first | (simp; done) | omega | (simp; omega) | fail)).trans (by first | (simp [go_sem]; done) | (change (World.alloc _ _).cell? _ = _; simp [go_sem]; done) | fail))))) | exact ((((Below.refl _ _).alloc (Nat.le_refl _) _).cell (p := ⟨_, _, none⟩) (by first | (simp; done) | omega | (simp; omega) | fail)).trans ((hcw7 _ _ (by first | (simp; done) | omega | (simp; omega) | fail)).trans ((hcw5 _ _ (by first | (simp; done) | omega | (simp; omega) | fail)).trans (by first | (simp [go_sem]; done) | (change (World.alloc _ _).cell? _ = _; simp [go_sem]; done) | fail)))) | exact ((((Below.refl _ _).alloc (Nat.le_refl _) _).cell (p := ⟨_, _, none⟩) (by first | (simp; done) | omega | (simp; omega) | fail)).trans ((hcw7 _ _ (by first | (simp; done) | omega | (simp; omega) | fail)).trans ((hcw5 _ _ (by first | (simp; done) | omega | (simp; omega) | fail)).trans ((((Below.refl _ _).alloc (Nat.le_refl _) _).cell (p := ⟨_, _, none⟩) (by first | (simp; done) | omega | (simp; omega) | fail)).trans (by first | (simp [go_sem]; done) | (change (World.alloc _ _).cell? _ = _; simp [go_sem]; done) | fail))))) | exact ((((Below.refl _ _).alloc (Nat.le_refl _) _).cell (p := ⟨_, _, none⟩) (by first | (simp; done) | omega | (simp; omega) | fail)).trans ((hcw7 _ _ (by first | (simp; done) | omega | (simp; omega) | fail)).trans ((((Below.refl _ _).alloc (Nat.le_refl _) _).cell (p := ⟨_, _, none⟩) (by first | (simp; done) | omega | (simp; omega) | fail)).trans ((hcw5 _ _ (by first | (simp; done) | omega | (simp; omega) | fail)).trans (by first | (simp [go_sem]; done) | (change (World.alloc _ _).cell? _ = _; simp [go_sem]; done) | fail))))) | exact ((((Below.refl _ _).alloc (Nat.le_refl _) _).cell (p := ⟨_, _, none⟩) (by first | (simp; done) | omega | (simp; omega) | fail)).trans ((hcw7 _ _ (by first | (simp; done) | omega | (simp; omega) | fail)).trans ((((Below.refl _ _).alloc (Nat.le_refl _) _).cell (p := ⟨_, _, none⟩) (by first | (simp; done) | omega | (simp; omega) | fail)).trans ((hcw5 _ _ (by first | (simp; done) | omega | (simp; omega) | fail)).trans ((((Below.refl _ _).alloc (Nat.le_refl _) _).cell (p := ⟨_, _, none⟩) (by first | (simp; done) | omega | (simp; omega) | fail)).trans (by first | (simp [go_sem]; done) | (change (World.alloc _ _).cell? _ = _; simp [go_sem]; done) | fail)))))) | exact ((hcw5 _ _ (by first | (simp; done) | omega | (simp; omega) | fail)).trans ((hcw7 _ _ (by first | (simp; done) | omega | (simp; omega) | fail)).trans (by first | (simp [go_sem]; done) | (change (World.alloc _ _).cell? _ = _; simp [go_sem]; done) | fail))) | exact ((hcw5 _ _ (by first | (simp; done) | omega | (simp; omega) | fail)).trans ((hcw7 _ _ (by first | (simp; done) | omega | (simp; omega) | fail)).trans ((((Below.refl _ _).alloc (Nat.le_refl _) _).cell (p := ⟨_, _, none⟩) (by first | (simp; done) | omega | (simp; omega) | fail)).trans (by first | (simp [go_sem]; done) | (change (World.alloc _ _).cell? _ = _; simp [go_sem]; done) | fail)))) | exact ((hcw5 _ _ (by first | (simp; done) | omega | (simp; omega) | fail)).trans ((((Below.refl _ _).alloc (Nat.le_refl _) _).cell (p := ⟨_, _, none⟩) (by first | (simp; done) | omega | (simp; omega) | fail)).trans ((hcw7 _ _ (by first | (simp; done) | omega | (simp; omega) | fail)).trans (by first | (simp [go_sem]; done) | (change (World.alloc _ _).cell? _ = _; simp [go_sem]; done) | fail)))) | exact ((hcw5 _ _ (by first | (simp; done) | omega | (simp; omega) | fail)).trans ((((Below.refl _ _).alloc (Nat.le_refl _) _).cell (p := ⟨_, _, none⟩) (by first | (simp; done) | omega | (simp; omega) | fail)).trans ((hcw7 _ _ (by first | (simp; done) | omega | (simp; omega) | fail)).trans ((((Below.refl _ _).alloc (Nat.le_refl _) _).cell (p := ⟨_, _, none⟩) (by first | (simp; done) | omega | (simp; omega) | fail)).trans (by first | (simp [go_sem]; done) | (change (World.alloc _ _).cell? _ = _; simp [go_sem]; done) | fail))))) | exact ((((Below.refl _ _).alloc (Nat.le_refl _) _).cell (p := ⟨_, _, none⟩) (by first | (simp; done) | omega | (simp; omega) | fail)).trans ((hcw5 _ _ (by first | (simp; done) | omega | (simp; omega) | fail)).trans ((hcw7 _ _ (by first | (simp; done) | omega | (simp; omega) | fail)).trans (by first | (simp [go_sem]; done) | (change (World.alloc _ _).cell? _ = _; simp [go_sem]; done) | fail)))) | exact ((((Below.refl _ _).alloc (Nat.le_refl _) _).cell (p := ⟨_, _, none⟩) (by first | (simp; done) | omega | (simp; omega) | fail)).trans ((hcw5 _ _ (by first | (simp; done) | omega | (simp; omega) | fail)).trans ((hcw7 _ _ (by first | (simp; done) | omega | (simp; omega) | fail)).trans ((((Below.refl _ _).alloc (Nat.le_refl _) _).cell (p := ⟨_, _, none⟩) (by first | (simp; done) | omega | (simp; omega) | fail)).trans (by first | (simp [go_sem]; done) | (change (World.alloc _ _).cell? _ = _; simp [go_sem]; done) | fail))))) | exact ((((Below.refl _ _).alloc (Nat.le_refl _) _).cell (p := ⟨_, _, none⟩) (by first | (simp; done) | omega | (simp; omega) | fail)).trans ((hcw5 _ _ (by first | (simp; done) | omega | (simp; omega) | fail)).trans ((((Below.refl _ _).alloc (Nat.le_refl _) _).cell (p := ⟨_, _, none⟩) (by first | (simp; done) | omega | (simp; omega) | fail)).trans ((hcw7 _ _ (by first | (simp; done) | omega | (simp; omega) | fail)).trans (by first | (simp [go_sem]; done) | (change (World.alloc _ _).cell? _ = _; simp [go_sem]; done) | fail))))) | exact ((((Below.refl _ _).alloc (Nat.le_refl _) _).cell (p := ⟨_, _, none⟩) (by first | (simp; done) | omega | (simp; omega) | fail)).trans ((hcw5 _ _ (by first | (simp; done) | omega | (simp; omega) | fail)).trans ((((Below.refl _ _).alloc (Nat.le_refl _) _).cell (p := ⟨_, _, none⟩) (by first | (simp; done) | omega | (simp; omega) | fail)).trans ((hcw7 _ _ (by first | (simp; done) | omega | (simp; omega) | fail)).trans ((((Below.refl _ _).alloc (Nat.le_refl _) _).cell (p := ⟨_, _, none⟩) (by first | (simp; done) | omega | (simp; omega) | fail)).trans (by first | (simp [go_sem]; done) | (change (World.alloc _ _).cell? _ = _; simp [go_sem]; done) | fail)))))) | exact ((((Below.refl _ _).alloc (Nat.le_refl _) _).cell (p := ⟨_, _, none⟩) (by first | (simp; done) | omega | (simp; omega) | fail)).trans (by first | (simp [go_sem]; done) | (change (World.alloc _ _).cell? _ = _; simp [go_sem]; done) | fail)) | fail))).mono ?_; rintro e w8 ⟨v8, he, ho8, hbw8⟩; subst he; have hSw8 := upC (by assumption) hsz hbw8; obtain ⟨hcw8, hfw8⟩ := bcell hbw8; have hlw8 := hbw8.size; (first | simp only [World.size_alloc, World.size_drew] at hlw8 | skip); have h58 : Below w5.heap.size w5 w8 := (by first | exact hbw8 | exact below_self ((Below.refl _ _).alloc (Nat.le_refl _) _) hbw8); have h78 : Below w7.heap.size w7 w8 := below_self h75 h58; have ho78 := (ho7.below h78).base (show w.heap.size + 1 ≤ _ from upS (by assumption) hsz); obtain ⟨g8, cc8, e8, hg8, _, hcl8⟩ := ho8.cells (by simp); subst e8)
      | (go_at_call 102; go_split_ands; refine (cells_any _ _ _ _ [101, 118] 2 rfl _ (by omega) (by first | (simp; done) | omega | (simp; omega) | fail) (by intro i hi; have hi2 : i = 0 ∨ i = 1 := (by omega); rcases hi2 with hi2 | hi2 <;> subst hi2 <;> (first | (simp [go_sem]; done) | exact ((hcw5 _ _ (by first | (simp; done) | omega | (simp; omega) | fail)).trans (by first | (simp [go_sem]; done) | (change (World.alloc _ _).cell? _ = _; simp [go_sem]; done) | fail)) | exact ((hcw5 _ _ (by first | (simp; done) | omega | (simp; omega) | fail)).trans ((((Below.refl _ _).alloc (Nat.le_refl _) _).cell (p := ⟨_, _, none⟩) (by first | (simp; done) | omega | (simp; omega) | fail)).trans (by first | (simp [go_sem]; done) | (change (World.alloc _ _).cell? _ = _; simp [go_sem]; done) | fail))) | exact ((((Below.refl _ _).alloc (Nat.le_refl _) _).cell (p := ⟨_, _, none⟩) (by first | (simp; done) | omega | (simp; omega) | fail)).trans ((hcw5 _ _ (by first | (simp; done) | omega | (simp; omega) | fail)).trans (by first | (simp [go_sem]; done) | (change (World.alloc _ _).cell? _ = _; simp [go_sem]; done) | fail))) | exact ((((Below.refl _ _).alloc (Nat.le_refl _) _).cell (p := ⟨_, _, none⟩) (by first | (simp; done) | omega | (simp; omega) | fail)).trans ((hcw5 _ _ (by first | (simp; done) | omega | (simp; omega) | fail)).trans ((((Below.refl _ _).alloc (Nat.le_refl _) _).cell (p := ⟨_, _, none⟩) (by first | (simp; done) | omega | (simp; omega) | fail)).trans (by first | (simp [go_sem]; done) | (change (World.alloc _ _).cell? _ = _; simp [go_sem]; done) | fail)))) | exact ((hcw7 _ _ (by first | (simp; done) | omega | (simp; omega) | fail)).trans (by first | (simp [go_sem]; done) | (change (World.alloc _ _).cell? _ = _; simp [go_sem]; done) | fail)) | exact ((hcw7 _ _ (by first | (simp; done) | omega | (simp; omega) | fail)).trans ((((Below.refl _ _).alloc (Nat.le_refl _) _).cell (p := ⟨_, _, none⟩) (by first | (simp; done) | omega | (simp; omega) | fail)).trans (by first | (simp [go_sem]; done) | (change (World.alloc _ _).cell? _ = _; simp [go_sem]; done) | fail))) | exact ((((Below.refl _ _).alloc (Nat.le_refl _) _).cell (p := ⟨_, _, none⟩) (by first | (simp; done) | omega | (simp; omega) | fail)).trans ((hcw7 _ _ (by first | (simp; done) | omega | (simp; omega) | fail)).trans (by first | (simp [go_sem]; done) | (change (World.alloc _ _).cell? _ = _; simp [go_sem]; done) | fail))) | exact ((((Below.refl _ _).alloc (Nat.le_refl _) _).cell (p := ⟨_, _, none⟩) (by first | (simp; done) | omega | (simp; omega) | fail)).trans ((hcw7 _ _ (by first | (simp; done) | omega | (simp; omega) | fail)).trans ((((Below.refl _ _).alloc (Nat.le_refl _) _).cell (p := ⟨_, _, none⟩) (by first | (simp; done) | omega | (simp; omega) | fail)).trans (by first | (simp [go_sem]; done) | (change (World.alloc _ _).cell? _ = _; simp [go_sem]; done) | fail)))) | exact ((hcw7 _ _ (by first | (simp; done) | omega | (simp; omega) | fail)).trans ((hcw5 _ _ (by first | (simp; done) | omega | (simp; omega) | fail)).trans (by first | (simp [go_sem]; done) | (change (World.alloc _ _).cell? _ = _; simp [go_sem]; done) | fail))) | exact ((hcw7 _ _ (by first | (simp; done) | omega | (simp; omega) | fail)).trans ((hcw5 _ _ (by first | (simp; done) | omega | (simp; omega) | fail)).trans ((((Below.refl _ _).alloc (Nat.le_refl _) _).cell (p := ⟨_, _, none⟩) (by first | (simp; done) | omega | (simp; omega) | fail)).trans (by first | (simp [go_sem]; done) | (change (World.alloc _ _).cell? _ = _; simp [go_sem]; done) | fail)))) | exact ((hcw7 _ _ (by first | (simp; done) | omega | (simp; omega) | fail)).trans ((((Below.refl _ _).alloc (Nat.le_refl _) _).cell (p := ⟨_, _, none⟩) (by first | (simp; done) | omega | (simp; omega) | fail)).trans ((hcw5 _ _ (by first | (simp; done) | omega | (simp; omega) | fail)).trans (by first | (simp [go_sem]; done) | (change (World.alloc _ _).cell? _ = _; simp [go_sem]; done) | fail)))) | exact ((hcw7 _ _ (by first | (simp; done) | omega | (simp; omega) | fail)).trans ((((Below.refl _ _).alloc (Nat.le_refl _) _).cell (p := ⟨_, _, none⟩) (by first | (simp; done) | omega | (simp; omega) | fail)).trans ((hcw5 _ _ (by first | (simp; done) | omega | (simp; omega) | fail)).trans ((((Below.refl _ _).alloc (Nat.le_refl _) _).cell (p := ⟨_, _, none⟩) (by first | (simp; done) | omega | (simp; omega) | fail)).trans (by first | (simp [go_sem]; done) | (change (World.alloc _ _).cell? _ = _; simp [go_sem]; done) | fail))))) | exact ((((Below.refl _ _).alloc (Nat.le_refl _) _).cell (p := ⟨_, _, none⟩) (by first | (simp; done) | omega | (simp; omega) | fail)).trans ((hcw7 _ _ (by first | (simp; done) | omega | (simp; omega) | fail)).trans ((hcw5 _ _ (by first | (simp; done) | omega | (simp; omega) | fail)).trans (by first | (simp [go_sem]; done) | (change (World.alloc _ _).cell? _ = _; simp [go_sem]; done) | fail)))) | exact ((((Below.refl _ _).alloc (Nat.le_refl _) _).cell (p := ⟨_, _, none⟩) (by first | (simp; done) | omega | (simp; omega) | fail)).trans ((hcw7 _ _ (by first | (simp; done) | omega | (simp; omega) | fail)).trans ((hcw5 _ _ (by first | (simp; done) | omega | (simp; omega) | fail)).trans ((((Below.refl _ _).alloc (Nat.le_refl _) _).cell (p := ⟨_, _, none⟩) (by first | (simp; done) | omega | (simp; omega) | fail)).trans (by first | (simp [go_sem]; done) | (change (World.alloc _ _).cell? _ = _; simp [go_sem]; done) | fail))))) | exact ((((Below.refl _ _).alloc (Nat.le_refl _) _).cell (p := ⟨_, _, none⟩) (by first | (simp; done) | omega | (simp; omega) | fail)).trans ((hcw7 _ _ (by first | (simp; done) | omega | (simp; omega) | fail)).trans ((((Below.refl _ _).alloc (Nat.le_refl _) _).cell (p := ⟨_, _, none⟩) (by first | (simp; done) | omega | (simp; omega) | fail)).trans ((hcw5 _ _ (by first | (simp; done) | omega | (simp; omega) | fail)).trans (by first | (simp [go_sem]; done) | (change (World.alloc _ _).cell? _ = _; simp [go_sem]; done) | fail))))) | exact ((((Below.refl _ _).alloc (Nat.le_refl _) _).cell (p := ⟨_, _, none⟩) (by first | (simp; done) | omega | (simp; omega) | fail)).trans ((hcw7 _ _ (by first | (simp; done) | omega | (simp; omega) | fail)).trans ((((Below.refl _ _).alloc (Nat.le_refl _) _).cell (p := ⟨_, _, none⟩) (by first | (simp; done) | omega | (simp; omega) | fail)).trans ((hcw5 _ _ (by first | (simp; done) | omega | (simp; omega) | fail)).trans ((((Below.refl _ _).alloc (Nat.le_refl _) _).cell (p := ⟨_, _, none⟩) (by first | (simp; done) | omega | (simp; omega) | fail)).trans (by first | (simp [go_sem]; done) | (change (World.alloc _ _).cell? _ = _; simp [go_sem]; done) | fail)))))) | exact ((hcw5 _ _ (by first | (simp; done) | omega | (simp; omega) | fail)).trans ((hcw7 _ _ (by first | (simp; done) | omega | (simp; omega) | fail)).trans (by first | (simp [go_sem]; done) | (change (World.alloc _ _).cell? _ = _; simp [go_sem]; done) | fail))) | exact ((hcw5 _ _ (by first | (simp; done) | omega | (simp; omega) | fail)).trans ((hcw7 _ _ (by first | (simp; done) | omega | (simp; omega) | fail)).trans ((((Below.refl _ _).alloc (Nat.le_refl _) _).cell (p := ⟨_, _, none⟩) (by first | (simp; done) | omega | (simp; omega) | fail)).trans (by first | (simp [go_sem]; done) | (change (World.alloc _ _).cell? _ = _; simp [go_sem]; done) | fail)))) | exact ((hcw5 _ _ (by first | (simp; done) | omega | (simp; omega) | fail)).trans ((((Below.refl _ _).alloc (Nat.le_refl _) _).cell (p := ⟨_, _, none⟩) (by first | (simp; done) | omega | (simp; omega) | fail)).trans ((hcw7 _ _ (by first | (simp; done) | omega | (simp; omega) | fail)).trans (by first | (simp [go_sem]; done) | (change (World.alloc _ _).cell? _ = _; simp [go_sem]; done) | fail)))) | exact ((hcw5 _ _ (by first | (simp; done) | omega | (simp; omega) | fail)).trans ((((Below.refl _ _).alloc (Nat.le_refl _) _).cell (p := ⟨_, _, none⟩) (by first | (simp; done) | omega | (simp; omega) | fail)).trans ((hcw7 _ _ (by first | (simp; done) | omega | (simp; omega) | fail)).trans ((((Below.refl _ _).alloc (Nat.le_refl _) _).cell (p := ⟨_, _, none⟩) (by first | (simp; done) | omega | (simp; omega) | fail)).trans (by first | (simp [go_sem]; done) | (change (World.alloc _ _).cell? _ = _; simp [go_sem]; done) | fail))))) | exact ((((Below.refl _ _).alloc (Nat.le_refl _) _).cell (p := ⟨_, _, none⟩) (by first | (simp; done) | omega | (simp; omega) | fail)).trans ((hcw5 _ _ (by first | (simp; done) | omega | (simp; omega) | fail)).trans ((hcw7 _ _ (by first | (simp; done) | omega | (simp; omega) | fail)).trans (by first | (simp [go_sem]; done) | (change (World.alloc _ _).cell? _ = _; simp [go_sem]; done) | fail)))) | exact ((((Below.refl _ _).alloc (Nat.le_refl _) _).cell (p := ⟨_, _, none⟩) (by first | (simp; done) | omega | (simp; omega) | fail)).trans ((hcw5 _ _ (by first | (simp; done) | omega | (simp; omega) | fail)).trans ((hcw7 _ _ (by first | (simp; done) | omega | (simp; omega) | fail)).trans ((((Below.refl _ _).alloc (Nat.le_refl _) _).cell (p := ⟨_, _, none⟩) (by first | (simp; done) | omega | (simp; omega) | fail)).trans (by first | (simp [go_sem]; done) | (change (World.alloc _ _).cell? _ = _; simp [go_sem]; done) | fail))))) | exact ((((Below.refl _ _).alloc (Nat.le_refl _) _).cell (p := ⟨_, _, none⟩) (by first | (simp; done) | omega | (simp; omega) | fail)).trans ((hcw5 _ _ (by first | (simp; done) | omega | (simp; omega) | fail)).trans ((((Below.refl _ _).alloc (Nat.le_refl _) _).cell (p := ⟨_, _, none⟩) (by first | (simp; done) | omega | (simp; omega) | fail)).trans ((hcw7 _ _ (by first | (simp; done) | omega | (simp; omega) | fail)).trans (by first | (simp [go_sem]; done) | (change (World.alloc _ _).cell? _ = _; simp [go_sem]; done) | fail))))) | exact ((((Below.refl _ _).alloc (Nat.le_refl _) _).cell (p := ⟨_, _, none⟩) (by first | (simp; done) | omega | (simp; omega) | fail)).trans ((hcw5 _ _ (by first | (simp; done) | omega | (simp; omega) | fail)).trans ((((Below.refl _ _).alloc (Nat.le_refl _) _).cell (p := ⟨_, _, none⟩) (by first | (simp; done) | omega | (simp; omega) | fail)).trans ((hcw7 _ _ (by first | (simp; done) | omega | (simp; omega) | fail)).trans ((((Below.refl _ _).alloc (Nat.le_refl _) _).cell (p := ⟨_, _, none⟩) (by first | (simp; done) | omega | (simp; omega) | fail)).trans (by first | (simp [go_sem]; done) | (change (World.alloc _ _).cell? _ = _; simp [go_sem]; done) | fail)))))) | exact ((((Below.refl _ _).alloc (Nat.le_refl _) _).cell (p := ⟨_, _, none⟩) (by first | (simp; done) | omega | (simp; omega) | fail)).trans (by first | (simp [go_sem]; done) | (change (World.alloc _ _).cell? _ = _; simp [go_sem]; done) | fail)) | fail))).mono ?_; rintro e w7 ⟨v7, he, ho7, hbw7⟩; subst he; have hSw7 := upC (by assumption) hsz hbw7; obtain ⟨hcw7, hfw7⟩ := bcell hbw7; have hlw7 := hbw7.size; (first | simp only [World.size_alloc, World.size_drew] at hlw7 | skip))
      | (go_at_call 103; go_split_ands; refine (cP.out _ (by assumption)).mono ?_; rintro e w5 ⟨rfl, hbw5⟩; have hSw5 := upC (by assumption) hsz hbw5; obtain ⟨hcw5, hfw5⟩ := bcell hbw5; have hlw5 := hbw5.size; (first | simp only [World.size_alloc, World.size_drew] at hlw5 | skip); have h75 : Below w7.heap.size w7 w5 := (by first | exact hbw5 | exact below_self ((Below.refl _ _).alloc (Nat.le_refl _) _) hbw5))
      | (have hx8 := ho78; clear hx8; go_split_ands; refine step_app2 rfl (.tmp 20) (.tmp 25) rfl (w.heap.size + 1) _ _ rfl ho78 g8 cc8 1 _ rfl rfl hcl8 (by simp) (upS hSw8 hsz) ?_; intro v9 w9 ho9 hb9 hz9; have hS9 := hSw8.trans hb9))
  all_goals
    go_split_ands
    go_wp2
    go_ret
    exact ⟨v9, rfl, by rw [HR.out]; exact ho9.base (Nat.le_succ _), ((Below.refl _ _).alloc (Nat.le_refl _) _).trans (hS9.mono (Nat.le_succ _))⟩
set_option maxRecDepth 100000 in
set_option maxHeartbeats 4000000 in
theorem writes_delete (cl sq : Int) (pa va : ByteArray) (ver ca cb : Int) (w : World) (hp : pa.size ≤ 1000) (hm : ML w) (hv : vld pa = true) (hn : nmL pa ≠ []) :
    Calls Tryz.prog 93 #[.agg #[.int .i64 cl, .int .i64 sq, .int .i64 2, .string pa, .string va, .int .i64 ver, .int .i64 ca, .int .i64 cb]] w (ClP (wrs 2 pa) w) := by
  have hM1 : ML (w.alloc (.cells #[.int .i64 cl, .int .i64 sq, .int .i64 2, .string pa, .string va, .int .i64 ver, .int .i64 ca, .int .i64 cb] 43)) := hm.below ((Below.refl _ _).alloc (Nat.le_refl _) _)
  have cV := valid_any pa _ hp hM1
  rw [hv] at cV
  have HR : Hid (wrs 2 pa = [(pa, 101), (pa, 118), (par pa, 107)]) := Lib.hid (by unfold wrs; simp [hv, hn])
  obtain ⟨s1, s2⟩ := (root_str hv).2 hn
  clear hn
  obtain ⟨U, hU⟩ : ∃ U, par pa = U := ⟨_, rfl⟩
  rw [hU] at HR
  have cP : Hid (∀ W, Below (w.heap.size + 1) (w.alloc (.cells #[.int .i64 cl, .int .i64 sq, .int .i64 2, .string pa, .string va, .int .i64 ver, .int .i64 ca, .int .i64 cb] 43)) W → Calls Tryz.prog 103 #[.string pa] W fun e w' => e = .returned (.string U) ∧ Below W.heap.size W w') := Lib.hid (fun W hb => by have := parent_any pa W hp (hM1.below (by simpa using hb)); rw [hU] at this; exact this)
  clear hm hM1 hp hv hU
  go_enter Tryz.func93, Tryz.ntmps93
  go_wp2_with (go_at_call 101; refine cV.mono ?_; rintro e w1 ⟨rfl, hb⟩; have c3 : w1.cell? ⟨w.heap.size, 3, none⟩ = some (.string pa) := (hb.cell (p := ⟨w.heap.size, 3, none⟩) (by simp)).trans (by simp [go_sem]); have c2 : w1.cell? ⟨w.heap.size, 2, none⟩ = some (.int .i64 2) := (hb.cell (p := ⟨w.heap.size, 2, none⟩) (by simp)).trans (by simp [go_sem]); have hz : w.heap.size < w1.heap.size := Nat.lt_of_lt_of_le (by simp) hb.size; have HB := Lib.hid hb; clear hb)
  have HS1 : Below (w.heap.size + 1) (w.alloc (.cells #[.int .i64 cl, .int .i64 sq, .int .i64 2, .string pa, .string va, .int .i64 ver, .int .i64 ca, .int .i64 cb] 43)) w1 := by simpa using HB.out
  have hsz : (w.alloc (.cells #[.int .i64 cl, .int .i64 sq, .int .i64 2, .string pa, .string va, .int .i64 ver, .int .i64 ca, .int .i64 cb] 43)).heap.size = w.heap.size + 1 := by simp
  go_wp2_with fail
  go_region_held3 (fun w' => w'.cell? ⟨w.heap.size, 3, none⟩ = some (.string pa) ∧ Below (w.heap.size + 1) (w.alloc (.cells #[.int .i64 cl, .int .i64 sq, .int .i64 2, .string pa, .string va, .int .i64 ver, .int .i64 ca, .int .i64 cb] 43)) w')
    (first
      | exact keepU HS1.drew
      | exact keepU (upA HS1 hsz).drew
      | exact keepU (upA (upA HS1 hsz) hsz).drew
      | (go_split_ands; exact keepU (by assumption))
      | (go_split_ands; exact keepU (upA (by assumption) hsz)))
    (first
      | (go_at_call 102; have hx7 := ho7; clear hx7; go_split_ands; refine (cells_any _ _ _ _ [107] 1 rfl _ (by omega) (by first | (simp; done) | omega | (simp; omega) | fail) (by intro i hi; have hi2 : i = 0 := (by omega); subst hi2; (first | (simp [go_sem]; done) | exact ((hcw5 _ _ (by first | (simp; done) | omega | (simp; omega) | fail)).trans (by first | (simp [go_sem]; done) | (change (World.alloc _ _).cell? _ = _; simp [go_sem]; done) | fail)) | exact ((hcw5 _ _ (by first | (simp; done) | omega | (simp; omega) | fail)).trans ((((Below.refl _ _).alloc (Nat.le_refl _) _).cell (p := ⟨_, _, none⟩) (by first | (simp; done) | omega | (simp; omega) | fail)).trans (by first | (simp [go_sem]; done) | (change (World.alloc _ _).cell? _ = _; simp [go_sem]; done) | fail))) | exact ((((Below.refl _ _).alloc (Nat.le_refl _) _).cell (p := ⟨_, _, none⟩) (by first | (simp; done) | omega | (simp; omega) | fail)).trans ((hcw5 _ _ (by first | (simp; done) | omega | (simp; omega) | fail)).trans (by first | (simp [go_sem]; done) | (change (World.alloc _ _).cell? _ = _; simp [go_sem]; done) | fail))) | exact ((((Below.refl _ _).alloc (Nat.le_refl _) _).cell (p := ⟨_, _, none⟩) (by first | (simp; done) | omega | (simp; omega) | fail)).trans ((hcw5 _ _ (by first | (simp; done) | omega | (simp; omega) | fail)).trans ((((Below.refl _ _).alloc (Nat.le_refl _) _).cell (p := ⟨_, _, none⟩) (by first | (simp; done) | omega | (simp; omega) | fail)).trans (by first | (simp [go_sem]; done) | (change (World.alloc _ _).cell? _ = _; simp [go_sem]; done) | fail)))) | exact ((hcw7 _ _ (by first | (simp; done) | omega | (simp; omega) | fail)).trans (by first | (simp [go_sem]; done) | (change (World.alloc _ _).cell? _ = _; simp [go_sem]; done) | fail)) | exact ((hcw7 _ _ (by first | (simp; done) | omega | (simp; omega) | fail)).trans ((((Below.refl _ _).alloc (Nat.le_refl _) _).cell (p := ⟨_, _, none⟩) (by first | (simp; done) | omega | (simp; omega) | fail)).trans (by first | (simp [go_sem]; done) | (change (World.alloc _ _).cell? _ = _; simp [go_sem]; done) | fail))) | exact ((((Below.refl _ _).alloc (Nat.le_refl _) _).cell (p := ⟨_, _, none⟩) (by first | (simp; done) | omega | (simp; omega) | fail)).trans ((hcw7 _ _ (by first | (simp; done) | omega | (simp; omega) | fail)).trans (by first | (simp [go_sem]; done) | (change (World.alloc _ _).cell? _ = _; simp [go_sem]; done) | fail))) | exact ((((Below.refl _ _).alloc (Nat.le_refl _) _).cell (p := ⟨_, _, none⟩) (by first | (simp; done) | omega | (simp; omega) | fail)).trans ((hcw7 _ _ (by first | (simp; done) | omega | (simp; omega) | fail)).trans ((((Below.refl _ _).alloc (Nat.le_refl _) _).cell (p := ⟨_, _, none⟩) (by first | (simp; done) | omega | (simp; omega) | fail)).trans (by first | (simp [go_sem]; done) | (change (World.alloc _ _).cell? _ = _; simp [go_sem]; done) | fail)))) | exact ((hcw7 _ _ (by first | (simp; done) | omega | (simp; omega) | fail)).trans ((hcw5 _ _ (by first | (simp; done) | omega | (simp; omega) | fail)).trans (by first | (simp [go_sem]; done) | (change (World.alloc _ _).cell? _ = _; simp [go_sem]; done) | fail))) | exact ((hcw7 _ _ (by first | (simp; done) | omega | (simp; omega) | fail)).trans ((hcw5 _ _ (by first | (simp; done) | omega | (simp; omega) | fail)).trans ((((Below.refl _ _).alloc (Nat.le_refl _) _).cell (p := ⟨_, _, none⟩) (by first | (simp; done) | omega | (simp; omega) | fail)).trans (by first | (simp [go_sem]; done) | (change (World.alloc _ _).cell? _ = _; simp [go_sem]; done) | fail)))) | exact ((hcw7 _ _ (by first | (simp; done) | omega | (simp; omega) | fail)).trans ((((Below.refl _ _).alloc (Nat.le_refl _) _).cell (p := ⟨_, _, none⟩) (by first | (simp; done) | omega | (simp; omega) | fail)).trans ((hcw5 _ _ (by first | (simp; done) | omega | (simp; omega) | fail)).trans (by first | (simp [go_sem]; done) | (change (World.alloc _ _).cell? _ = _; simp [go_sem]; done) | fail)))) | exact ((hcw7 _ _ (by first | (simp; done) | omega | (simp; omega) | fail)).trans ((((Below.refl _ _).alloc (Nat.le_refl _) _).cell (p := ⟨_, _, none⟩) (by first | (simp; done) | omega | (simp; omega) | fail)).trans ((hcw5 _ _ (by first | (simp; done) | omega | (simp; omega) | fail)).trans ((((Below.refl _ _).alloc (Nat.le_refl _) _).cell (p := ⟨_, _, none⟩) (by first | (simp; done) | omega | (simp; omega) | fail)).trans (by first | (simp [go_sem]; done) | (change (World.alloc _ _).cell? _ = _; simp [go_sem]; done) | fail))))) | exact ((((Below.refl _ _).alloc (Nat.le_refl _) _).cell (p := ⟨_, _, none⟩) (by first | (simp; done) | omega | (simp; omega) | fail)).trans ((hcw7 _ _ (by first | (simp; done) | omega | (simp; omega) | fail)).trans ((hcw5 _ _ (by first | (simp; done) | omega | (simp; omega) | fail)).trans (by first | (simp [go_sem]; done) | (change (World.alloc _ _).cell? _ = _; simp [go_sem]; done) | fail)))) | exact ((((Below.refl _ _).alloc (Nat.le_refl _) _).cell (p := ⟨_, _, none⟩) (by first | (simp; done) | omega | (simp; omega) | fail)).trans ((hcw7 _ _ (by first | (simp; done) | omega | (simp; omega) | fail)).trans ((hcw5 _ _ (by first | (simp; done) | omega | (simp; omega) | fail)).trans ((((Below.refl _ _).alloc (Nat.le_refl _) _).cell (p := ⟨_, _, none⟩) (by first | (simp; done) | omega | (simp; omega) | fail)).trans (by first | (simp [go_sem]; done) | (change (World.alloc _ _).cell? _ = _; simp [go_sem]; done) | fail))))) | exact ((((Below.refl _ _).alloc (Nat.le_refl _) _).cell (p := ⟨_, _, none⟩) (by first | (simp; done) | omega | (simp; omega) | fail)).trans ((hcw7 _ _ (by first | (simp; done) | omega | (simp; omega) | fail)).trans ((((Below.refl _ _).alloc (Nat.le_refl _) _).cell (p := ⟨_, _, none⟩) (by first | (simp; done) | omega | (simp; omega) | fail)).trans ((hcw5 _ _ (by first | (simp; done) | omega | (simp; omega) | fail)).trans (by first | (simp [go_sem]; done) | (change (World.alloc _ _).cell? _ = _; simp [go_sem]; done) | fail))))) | exact ((((Below.refl _ _).alloc (Nat.le_refl _) _).cell (p := ⟨_, _, none⟩) (by first | (simp; done) | omega | (simp; omega) | fail)).trans ((hcw7 _ _ (by first | (simp; done) | omega | (simp; omega) | fail)).trans ((((Below.refl _ _).alloc (Nat.le_refl _) _).cell (p := ⟨_, _, none⟩) (by first | (simp; done) | omega | (simp; omega) | fail)).trans ((hcw5 _ _ (by first | (simp; done) | omega | (simp; omega) | fail)).trans ((((Below.refl _ _).alloc (Nat.le_refl _) _).cell (p := ⟨_, _, none⟩) (by first | (simp; done) | omega | (simp; omega) | fail)).trans (by first | (simp [go_sem]; done) | (change (World.alloc _ _).cell? _ = _; simp [go_sem]; done) | fail)))))) | exact ((hcw5 _ _ (by first | (simp; done) | omega | (simp; omega) | fail)).trans ((hcw7 _ _ (by first | (simp; done) | omega | (simp; omega) | fail)).trans (by first | (simp [go_sem]; done) | (change (World.alloc _ _).cell? _ = _; simp [go_sem]; done) | fail))) | exact ((hcw5 _ _ (by first | (simp; done) | omega | (simp; omega) | fail)).trans ((hcw7 _ _ (by first | (simp; done) | omega | (simp; omega) | fail)).trans ((((Below.refl _ _).alloc (Nat.le_refl _) _).cell (p := ⟨_, _, none⟩) (by first | (simp; done) | omega | (simp; omega) | fail)).trans (by first | (simp [go_sem]; done) | (change (World.alloc _ _).cell? _ = _; simp [go_sem]; done) | fail)))) | exact ((hcw5 _ _ (by first | (simp; done) | omega | (simp; omega) | fail)).trans ((((Below.refl _ _).alloc (Nat.le_refl _) _).cell (p := ⟨_, _, none⟩) (by first | (simp; done) | omega | (simp; omega) | fail)).trans ((hcw7 _ _ (by first | (simp; done) | omega | (simp; omega) | fail)).trans (by first | (simp [go_sem]; done) | (change (World.alloc _ _).cell? _ = _; simp [go_sem]; done) | fail)))) | exact ((hcw5 _ _ (by first | (simp; done) | omega | (simp; omega) | fail)).trans ((((Below.refl _ _).alloc (Nat.le_refl _) _).cell (p := ⟨_, _, none⟩) (by first | (simp; done) | omega | (simp; omega) | fail)).trans ((hcw7 _ _ (by first | (simp; done) | omega | (simp; omega) | fail)).trans ((((Below.refl _ _).alloc (Nat.le_refl _) _).cell (p := ⟨_, _, none⟩) (by first | (simp; done) | omega | (simp; omega) | fail)).trans (by first | (simp [go_sem]; done) | (change (World.alloc _ _).cell? _ = _; simp [go_sem]; done) | fail))))) | exact ((((Below.refl _ _).alloc (Nat.le_refl _) _).cell (p := ⟨_, _, none⟩) (by first | (simp; done) | omega | (simp; omega) | fail)).trans ((hcw5 _ _ (by first | (simp; done) | omega | (simp; omega) | fail)).trans ((hcw7 _ _ (by first | (simp; done) | omega | (simp; omega) | fail)).trans (by first | (simp [go_sem]; done) | (change (World.alloc _ _).cell? _ = _; simp [go_sem]; done) | fail)))) | exact ((((Below.refl _ _).alloc (Nat.le_refl _) _).cell (p := ⟨_, _, none⟩) (by first | (simp; done) | omega | (simp; omega) | fail)).trans ((hcw5 _ _ (by first | (simp; done) | omega | (simp; omega) | fail)).trans ((hcw7 _ _ (by first | (simp; done) | omega | (simp; omega) | fail)).trans ((((Below.refl _ _).alloc (Nat.le_refl _) _).cell (p := ⟨_, _, none⟩) (by first | (simp; done) | omega | (simp; omega) | fail)).trans (by first | (simp [go_sem]; done) | (change (World.alloc _ _).cell? _ = _; simp [go_sem]; done) | fail))))) | exact ((((Below.refl _ _).alloc (Nat.le_refl _) _).cell (p := ⟨_, _, none⟩) (by first | (simp; done) | omega | (simp; omega) | fail)).trans ((hcw5 _ _ (by first | (simp; done) | omega | (simp; omega) | fail)).trans ((((Below.refl _ _).alloc (Nat.le_refl _) _).cell (p := ⟨_, _, none⟩) (by first | (simp; done) | omega | (simp; omega) | fail)).trans ((hcw7 _ _ (by first | (simp; done) | omega | (simp; omega) | fail)).trans (by first | (simp [go_sem]; done) | (change (World.alloc _ _).cell? _ = _; simp [go_sem]; done) | fail))))) | exact ((((Below.refl _ _).alloc (Nat.le_refl _) _).cell (p := ⟨_, _, none⟩) (by first | (simp; done) | omega | (simp; omega) | fail)).trans ((hcw5 _ _ (by first | (simp; done) | omega | (simp; omega) | fail)).trans ((((Below.refl _ _).alloc (Nat.le_refl _) _).cell (p := ⟨_, _, none⟩) (by first | (simp; done) | omega | (simp; omega) | fail)).trans ((hcw7 _ _ (by first | (simp; done) | omega | (simp; omega) | fail)).trans ((((Below.refl _ _).alloc (Nat.le_refl _) _).cell (p := ⟨_, _, none⟩) (by first | (simp; done) | omega | (simp; omega) | fail)).trans (by first | (simp [go_sem]; done) | (change (World.alloc _ _).cell? _ = _; simp [go_sem]; done) | fail)))))) | exact ((((Below.refl _ _).alloc (Nat.le_refl _) _).cell (p := ⟨_, _, none⟩) (by first | (simp; done) | omega | (simp; omega) | fail)).trans (by first | (simp [go_sem]; done) | (change (World.alloc _ _).cell? _ = _; simp [go_sem]; done) | fail)) | fail))).mono ?_; rintro e w8 ⟨v8, he, ho8, hbw8⟩; subst he; have hSw8 := upC (by assumption) hsz hbw8; obtain ⟨hcw8, hfw8⟩ := bcell hbw8; have hlw8 := hbw8.size; (first | simp only [World.size_alloc, World.size_drew] at hlw8 | skip); have h58 : Below w5.heap.size w5 w8 := (by first | exact hbw8 | exact below_self ((Below.refl _ _).alloc (Nat.le_refl _) _) hbw8); have h78 : Below w7.heap.size w7 w8 := below_self h75 h58; have ho78 := (ho7.below h78).base (show w.heap.size + 1 ≤ _ from upS (by assumption) hsz); obtain ⟨g8, cc8, e8, hg8, _, hcl8⟩ := ho8.cells (by simp); subst e8)
      | (go_at_call 102; go_split_ands; refine (cells_any _ _ _ _ [101, 118] 2 rfl _ (by omega) (by first | (simp; done) | omega | (simp; omega) | fail) (by intro i hi; have hi2 : i = 0 ∨ i = 1 := (by omega); rcases hi2 with hi2 | hi2 <;> subst hi2 <;> (first | (simp [go_sem]; done) | exact ((hcw5 _ _ (by first | (simp; done) | omega | (simp; omega) | fail)).trans (by first | (simp [go_sem]; done) | (change (World.alloc _ _).cell? _ = _; simp [go_sem]; done) | fail)) | exact ((hcw5 _ _ (by first | (simp; done) | omega | (simp; omega) | fail)).trans ((((Below.refl _ _).alloc (Nat.le_refl _) _).cell (p := ⟨_, _, none⟩) (by first | (simp; done) | omega | (simp; omega) | fail)).trans (by first | (simp [go_sem]; done) | (change (World.alloc _ _).cell? _ = _; simp [go_sem]; done) | fail))) | exact ((((Below.refl _ _).alloc (Nat.le_refl _) _).cell (p := ⟨_, _, none⟩) (by first | (simp; done) | omega | (simp; omega) | fail)).trans ((hcw5 _ _ (by first | (simp; done) | omega | (simp; omega) | fail)).trans (by first | (simp [go_sem]; done) | (change (World.alloc _ _).cell? _ = _; simp [go_sem]; done) | fail))) | exact ((((Below.refl _ _).alloc (Nat.le_refl _) _).cell (p := ⟨_, _, none⟩) (by first | (simp; done) | omega | (simp; omega) | fail)).trans ((hcw5 _ _ (by first | (simp; done) | omega | (simp; omega) | fail)).trans ((((Below.refl _ _).alloc (Nat.le_refl _) _).cell (p := ⟨_, _, none⟩) (by first | (simp; done) | omega | (simp; omega) | fail)).trans (by first | (simp [go_sem]; done) | (change (World.alloc _ _).cell? _ = _; simp [go_sem]; done) | fail)))) | exact ((hcw7 _ _ (by first | (simp; done) | omega | (simp; omega) | fail)).trans (by first | (simp [go_sem]; done) | (change (World.alloc _ _).cell? _ = _; simp [go_sem]; done) | fail)) | exact ((hcw7 _ _ (by first | (simp; done) | omega | (simp; omega) | fail)).trans ((((Below.refl _ _).alloc (Nat.le_refl _) _).cell (p := ⟨_, _, none⟩) (by first | (simp; done) | omega | (simp; omega) | fail)).trans (by first | (simp [go_sem]; done) | (change (World.alloc _ _).cell? _ = _; simp [go_sem]; done) | fail))) | exact ((((Below.refl _ _).alloc (Nat.le_refl _) _).cell (p := ⟨_, _, none⟩) (by first | (simp; done) | omega | (simp; omega) | fail)).trans ((hcw7 _ _ (by first | (simp; done) | omega | (simp; omega) | fail)).trans (by first | (simp [go_sem]; done) | (change (World.alloc _ _).cell? _ = _; simp [go_sem]; done) | fail))) | exact ((((Below.refl _ _).alloc (Nat.le_refl _) _).cell (p := ⟨_, _, none⟩) (by first | (simp; done) | omega | (simp; omega) | fail)).trans ((hcw7 _ _ (by first | (simp; done) | omega | (simp; omega) | fail)).trans ((((Below.refl _ _).alloc (Nat.le_refl _) _).cell (p := ⟨_, _, none⟩) (by first | (simp; done) | omega | (simp; omega) | fail)).trans (by first | (simp [go_sem]; done) | (change (World.alloc _ _).cell? _ = _; simp [go_sem]; done) | fail)))) | exact ((hcw7 _ _ (by first | (simp; done) | omega | (simp; omega) | fail)).trans ((hcw5 _ _ (by first | (simp; done) | omega | (simp; omega) | fail)).trans (by first | (simp [go_sem]; done) | (change (World.alloc _ _).cell? _ = _; simp [go_sem]; done) | fail))) | exact ((hcw7 _ _ (by first | (simp; done) | omega | (simp; omega) | fail)).trans ((hcw5 _ _ (by first | (simp; done) | omega | (simp; omega) | fail)).trans ((((Below.refl _ _).alloc (Nat.le_refl _) _).cell (p := ⟨_, _, none⟩) (by first | (simp; done) | omega | (simp; omega) | fail)).trans (by first | (simp [go_sem]; done) | (change (World.alloc _ _).cell? _ = _; simp [go_sem]; done) | fail)))) | exact ((hcw7 _ _ (by first | (simp; done) | omega | (simp; omega) | fail)).trans ((((Below.refl _ _).alloc (Nat.le_refl _) _).cell (p := ⟨_, _, none⟩) (by first | (simp; done) | omega | (simp; omega) | fail)).trans ((hcw5 _ _ (by first | (simp; done) | omega | (simp; omega) | fail)).trans (by first | (simp [go_sem]; done) | (change (World.alloc _ _).cell? _ = _; simp [go_sem]; done) | fail)))) | exact ((hcw7 _ _ (by first | (simp; done) | omega | (simp; omega) | fail)).trans ((((Below.refl _ _).alloc (Nat.le_refl _) _).cell (p := ⟨_, _, none⟩) (by first | (simp; done) | omega | (simp; omega) | fail)).trans ((hcw5 _ _ (by first | (simp; done) | omega | (simp; omega) | fail)).trans ((((Below.refl _ _).alloc (Nat.le_refl _) _).cell (p := ⟨_, _, none⟩) (by first | (simp; done) | omega | (simp; omega) | fail)).trans (by first | (simp [go_sem]; done) | (change (World.alloc _ _).cell? _ = _; simp [go_sem]; done) | fail))))) | exact ((((Below.refl _ _).alloc (Nat.le_refl _) _).cell (p := ⟨_, _, none⟩) (by first | (simp; done) | omega | (simp; omega) | fail)).trans ((hcw7 _ _ (by first | (simp; done) | omega | (simp; omega) | fail)).trans ((hcw5 _ _ (by first | (simp; done) | omega | (simp; omega) | fail)).trans (by first | (simp [go_sem]; done) | (change (World.alloc _ _).cell? _ = _; simp [go_sem]; done) | fail)))) | exact ((((Below.refl _ _).alloc (Nat.le_refl _) _).cell (p := ⟨_, _, none⟩) (by first | (simp; done) | omega | (simp; omega) | fail)).trans ((hcw7 _ _ (by first | (simp; done) | omega | (simp; omega) | fail)).trans ((hcw5 _ _ (by first | (simp; done) | omega | (simp; omega) | fail)).trans ((((Below.refl _ _).alloc (Nat.le_refl _) _).cell (p := ⟨_, _, none⟩) (by first | (simp; done) | omega | (simp; omega) | fail)).trans (by first | (simp [go_sem]; done) | (change (World.alloc _ _).cell? _ = _; simp [go_sem]; done) | fail))))) | exact ((((Below.refl _ _).alloc (Nat.le_refl _) _).cell (p := ⟨_, _, none⟩) (by first | (simp; done) | omega | (simp; omega) | fail)).trans ((hcw7 _ _ (by first | (simp; done) | omega | (simp; omega) | fail)).trans ((((Below.refl _ _).alloc (Nat.le_refl _) _).cell (p := ⟨_, _, none⟩) (by first | (simp; done) | omega | (simp; omega) | fail)).trans ((hcw5 _ _ (by first | (simp; done) | omega | (simp; omega) | fail)).trans (by first | (simp [go_sem]; done) | (change (World.alloc _ _).cell? _ = _; simp [go_sem]; done) | fail))))) | exact ((((Below.refl _ _).alloc (Nat.le_refl _) _).cell (p := ⟨_, _, none⟩) (by first | (simp; done) | omega | (simp; omega) | fail)).trans ((hcw7 _ _ (by first | (simp; done) | omega | (simp; omega) | fail)).trans ((((Below.refl _ _).alloc (Nat.le_refl _) _).cell (p := ⟨_, _, none⟩) (by first | (simp; done) | omega | (simp; omega) | fail)).trans ((hcw5 _ _ (by first | (simp; done) | omega | (simp; omega) | fail)).trans ((((Below.refl _ _).alloc (Nat.le_refl _) _).cell (p := ⟨_, _, none⟩) (by first | (simp; done) | omega | (simp; omega) | fail)).trans (by first | (simp [go_sem]; done) | (change (World.alloc _ _).cell? _ = _; simp [go_sem]; done) | fail)))))) | exact ((hcw5 _ _ (by first | (simp; done) | omega | (simp; omega) | fail)).trans ((hcw7 _ _ (by first | (simp; done) | omega | (simp; omega) | fail)).trans (by first | (simp [go_sem]; done) | (change (World.alloc _ _).cell? _ = _; simp [go_sem]; done) | fail))) | exact ((hcw5 _ _ (by first | (simp; done) | omega | (simp; omega) | fail)).trans ((hcw7 _ _ (by first | (simp; done) | omega | (simp; omega) | fail)).trans ((((Below.refl _ _).alloc (Nat.le_refl _) _).cell (p := ⟨_, _, none⟩) (by first | (simp; done) | omega | (simp; omega) | fail)).trans (by first | (simp [go_sem]; done) | (change (World.alloc _ _).cell? _ = _; simp [go_sem]; done) | fail)))) | exact ((hcw5 _ _ (by first | (simp; done) | omega | (simp; omega) | fail)).trans ((((Below.refl _ _).alloc (Nat.le_refl _) _).cell (p := ⟨_, _, none⟩) (by first | (simp; done) | omega | (simp; omega) | fail)).trans ((hcw7 _ _ (by first | (simp; done) | omega | (simp; omega) | fail)).trans (by first | (simp [go_sem]; done) | (change (World.alloc _ _).cell? _ = _; simp [go_sem]; done) | fail)))) | exact ((hcw5 _ _ (by first | (simp; done) | omega | (simp; omega) | fail)).trans ((((Below.refl _ _).alloc (Nat.le_refl _) _).cell (p := ⟨_, _, none⟩) (by first | (simp; done) | omega | (simp; omega) | fail)).trans ((hcw7 _ _ (by first | (simp; done) | omega | (simp; omega) | fail)).trans ((((Below.refl _ _).alloc (Nat.le_refl _) _).cell (p := ⟨_, _, none⟩) (by first | (simp; done) | omega | (simp; omega) | fail)).trans (by first | (simp [go_sem]; done) | (change (World.alloc _ _).cell? _ = _; simp [go_sem]; done) | fail))))) | exact ((((Below.refl _ _).alloc (Nat.le_refl _) _).cell (p := ⟨_, _, none⟩) (by first | (simp; done) | omega | (simp; omega) | fail)).trans ((hcw5 _ _ (by first | (simp; done) | omega | (simp; omega) | fail)).trans ((hcw7 _ _ (by first | (simp; done) | omega | (simp; omega) | fail)).trans (by first | (simp [go_sem]; done) | (change (World.alloc _ _).cell? _ = _; simp [go_sem]; done) | fail)))) | exact ((((Below.refl _ _).alloc (Nat.le_refl _) _).cell (p := ⟨_, _, none⟩) (by first | (simp; done) | omega | (simp; omega) | fail)).trans ((hcw5 _ _ (by first | (simp; done) | omega | (simp; omega) | fail)).trans ((hcw7 _ _ (by first | (simp; done) | omega | (simp; omega) | fail)).trans ((((Below.refl _ _).alloc (Nat.le_refl _) _).cell (p := ⟨_, _, none⟩) (by first | (simp; done) | omega | (simp; omega) | fail)).trans (by first | (simp [go_sem]; done) | (change (World.alloc _ _).cell? _ = _; simp [go_sem]; done) | fail))))) | exact ((((Below.refl _ _).alloc (Nat.le_refl _) _).cell (p := ⟨_, _, none⟩) (by first | (simp; done) | omega | (simp; omega) | fail)).trans ((hcw5 _ _ (by first | (simp; done) | omega | (simp; omega) | fail)).trans ((((Below.refl _ _).alloc (Nat.le_refl _) _).cell (p := ⟨_, _, none⟩) (by first | (simp; done) | omega | (simp; omega) | fail)).trans ((hcw7 _ _ (by first | (simp; done) | omega | (simp; omega) | fail)).trans (by first | (simp [go_sem]; done) | (change (World.alloc _ _).cell? _ = _; simp [go_sem]; done) | fail))))) | exact ((((Below.refl _ _).alloc (Nat.le_refl _) _).cell (p := ⟨_, _, none⟩) (by first | (simp; done) | omega | (simp; omega) | fail)).trans ((hcw5 _ _ (by first | (simp; done) | omega | (simp; omega) | fail)).trans ((((Below.refl _ _).alloc (Nat.le_refl _) _).cell (p := ⟨_, _, none⟩) (by first | (simp; done) | omega | (simp; omega) | fail)).trans ((hcw7 _ _ (by first | (simp; done) | omega | (simp; omega) | fail)).trans ((((Below.refl _ _).alloc (Nat.le_refl _) _).cell (p := ⟨_, _, none⟩) (by first | (simp; done) | omega | (simp; omega) | fail)).trans (by first | (simp [go_sem]; done) | (change (World.alloc _ _).cell? _ = _; simp [go_sem]; done) | fail)))))) | exact ((((Below.refl _ _).alloc (Nat.le_refl _) _).cell (p := ⟨_, _, none⟩) (by first | (simp; done) | omega | (simp; omega) | fail)).trans (by first | (simp [go_sem]; done) | (change (World.alloc _ _).cell? _ = _; simp [go_sem]; done) | fail)) | fail))).mono ?_; rintro e w7 ⟨v7, he, ho7, hbw7⟩; subst he; have hSw7 := upC (by assumption) hsz hbw7; obtain ⟨hcw7, hfw7⟩ := bcell hbw7; have hlw7 := hbw7.size; (first | simp only [World.size_alloc, World.size_drew] at hlw7 | skip))
      | (go_at_call 103; go_split_ands; refine (cP.out _ (by assumption)).mono ?_; rintro e w5 ⟨rfl, hbw5⟩; have hSw5 := upC (by assumption) hsz hbw5; obtain ⟨hcw5, hfw5⟩ := bcell hbw5; have hlw5 := hbw5.size; (first | simp only [World.size_alloc, World.size_drew] at hlw5 | skip); have h75 : Below w7.heap.size w7 w5 := (by first | exact hbw5 | exact below_self ((Below.refl _ _).alloc (Nat.le_refl _) _) hbw5))
      | (have hx8 := ho78; clear hx8; go_split_ands; refine step_app2 rfl (.tmp 20) (.tmp 25) rfl (w.heap.size + 1) _ _ rfl ho78 g8 cc8 1 _ rfl rfl hcl8 (by simp) (upS hSw8 hsz) ?_; intro v9 w9 ho9 hb9 hz9; have hS9 := hSw8.trans hb9))
  all_goals
    go_split_ands
    go_wp2
    go_ret
    exact ⟨v9, rfl, by rw [HR.out]; exact ho9.base (Nat.le_succ _), ((Below.refl _ _).alloc (Nat.le_refl _) _).trans (hS9.mono (Nat.le_succ _))⟩
end Go.Proofs.YtchhcaoondfpiaaGreat.Tc
namespace Go.Proofs.YtchhcaoondfpiaaGreat.Tc
open Go.RowKit
set_option linter.unusedSimpArgs false
set_option linter.unusedVariables false

theorem reads_any (cl sq op : Int) (pa va : ByteArray) (ver ca cb : Int) (w : World) (hp : pa.size ≤ 1000) (hm : ML w) :
    Calls Tryz.prog 94 #[.agg #[.int .i64 cl, .int .i64 sq, .int .i64 op, .string pa, .string va, .int .i64 ver, .int .i64 ca, .int .i64 cb]] w (ClP (rds op pa) w) := by
  cases hv : vld pa with
  | false => exact reads_no cl sq op pa va ver ca cb w hp hm hv
  | true =>
    by_cases h1 : op = 1
    · subst h1
      by_cases hn : nmL pa = []
      · exact reads_root1 cl sq pa va ver ca cb w hp hm hv hn
      · exact reads_create cl sq pa va ver ca cb w hp hm hv hn
    · by_cases h4 : op = 4
      · subst h4; exact reads_get cl sq pa va ver ca cb w hp hm hv
      · by_cases h5 : op = 5
        · subst h5; exact reads_list cl sq pa va ver ca cb w hp hm hv
        · by_cases hn : nmL pa = []
          · exact reads_root cl sq op pa va ver ca cb w hp hm hv h1 h4 h5 hn
          · by_cases h2 : op = 2
            · subst h2; exact reads_del cl sq pa va ver ca cb w hp hm hv hn
            · by_cases h3 : op = 3
              · subst h3; exact reads_set cl sq pa va ver ca cb w hp hm hv hn
              · by_cases h6 : op = 6
                · subst h6; exact reads_cas cl sq pa va ver ca cb w hp hm hv hn
                · exact reads_oth cl sq op pa va ver ca cb w hp hm hv h1 h4 h5 h2 h3 h6 hn
theorem wrs_none {op : Int} {p : ByteArray} (h : vld p = false) : wrs op p = [] := by unfold wrs; rw [if_pos (.inl h)]
set_option maxHeartbeats 2000000 in
theorem writes_no (cl sq op : Int) (pa va : ByteArray) (ver ca cb : Int) (w : World) (hp : pa.size ≤ 1000) (hm : ML w) (hv : vld pa = false) :
    Calls Tryz.prog 93 #[.agg #[.int .i64 cl, .int .i64 sq, .int .i64 op, .string pa, .string va, .int .i64 ver, .int .i64 ca, .int .i64 cb]] w (ClP (wrs op pa) w) := by
  have hM1 : ML (cbox w cl sq op pa va ver ca cb) := hm.below ((Below.refl _ _).alloc (Nat.le_refl _) _)
  have cV := valid_any pa _ hp hM1
  rw [hv] at cV
  rw [wrs_none hv]
  clear hm hM1 hp hv
  go_enter Tryz.func93, Tryz.ntmps93
  go_wp2_with (go_at_call 101; refine cV.mono ?_; rintro e w1 ⟨rfl, hb⟩; have HB := Lib.hid hb; clear hb)
  go_ret
  exact ⟨_, rfl, Own2.nil _ _, ((Below.refl _ _).alloc (Nat.le_refl _) _).trans (HB.out.mono (by simp))⟩
theorem writes_any (cl sq op : Int) (pa va : ByteArray) (ver ca cb : Int) (w : World) (hp : pa.size ≤ 1000) (hm : ML w) :
    Calls Tryz.prog 93 #[.agg #[.int .i64 cl, .int .i64 sq, .int .i64 op, .string pa, .string va, .int .i64 ver, .int .i64 ca, .int .i64 cb]] w (ClP (wrs op pa) w) := by
  cases hv : vld pa with
  | false => exact writes_no cl sq op pa va ver ca cb w hp hm hv
  | true =>
    by_cases hn : nmL pa = []
    · exact writes_root cl sq op pa va ver ca cb w hp hm hv hn
    · by_cases h1 : op = 1
      · subst h1; exact writes_create cl sq pa va ver ca cb w hp hm hv hn
      · by_cases h2 : op = 2
        · subst h2; exact writes_delete cl sq pa va ver ca cb w hp hm hv hn
        · by_cases h3 : op = 3
          · subst h3; exact writes_set cl sq pa va ver ca cb w hp hm hv hn
          · by_cases h6 : op = 6
            · subst h6; exact writes_cas cl sq pa va ver ca cb w hp hm hv hn
            · exact writes_oth cl sq op pa va ver ca cb w hp hm hv h1 h2 h3 h6 hn
theorem control_any (cl sq op : Int) (pa va : ByteArray) (ver ca cb : Int) (w : World) :
    Calls Tryz.prog 57 #[.agg #[.int .i64 cl, .int .i64 sq, .int .i64 op, .string pa, .string va, .int .i64 ver, .int .i64 ca, .int .i64 cb]] w fun e w' => e = .returned (.bool (ctl op)) ∧ Below w.heap.size w w' := by
  by_cases h7 : op = 7
  · subst h7
    go_enter Tryz.func57, Tryz.ntmps57
    go_wp2
    go_ret
    exact ⟨rfl, (Below.refl _ _).alloc (Nat.le_refl _) _⟩
  · by_cases h8 : op = 8
    · subst h8
      go_enter Tryz.func57, Tryz.ntmps57
      go_wp2
      go_ret
      exact ⟨rfl, (Below.refl _ _).alloc (Nat.le_refl _) _⟩
    · by_cases h9 : op = 9
      · subst h9
        go_enter Tryz.func57, Tryz.ntmps57
        go_wp2
        go_ret
        exact ⟨rfl, (Below.refl _ _).alloc (Nat.le_refl _) _⟩
      · have e : ctl op = false := by unfold ctl; simp [h7, h8, h9]
        rw [e]
        have z7 : (op == 7) = false := by simpa using h7
        have z8 : (op == 8) = false := by simpa using h8
        have z9 : (op == 9) = false := by simpa using h9
        clear h7 h8 h9 e
        go_enter Tryz.func57, Tryz.ntmps57
        go_wp2
        go_ret
        exact ⟨rfl, (Below.refl _ _).alloc (Nat.le_refl _) _⟩
end Go.Proofs.YtchhcaoondfpiaaGreat.Tc
namespace Go.Proofs.YtchhcaoondfpiaaGreat.Tc
open Go.RowKit
set_option linter.unusedSimpArgs false
set_option linter.unusedVariables false

set_option maxRecDepth 100000 in
theorem laidOut8 : laidOutB Tryz.prog = true := by kernel_rfl
theorem cellRow : (140 : TypeId) < Tryz.prog.types.size := of_decide_eq_true (by kernel_rfl)
theorem cells49 : Tryz.prog.cellsOf 140 = 2 := by kernel_rfl
theorem cells9 : Tryz.prog.cellsOf 9 = 1 := by kernel_rfl
theorem cells5 : Tryz.prog.cellsOf 5 = 1 := by kernel_rfl
theorem cellDeep : Tryz.prog.keyType 140 = true := by kernel_rfl
theorem cellWide : (match Tryz.prog.underlying 140 with | some (.array _ _) | some (.struct _) => true | _ => false) = true := by kernel_rfl
set_option maxRecDepth 100000 in
theorem cellLaw : Go.Maps.Keyed Tryz.prog 140 := Go.Maps.Keyed.of_law (deep_law_laid laidOut8 (m := 3) (by omega) cellRow (by kernel_rfl) cellWide)
theorem cellFormed {c0 c1 : Value} : (Value.agg #[c0, c1]).formed Tryz.prog 140 = true := by simp [Value.formed, Tryz.underlying140, cells49]
theorem pos_succ {a b : Nat} (h : a < b) : ∃ n, b = n + 1 := ⟨b - 1, by omega⟩
/-- Each cell is a key. -/
theorem cellKey (c : Cl) (h1 : c.1.size ≤ maxLen) (h2 : (Lit.int .u8 c.2).wf = true) : ∃ kl, keyOf Tryz.prog 140 (.agg #[.string c.1, .int .u8 c.2]) = some kl := by
  obtain ⟨n, hn⟩ := pos_succ cellRow
  unfold keyOf
  simp only [Tryz.underlying140, cellDeep, cellFormed, hn, Value.cells]
  simp [Program.keyLits, Tryz.underlying140, Tryz.underlying9, Tryz.underlying5, cells49, cells9, cells5, h1, h2]
end Go.Proofs.YtchhcaoondfpiaaGreat.Tc
namespace Go.Proofs.YtchhcaoondfpiaaGreat.Tc
open Go.RowKit
set_option linter.unusedSimpArgs false
set_option linter.unusedVariables false

/-- A cell as a key. -/
noncomputable def kf (c : Cl) : Lit := (keyOf Tryz.prog 140 (.agg #[.string c.1, .int .u8 c.2])).getD (.bool false)
def okC (c : Cl) : Prop := c.1.size ≤ maxLen ∧ (Lit.int .u8 c.2).wf = true
theorem kf_key {c : Cl} (h : okC c) : keyOf Tryz.prog 140 (.agg #[.string c.1, .int .u8 c.2]) = some (kf c) := by
  obtain ⟨kl, hk⟩ := cellKey c h.1 h.2
  unfold kf
  rw [hk]
  rfl
theorem kf_inj {a b : Cl} (ha : okC a) (hb : okC b) (h : kf a = kf b) : a = b := by
  have k1 := kf_key ha
  have k2 := kf_key hb
  rw [← h] at k2
  have := cellLaw.inj k1 k2
  simp only [Value.agg.injEq, Array.mk.injEq, List.cons.injEq, Value.string.injEq, Value.int.injEq, true_and, and_true] at this
  exact Prod.ext this.1 this.2
set_option maxRecDepth 100000 in
theorem kf_lit {c : Cl} (h : okC c) : WideAt.IsKeyLit (kf c) := cellLaw.key (kf_key h)
noncomputable abbrev cset {H : Type} (l : List Cl) : DataW H := Maps.setOf (.agg []) (l.map kf)
set_option maxRecDepth 100000 in
theorem has_cells {H : Type} (l : List Cl) (x : Cl) (hl : ∀ c ∈ l, okC c) (hx : okC x) : Maps.has (cset (H := H) l) (kf x) = memB x l := by
  unfold cset
  rw [Maps.has_setOf _ _ _ (by
    intro k hk
    rw [List.mem_map] at hk
    obtain ⟨c, hc, rfl⟩ := hk
    exact kf_lit (hl c hc))]
  unfold memB
  rw [List.any_map]
  rw [Bool.eq_iff_iff, List.any_eq_true, List.any_eq_true]
  constructor
  · rintro ⟨c, hc, hs⟩
    refine ⟨c, hc, ?_⟩
    have : kf c = kf x := by
      apply Classical.byContradiction
      intro hne
      have := Maps.sameKey_ne hne
      simp only [Function.comp_apply] at hs
      rw [this] at hs
      cases hs
    exact decide_eq_true (kf_inj (hl c hc) hx this)
  · rintro ⟨c, hc, hs⟩
    refine ⟨c, hc, ?_⟩
    obtain rfl : c = x := of_decide_eq_true hs
    have hk := kf_lit hx
    simp only [Function.comp_apply]
    cases hkx : kf c <;> rw [hkx] at hk <;> simp_all [Lit.sameKey, WideAt.IsKeyLit]
theorem okC_of {p : ByteArray} {x : Int} (hp : p.size ≤ 1000) (hx : x = 101 ∨ x = 118 ∨ x = 107) : okC (p, x) := by
  refine ⟨by unfold maxLen; show p.size ≤ _; omega, ?_⟩
  rcases hx with rfl | rfl | rfl
  · show (Lit.int .u8 101).wf = true; decide
  · show (Lit.int .u8 118).wf = true; decide
  · show (Lit.int .u8 107).wf = true; decide
theorem rds_ok {op : Int} {p : ByteArray} (hp : p.size ≤ 1000) : ∀ c ∈ rds op p, okC c := by
  have h2 : (par p).size ≤ 1000 := by have := @par_size p; omega
  intro c hc
  unfold rds at hc
  repeat' split at hc
  all_goals simp only [List.mem_cons, List.not_mem_nil, or_false] at hc
  all_goals first
    | exact hc.elim
    | (rcases hc with rfl | rfl <;> first | exact okC_of hp (by simp) | exact okC_of h2 (by simp))
    | (subst hc; first | exact okC_of hp (by simp) | exact okC_of (by decide) (by simp))
    | skip
theorem wrs_ok {op : Int} {p : ByteArray} (hp : p.size ≤ 1000) : ∀ c ∈ wrs op p, okC c := by
  have h2 : (par p).size ≤ 1000 := by have := @par_size p; omega
  intro c hc
  unfold wrs at hc
  repeat' split at hc
  all_goals simp only [List.mem_cons, List.not_mem_nil, or_false] at hc
  all_goals first
    | exact hc.elim
    | (rcases hc with rfl | rfl | rfl <;> first | exact okC_of hp (by simp) | exact okC_of h2 (by simp))
    | (subst hc; first | exact okC_of hp (by simp) | exact okC_of h2 (by simp))
    | skip
end Go.Proofs.YtchhcaoondfpiaaGreat.Tc
namespace Go.Proofs.YtchhcaoondfpiaaGreat.Tc
open Go.RowKit
set_option linter.unusedSimpArgs false
set_option linter.unusedVariables false

/-- A row of cells, appended: whether it is nil or not. -/
theorem run_app2v {w : World} {base b2 : Nat} {v vy : Value} {l ks : List Cl} (hown : Own2 w base v l) (hy : Own2 w b2 vy ks) (hl : l.length + ks.length ≤ 1000000) (hbase : base ≤ w.heap.size) (ty : TypeId) :
    ∃ v' w', (Builtin.append_ #[137, 137] ty #[v, vy]).run Tryz.prog w = .ok v' w' ∧ Own2 w' base v' (l ++ ks) ∧ Below base w w' ∧ w.heap.size ≤ w'.heap.size := by
  rcases hy.2 with ⟨rfl, h0⟩ | ⟨g, cap, cur, rfl, hg, hh, hn, hm, hs, hx⟩
  · have hk : ks = [] := List.eq_nil_of_length_eq_zero h0
    subst hk
    obtain ⟨i0, hi, hz0, hz1, hz2⟩ := info_parts infoCell
    exact ⟨v, w, run_append_owned_none (P := Tryz.prog) (w := w) base 137 ty 140 i0 2 Tryz.underlying137 hi v l.length (vcs l) hown, by simpa using hown, Below.refl _ _, Nat.le_refl _⟩
  · refine run_app2 hown g cap ks (fun j u hj => ?_) hl hbase ty
    have hj2 : j < (vcs ks).length := (List.getElem?_eq_some_iff.1 hj).1
    rw [vcs_len] at hj2
    have e1 : cur[j]? = some u := by
      have h1 : (cur.toList.take (ks.length * 2))[j]? = (vcs ks)[j]? := by rw [hx]
      rw [List.getElem?_take, if_pos (by omega)] at h1
      rw [← Array.getElem?_toList, h1, hj]
    simp [World.cell?, hh, e1]
theorem step_app2v {ops : Array Oper} {o : Oper} {a : Act} {w : World} {K : Act → World → Prop} {Q : Exit → Act → World → Prop} {E : Prop} (hg : o.guard = none) (s x : Operand) (ho : o.op = .call { callee := .builtin .append, args := #[s, x], argTypes := #[137, 137] })
    (base b2 : Nat) (v vy : Value) (l ks : List Cl) (hs : a.eval s = v) (hown : Own2 w base v l) (hx : a.eval x = vy) (hy : Own2 w b2 vy ks)
    (hl : l.length + ks.length ≤ 1000000) (hbase : base ≤ w.heap.size)
    (hK : ∀ v' w', Own2 w' base v' (l ++ ks) → Below base w w' → w.heap.size ≤ w'.heap.size → K (a.put o.dst v') w') :
    if Region.wanted o (yielded ops a.tmps) = true then Oper.wp Tryz.prog o a w K Q else E := by
  obtain ⟨v', w', hr, q1, q2, q3⟩ := run_app2v hown hy hl hbase o.type
  refine step_value hg v' w' ?_ (hK v' w' q1 q2 q3)
  unfold execOp
  simp only [ho, resolve, invoke, builtin, Sem.run_bind, Sem.run_pure, Result.andThen_ok, List.map_toArray, List.map_cons, List.map_nil, hs, hx, hr]
theorem keep8 {wr w' : World} {b : Nat} {x0 x1 x2 x3 x4 x5 x6 x7 : Value} (hb : b < wr.heap.size) (d0 : wr.cell? ⟨b, 0, none⟩ = some x0) (d1 : wr.cell? ⟨b, 1, none⟩ = some x1) (d2 : wr.cell? ⟨b, 2, none⟩ = some x2) (d3 : wr.cell? ⟨b, 3, none⟩ = some x3) (d4 : wr.cell? ⟨b, 4, none⟩ = some x4) (d5 : wr.cell? ⟨b, 5, none⟩ = some x5) (d6 : wr.cell? ⟨b, 6, none⟩ = some x6) (d7 : wr.cell? ⟨b, 7, none⟩ = some x7) (hB : Below wr.heap.size wr w') :
    w'.cell? ⟨b, 0, none⟩ = some x0 ∧ w'.cell? ⟨b, 1, none⟩ = some x1 ∧ w'.cell? ⟨b, 2, none⟩ = some x2 ∧ w'.cell? ⟨b, 3, none⟩ = some x3 ∧ w'.cell? ⟨b, 4, none⟩ = some x4 ∧ w'.cell? ⟨b, 5, none⟩ = some x5 ∧ w'.cell? ⟨b, 6, none⟩ = some x6 ∧ w'.cell? ⟨b, 7, none⟩ = some x7 ∧ Below wr.heap.size wr w' :=
  ⟨(hB.cell (p := ⟨b, 0, none⟩) hb).trans d0, (hB.cell (p := ⟨b, 1, none⟩) hb).trans d1, (hB.cell (p := ⟨b, 2, none⟩) hb).trans d2, (hB.cell (p := ⟨b, 3, none⟩) hb).trans d3, (hB.cell (p := ⟨b, 4, none⟩) hb).trans d4, (hB.cell (p := ⟨b, 5, none⟩) hb).trans d5, (hB.cell (p := ⟨b, 6, none⟩) hb).trans d6, (hB.cell (p := ⟨b, 7, none⟩) hb).trans d7, hB⟩
theorem Own2.keepB {w w' : World} {base : Nat} {v : Value} {l : List Cl} (h : Own2 w base v l) (hk : ∀ k, v.ownBlock = some k → w'.heap[k]? = w.heap[k]?) : Own2 w' base v l := by
  obtain ⟨h1, h2⟩ := h
  refine ⟨h1, ?_⟩
  rcases h2 with h2 | ⟨g, cap, cur, hv, hg, hh, hr⟩
  · exact .inl h2
  · exact .inr ⟨g, cap, cur, hv, hg, (hk g (by rw [hv]; rfl)).trans hh, hr⟩
set_option maxRecDepth 100000 in
set_option maxHeartbeats 4000000 in
theorem disturbs_try (c1 s1 o1 : Int) (p1 x1 : ByteArray) (n1 a1 b1 : Int) (c2 s2 o2 : Int) (p2 x2 : ByteArray) (n2 a2 b2 : Int) (w : World) (hp1 : p1.size ≤ 1000) (hp2 : p2.size ≤ 1000) (hm : ML w) :
    Calls Tryz.prog 82 #[.agg #[.int .i64 c1, .int .i64 s1, .int .i64 o1, .string p1, .string x1, .int .i64 n1, .int .i64 a1, .int .i64 b1], .agg #[.int .i64 c2, .int .i64 s2, .int .i64 o2, .string p2, .string x2, .int .i64 n2, .int .i64 a2, .int .i64 b2]] w
      fun e w' => e = .returned (.bool (dst o1 p1 o2 p2)) ∧ Below w.heap.size w w' := by
  have HM := Lib.hid hm
  have hmm := @run_makeMap Tryz.prog
  obtain ⟨W0, hW0⟩ : ∃ W0, (((w.alloc (.cells #[.int .i64 c1, .int .i64 s1, .int .i64 o1, .string p1, .string x1, .int .i64 n1, .int .i64 a1, .int .i64 b1] 43)).alloc (.cells #[.int .i64 c2, .int .i64 s2, .int .i64 o2, .string p2, .string x2, .int .i64 n2, .int .i64 a2, .int .i64 b2] 43)).alloc (.map #[] 0)) = W0 := ⟨_, rfl⟩
  have hz0 : W0.heap.size = w.heap.size + 3 := by rw [← hW0]; simp
  have hBW : Below w.heap.size w W0 := by rw [← hW0]; exact (((Below.refl _ _).alloc (Nat.le_refl _) _).alloc (by simp) _).alloc (by simp; omega) _
  have HZ0 := Lib.hid hz0
  have HBW := Lib.hid hBW
  have cW := writes_any c1 s1 o1 p1 x1 n1 a1 b1 W0 hp1 (hm.below hBW)
  have HW0 := Lib.hid hW0
  clear hm hz0 hBW hW0
  go_enter Tryz.func82, Tryz.ntmps82
  go_wp2_with fail
  rw [HW0.out]
  refine cW.mono ?_
  rintro e w1 ⟨v1, he, ho1, hb1⟩
  subst he
  obtain ⟨ad1, cc1, e1⟩ := ho1.slice
  obtain ⟨N, hN⟩ : ∃ N, (wrs o1 p1).length = N := ⟨_, rfl⟩
  rw [hN] at e1
  subst e1
  have HO1 := Lib.hid ho1
  have HB1 := Lib.hid hb1
  have HN := Lib.hid hN
  clear ho1 hb1 hN cW hmm
  go_wp2_with fail
  have hm1 : w1.ownsMap (H := Unit) Tryz.prog 140 unitElem (w.heap.size + 1 + 1) 0 (cset ((wrs o1 p1).take 0)) := by
    have h0 : W0.ownsMap (H := Unit) Tryz.prog 140 unitElem (w.heap.size + 1 + 1) 0 (.map []) := by
      rw [← HW0.out]
      have := World.ownsMap_made (H := Unit) ((w.alloc (.cells #[.int .i64 c1, .int .i64 s1, .int .i64 o1, .string p1, .string x1, .int .i64 n1, .int .i64 a1, .int .i64 b1] 43)).alloc (.cells #[.int .i64 c2, .int .i64 s2, .int .i64 o2, .string p2, .string x2, .int .i64 n2, .int .i64 a2, .int .i64 b2] 43)) Tryz.prog 140 unitElem
      simpa using this
    exact h0.kept (row := none) ⟨HB1.out.os, HB1.out.tape, HB1.out.output, HB1.out.size, fun k hk _ => HB1.out.block k hk⟩ (by simp)
  have HM1 := Lib.hid hm1
  have HB1' : Hid (Below (w.heap.size + 2) W0 w1) := Lib.hid (HB1.out.mono (by rw [HZ0.out]; omega))
  clear hm1
  go_loopw [16] (fun i wr => ∃ k : Nat, k ≤ N ∧ i = .int .i64 k ∧ Hid (wr.ownsMap (H := Unit) Tryz.prog 140 unitElem (w.heap.size + 1 + 1) k (cset ((wrs o1 p1).take k))) ∧ Hid (Own2 wr W0.heap.size (.slice ad1 N cc1) (wrs o1 p1)) ∧ Hid (Below (w.heap.size + 2) W0 wr)) (fun i _ => N - (intOf i).toNat)
  case atStart => exact ⟨0, Nat.zero_le _, rfl, HM1, HO1, HB1'⟩
  case round =>
    clear HM1 HB1'
    obtain ⟨k, hk, rfl, hMp, hRow, hB⟩ := hrel
    by_cases hlt : k < N
    · have hlt' : (k : Int) < (N : Int) := by omega
      have hltL : k < (wrs o1 p1).length := by rw [HN.out]; exact hlt
      have hok := wrs_ok (op := o1) hp1
      obtain ⟨g, cg, eg, hgl, _, hcl⟩ := hRow.out.cells (by intro h; rw [h] at hltL; simp at hltL)
      have hgb : W0.heap.size ≤ g := own2_from hRow.out g (by rw [eg]; rfl)
      have q1 := hcl _ _ (vcs_at (wrs o1 p1) k hltL).1
      have q2 := hcl _ _ (vcs_at (wrs o1 p1) k hltL).2
      obtain ⟨X, hX⟩ : ∃ X, (wrs o1 p1).getD k (ByteArray.empty, 0) = X := ⟨_, rfl⟩
      have hXm : X ∈ wrs o1 p1 := by rw [← hX]; simp [List.getD, hltL]
      have hkey := kf_key (hok X hXm)
      rw [hX] at q1 q2
      simp only [Value.slice.injEq] at eg
      obtain ⟨e2, e5, e3⟩ := eg
      subst e2
      clear e5
      have HXE := Lib.hid hX
      have HKEY := Lib.hid hkey
      clear hcl hX hXm hkey e3 hok
      have HTK : Hid ((wrs o1 p1).take k ++ [X] = (wrs o1 p1).take (k + 1)) := Lib.hid (by
        rw [List.take_succ_eq_append_getElem hltL, ← HXE.out]
        simp [List.getD, hltL])
      have hN3 := wrs_len o1 p1
      rw [HN.out] at hN3
      have hkm : k < maxLen := by unfold maxLen; omega
      have hkb : (k : Int) ≤ 10 := by omega
      go_wp2_with (at_mapUpdate; refine wpList_mapUpdate_own _ rfl _ _ _ 136 rfl 140 135 cellLaw Tryz.underlying136 unitElem (w.heap.size + 1 + 1) k _ rfl (hMp.out.alloc _) hkm _ _ (kf X) rfl rfl HKEY.out (.agg []) [] unitElem_mk ?_)
      intro w6 hown6 hg6
      have hown7 : w6.ownsMap (H := Unit) Tryz.prog 140 unitElem (w.heap.size + 1 + 1) (k + 1) (cset ((wrs o1 p1).take (k + 1))) := by
        unfold cset
        rw [← HTK.out, List.map_append, List.map_cons, List.map_nil, Maps.setOf_snoc]
        exact hown6
      have HOWN7 := Lib.hid hown7
      have hzr := hB.out.size
      have hrow7 : Own2 w6 W0.heap.size (.slice (some ⟨g, 0, none⟩) N cc1) (wrs o1 p1) := by
        refine (hRow.out.below ((Below.refl _ _).alloc (Nat.le_refl _) (.cells #[.string X.1, .int .u8 X.2] 140))).keepB fun j hj => hg6.block j ?_ ?_
        · simp [Value.ownBlock] at hj; subst hj; simp; omega
        · simp [Value.ownBlock] at hj; subst hj
          have := HZ0.out
          intro hc
          simp only [Option.some.injEq] at hc
          omega
      have HROW7 := Lib.hid hrow7
      have hB7 : Below (w.heap.size + 2) W0 w6 := by
        have h1 : Below (w.heap.size + 2) W0 (wr.alloc (.cells #[.string X.1, .int .u8 X.2] 140)) := hB.out.alloc (by have := HZ0.out; omega) _
        exact h1.grown hg6 (by simp; have := HZ0.out; omega) (fun j hj => by simp only [Option.some.injEq] at hj; omega)
      have HB7 := Lib.hid hB7
      clear hown6 hg6 hown7 hrow7 hB7 hMp hRow hB
      go_wp2
      go_roundw
      case rel => exact ⟨k + 1, by omega, by go_num, HOWN7, HROW7, HB7⟩
      case measure => simp [intOf]; omega
    · obtain rfl : k = N := by omega
      have hMp' := hMp.out
      rw [← HN.out, List.take_length, HN.out] at hMp'
      have HMP := Lib.hid hMp'
      clear hMp hMp'
      have hlen : (rds o2 p2).length + (wrs o2 p2).length ≤ 1000000 := by have := rds_len o2 p2; have := wrs_len o2 p2; omega
      obtain ⟨M, hM⟩ : ∃ M, (rds o2 p2 ++ wrs o2 p2).length = M := ⟨_, rfl⟩
      have HLM := Lib.hid hM
      have hMl : M ≤ 5 := by rw [← hM, List.length_append]; have := rds_len o2 p2; have := wrs_len o2 p2; omega
      clear hM
      have hzr := hB.out.size
      have hzb : w.heap.size + 1 < wr.heap.size := by have := HZ0.out; omega
      have d0 : wr.cell? ⟨w.heap.size + 1, 0, none⟩ = some (.int .i64 c2) := (hB.out.cell (p := ⟨w.heap.size + 1, 0, none⟩) (by dsimp only; omega)).trans (by rw [← HW0.out]; simp [go_sem])
      have d1 : wr.cell? ⟨w.heap.size + 1, 1, none⟩ = some (.int .i64 s2) := (hB.out.cell (p := ⟨w.heap.size + 1, 1, none⟩) (by dsimp only; omega)).trans (by rw [← HW0.out]; simp [go_sem])
      have d2 : wr.cell? ⟨w.heap.size + 1, 2, none⟩ = some (.int .i64 o2) := (hB.out.cell (p := ⟨w.heap.size + 1, 2, none⟩) (by dsimp only; omega)).trans (by rw [← HW0.out]; simp [go_sem])
      have d3 : wr.cell? ⟨w.heap.size + 1, 3, none⟩ = some (.string p2) := (hB.out.cell (p := ⟨w.heap.size + 1, 3, none⟩) (by dsimp only; omega)).trans (by rw [← HW0.out]; simp [go_sem])
      have d4 : wr.cell? ⟨w.heap.size + 1, 4, none⟩ = some (.string x2) := (hB.out.cell (p := ⟨w.heap.size + 1, 4, none⟩) (by dsimp only; omega)).trans (by rw [← HW0.out]; simp [go_sem])
      have d5 : wr.cell? ⟨w.heap.size + 1, 5, none⟩ = some (.int .i64 n2) := (hB.out.cell (p := ⟨w.heap.size + 1, 5, none⟩) (by dsimp only; omega)).trans (by rw [← HW0.out]; simp [go_sem])
      have d6 : wr.cell? ⟨w.heap.size + 1, 6, none⟩ = some (.int .i64 a2) := (hB.out.cell (p := ⟨w.heap.size + 1, 6, none⟩) (by dsimp only; omega)).trans (by rw [← HW0.out]; simp [go_sem])
      have d7 : wr.cell? ⟨w.heap.size + 1, 7, none⟩ = some (.int .i64 b2) := (hB.out.cell (p := ⟨w.heap.size + 1, 7, none⟩) (by dsimp only; omega)).trans (by rw [← HW0.out]; simp [go_sem])
      have HBR : Hid (Below w.heap.size w wr) := Lib.hid (HBW.out.trans (hB.out.mono (by omega)))
      have hzw := HBR.out.size
      go_wp2_with fail
      go_region_held3 (fun w' => w'.cell? ⟨w.heap.size + 1, 0, none⟩ = some (.int .i64 c2) ∧ w'.cell? ⟨w.heap.size + 1, 1, none⟩ = some (.int .i64 s2) ∧ w'.cell? ⟨w.heap.size + 1, 2, none⟩ = some (.int .i64 o2) ∧ w'.cell? ⟨w.heap.size + 1, 3, none⟩ = some (.string p2) ∧ w'.cell? ⟨w.heap.size + 1, 4, none⟩ = some (.string x2) ∧ w'.cell? ⟨w.heap.size + 1, 5, none⟩ = some (.int .i64 n2) ∧ w'.cell? ⟨w.heap.size + 1, 6, none⟩ = some (.int .i64 a2) ∧ w'.cell? ⟨w.heap.size + 1, 7, none⟩ = some (.int .i64 b2) ∧ Below wr.heap.size wr w')
        (first
          | exact keep8 hzb d0 d1 d2 d3 d4 d5 d6 d7 (Below.refl _ _).drew
          | (go_split_ands; exact keep8 hzb d0 d1 d2 d3 d4 d5 d6 d7 (by assumption)))
        (first
          | (go_at_call 94; go_split_ands; refine (reads_any _ _ _ _ _ _ _ _ _ hp2 (HM.out.below (HBR.out.trans (Below.mono (by assumption) hzw)))).mono ?_; rintro e w7 ⟨v7, he, ho7, hb7⟩; subst he; have hS7 : Below wr.heap.size wr w7 := below_self (by assumption) hb7; have ho7b := ho7.base (show wr.heap.size ≤ _ from Below.size (by assumption)))
          | (go_at_call 93; go_split_ands; refine (writes_any _ _ _ _ _ _ _ _ _ hp2 (HM.out.below (HBR.out.trans (Below.mono (by assumption) hzw)))).mono ?_; rintro e w8 ⟨v8, he, ho8, hb8⟩; subst he; have hS8 : Below wr.heap.size wr w8 := below_self (by assumption) hb8; have ho7c := ho7b.below (show Below w7.heap.size w7 w8 from hb8))
          | (have hx8 := ho7c; clear hx8; go_split_ands; refine step_app2v rfl (.tmp 25) (.tmp 27) rfl wr.heap.size _ _ _ (rds o2 p2) (wrs o2 p2) rfl ho7c rfl ho8 hlen (Below.size hS8) ?_; intro v9 w9 ho9 hb9 hz9; have hS9 := hS8.trans hb9; obtain ⟨a9, q9, e9⟩ := ho9.slice; rw [HLM.out] at e9; subst e9))
      go_split_ands
      go_wp2_with fail
      have hm9 : w9.ownsMap (H := Unit) Tryz.prog 140 unitElem (w.heap.size + 1 + 1) k (cset (wrs o1 p1)) := HMP.out.kept (row := none) ⟨hS9.os, hS9.tape, hS9.output, hS9.size, fun j hj _ => hS9.block j hj⟩ (by simp)
      have HM9 := Lib.hid hm9
      have HO9 := Lib.hid ho9
      have HB9 : Hid (Below w.heap.size w w9) := Lib.hid (HBR.out.trans (hS9.mono hzw))
      have hok1 := wrs_ok (op := o1) hp1
      have hok2 : ∀ c ∈ rds o2 p2 ++ wrs o2 p2, okC c := by
        intro c hc
        rcases List.mem_append.1 hc with h | h
        · exact rds_ok hp2 c h
        · exact wrs_ok hp2 c h
      have HK1 := Lib.hid hok1
      have HK2 := Lib.hid hok2
      have hdst : dst o1 p1 o2 p2 = (rds o2 p2 ++ wrs o2 p2).any (fun x => memB x (wrs o1 p1)) := rfl
      have HDST := Lib.hid hdst
      obtain ⟨L2, hL2⟩ : ∃ L2, rds o2 p2 ++ wrs o2 p2 = L2 := ⟨_, rfl⟩
      rw [hL2] at HLM HO9 HK2 HDST
      have zeroU : ∀ w, (zeroValue 135).run Tryz.prog w = .ok (.agg #[]) w := fun w => by kernel_rfl
      have HZU := Lib.hid zeroU
      clear hm9 ho9 hok1 hok2 hdst hL2 zeroU hS9 hb9 hz9 ho7 ho7b ho7c ho8 hS7 hS8 hb7 hb8 d0 d1 d2 d3 d4 d5 d6 d7 HMP hRow hB
      go_loopw [30] (fun i wr => ∃ j : Nat, j ≤ M ∧ i = .int .i64 j ∧ Hid (Below w9.heap.size w9 wr) ∧ Hid (∀ q, q < j → memB (L2.getD q (ByteArray.empty, 0)) (wrs o1 p1) = false)) (fun i _ => M - (intOf i).toNat)
      case atStart => exact ⟨0, Nat.zero_le _, rfl, Lib.hid (Below.refl _ _), Lib.hid (fun q h => by omega)⟩
      case round =>
        obtain ⟨j, hj, rfl, hB2, hF⟩ := hrel
        by_cases hlt2 : j < M
        · have hlt2' : (j : Int) < (M : Int) := by omega
          have hltL2 : j < L2.length := by rw [HLM.out]; exact hlt2
          have hrow2 := HO9.out.below hB2.out
          obtain ⟨g2, cg2, eg2, hgl2, _, hcl2⟩ := hrow2.cells (by intro h; rw [h] at hltL2; simp at hltL2)
          have q1 := hcl2 _ _ (vcs_at L2 j hltL2).1
          have q2 := hcl2 _ _ (vcs_at L2 j hltL2).2
          obtain ⟨X, hX⟩ : ∃ X, L2.getD j (ByteArray.empty, 0) = X := ⟨_, rfl⟩
          have hXm : X ∈ L2 := by rw [← hX]; simp [List.getD, hltL2]
          have hkey := kf_key (HK2.out X hXm)
          have hhas := has_cells (H := Unit) (wrs o1 p1) X HK1.out (HK2.out X hXm)
          have hmp2 : _root_.Go.World.ownsMap (H := Unit) wr Tryz.prog 140 unitElem (w.heap.size + 1 + 1) k (cset (wrs o1 p1)) := HM9.out.kept (row := none) ⟨hB2.out.os, hB2.out.tape, hB2.out.output, hB2.out.size, fun j hj _ => hB2.out.block j hj⟩ (by simp)
          have HMP2 := Lib.hid hmp2
          rw [hX] at q1 q2
          simp only [Value.slice.injEq] at eg2
          obtain ⟨e2, e5, e3⟩ := eg2
          subst e2
          have HXE := Lib.hid hX
          have HKEY := Lib.hid hkey
          have hjb : (j : Int) ≤ 10 := by omega
          cases hmb : memB X (wrs o1 p1) with
          | true =>
            rw [hmb] at hhas
            have HH := Lib.hid hhas
            have hdt : dst o1 p1 o2 p2 = true := by
              rw [HDST.out, List.any_eq_true]
              exact ⟨X, hXm, hmb⟩
            have HDT := Lib.hid hdt
            clear e5 e3 hcl2 hX hXm hkey hmp2 hrow2 hhas hmb hdt
            go_wp2_with (at_lookup; refine wpList_lookup_own_unit _ rfl _ _ 136 rfl 140 135 cellLaw Tryz.underlying136 (HZU.out _) (w.heap.size + 1 + 1) k _ rfl (HMP2.out.alloc _) _ _ rfl HKEY.out ?_; rw [HH.out])
            go_ret
            exact ⟨by rw [HDT.out]; rfl, HB9.out.trans ((((hB2.out.alloc (hB2.out.size) _).alloc (by simp; have := hB2.out.size; omega) _)).mono (HB9.out.size))⟩
          | false =>
            rw [hmb] at hhas
            have HH := Lib.hid hhas
            have HF2 : Hid (∀ q, q < j + 1 → memB (L2.getD q (ByteArray.empty, 0)) (wrs o1 p1) = false) := Lib.hid (by
              intro q hq
              by_cases hqj : q = j
              · subst hqj; rw [hX]; exact hmb
              · exact hF.out q (by omega))
            clear e5 e3 hcl2 hX hXm hkey hmp2 hrow2 hhas hmb
            go_wp2_with (at_lookup; refine wpList_lookup_own_unit _ rfl _ _ 136 rfl 140 135 cellLaw Tryz.underlying136 (HZU.out _) (w.heap.size + 1 + 1) k _ rfl (HMP2.out.alloc _) _ _ rfl HKEY.out ?_; rw [HH.out])
            go_roundw
            case rel => exact ⟨j + 1, by omega, by go_num, Lib.hid (((hB2.out.alloc (hB2.out.size) _).alloc (by simp; have := hB2.out.size; omega) _)), HF2⟩
            case measure => simp [intOf]; omega
        · obtain rfl : j = M := by omega
          have hdf : dst o1 p1 o2 p2 = false := by
            rw [HDST.out, Bool.eq_false_iff]
            intro hc
            rw [List.any_eq_true] at hc
            obtain ⟨X, hX, hm⟩ := hc
            obtain ⟨q, hq, rfl⟩ := List.getElem_of_mem hX
            have := hF.out q (by rw [← HLM.out]; exact hq)
            simp only [List.getD, List.getElem?_eq_getElem hq, Option.getD_some] at this
            rw [hm] at this
            cases this
          have HDF := Lib.hid hdf
          clear hdf
          go_wp2
          go_ret
          exact ⟨by rw [HDF.out]; rfl, HB9.out.trans (hB2.out.mono HB9.out.size)⟩
end Go.Proofs.YtchhcaoondfpiaaGreat.Tc
namespace Go.Proofs.YtchhcaoondfpiaaGreat.Tc
open Go.RowKit
set_option linter.unusedSimpArgs false
set_option linter.unusedVariables false

theorem two_below (w : World) (o1 o2 : Obj) : Below w.heap.size w ((w.alloc o1).alloc o2) := ((Below.refl _ _).alloc (Nat.le_refl _) _).alloc (by simp) _
set_option maxRecDepth 100000 in
set_option maxHeartbeats 4000000 in
theorem tpaths_any (c1 s1 o1 : Int) (p1 x1 : ByteArray) (n1 a1 b1 : Int) (c2 s2 o2 : Int) (p2 x2 : ByteArray) (n2 a2 b2 : Int) (w : World) (hp1 : p1.size ≤ 1000) (hp2 : p2.size ≤ 1000) (hm : ML w) :
    Calls Tryz.prog 58 #[.agg #[.int .i64 c1, .int .i64 s1, .int .i64 o1, .string p1, .string x1, .int .i64 n1, .int .i64 a1, .int .i64 b1], .agg #[.int .i64 c2, .int .i64 s2, .int .i64 o2, .string p2, .string x2, .int .i64 n2, .int .i64 a2, .int .i64 b2]] w fun e w' => e = .returned (.bool (mtr o1 p1 o2 p2)) ∧ Below w.heap.size w w' := by
  have hM1 : ML ((w.alloc (.cells #[.int .i64 c1, .int .i64 s1, .int .i64 o1, .string p1, .string x1, .int .i64 n1, .int .i64 a1, .int .i64 b1] 43)).alloc (.cells #[.int .i64 c2, .int .i64 s2, .int .i64 o2, .string p2, .string x2, .int .i64 n2, .int .i64 a2, .int .i64 b2] 43)) := hm.below (two_below _ _ _)
  have HM1 := Lib.hid hM1
  have cD := disturbs_try c1 s1 o1 p1 x1 n1 a1 b1 c2 s2 o2 p2 x2 n2 a2 b2 ((w.alloc (.cells #[.int .i64 c1, .int .i64 s1, .int .i64 o1, .string p1, .string x1, .int .i64 n1, .int .i64 a1, .int .i64 b1] 43)).alloc (.cells #[.int .i64 c2, .int .i64 s2, .int .i64 o2, .string p2, .string x2, .int .i64 n2, .int .i64 a2, .int .i64 b2] 43)) hp1 hp2 hM1
  cases h1 : dst o1 p1 o2 p2 with
  | true =>
    have e : mtr o1 p1 o2 p2 = true := by unfold mtr; rw [h1]; rfl
    rw [e]
    rw [h1] at cD
    clear e h1 hM1 hm
    go_enter Tryz.func58, Tryz.ntmps58
    go_wp2_with fail
    refine cD.mono ?_
    rintro e w1 ⟨rfl, hb⟩
    have HB := Lib.hid ((two_below _ _ _).trans (hb.mono (by simp; omega)))
    obtain ⟨hcb, hfb⟩ := bcell hb
    clear cD hb
    go_wp2
    go_ret
    exact ⟨rfl, HB.out⟩
  | false =>
    have e : mtr o1 p1 o2 p2 = dst o2 p2 o1 p1 := by unfold mtr; rw [h1]; rfl
    obtain ⟨D, hD⟩ : ∃ D, dst o2 p2 o1 p1 = D := ⟨_, rfl⟩
    rw [e, hD]
    rw [h1] at cD
    have HD := Lib.hid hD
    clear e h1 hM1 hm hD
    go_enter Tryz.func58, Tryz.ntmps58
    go_wp2_with fail
    refine cD.mono ?_
    rintro e w1 ⟨rfl, hb⟩
    have cE := disturbs_try c2 s2 o2 p2 x2 n2 a2 b2 c1 s1 o1 p1 x1 n1 a1 b1 w1 hp2 hp1 (HM1.out.below hb)
    rw [HD.out] at cE
    have HB := Lib.hid ((two_below _ _ _).trans (hb.mono (by simp; omega)))
    obtain ⟨hcb, hfb⟩ := bcell hb
    clear cD hb
    go_wp2_with fail
    refine cE.mono ?_
    rintro e w2 ⟨rfl, hb2⟩
    have HB2 := Lib.hid (below_self HB.out hb2)
    clear cE hb2
    go_wp2
    go_ret
    exact ⟨rfl, HB2.out⟩
set_option maxRecDepth 100000 in
set_option maxHeartbeats 4000000 in
theorem both_z1 (c1 s1 o1 : Int) (p1 x1 : ByteArray) (n1 a1 b1 : Int) (c2 s2 o2 : Int) (p2 x2 : ByteArray) (n2 a2 b2 : Int) (w : World) (hp1 : p1.size ≤ 1000) (hp2 : p2.size ≤ 1000) (hm : ML w) (h1 : o1 = 0) :
    Calls Tryz.prog 28 #[.agg #[.int .i64 c1, .int .i64 s1, .int .i64 o1, .string p1, .string x1, .int .i64 n1, .int .i64 a1, .int .i64 b1], .agg #[.int .i64 c2, .int .i64 s2, .int .i64 o2, .string p2, .string x2, .int .i64 n2, .int .i64 a2, .int .i64 b2]] w fun e w' => e = .returned (.bool (false)) ∧ Below w.heap.size w w' := by
  have hM1 : ML ((w.alloc (.cells #[.int .i64 c1, .int .i64 s1, .int .i64 o1, .string p1, .string x1, .int .i64 n1, .int .i64 a1, .int .i64 b1] 43)).alloc (.cells #[.int .i64 c2, .int .i64 s2, .int .i64 o2, .string p2, .string x2, .int .i64 n2, .int .i64 a2, .int .i64 b2] 43)) := hm.below (two_below _ _ _)
  have HM1 := Lib.hid hM1
  have HB0 := Lib.hid (two_below w (.cells #[.int .i64 c1, .int .i64 s1, .int .i64 o1, .string p1, .string x1, .int .i64 n1, .int .i64 a1, .int .i64 b1] 43) (.cells #[.int .i64 c2, .int .i64 s2, .int .i64 o2, .string p2, .string x2, .int .i64 n2, .int .i64 a2, .int .i64 b2] 43))
  have z1 : (o1 == 0) = true := by simpa using h1
  clear h1
  clear hm hM1
  go_enter Tryz.func28, Tryz.ntmps28
  go_wp2
  go_ret
  exact ⟨rfl, HB0.out⟩
set_option maxRecDepth 100000 in
set_option maxHeartbeats 4000000 in
theorem both_z2 (c1 s1 o1 : Int) (p1 x1 : ByteArray) (n1 a1 b1 : Int) (c2 s2 o2 : Int) (p2 x2 : ByteArray) (n2 a2 b2 : Int) (w : World) (hp1 : p1.size ≤ 1000) (hp2 : p2.size ≤ 1000) (hm : ML w) (h1 : o1 ≠ 0) (h2 : o2 = 0) :
    Calls Tryz.prog 28 #[.agg #[.int .i64 c1, .int .i64 s1, .int .i64 o1, .string p1, .string x1, .int .i64 n1, .int .i64 a1, .int .i64 b1], .agg #[.int .i64 c2, .int .i64 s2, .int .i64 o2, .string p2, .string x2, .int .i64 n2, .int .i64 a2, .int .i64 b2]] w fun e w' => e = .returned (.bool (false)) ∧ Below w.heap.size w w' := by
  have hM1 : ML ((w.alloc (.cells #[.int .i64 c1, .int .i64 s1, .int .i64 o1, .string p1, .string x1, .int .i64 n1, .int .i64 a1, .int .i64 b1] 43)).alloc (.cells #[.int .i64 c2, .int .i64 s2, .int .i64 o2, .string p2, .string x2, .int .i64 n2, .int .i64 a2, .int .i64 b2] 43)) := hm.below (two_below _ _ _)
  have HM1 := Lib.hid hM1
  have HB0 := Lib.hid (two_below w (.cells #[.int .i64 c1, .int .i64 s1, .int .i64 o1, .string p1, .string x1, .int .i64 n1, .int .i64 a1, .int .i64 b1] 43) (.cells #[.int .i64 c2, .int .i64 s2, .int .i64 o2, .string p2, .string x2, .int .i64 n2, .int .i64 a2, .int .i64 b2] 43))
  have z1 : (o1 == 0) = false := by simpa using h1
  have z2 : (o2 == 0) = true := by simpa using h2
  clear h1 h2
  clear hm hM1
  go_enter Tryz.func28, Tryz.ntmps28
  go_wp2
  go_ret
  exact ⟨rfl, HB0.out⟩
set_option maxRecDepth 100000 in
set_option maxHeartbeats 4000000 in
theorem both_c1 (c1 s1 o1 : Int) (p1 x1 : ByteArray) (n1 a1 b1 : Int) (c2 s2 o2 : Int) (p2 x2 : ByteArray) (n2 a2 b2 : Int) (w : World) (hp1 : p1.size ≤ 1000) (hp2 : p2.size ≤ 1000) (hm : ML w) (h1 : o1 ≠ 0) (h2 : o2 ≠ 0) (k1 : ctl o1 = true) :
    Calls Tryz.prog 28 #[.agg #[.int .i64 c1, .int .i64 s1, .int .i64 o1, .string p1, .string x1, .int .i64 n1, .int .i64 a1, .int .i64 b1], .agg #[.int .i64 c2, .int .i64 s2, .int .i64 o2, .string p2, .string x2, .int .i64 n2, .int .i64 a2, .int .i64 b2]] w fun e w' => e = .returned (.bool (true)) ∧ Below w.heap.size w w' := by
  have hM1 : ML ((w.alloc (.cells #[.int .i64 c1, .int .i64 s1, .int .i64 o1, .string p1, .string x1, .int .i64 n1, .int .i64 a1, .int .i64 b1] 43)).alloc (.cells #[.int .i64 c2, .int .i64 s2, .int .i64 o2, .string p2, .string x2, .int .i64 n2, .int .i64 a2, .int .i64 b2] 43)) := hm.below (two_below _ _ _)
  have HM1 := Lib.hid hM1
  have HB0 := Lib.hid (two_below w (.cells #[.int .i64 c1, .int .i64 s1, .int .i64 o1, .string p1, .string x1, .int .i64 n1, .int .i64 a1, .int .i64 b1] 43) (.cells #[.int .i64 c2, .int .i64 s2, .int .i64 o2, .string p2, .string x2, .int .i64 n2, .int .i64 a2, .int .i64 b2] 43))
  have z1 : (o1 == 0) = false := by simpa using h1
  have z2 : (o2 == 0) = false := by simpa using h2
  clear h1 h2
  clear hm hM1
  go_enter Tryz.func28, Tryz.ntmps28
  go_wp2_with fail
  refine (control_any c1 s1 o1 p1 x1 n1 a1 b1 _).mono ?_
  rw [k1]
  rintro e w1 ⟨rfl, hb⟩
  have HB1 := Lib.hid (HB0.out.trans (hb.mono (by simp; omega)))
  have HM2 := Lib.hid (HM1.out.below hb)
  obtain ⟨hcb, hfb⟩ := bcell hb
  have hl1 : w.heap.size < w1.heap.size := Nat.lt_of_lt_of_le (by simp; omega) hb.size
  have hl2 : w.heap.size + 1 < w1.heap.size := Nat.lt_of_lt_of_le (by simp) hb.size
  clear hb
  go_wp2
  go_ret
  exact ⟨rfl, HB1.out⟩
set_option maxRecDepth 100000 in
set_option maxHeartbeats 4000000 in
theorem both_c2 (c1 s1 o1 : Int) (p1 x1 : ByteArray) (n1 a1 b1 : Int) (c2 s2 o2 : Int) (p2 x2 : ByteArray) (n2 a2 b2 : Int) (w : World) (hp1 : p1.size ≤ 1000) (hp2 : p2.size ≤ 1000) (hm : ML w) (h1 : o1 ≠ 0) (h2 : o2 ≠ 0) (k1 : ctl o1 = false) (k2 : ctl o2 = true) :
    Calls Tryz.prog 28 #[.agg #[.int .i64 c1, .int .i64 s1, .int .i64 o1, .string p1, .string x1, .int .i64 n1, .int .i64 a1, .int .i64 b1], .agg #[.int .i64 c2, .int .i64 s2, .int .i64 o2, .string p2, .string x2, .int .i64 n2, .int .i64 a2, .int .i64 b2]] w fun e w' => e = .returned (.bool (true)) ∧ Below w.heap.size w w' := by
  have hM1 : ML ((w.alloc (.cells #[.int .i64 c1, .int .i64 s1, .int .i64 o1, .string p1, .string x1, .int .i64 n1, .int .i64 a1, .int .i64 b1] 43)).alloc (.cells #[.int .i64 c2, .int .i64 s2, .int .i64 o2, .string p2, .string x2, .int .i64 n2, .int .i64 a2, .int .i64 b2] 43)) := hm.below (two_below _ _ _)
  have HM1 := Lib.hid hM1
  have HB0 := Lib.hid (two_below w (.cells #[.int .i64 c1, .int .i64 s1, .int .i64 o1, .string p1, .string x1, .int .i64 n1, .int .i64 a1, .int .i64 b1] 43) (.cells #[.int .i64 c2, .int .i64 s2, .int .i64 o2, .string p2, .string x2, .int .i64 n2, .int .i64 a2, .int .i64 b2] 43))
  have z1 : (o1 == 0) = false := by simpa using h1
  have z2 : (o2 == 0) = false := by simpa using h2
  clear h1 h2
  clear hm hM1
  go_enter Tryz.func28, Tryz.ntmps28
  go_wp2_with fail
  refine (control_any c1 s1 o1 p1 x1 n1 a1 b1 _).mono ?_
  rw [k1]
  rintro e w1 ⟨rfl, hb⟩
  have HB1 := Lib.hid (HB0.out.trans (hb.mono (by simp; omega)))
  have HM2 := Lib.hid (HM1.out.below hb)
  obtain ⟨hcb, hfb⟩ := bcell hb
  have hl1 : w.heap.size < w1.heap.size := Nat.lt_of_lt_of_le (by simp; omega) hb.size
  have hl2 : w.heap.size + 1 < w1.heap.size := Nat.lt_of_lt_of_le (by simp) hb.size
  clear hb
  go_wp2_with fail
  refine (control_any c2 s2 o2 p2 x2 n2 a2 b2 _).mono ?_
  rw [k2]
  rintro e w2 ⟨rfl, hb⟩
  have HB2 := Lib.hid (below_self HB1.out hb)
  have HM3 := Lib.hid (HM2.out.below hb)
  obtain ⟨hcb2, hfb2⟩ := bcell hb
  clear hb
  go_wp2
  go_ret
  exact ⟨rfl, HB2.out⟩
set_option maxRecDepth 100000 in
set_option maxHeartbeats 4000000 in
theorem both_cl (c1 s1 o1 : Int) (p1 x1 : ByteArray) (n1 a1 b1 : Int) (c2 s2 o2 : Int) (p2 x2 : ByteArray) (n2 a2 b2 : Int) (w : World) (hp1 : p1.size ≤ 1000) (hp2 : p2.size ≤ 1000) (hm : ML w) (h1 : o1 ≠ 0) (h2 : o2 ≠ 0) (k1 : ctl o1 = false) (k2 : ctl o2 = false) (h3 : c1 = c2) :
    Calls Tryz.prog 28 #[.agg #[.int .i64 c1, .int .i64 s1, .int .i64 o1, .string p1, .string x1, .int .i64 n1, .int .i64 a1, .int .i64 b1], .agg #[.int .i64 c2, .int .i64 s2, .int .i64 o2, .string p2, .string x2, .int .i64 n2, .int .i64 a2, .int .i64 b2]] w fun e w' => e = .returned (.bool (true)) ∧ Below w.heap.size w w' := by
  have hM1 : ML ((w.alloc (.cells #[.int .i64 c1, .int .i64 s1, .int .i64 o1, .string p1, .string x1, .int .i64 n1, .int .i64 a1, .int .i64 b1] 43)).alloc (.cells #[.int .i64 c2, .int .i64 s2, .int .i64 o2, .string p2, .string x2, .int .i64 n2, .int .i64 a2, .int .i64 b2] 43)) := hm.below (two_below _ _ _)
  have HM1 := Lib.hid hM1
  have HB0 := Lib.hid (two_below w (.cells #[.int .i64 c1, .int .i64 s1, .int .i64 o1, .string p1, .string x1, .int .i64 n1, .int .i64 a1, .int .i64 b1] 43) (.cells #[.int .i64 c2, .int .i64 s2, .int .i64 o2, .string p2, .string x2, .int .i64 n2, .int .i64 a2, .int .i64 b2] 43))
  have z1 : (o1 == 0) = false := by simpa using h1
  have z2 : (o2 == 0) = false := by simpa using h2
  clear h1 h2
  have z3 : (c1 == c2) = true := by simpa using h3
  clear h3
  clear hm hM1
  go_enter Tryz.func28, Tryz.ntmps28
  go_wp2_with fail
  refine (control_any c1 s1 o1 p1 x1 n1 a1 b1 _).mono ?_
  rw [k1]
  rintro e w1 ⟨rfl, hb⟩
  have HB1 := Lib.hid (HB0.out.trans (hb.mono (by simp; omega)))
  have HM2 := Lib.hid (HM1.out.below hb)
  obtain ⟨hcb, hfb⟩ := bcell hb
  have hl1 : w.heap.size < w1.heap.size := Nat.lt_of_lt_of_le (by simp; omega) hb.size
  have hl2 : w.heap.size + 1 < w1.heap.size := Nat.lt_of_lt_of_le (by simp) hb.size
  clear hb
  go_wp2_with fail
  refine (control_any c2 s2 o2 p2 x2 n2 a2 b2 _).mono ?_
  rw [k2]
  rintro e w2 ⟨rfl, hb⟩
  have HB2 := Lib.hid (below_self HB1.out hb)
  have HM3 := Lib.hid (HM2.out.below hb)
  obtain ⟨hcb2, hfb2⟩ := bcell hb
  clear hb
  go_wp2
  go_ret
  exact ⟨rfl, HB2.out⟩
set_option maxRecDepth 100000 in
set_option maxHeartbeats 4000000 in
theorem both_pt (c1 s1 o1 : Int) (p1 x1 : ByteArray) (n1 a1 b1 : Int) (c2 s2 o2 : Int) (p2 x2 : ByteArray) (n2 a2 b2 : Int) (w : World) (hp1 : p1.size ≤ 1000) (hp2 : p2.size ≤ 1000) (hm : ML w) (h1 : o1 ≠ 0) (h2 : o2 ≠ 0) (k1 : ctl o1 = false) (k2 : ctl o2 = false) (h3 : c1 ≠ c2) (D : Bool) (hD : mtr o1 p1 o2 p2 = D) :
    Calls Tryz.prog 28 #[.agg #[.int .i64 c1, .int .i64 s1, .int .i64 o1, .string p1, .string x1, .int .i64 n1, .int .i64 a1, .int .i64 b1], .agg #[.int .i64 c2, .int .i64 s2, .int .i64 o2, .string p2, .string x2, .int .i64 n2, .int .i64 a2, .int .i64 b2]] w fun e w' => e = .returned (.bool (D)) ∧ Below w.heap.size w w' := by
  have hM1 : ML ((w.alloc (.cells #[.int .i64 c1, .int .i64 s1, .int .i64 o1, .string p1, .string x1, .int .i64 n1, .int .i64 a1, .int .i64 b1] 43)).alloc (.cells #[.int .i64 c2, .int .i64 s2, .int .i64 o2, .string p2, .string x2, .int .i64 n2, .int .i64 a2, .int .i64 b2] 43)) := hm.below (two_below _ _ _)
  have HM1 := Lib.hid hM1
  have HB0 := Lib.hid (two_below w (.cells #[.int .i64 c1, .int .i64 s1, .int .i64 o1, .string p1, .string x1, .int .i64 n1, .int .i64 a1, .int .i64 b1] 43) (.cells #[.int .i64 c2, .int .i64 s2, .int .i64 o2, .string p2, .string x2, .int .i64 n2, .int .i64 a2, .int .i64 b2] 43))
  have z1 : (o1 == 0) = false := by simpa using h1
  have z2 : (o2 == 0) = false := by simpa using h2
  clear h1 h2
  have z3 : (c1 == c2) = false := by simpa using h3
  clear h3
  clear hm hM1
  go_enter Tryz.func28, Tryz.ntmps28
  go_wp2_with fail
  refine (control_any c1 s1 o1 p1 x1 n1 a1 b1 _).mono ?_
  rw [k1]
  rintro e w1 ⟨rfl, hb⟩
  have HB1 := Lib.hid (HB0.out.trans (hb.mono (by simp; omega)))
  have HM2 := Lib.hid (HM1.out.below hb)
  obtain ⟨hcb, hfb⟩ := bcell hb
  have hl1 : w.heap.size < w1.heap.size := Nat.lt_of_lt_of_le (by simp; omega) hb.size
  have hl2 : w.heap.size + 1 < w1.heap.size := Nat.lt_of_lt_of_le (by simp) hb.size
  clear hb
  go_wp2_with fail
  refine (control_any c2 s2 o2 p2 x2 n2 a2 b2 _).mono ?_
  rw [k2]
  rintro e w2 ⟨rfl, hb⟩
  have HB2 := Lib.hid (below_self HB1.out hb)
  have HM3 := Lib.hid (HM2.out.below hb)
  obtain ⟨hcb2, hfb2⟩ := bcell hb
  clear hb
  go_wp2_with fail
  refine (tpaths_any c1 s1 o1 p1 x1 n1 a1 b1 c2 s2 o2 p2 x2 n2 a2 b2 _ hp1 hp2 HM3.out).mono ?_
  rw [hD]
  rintro e w3 ⟨rfl, hb⟩
  have HB3 := Lib.hid (below_self HB2.out hb)
  obtain ⟨hcb3, hfb3⟩ := bcell hb
  clear hb
  go_wp2
  go_ret
  exact ⟨rfl, HB3.out⟩
theorem both_any (c1 s1 o1 : Int) (p1 x1 : ByteArray) (n1 a1 b1 : Int) (c2 s2 o2 : Int) (p2 x2 : ByteArray) (n2 a2 b2 : Int) (w : World) (hp1 : p1.size ≤ 1000) (hp2 : p2.size ≤ 1000) (hm : ML w) :
    Calls Tryz.prog 28 #[.agg #[.int .i64 c1, .int .i64 s1, .int .i64 o1, .string p1, .string x1, .int .i64 n1, .int .i64 a1, .int .i64 b1], .agg #[.int .i64 c2, .int .i64 s2, .int .i64 o2, .string p2, .string x2, .int .i64 n2, .int .i64 a2, .int .i64 b2]] w fun e w' => e = .returned (.bool (bth c1 o1 p1 c2 o2 p2)) ∧ Below w.heap.size w w' := by
  by_cases h1 : o1 = 0
  · have e : bth c1 o1 p1 c2 o2 p2 = false := by rw [h1]; rfl
    rw [e]; exact both_z1 c1 s1 o1 p1 x1 n1 a1 b1 c2 s2 o2 p2 x2 n2 a2 b2 w hp1 hp2 hm h1
  · by_cases h2 : o2 = 0
    · have e : bth c1 o1 p1 c2 o2 p2 = false := by rw [h2]; exact bth_none_r _ _ _ _ _
      rw [e]; exact both_z2 c1 s1 o1 p1 x1 n1 a1 b1 c2 s2 o2 p2 x2 n2 a2 b2 w hp1 hp2 hm h1 h2
    · have e : bth c1 o1 p1 c2 o2 p2 = (ctl o1 || ctl o2 || decide (c1 = c2) || mtr o1 p1 o2 p2) := by unfold bth; simp [h1, h2]
      rw [e]
      cases k1 : ctl o1 with
      | true => exact both_c1 c1 s1 o1 p1 x1 n1 a1 b1 c2 s2 o2 p2 x2 n2 a2 b2 w hp1 hp2 hm h1 h2 k1
      | false =>
        cases k2 : ctl o2 with
        | true => exact both_c2 c1 s1 o1 p1 x1 n1 a1 b1 c2 s2 o2 p2 x2 n2 a2 b2 w hp1 hp2 hm h1 h2 k1 k2
        | false =>
          by_cases h3 : c1 = c2
          · rw [decide_eq_true h3]; exact both_cl c1 s1 o1 p1 x1 n1 a1 b1 c2 s2 o2 p2 x2 n2 a2 b2 w hp1 hp2 hm h1 h2 k1 k2 h3
          · rw [decide_eq_false h3]; exact both_pt c1 s1 o1 p1 x1 n1 a1 b1 c2 s2 o2 p2 x2 n2 a2 b2 w hp1 hp2 hm h1 h2 k1 k2 h3 _ rfl
end Go.Proofs.YtchhcaoondfpiaaGreat.Tc
