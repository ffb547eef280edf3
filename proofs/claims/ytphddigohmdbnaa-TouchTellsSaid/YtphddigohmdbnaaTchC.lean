/-
  Rows of cells; the walk of package touch's cells.
-/
import Derived.Test.YtphddigohmdbnaaTchM
import Derived.Laws.MakeOwn
namespace Go.Proofs.Ytphddigohmdbnaa
open Go.RowKit
set_option linter.unusedSimpArgs false
set_option linter.unusedVariables false

def vc (c : Cl) : List Value := [.string c.1, .int .u8 c.2]
def vcs (l : List Cl) : List Value := l.flatMap vc
theorem vcs_len (l : List Cl) : (vcs l).length = l.length * 2 := by
  induction l with
  | nil => rfl
  | cons c l ih => simp only [vcs, List.flatMap_cons, List.length_append, List.length_cons] at ih ⊢; rw [ih]; simp [vc]; omega
theorem vcs_app (l k : List Cl) : vcs (l ++ k) = vcs l ++ vcs k := by simp [vcs]
theorem vcs_one (l : List Cl) : ∀ u ∈ vcs l, u.oneCell' = true := by
  intro u hu
  unfold vcs at hu
  rw [List.mem_flatMap] at hu
  obtain ⟨c, _, hc⟩ := hu
  simp only [vc, List.mem_cons, List.not_mem_nil, or_false] at hc
  rcases hc with rfl | rfl <;> rfl
theorem vcs_at (l : List Cl) (k : Nat) (h : k < l.length) : (vcs l)[k * 2]? = some (.string (l.getD k (ByteArray.empty, 0)).1) ∧ (vcs l)[k * 2 + 1]? = some (.int .u8 (l.getD k (ByteArray.empty, 0)).2) := by
  induction l generalizing k with
  | nil => simp at h
  | cons c l ih =>
    cases k with
    | zero => exact ⟨rfl, rfl⟩
    | succ k =>
      have := ih k (by simpa using h)
      have e : vcs (c :: l) = .string c.1 :: .int .u8 c.2 :: vcs l := rfl
      rw [e, show (k + 1) * 2 = k * 2 + 1 + 1 by omega]
      simpa [List.getD] using this
theorem infoCell : (Try.prog.info? 49).map (fun i => (i.zero, i.size, i.bytes)) = some (some (.agg #[.string ByteArray.empty, .int .u8 0]), 2, 24) := by kernel_rfl
/-- An own row of cells. -/
def Own2 (w : World) (base : Nat) (v : Value) (l : List Cl) : Prop := w.ownsRow base 49 2 v l.length (vcs l)
theorem Own2.nil (w : World) (base : Nat) : Own2 w base (.slice none 0 0) [] := ⟨rfl, .inl ⟨rfl, rfl⟩⟩
theorem own2_from {w : World} {base : Nat} {v : Value} {l : List Cl} (h : Own2 w base v l) : ∀ k, v.ownBlock = some k → base ≤ k := by
  intro k hk
  rcases h.2 with ⟨rfl, _⟩ | ⟨g, cap, cur, rfl, hg, _⟩
  · cases hk
  · simp [Value.ownBlock] at hk; omega
theorem Own2.base {w : World} {b b2 : Nat} {v : Value} {l : List Cl} (h : Own2 w b v l) (hb : b2 ≤ b) : Own2 w b2 v l := by
  obtain ⟨h1, h2⟩ := h
  refine ⟨h1, ?_⟩
  rcases h2 with h2 | ⟨g, cap, cur, hv, hg, hr⟩
  · exact .inl h2
  · exact .inr ⟨g, cap, cur, hv, Nat.le_trans hb hg, hr⟩
theorem Own2.slice {w : World} {base : Nat} {v : Value} {l : List Cl} (h : Own2 w base v l) : ∃ a c, v = .slice a l.length c := by
  rcases h.2 with ⟨rfl, h0⟩ | ⟨g, cap, cur, rfl, _⟩
  · exact ⟨_, _, by rw [h0]⟩
  · exact ⟨_, _, rfl⟩
theorem Own2.below {w w' : World} {base : Nat} {v : Value} {l : List Cl} (h : Own2 w base v l) (hb : Below w.heap.size w w') : Own2 w' base v l := by
  obtain ⟨h1, h2⟩ := h
  refine ⟨h1, ?_⟩
  rcases h2 with h2 | ⟨g, cap, cur, hv, hg, hh, hr⟩
  · exact .inl h2
  · exact .inr ⟨g, cap, cur, hv, hg, (hb.block g (Array.getElem?_eq_some_iff.1 hh).1).trans hh, hr⟩
/-- Its cells, one by one. -/
theorem Own2.cells {w : World} {base : Nat} {v : Value} {l : List Cl} (h : Own2 w base v l) (hl : l ≠ []) : ∃ g c, v = .slice (some ⟨g, 0, none⟩) l.length c ∧ g < w.heap.size ∧ l.length ≤ c ∧ ∀ (j : Nat) (u : Value), (vcs l)[j]? = some u → w.cell? ⟨g, j, none⟩ = some u := by
  rcases h.2 with ⟨rfl, h0⟩ | ⟨g, cap, cur, rfl, hg, hh, hn, hm, hs, hx⟩
  · exact absurd (List.eq_nil_of_length_eq_zero h0) hl
  · refine ⟨g, cap, rfl, (Array.getElem?_eq_some_iff.1 hh).1, hn, fun j u hj => ?_⟩
    have hj2 : j < (vcs l).length := (List.getElem?_eq_some_iff.1 hj).1
    rw [vcs_len] at hj2
    have e1 : cur[j]? = some u := by
      have h1 : (cur.toList.take (l.length * 2))[j]? = (vcs l)[j]? := by rw [hx]
      rw [List.getElem?_take, if_pos (by omega)] at h1
      rw [← Array.getElem?_toList, h1, hj]
    simp [World.cell?, hh, e1]
/-- An append of cells: its run. -/
theorem run_app2 {w : World} {base : Nat} {v : Value} {l : List Cl} (hown : Own2 w base v l) (g : Nat) (c : Nat) (ks : List Cl) (hcl : ∀ (j : Nat) (u : Value), (vcs ks)[j]? = some u → w.cell? ⟨g, j, none⟩ = some u)
    (hl : l.length + ks.length ≤ 1000000) (hbase : base ≤ w.heap.size) (ty : TypeId) :
    ∃ v' w', (Builtin.append_ #[32, 32] ty #[v, .slice (some ⟨g, 0, none⟩) ks.length c]).run Try.prog w = .ok v' w' ∧ Own2 w' base v' (l ++ ks) ∧ Below base w w' ∧ w.heap.size ≤ w'.heap.size := by
  obtain ⟨i0, hi, hz0, hz1, hz2⟩ := info_parts infoCell
  obtain ⟨v', w', hr, q1, q2, _⟩ := run_append_own (P := Try.prog) w base 32 ty 49 i0 (.agg #[.string ByteArray.empty, .int .u8 0]) 2 24 Try.underlying32 hi hz0 hz1 hz2 rfl (by decide) v l.length (vcs l) hown ⟨g, 0, none⟩ ks.length c (vcs ks) (vcs_len ks) (by
    intro j u hj
    have := hcl j u hj
    by_cases h0 : j = 0
    · subst h0; simpa [Addr.add] using this
    · simpa [Addr.add, h0] using this) (vcs_one ks) (by unfold maxLen; omega) (by omega) hbase
  refine ⟨v', w', hr, ?_, (Below.refl base w).grown q2 hbase (own2_from hown), q2.size⟩
  unfold Own2
  rw [List.length_append, vcs_app]
  exact q1
section
variable {ops : Array Oper} {rest : List Oper} {o : Oper} {a : Act} {w : World} {Q : Exit → Act → World → Prop}
/-- 'append(l, x...)' of cells. -/
theorem wpList_app2 (hw : Region.wanted o (yielded ops a.tmps) = true) (s x : Operand) (ho : o.op = .call { callee := .builtin .append, args := #[s, x], argTypes := #[32, 32] })
    (base : Nat) (v : Value) (l : List Cl) (hs : a.eval s = v) (hown : Own2 w base v l) (g c n : Nat) (ks : List Cl) (hn : ks.length = n) (hx : a.eval x = .slice (some ⟨g, 0, none⟩) n c) (hcl : ∀ (j : Nat) (u : Value), (vcs ks)[j]? = some u → w.cell? ⟨g, j, none⟩ = some u)
    (hl : l.length + ks.length ≤ 1000000) (hbase : base ≤ w.heap.size)
    (h : ∀ v' w', Own2 w' base v' (l ++ ks) → Below base w w' → w.heap.size ≤ w'.heap.size → wpList Try.prog ops Q rest (a.put o.dst v') w') : wpList Try.prog ops Q (o :: rest) a w := by
  subst hn
  obtain ⟨v', w', hr, q1, q2, q3⟩ := run_app2 hown g c ks hcl hl hbase o.type
  refine wpList_value hw _ w' ?_ (h v' w' q1 q2 q3)
  unfold execOp
  simp only [ho, resolve, invoke, builtin, Sem.run_bind, Sem.run_pure, Result.andThen_ok, List.map_toArray, List.map_cons, List.map_nil, hs, hx, hr]
/-- 'make([]Cell, 0, c)'. -/
theorem wpList_make2 (hw : Region.wanted o (yielded ops a.tmps) = true) (x y : Operand) (ho : o.op = .makeSlice 32 x y) (hx : a.eval x = .int .i64 0) (c : Nat) (hy : a.eval y = .int .i64 (c : Int)) (hc : c ≤ 1000000) (base : Nat) (hbase : base ≤ w.heap.size)
    (h : ∀ v' w', Own2 w' base v' [] → Below w.heap.size w w' → wpList Try.prog ops Q rest (a.put o.dst v') w') : wpList Try.prog ops Q (o :: rest) a w := by
  obtain ⟨i0, hi, hz0, hz1, hz2⟩ := info_parts infoCell
  obtain ⟨w', hr, h1, h2⟩ := run_make_own (P := Try.prog) w base 32 49 i0 (.agg #[.string ByteArray.empty, .int .u8 0]) 2 Try.underlying32 hi hz0 hz1 .i64 .i64 c (by rw [hz2]; omega) (by unfold maxLen; omega) hbase
  refine wpList_value hw _ w' ?_ (h _ w' h1 ((Below.refl _ w).grown h2 (Nat.le_refl _) (fun k e => by cases e)))
  unfold execOp
  simp only [ho, hx, hy, hr, Sem.run_bind, Sem.run_pure, Result.andThen_ok]
end
def ClP (l : List Cl) (w : World) (e : Ending) (w' : World) : Prop := ∃ v, Hid (e = .returned v) ∧ Own2 w' w.heap.size v l ∧ Below w.heap.size w w'
set_option maxHeartbeats 1000000 in
theorem cells_any (p : ByteArray) (g : Nat) (off c : Nat) (xs : List Int) (n : Nat) (hn : xs.length = n) (w : World) (hx : n ≤ 10) (hg : g < w.heap.size) (hc : ∀ i, i < n → w.cell? ⟨g, off + i, none⟩ = some (.int .u8 (xs.getD i 0))) :
    Calls Try.prog 30 #[.string p, .slice (some ⟨g, off, none⟩) n c] w (ClP (xs.map fun x => (p, x)) w) := by
  have HC := Lib.hid hc
  have HN := Lib.hid hn
  clear hc hn
  go_enter Try.func30, Try.ntmps30
  go_wp2_with (refine wpList_make2 rfl _ _ rfl rfl n rfl (by omega) w.heap.size (Nat.le_refl _) ?_)
  intro v0 w0 ho hb
  have HO := Lib.hid ho
  have HB := Lib.hid hb
  clear ho hb
  go_wp2_with fail
  go_loopw [5, 13] (fun l i wr => ∃ (k : Nat) (v : Value), k ≤ n ∧ l = v ∧ i = .int .i64 k ∧ Hid (Own2 wr w.heap.size v ((xs.take k).map fun x => (p, x))) ∧ Hid (Below w.heap.size w wr)) (fun _ i _ => n - (intOf i).toNat)
  case atStart => exact ⟨0, v0, by omega, rfl, rfl, HO, HB⟩
  case round =>
    clear HO HB
    obtain ⟨k, v, hk, rfl, rfl, hO, hB⟩ := hrel
    by_cases hlt : k < n
    · have hc := HC.out k hlt
      obtain ⟨x, hxk⟩ : ∃ x, xs.getD k 0 = x := ⟨_, rfl⟩
      rw [hxk] at hc
      have hc' : wr.cell? ⟨g, off + k, none⟩ = some (.int .u8 x) := (hB.out.cell (p := ⟨g, off + k, none⟩) hg).trans hc
      have hkn : (k : Int) < (n : Int) := by omega
      have HT : Hid ((xs.take k).map (fun x => (p, x)) ++ [(p, x)] = (xs.take (k + 1)).map fun x => (p, x)) := Lib.hid (by
        have hl : k < xs.length := by rw [HN.out]; exact hlt
        rw [List.take_succ_eq_append_getElem hl, List.map_append]
        simp only [List.getD, List.getElem?_eq_getElem hl, Option.getD_some] at hxk
        rw [hxk]; rfl)
      have HL : Hid (((xs.take k).map (fun x => ((p, x) : Cl))).length + [((p, x) : Cl)].length ≤ 1000000) := Lib.hid (by simp; omega)
      have hz := hB.out.size
      clear hc hxk
      go_wp2_with (refine wpList_app2 rfl _ _ rfl w.heap.size _ ((xs.take k).map fun x => (p, x)) rfl (hO.out.below ?hb) _ 1 1 [(p, x)] rfl rfl ?hu HL.out (by simp; omega) ?_)
      case hb => exact ((Below.refl _ _).alloc (Nat.le_refl _) _)
      case hu =>
        intro j u hj
        match j, hj with
        | 0, hj => simp [vcs, vc] at hj; subst hj; simp [go_sem]
        | 1, hj => simp [vcs, vc] at hj; subst hj; simp [go_sem]
        | j + 2, hj => simp [vcs, vc] at hj
      intro v2 w2 ho2 hb2 hz2
      have HO2 : Hid (Own2 w2 w.heap.size v2 ((xs.take (k + 1)).map fun x => (p, x))) := Lib.hid (by rw [← HT.out]; simpa using ho2)
      have HB2 : Hid (Below w.heap.size w w2) := Lib.hid (hB.out.trans ((((Below.refl _ _).alloc (Nat.le_refl _) _).mono hz).trans hb2))
      clear ho2 hb2 hz2 hO hB
      go_wp2
      go_roundw
      case rel => exact ⟨k + 1, v2, by omega, rfl, by go_num, HO2, HB2⟩
      case measure => simp [intOf]; omega
    · obtain rfl : k = n := by omega
      have hO' := hO.out
      rw [List.take_of_length_le (by rw [HN.out]; exact Nat.le_refl _)] at hO'
      have HO := Lib.hid hO'
      clear hO hO'
      go_wp2
      go_ret
      exact ⟨_, rfl, HO.out, hB.out⟩
end Go.Proofs.Ytphddigohmdbnaa
