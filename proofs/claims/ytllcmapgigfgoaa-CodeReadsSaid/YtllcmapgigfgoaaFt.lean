/-
  What a call may write: an object, and the row that it owns; all else stays.
-/
import Derived.Test.YtllcmapgigfgoaaApp
import Derived.Lib.AppendStr
import Derived.Laws.AppendOwnNone
namespace Go.Proofs.Ytllcmapgigfgoaa
open Go.RowKit
set_option linter.unusedSimpArgs false
set_option linter.unusedVariables false

/-- What a call may write: block p, and the row of v; all else that was there stays. -/
structure Foot (w w' : World) (p : Nat) (v : Value) : Prop where
  os : w'.os = w.os
  tape : w'.tape = w.tape
  output : w'.output = w.output
  size : w.heap.size ≤ w'.heap.size
  block : ∀ k, k < w.heap.size → k ≠ p → some k ≠ v.ownBlock → w'.heap[k]? = w.heap[k]?
theorem Own8.slice {w : World} {base : Nat} {v : Value} {xs : List Int} (h : Own8 w base v xs) : ∃ a c, v = .slice a xs.length c := by
  rcases h.2 with ⟨rfl, h0⟩ | ⟨g, cap, cur, rfl, _⟩
  · exact ⟨_, _, by rw [h0]⟩
  · exact ⟨_, _, rfl⟩
theorem Own8.lt {w : World} {base : Nat} {v : Value} {xs : List Int} (h : Own8 w base v xs) : ∀ k, v.ownBlock = some k → k < w.heap.size := by
  intro k hk
  rcases h.2 with ⟨rfl, _⟩ | ⟨g, cap, cur, rfl, hg, hh, _⟩
  · cases hk
  · simp [Value.ownBlock] at hk
    subst hk
    exact (Array.getElem?_eq_some_iff.1 hh).1
/-- A row stays where its block does. -/
theorem Own8.keep {w w' : World} {base : Nat} {v : Value} {xs : List Int} (h : Own8 w base v xs) (hk : ∀ k, v.ownBlock = some k → w'.heap[k]? = w.heap[k]?) : Own8 w' base v xs := by
  obtain ⟨h1, h2⟩ := h
  refine ⟨h1, ?_⟩
  rcases h2 with h2 | ⟨g, cap, cur, hv, hg, hh, hr⟩
  · exact .inl h2
  · exact .inr ⟨g, cap, cur, hv, hg, (hk g (by rw [hv]; rfl)).trans hh, hr⟩
theorem Own8.set {w : World} {base : Nat} {v : Value} {xs : List Int} (h : Own8 w base v xs) {a : Addr} (ha : ∀ k, v.ownBlock = some k → k ≠ a.block) (u : Value) : Own8 (w.setCell a u) base v xs :=
  h.keep fun k hk => Below.heap_setCell _ _ _ _ (ha k hk)
theorem Own8.below {w w' : World} {base : Nat} {v : Value} {xs : List Int} (h : Own8 w base v xs) (hb : Below w.heap.size w w') : Own8 w' base v xs :=
  h.keep fun k hk => hb.block k (h.lt k hk)
theorem Own8.le {w : World} {b b2 : Nat} {v : Value} {xs : List Int} (h : Own8 w b v xs) (hb : b2 ≤ b) : Own8 w b2 v xs := by
  obtain ⟨h1, h2⟩ := h
  refine ⟨h1, ?_⟩
  rcases h2 with h2 | ⟨g, cap, cur, hv, hg, hr⟩
  · exact .inl h2
  · exact .inr ⟨g, cap, cur, hv, Nat.le_trans hb hg, hr⟩
theorem Foot.refl (w : World) (p : Nat) (v : Value) : Foot w w p v := ⟨rfl, rfl, rfl, Nat.le_refl _, fun _ _ _ _ => rfl⟩
theorem Foot.below {w w' : World} {B p : Nat} {v : Value} (h : Foot w w' p v) (hp : B ≤ p) (hv : ∀ k, v.ownBlock = some k → B ≤ k) (hB : B ≤ w.heap.size) : Below B w w' :=
  ⟨h.os, h.tape, h.output, h.size, fun k hk => h.block k (by omega) (by omega) (fun e => by have := hv k e.symm; omega)⟩
theorem Foot.of_below {w w' : World} (p : Nat) (v : Value) (h : Below w.heap.size w w') : Foot w w' p v := ⟨h.os, h.tape, h.output, h.size, fun k hk _ _ => h.block k hk⟩
theorem Foot.set {w w' : World} {p : Nat} {v : Value} (h : Foot w w' p v) (o : Nat) (u : Value) : Foot w (w'.setCell ⟨p, o, none⟩ u) p v :=
  ⟨h.os, h.tape, h.output, by simpa using h.size, fun k h1 h2 h3 => (Below.heap_setCell _ _ _ _ (by dsimp only; omega)).trans (h.block k h1 h2 h3)⟩
theorem Foot.alloc {w w' : World} {p : Nat} {v : Value} (h : Foot w w' p v) (o : Obj) : Foot w (w'.alloc o) p v :=
  ⟨h.os, h.tape, h.output, by have := h.size; simp; omega, fun k h1 h2 h3 => (Below.heap_alloc _ _ _ (by have := h.size; omega)).trans (h.block k h1 h2 h3)⟩
/-- What comes of a disk's rows: the same, or a new one. -/
def Next (w : World) (v v' : Value) : Prop := ∀ k, v'.ownBlock = some k → v.ownBlock = some k ∨ w.heap.size ≤ k
theorem Foot.trans {w w1 w2 : World} {p : Nat} {v v1 : Value} (h : Foot w w1 p v) (k : Foot w1 w2 p v1) (hn : Next w v v1) : Foot w w2 p v :=
  ⟨k.os.trans h.os, k.tape.trans h.tape, k.output.trans h.output, Nat.le_trans h.size k.size, fun j h1 h2 h3 => (k.block j (Nat.lt_of_lt_of_le h1 h.size) h2 (fun e => by
    rcases hn j e.symm with q | q
    · exact h3 q.symm
    · omega)).trans (h.block j h1 h2 h3)⟩
theorem Next.trans {w w1 : World} {v v1 v2 : Value} (h : Next w v v1) (k : Next w1 v1 v2) (hs : w.heap.size ≤ w1.heap.size) : Next w v v2 := fun j hj => by
  rcases k j hj with q | q
  · exact h j q
  · exact .inr (Nat.le_trans hs q)
theorem Next.refl (w : World) (v : Value) : Next w v v := fun k h => .inl h
theorem blk_set {w : World} {p : Nat} {t : TypeId} (h : ∃ cs fr, w.heap[p]? = some (.cells cs t fr)) (o : Nat) (u : Value) : ∃ cs fr, (w.setCell ⟨p, o, none⟩ u).heap[p]? = some (.cells cs t fr) := by
  obtain ⟨cs, fr, hh⟩ := h
  refine ⟨cs.setIfInBounds o u, fr, ?_⟩
  simp [World.setCell, Array.getElem?_modify, hh]
theorem Own8.blk {w : World} {base : Nat} {v : Value} {xs : List Int} (h : Own8 w base v xs) : ∀ k, v.ownBlock = some k → ∃ cs fr, w.heap[k]? = some (.cells cs 5 fr) := by
  intro k hk
  rcases h.2 with ⟨rfl, _⟩ | ⟨g, cap, cur, rfl, hg, hh, _⟩
  · cases hk
  · simp [Value.ownBlock] at hk
    subst hk
    exact ⟨_, _, hh⟩
theorem blk_ne {w : World} {k : Nat} {s t : TypeId} (hst : s ≠ t) (h1 : ∃ cs fr, w.heap[k]? = some (.cells cs s fr)) (h2 : ∃ cs fr, w.heap[k]? = some (.cells cs t fr)) : False := by
  obtain ⟨cs, fr, h1⟩ := h1
  obtain ⟨cs2, fr2, h2⟩ := h2
  rw [h1] at h2
  simp only [Option.some.injEq, Obj.cells.injEq] at h2
  exact hst h2.2.1
theorem Foot.below_in {w w1 w2 : World} {p : Nat} {v : Value} (h : Foot w w1 p v) (hb : Below w.heap.size w1 w2) : Foot w w2 p v :=
  ⟨hb.os.trans h.os, hb.tape.trans h.tape, hb.output.trans h.output, Nat.le_trans h.size hb.size, fun k h1 h2 h3 => (hb.block k h1).trans (h.block k h1 h2 h3)⟩
/-- An append's row is the old one, or a new one. -/
theorem append_next {P : Program} (w : World) (t ty e : TypeId) (i : TypeInfo) (z : Value) (base : Nat) (ht : P.underlying t = some (.slice e)) (hi : P.info? e = some i) (hz : i.zero = some z)
    (v : Value) (n : Nat) (xs : List Value) (hown : w.ownsRow base e i.size v n xs) (hsz : 0 < i.size)
    (a : Addr) (m c : Nat) (news : List Value) (hl : news.length = m * i.size) (hnews : ∀ j u, news[j]? = some u → w.cell? (a.add j) = some u) (h1 : ∀ u ∈ news, u.oneCell' = true)
    (h63 : n + m ≤ maxLen) (hbytes : (n + m) * i.bytes ≤ 140737488355328) (v' : Value) (w' : World)
    (hr : (Builtin.append_ #[t, t] ty #[v, .slice (some a) m c]).run P w = .ok v' w') : Next w v v' := by
  have hsm : n + m ≤ 9223372036854775807 := by unfold maxLen at h63; omega
  rcases hown.2 with ⟨rfl, rfl⟩ | ⟨g, cap, cur, rfl, hbg, hg, hnc, hcm, hcs, htake⟩
  · by_cases hm : m = 0
    · subst hm
      have hn : news = [] := List.eq_nil_of_length_eq_zero (by simpa using hl)
      subst hn
      have q : (Builtin.append_ #[t, t] ty #[.slice none 0 0, .slice (some a) 0 c]).run P w = .ok (.slice none 0 0) w := by
        simp [Builtin.append_, run_underlying ht, sizeOf, typeInfo, hi, Builtin.lenOf, Builtin.firstCells, loadCells, loadCellsFrom]
      rw [q] at hr
      simp only [Result.ok.injEq] at hr
      rw [← hr.1]
      exact Next.refl _ _
    · have q := run_append_nil (P := P) w t ty e i z ht hi hz a m c news hl hnews (by omega) (by omega) (by have hb := hbytes; simp only [Nat.zero_add] at hb; omega)
      rw [q] at hr
      simp only [Result.ok.injEq] at hr
      rw [← hr.1]
      intro k hk
      simp [Value.ownBlock] at hk
      omega
  · by_cases hroom : n + m ≤ cap
    · have hfit : n * i.size + news.length ≤ cur.size := by rw [hl, hcs, ← Nat.add_mul]; exact Nat.mul_le_mul_right _ hroom
      have q := run_append_room (P := P) w t ty e i ht hi g n cap cur hg a m c news hl hnews h1 hroom hfit
      rw [q] at hr
      simp only [Result.ok.injEq] at hr
      rw [← hr.1]
      intro k hk
      exact .inl hk
    · have holds : ∀ j u, xs[j]? = some u → w.cell? ((⟨g, 0, none⟩ : Addr).add j) = some u := hown.cells (g := g) rfl
      have q := run_append_grow (P := P) w t ty e i z ht hi hz ⟨g, 0, none⟩ n cap xs hown.1 holds a m c news hl hnews (by omega) (by omega) (growslice_fits (by omega) hbytes)
      rw [q] at hr
      simp only [Result.ok.injEq] at hr
      rw [← hr.1]
      intro k hk
      simp [Value.ownBlock] at hk
      omega
section
variable {ops : Array Oper} {rest : List Oper} {o : Oper} {a : Act} {w : World} {Q : Exit → Act → World → Prop}
/-- 'append(s, x...)' of bytes: told with what the row then is. -/
theorem wpList_app8N (hgd : o.guard = none) (s x : Operand) (ho : o.op = .call { callee := .builtin .append, args := #[s, x], argTypes := #[49, 49] })
    (base : Nat) (v : Value) (xs : List Int) (hs : a.eval s = v) (hown : Own8 w base v xs) (vy : Value) (ys : List Int) (hx : a.eval x = vy) (hy : Bt w vy ys) (hl : xs.length + ys.length ≤ 100000000000) (hbase : base ≤ w.heap.size)
    (h : ∀ v' w', Own8 w' base v' (xs ++ ys) → w.grownBy w' v.ownBlock → Next w v v' → wpList Try.prog ops Q rest (a.put o.dst v') w') : wpList Try.prog ops Q (o :: rest) a w := by
  obtain ⟨i0, hi, hz0, hz1, hz2⟩ := info_parts info8
  obtain ⟨ad, cap, rfl, h1, h2⟩ := hy.row
  cases ad with
  | none =>
    have hys : ys = [] := by
      rcases h1.2 with h0 | ⟨g, off, ha, _⟩
      · exact h0
      · cases ha
    subst hys
    obtain rfl := h2.1 rfl
    refine wpList_append_own_none hgd s x 49 ho base 5 i0 1 Try.underlying49 hi v xs.length (u8v xs) hs hown hx ?_
    exact h v w (by simpa using hown) ⟨rfl, rfl, rfl, Nat.le_refl _, fun _ _ _ => rfl⟩ (Next.refl _ _)
  | some ad =>
    have hq1 : (u8v ys).length = ys.length * 1 := by simp
    have hq2 : ∀ u ∈ u8v ys, u.oneCell' = true := by intro u hu; simp at hu; obtain ⟨z, _, rfl⟩ := hu; rfl
    have hq3 : xs.length + ys.length ≤ maxLen := by unfold maxLen; omega
    have hq4 : (xs.length + ys.length) * 1 ≤ 140737488355328 := by omega
    obtain ⟨v', w', hr, q1, q2, _⟩ := run_append_own (P := Try.prog) w base 49 o.type 5 i0 (.int .u8 0) 1 1 Try.underlying49 hi hz0 hz1 hz2 rfl (by decide) v xs.length (u8v xs) hown ad ys.length cap (u8v ys) hq1 (brd_news h1) hq2 hq3 hq4 hbase
    have hN := append_next (P := Try.prog) w 49 o.type 5 i0 (.int .u8 0) base Try.underlying49 hi hz0 v xs.length (u8v xs) (by rw [hz1]; exact hown) (by rw [hz1]; decide) ad ys.length cap (u8v ys) (by rw [hz1]; exact hq1) (brd_news h1) hq2 hq3 (by rw [hz2]; exact hq4) v' w' hr
    refine wpList_plain hgd fun K hK => ?_
    unfold Oper.wp execOp
    simp only [ho, resolve, invoke, builtin, Sem.run_bind, Sem.run_pure, Result.andThen_ok, List.map_toArray, List.map_cons, List.map_nil, hs, hx, hr]
    refine hK _ _ (h v' w' ?_ q2 hN)
    unfold Own8
    rw [List.length_append]
    have e : u8v (xs ++ ys) = u8v xs ++ u8v ys := by simp [u8v]
    rw [e]; exact q1
end
theorem append_next_string {P : Program} (w : World) (t u ty e : TypeId) (i : TypeInfo) (base : Nat) (ht : P.underlying t = some (.slice e)) (hu : P.underlying u = some .string) (hi : P.info? e = some i) (hz : i.zero = some (.int .u8 0))
    (hsize : i.size = 1) (hby : i.bytes = 1) (v : Value) (n : Nat) (xs : List Value) (hown : w.ownsRow base e 1 v n xs) (s : ByteArray)
    (h63 : n + s.size ≤ maxLen) (hbytes : n + s.size ≤ 140737488355328) (v' : Value) (w' : World)
    (hr : (Builtin.append_ #[t, u] ty #[v, .string s]).run P w = .ok v' w') : Next w v v' := by
  have hsmall : n + s.size ≤ 9223372036854775807 := by unfold maxLen at h63; omega
  have hxl : xs.length = n := by simpa using hown.1
  rcases hown.2 with ⟨rfl, rfl⟩ | ⟨g, cap, cur, rfl, hbg, hg, hnc, hcm, hcs, htake⟩
  · by_cases hm : s.size = 0
    · have hf := Lib.run_firstCells_string (P := P) w 1 s
      rw [hm] at hf
      have q : (Builtin.append_ #[t, u] ty #[.slice none 0 0, .string s]).run P w = .ok (.slice none 0 0) w := by
        simp [Builtin.append_, run_underlying ht, run_underlying hu, sizeOf, typeInfo, hi, hsize, Builtin.lenOf, hm, hf]
      rw [q] at hr
      simp only [Result.ok.injEq] at hr
      rw [← hr.1]
      exact Next.refl _ _
    · have q := run_append_nil_string (P := P) w t u ty e i (.int .u8 0) ht hu hi hz s (by omega) (by omega) (by rw [hby]; omega)
      rw [q] at hr
      simp only [Result.ok.injEq] at hr
      rw [← hr.1]
      intro k hk
      simp [Value.ownBlock] at hk
      omega
  · by_cases hroom : n + s.size ≤ cap
    · have hcs' : cur.size = cap := by simpa using hcs
      have q := Lib.run_append_room_string (P := P) w t u ty e i ht hu hi hsize g n cap cur hg s hroom (by omega)
      rw [q] at hr
      simp only [Result.ok.injEq] at hr
      rw [← hr.1]
      intro k hk
      exact .inl hk
    · have holds : ∀ j u, xs[j]? = some u → w.cell? ((⟨g, 0, none⟩ : Addr).add j) = some u := hown.cells (g := g) rfl
      have q := Lib.run_append_grow_string (P := P) w t u ty e i (.int .u8 0) ht hu hi hz ⟨g, 0, none⟩ n cap xs (by rw [hsize]; simpa using hxl) holds s (by omega) (by omega) (by rw [hby]; exact growslice_fits (by omega) (by omega))
      rw [q] at hr
      simp only [Result.ok.injEq] at hr
      rw [← hr.1]
      intro k hk
      simp [Value.ownBlock] at hk
      omega
section
variable {ops : Array Oper} {rest : List Oper} {o : Oper} {a : Act} {w : World} {Q : Exit → Act → World → Prop}
/-- 'append(s, t...)' of a text's bytes: told with what the row then is. -/
theorem wpList_appStrN (hgd : o.guard = none) (s x : Operand) (ho : o.op = .call { callee := .builtin .append, args := #[s, x], argTypes := #[49, 9] })
    (base : Nat) (v : Value) (xs : List Int) (hs : a.eval s = v) (hown : Own8 w base v xs) (t : ByteArray) (hx : a.eval x = .string t) (hl : xs.length + t.size ≤ 140000000000000) (hbase : base ≤ w.heap.size)
    (h : ∀ v' w', Own8 w' base v' (xs ++ byt t) → w.grownBy w' v.ownBlock → Next w v v' → wpList Try.prog ops Q rest (a.put o.dst v') w') : wpList Try.prog ops Q (o :: rest) a w := by
  obtain ⟨i0, hi, hz0, hz1, hz2⟩ := info_parts info8
  have hq3 : xs.length + t.size ≤ maxLen := by unfold maxLen; omega
  have hq4 : xs.length + t.size ≤ 140737488355328 := by omega
  obtain ⟨v', w', hr, q1, q2, _⟩ := Lib.run_append_own_string (P := Try.prog) w base 49 9 o.type 5 i0 Try.underlying49 Try.underlying9 hi hz0 hz1 hz2 v xs.length (u8v xs) hown t hq3 hq4 hbase
  have hN := append_next_string (P := Try.prog) w 49 9 o.type 5 i0 base Try.underlying49 Try.underlying9 hi hz0 hz1 hz2 v xs.length (u8v xs) hown t hq3 hq4 v' w' hr
  refine wpList_plain hgd fun K hK => ?_
  unfold Oper.wp execOp
  simp only [ho, resolve, invoke, builtin, Sem.run_bind, Sem.run_pure, Result.andThen_ok, List.map_toArray, List.map_cons, List.map_nil, hs, hx, hr]
  refine hK _ _ (h v' w' ?_ q2 hN)
  unfold Own8
  rw [List.length_append, byt_length]
  have e : u8v (xs ++ byt t) = u8v xs ++ Lib.strCells t := by rw [byt_cells]; simp [u8v]
  rw [e]; exact q1
end
theorem Foot.grown {w w1 w2 : World} {p : Nat} {v : Value} (hb : Below w.heap.size w w1) (hg : w1.grownBy w2 v.ownBlock) : Foot w w2 p v :=
  ⟨hg.os.trans hb.os, hg.tape.trans hb.tape, hg.output.trans hb.output, Nat.le_trans hb.size hg.size, fun k h1 h2 h3 => (hg.block k (Nat.lt_of_lt_of_le h1 hb.size) (fun e => h3 e)).trans (hb.block k h1)⟩
end Go.Proofs.Ytllcmapgigfgoaa
