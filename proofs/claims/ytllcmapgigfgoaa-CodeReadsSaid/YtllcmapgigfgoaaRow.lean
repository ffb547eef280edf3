/-
  Rows of elements of k cells each, for whatever kind of elements: rows that can be read, rows of one's own.
-/
import Derived.Test.YtllcmapgigfgoaaArr
import Derived.Laws.MakeOwn
namespace Go.Proofs.Ytllcmapgigfgoaa
open Go.RowKit
set_option linter.unusedSimpArgs false
set_option linter.unusedVariables false

/-- The cells of a block that was just laid. -/
theorem new_cell (w : World) (cs : Array Value) (t : TypeId) (j : Nat) : (w.alloc (.cells cs t)).cell? ⟨w.heap.size, j, none⟩ = cs[j]? := World.cell?_alloc_mark w cs t (0, 0) j
theorem old_cell (w : World) (o : Obj) (b j : Nat) (hb : b < w.heap.size) : (w.alloc o).cell? ⟨b, j, none⟩ = w.cell? ⟨b, j, none⟩ := ((Below.refl w.heap.size w).alloc (Nat.le_refl _) o).cell (p := ⟨b, j, none⟩) hb
theorem two_cells (w : World) (cs ds : Array Value) (t s : TypeId) : (∀ j, ((w.alloc (.cells cs t)).alloc (.cells ds s)).cell? ⟨w.heap.size, j, none⟩ = cs[j]?) ∧ (∀ j, ((w.alloc (.cells cs t)).alloc (.cells ds s)).cell? ⟨w.heap.size + 1, j, none⟩ = ds[j]?) := by
  refine ⟨fun j => ?_, fun j => ?_⟩
  · rw [old_cell _ _ _ _ (by simp), new_cell]
  · have h := new_cell (w.alloc (.cells cs t)) ds s j
    rwa [World.size_alloc] at h
/-- A kind of elements: the element's type, the slice's type, the cells. -/
structure Knd (P : Program) (α : Type) where
  T : TypeId
  S : TypeId
  k : Nat
  enc : α → List Value
  z : Value
  B : Nat
  len : ∀ x, (enc x).length = k
  one : ∀ x, ∀ v ∈ enc x, v.oneCell' = true
  und : P.underlying S = some (.slice T)
  info : (P.info? T).map (fun i => (i.zero, i.size, i.bytes)) = some (some z, k, B)
  zc : z.cells.size = k
  pos : 0 < k
  small : B ≤ 100000
  d : α
section
variable {P : Program} {α : Type} {ops : Array Oper} {rest : List Oper} {o : Oper} {a : Act} {w : World} {Q : Exit → Act → World → Prop} (K : Knd P α)
/-- All cells, one behind another. -/
def Knd.row (l : List α) : List Value := l.flatMap K.enc
theorem Knd.row_len (l : List α) : (K.row l).length = l.length * K.k := by
  induction l with
  | nil => simp [Knd.row]
  | cons c l ih =>
    unfold Knd.row at ih ⊢
    rw [List.flatMap_cons, List.length_append, ih, K.len, List.length_cons, Nat.add_mul]; omega
theorem Knd.row_app (l k : List α) : K.row (l ++ k) = K.row l ++ K.row k := by simp [Knd.row]
theorem Knd.row_one (l : List α) : ∀ u ∈ K.row l, u.oneCell' = true := by
  intro u hu
  unfold Knd.row at hu
  rw [List.mem_flatMap] at hu
  obtain ⟨c, _, hc⟩ := hu
  exact K.one c u hc
theorem Knd.row_at (l : List α) (i : Nat) (hi : i < l.length) (j : Nat) (hj : j < K.k) : (K.row l)[i * K.k + j]? = (K.enc (l.getD i K.d))[j]? := by
  induction l generalizing i with
  | nil => simp at hi
  | cons c l ih =>
    unfold Knd.row at ih ⊢
    rw [List.flatMap_cons]
    cases i with
    | zero => rw [Nat.zero_mul, Nat.zero_add, List.getElem?_append_left (by rw [K.len]; exact hj)]; rfl
    | succ i =>
      rw [List.getElem?_append_right (by rw [K.len, Nat.add_mul]; omega), K.len, show (i + 1) * K.k + j - K.k = i * K.k + j by rw [Nat.add_mul]; omega, ih i (by simpa using hi)]
      rfl
theorem Knd.row_flat (l : List α) (t : Nat) (ht : t < (K.row l).length) : (K.row l)[t]? = (K.enc (l.getD (t / K.k) K.d))[t % K.k]? := by
  rw [K.row_len] at ht
  have hp := K.pos
  have h1 : t / K.k < l.length := by rw [Nat.div_lt_iff_lt_mul hp]; exact ht
  have := K.row_at l (t / K.k) h1 (t % K.k) (Nat.mod_lt _ hp)
  rw [← this]
  congr 1
  have := Nat.div_add_mod t K.k
  rw [Nat.mul_comm] at this
  omega
/-- A row that can be read. -/
def Knd.Rd (w : World) (v : Value) (l : List α) : Prop :=
  ∃ a c, v = .slice a l.length c ∧ l.length ≤ maxLen ∧ (a = none → c = 0) ∧ (l = [] ∨ ∃ g off, a = some ⟨g, off, none⟩ ∧ g < w.heap.size ∧ ∀ t u, (K.row l)[t]? = some u → w.cell? ⟨g, off + t, none⟩ = some u)
variable {K}
theorem Knd.Rd.below {w w' : World} {v : Value} {l : List α} (h : K.Rd w v l) (hb : Below w.heap.size w w') : K.Rd w' v l := by
  obtain ⟨a, c, e, h1, h2, h3⟩ := h
  refine ⟨a, c, e, h1, h2, ?_⟩
  rcases h3 with h3 | ⟨g, off, ha, hg, hc⟩
  · exact .inl h3
  · exact .inr ⟨g, off, ha, by have := hb.size; omega, fun t u hu => by rw [hb.cell (p := ⟨g, off + t, none⟩) hg]; exact hc t u hu⟩
theorem Knd.Rd.nil (w : World) : K.Rd w (.slice none 0 0) [] := ⟨none, 0, rfl, Nat.zero_le _, fun _ => rfl, .inl rfl⟩
theorem Knd.Rd.len {w : World} {v : Value} {l : List α} (h : K.Rd w v l) : l.length ≤ maxLen := by obtain ⟨a, c, e, h1, _⟩ := h; exact h1
/-- Its elements' cells, one by one. -/
theorem Knd.Rd.at {w : World} {a : Option Addr} {n c : Nat} {l : List α} (h : K.Rd w (.slice a n c) l) (hl : l ≠ []) : n = l.length ∧ ∃ g off, a = some ⟨g, off, none⟩ ∧ g < w.heap.size ∧ ∀ i, i < n → ∀ j u, (K.enc (l.getD i K.d))[j]? = some u → w.cell? ⟨g, off + i * K.k + j, none⟩ = some u := by
  obtain ⟨a', c', e, h1, h2, h3⟩ := h
  simp only [Value.slice.injEq] at e
  obtain ⟨rfl, rfl, rfl⟩ := e
  rcases h3 with h3 | ⟨g, off, ha, hg, hc⟩
  · exact absurd h3 hl
  · refine ⟨rfl, g, off, ha, hg, fun i hi j u hu => ?_⟩
    have hj : j < K.k := by have := (List.getElem?_eq_some_iff.1 hu).1; rw [K.len] at this; exact this
    have := hc (i * K.k + j) u (by rw [K.row_at l i hi j hj]; exact hu)
    rwa [← Nat.add_assoc] at this
theorem Knd.Rd.slice {w : World} {v : Value} {l : List α} (h : K.Rd w v l) : ∃ a c, v = .slice a l.length c := by obtain ⟨a, c, e, _⟩ := h; exact ⟨a, c, e⟩
variable (K) in
/-- A row of one's own. -/
def Knd.Own (w : World) (base : Nat) (v : Value) (l : List α) : Prop := w.ownsRow base K.T K.k v l.length (K.row l)
theorem Knd.Own.nil (w : World) (base : Nat) : K.Own w base (.slice none 0 0) [] := ⟨by simp [Knd.row], .inl ⟨rfl, rfl⟩⟩
theorem Knd.Own.from {w : World} {base : Nat} {v : Value} {l : List α} (h : K.Own w base v l) : ∀ k, v.ownBlock = some k → base ≤ k := by
  intro k hk
  rcases h.2 with ⟨rfl, _⟩ | ⟨g, cap, cur, rfl, hg, _⟩
  · cases hk
  · simp [Value.ownBlock] at hk; omega
theorem Knd.Own.base {w : World} {b b2 : Nat} {v : Value} {l : List α} (h : K.Own w b v l) (hb : b2 ≤ b) : K.Own w b2 v l := by
  obtain ⟨h1, h2⟩ := h
  refine ⟨h1, ?_⟩
  rcases h2 with h2 | ⟨g, cap, cur, hv, hg, hr⟩
  · exact .inl h2
  · exact .inr ⟨g, cap, cur, hv, Nat.le_trans hb hg, hr⟩
theorem Knd.Own.slice {w : World} {base : Nat} {v : Value} {l : List α} (h : K.Own w base v l) : ∃ a c, v = .slice a l.length c := by
  rcases h.2 with ⟨rfl, h0⟩ | ⟨g, cap, cur, rfl, _⟩
  · exact ⟨_, _, by rw [h0]⟩
  · exact ⟨_, _, rfl⟩
theorem Knd.Own.keepB {w w' : World} {base : Nat} {v : Value} {l : List α} (h : K.Own w base v l) (hk : ∀ k, v.ownBlock = some k → w'.heap[k]? = w.heap[k]?) : K.Own w' base v l := by
  obtain ⟨h1, h2⟩ := h
  refine ⟨h1, ?_⟩
  rcases h2 with h2 | ⟨g, cap, cur, hv, hg, hh, hr⟩
  · exact .inl h2
  · exact .inr ⟨g, cap, cur, hv, hg, (hk g (by rw [hv]; rfl)).trans hh, hr⟩
theorem Knd.Own.blk {w : World} {base : Nat} {v : Value} {l : List α} (h : K.Own w base v l) : ∀ k, v.ownBlock = some k → k < w.heap.size ∧ ∃ cs fr, w.heap[k]? = some (.cells cs K.T fr) := by
  intro k hk
  rcases h.2 with ⟨rfl, _⟩ | ⟨g, cap, cur, rfl, hg, hh, _⟩
  · cases hk
  · simp [Value.ownBlock] at hk
    subst hk
    exact ⟨(Array.getElem?_eq_some_iff.1 hh).1, _, _, hh⟩
theorem Knd.Own.below {w w' : World} {base : Nat} {v : Value} {l : List α} (h : K.Own w base v l) (hb : Below w.heap.size w w') : K.Own w' base v l :=
  h.keepB fun k hk => hb.block k (h.blk k hk).1
theorem Knd.Own.rd {w : World} {base : Nat} {v : Value} {l : List α} (h : K.Own w base v l) : K.Rd w v l := by
  rcases h.2 with ⟨rfl, h0⟩ | ⟨g, cap, cur, rfl, hg, hh, hn, hm, hs, hx⟩
  · rw [List.eq_nil_of_length_eq_zero h0]; exact Knd.Rd.nil w
  · refine ⟨some ⟨g, 0, none⟩, cap, rfl, Nat.le_trans hn hm, (fun q => by cases q), .inr ⟨g, 0, rfl, (Array.getElem?_eq_some_iff.1 hh).1, fun t u hu => ?_⟩⟩
    have ht : t < (K.row l).length := (List.getElem?_eq_some_iff.1 hu).1
    rw [K.row_len] at ht
    have e1 : cur[t]? = some u := by
      have h1 : (cur.toList.take (l.length * K.k))[t]? = (K.row l)[t]? := by rw [hx]
      rw [List.getElem?_take, if_pos (by omega)] at h1
      rw [← Array.getElem?_toList, h1, hu]
    simp [World.cell?, hh, e1]
variable (K)
/-- An append of elements: its run. -/
theorem Knd.run_app {w : World} {base : Nat} {v : Value} {l : List α} (hown : K.Own w base v l) (vy : Value) (ks : List α) (hks : K.Rd w vy ks) (hnil : ∀ a, vy = .slice a ks.length 0 → True)
    (hl : l.length + ks.length ≤ 1000000) (hbase : base ≤ w.heap.size) (ty : TypeId) :
    ∃ v' w', (Builtin.append_ #[K.S, K.S] ty #[v, vy]).run P w = .ok v' w' ∧ K.Own w' base v' (l ++ ks) ∧ Below base w w' ∧ w.grownBy w' v.ownBlock ∧ (v' = .slice none 0 0 ↔ v = .slice none 0 0 ∧ ks.length = 0) := by
  obtain ⟨i0, hi, hz0, hz1, hz2⟩ := info_parts K.info
  obtain ⟨a, c, rfl, h1, h2, h3⟩ := hks
  cases a with
  | none =>
    have hk0 : ks = [] := by
      rcases h3 with h3 | ⟨g, off, ha, _⟩
      · exact h3
      · cases ha
    subst hk0
    have hc0 := h2 rfl
    subst hc0
    refine ⟨v, w, run_append_owned_none (P := P) (w := w) base K.S ty K.T i0 K.k K.und hi v l.length (K.row l) hown, by simpa using hown, Below.refl _ _, ⟨rfl, rfl, rfl, Nat.le_refl _, fun _ _ _ => rfl⟩, by simp⟩
  | some ad =>
    have hnews : ∀ j u, (K.row ks)[j]? = some u → w.cell? (ad.add j) = some u := by
      intro j u hj
      rcases h3 with h3 | ⟨g, off, ha, hg, hc⟩
      · subst h3; simp [Knd.row] at hj
      · simp only [Option.some.injEq] at ha
        subst ha
        have := hc j u hj
        by_cases h0 : j = 0
        · subst h0; simpa [Addr.add] using this
        · simpa [Addr.add, h0] using this
    have hs := K.small
    have hB : (l.length + ks.length) * K.B ≤ 140737488355328 := by
      have h2 : (l.length + ks.length) * K.B ≤ 1000000 * 100000 := Nat.mul_le_mul hl hs
      omega
    obtain ⟨v', w', hr, q1, q2, q3⟩ := run_append_own (P := P) w base K.S ty K.T i0 K.z K.k K.B K.und hi hz0 hz1 hz2 K.zc K.pos v l.length (K.row l) hown ad ks.length c (K.row ks) (K.row_len ks) hnews (K.row_one ks) (by unfold maxLen; omega) hB hbase
    refine ⟨v', w', hr, ?_, (Below.refl base w).grown q2 hbase hown.from, q2, q3⟩
    unfold Knd.Own
    rw [List.length_append, K.row_app]
    exact q1
/-- 'append(l, x...)'. -/
theorem Knd.app (hw : Region.wanted o (yielded ops a.tmps) = true) (s x : Operand) (ho : o.op = .call { callee := .builtin .append, args := #[s, x], argTypes := #[K.S, K.S] })
    (base : Nat) (v : Value) (l : List α) (hs : a.eval s = v) (hown : K.Own w base v l) (vy : Value) (ks : List α) (hx : a.eval x = vy) (hks : K.Rd w vy ks)
    (hl : l.length + ks.length ≤ 1000000) (hbase : base ≤ w.heap.size)
    (h : ∀ v' w', K.Own w' base v' (l ++ ks) → Below base w w' → w.grownBy w' v.ownBlock → (v' = .slice none 0 0 ↔ v = .slice none 0 0 ∧ ks.length = 0) → wpList P ops Q rest (a.put o.dst v') w') : wpList P ops Q (o :: rest) a w := by
  obtain ⟨v', w', hr, q1, q2, q3, q4⟩ := K.run_app hown vy ks hks (fun _ _ => trivial) hl hbase o.type
  refine wpList_value hw _ w' ?_ (h v' w' q1 q2 q3 q4)
  unfold execOp
  simp only [ho, resolve, invoke, builtin, Sem.run_bind, Sem.run_pure, Result.andThen_ok, List.map_toArray, List.map_cons, List.map_nil, hs, hx, hr]
/-- A block that was just laid holds one element. -/
theorem Knd.rd_box (x : α) (T : TypeId) (c : Nat) (w : World) : K.Rd (w.alloc (.cells (K.enc x).toArray T)) (.slice (some ⟨w.heap.size, 0, none⟩) 1 c) [x] := by
  refine ⟨_, _, rfl, by simp [maxLen], (fun q => by cases q), .inr ⟨w.heap.size, 0, rfl, by simp, fun t u hu => ?_⟩⟩
  have e : K.row [x] = K.enc x := by simp [Knd.row]
  rw [e] at hu
  have hh := heap_alloc_new w (.cells (K.enc x).toArray T)
  rw [cell_of_row _ _ (0 + t) _ _ _ hh]
  simpa using hu
theorem Knd.rd_boxAt (x : α) (T : TypeId) (c : Nat) (w : World) (g : Nat) (hg : w.heap.size = g) : K.Rd (w.alloc (.cells (K.enc x).toArray T)) (.slice (some ⟨g, 0, none⟩) 1 c) [x] := by
  subst hg
  exact K.rd_box x T c w
/-- A row that was just laid. -/
theorem Knd.rd_lit (l : List α) (T : TypeId) (n c : Nat) (hn : l.length = n) (hm : n ≤ maxLen) (w : World) (g : Nat) (hg : w.heap.size = g) : K.Rd (w.alloc (.cells (K.row l).toArray T)) (.slice (some ⟨g, 0, none⟩) n c) l := by
  subst hg
  subst hn
  refine ⟨_, _, rfl, hm, (fun q => by cases q), .inr ⟨w.heap.size, 0, rfl, by simp, fun t u hu => ?_⟩⟩
  have hh := heap_alloc_new w (.cells (K.row l).toArray T)
  rw [cell_of_row _ _ (0 + t) _ _ _ hh]
  simpa using hu
/-- 'make([]T, 0, c)'. -/
theorem Knd.make (hw : Region.wanted o (yielded ops a.tmps) = true) (x y : Operand) (ho : o.op = .makeSlice K.S x y) (hx : a.eval x = .int .i64 0) (c : Nat) (hy : a.eval y = .int .i64 (c : Int)) (hc : c ≤ 1000000) (base : Nat) (hbase : base ≤ w.heap.size)
    (h : ∀ v' w', K.Own w' base v' [] → Below w.heap.size w w' → v' ≠ .slice none 0 0 → w.grownBy w' none → wpList P ops Q rest (a.put o.dst v') w') : wpList P ops Q (o :: rest) a w := by
  obtain ⟨i0, hi, hz0, hz1, hz2⟩ := info_parts K.info
  have hs := K.small
  have hB : i0.bytes * c ≤ 281474976710656 := by
    rw [hz2]
    have h2 : K.B * c ≤ 100000 * 1000000 := Nat.mul_le_mul hs hc
    omega
  obtain ⟨w', hr, h1, h2⟩ := run_make_own (P := P) w base K.S K.T i0 K.z K.k K.und hi hz0 hz1 .i64 .i64 c hB (by unfold maxLen; omega) hbase
  refine wpList_value hw _ w' ?_ (h _ w' h1 ((Below.refl _ w).grown h2 (Nat.le_refl _) (fun k e => by cases e)) (fun q => by cases q) h2)
  unfold execOp
  simp only [ho, hx, hy, hr, Sem.run_bind, Sem.run_pure, Result.andThen_ok]
end
end Go.Proofs.Ytllcmapgigfgoaa
