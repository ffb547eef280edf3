/-
 Package clone: snaps.
-/
import Derived.Test.YtnancdbkmompdaaGreatRY
import Derived.Test.YtnancdbkmompdaaGreatRZ
import Derived.Test.YtnancdbkmompdaaGreatRcdR
namespace Go.Proofs.YtnancdbkmompdaaGreat
open Go.RowKit
set_option linter.unusedSimpArgs false
set_option linter.unusedVariables false
set_option maxRecDepth 100000
set_option maxHeartbeats 40000000
theorem Knd.row_set1 {P : Program} {α : Type} {K : Knd P α} (x : α) (i : Nat) (u : Value) (hi : i < K.k) : ∀ (l : List α) (j : Nat) (hj : j < l.length), K.enc x = (K.enc l[j]).set i u → K.row (l.set j x) = (K.row l).set (j * K.k + i) u
 | [], j, hj, _ => absurd hj (Nat.not_lt_zero _)
 | a :: l, 0, hj, h => by
  have h' : K.enc x = (K.enc a).set i u := h
  rw [List.set_cons_zero]
  unfold Knd.row
  rw [List.flatMap_cons, List.flatMap_cons, Nat.zero_mul, Nat.zero_add, List.set_append_left _ _ (by rw [K.len]; exact hi), h']
 | a :: l, j + 1, hj, h => by
  have ih := Knd.row_set1 x i u hi l j (by simpa using hj) h
  rw [List.set_cons_succ]
  unfold Knd.row at ih ⊢
  rw [List.flatMap_cons, List.flatMap_cons, ih, List.set_append_right _ _ (by rw [K.len, Nat.add_mul]; omega)]
  congr 2
  rw [K.len, Nat.add_mul]
  omega
theorem setCell_block1 {w : World} {g : Nat} {cur : Array Value} {T : TypeId} (h : w.heap[g]? = some (.cells cur T (0, 0))) (o : Nat) (u : Value) : (w.setCell ⟨g, o, none⟩ u).heap[g]? = some (.cells (cur.setIfInBounds o u) T (0, 0)) := by
 unfold World.setCell
 simp only [Array.getElem?_modify, h, if_true, Option.map_some]
 simp
theorem Knd.Own.put1 {P : Program} {α : Type} {K : Knd P α} {w : World} {base g n c : Nat} {l : List α} (h : K.Own w base (.slice (some ⟨g, 0, none⟩) n c) l) (j : Nat) (hj : j < l.length) (x : α) (i : Nat) (u : Value) (hi : i < K.k) (hx : K.enc x = (K.enc l[j]).set i u) :
  K.Own (w.setCell ⟨g, j * K.k + i, none⟩ u) base (.slice (some ⟨g, 0, none⟩) n c) (l.set j x) := by
 obtain ⟨h1, h2⟩ := h
 refine ⟨by rw [K.row_len, List.length_set], ?_⟩
 rcases h2 with ⟨h0, _⟩ | ⟨g', cap, cur, hv, hg, hh, hn, hm, hs, hx2⟩
 ·cases h0
 ·simp only [Value.slice.injEq, Option.some.injEq, Addr.mk.injEq, and_true, true_and] at hv
  obtain ⟨rfl, rfl, rfl⟩ := hv
  refine .inr ⟨g, _, _, by rw [List.length_set], hg, setCell_block1 hh _ _, by rw [List.length_set]; exact hn, hm, by rw [Array.size_setIfInBounds, hs], ?_⟩
  rw [List.length_set, Array.toList_setIfInBounds, Knd.row_set1 x i u hi l j hj hx, ← hx2, List.take_set]
/-- A cell is written over by what it held. -/
theorem Knd.Own.same1 {P : Program} {α : Type} {K : Knd P α} {w : World} {base g n c : Nat} {l : List α} (h : K.Own w base (.slice (some ⟨g, 0, none⟩) n c) l) (j : Nat) (hj : j < l.length) (i : Nat) (u : Value) (hi : i < K.k) (hu : (K.enc l[j])[i]? = some u) :
  K.Own (w.setCell ⟨g, j * K.k + i, none⟩ u) base (.slice (some ⟨g, 0, none⟩) n c) l := by
 have h' := h.put1 j hj l[j] i u hi (by
  apply List.ext_getElem?
  intro t
  rw [List.getElem?_set]
  split
  ·rename_i e
   subst e
   rw [if_pos (by rw [K.len]; exact hi), hu]
  ·rfl)
 rwa [List.set_getElem_self] at h'
def mkZ1 (x : Ses) (a : Option Addr) (m c : Nat) : Cls 6 := ⟨seE x (.slice a m c), rfl, by intro v hv; simp only [seE, List.mem_cons, List.not_mem_nil, or_false] at hv; rcases hv with rfl | rfl | rfl | rfl | rfl | rfl <;> rfl⟩
/-- A session's cells are written over: the names alone turn. -/
theorem KZ.put6 {w : World} {base g n c : Nat} {l : List (Cls 6)} (h : KZ.Own w base (.slice (some ⟨g, 0, none⟩) n c) l) (j : Nat) (hj : j < l.length) (x0 x1 x2 : Int) (x3 : ByteArray) (x4 : Int) (xs : List ByteArray) (v : Value) (a : Option Addr) (m d : Nat) (hl : l[j].cs = [.int .i64 x0, .int .i64 x1, .int .i64 x2, .string x3, .int .i64 x4, v]) :
  KZ.Own (w.setCells g (j * 6) [.int .i64 x0, .int .i64 x1, .int .i64 x2, .string x3, .int .i64 x4, .slice a m d]) base (.slice (some ⟨g, 0, none⟩) n c) (l.set j (mkZ1 (x0, x1, x2, x3, x4, xs) a m d)) := by
 have e : ∀ i : Nat, (KZ.enc l[j])[i]? = ([.int .i64 x0, .int .i64 x1, .int .i64 x2, .string x3, .int .i64 x4, v] : List Value)[i]? := fun i => by rw [← hl]; rfl
 have k : KZ.k = 6 := rfl
 have h0 := h.same1 j hj 0 (.int .i64 x0) (by omega) (e 0)
 have h1 := h0.same1 j hj 1 (.int .i64 x1) (by omega) (e 1)
 have h2 := h1.same1 j hj 2 (.int .i64 x2) (by omega) (e 2)
 have h3 := h2.same1 j hj 3 (.string x3) (by omega) (e 3)
 have h4 := h3.same1 j hj 4 (.int .i64 x4) (by omega) (e 4)
 have h5 := h4.put1 j hj (mkZ1 (x0, x1, x2, x3, x4, xs) a m d) 5 (.slice a m d) (by omega) (by
  show (mkZ1 (x0, x1, x2, x3, x4, xs) a m d).cs = l[j].cs.set 5 _
  rw [hl]
  rfl)
 exact h5
section
variable {ops : Array Oper} {o : Oper} {a : Act} {w : World} {K : Act → World → Prop} {Q : Exit → Act → World → Prop} {E : Prop}
theorem step_storeR {P : Program} (hw : Region.wanted o (yielded ops a.tmps) = true) (ty : TypeId) (x y : Operand) (ho : o.op = .store ty x y)
  (b t : Nat) (cells : Array Value) (hx : a.eval x = .pointer (some ⟨b, t, none⟩)) (hy : a.eval y = .agg cells)
  (ht : w.there b t cells.size) (hi : (P.info? ty).map (·.size) = some cells.size) (h1 : cells.all (·.oneCell') = true) (w2 : World) (hv : w.setCells b t cells.toList = w2)
  (h : K (a.put o.dst undef) w2) : if Region.wanted o (yielded ops a.tmps) = true then Oper.wp P o a w K Q else E := by
 rw [if_pos hw]
 exact wp_store_mid ty x y ho b t cells hx hy ht hi h1 (by rw [hv]; exact h)
end
theorem own_there {k : Nat} {K : Knd Tryz.prog (Cls k)} {w : World} {base g n c : Nat} {l : List (Cls k)} (h : K.Own w base (.slice (some ⟨g, 0, none⟩) n c) l) (hK : K.k = k) (j : Nat) (hj : j < l.length) : w.there g (j * K.k) K.k := fun i hi => by
 have hat := h.rd
 obtain ⟨h1, h2⟩ := h
 rcases h2 with ⟨h0, _⟩ | ⟨g', cap, cur, hv, hg, hh, hn, hm, hs, hx2⟩
 ·cases h0
 ·simp only [Value.slice.injEq, Option.some.injEq, Addr.mk.injEq, and_true, true_and] at hv
  obtain ⟨rfl, rfl, rfl⟩ := hv
  have hlt : j * K.k + i < cur.size := by
   have q1 : (j + 1) * K.k ≤ l.length * K.k := Nat.mul_le_mul_right _ hj
   have q2 : l.length * K.k ≤ c * K.k := Nat.mul_le_mul_right _ hn
   rw [Nat.add_mul] at q1
   rw [hs]
   omega
  refine ⟨?_, ?_⟩
  ·rw [cell_of_row w g (j * K.k + i) cur K.T (0, 0) hh, Array.getElem?_eq_getElem hlt]
   rfl
  ·unfold World.frozen?
   rw [hh]
   simp
/-- A row of a state's: its block has its type. -/
def RowO {k : Nat} (K : Knd Tryz.prog (Cls k)) {α : Type} (S : Shp α) (w : World) (v : Value) (l : List α) : Prop := ∃ rs, K.Own w 0 v rs ∧ RowIs K S w v rs l
/-- Blocks of the types that a state's rows have. -/
def StT (T : TypeId) : Prop := T = 3 ∨ T = 9 ∨ T = 71 ∨ T = 75 ∨ T = 49
/-- All blocks of such types are as they were. -/
def KeepT (w w' : World) : Prop := ∀ (k : Nat) (cs : Array Value) (T : TypeId) (fr : Nat × Nat), w.heap[k]? = some (Obj.cells cs T fr) → StT T → w'.heap[k]? = w.heap[k]?
theorem KeepT.own {k : Nat} {K : Knd Tryz.prog (Cls k)} {w w' : World} {v : Value} {l : List (Cls k)} (h : KeepT w w') (hT : StT K.T) (ho : K.Own w 0 v l) : K.Own w' 0 v l := ho.keepB fun i hi => by
 obtain ⟨_, cs, fr, q⟩ := ho.blk i hi
 exact h i cs K.T fr q hT
theorem KeepT.of_below {w w' : World} (h : Below w.heap.size w w') : KeepT w w' := fun k cs T fr q _ => h.block k (Array.getElem?_eq_some_iff.1 q).1
theorem KeepT.trans {w w1 w2 : World} (h : KeepT w w1) (k : KeepT w1 w2) : KeepT w w2 := fun i cs T fr q hT => (k i cs T fr ((h i cs T fr q hT).trans q) hT).trans (h i cs T fr q hT)
theorem KeepT.setRow {w : World} {b : Nat} {T : TypeId} {cs : List Value} (h : Bk w b T cs) (hT : ¬ StT T) (vs : Array Value) : KeepT w (w.setRow b vs) := fun k cs2 T2 fr q hT2 => (sx_setRow _ b vs).block k (by
 rintro rfl
 have h' : w.heap[k]? = _ := h
 rw [h'] at q
 simp only [Option.some.injEq, Obj.cells.injEq] at q
 exact hT (q.2.1 ▸ hT2))
theorem RowO.keepT {k : Nat} {K : Knd Tryz.prog (Cls k)} {α : Type} {S : Shp α} {w w' : World} {v : Value} {l : List α} (h : RowO K S w v l) (hk : KeepT w w') (hT : StT K.T) (hS : ∀ cs x, S.is w cs x → S.is w' cs x) : RowO K S w' v l := by
 obtain ⟨rs, h1, h2⟩ := h
 have h3 := hk.own hT h1
 exact ⟨rs, h3, h3.rd, h2.len, fun j a b => hS _ _ (h2.at' j a b)⟩
/-- A snap whose rows are a state's. -/
structure SnO (w : World) (v1 v2 v3 : Value) (x : Snp) : Prop where
 r1 : RowO KN numS w v1 x.1.2
 r2 : RowO KE enS w v2 x.2.1
 r3 : ∃ rs, KZ.Own w 0 v3 rs ∧ rs.length = x.2.2.length ∧ ∀ (j : Nat) (h1 : j < rs.length) (h2 : j < x.2.2.length), x.2.2[j].2.2.2.1.size ≤ maxLen ∧ ∃ u, rs[j].cs = seE x.2.2[j] u ∧ RowO KT txS w u x.2.2[j].2.2.2.2.2
theorem SnO.keepT {w w' : World} {v1 v2 v3 : Value} {x : Snp} (h : SnO w v1 v2 v3 x) (hk : KeepT w w') : SnO w' v1 v2 v3 x := by
 obtain ⟨rs, h1, h2, h3⟩ := h.r3
 exact ⟨h.r1.keepT hk (.inl rfl) (fun _ _ q => q), h.r2.keepT hk (.inr (.inr (.inl rfl))) (fun _ _ q => q), rs, hk.own (.inr (.inr (.inr (.inl rfl)))) h1, h2, fun j a b => by
  obtain ⟨q1, u, q2, q3⟩ := h3 j a b
  exact ⟨q1, u, q2, q3.keepT hk (.inr (.inl rfl)) (fun _ _ q => q)⟩⟩
theorem SnO.sn {w : World} {v1 v2 v3 : Value} {x : Snp} (h : SnO w v1 v2 v3 x) : snS.is w [.int .i64 x.1.1, v1, v2, v3] x := by
 obtain ⟨s1, _, h1⟩ := h.r1
 obtain ⟨s2, _, h2⟩ := h.r2
 obtain ⟨rs, k1, k2, k3⟩ := h.r3
 refine sn_mk h1 h2 (rs3 := rs) ⟨k1.rd, k2, fun j a b => ?_⟩
 obtain ⟨q1, u, q2, rn, _, q3⟩ := k3 j a b
 exact ⟨u, rn, q2, q1, q3⟩
theorem SnO.slices {w : World} {v1 v2 v3 : Value} {x : Snp} (h : SnO w v1 v2 v3 x) : ∃ (a1 : Option Addr) (c1 : Nat) (a2 : Option Addr) (c2 : Nat) (a3 : Option Addr) (c3 : Nat), v1 = .slice a1 x.1.2.length c1 ∧ v2 = .slice a2 x.2.1.length c2 ∧ v3 = .slice a3 x.2.2.length c3 := by
 obtain ⟨s1, o1, h1⟩ := h.r1
 obtain ⟨s2, o2, h2⟩ := h.r2
 obtain ⟨rs, k1, k2, k3⟩ := h.r3
 obtain ⟨a1, c1, e1⟩ := o1.slice
 obtain ⟨a2, c2, e2⟩ := o2.slice
 obtain ⟨a3, c3, e3⟩ := k1.slice
 exact ⟨a1, c1, a2, c2, a3, c3, by rw [e1, h1.len], by rw [e2, h2.len], by rw [e3, k2]⟩
def CSn (x : Snp) (w : World) (e : Ending) (w' : World) : Prop := ∃ v1 v2 v3 : Value, Hid (e = .returned (.agg #[.int .i64 x.1.1, v1, v2, v3])) ∧ (∀ w'' : World, (∀ k, w.heap.size ≤ k → k < w'.heap.size → w''.heap[k]? = w'.heap[k]?) → SnO w'' v1 v2 v3 x) ∧ Below w.heap.size w w'
theorem own_far {k m : Nat} {K : Knd Tryz.prog (Cls k)} {M : Knd Tryz.prog (Cls m)} {w : World} {N B g n c : Nat} {v : Value} {l : List (Cls k)} {ks : List (Cls m)} (h : K.Own w N v l) (h2 : M.Own w B (.slice (some ⟨g, 0, none⟩) n c) ks) (hT : M.T ≠ K.T) (o : Nat) (vs : List Value) : K.Own (w.setCells g o vs) N v l :=
 h.keepB fun i hi => sets_far (fun e => by
  obtain ⟨_, cs, fr, q⟩ := h.blk i hi
  obtain ⟨_, cs2, fr2, q2⟩ := h2.blk g rfl
  rw [e, q2] at q
  simp only [Option.some.injEq, Obj.cells.injEq] at q
  exact hT q.2.1) vs o w
theorem own_some {k : Nat} {K : Knd Tryz.prog (Cls k)} {w : World} {N m c : Nat} {a : Option Addr} {l : List (Cls k)} (h : K.Own w N (.slice a m c) l) (hm : 0 < m) : m = l.length ∧ ∃ g, a = some ⟨g, 0, none⟩ ∧ N ≤ g := by
 rcases h.2 with ⟨e, e2⟩ | ⟨g, cap, cur, hv, hg, _⟩
 ·simp only [Value.slice.injEq] at e
  omega
 ·simp only [Value.slice.injEq] at hv
  exact ⟨hv.2.1, g, hv.1, hg⟩
theorem own_cell {k : Nat} {K : Knd Tryz.prog (Cls k)} (hE : K.enc = Cls.cs) {w : World} {N g m c : Nat} {l : List (Cls k)} (h : K.Own w N (.slice (some ⟨g, 0, none⟩) m c) l) (j : Nat) (hj : j < l.length) (i : Nat) (u : Value) (hu : l[j].cs[i]? = some u) : w.cell? ⟨g, j * K.k + i, none⟩ = some u := by
 obtain ⟨hm, g', off, ha, _, hc⟩ := h.rd.at (by intro e; subst e; simp at hj)
 simp only [Option.some.injEq, Addr.mk.injEq, and_true] at ha
 obtain ⟨rfl, rfl⟩ := ha
 have := hc j (by omega) i u (by rw [hE]; rw [List.getD_eq_getElem?_getD, List.getElem?_eq_getElem hj]; exact hu)
 simpa using this
/-- The rows of a snap while it is cloned. -/
structure CI (w wr : World) (n0 : Int) (m1 m2 m3 : Nat) (cs : List Value) : Prop where
 bx : Bk wr w.heap.size 28 cs
 bz : Bk wr (w.heap.size + 1) 28 [.int .i64 0, .slice none 0 0, .slice none 0 0, .slice none 0 0]
 hb : Below w.heap.size w wr
 hs : w.heap.size + 2 ≤ wr.heap.size
theorem CI.under {w wr w1 : World} {n0 : Int} {m1 m2 m3 : Nat} {cs : List Value} (h : CI w wr n0 m1 m2 m3 cs) (hb : Below wr.heap.size wr w1) : CI w w1 n0 m1 m2 m3 cs := ⟨h.bx.below hb, h.bz.below hb, h.hb.trans (hb.mono h.hb.size), Nat.le_trans h.hs hb.size⟩
theorem CI.set {w wr : World} {n0 : Int} {m1 m2 m3 : Nat} {cs : List Value} (h : CI w wr n0 m1 m2 m3 cs) (j : Nat) (u : Value) : CI w (wr.setCell ⟨w.heap.size, j, none⟩ u) n0 m1 m2 m3 (cs.set j u) := ⟨h.bx.set j u, h.bz.other (by omega) j u, h.hb.setCell (Nat.le_refl _) u, by simpa using h.hs⟩
theorem CI.far {w wr : World} {n0 : Int} {m1 m2 m3 : Nat} {cs : List Value} (h : CI w wr n0 m1 m2 m3 cs) {g : Nat} (hg : w.heap.size + 2 ≤ g) (o : Nat) (vs : List Value) : CI w (wr.setCells g o vs) n0 m1 m2 m3 cs := ⟨(sets_far (by omega) _ _ _).trans h.bx, (sets_far (by omega) _ _ _).trans h.bz, sets_below (by omega) _ _ _ h.hb, by
 have := (sets_below (b := g) (B := 0) (Nat.zero_le _) vs o wr (Below.refl _ _)).size
 exact Nat.le_trans h.hs this⟩
theorem below_dr (w : World) (B : Nat) : Below B w w.drew := ⟨rfl, rfl, rfl, Nat.le_refl _, fun _ _ => rfl⟩
theorem own_setA {k : Nat} {K : Knd Tryz.prog (Cls k)} {w : World} {N : Nat} {v : Value} {l : List (Cls k)} (h : K.Own w N v l) {b : Nat} (hb : b < N) (j : Nat) (u : Value) : K.Own (w.setCell ⟨b, j, none⟩ u) N v l :=
 h.keepB fun i hi => Below.heap_setCell _ _ _ _ (by have := h.from i hi; show i ≠ b; omega)
theorem csnap (x : Snp) (ca : Array Value) (w : World) (h : snS.is w ca.toList x) (hN : Sn6 x) : Calls Tryz.prog 41 #[.agg ca] w (CSn x w) := by
 obtain ⟨a1, m1, c1, rs1, a2, m2, c2, rs2, a3, m3, c3, rs3, hcs, k1, k2, k3⟩ := sn_is h
 obtain ⟨⟨n0, l1⟩, l2, l3⟩ := x
 obtain rfl : ca = #[.int .i64 n0, .slice a1 m1 c1, .slice a2 m2 c2, .slice a3 m3 c3] := by
  cases ca
  simpa [snV] using hcs
 have e1 : m1 = rs1.length := by obtain ⟨_, _, e⟩ := k1.rd.slice; simp only [Value.slice.injEq] at e; exact e.2.1
 have e2 : m2 = rs2.length := by obtain ⟨_, _, e⟩ := k2.rd.slice; simp only [Value.slice.injEq] at e; exact e.2.1
 have e3 : m3 = rs3.length := by obtain ⟨_, _, e⟩ := k3.rd.slice; simp only [Value.slice.injEq] at e; exact e.2.1
 have q1 : rs1.length ≤ 1000000 := by rw [k1.len]; exact hN.a
 have q2 : rs2.length ≤ 1000000 := by rw [k2.len]; exact hN.b
 have q3 : rs3.length ≤ 1000000 := by rw [k3.len]; exact hN.c
 obtain ⟨X, hX⟩ : ∃ X, (w.alloc (.cells #[.int .i64 n0, .slice a1 m1 c1, .slice a2 m2 c2, .slice a3 m3 c3] 28)).alloc (.cells #[.int .i64 0, .slice none 0 0, .slice none 0 0, .slice none 0 0] 28) = X := ⟨_, rfl⟩
 have hI : CI w X n0 m1 m2 m3 [.int .i64 n0, .slice a1 m1 c1, .slice a2 m2 c2, .slice a3 m3 c3] := by
  refine ⟨by rw [← hX]; exact (Bk.new w _ _).old _, by rw [← hX]; have := Bk.new (w.alloc (.cells #[.int .i64 n0, .slice a1 m1 c1, .slice a2 m2 c2, .slice a3 m3 c3] 28)) 28 [.int .i64 0, .slice none 0 0, .slice none 0 0, .slice none 0 0]; rwa [World.size_alloc] at this, by rw [← hX]; exact ((Below.refl _ _).alloc (Nat.le_refl _) _).alloc (by simp) _, by rw [← hX]; simp⟩
 have HI := Hd hI
 have y0 := hI.bx.cell 0
 have y1 := hI.bx.cell 1
 simp only [gB] at y0 y1
 have K1 := Hd k1
 have K2 := Hd k2
 have K3 := Hd k3
 have E1 := Hd e1
 have E2 := Hd e2
 have E3 := Hd e3
 have Q1 := Hd q1
 have Q2 := Hd q2
 have Q3 := Hd q3
 have HN := Hd hN
 clear h hcs k1 k2 k3 hI e1 e2 e3 q1 q2 q3 hN
 go_enter Tryz.func41, Tryz.ntmps41
 go_wp2_with fail
 refine (cconf n0 (.slice a1 m1 c1) rs1 X (K1.out.rd.below HI.out.hb) Q1.out).mono ?_
 rintro e w1 ⟨b1, d1, he, ho, hb⟩
 rw [← E1.out] at he ho
 rw [he.out]
 have HTh := Hd ((HI.out.under hb).bx.there 0 2 (Nat.le_of_ble_eq_true rfl))
 obtain ⟨v1, hv1⟩ : ∃ q, w1.setCells w.heap.size 0 [.int .i64 n0, .slice b1 m1 d1] = q := ⟨_, rfl⟩
 have hJ := ((HI.out.under hb).set 0 (.int .i64 n0)).set 1 (.slice b1 m1 d1)
 have hO := own_setA (own_setA (ho.base (show (w.heap.size + 2) ≤ X.heap.size from HI.out.hs)) (b := w.heap.size) (by omega) 0 (.int .i64 n0)) (b := w.heap.size) (by omega) 1 (.slice b1 m1 d1)
 simp only [List.set_cons_zero, List.set_cons_succ] at hJ
 replace hJ : CI w (w1.setCells w.heap.size 0 [.int .i64 n0, .slice b1 m1 d1]) n0 m1 m2 m3 [.int .i64 n0, .slice b1 m1 d1, .slice a2 m2 c2, .slice a3 m3 c3] := hJ
 replace hO : KN.Own (w1.setCells w.heap.size 0 [.int .i64 n0, .slice b1 m1 d1]) (w.heap.size + 2) (.slice b1 m1 d1) rs1 := hO
 rw [hv1] at hJ hO
 have HJ := Hd hJ
 have HO1 := Hd hO
 have HV := Hd hv1
 have y2 := hJ.bx.cell 2
 simp only [gB] at y2
 clear hX HI he ho hb hv1 hJ hO y0 y1
 go_wp2_with (refine wpList_store_nm rfl 24 _ _ rfl w.heap.size 0 #[.int .i64 n0, .slice b1 m1 d1] rfl rfl HTh.out (by kernel_rfl) (by rw [← Array.all_toList]; rfl) HV.out ?_)
 refine (clE (.slice a2 m2 c2) rs2 v1 (K2.out.rd.below HJ.out.hb) Q2.out).mono ?_
 rintro e w2 ⟨b2, d2, he, ho, hb⟩
 rw [← E2.out] at he ho
 rw [he.out]
 have hK := HJ.out.under hb
 have y2 := hK.bx.cell 2
 have z2 := hK.bx.fz 2
 simp only [gB] at y2
 obtain ⟨v2, hv2⟩ : ∃ q, w2.setCell ⟨w.heap.size, 2, none⟩ (.slice b2 m2 d2) = q := ⟨_, rfl⟩
 have hL := hK.set 2 (.slice b2 m2 d2)
 have hO1 := own_setA (HO1.out.below hb) (b := w.heap.size) (by omega) 2 (.slice b2 m2 d2)
 have hO2 := own_setA (ho.base (show (w.heap.size + 2) ≤ v1.heap.size from HJ.out.hs)) (b := w.heap.size) (by omega) 2 (.slice b2 m2 d2)
 simp only [List.set_cons_zero, List.set_cons_succ] at hL
 rw [hv2] at hL hO1 hO2
 have HL := Hd hL
 have HP1 := Hd hO1
 have HP2 := Hd hO2
 have y3 := hL.bx.cell 3
 simp only [gB] at y3
 clear HJ HO1 HV HTh he ho hb hK hL hO1 hO2
 go_wp2_with fail
 refine (clZ (.slice a3 m3 c3) rs3 v2 (K3.out.rd.below HL.out.hb) Q3.out).mono ?_
 rintro e w3 ⟨b3, d3, he, ho, hb⟩
 rw [← E3.out] at he ho
 rw [he.out]
 have hK := HL.out.under hb
 have x3 := hK.bx.cell 3
 have z3 := hK.bx.fz 3
 simp only [gB] at x3
 obtain ⟨v3, hv3⟩ : ∃ q, w3.setCell ⟨w.heap.size, 3, none⟩ (.slice b3 m3 d3) = q := ⟨_, rfl⟩
 have hM := hK.set 3 (.slice b3 m3 d3)
 have hO1 := own_setA (HP1.out.below hb) (b := w.heap.size) (by omega) 3 (.slice b3 m3 d3)
 have hO2 := own_setA (HP2.out.below hb) (b := w.heap.size) (by omega) 3 (.slice b3 m3 d3)
 have hO3 := own_setA (ho.base (show (w.heap.size + 2) ≤ v2.heap.size from HL.out.hs)) (b := w.heap.size) (by omega) 3 (.slice b3 m3 d3)
 simp only [List.set_cons_zero, List.set_cons_succ] at hM
 rw [hv3] at hM hO1 hO2 hO3
 have HM := Hd hM
 have HO1 := Hd hO1
 have HO2 := Hd hO2
 have HO3 := Hd hO3
 have t3 := hM.bx.cell 3
 simp only [gB] at t3
 clear HL HP1 HP2 he ho hb hK hM hO1 hO2 hO3 y2 z2 y3 hv2
 go_wp2_with fail
 clear hv3 x3 z3 t3
 go_loopw [19] (fun i wr => ∃ (k : Nat) (rk : List (Cls 6)), k ≤ m3 ∧ i = .int .i64 k ∧ Hid (CI w wr n0 m1 m2 m3 [.int .i64 n0, .slice b1 m1 d1, .slice b2 m2 d2, .slice b3 m3 d3]) ∧ Hid (KN.Own wr (w.heap.size + 2) (.slice b1 m1 d1) rs1) ∧ Hid (KE.Own wr (w.heap.size + 2) (.slice b2 m2 d2) rs2) ∧ Hid (KZ.Own wr (w.heap.size + 2) (.slice b3 m3 d3) rk) ∧ Hid (rk.length = rs3.length) ∧ Hid (∀ (j : Nat) (h1 : j < rk.length) (h2 : j < rs3.length) (h3 : j < l3.length), (k ≤ j → rk[j] = rs3[j]) ∧ (j < k → ∃ (a : Option Addr) (c : Nat) (rn : List (Cls 1)), rk[j] = mkZ1 l3[j] a rn.length c ∧ KT.Own wr (w.heap.size + 2) (.slice a rn.length c) rn ∧ rn.length = l3[j].2.2.2.2.2.length ∧ l3[j].2.2.2.1.size ≤ maxLen ∧ ∀ (i : Nat) (p : i < rn.length) (q : i < l3[j].2.2.2.2.2.length), txS.is w rn[i].cs l3[j].2.2.2.2.2[i]))) (fun i _ => m3 - (intOf i).toNat)
 case atStart => exact ⟨0, rs3, Nat.zero_le _, rfl, HM, HO1, HO2, HO3, Hd rfl, Hd (fun j h1 h2 h3 => ⟨fun _ => rfl, fun h => absurd h (Nat.not_lt_zero _)⟩)⟩
 case round =>
  clear HM HO1 HO2 HO3
  obtain ⟨k, rk, hk, rfl, HI, HO1, HO2, HO3, HRl, HEl⟩ := hrel
  have y3 := HI.out.bx.cell 3
  simp only [gB] at y3
  by_cases hlt : k < m3
  ·have g1 : (k : Int) < (m3 : Int) := by omega
   have g2 : decide ((k : Int) < (m3 : Int)) = true := decide_eq_true g1
   have g3 : decide (k < m3) = true := decide_eq_true hlt
   obtain ⟨hmr, g, hg, hgb⟩ := own_some HO3.out (by omega)
   subst hg
   have hkr : k < rk.length := by omega
   have hk3 : k < rs3.length := by rw [← HRl.out]; exact hkr
   have hkl : k < l3.length := by rw [← K3.out.len]; exact hk3
   have hel := K3.out.at' k hk3 hkl
   have hre := (HEl.out k hkr hk3 hkl).1 (Nat.le_refl _)
   obtain ⟨x, hx⟩ : ∃ x, l3[k] = x := ⟨_, rfl⟩
   rw [hx] at hel
   have hnm := HN.out.d _ (List.getElem_mem hkl)
   rw [hx] at hnm
   obtain ⟨x0, x1, x2, x3, x4, xs⟩ := x
   obtain ⟨vn, rn, hcs, hsz, hrn⟩ := hel
   obtain ⟨an, cn, hvn⟩ := hrn.rd.slice
   obtain ⟨mn, hmn⟩ : ∃ q, rn.length = q := ⟨_, rfl⟩
   rw [hmn] at hvn
   subst hvn
   have hcs2 : rk[k].cs = [.int .i64 x0, .int .i64 x1, .int .i64 x2, .string x3, .int .i64 x4, .slice an mn cn] := by rw [hre]; exact hcs
   have hc := fun i u hu => own_cell (K := KZ) rfl HO3.out k hkr i u hu
   rw [hcs2] at hc
   have c0 : wr.cell? ⟨g, k * 6, none⟩ = some (.int .i64 x0) := by have := hc 0 _ rfl; simpa [KZ, rawK] using this
   have c1 : wr.cell? ⟨g, k * 6 + 1, none⟩ = some (.int .i64 x1) := by have := hc 1 _ rfl; simpa [KZ, rawK] using this
   have c2 : wr.cell? ⟨g, k * 6 + 2, none⟩ = some (.int .i64 x2) := by have := hc 2 _ rfl; simpa [KZ, rawK] using this
   have c3 : wr.cell? ⟨g, k * 6 + 3, none⟩ = some (.string x3) := by have := hc 3 _ rfl; simpa [KZ, rawK] using this
   have c4 : wr.cell? ⟨g, k * 6 + 4, none⟩ = some (.int .i64 x4) := by have := hc 4 _ rfl; simpa [KZ, rawK] using this
   have c5 : wr.cell? ⟨g, k * 6 + 5, none⟩ = some (.slice an mn cn) := by have := hc 5 _ rfl; simpa [KZ, rawK] using this
   have HC := Hd (csess x0 x1 x2 x3 x4 (.slice an mn cn) rn wr.drew (hrn.rd.below (HI.out.hb.trans (below_dr wr w.heap.size))) (by rw [hrn.len]; exact hnm))
   have HCs := Hd hcs2
   have HXk := Hd hx
   have HRn := Hd hrn
   have HMn := Hd hmn
   have HSz := Hd hsz
   have HKr := Hd hkr
   have HKl := Hd hkl
   have HK3 := Hd hk3
   have HLt := Hd hlt
   have HGb := Hd hgb
   have m5 := kw_wrap hlt (by have := Q3.out; rw [← E3.out] at this; omega)
   have ydr := y3
   clear hc hcs hcs2 hrn hmn hsz hnm hmr hre hgb hk hlt hx hk3
   go_upto_region 7 with fail
   refine wp_region_held_drew (S := (fun w' => w'.cell? ⟨w.heap.size, 3, none⟩ = some (.slice (some ⟨g, 0, none⟩) m3 d3))) (by kernel_rfl) ?_ (fun hHeld => ?_)
   ·(first | exact c7 | exact c8 | exact y3 | exact ydr)
   refine tkA 0 (v := ?_) ?_ ?_
   rotate_left
   ·(intro w hSw; (try dsimp only at hSw); go_simp; try rfl)
   try simp only [Act.put, gA]
   refine tkA 1 (v := ?_) ?_ ?_
   rotate_left
   ·(intro w hSw; (try dsimp only at hSw); go_simp; try rfl)
   try simp only [Act.put, gA]
   refine tkA 2 (v := ?_) ?_ ?_
   rotate_left
   ·(intro w hSw; (try dsimp only at hSw); go_simp; try rfl)
   try simp only [Act.put, gA]
   refine tkA 3 (v := ?_) ?_ ?_
   rotate_left
   ·(intro w hSw; (try dsimp only at hSw); go_simp; try rfl)
   try simp only [Act.put, gA]
   refine tkA 4 (v := ?_) ?_ ?_
   rotate_left
   ·(intro w hSw; (try dsimp only at hSw); go_simp; try rfl)
   try simp only [Act.put, gA]
   refine tkA 5 (v := ?_) ?_ ?_
   rotate_left
   ·(intro w hSw; (try dsimp only at hSw); go_simp; try rfl)
   try simp only [Act.put, gA]
   refine tkA 6 (v := ?_) ?_ ?_
   rotate_left
   ·(intro w hSw; (try dsimp only at hSw); go_simp; try rfl)
   try simp only [Act.put, gA]
   refine wpAnyH_ready (rs := [7]) (by kernel_rfl) (by simp) ?_
   refine (AllReadyH.cons rfl (fun K hK => ?_) AllReadyH.nil)
   go_simp
   refine hK.out _ _ ?_ (fun hHeld => ?_)
   ·(first | exact c7 | exact c8 | exact y3 | exact ydr)
   clear hK K
   try simp only [Act.put, gA]
   refine wpAnyH_ready (rs := [8]) (by kernel_rfl) (by simp) ?_
   refine (AllReadyH.cons rfl (fun K hK => ?_) AllReadyH.nil)
   go_simp
   (refine HC.out.mono ?_; rintro e w5 ⟨a6, c6, he, ho, hb⟩; rw [HMn.out] at he ho; rw [he.out]; have hb : Below wr.heap.size wr w5 := (below_dr wr wr.heap.size).trans hb; have HI5 := Hd (HI.out.under hb); have HO15 := Hd (HO1.out.below hb); have HO25 := Hd (HO2.out.below hb); have HO35 := Hd (HO3.out.below hb); have HNo := Hd (ho.base (show (w.heap.size + 2) ≤ wr.drew.heap.size from HI.out.hs)); have HBd := Hd hb; have c8 := HI5.out.bx.cell 3; simp only [gB] at c8; clear he ho hb)
   refine hK.out _ _ ?_ (fun hHeld => ?_)
   ·(first | exact c7 | exact c8 | exact y3 | exact ydr)
   clear hK K
   try simp only [Act.put, gA]
   refine tkA 9 (v := ?_) ?_ ?_
   rotate_left
   ·(intro w hSw; (try dsimp only at hSw); go_simp; try rfl)
   try simp only [Act.put, gA]
   refine wpAnyH_ready (rs := [10]) (by kernel_rfl) (by simp) ?_
   refine (AllReadyH.cons rfl (fun K hK => ?_) AllReadyH.nil)
   obtain ⟨v6, hv6⟩ : ∃ q, w5.setCells g (k * 6) [.int .i64 x0, .int .i64 x1, .int .i64 x2, .string x3, .int .i64 x4, .slice a6 mn c6] = q := ⟨_, rfl⟩
   have hth := own_there HO35.out rfl k HKr.out
   have hI7 := HI5.out.far (g := g) HGb.out (k * 6) [.int .i64 x0, .int .i64 x1, .int .i64 x2, .string x3, .int .i64 x4, .slice a6 mn c6]
   have hP1 := own_far HO15.out HO35.out (by decide) (k * 6) [.int .i64 x0, .int .i64 x1, .int .i64 x2, .string x3, .int .i64 x4, .slice a6 mn c6]
   have hP2 := own_far HO25.out HO35.out (by decide) (k * 6) [.int .i64 x0, .int .i64 x1, .int .i64 x2, .string x3, .int .i64 x4, .slice a6 mn c6]
   have hP3 := KZ.put6 HO35.out k HKr.out x0 x1 x2 x3 x4 xs _ a6 mn c6 HCs.out
   rw [hv6] at hI7 hP1 hP2 hP3
   have hkT : ∀ (v : Value) (q : List (Cls 1)), KT.Own w5 (w.heap.size + 2) v q → KT.Own v6 (w.heap.size + 2) v q := fun v q hq => by rw [← hv6]; exact own_far hq HO35.out (by decide) (k * 6) _
   have HI7 := Hd hI7
   have HP1 := Hd hP1
   have HP2 := Hd hP2
   have HP3 := Hd hP3
   have HKT := Hd hkT
   have c7 := hI7.bx.cell 3
   simp only [gB] at c7
   refine step_storeR (by rfl) 75 _ _ rfl g (k * 6) #[.int .i64 x0, .int .i64 x1, .int .i64 x2, .string x3, .int .i64 x4, .slice a6 mn c6] (by first | rfl | (simp [Act.eval])) rfl hth (by kernel_rfl) (by rw [← Array.all_toList]; rfl) v6 hv6 ?_
   clear hth hI7 hP1 hP2 hP3 hkT hv6
   refine hK.out _ _ ?_ (fun hHeld => ?_)
   ·(first | exact c7 | exact c8 | exact y3 | exact ydr)
   clear hK K
   try simp only [Act.put, gA]
   refine wpAnyH_done (by kernel_rfl) ?_ _
   clear hHeld
   go_wp2_with fail
   go_roundw
   case rel =>
    refine ⟨k + 1, rk.set k (mkZ1 (x0, x1, x2, x3, x4, xs) a6 mn c6), HLt.out, (by first | rfl | (rw [m5]; rfl)), HI7, HP1, HP2, HP3, Hd (by rw [List.length_set]; exact HRl.out), Hd (fun j h1 h2 h3 => ⟨fun hj => ?_, fun hj => ?_⟩)⟩
    ·have h1' : j < rk.length := by rw [List.length_set] at h1; exact h1
     rw [List.getElem_set_ne (by omega)]
     exact (HEl.out j h1' h2 h3).1 (by omega)
    ·have h1' : j < rk.length := by rw [List.length_set] at h1; exact h1
     by_cases e : k = j
     ·subst e
      refine ⟨a6, c6, rn, ?_, ?_, ?_, ?_, fun i p q => ?_⟩
      ·rw [List.getElem_set_self, HXk.out, HMn.out]
      ·rw [HMn.out]
       exact HKT.out _ _ HNo.out
      ·rw [HXk.out]
       exact HRn.out.len
      ·rw [HXk.out]
       exact HSz.out
      ·have := HRn.out.at' i p (by have := q; rw [HXk.out] at this; exact this)
       simpa only [HXk.out] using this
     ·rw [List.getElem_set_ne e]
      obtain ⟨a, c, rm, q1, q2, q3, q4, q5⟩ := (HEl.out j h1' h2 h3).2 (by omega)
      exact ⟨a, c, rm, q1, HKT.out _ _ (q2.below HBd.out), q3, q4, q5⟩
   case measure => (try rw [m5]); exact kw_meas HLt.out
  ·have g1 : ¬ (k : Int) < (m3 : Int) := by omega
   have g2 : decide ((k : Int) < (m3 : Int)) = false := decide_eq_false g1
   have g3 : decide (k < m3) = false := decide_eq_false hlt
   have hk2 : k = m3 := by omega
   have HK := Hd hk2
   clear hlt hk hk2 y3
   have HX := Hd HI.out.bx
   have HZ := Hd HI.out.bz
   have HXi : Hid ((Tryz.prog.info? 28).map (·.size) = some 4) := Hd (by kernel_rfl)
   have hBf : Below w.heap.size w (wr.setRow (w.heap.size + 1) #[.int .i64 n0, .slice b1 m1 d1, .slice b2 m2 d2, .slice b3 m3 d3]) := below_setRow HI.out.hb (by omega) _
   have hkp : ∀ i, (w.heap.size + 2) ≤ i → (wr.setRow (w.heap.size + 1) #[.int .i64 n0, .slice b1 m1 d1, .slice b2 m2 d2, .slice b3 m3 d3]).heap[i]? = wr.heap[i]? := fun i hi => (sx_setRow _ (w.heap.size + 1) #[.int .i64 n0, .slice b1 m1 d1, .slice b2 m2 d2, .slice b3 m3 d3]).block i (by omega)
   have hsz : (wr.setRow (w.heap.size + 1) #[.int .i64 n0, .slice b1 m1 d1, .slice b2 m2 d2, .slice b3 m3 d3]).heap.size = wr.heap.size := (sx_setRow _ (w.heap.size + 1) #[.int .i64 n0, .slice b1 m1 d1, .slice b2 m2 d2, .slice b3 m3 d3]).size
   have hS : ∀ w'' : World, (∀ i, w.heap.size ≤ i → i < (wr.setRow (w.heap.size + 1) #[.int .i64 n0, .slice b1 m1 d1, .slice b2 m2 d2, .slice b3 m3 d3]).heap.size → w''.heap[i]? = (wr.setRow (w.heap.size + 1) #[.int .i64 n0, .slice b1 m1 d1, .slice b2 m2 d2, .slice b3 m3 d3]).heap[i]?) → SnO w'' (.slice b1 m1 d1) (.slice b2 m2 d2) (.slice b3 m3 d3) ((n0, l1), l2, l3) := fun w'' hw => by
    have hk2 : ∀ {k : Nat} {K : Knd Tryz.prog (Cls k)} {v : Value} {l : List (Cls k)}, K.Own wr (w.heap.size + 2) v l → K.Own w'' (w.heap.size + 2) v l := fun h => h.keepB (fun i hi => (hw i (by have := h.from i hi; omega) (by rw [hsz]; exact (h.blk i hi).1)).trans (hkp i (h.from i hi)))
    refine ⟨⟨rs1, (hk2 HO1.out).base (Nat.zero_le _), (hk2 HO1.out).rd, K1.out.len, fun j h1 h2 => K1.out.at' j h1 h2⟩, ⟨rs2, (hk2 HO2.out).base (Nat.zero_le _), (hk2 HO2.out).rd, K2.out.len, fun j h1 h2 => K2.out.at' j h1 h2⟩, rk, (hk2 HO3.out).base (Nat.zero_le _), HRl.out.trans K3.out.len, fun j h1 h2 => ?_⟩
    have h3 : j < rs3.length := by rw [← HRl.out]; exact h1
    obtain ⟨a, c, rn, q1, q2, q3, q4, q5⟩ := (HEl.out j h1 h3 h2).2 (by rw [HK.out, E3.out]; exact h3)
    exact ⟨q4, .slice a rn.length c, (by rw [q1]; rfl), rn, (hk2 q2).base (Nat.zero_le _), (hk2 q2).rd, q3, fun i p q => q5 i p q⟩
   have HF : Hid (CSn ((n0, l1), l2, l3) w (.returned (.agg #[.int .i64 n0, .slice b1 m1 d1, .slice b2 m2 d2, .slice b3 m3 d3])) (wr.setRow (w.heap.size + 1) #[.int .i64 n0, .slice b1 m1 d1, .slice b2 m2 d2, .slice b3 m3 d3])) := Hd ⟨_, _, _, rfl, hS, hBf⟩
   have HLv := Hd (run_loadVar_row (wr.setRow (w.heap.size + 1) #[.int .i64 n0, .slice b1 m1 d1, .slice b2 m2 d2, .slice b3 m3 d3]) _ _ _ #[.int .i64 n0, .slice b1 m1 d1, .slice b2 m2 d2, .slice b3 m3 d3] (0, 0) _ (heap_setRow_same _ _ #[.int .i64 0, .slice none 0 0, .slice none 0 0, .slice none 0 0] #[.int .i64 n0, .slice b1 m1 d1, .slice b2 m2 d2, .slice b3 m3 d3] _ HZ.out) Tryz.underlying28 rfl HXi.out)
   clear hBf hkp hS hsz
   go_wp2_with (first | (refine wpList_load_row rfl _ _ rfl w.heap.size rfl 28 #[.int .i64 n0, .slice b1 m1 d1, .slice b2 m2 d2, .slice b3 m3 d3] (0, 0) _ HX.out Tryz.underlying28 rfl HXi.out ?_) | (refine wpList_store_row rfl 28 _ _ rfl (w.heap.size + 1) rfl #[.int .i64 n0, .slice b1 m1 d1, .slice b2 m2 d2, .slice b3 m3 d3] rfl #[.int .i64 0, .slice none 0 0, .slice none 0 0, .slice none 0 0] 28 HZ.out HXi.out rfl (by rw [← Array.all_toList]; rfl) ?_))
   have hlv := HLv.out
   exact bodyPost_ret (v := .agg #[.int .i64 n0, .slice b1 m1 d1, .slice b2 m2 d2, .slice b3 m3 d3]) (by simp [results, Tryz.results41, asAddr, Act.put, hlv]) rfl HF.out
end Go.Proofs.YtnancdbkmompdaaGreat
