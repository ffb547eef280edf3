/-
  What keeps a machine while a command is done.
-/
import Derived.Test.YtbebjpfbbidaiaaGreatSes5
namespace Go.Proofs.YtbebjpfbbidaiaaGreat
open Go.RowKit Go.Sort
open Go.WideMaps
set_option linter.unusedSimpArgs false
set_option linter.unusedVariables false

theorem step_map {H : Type} {P : Program} {ops : Array Oper} {o : Oper} {a : Act} {w : World} {K : Act → World → Prop} {Q : Exit → Act → World → Prop} {E : Prop} (hw : Region.wanted o (yielded ops a.tmps) = true) (m x v : Operand) (t : TypeId) (hop : o.op = Op.mapUpdate t m x v)
    (k e : TypeId) (Kd : Go.Maps.Keyed P k) (ht : P.underlying t = some (.map k e)) (R : Value → Option (DataW H × List MemPlace)) (b n : Nat) (D : DataW H)
    (hm : a.eval m = .map (some b)) (hown : w.ownsMap P k R b n D) (hn : n < maxLen) (key val : Value) (kl : Lit) (hx : a.eval x = key) (hv : a.eval v = val) (hkey : keyOf P k key = some kl)
    (d : DataW H) (ps : List MemPlace) (hval : R val = some (d, ps))
    (hK : ∀ w', w'.ownsMap P k R b (n + 1) (D.put kl d) → w.grownBy w' (some b) → K (a.put o.dst undef) w') : if Region.wanted o (yielded ops a.tmps) = true then Oper.wp P o a w K Q else E := by
  rw [if_pos hw]
  obtain ⟨w', hrun, r1, r2⟩ := hown.update Kd ht hn hkey hval
  unfold Oper.wp
  simp [execOp, hop, hm, hx, hv, hrun, Result.andThen]
  exact hK w' r1 r2
/-- All that was there is, but two blocks. -/
structure Gr2 (w w' : World) (b1 b2 : Nat) : Prop where
  os : w'.os = w.os
  tape : w'.tape = w.tape
  output : w'.output = w.output
  size : w.heap.size ≤ w'.heap.size
  block : ∀ k, k < w.heap.size → k ≠ b1 → k ≠ b2 → w'.heap[k]? = w.heap[k]?
theorem Gr2.two {w w' : World} {b1 b2 : Nat} (h : Gr2 w w' b1 b2) (hb : ∃ es ck, w.heap[b2]? = some (.map es ck)) : Two w w' b1 b2 := by
  obtain ⟨es, ck, hb⟩ := hb
  have hlt : b2 < w.heap.size := (Array.getElem?_eq_some_iff.1 hb).1
  have hlt2 : b2 < w'.heap.size := Nat.lt_of_lt_of_le hlt h.size
  have hm : ({ w' with heap := w'.heap.setIfInBounds b2 (.map es ck) } : World).heap[b2]? = some (.map es ck) := by simp [hlt2]
  refine ⟨{ w' with heap := w'.heap.setIfInBounds b2 (.map es ck) }, ⟨h.os, h.tape, h.output, by simpa using h.size, fun k hk hn => ?_⟩, ⟨rfl, rfl, rfl, by simp, fun k hk hn => ?_⟩, ?_, ?_⟩
  · by_cases e : k = b2
    · subst e; rw [hm, hb]
    · rw [Array.getElem?_setIfInBounds, if_neg (fun e2 => e e2.symm)]
      exact h.block k hk (fun e2 => hn (by rw [e2])) e
  · have e : b2 ≠ k := fun e2 => hn (by rw [e2])
    show w'.heap[k]? = (w'.heap.setIfInBounds b2 (.map es ck))[k]?
    rw [Array.getElem?_setIfInBounds, if_neg e]
  · rintro p o x hc rfl
    simp [World.cell?, hm] at hc
  · rintro p cs T fr hc rfl
    rw [hm] at hc
    cases hc
theorem outSet {w W : World} {b : Option Nat} (h : w.grownBy W b) {k : Nat} (hk : w.heap.size ≤ k) (o : Nat) (x : Value) : w.grownBy (W.setCell ⟨k, o, none⟩ x) b :=
  ⟨h.os, h.tape, h.output, by simpa using h.size, fun i hi hn => (Below.heap_setCell _ _ _ i (by show i ≠ k; omega)).trans (h.block i hi hn)⟩
theorem MacAt.lt {X w : World} {g d bk sb K : Nat} {m : Mac} (h : MacAt X g d bk sb K m w) : g < w.heap.size ∧ d < w.heap.size ∧ bk < w.heap.size ∧ sb < w.heap.size := by
  obtain ⟨D, n, _, hM, _⟩ := h.map
  exact ⟨World.block_lt_of_cell? w _ h.c0, h.lw.dir.lt.1, h.lw.dir.lt.2, hM.lt⟩
theorem MacAt.isMap {X w : World} {g d bk sb K : Nat} {m : Mac} (h : MacAt X g d bk sb K m w) : ∃ es ck, w.heap[sb]? = some (.map es ck) := by
  obtain ⟨D, n, _, ⟨es, ck, hb, _⟩, _⟩ := h.map
  exact ⟨es, ck, hb⟩
/-- Behind what the directory did: the pointers, and the sessions as they were. -/
structure MidM (X : World) (g d bk sb K : Nat) (l : List E3) (s : List S3) (W : World) : Prop where
  c0 : W.cell? ⟨g, 0, none⟩ = some (dP d)
  c1 : W.cell? ⟨g, 1, none⟩ = some (.map (some sb))
  lw : LW X d bk (K + 1) l W
  map : ∃ (D : DataW Unit) (n : Nat), n ≤ K ∧ W.ownsMap (H := Unit) Tryz.prog 3 sesElem sb n D ∧ SesIs W D s
theorem MidM.on {X W W' : World} {g d bk sb K : Nat} {l : List E3} {s : List S3} (h : MidM X g d bk sb K l s W) (hb : Below W.heap.size W W') : MidM X g d bk sb K l s W' := by
  have hl := World.block_lt_of_cell? W _ h.c0
  obtain ⟨D, n, hn, hM, hI⟩ := h.map
  exact ⟨(hb.cell (p := ⟨g, 0, none⟩) hl).trans h.c0, (hb.cell (p := ⟨g, 1, none⟩) hl).trans h.c1, h.lw.on hb, ⟨D, n, hn, hM.kept (row := none) ⟨hb.os, hb.tape, hb.output, hb.size, fun k hk _ => hb.block k hk⟩ (by simp), hI.on hb⟩⟩
theorem MacAt.mid {X w W : World} {g d bk sb K : Nat} {m : Mac} {l : List E3} (h : MacAt X g d bk sb K m w) (G : w.grownBy W (some bk)) (hd : DirAt W d bk (K + 1) l) (hr : RightD l) (hv : verB (K + 1) l) : MidM X g d bk sb K l m.s W := by
  obtain ⟨D, n, hn, hM, hI⟩ := h.map
  obtain ⟨mm, hm⟩ := h.lw.ml
  exact ⟨G.cell h.c0 (by simpa using h.lw.ne _ _ _ h.c0), G.cell h.c1 (by simpa using h.lw.ne _ _ _ h.c1), ⟨hd, ⟨mm, G.cell hm (by simpa using h.lw.ne _ _ _ hm)⟩, h.lw.below.grown G h.lw.below.size (fun j hj => by cases hj; exact h.lw.lo.2), h.lw.lo, hr, hv⟩, ⟨D, n, hn, hM.kept G (by simpa using h.ne), hI.out G h.lw.blkNe⟩⟩
/-- The session is set. -/
theorem MidM.put {X W W' : World} {g d bk sb K : Nat} {l : List E3} {s : List S3} (h : MidM X g d bk sb K l s W) {D : DataW Unit} {n : Nat} {c q : Int} {r : Rep} {x : SV} (hn : n ≤ K) (hI : SesIs W D s) (hM : W'.ownsMap (H := Unit) Tryz.prog 3 sesElem sb (n + 1) (D.put (kI c) (svD x))) (hg : W.grownBy W' (some sb)) (hx : SVof W x (c, q, r))
    (hX : X.heap.size ≤ g ∧ X.heap.size ≤ sb) (hne : sb ≠ bk) (hR : RightM ⟨l, putS s c q r⟩) (hrs : RisesS s) : MacAt X g d bk sb (K + 1) ⟨l, putS s c q r⟩ W' := by
  have hcN : ∀ p o y, W.cell? ⟨p, o, none⟩ = some y → p ≠ sb := by
    rintro p o y hc rfl
    obtain ⟨D2, n2, _, ⟨es, ck, hb, _⟩, _⟩ := h.map
    simp [World.cell?, hb] at hc
  have hbN : ∀ p cs T fr, W.heap[p]? = some (.cells cs T fr) → p ≠ sb := by
    rintro p cs T fr hc rfl
    obtain ⟨D2, n2, _, ⟨es, ck, hb, _⟩, _⟩ := h.map
    rw [hb] at hc
    cases hc
  obtain ⟨mm, hm⟩ := h.lw.ml
  have hdb : d ≠ sb := hcN _ _ _ h.lw.dir.cell
  exact ⟨hg.cell h.c0 (by simpa using hcN _ _ _ h.c0), hg.cell h.c1 (by simpa using hcN _ _ _ h.c1), ⟨h.lw.dir.out hg hdb hne.symm, ⟨mm, hg.cell hm (by simpa using hcN _ _ _ hm)⟩, h.lw.below.grown hg h.lw.below.size (fun j hj => by cases hj; exact hX.2), h.lw.lo, h.lw.right, h.lw.ver⟩, ⟨_, n + 1, by omega, hM, (hI.put hrs hx).out hg hbN⟩, hX, hne, hR⟩
theorem heap_set_cells0 {w : World} {p : Nat} {t : TypeId} (h : ∃ cs fr, w.heap[p]? = some (.cells cs t fr)) (o : Nat) (u : Value) : ∃ cs fr, (w.setCell ⟨p, o, none⟩ u).heap[p]? = some (.cells cs t fr) := by
  obtain ⟨cs, fr, hh⟩ := h
  refine ⟨cs.setIfInBounds o u, fr, ?_⟩
  simp [World.setCell, Array.getElem?_modify, hh]
theorem heap_set_cells {w : World} {b o : Nat} {x : Value} {T : TypeId} (h : ∃ cs fr, w.heap[b]? = some (.cells cs T fr)) : ∃ cs fr, (w.setCell ⟨b, o, none⟩ x).heap[b]? = some (.cells cs T fr) := heap_set_cells0 h o x
theorem SK_set {w : World} {base b o : Nat} {v x : Value} {ns : List ByteArray} (h : SK.Own w base v ns) (hb : ∃ cs fr, w.heap[b]? = some (.cells cs 28 fr)) : SK.Own (w.setCell ⟨b, o, none⟩ x) base v ns := by
  refine h.keepB fun k hk => Below.heap_setCell _ _ _ k ?_
  rintro (rfl : k = b)
  obtain ⟨_, cs, fr, hc⟩ := h.blk k hk
  obtain ⟨cs2, fr2, hc2⟩ := hb
  rw [hc] at hc2
  simp only [Option.some.injEq, Obj.cells.injEq] at hc2
  have : (9 : TypeId) = 28 := hc2.2.1
  exact absurd this (by decide)
theorem MacAt.set {X w : World} {g d bk sb K b o : Nat} {m : Mac} {x : Value} (h : MacAt X g d bk sb K m w) (hb : ∃ cs fr, w.heap[b]? = some (.cells cs 28 fr)) (hg : g < b) (hd : d < b) (hX : X.heap.size ≤ b) (hml : ∃ mm, w.cell? ⟨0, 0, none⟩ = some (.int .i64 mm) ∧ 0 < b) : MacAt X g d bk sb K m (w.setCell ⟨b, o, none⟩ x) := by
  obtain ⟨cs, fr, hb'⟩ := hb
  obtain ⟨D, n, hn, hM, hI⟩ := h.map
  obtain ⟨D2, n2, hn2, hM2, hI2⟩ := h.lw.dir.map
  obtain ⟨mm, hm, hml⟩ := hml
  have hblk : ∀ k, k ≠ b → (w.setCell ⟨b, o, none⟩ x).heap[k]? = w.heap[k]? := fun k hk => Below.heap_setCell _ _ _ k hk
  have hc : ∀ k j, k ≠ b → (w.setCell ⟨b, o, none⟩ x).cell? ⟨k, j, none⟩ = w.cell? ⟨k, j, none⟩ := fun k j hk => World.cell?_of_block (hblk k hk)
  have hsb : sb ≠ b := fun e => h.blkNe b cs _ fr hb' e.symm
  have hbk : bk ≠ b := fun e => h.lw.blkNe b cs _ fr hb' e.symm
  refine ⟨(hc g 0 (by omega)).trans h.c0, (hc g 1 (by omega)).trans h.c1, ⟨⟨(hc d 0 (by omega)).trans h.lw.dir.cell, ⟨D2, n2, hn2, hM2.setCell hbk x, hI2⟩, h.lw.dir.rise, h.lw.dir.keys⟩, ⟨mm, (hc _ 0 (by omega)).trans hm⟩, h.lw.below.setCell hX _, h.lw.lo, h.lw.right, h.lw.ver⟩, ⟨D, n, hn, hM.setCell hsb x, ?_⟩, h.lo, h.ne, h.right⟩
  exact ⟨hI.has, fun c q r hf => by
    obtain ⟨y, h1, h2⟩ := hI.val c q r hf
    exact ⟨y, h1, ⟨h2.ok, h2.cl, h2.sq, h2.er, h2.vl, h2.vr, SK_set h2.row ⟨cs, fr, hb'⟩⟩⟩, hI.size, hI.tidy⟩
theorem BX3.low {N M : Nat} {t : Cm} {r : Rep} {v : Value} {w w' : World} (h : BX3 N t r v w) (hb : Below M w w') (hM : N + 3 ≤ M) : BX3 N t r v w' := by
  have hz := h.z
  have e0 : ∀ o, w'.cell? ⟨N, o, none⟩ = w.cell? ⟨N, o, none⟩ := fun o => hb.cell (p := ⟨N, o, none⟩) (by show N < _; omega)
  have e1 : ∀ o, w'.cell? ⟨N + 1, o, none⟩ = w.cell? ⟨N + 1, o, none⟩ := fun o => hb.cell (p := ⟨N + 1, o, none⟩) (by show N + 1 < _; omega)
  have e2 : ∀ o, w'.cell? ⟨N + 2, o, none⟩ = w.cell? ⟨N + 2, o, none⟩ := fun o => hb.cell (p := ⟨N + 2, o, none⟩) (by show N + 2 < _; omega)
  exact ⟨⟨(e0 0).trans h.c.c0, (e0 1).trans h.c.c1, (e0 2).trans h.c.c2, (e0 3).trans h.c.c3, (e0 4).trans h.c.c4, (e0 5).trans h.c.c5, (e0 6).trans h.c.c6, (e0 7).trans h.c.c7⟩, (e1 0).trans h.k0, (e1 1).trans h.k1, (e1 2).trans h.k2, (e1 3).trans h.k3, (e2 0).trans h.r0, (e2 1).trans h.r1, (e2 2).trans h.r2, (e2 3).trans h.r3, fun o => (hb.frozen (p := ⟨N + 2, o, none⟩) (by show N + 2 < _; omega)).trans (h.f o), Nat.le_trans hz hb.size⟩
/-- The result's box is a reply's. -/
def TyR (b : Nat) (w : World) : Prop := ∃ cs fr, w.heap[b]? = some (.cells cs 28 fr)
theorem TyR.blk {b : Nat} {w w' : World} (h : TyR b w) (he : w'.heap[b]? = w.heap[b]?) : TyR b w' := by
  obtain ⟨cs, fr, hb⟩ := h
  exact ⟨cs, fr, he.trans hb⟩
theorem TyR.on {b : Nat} {w w' : World} (h : TyR b w) (hb : Below w.heap.size w w') : TyR b w' := h.blk (hb.block b (by obtain ⟨cs, fr, hh⟩ := h; exact (Array.getElem?_eq_some_iff.1 hh).1))
theorem tyR_box3 (w : World) (t : Cm) (r : Rep) (v : Value) : TyR (w.heap.size + 2) (box3 w t r v) := by
  have h := heap_alloc_new ((w.alloc (.cells #[.int .i64 t.cl, .int .i64 t.sq, .int .i64 t.op, .string t.pa, .string t.va, .int .i64 t.ver, .int .i64 t.a, .int .i64 t.b] 49)).alloc (.cells #[.int .i64 r.err, .string r.val, .int .i64 r.ver, v] 28)) (.cells #[.int .i64 0, .string { data := #[] }, .int .i64 0, .slice none 0 0] 28)
  rw [World.size_alloc, World.size_alloc] at h
  exact ⟨_, _, h⟩
/-- At the end: the result is stored. -/
theorem MApP.store {X w W5 W6 W7 : World} {g d bk sb K : Nat} {m m2 : Mac} {r : Rep} {v : Value} (h : MacAt X g d bk sb K m w) (G5 : w.grownBy W5 (some bk)) (hg6 : W5.grownBy W6 (some sb)) (hb7 : Below W6.heap.size W6 W7) (h6 : MacAt X g d bk sb (K + 1) m2 W6) (hty : TyR (w.heap.size + 2) W7) (ho : SK.Own W7 (w.heap.size + 3) v r.names)
    (x y z u : Value) (v2 : Value) (hv : v2 = repV r v) : MApP (r, m2) X g d bk sb K w (.returned v2) ((((W7.setCell ⟨w.heap.size + 2, 0, none⟩ x).setCell ⟨w.heap.size + 2, 1, none⟩ y).setCell ⟨w.heap.size + 2, 2, none⟩ z).setCell ⟨w.heap.size + 2, 3, none⟩ u) := by
  subst hv
  have hlt := h.lt
  have h7 := h6.on hb7
  obtain ⟨mm, hm⟩ := h.lw.ml
  have hml := World.block_lt_of_cell? w _ hm
  simp only at hml
  have mlk : ∀ W, MacAt X g d bk sb (K + 1) m2 W → ∃ mm, W.cell? ⟨0, 0, none⟩ = some (.int .i64 mm) ∧ 0 < w.heap.size + 2 := fun W hW => by
    obtain ⟨m3, h3⟩ := hW.lw.ml
    exact ⟨m3, h3, by omega⟩
  have hX : X.heap.size ≤ w.heap.size + 2 := by have := h.lw.below.size; omega
  have s1 := h7.set (b := w.heap.size + 2) (o := 0) (x := x) hty (by omega) (by omega) hX (mlk _ h7)
  have t1 := heap_set_cells (o := 0) (x := x) hty
  have s2 := s1.set (b := w.heap.size + 2) (o := 1) (x := y) t1 (by omega) (by omega) hX (mlk _ s1)
  have t2 := heap_set_cells (o := 1) (x := y) t1
  have s3 := s2.set (b := w.heap.size + 2) (o := 2) (x := z) t2 (by omega) (by omega) hX (mlk _ s2)
  have t3 := heap_set_cells (o := 2) (x := z) t2
  have s4 := s3.set (b := w.heap.size + 2) (o := 3) (x := u) t3 (by omega) (by omega) hX (mlk _ s3)
  refine ⟨v, rfl, ((((ho.set (by omega) _ _).set (by omega) _ _).set (by omega) _ _).set (by omega) _ _).rd, s4, ?_⟩
  refine Gr2.two ⟨?_, ?_, ?_, ?_, fun k hk h1 h2 => ?_⟩ h.isMap
  · exact hb7.os.trans (hg6.os.trans G5.os)
  · exact hb7.tape.trans (hg6.tape.trans G5.tape)
  · exact hb7.output.trans (hg6.output.trans G5.output)
  · have := G5.size; have := hg6.size; have := hb7.size; simp; omega
  · have z5 := G5.size
    have z6 := hg6.size
    rw [Below.heap_setCell _ _ _ k (by show k ≠ w.heap.size + 2; omega), Below.heap_setCell _ _ _ k (by show k ≠ w.heap.size + 2; omega), Below.heap_setCell _ _ _ k (by show k ≠ w.heap.size + 2; omega), Below.heap_setCell _ _ _ k (by show k ≠ w.heap.size + 2; omega), hb7.block k (by omega), hg6.block k (by omega) (fun e => h2 (Option.some.inj e)), G5.block k hk (fun e => h1 (Option.some.inj e))]
end Go.Proofs.YtbebjpfbbidaiaaGreat
