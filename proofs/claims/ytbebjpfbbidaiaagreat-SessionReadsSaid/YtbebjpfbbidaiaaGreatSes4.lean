/-
  What a machine's Apply leans on: its boxes; what it comes to.
-/
import Derived.Test.YtbebjpfbbidaiaaGreatSes3
import Derived.StillTailTactics
import Derived.Deep.RegionHeld3
namespace Go.Proofs.YtbebjpfbbidaiaaGreat
open Go.RowKit Go.Sort
open Go.WideMaps
set_option linter.unusedSimpArgs false
set_option linter.unusedVariables false

abbrev cmV (t : Cm) : Value := .agg #[.int .i64 t.cl, .int .i64 t.sq, .int .i64 t.op, .string t.pa, .string t.va, .int .i64 t.ver, .int .i64 t.a, .int .i64 t.b]
/-- One map turned, and then another one. -/
structure Two (w w' : World) (b1 b2 : Nat) : Prop where
  mid : ∃ w1, w.grownBy w1 (some b1) ∧ w1.grownBy w' (some b2) ∧ (∀ p o x, w1.cell? ⟨p, o, none⟩ = some x → p ≠ b2) ∧ (∀ p cs T fr, w1.heap[p]? = some (.cells cs T fr) → p ≠ b2)
/-- The boxes of a command, of a reply, and of the result. -/
structure BX3 (N : Nat) (t : Cm) (r : Rep) (v : Value) (w : World) : Prop where
  c : CB N t w
  k0 : w.cell? ⟨N + 1, 0, none⟩ = some (.int .i64 r.err)
  k1 : w.cell? ⟨N + 1, 1, none⟩ = some (.string r.val)
  k2 : w.cell? ⟨N + 1, 2, none⟩ = some (.int .i64 r.ver)
  k3 : w.cell? ⟨N + 1, 3, none⟩ = some v
  r0 : w.cell? ⟨N + 2, 0, none⟩ = some (.int .i64 0)
  r1 : w.cell? ⟨N + 2, 1, none⟩ = some (.string { data := #[] })
  r2 : w.cell? ⟨N + 2, 2, none⟩ = some (.int .i64 0)
  r3 : w.cell? ⟨N + 2, 3, none⟩ = some (.slice none 0 0)
  f : ∀ o, w.frozen? ⟨N + 2, o, none⟩ = false
  z : N + 3 ≤ w.heap.size
abbrev box3 (w : World) (t : Cm) (r : Rep) (v : Value) : World := ((w.alloc (.cells #[.int .i64 t.cl, .int .i64 t.sq, .int .i64 t.op, .string t.pa, .string t.va, .int .i64 t.ver, .int .i64 t.a, .int .i64 t.b] 49)).alloc (.cells #[.int .i64 r.err, .string r.val, .int .i64 r.ver, v] 28)).alloc (.cells #[.int .i64 0, .string { data := #[] }, .int .i64 0, .slice none 0 0] 28)
theorem box3_below (w : World) (t : Cm) (r : Rep) (v : Value) : Below w.heap.size w (box3 w t r v) := (((Below.refl _ _).alloc (Nat.le_refl _) _).alloc (by simp) _).alloc (by simp; omega) _
theorem BX3.mk' (w : World) (t : Cm) (r : Rep) (v : Value) : BX3 w.heap.size t r v (box3 w t r v) := by
  have h2 : ∀ j, (box3 w t r v).cell? ⟨w.heap.size + 2, j, none⟩ = #[Value.int .i64 0, .string { data := #[] }, .int .i64 0, .slice none 0 0][j]? := fun j => by
    have h := new_cell ((w.alloc (.cells #[.int .i64 t.cl, .int .i64 t.sq, .int .i64 t.op, .string t.pa, .string t.va, .int .i64 t.ver, .int .i64 t.a, .int .i64 t.b] 49)).alloc (.cells #[.int .i64 r.err, .string r.val, .int .i64 r.ver, v] 28)) #[.int .i64 0, .string { data := #[] }, .int .i64 0, .slice none 0 0] 28 j
    rwa [World.size_alloc, World.size_alloc] at h
  have h1 : ∀ j, (box3 w t r v).cell? ⟨w.heap.size + 1, j, none⟩ = #[Value.int .i64 r.err, .string r.val, .int .i64 r.ver, v][j]? := fun j => by
    rw [old_cell _ _ _ _ (by simp)]
    exact (two_cells _ _ _ _ _).2 j
  refine ⟨?_, h1 0, h1 1, h1 2, h1 3, h2 0, h2 1, h2 2, h2 3, ?_, by simp⟩
  · exact ((CB.mk' t w _).low ((Below.refl _ _).alloc (Nat.le_refl _) _)).low ((Below.refl _ _).alloc (Nat.le_refl _) _)
  · intro o; simp [go_sem]
theorem BX3.on {N : Nat} {t : Cm} {r : Rep} {v : Value} {w w' : World} (h : BX3 N t r v w) (hb : Below w.heap.size w w') : BX3 N t r v w' := by
  have hz := h.z
  have e1 : ∀ o, w'.cell? ⟨N + 1, o, none⟩ = w.cell? ⟨N + 1, o, none⟩ := fun o => hb.cell (p := ⟨N + 1, o, none⟩) (by show N + 1 < _; omega)
  have e2 : ∀ o, w'.cell? ⟨N + 2, o, none⟩ = w.cell? ⟨N + 2, o, none⟩ := fun o => hb.cell (p := ⟨N + 2, o, none⟩) (by show N + 2 < _; omega)
  exact ⟨h.c.low hb, (e1 0).trans h.k0, (e1 1).trans h.k1, (e1 2).trans h.k2, (e1 3).trans h.k3, (e2 0).trans h.r0, (e2 1).trans h.r1, (e2 2).trans h.r2, (e2 3).trans h.r3, fun o => (hb.frozen (p := ⟨N + 2, o, none⟩) (by show N + 2 < _; omega)).trans (h.f o), Nat.le_trans hz hb.size⟩
theorem BX3.out {N : Nat} {t : Cm} {r : Rep} {v : Value} {w w' : World} {k : Nat} (h : BX3 N t r v w) (hg : w.grownBy w' (some k)) (hk : k < N) : BX3 N t r v w' := by
  have hz := h.z
  have e1 : ∀ o, w'.cell? ⟨N + 1, o, none⟩ = w.cell? ⟨N + 1, o, none⟩ := fun o => World.cell?_of_block (hg.block (N + 1) (by omega) (by simp; omega))
  have e2 : ∀ o, w'.cell? ⟨N + 2, o, none⟩ = w.cell? ⟨N + 2, o, none⟩ := fun o => World.cell?_of_block (hg.block (N + 2) (by omega) (by simp; omega))
  have f2 : ∀ o, w'.frozen? ⟨N + 2, o, none⟩ = w.frozen? ⟨N + 2, o, none⟩ := fun o => World.frozen?_of_block (hg.block (N + 2) (by omega) (by simp; omega))
  have e0 : ∀ o, w'.cell? ⟨N, o, none⟩ = w.cell? ⟨N, o, none⟩ := fun o => World.cell?_of_block (hg.block N (by omega) (by simp; omega))
  exact ⟨⟨(e0 0).trans h.c.c0, (e0 1).trans h.c.c1, (e0 2).trans h.c.c2, (e0 3).trans h.c.c3, (e0 4).trans h.c.c4, (e0 5).trans h.c.c5, (e0 6).trans h.c.c6, (e0 7).trans h.c.c7⟩, (e1 0).trans h.k0, (e1 1).trans h.k1, (e1 2).trans h.k2, (e1 3).trans h.k3, (e2 0).trans h.r0, (e2 1).trans h.r1, (e2 2).trans h.r2, (e2 3).trans h.r3, fun o => (f2 o).trans (h.f o), Nat.le_trans hz hg.size⟩
/-- What Apply comes to. -/
def MApP (R : Rep × Mac) (X : World) (g d bk sb K : Nat) (w : World) (e : Ending) (w' : World) : Prop := ∃ v, Hid (e = .returned (repV R.1 v)) ∧ SK.Rd w' v R.1.names ∧ MacAt X g d bk sb (K + 1) R.2 w' ∧ Two w w' bk sb
theorem grown_refl (w : World) (b : Option Nat) : w.grownBy w b := ⟨rfl, rfl, rfl, Nat.le_refl _, fun _ _ _ => rfl⟩
theorem MacAt.two {X w w' : World} {g d bk sb K : Nat} {m : Mac} (h : MacAt X g d bk sb K m w) (hb : Below w.heap.size w w') : Two w w' bk sb :=
  ⟨w, grown_refl w _, outB hb, fun p o x hc => h.cellNe hc, h.blkNe⟩
theorem MApP.quiet {r : Rep} {X w w' : World} {g d bk sb K : Nat} {m : Mac} (h : MacAt X g d bk sb K m w) (hb : Below w.heap.size w w') (hn : r.names = []) (v : Value) (hv : v = repV r (.slice none 0 0)) : MApP (r, m) X g d bk sb K w (.returned v) w' := by
  subst hv
  exact ⟨_, rfl, by rw [hn]; exact Knd.Rd.nil _, (h.on hb).mono (Nat.le_succ _), h.two hb⟩
theorem below4c {w w2 : World} {N b : Nat} (h : Below N w w2) (hb : N ≤ b) (x y z u : Value) : Below N w ((((w2.setCell ⟨b, 0, none⟩ x).setCell ⟨b, 1, none⟩ y).setCell ⟨b, 2, none⟩ z).setCell ⟨b, 3, none⟩ u) :=
  (((h.setCell hb _).setCell hb _).setCell hb _).setCell hb _
set_option maxRecDepth 100000 in
set_option maxHeartbeats 1000000 in
theorem mapply_none {X w : World} {g d bk sb K : Nat} {m : Mac} (h : MacAt X g d bk sb K m w) (t : Cm) (r : Rep) (vc : Value) (ho : t.op = 0) (hv : ∃ a n c, vc = .slice a n c) :
    Calls Tryz.prog 17 #[dP g, cmV t, repV r vc] w (MApP (bad 0, m) X g d bk sb K w) := by
  obtain ⟨a, n, c, rfl⟩ := hv
  obtain ⟨Z, hZ⟩ : ∃ Z, box3 w t r (.slice a n c) = Z := ⟨_, rfl⟩
  have hB : Below w.heap.size w Z := by rw [← hZ]; exact box3_below ..
  have hX3 : BX3 w.heap.size t r (.slice a n c) Z := by rw [← hZ]; exact BX3.mk' ..
  have o1 : (t.op == 0) = true := by simp [ho]
  have c2 := hX3.c.c2
  have r0 := hX3.r0
  have r1 := hX3.r1
  have r2 := hX3.r2
  have r3 := hX3.r3
  have f := hX3.f
  have z := hX3.z
  have H := Lib.hid h
  have HB := Lib.hid hB
  clear h hB hX3 ho
  go_enter Tryz.func17, Tryz.ntmps17
  go_wp2
  refine bodyPost_ret (v := repV (bad 0) (.slice none 0 0)) (by simp [results, Tryz.results17, go_sem, bad, r0, r1, r2, r3, f, show w.heap.size + 2 < Z.heap.size by omega]) rfl ?_
  exact MApP.quiet H.out (below4c HB.out (by omega) _ _ _ _) rfl _ rfl
set_option maxRecDepth 100000 in
set_option maxHeartbeats 1000000 in
theorem mapply_bad {X w : World} {g d bk sb K : Nat} {m : Mac} (h : MacAt X g d bk sb K m w) (t : Cm) (r : Rep) (vc : Value) (ho : t.op ≠ 0) (hval : valS t.cl t.sq = false) (hv : ∃ a n c, vc = .slice a n c) :
    Calls Tryz.prog 17 #[dP g, cmV t, repV r vc] w (MApP (bad 1, m) X g d bk sb K w) := by
  obtain ⟨a, n, c, rfl⟩ := hv
  obtain ⟨Z, hZ⟩ : ∃ Z, box3 w t r (.slice a n c) = Z := ⟨_, rfl⟩
  have hB : Below w.heap.size w Z := by rw [← hZ]; exact box3_below ..
  have hX3 : BX3 w.heap.size t r (.slice a n c) Z := by rw [← hZ]; exact BX3.mk' ..
  have o1 : (t.op == 0) = false := by simpa using ho
  obtain ⟨c0, c1, c2, c3, c4, c5, c6, c7⟩ := hX3.c
  have HX3 := Lib.hid hX3
  have H := Lib.hid h
  have HB := Lib.hid hB
  have HV := Lib.hid (valid9_any t.cl t.sq t.op t.pa t.va t.ver t.a t.b Z)
  rw [hval] at HV
  clear h hB hX3 ho hval
  go_enter Tryz.func17, Tryz.ntmps17
  go_wp2_with fail
  refine HV.out.mono ?_
  rintro e w1 ⟨rfl, hb⟩
  have HX4 := HX3.out.on hb
  have r0 := HX4.r0
  have r1 := HX4.r1
  have r2 := HX4.r2
  have r3 := HX4.r3
  have f := HX4.f
  have z := HX4.z
  have HB1 := Lib.hid (below_self HB.out hb)
  clear hb HX4 hZ c0 c1 c2 c3 c4 c5 c6 c7
  go_wp2
  refine bodyPost_ret (v := repV (bad 1) (.slice none 0 0)) (by simp [results, Tryz.results17, go_sem, bad, r0, r1, r2, r3, f, show w.heap.size + 2 < w1.heap.size by omega]) rfl ?_
  exact MApP.quiet H.out (below4c HB1.out (by omega) _ _ _ _) rfl _ rfl
end Go.Proofs.YtbebjpfbbidaiaaGreat
