/-
 A machine's Apply: what is done.
-/
import Derived.Test.YtodcmhmankmaoaaGreatSht
import Derived.Test.YtodcmhmankmaoaaGreatT1
import Derived.Test.YtodcmhmankmaoaaGreatMq
namespace Go.Proofs.YtodcmhmankmaoaaGreat
open Go.RowKit Go.Sort
open Go.WideMaps
set_option linter.unusedSimpArgs false
set_option linter.unusedVariables false

set_option maxRecDepth 100000 in
set_option maxHeartbeats 2000000 in
theorem mapply_none_c {X w : World} {g d bk sb K : Nat} {m : Mac} (h : MacAt X g d bk sb K m w) (t : Cm) (r : Rep) (vc : Value) (ho : t.op ≠ 0) (hval : valS t.cl t.sq = true) (hv : ∃ a n c, vc = .slice a n c) (hrc : SK.Rd w vc r.names) (hcl : r.names.length ≤ 100000) (her : NE6 r.err) (hK : K ≤ 90000) (hp : t.pa.size ≤ 1000) (hctl : Tc.ctl t.op = true) (hf : fndS m.s t.cl = none) :
  Calls Tryz.prog 20 #[dP g, cmV t, repV r vc] w (MApP (doM m t r) X g d bk sb K w) := by
 have HDO : Hid (doM m t r = (r, ⟨m.l, putS m.s t.cl t.sq r⟩)) := Lib.hid (by unfold doM; rw [hctl]; rfl)
 have HER := Lib.hid her
 have HVL := Lib.hid hval
 have HP := Lib.hid hp
 rw [HDO.out]
 clear her hp
 obtain ⟨er, vl, vr, ns⟩ := r
 obtain ⟨a, n, c, rfl⟩ := hv
 simp only at hcl hctl
 obtain ⟨Z, hZ⟩ : ∃ Z, box3 w t ⟨er, vl, vr, ns⟩ (.slice a n c) = Z := ⟨_, rfl⟩
 have hB : Below w.heap.size w Z := by rw [← hZ]; exact box3_below ..
 have hX3 : BX3 w.heap.size t ⟨er, vl, vr, ns⟩ (.slice a n c) Z := by rw [← hZ]; exact BX3.mk' ..
 have o1 : (t.op == 0) = false := by simpa using ho
 obtain ⟨c0, c1, c2, c3, c4, c5, c6, c7⟩ := hX3.c
 have HX3 := Lib.hid hX3
 have H := Lib.hid h
 have HZm := Lib.hid (h.on hB)
 have HB := Lib.hid hB
 have HV := Lib.hid (valid9_any t.cl t.sq t.op t.pa t.va t.ver t.a t.b Z)
 rw [hval] at HV
 have HVB := Lib.hid (valS_b hval)
 have HTZ : Hid (TyR (w.heap.size + 2) Z) := Lib.hid (by rw [← hZ]; exact tyR_box3 w t _ _)
 have HF := Lib.hid hf
 clear hf
 have HRC := Lib.hid hrc
 have HCL := Lib.hid hcl
 clear h hB hX3 ho hval hrc hcl
 go_enter Tryz.func20, Tryz.ntmps20
 go_wp2_with fail
 refine HV.out.mono ?_
 rintro e w1 ⟨rfl, hb⟩
 have HX4 := Lib.hid (HX3.out.on hb)
 have HB1 := Lib.hid (below_self HB.out hb)
 have H1 := Lib.hid (HZm.out.on hb)
 have HT1 := Lib.hid (HTZ.out.on hb)
 clear hb hZ c0 c1 c2 c3 c4 c5 c6 c7 HX3 HB HZm HV
 obtain ⟨D, nn, hnn, hM, hI⟩ := H1.out.map
 have hkey : keyOf Tryz.prog 3 (.int .i64 t.cl) = some (kI t.cl) := kI_key (by have := HVB.out; omega) (by have := HVB.out; omega)
 have HM := Lib.hid hM
 have HKEY := Lib.hid hkey
 have HNN := Lib.hid hnn
 have HI := Lib.hid hI
 have HRUN := Lib.hid (look_none (b := sb) (n := nn) hI HF.out hkey)
 have HKP : Hid (∀ w', Below w1.heap.size w1 w' → w'.cell? ⟨g, 1, none⟩ = some (.map (some sb)) ∧ w'.cell? ⟨w.heap.size, 0, none⟩ = some (.int .i64 t.cl) ∧ (Instr.lookup 85 (.map (some sb)) (.int .i64 t.cl) true).run Tryz.prog w' = .ok (.tuple #[.agg #[Value.int .i64 0, .int .i64 0, .int .i64 0, .string { data := #[] }, .int .i64 0, .slice none 0 0], .bool false]) w' ∧ Below w1.heap.size w1 w') := Lib.hid (fun w' hb => ⟨(H1.out.on hb).c1, (HX4.out.on hb).c.c0, HRUN.out w' (HM.out.kept (row := none) ⟨hb.os, hb.tape, hb.output, hb.size, fun k hk _ => hb.block k hk⟩ (by simp)), hb⟩)
 clear hM hI hkey hnn
 go_wp2_with fail
 refine wp_region_held_drew (S := (fun w' => w'.cell? ⟨g, 1, none⟩ = some (.map (some sb)) ∧ w'.cell? ⟨w.heap.size, 0, none⟩ = some (.int .i64 t.cl) ∧ (Instr.lookup 85 (.map (some sb)) (.int .i64 t.cl) true).run Tryz.prog w' = .ok (.tuple #[.agg #[Value.int .i64 0, .int .i64 0, .int .i64 0, .string { data := #[] }, .int .i64 0, .slice none 0 0], .bool false]) w' ∧ Below w1.heap.size w1 w')) (by kernel_rfl) ?_ (fun hHeld => ?_)
 ·((first
  | exact HKP.out _ (((Below.refl _ _).alloc (Nat.le_refl _) _).drew)
  | exact HKP.out _ ((((Below.refl _ _).drew).alloc (Nat.le_refl _) _))
  | exact HKP.out _ ((Below.refl _ _).alloc (Nat.le_refl _) _)
  | exact HKP.out _ (Below.refl _ _).drew
  | exact HKP.out _ (Below.refl _ _)
  | fail))
 (refine tkA 0 (v := ?_) ?_ ?_; rotate_left; focus (intro w hSw; (try dsimp only at hSw); go_simp; try rfl)); try simp only [Act.put, gA1, gA2, gA3, gA4, gA5, gA6]
 (refine tkA 1 (v := ?_) ?_ ?_; rotate_left; focus (intro w hSw; (try dsimp only at hSw); go_simp; try rfl)); try simp only [Act.put, gA1, gA2, gA3, gA4, gA5, gA6]
 (refine tkA 2 (v := ?_) ?_ ?_; rotate_left; focus (intro w hSw; (try dsimp only at hSw); go_simp; try rfl)); try simp only [Act.put, gA1, gA2, gA3, gA4, gA5, gA6]
 (refine tkA 3 (v := ?_) ?_ ?_; rotate_left; focus (intro w hSw; (try dsimp only at hSw); go_simp; try rfl)); try simp only [Act.put, gA1, gA2, gA3, gA4, gA5, gA6]
 (refine tkA 4 (v := ?_) ?_ ?_; rotate_left; focus (intro w hSw; (try dsimp only at hSw); go_simp; try rfl)); try simp only [Act.put, gA1, gA2, gA3, gA4, gA5, gA6]
 (refine tkA 5 (v := ?_) ?_ ?_; rotate_left; focus (intro w hSw; (try dsimp only at hSw); go_simp; try rfl)); try simp only [Act.put, gA1, gA2, gA3, gA4, gA5, gA6]
 (refine tkA 6 (v := ?_) ?_ ?_; rotate_left; focus (intro w hSw; (try dsimp only at hSw); go_simp; try rfl)); try simp only [Act.put, gA1, gA2, gA3, gA4, gA5, gA6]
 (refine tkA 7 (v := ?_) ?_ ?_; rotate_left; focus (intro w hSw; (try dsimp only at hSw); go_simp; try rfl)); try simp only [Act.put, gA1, gA2, gA3, gA4, gA5, gA6]
 (refine tkA 8 (v := ?_) ?_ ?_; rotate_left; focus (intro w hSw; (try dsimp only at hSw); go_simp; try rfl)); try simp only [Act.put, gA1, gA2, gA3, gA4, gA5, gA6]
 (refine tkA 9 (v := ?_) ?_ ?_; rotate_left; focus (intro w hSw; (try dsimp only at hSw); go_simp; try rfl)); try simp only [Act.put, gA1, gA2, gA3, gA4, gA5, gA6]
 refine wpAnyH_ready (rs := [10]) (by kernel_rfl) (by simp) ?_
 refine (AllReadyH.cons rfl (fun K hK => ?_) AllReadyH.nil)
 go_simp
 refine hK.out _ _ ?_ (fun hHeld => ?_)
 ·((first
  | exact HKP.out _ (((Below.refl _ _).alloc (Nat.le_refl _) _).drew)
  | exact HKP.out _ ((((Below.refl _ _).drew).alloc (Nat.le_refl _) _))
  | exact HKP.out _ ((Below.refl _ _).alloc (Nat.le_refl _) _)
  | exact HKP.out _ (Below.refl _ _).drew
  | exact HKP.out _ (Below.refl _ _)
  | fail))
 clear hK K
 try simp only [Act.put, gA1, gA2, gA3, gA4, gA5, gA6]
 refine wpAnyH_ready (rs := [11]) (by kernel_rfl) (by simp) ?_
 refine (AllReadyH.cons rfl (fun K hK => ?_) AllReadyH.nil)
 go_simp
 refine hK.out _ _ ?_ (fun hHeld => ?_)
 ·((first
  | exact HKP.out _ (((Below.refl _ _).alloc (Nat.le_refl _) _).drew)
  | exact HKP.out _ ((((Below.refl _ _).drew).alloc (Nat.le_refl _) _))
  | exact HKP.out _ ((Below.refl _ _).alloc (Nat.le_refl _) _)
  | exact HKP.out _ (Below.refl _ _).drew
  | exact HKP.out _ (Below.refl _ _)
  | fail))
 clear hK K
 try simp only [Act.put, gA1, gA2, gA3, gA4, gA5, gA6]
 (refine tkA 12 (v := ?_) ?_ ?_; rotate_left; focus (intro w hSw; (try dsimp only at hSw); go_simp; try rfl)); try simp only [Act.put, gA1, gA2, gA3, gA4, gA5, gA6]
 refine wpAnyH_done (by kernel_rfl) ?_ _
 go_split_ands
 clear HKP HRUN
 obtain ⟨Y, hY⟩ : ∃ Y, (w1.alloc (.cells #[Value.int .i64 0, .int .i64 0, .int .i64 0, .string { data := #[] }, .int .i64 0, .slice none 0 0] 51)).drew = Y := ⟨_, rfl⟩
 have hBY : Below w1.heap.size w1 Y := by rw [← hY]; exact ((Below.refl _ _).alloc (Nat.le_refl _) _).drew
 have HBY := Lib.hid hBY
 have HBw := Lib.hid (below_self HB1.out hBY)
 have HX5 := Lib.hid (HX4.out.on hBY)
 have H5 := Lib.hid (H1.out.on hBY)
 have hcs : ∀ j, Y.cell? ⟨w1.heap.size, j, none⟩ = #[Value.int .i64 0, .int .i64 0, .int .i64 0, .string { data := #[] }, .int .i64 0, .slice none 0 0][j]? := fun j => by rw [← hY]; exact new_cell w1 _ 51 j
 obtain ⟨g5, hg5⟩ : ∃ g, w1.heap.size = g := ⟨_, rfl⟩
 rw [hg5] at hcs
 rw [hY, hg5]
 clear hY hg5
 have l0 := hcs 0
 have l1 := hcs 1
 have l2 := hcs 2
 have l3 := hcs 3
 have l4 := hcs 4
 have l5 := hcs 5
 simp only [List.getElem?_toArray, List.getElem?_cons_zero, List.getElem?_cons_succ] at l0 l1 l2 l3 l4 l5
 have c1 := HX5.out.c.c1
 clear hcs hBY
 have HT5 := Lib.hid (HT1.out.on HBY.out)
 have k0 := HX5.out.k0
 have k1 := HX5.out.k1
 have k2 := HX5.out.k2
 have k3 := HX5.out.k3
 obtain ⟨d0, d1, d2, d3, d4, d5, d6, d7⟩ := HX5.out.c
 simp only at k0 k1 k2
 clear c1
 obtain ⟨Y2, hY2⟩ : ∃ Z, Y.alloc (.cells #[.int .i64 er, .string vl, .int .i64 vr, .slice a n c] 36) = Z := ⟨_, rfl⟩
 obtain ⟨g9, hg9⟩ : ∃ g, Y.heap.size = g := ⟨_, rfl⟩
 have hb2 : Below Y.heap.size Y Y2 := by rw [← hY2]; exact (Below.refl _ _).alloc (Nat.le_refl _) _
 have HC9 : Hid (∀ j, Y2.cell? ⟨g9, j, none⟩ = #[Value.int .i64 er, .string vl, .int .i64 vr, .slice a n c][j]?) := Lib.hid (fun j => by rw [← hY2, ← hg9]; exact new_cell Y _ _ j)
 have HF9 : Hid (∀ o, Y2.frozen? ⟨g9, o, none⟩ = false) := Lib.hid (fun o => by rw [← hY2, ← hg9]; simp [go_sem])
 have HG9 : Hid (w.heap.size + 3 ≤ g9 ∧ g9 < Y2.heap.size) := Lib.hid (by rw [← hY2, ← hg9]; have := HX5.out.z; simp; omega)
 have HX6 := Lib.hid (HX5.out.on hb2)
 have H6 := Lib.hid (H5.out.on hb2)
 have HB6 := Lib.hid (below_self HBw.out hb2)
 have HT6 := Lib.hid (HT5.out.on hb2)
 have HCT := Lib.hid (Tc.control_any t.cl t.sq t.op t.pa t.va t.ver t.a t.b Y2)
 rw [hctl] at HCT
 have e0 := HX6.out.c.c0
 have e1 := HX6.out.c.c1
 have e2 := HX6.out.c.c2
 have e3 := HX6.out.c.c3
 have e4 := HX6.out.c.c4
 have e5 := HX6.out.c.c5
 have e6 := HX6.out.c.c6
 have e7 := HX6.out.c.c7
 clear hb2 HX5 H5 HBw HT5
 go_wp2_with fail
 try rw [hY2]
 try rw [hg9]
 clear hY2 hg9 k0 k1 k2 k3 d0 d1 d2 d3 d4 d5 d6 d7 l0 l1 l2 l3 l4 l5 e0 e1 e2 e3 e4 e5 e6 e7
 refine HCT.out.mono ?_
 rintro e w2 ⟨rfl, hb⟩
 have HX7 := Lib.hid (HX6.out.on hb)
 have H7 := Lib.hid (H6.out.on hb)
 have HB7 := Lib.hid (below_self HB6.out hb)
 have HC7 : Hid (∀ j, w2.cell? ⟨g9, j, none⟩ = #[Value.int .i64 er, .string vl, .int .i64 vr, .slice a n c][j]?) := Lib.hid (fun j => (hb.cell (p := ⟨g9, j, none⟩) HG9.out.2).trans (HC9.out j))
 have HF7 : Hid (∀ o, w2.frozen? ⟨g9, o, none⟩ = false) := Lib.hid (fun o => (hb.frozen (p := ⟨g9, o, none⟩) HG9.out.2).trans (HF9.out o))
 have HZ7 : Hid (g9 < w2.heap.size) := Lib.hid (Nat.lt_of_lt_of_le HG9.out.2 hb.size)
 have HT7 := Lib.hid (HT6.out.on hb)
 have HN9 : Hid (w.heap.size + 3 ≤ g9) := Lib.hid HG9.out.1
 clear hb HX6 H6 HB6 HC9 HF9 HT6 HCT HG9
 obtain ⟨ar, cr, hvr⟩ := HRC.out.slice
 have HMN : Hid (ns.length = n) := Lib.hid (by simp only [Value.slice.injEq] at hvr; exact hvr.2.1.symm)
 clear hvr
 have HGW := Lib.hid (outB (b := bk) HB7.out)
 have HMW : Hid (MidM X g d bk sb K m.l m.s w2) := Lib.hid ⟨H7.out.c0, H7.out.c1, H7.out.lw.mono (Nat.le_succ _), H7.out.map⟩
 have HXW := HX7
 have HTW := HT7
 have HCW := HC7
 have HZW := HZ7
 have HRW := Lib.hid (HRC.out.below HB7.out)
 have HLW : Hid (ns.length ≤ 100000) := Lib.hid (by have := HCL.out; omega)
 have HRM : Hid (RightM ⟨m.l, putS m.s t.cl t.sq ⟨er, vl, vr, ns⟩⟩) := Lib.hid (H.out.right.put H.out.right.dir HVL.out HER.out)
 clear HX7 HT7 HC7 HZ7 HF7
 have hcN : ∀ p o y, w2.cell? ⟨p, o, none⟩ = some y → p ≠ sb := by
  rintro p o y hc rfl
  obtain ⟨D2, n2, _, ⟨es, ck, hb, _⟩, _⟩ := HMW.out.map
  simp [World.cell?, hb] at hc
 have HCN := Lib.hid hcN
 have x0 := HCW.out 0
 have x1 := HCW.out 1
 have x2 := HCW.out 2
 have x3 := HCW.out 3
 simp only [List.getElem?_toArray, List.getElem?_cons_zero, List.getElem?_cons_succ] at x0 x1 x2 x3
 have HKP : Hid (∀ w', w2.grownBy w' (some sb) → w'.cell? ⟨g, 1, none⟩ = some (.map (some sb)) ∧ w'.cell? ⟨w.heap.size, 0, none⟩ = some (.int .i64 t.cl) ∧ w'.cell? ⟨w.heap.size, 1, none⟩ = some (.int .i64 t.sq) ∧ w'.cell? ⟨g9, 0, none⟩ = some (.int .i64 er) ∧ w'.cell? ⟨g9, 1, none⟩ = some (.string vl) ∧ w'.cell? ⟨g9, 2, none⟩ = some (.int .i64 vr) ∧ w'.cell? ⟨g9, 3, none⟩ = some (.slice a n c) ∧ w2.grownBy w' (some sb)) := Lib.hid (fun w' hb => ⟨hb.cell HMW.out.c1 (by simpa using hcN _ _ _ HMW.out.c1), hb.cell HXW.out.c.c0 (by simpa using hcN _ _ _ HXW.out.c.c0), hb.cell HXW.out.c.c1 (by simpa using hcN _ _ _ HXW.out.c.c1), hb.cell x0 (by simpa using hcN _ _ _ x0), hb.cell x1 (by simpa using hcN _ _ _ x1), hb.cell x2 (by simpa using hcN _ _ _ x2), hb.cell x3 (by simpa using hcN _ _ _ x3), hb⟩)
 have HCS := Lib.hid (csession_any t.cl t.sq ⟨er, vl, vr, ns⟩ (.slice a n c) w2.drew (HRW.out.below (Below.refl _ _).drew) HLW.out)
 clear hcN x0 x1 x2 x3
 go_wp2_with fail
 refine wp_region_held_drew (S := (fun w' => w'.cell? ⟨g, 1, none⟩ = some (.map (some sb)) ∧ w'.cell? ⟨w.heap.size, 0, none⟩ = some (.int .i64 t.cl) ∧ w'.cell? ⟨w.heap.size, 1, none⟩ = some (.int .i64 t.sq) ∧ w'.cell? ⟨g9, 0, none⟩ = some (.int .i64 er) ∧ w'.cell? ⟨g9, 1, none⟩ = some (.string vl) ∧ w'.cell? ⟨g9, 2, none⟩ = some (.int .i64 vr) ∧ w'.cell? ⟨g9, 3, none⟩ = some (.slice a n c) ∧ w2.grownBy w' (some sb))) (by kernel_rfl) ?_ (fun hHeld => ?_)
 ·((first
  | exact HKP.out _ (grown_refl _ _)
  | exact HKP.out _ (outB (Below.refl _ _).drew)
  | exact HKP.out _ hw6
  | exact HKP.out _ hw5
  | fail))
 (refine tkA 0 (v := ?_) ?_ ?_; rotate_left; focus (intro w hSw; (try dsimp only at hSw); go_simp; try rfl)); try simp only [Act.put, gA1, gA2, gA3, gA4, gA5, gA6]
 (refine tkA 1 (v := ?_) ?_ ?_; rotate_left; focus (intro w hSw; (try dsimp only at hSw); go_simp; try rfl)); try simp only [Act.put, gA1, gA2, gA3, gA4, gA5, gA6]
 (refine tkA 2 (v := ?_) ?_ ?_; rotate_left; focus (intro w hSw; (try dsimp only at hSw); go_simp; try rfl)); try simp only [Act.put, gA1, gA2, gA3, gA4, gA5, gA6]
 (refine tkA 3 (v := ?_) ?_ ?_; rotate_left; focus (intro w hSw; (try dsimp only at hSw); go_simp; try rfl)); try simp only [Act.put, gA1, gA2, gA3, gA4, gA5, gA6]
 (refine tkA 4 (v := ?_) ?_ ?_; rotate_left; focus (intro w hSw; (try dsimp only at hSw); go_simp; try rfl)); try simp only [Act.put, gA1, gA2, gA3, gA4, gA5, gA6]
 (refine tkA 5 (v := ?_) ?_ ?_; rotate_left; focus (intro w hSw; (try dsimp only at hSw); go_simp; try rfl)); try simp only [Act.put, gA1, gA2, gA3, gA4, gA5, gA6]
 (refine tkA 6 (v := ?_) ?_ ?_; rotate_left; focus (intro w hSw; (try dsimp only at hSw); go_simp; try rfl)); try simp only [Act.put, gA1, gA2, gA3, gA4, gA5, gA6]
 (refine tkA 7 (v := ?_) ?_ ?_; rotate_left; focus (intro w hSw; (try dsimp only at hSw); go_simp; try rfl)); try simp only [Act.put, gA1, gA2, gA3, gA4, gA5, gA6]
 (refine tkA 8 (v := ?_) ?_ ?_; rotate_left; focus (intro w hSw; (try dsimp only at hSw); go_simp; try rfl)); try simp only [Act.put, gA1, gA2, gA3, gA4, gA5, gA6]
 (refine tkA 9 (v := ?_) ?_ ?_; rotate_left; focus (intro w hSw; (try dsimp only at hSw); go_simp; try rfl)); try simp only [Act.put, gA1, gA2, gA3, gA4, gA5, gA6]
 (refine tkA 10 (v := ?_) ?_ ?_; rotate_left; focus (intro w hSw; (try dsimp only at hSw); go_simp; try rfl)); try simp only [Act.put, gA1, gA2, gA3, gA4, gA5, gA6]
 (refine tkA 11 (v := ?_) ?_ ?_; rotate_left; focus (intro w hSw; (try dsimp only at hSw); go_simp; try rfl)); try simp only [Act.put, gA1, gA2, gA3, gA4, gA5, gA6]
 refine wpAnyH_ready (rs := [12]) (by kernel_rfl) (by simp) ?_
 refine (AllReadyH.cons rfl (fun K hK => ?_) AllReadyH.nil)
 go_simp
 (go_at_call 47; refine HCS.out.mono ?_; rintro e w5 ⟨sl, nn5, he, hsl, hrow, hb⟩; have he := he.out; subst he; have hb5 : Below w2.heap.size w2 w5 := below_self ((Below.refl _ _).drew) hb; have hw5 : w2.grownBy w5 (some sb) := outB hb5)
 refine hK.out _ _ ?_ (fun hHeld => ?_)
 ·((first
  | exact HKP.out _ (grown_refl _ _)
  | exact HKP.out _ (outB (Below.refl _ _).drew)
  | exact HKP.out _ hw6
  | exact HKP.out _ hw5
  | fail))
 clear hK K
 try simp only [Act.put, gA1, gA2, gA3, gA4, gA5, gA6]
 refine wpAnyH_ready (rs := [13]) (by kernel_rfl) (by simp) ?_
 refine (AllReadyH.cons rfl (fun K hK => ?_) AllReadyH.nil)
 have HM5 := Lib.hid (HMW.out.on hb5)
 have HROW := Lib.hid hrow
 have HSL := Lib.hid hsl
 have HB5 := Lib.hid hb5
 obtain ⟨D5, n5, hn5, hM5, hI5⟩ := HM5.out.map
 have HM5m := Lib.hid hM5
 have HI5 := Lib.hid hI5
 have hx5 : n5 < maxLen := by unfold maxLen; have := hK; omega
 have HMAX := Lib.hid hx5
 have HN5b := Lib.hid hn5
 clear hM5 hI5 hn5 hx5
 refine step_map (by rfl) _ _ _ _ rfl 3 51 intK Tryz.underlying85 sesElem sb n5 D5 rfl HM5m.out HMAX.out (.int .i64 t.cl) (svV ⟨t.cl, t.sq, er, vl, vr, sl, nn5⟩) (kI t.cl) rfl rfl HKEY.out (svD ⟨t.cl, t.sq, er, vl, vr, sl, nn5⟩) [] (sesElem_mk HSL.out) ?_
 intro w6 hown6 hg6
 have hw6 : w2.grownBy w6 (some sb) := outT hw5 hg6
 refine hK.out _ _ ?_ (fun hHeld => ?_)
 ·((first
  | exact HKP.out _ (grown_refl _ _)
  | exact HKP.out _ (outB (Below.refl _ _).drew)
  | exact HKP.out _ hw6
  | exact HKP.out _ hw5
  | fail))
 clear hK K
 try simp only [Act.put, gA1, gA2, gA3, gA4, gA5, gA6]
 refine wpAnyH_done (by kernel_rfl) ?_ _
 go_split_ands
 clear HKP
 have hg6b := hg6
 have H9 : MacAt X g d bk sb (K + 1) ⟨m.l, putS m.s t.cl t.sq ⟨er, vl, vr, ns⟩⟩ w6 := HM5.out.put HN5b.out HI5.out hown6 hg6b ⟨HSL.out, rfl, rfl, rfl, rfl, rfl, HROW.out.base (Nat.zero_le _)⟩ H.out.lo H.out.ne HRM.out H.out.right.rise
 have hlt := H.out.lt
 have HX5b := Lib.hid (HXW.out.on HB5.out)
 have HX6b := Lib.hid (HX5b.out.out hg6b hlt.2.2.2)
 have HT6b := Lib.hid ((HTW.out.on HB5.out).blk (hg6b.block (w.heap.size + 2) (by have := HX5b.out.z; omega) (by simp; omega)))
 have HR6 := Lib.hid (HRW.out.out hw6 HCN.out)
 have x0 := HCW.out 0
 have x1 := HCW.out 1
 have x2 := HCW.out 2
 have x3 := HCW.out 3
 simp only [List.getElem?_toArray, List.getElem?_cons_zero, List.getElem?_cons_succ] at x0 x1 x2 x3
 have u0 := hw6.cell x0 (by simpa using HCN.out _ _ _ x0)
 have u1 := hw6.cell x1 (by simpa using HCN.out _ _ _ x1)
 have u2 := hw6.cell x2 (by simpa using HCN.out _ _ _ x2)
 have u3 := hw6.cell x3 (by simpa using HCN.out _ _ _ x3)
 have HG5 := Lib.hid (outN HGW.out (HB5.out.mono HGW.out.size))
 have H9h := Lib.hid H9
 have HG6 := Lib.hid hg6b
 have HCR := Lib.hid (creply_any ⟨er, vl, vr, ns⟩ (.slice a n c) w6 HR6.out HLW.out)
 clear hown6 hg6 hg6b H9 hlt HMAX HM5m HI5 HN5b x0 x1 x2 x3 hw6 hw5 hb5 hb hrow hsl
 go_wp2_with fail
 refine HCR.out.mono ?_
 rintro e w7 ⟨v7, he, ho7, hb7⟩
 have he := he.out
 subst he
 simp only at ho7
 obtain ⟨a7, c7, hv7⟩ := ho7.slice
 rw [HMN.out] at hv7
 subst hv7
 have HX7b := HX6b.out.on hb7
 have r0 := HX7b.r0
 have r1 := HX7b.r1
 have r2 := HX7b.r2
 have r3 := HX7b.r3
 have f := HX7b.f
 have z := HX7b.z
 have HO7 := Lib.hid (ho7.base (b2 := w.heap.size + 3) HX6b.out.z)
 have HT7b := Lib.hid (HT6b.out.on hb7)
 have HB7b := Lib.hid hb7
 clear hb7 ho7 HX7b u0 u1 u2 u3
 go_wp2
 refine bodyPost_ret (v := repV ⟨er, vl, vr, ns⟩ (.slice a7 n c7)) (by simp [results, Tryz.results20, go_sem, r0, r1, r2, r3, f, show w.heap.size + 2 < w7.heap.size by omega]) rfl ?_
 exact MApP.store (r := ⟨er, vl, vr, ns⟩) H.out HG5.out HG6.out HB7b.out H9h.out HT7b.out HO7.out _ _ _ _ _ rfl
end Go.Proofs.YtodcmhmankmaoaaGreat
