/-
  A machine's Apply: what came already.
-/
import Derived.Test.YtbebjpfbbidaiaaGreatSes4
namespace Go.Proofs.YtbebjpfbbidaiaaGreat
open Go.RowKit Go.Sort
open Go.WideMaps
set_option linter.unusedSimpArgs false
set_option linter.unusedVariables false

def wantS (D : DataW Unit) (c : Int) : Prop := True
abbrev sesV (c q : Int) (r : Rep) (v : Value) : Value := .agg #[.int .i64 c, .int .i64 q, .int .i64 r.err, .string r.val, .int .i64 r.ver, v]
theorem look_some {w : World} {b n : Nat} {D : DataW Unit} {s : List S3} (hM : w.ownsMap (H := Unit) Tryz.prog 3 sesElem b n D) (hI : SesIs w D s) {c q : Int} {r : Rep} (hf : fndS s c = some (q, r)) (hk : keyOf Tryz.prog 3 (.int .i64 c) = some (kI c)) :
    ∃ v, SK.Own w 0 v r.names ∧ ∀ w2 : World, w2.ownsMap (H := Unit) Tryz.prog 3 sesElem b n D → (Instr.lookup 72 (.map (some b)) (.int .i64 c) true).run Tryz.prog w2 = .ok (.tuple #[sesV c q r v, .bool true]) w2 := by
  obtain ⟨x0, h1, h2⟩ := hI.val c q r hf
  refine ⟨slV x0.sl x0.n, h2.row, fun w2 hM2 => ?_⟩
  obtain ⟨v, ps, hr, hv⟩ := hM2.look_ok intK Tryz.underlying72 (zeroS w2) (sesElem_mk (x := svZ) (fun _ => rfl)) hk
  obtain ⟨x, hx, rfl, hz⟩ := sesElem_inv hv
  have e := congrArg Prod.fst hz
  change D.atKey (kI c) (svD svZ) = svD x at e
  rw [h1] at e
  have hxx := svD_inj h2.ok hx e
  subst hxx
  have hh : Maps.has D (kI c) = true := by rw [hI.has, hf]; rfl
  rw [hh] at hr
  rw [hr]
  obtain ⟨a1, a2, a3, a4, a5⟩ := (⟨h2.cl, h2.sq, h2.er, h2.vl, h2.vr⟩ : _ ∧ _ ∧ _ ∧ _ ∧ _)
  simp only at a1 a2 a3 a4 a5
  simp only [svV, sesV, a1, a2, a3, a4, a5]
theorem look_none {w : World} {b n : Nat} {D : DataW Unit} {s : List S3} (hI : SesIs w D s) {c : Int} (hf : fndS s c = none) (hk : keyOf Tryz.prog 3 (.int .i64 c) = some (kI c)) :
    ∀ w2 : World, w2.ownsMap (H := Unit) Tryz.prog 3 sesElem b n D → (Instr.lookup 72 (.map (some b)) (.int .i64 c) true).run Tryz.prog w2 = .ok (.tuple #[sesV 0 0 (bad 0) (.slice none 0 0), .bool false]) w2 := by
  intro w2 hM2
  obtain ⟨v, ps, hr, hv⟩ := hM2.look_ok intK Tryz.underlying72 (zeroS w2) (sesElem_mk (x := svZ) (fun _ => rfl)) hk
  obtain ⟨x, hx, rfl, hz⟩ := sesElem_inv hv
  have e := congrArg Prod.fst hz
  have hh : Maps.has D (kI c) = false := by rw [hI.has, hf]; rfl
  rw [hh] at hr
  have e2 : D.atKey (kI c) (svD svZ) = svD x := e
  rw [Maps.atKey_of_not_has hh] at e2
  have hxx := svD_inj (x := svZ) (y := x) (fun _ => rfl) hx e2
  subst hxx
  rw [hr]
  rfl
theorem wpList_lookS {ops : Array Oper} {rest : List Oper} {o : Oper} {a : Act} {w : World} {Q : Exit → Act → World → Prop} (hgd : o.guard = none) (m x : Operand) (ho : o.op = .lookup 72 m x true) (b : Nat) (hm : a.eval m = .map (some b)) (c : Int) (hx : a.eval x = .int .i64 c)
    (v : Value) (hr : (Instr.lookup 72 (.map (some b)) (.int .i64 c) true).run Tryz.prog w = .ok v w) (h : wpList Tryz.prog ops Q rest (a.put o.dst v) w) : wpList Tryz.prog ops Q (o :: rest) a w := by
  refine wpList_value (by simp [Region.wanted, hgd]) v w ?_ h
  unfold execOp
  simp only [ho, hm, hx, Sem.run_bind, hr, Result.andThen_ok, Sem.run_pure]
theorem set6 {w w2 : World} {N b : Nat} (h : Below N w w2) (hb : N ≤ b) (x0 x1 x2 x3 x4 x5 : Value) : Below N w ((((((w2.setCell ⟨b, 0, none⟩ x0).setCell ⟨b, 1, none⟩ x1).setCell ⟨b, 2, none⟩ x2).setCell ⟨b, 3, none⟩ x3).setCell ⟨b, 4, none⟩ x4).setCell ⟨b, 5, none⟩ x5) :=
  (((((h.setCell hb _).setCell hb _).setCell hb _).setCell hb _).setCell hb _).setCell hb _
theorem valS_b {c q : Int} (h : valS c q = true) : 0 ≤ c ∧ c ≤ 1099511627776 ∧ 1 ≤ q ∧ q ≤ 1099511627776 := by
  simp only [valS, Bool.and_eq_true, decide_eq_true_eq] at h
  exact ⟨h.1.1.1, h.1.1.2, h.1.2, h.2⟩
set_option maxRecDepth 100000 in
set_option maxHeartbeats 2000000 in
theorem mapply_old {X w : World} {g d bk sb K : Nat} {m : Mac} (h : MacAt X g d bk sb K m w) (t : Cm) (r : Rep) (vc : Value) (ho : t.op ≠ 0) (hval : valS t.cl t.sq = true) (hv : ∃ a n c, vc = .slice a n c) {q5 : Int} {r5 : Rep} (hf : fndS m.s t.cl = some (q5, r5)) (hq : t.sq < q5) :
    Calls Tryz.prog 17 #[dP g, cmV t, repV r vc] w (MApP (bad 6, m) X g d bk sb K w) := by
  obtain ⟨a, n, c, rfl⟩ := hv
  obtain ⟨Z, hZ⟩ : ∃ Z, box3 w t r (.slice a n c) = Z := ⟨_, rfl⟩
  have hB : Below w.heap.size w Z := by rw [← hZ]; exact box3_below ..
  have hX3 : BX3 w.heap.size t r (.slice a n c) Z := by rw [← hZ]; exact BX3.mk' ..
  have o1 : (t.op == 0) = false := by simpa using ho
  obtain ⟨c0, c1, c2, c3, c4, c5, c6, c7⟩ := hX3.c
  have HX3 := Lib.hid hX3
  have H := Lib.hid h
  have HZm := Lib.hid (h.on hB)
  have HB := Lib.hid hB
  have HV := Lib.hid (valid9_any t.cl t.sq t.op t.pa t.va t.ver t.a t.b Z)
  rw [hval] at HV
  have HVB := Lib.hid (valS_b hval)
  have HF := Lib.hid hf
  clear hf
  clear h hB hX3 ho hval
  go_enter Tryz.func17, Tryz.ntmps17
  go_wp2_with fail
  refine HV.out.mono ?_
  rintro e w1 ⟨rfl, hb⟩
  have HX4 := Lib.hid (HX3.out.on hb)
  have HB1 := Lib.hid (below_self HB.out hb)
  have H1 := Lib.hid (HZm.out.on hb)
  clear hb hZ c0 c1 c2 c3 c4 c5 c6 c7 HX3 HB HZm HV
  obtain ⟨D, nn, hnn, hM, hI⟩ := H1.out.map
  have hkey : keyOf Tryz.prog 3 (.int .i64 t.cl) = some (kI t.cl) := kI_key (by have := HVB.out; omega) (by have := HVB.out; omega)
  have HM := Lib.hid hM
  have HKEY := Lib.hid hkey
  have HNN := Lib.hid hnn
  have HI := Lib.hid hI
  obtain ⟨vs, hown, hrun⟩ := look_some hM hI HF.out hkey
  obtain ⟨a5, c5, rfl⟩ := hown.slice
  obtain ⟨N5, hN5⟩ : ∃ N, r5.names.length = N := ⟨_, rfl⟩
  rw [hN5] at hown hrun
  have HN5 := Lib.hid hN5
  have HRUN := Lib.hid hrun
  have HOWN := Lib.hid hown
  obtain ⟨er5, vl5, vr5, ns5⟩ := r5
  have HKP : Hid (∀ w', Below w1.heap.size w1 w' → w'.cell? ⟨g, 1, none⟩ = some (.map (some sb)) ∧ w'.cell? ⟨w.heap.size, 0, none⟩ = some (.int .i64 t.cl) ∧ (Instr.lookup 72 (.map (some sb)) (.int .i64 t.cl) true).run Tryz.prog w' = .ok (.tuple #[.agg #[Value.int .i64 t.cl, .int .i64 q5, .int .i64 er5, .string vl5, .int .i64 vr5, .slice a5 N5 c5], .bool true]) w' ∧ Below w1.heap.size w1 w') := Lib.hid (fun w' hb => ⟨(H1.out.on hb).c1, (HX4.out.on hb).c.c0, HRUN.out w' (HM.out.kept (row := none) ⟨hb.os, hb.tape, hb.output, hb.size, fun k hk _ => hb.block k hk⟩ (by simp)), hb⟩)
  clear hM hI hkey hnn hown hrun
  go_wp2_with fail
  refine wp_region_held_drew (S := (fun w' => w'.cell? ⟨g, 1, none⟩ = some (.map (some sb)) ∧ w'.cell? ⟨w.heap.size, 0, none⟩ = some (.int .i64 t.cl) ∧ (Instr.lookup 72 (.map (some sb)) (.int .i64 t.cl) true).run Tryz.prog w' = .ok (.tuple #[.agg #[Value.int .i64 t.cl, .int .i64 q5, .int .i64 er5, .string vl5, .int .i64 vr5, .slice a5 N5 c5], .bool true]) w' ∧ Below w1.heap.size w1 w')) (by kernel_rfl) ?_ (fun hHeld => ?_)
  · ((first
    | exact HKP.out _ (((Below.refl _ _).alloc (Nat.le_refl _) _).drew)
    | exact HKP.out _ ((((Below.refl _ _).drew).alloc (Nat.le_refl _) _))
    | exact HKP.out _ ((Below.refl _ _).alloc (Nat.le_refl _) _)
    | exact HKP.out _ (Below.refl _ _).drew
    | exact HKP.out _ (Below.refl _ _)
    | fail))
  refine wpAnyH_take (i := 0) (v := ?_) rfl (by kernel_rfl) (by kernel_rfl) (by kernel_rfl) (fun _ _ _ h => h) (Or.inl ⟨by rfl, ?_⟩) (by assumption) ?_
  rotate_left
  · (intro w hSw; (try dsimp only at hSw); go_simp; try rfl)
  try simp only [Act.put, List.setIfInBounds_toArray, List.set_cons_zero, List.set_cons_succ, List.getElem_toArray, List.getElem_cons_zero, List.getElem_cons_succ]
  refine wpAnyH_take (i := 1) (v := ?_) rfl (by kernel_rfl) (by kernel_rfl) (by kernel_rfl) (fun _ _ _ h => h) (Or.inl ⟨by rfl, ?_⟩) (by assumption) ?_
  rotate_left
  · (intro w hSw; (try dsimp only at hSw); go_simp; try rfl)
  try simp only [Act.put, List.setIfInBounds_toArray, List.set_cons_zero, List.set_cons_succ, List.getElem_toArray, List.getElem_cons_zero, List.getElem_cons_succ]
  refine wpAnyH_take (i := 2) (v := ?_) rfl (by kernel_rfl) (by kernel_rfl) (by kernel_rfl) (fun _ _ _ h => h) (Or.inl ⟨by rfl, ?_⟩) (by assumption) ?_
  rotate_left
  · (intro w hSw; (try dsimp only at hSw); go_simp; try rfl)
  try simp only [Act.put, List.setIfInBounds_toArray, List.set_cons_zero, List.set_cons_succ, List.getElem_toArray, List.getElem_cons_zero, List.getElem_cons_succ]
  refine wpAnyH_take (i := 3) (v := ?_) rfl (by kernel_rfl) (by kernel_rfl) (by kernel_rfl) (fun _ _ _ h => h) (Or.inl ⟨by rfl, ?_⟩) (by assumption) ?_
  rotate_left
  · (intro w hSw; (try dsimp only at hSw); go_simp; try rfl)
  try simp only [Act.put, List.setIfInBounds_toArray, List.set_cons_zero, List.set_cons_succ, List.getElem_toArray, List.getElem_cons_zero, List.getElem_cons_succ]
  refine wpAnyH_take (i := 4) (v := ?_) rfl (by kernel_rfl) (by kernel_rfl) (by kernel_rfl) (fun _ _ _ h => h) (Or.inl ⟨by rfl, ?_⟩) (by assumption) ?_
  rotate_left
  · (intro w hSw; (try dsimp only at hSw); go_simp; try rfl)
  try simp only [Act.put, List.setIfInBounds_toArray, List.set_cons_zero, List.set_cons_succ, List.getElem_toArray, List.getElem_cons_zero, List.getElem_cons_succ]
  refine wpAnyH_take (i := 5) (v := ?_) rfl (by kernel_rfl) (by kernel_rfl) (by kernel_rfl) (fun _ _ _ h => h) (Or.inl ⟨by rfl, ?_⟩) (by assumption) ?_
  rotate_left
  · (intro w hSw; (try dsimp only at hSw); go_simp; try rfl)
  try simp only [Act.put, List.setIfInBounds_toArray, List.set_cons_zero, List.set_cons_succ, List.getElem_toArray, List.getElem_cons_zero, List.getElem_cons_succ]
  refine wpAnyH_take (i := 6) (v := ?_) rfl (by kernel_rfl) (by kernel_rfl) (by kernel_rfl) (fun _ _ _ h => h) (Or.inl ⟨by rfl, ?_⟩) (by assumption) ?_
  rotate_left
  · (intro w hSw; (try dsimp only at hSw); go_simp; try rfl)
  try simp only [Act.put, List.setIfInBounds_toArray, List.set_cons_zero, List.set_cons_succ, List.getElem_toArray, List.getElem_cons_zero, List.getElem_cons_succ]
  refine wpAnyH_take (i := 7) (v := ?_) rfl (by kernel_rfl) (by kernel_rfl) (by kernel_rfl) (fun _ _ _ h => h) (Or.inl ⟨by rfl, ?_⟩) (by assumption) ?_
  rotate_left
  · (intro w hSw; (try dsimp only at hSw); go_simp; try rfl)
  try simp only [Act.put, List.setIfInBounds_toArray, List.set_cons_zero, List.set_cons_succ, List.getElem_toArray, List.getElem_cons_zero, List.getElem_cons_succ]
  refine wpAnyH_take (i := 8) (v := ?_) rfl (by kernel_rfl) (by kernel_rfl) (by kernel_rfl) (fun _ _ _ h => h) (Or.inl ⟨by rfl, ?_⟩) (by assumption) ?_
  rotate_left
  · (intro w hSw; (try dsimp only at hSw); go_simp; try rfl)
  try simp only [Act.put, List.setIfInBounds_toArray, List.set_cons_zero, List.set_cons_succ, List.getElem_toArray, List.getElem_cons_zero, List.getElem_cons_succ]
  refine wpAnyH_take (i := 9) (v := ?_) rfl (by kernel_rfl) (by kernel_rfl) (by kernel_rfl) (fun _ _ _ h => h) (Or.inl ⟨by rfl, ?_⟩) (by assumption) ?_
  rotate_left
  · (intro w hSw; (try dsimp only at hSw); go_simp; try rfl)
  try simp only [Act.put, List.setIfInBounds_toArray, List.set_cons_zero, List.set_cons_succ, List.getElem_toArray, List.getElem_cons_zero, List.getElem_cons_succ]
  refine wpAnyH_ready (rs := [10]) (by kernel_rfl) (by simp) ?_
  refine (AllReadyH.cons rfl (fun K hK => ?_) AllReadyH.nil)
  go_simp
  refine hK.out _ _ ?_ (fun hHeld => ?_)
  · ((first
    | exact HKP.out _ (((Below.refl _ _).alloc (Nat.le_refl _) _).drew)
    | exact HKP.out _ ((((Below.refl _ _).drew).alloc (Nat.le_refl _) _))
    | exact HKP.out _ ((Below.refl _ _).alloc (Nat.le_refl _) _)
    | exact HKP.out _ (Below.refl _ _).drew
    | exact HKP.out _ (Below.refl _ _)
    | fail))
  clear hK K
  try simp only [Act.put, List.setIfInBounds_toArray, List.set_cons_zero, List.set_cons_succ, List.getElem_toArray, List.getElem_cons_zero, List.getElem_cons_succ]
  refine wpAnyH_ready (rs := [11]) (by kernel_rfl) (by simp) ?_
  refine (AllReadyH.cons rfl (fun K hK => ?_) AllReadyH.nil)
  go_simp
  refine hK.out _ _ ?_ (fun hHeld => ?_)
  · ((first
    | exact HKP.out _ (((Below.refl _ _).alloc (Nat.le_refl _) _).drew)
    | exact HKP.out _ ((((Below.refl _ _).drew).alloc (Nat.le_refl _) _))
    | exact HKP.out _ ((Below.refl _ _).alloc (Nat.le_refl _) _)
    | exact HKP.out _ (Below.refl _ _).drew
    | exact HKP.out _ (Below.refl _ _)
    | fail))
  clear hK K
  try simp only [Act.put, List.setIfInBounds_toArray, List.set_cons_zero, List.set_cons_succ, List.getElem_toArray, List.getElem_cons_zero, List.getElem_cons_succ]
  refine wpAnyH_take (i := 12) (v := ?_) rfl (by kernel_rfl) (by kernel_rfl) (by kernel_rfl) (fun _ _ _ h => h) (Or.inl ⟨by rfl, ?_⟩) (by assumption) ?_
  rotate_left
  · (intro w hSw; (try dsimp only at hSw); go_simp; try rfl)
  try simp only [Act.put, List.setIfInBounds_toArray, List.set_cons_zero, List.set_cons_succ, List.getElem_toArray, List.getElem_cons_zero, List.getElem_cons_succ]
  refine wpAnyH_done (by kernel_rfl) ?_ _
  go_split_ands
  clear HKP HRUN
  obtain ⟨Y, hY⟩ : ∃ Y, (w1.alloc (.cells #[Value.int .i64 t.cl, .int .i64 q5, .int .i64 er5, .string vl5, .int .i64 vr5, .slice a5 N5 c5] 35)).drew = Y := ⟨_, rfl⟩
  have hBY : Below w1.heap.size w1 Y := by rw [← hY]; exact ((Below.refl _ _).alloc (Nat.le_refl _) _).drew
  have HBY := Lib.hid hBY
  have HBw := Lib.hid (below_self HB1.out hBY)
  have HX5 := Lib.hid (HX4.out.on hBY)
  have H5 := Lib.hid (H1.out.on hBY)
  have hcs : ∀ j, Y.cell? ⟨w1.heap.size, j, none⟩ = #[Value.int .i64 t.cl, .int .i64 q5, .int .i64 er5, .string vl5, .int .i64 vr5, .slice a5 N5 c5][j]? := fun j => by rw [← hY]; exact new_cell w1 _ 35 j
  obtain ⟨g5, hg5⟩ : ∃ g, w1.heap.size = g := ⟨_, rfl⟩
  rw [hg5] at hcs
  rw [hY, hg5]
  clear hY hg5
  have HO5 := Lib.hid (HOWN.out.below HBY.out)
  have l0 := hcs 0
  have l1 := hcs 1
  have l2 := hcs 2
  have l3 := hcs 3
  have l4 := hcs 4
  have l5 := hcs 5
  simp only [List.getElem?_toArray, List.getElem?_cons_zero, List.getElem?_cons_succ] at l0 l1 l2 l3 l4 l5
  have c1 := HX5.out.c.c1
  clear hcs hBY
  have s1 : t.sq < q5 := hq
  have r0 := HX5.out.r0
  have r1 := HX5.out.r1
  have r2 := HX5.out.r2
  have r3 := HX5.out.r3
  have f := HX5.out.f
  have z := HX5.out.z
  go_wp2
  refine bodyPost_ret (v := repV (bad 6) (.slice none 0 0)) (by simp [results, Tryz.results17, go_sem, bad, r0, r1, r2, r3, f, show w.heap.size + 2 < Y.heap.size by omega]) rfl ?_
  exact MApP.quiet H.out (below4c HBw.out (by omega) _ _ _ _) rfl _ rfl
set_option maxRecDepth 100000 in
set_option maxHeartbeats 2000000 in
theorem mapply_same {X w : World} {g d bk sb K : Nat} {m : Mac} (h : MacAt X g d bk sb K m w) (t : Cm) (r : Rep) (vc : Value) (ho : t.op ≠ 0) (hval : valS t.cl t.sq = true) (hv : ∃ a n c, vc = .slice a n c) {q5 : Int} {r5 : Rep} (hf : fndS m.s t.cl = some (q5, r5)) (hq : q5 = t.sq) (hsmall : ∀ e ∈ m.s, e.2.2.names.length ≤ 100000) :
    Calls Tryz.prog 17 #[dP g, cmV t, repV r vc] w (MApP (r5, m) X g d bk sb K w) := by
  obtain ⟨a, n, c, rfl⟩ := hv
  obtain ⟨Z, hZ⟩ : ∃ Z, box3 w t r (.slice a n c) = Z := ⟨_, rfl⟩
  have hB : Below w.heap.size w Z := by rw [← hZ]; exact box3_below ..
  have hX3 : BX3 w.heap.size t r (.slice a n c) Z := by rw [← hZ]; exact BX3.mk' ..
  have o1 : (t.op == 0) = false := by simpa using ho
  obtain ⟨c0, c1, c2, c3, c4, c5, c6, c7⟩ := hX3.c
  have HX3 := Lib.hid hX3
  have H := Lib.hid h
  have HZm := Lib.hid (h.on hB)
  have HB := Lib.hid hB
  have HV := Lib.hid (valid9_any t.cl t.sq t.op t.pa t.va t.ver t.a t.b Z)
  rw [hval] at HV
  have HVB := Lib.hid (valS_b hval)
  have HF := Lib.hid hf
  clear hf
  have HQ := Lib.hid hq
  clear hq
  clear h hB hX3 ho hval
  go_enter Tryz.func17, Tryz.ntmps17
  go_wp2_with fail
  refine HV.out.mono ?_
  rintro e w1 ⟨rfl, hb⟩
  have HX4 := Lib.hid (HX3.out.on hb)
  have HB1 := Lib.hid (below_self HB.out hb)
  have H1 := Lib.hid (HZm.out.on hb)
  clear hb hZ c0 c1 c2 c3 c4 c5 c6 c7 HX3 HB HZm HV
  obtain ⟨D, nn, hnn, hM, hI⟩ := H1.out.map
  have hkey : keyOf Tryz.prog 3 (.int .i64 t.cl) = some (kI t.cl) := kI_key (by have := HVB.out; omega) (by have := HVB.out; omega)
  have HM := Lib.hid hM
  have HKEY := Lib.hid hkey
  have HNN := Lib.hid hnn
  have HI := Lib.hid hI
  obtain ⟨vs, hown, hrun⟩ := look_some hM hI HF.out hkey
  obtain ⟨a5, c5, rfl⟩ := hown.slice
  obtain ⟨N5, hN5⟩ : ∃ N, r5.names.length = N := ⟨_, rfl⟩
  rw [hN5] at hown hrun
  have HN5 := Lib.hid hN5
  have HRUN := Lib.hid hrun
  have HOWN := Lib.hid hown
  obtain ⟨er5, vl5, vr5, ns5⟩ := r5
  have HKP : Hid (∀ w', Below w1.heap.size w1 w' → w'.cell? ⟨g, 1, none⟩ = some (.map (some sb)) ∧ w'.cell? ⟨w.heap.size, 0, none⟩ = some (.int .i64 t.cl) ∧ (Instr.lookup 72 (.map (some sb)) (.int .i64 t.cl) true).run Tryz.prog w' = .ok (.tuple #[.agg #[Value.int .i64 t.cl, .int .i64 q5, .int .i64 er5, .string vl5, .int .i64 vr5, .slice a5 N5 c5], .bool true]) w' ∧ Below w1.heap.size w1 w') := Lib.hid (fun w' hb => ⟨(H1.out.on hb).c1, (HX4.out.on hb).c.c0, HRUN.out w' (HM.out.kept (row := none) ⟨hb.os, hb.tape, hb.output, hb.size, fun k hk _ => hb.block k hk⟩ (by simp)), hb⟩)
  clear hM hI hkey hnn hown hrun
  go_wp2_with fail
  refine wp_region_held_drew (S := (fun w' => w'.cell? ⟨g, 1, none⟩ = some (.map (some sb)) ∧ w'.cell? ⟨w.heap.size, 0, none⟩ = some (.int .i64 t.cl) ∧ (Instr.lookup 72 (.map (some sb)) (.int .i64 t.cl) true).run Tryz.prog w' = .ok (.tuple #[.agg #[Value.int .i64 t.cl, .int .i64 q5, .int .i64 er5, .string vl5, .int .i64 vr5, .slice a5 N5 c5], .bool true]) w' ∧ Below w1.heap.size w1 w')) (by kernel_rfl) ?_ (fun hHeld => ?_)
  · ((first
    | exact HKP.out _ (((Below.refl _ _).alloc (Nat.le_refl _) _).drew)
    | exact HKP.out _ ((((Below.refl _ _).drew).alloc (Nat.le_refl _) _))
    | exact HKP.out _ ((Below.refl _ _).alloc (Nat.le_refl _) _)
    | exact HKP.out _ (Below.refl _ _).drew
    | exact HKP.out _ (Below.refl _ _)
    | fail))
  refine wpAnyH_take (i := 0) (v := ?_) rfl (by kernel_rfl) (by kernel_rfl) (by kernel_rfl) (fun _ _ _ h => h) (Or.inl ⟨by rfl, ?_⟩) (by assumption) ?_
  rotate_left
  · (intro w hSw; (try dsimp only at hSw); go_simp; try rfl)
  try simp only [Act.put, List.setIfInBounds_toArray, List.set_cons_zero, List.set_cons_succ, List.getElem_toArray, List.getElem_cons_zero, List.getElem_cons_succ]
  refine wpAnyH_take (i := 1) (v := ?_) rfl (by kernel_rfl) (by kernel_rfl) (by kernel_rfl) (fun _ _ _ h => h) (Or.inl ⟨by rfl, ?_⟩) (by assumption) ?_
  rotate_left
  · (intro w hSw; (try dsimp only at hSw); go_simp; try rfl)
  try simp only [Act.put, List.setIfInBounds_toArray, List.set_cons_zero, List.set_cons_succ, List.getElem_toArray, List.getElem_cons_zero, List.getElem_cons_succ]
  refine wpAnyH_take (i := 2) (v := ?_) rfl (by kernel_rfl) (by kernel_rfl) (by kernel_rfl) (fun _ _ _ h => h) (Or.inl ⟨by rfl, ?_⟩) (by assumption) ?_
  rotate_left
  · (intro w hSw; (try dsimp only at hSw); go_simp; try rfl)
  try simp only [Act.put, List.setIfInBounds_toArray, List.set_cons_zero, List.set_cons_succ, List.getElem_toArray, List.getElem_cons_zero, List.getElem_cons_succ]
  refine wpAnyH_take (i := 3) (v := ?_) rfl (by kernel_rfl) (by kernel_rfl) (by kernel_rfl) (fun _ _ _ h => h) (Or.inl ⟨by rfl, ?_⟩) (by assumption) ?_
  rotate_left
  · (intro w hSw; (try dsimp only at hSw); go_simp; try rfl)
  try simp only [Act.put, List.setIfInBounds_toArray, List.set_cons_zero, List.set_cons_succ, List.getElem_toArray, List.getElem_cons_zero, List.getElem_cons_succ]
  refine wpAnyH_take (i := 4) (v := ?_) rfl (by kernel_rfl) (by kernel_rfl) (by kernel_rfl) (fun _ _ _ h => h) (Or.inl ⟨by rfl, ?_⟩) (by assumption) ?_
  rotate_left
  · (intro w hSw; (try dsimp only at hSw); go_simp; try rfl)
  try simp only [Act.put, List.setIfInBounds_toArray, List.set_cons_zero, List.set_cons_succ, List.getElem_toArray, List.getElem_cons_zero, List.getElem_cons_succ]
  refine wpAnyH_take (i := 5) (v := ?_) rfl (by kernel_rfl) (by kernel_rfl) (by kernel_rfl) (fun _ _ _ h => h) (Or.inl ⟨by rfl, ?_⟩) (by assumption) ?_
  rotate_left
  · (intro w hSw; (try dsimp only at hSw); go_simp; try rfl)
  try simp only [Act.put, List.setIfInBounds_toArray, List.set_cons_zero, List.set_cons_succ, List.getElem_toArray, List.getElem_cons_zero, List.getElem_cons_succ]
  refine wpAnyH_take (i := 6) (v := ?_) rfl (by kernel_rfl) (by kernel_rfl) (by kernel_rfl) (fun _ _ _ h => h) (Or.inl ⟨by rfl, ?_⟩) (by assumption) ?_
  rotate_left
  · (intro w hSw; (try dsimp only at hSw); go_simp; try rfl)
  try simp only [Act.put, List.setIfInBounds_toArray, List.set_cons_zero, List.set_cons_succ, List.getElem_toArray, List.getElem_cons_zero, List.getElem_cons_succ]
  refine wpAnyH_take (i := 7) (v := ?_) rfl (by kernel_rfl) (by kernel_rfl) (by kernel_rfl) (fun _ _ _ h => h) (Or.inl ⟨by rfl, ?_⟩) (by assumption) ?_
  rotate_left
  · (intro w hSw; (try dsimp only at hSw); go_simp; try rfl)
  try simp only [Act.put, List.setIfInBounds_toArray, List.set_cons_zero, List.set_cons_succ, List.getElem_toArray, List.getElem_cons_zero, List.getElem_cons_succ]
  refine wpAnyH_take (i := 8) (v := ?_) rfl (by kernel_rfl) (by kernel_rfl) (by kernel_rfl) (fun _ _ _ h => h) (Or.inl ⟨by rfl, ?_⟩) (by assumption) ?_
  rotate_left
  · (intro w hSw; (try dsimp only at hSw); go_simp; try rfl)
  try simp only [Act.put, List.setIfInBounds_toArray, List.set_cons_zero, List.set_cons_succ, List.getElem_toArray, List.getElem_cons_zero, List.getElem_cons_succ]
  refine wpAnyH_take (i := 9) (v := ?_) rfl (by kernel_rfl) (by kernel_rfl) (by kernel_rfl) (fun _ _ _ h => h) (Or.inl ⟨by rfl, ?_⟩) (by assumption) ?_
  rotate_left
  · (intro w hSw; (try dsimp only at hSw); go_simp; try rfl)
  try simp only [Act.put, List.setIfInBounds_toArray, List.set_cons_zero, List.set_cons_succ, List.getElem_toArray, List.getElem_cons_zero, List.getElem_cons_succ]
  refine wpAnyH_ready (rs := [10]) (by kernel_rfl) (by simp) ?_
  refine (AllReadyH.cons rfl (fun K hK => ?_) AllReadyH.nil)
  go_simp
  refine hK.out _ _ ?_ (fun hHeld => ?_)
  · ((first
    | exact HKP.out _ (((Below.refl _ _).alloc (Nat.le_refl _) _).drew)
    | exact HKP.out _ ((((Below.refl _ _).drew).alloc (Nat.le_refl _) _))
    | exact HKP.out _ ((Below.refl _ _).alloc (Nat.le_refl _) _)
    | exact HKP.out _ (Below.refl _ _).drew
    | exact HKP.out _ (Below.refl _ _)
    | fail))
  clear hK K
  try simp only [Act.put, List.setIfInBounds_toArray, List.set_cons_zero, List.set_cons_succ, List.getElem_toArray, List.getElem_cons_zero, List.getElem_cons_succ]
  refine wpAnyH_ready (rs := [11]) (by kernel_rfl) (by simp) ?_
  refine (AllReadyH.cons rfl (fun K hK => ?_) AllReadyH.nil)
  go_simp
  refine hK.out _ _ ?_ (fun hHeld => ?_)
  · ((first
    | exact HKP.out _ (((Below.refl _ _).alloc (Nat.le_refl _) _).drew)
    | exact HKP.out _ ((((Below.refl _ _).drew).alloc (Nat.le_refl _) _))
    | exact HKP.out _ ((Below.refl _ _).alloc (Nat.le_refl _) _)
    | exact HKP.out _ (Below.refl _ _).drew
    | exact HKP.out _ (Below.refl _ _)
    | fail))
  clear hK K
  try simp only [Act.put, List.setIfInBounds_toArray, List.set_cons_zero, List.set_cons_succ, List.getElem_toArray, List.getElem_cons_zero, List.getElem_cons_succ]
  refine wpAnyH_take (i := 12) (v := ?_) rfl (by kernel_rfl) (by kernel_rfl) (by kernel_rfl) (fun _ _ _ h => h) (Or.inl ⟨by rfl, ?_⟩) (by assumption) ?_
  rotate_left
  · (intro w hSw; (try dsimp only at hSw); go_simp; try rfl)
  try simp only [Act.put, List.setIfInBounds_toArray, List.set_cons_zero, List.set_cons_succ, List.getElem_toArray, List.getElem_cons_zero, List.getElem_cons_succ]
  refine wpAnyH_done (by kernel_rfl) ?_ _
  go_split_ands
  clear HKP HRUN
  obtain ⟨Y, hY⟩ : ∃ Y, (w1.alloc (.cells #[Value.int .i64 t.cl, .int .i64 q5, .int .i64 er5, .string vl5, .int .i64 vr5, .slice a5 N5 c5] 35)).drew = Y := ⟨_, rfl⟩
  have hBY : Below w1.heap.size w1 Y := by rw [← hY]; exact ((Below.refl _ _).alloc (Nat.le_refl _) _).drew
  have HBY := Lib.hid hBY
  have HBw := Lib.hid (below_self HB1.out hBY)
  have HX5 := Lib.hid (HX4.out.on hBY)
  have H5 := Lib.hid (H1.out.on hBY)
  have hcs : ∀ j, Y.cell? ⟨w1.heap.size, j, none⟩ = #[Value.int .i64 t.cl, .int .i64 q5, .int .i64 er5, .string vl5, .int .i64 vr5, .slice a5 N5 c5][j]? := fun j => by rw [← hY]; exact new_cell w1 _ 35 j
  obtain ⟨g5, hg5⟩ : ∃ g, w1.heap.size = g := ⟨_, rfl⟩
  rw [hg5] at hcs
  rw [hY, hg5]
  clear hY hg5
  have HO5 := Lib.hid (HOWN.out.below HBY.out)
  have l0 := hcs 0
  have l1 := hcs 1
  have l2 := hcs 2
  have l3 := hcs 3
  have l4 := hcs 4
  have l5 := hcs 5
  simp only [List.getElem?_toArray, List.getElem?_cons_zero, List.getElem?_cons_succ] at l0 l1 l2 l3 l4 l5
  have c1 := HX5.out.c.c1
  clear hcs hBY
  have s1 : ¬ t.sq < q5 := by have := HQ.out; omega
  have s2 : (q5 == t.sq) = true := by simp [HQ.out]
  have HCR := Lib.hid (creply_any ⟨er5, vl5, vr5, ns5⟩ (.slice a5 N5 c5) Y HO5.out.rd (by simpa using hsmall _ ((fndS_some H.out.right.rise).1 HF.out)))
  clear hsmall
  go_wp2_with fail
  refine HCR.out.mono ?_
  rintro e w2 ⟨v2, he, ho2, hb⟩
  have he := he.out
  subst he
  obtain ⟨a6, c6, hv6⟩ := ho2.slice
  simp only at hv6 ho2
  rw [HN5.out] at hv6
  subst hv6
  have HX6 := HX5.out.on hb
  have r0 := HX6.r0
  have r1 := HX6.r1
  have r2 := HX6.r2
  have r3 := HX6.r3
  have f := HX6.f
  have z := HX6.z
  have HO6 := Lib.hid (ho2.base (b2 := w.heap.size + 3) HX5.out.z)
  have HB6 := Lib.hid (below_self HBw.out hb)
  clear hb ho2 HX6 l0 l1 l2 l3 l4 l5 c1
  go_wp2
  refine bodyPost_ret (v := repV ⟨er5, vl5, vr5, ns5⟩ (.slice a6 N5 c6)) (by simp [results, Tryz.results17, go_sem, r0, r1, r2, r3, f, show w.heap.size + 2 < w2.heap.size by omega]) rfl ?_
  have hB9 := below4c HB6.out (b := w.heap.size + 2) (by omega) (.int .i64 er5) (.string vl5) (.int .i64 vr5) (.slice a6 N5 c6)
  exact ⟨_, rfl, ((((HO6.out.set (by omega) _ _).set (by omega) _ _).set (by omega) _ _).set (by omega) _ _).rd, (H.out.on hB9).mono (Nat.le_succ _), H.out.two hB9⟩
end Go.Proofs.YtbebjpfbbidaiaaGreat
