/-
 The document's machine: a command that is not done.
-/
import Derived.Test.YtodcmhmankmaoaaGreatRs3
import Derived.Deep.RegionLaw
namespace Go.Proofs.YtodcmhmankmaoaaGreat
open Go.RowKit Go.Sort
set_option linter.unusedSimpArgs false
set_option linter.unusedVariables false
set_option maxRecDepth 100000

section
variable {P : Program} {ops : Array Oper} {o : Oper} {a : Act} {w : World} {K : Act → World → Prop} {Q : Exit → Act → World → Prop} {E : Prop}
theorem step_doneA (hg : o.guard = none) (w' : World) (hr : (execOp a.eval o).run P w = .ok .skip w') (hK : K (a.put o.dst undef) w') :
  if Region.wanted o (yielded ops a.tmps) = true then Oper.wp P o a w K Q else E := by
 rw [if_pos (by simp [Region.wanted, hg])]
 unfold Oper.wp
 rw [hr]
 exact hK
theorem step_store_rowA (hgd : o.guard = none) (t : TypeId) (x y : Operand) (ho : o.op = .store t x y) (g : Nat) (hx : a.eval x = .pointer (some ⟨g, 0, none⟩)) (cells : Array Value) (hy : a.eval y = .agg cells)
  (old : Array Value) (e : TypeId) (hg : w.heap[g]? = some (.cells old e (0, 0))) (hi : (P.info? t).map (·.size) = some cells.size) (hs : old.size = cells.size) (h1 : cells.all (·.oneCell') = true)
  (hK : K (a.put o.dst undef) (w.setRow g cells)) : if Region.wanted o (yielded ops a.tmps) = true then Oper.wp P o a w K Q else E := by
 refine step_doneA hgd _ ?_ hK
 unfold execOp
 simp only [ho, hx, hy, Instr.storeAt, Instr.sureAddr, Sem.run_bind, Sem.run_pure, Result.andThen_ok, run_storeVar_row w g e t old cells hg hi hs h1]
end
/-- A list of names stays where a reply's box is set. -/
theorem ng_four {X w : World} {v : Value} {ns : List ByteArray} (h : NG X w v ns) {b : Nat} {cs : List Value} (hb : Bk w b 36 cs) (x y z u : Value) : NG X ((((w.setCell ⟨b, 0, none⟩ x).setCell ⟨b, 1, none⟩ y).setCell ⟨b, 2, none⟩ z).setCell ⟨b, 3, none⟩ u) v ns :=
 h.fr (fr4 w b x y z u) fun k cs' fr e q => by
  subst q
  rw [hb] at e
  injection e with e
  injection e with _ e2
  exact absurd e2 (by decide)
set_option maxHeartbeats 4000000 in
theorem rmapply_none {X w : World} {base r : Nat} {v0 u : Value} {xs : List SG} {m : Mac} (h : RM X w base r v0 u xs m) (hX : Below X.heap.size X w) (hXr : X.heap.size ≤ r) (hbw : base ≤ w.heap.size) (hRm : RightM m) (hl : m.l.length ≤ 900) (hs : m.s.length ≤ 1000) (hz : ∀ x ∈ m.l, x.1.size ≤ 1000) (hver : ∀ x ∈ m.l, 0 ≤ x.2.2 ∧ x.2.2 ≤ 4000000000000) (t : Cm) (c : Rep) (vc : Value) (hvc : SK.Rd X vc c.names) (hp : t.pa.size ≤ 1000) (ho : t.op = 0) :
  Calls Tryz.prog 21 #[.pointer (some ⟨r, 0, none⟩), cmV t, repV c vc] w (RMP (appM m t c) X w base r v0 u) := by
 obtain ⟨ca, cc, ec⟩ := hvc.slice
 subst ec
 have hcS := hvc
 obtain ⟨cn, hcn⟩ : ∃ q, c.names.length = q := ⟨_, rfl⟩
 rw [hcn] at hcS hvc ⊢
 obtain ⟨N, hN⟩ : ∃ q, w.heap.size = q := ⟨_, rfl⟩
 obtain ⟨Z, hZ⟩ : ∃ q, box3 w t c (.slice ca cn cc) = q := ⟨_, rfl⟩
 have HB : Hid (Below w.heap.size w Z) := Lib.hid (by rw [← hZ]; exact box3_below ..)
 have HK0 : Hid (Bk Z N 40 [.int .i64 t.cl, .int .i64 t.sq, .int .i64 t.op, .string t.pa, .string t.va, .int .i64 t.ver, .int .i64 t.a, .int .i64 t.b]) := Lib.hid (by rw [← hZ]; exact ((Bk.newA hN 40 [.int .i64 t.cl, .int .i64 t.sq, .int .i64 t.op, .string t.pa, .string t.va, .int .i64 t.ver, .int .i64 t.a, .int .i64 t.b]).old _).old _)
 have HK1 : Hid (Bk Z (N + 1) 36 [.int .i64 c.err, .string c.val, .int .i64 c.ver, .slice ca cn cc]) := Lib.hid (by rw [← hZ]; exact (Bk.newA (by simp [hN]) 36 [.int .i64 c.err, .string c.val, .int .i64 c.ver, .slice ca cn cc]).old _)
 have HK2 : Hid (Bk Z (N + 2) 36 [.int .i64 0, .string { data := #[] }, .int .i64 0, .slice none 0 0]) := Lib.hid (by rw [← hZ]; exact Bk.newA (by simp [hN]) 36 [.int .i64 0, .string { data := #[] }, .int .i64 0, .slice none 0 0])
 have HM := Lib.hid h
 have HXw := Lib.hid hX
 have HXr := Lib.hid hXr
 have Hbw := Lib.hid hbw
 have HRm := Lib.hid hRm
 have HLl := Lib.hid hl
 have HLs := Lib.hid hs
 have HZz := Lib.hid hz
 have HVer := Lib.hid hver
 have HP := Lib.hid hp
 have HCn := Lib.hid hcn
 have HCS := Lib.hid hcS
 have HNn := Lib.hid hN
 obtain ⟨au, cu, eu⟩ := HM.out.own.slice
 obtain ⟨nu, hnu⟩ : ∃ q, xs.length = q := ⟨_, rfl⟩
 rw [hnu] at eu
 subst eu
 have HNu : Hid (nu = m.s.length) := Lib.hid (by rw [← hnu]; exact HM.out.mt.len)
 have hnu1 : nu ≤ 1000 := by rw [HNu.out]; exact hs
 clear h hX hXr hbw hRm hl hs hz hver hp hcn hcS hnu hvc
 have HAp : Hid (appM m t c = (bad 0, m)) := Lib.hid (by unfold appM actM; rw [if_pos ho])
 have o1 : (t.op == 0) = true := by simp [ho]
 have d0 := Bk.cell HK0.out 0
 have d1 := Bk.cell HK0.out 1
 have d2 := Bk.cell HK0.out 2
 have d3 := Bk.cell HK0.out 3
 have d4 := Bk.cell HK0.out 4
 have d5 := Bk.cell HK0.out 5
 have d6 := Bk.cell HK0.out 6
 have d7 := Bk.cell HK0.out 7
 simp only [List.getElem?_cons_zero, List.getElem?_cons_succ] at d0 d1 d2 d3 d4 d5 d6 d7
 clear ho
 go_enter Tryz.func21, Tryz.ntmps21
 have r0 := Bk.cell HK2.out 0
 have r1 := Bk.cell HK2.out 1
 have r2 := Bk.cell HK2.out 2
 have r3 := Bk.cell HK2.out 3
 simp only [List.getElem?_cons_zero, List.getElem?_cons_succ] at r0 r1 r2 r3
 have f2 := Bk.fz HK2.out
 have hz2 := Bk.lt HK2.out
 go_wp2
 refine bodyPost_ret (v := repV (bad 0) (.slice none 0 0)) (by simp [results, Tryz.results21, go_sem, bad, r0, r1, r2, r3, f2, hz2]) rfl ?_
 rw [HAp.out]
 exact RMP.quiet HM.out (below4c HB.out (by have := HNn.out; omega) _ _ _ _) rfl (NG.none _ _)
set_option maxHeartbeats 4000000 in
theorem rmapply_bad {X w : World} {base r : Nat} {v0 u : Value} {xs : List SG} {m : Mac} (h : RM X w base r v0 u xs m) (hX : Below X.heap.size X w) (hXr : X.heap.size ≤ r) (hbw : base ≤ w.heap.size) (hRm : RightM m) (hl : m.l.length ≤ 900) (hs : m.s.length ≤ 1000) (hz : ∀ x ∈ m.l, x.1.size ≤ 1000) (hver : ∀ x ∈ m.l, 0 ≤ x.2.2 ∧ x.2.2 ≤ 4000000000000) (t : Cm) (c : Rep) (vc : Value) (hvc : SK.Rd X vc c.names) (hp : t.pa.size ≤ 1000) (ho : t.op ≠ 0) (hval : valS t.cl t.sq = false) :
  Calls Tryz.prog 21 #[.pointer (some ⟨r, 0, none⟩), cmV t, repV c vc] w (RMP (appM m t c) X w base r v0 u) := by
 obtain ⟨ca, cc, ec⟩ := hvc.slice
 subst ec
 have hcS := hvc
 obtain ⟨cn, hcn⟩ : ∃ q, c.names.length = q := ⟨_, rfl⟩
 rw [hcn] at hcS hvc ⊢
 obtain ⟨N, hN⟩ : ∃ q, w.heap.size = q := ⟨_, rfl⟩
 obtain ⟨Z, hZ⟩ : ∃ q, box3 w t c (.slice ca cn cc) = q := ⟨_, rfl⟩
 have HB : Hid (Below w.heap.size w Z) := Lib.hid (by rw [← hZ]; exact box3_below ..)
 have HK0 : Hid (Bk Z N 40 [.int .i64 t.cl, .int .i64 t.sq, .int .i64 t.op, .string t.pa, .string t.va, .int .i64 t.ver, .int .i64 t.a, .int .i64 t.b]) := Lib.hid (by rw [← hZ]; exact ((Bk.newA hN 40 [.int .i64 t.cl, .int .i64 t.sq, .int .i64 t.op, .string t.pa, .string t.va, .int .i64 t.ver, .int .i64 t.a, .int .i64 t.b]).old _).old _)
 have HK1 : Hid (Bk Z (N + 1) 36 [.int .i64 c.err, .string c.val, .int .i64 c.ver, .slice ca cn cc]) := Lib.hid (by rw [← hZ]; exact (Bk.newA (by simp [hN]) 36 [.int .i64 c.err, .string c.val, .int .i64 c.ver, .slice ca cn cc]).old _)
 have HK2 : Hid (Bk Z (N + 2) 36 [.int .i64 0, .string { data := #[] }, .int .i64 0, .slice none 0 0]) := Lib.hid (by rw [← hZ]; exact Bk.newA (by simp [hN]) 36 [.int .i64 0, .string { data := #[] }, .int .i64 0, .slice none 0 0])
 have HM := Lib.hid h
 have HXw := Lib.hid hX
 have HXr := Lib.hid hXr
 have Hbw := Lib.hid hbw
 have HRm := Lib.hid hRm
 have HLl := Lib.hid hl
 have HLs := Lib.hid hs
 have HZz := Lib.hid hz
 have HVer := Lib.hid hver
 have HP := Lib.hid hp
 have HCn := Lib.hid hcn
 have HCS := Lib.hid hcS
 have HNn := Lib.hid hN
 obtain ⟨au, cu, eu⟩ := HM.out.own.slice
 obtain ⟨nu, hnu⟩ : ∃ q, xs.length = q := ⟨_, rfl⟩
 rw [hnu] at eu
 subst eu
 have HNu : Hid (nu = m.s.length) := Lib.hid (by rw [← hnu]; exact HM.out.mt.len)
 have hnu1 : nu ≤ 1000 := by rw [HNu.out]; exact hs
 clear h hX hXr hbw hRm hl hs hz hver hp hcn hcS hnu hvc
 have o1 : (t.op == 0) = false := by simpa using ho
 have HVl : Hid (valS t.cl t.sq = false) := Lib.hid hval
 have d0 := Bk.cell HK0.out 0
 have d1 := Bk.cell HK0.out 1
 have d2 := Bk.cell HK0.out 2
 have d3 := Bk.cell HK0.out 3
 have d4 := Bk.cell HK0.out 4
 have d5 := Bk.cell HK0.out 5
 have d6 := Bk.cell HK0.out 6
 have d7 := Bk.cell HK0.out 7
 simp only [List.getElem?_cons_zero, List.getElem?_cons_succ] at d0 d1 d2 d3 d4 d5 d6 d7
 have HAp : Hid (appM m t c = (bad 1, m)) := Lib.hid (by unfold appM actM; rw [if_neg ho, if_pos hval])
 clear ho hval
 go_enter Tryz.func21, Tryz.ntmps21
 go_wp2_with fail
 try rw [hZ]
 try rw [hN]
 clear hZ
 refine (rvalid9_any t.cl t.sq t.op t.pa t.va t.ver t.a t.b Z).mono ?_
 rintro e w1 ⟨rfl, hb⟩
 rw [HVl.out]
 have HB1 := Lib.hid (HB.out.trans (hb.mono HB.out.size))
 have HK01 := Lib.hid (HK0.out.below hb)
 have HK11 := Lib.hid (HK1.out.below hb)
 have HK21 := Lib.hid (HK2.out.below hb)
 clear hb HB HK0 HK1 HK2 d0 d1 d2 d3 d4 d5 d6 d7
 have r0 := Bk.cell HK21.out 0
 have r1 := Bk.cell HK21.out 1
 have r2 := Bk.cell HK21.out 2
 have r3 := Bk.cell HK21.out 3
 simp only [List.getElem?_cons_zero, List.getElem?_cons_succ] at r0 r1 r2 r3
 have f2 := Bk.fz HK21.out
 have hz2 := Bk.lt HK21.out
 go_wp2
 refine bodyPost_ret (v := repV (bad 1) (.slice none 0 0)) (by simp [results, Tryz.results21, go_sem, bad, r0, r1, r2, r3, f2, hz2]) rfl ?_
 rw [HAp.out]
 exact RMP.quiet HM.out (below4c HB1.out (by have := HNn.out; omega) _ _ _ _) rfl (NG.none _ _)
set_option maxHeartbeats 4000000 in
theorem rmapply_old {X w : World} {base r : Nat} {v0 u : Value} {xs : List SG} {m : Mac} (h : RM X w base r v0 u xs m) (hX : Below X.heap.size X w) (hXr : X.heap.size ≤ r) (hbw : base ≤ w.heap.size) (hRm : RightM m) (hl : m.l.length ≤ 900) (hs : m.s.length ≤ 1000) (hz : ∀ x ∈ m.l, x.1.size ≤ 1000) (hver : ∀ x ∈ m.l, 0 ≤ x.2.2 ∧ x.2.2 ≤ 4000000000000) (t : Cm) (c : Rep) (vc : Value) (hvc : SK.Rd X vc c.names) (hp : t.pa.size ≤ 1000) (ho : t.op ≠ 0) (hval : valS t.cl t.sq = true) {q : Int} {r5 : Rep} (hf : fndS m.s t.cl = some (q, r5)) (hq : t.sq < q) :
  Calls Tryz.prog 21 #[.pointer (some ⟨r, 0, none⟩), cmV t, repV c vc] w (RMP (appM m t c) X w base r v0 u) := by
 obtain ⟨ca, cc, ec⟩ := hvc.slice
 subst ec
 have hcS := hvc
 obtain ⟨cn, hcn⟩ : ∃ q, c.names.length = q := ⟨_, rfl⟩
 rw [hcn] at hcS hvc ⊢
 obtain ⟨N, hN⟩ : ∃ q, w.heap.size = q := ⟨_, rfl⟩
 obtain ⟨Z, hZ⟩ : ∃ q, box3 w t c (.slice ca cn cc) = q := ⟨_, rfl⟩
 have HB : Hid (Below w.heap.size w Z) := Lib.hid (by rw [← hZ]; exact box3_below ..)
 have HK0 : Hid (Bk Z N 40 [.int .i64 t.cl, .int .i64 t.sq, .int .i64 t.op, .string t.pa, .string t.va, .int .i64 t.ver, .int .i64 t.a, .int .i64 t.b]) := Lib.hid (by rw [← hZ]; exact ((Bk.newA hN 40 [.int .i64 t.cl, .int .i64 t.sq, .int .i64 t.op, .string t.pa, .string t.va, .int .i64 t.ver, .int .i64 t.a, .int .i64 t.b]).old _).old _)
 have HK1 : Hid (Bk Z (N + 1) 36 [.int .i64 c.err, .string c.val, .int .i64 c.ver, .slice ca cn cc]) := Lib.hid (by rw [← hZ]; exact (Bk.newA (by simp [hN]) 36 [.int .i64 c.err, .string c.val, .int .i64 c.ver, .slice ca cn cc]).old _)
 have HK2 : Hid (Bk Z (N + 2) 36 [.int .i64 0, .string { data := #[] }, .int .i64 0, .slice none 0 0]) := Lib.hid (by rw [← hZ]; exact Bk.newA (by simp [hN]) 36 [.int .i64 0, .string { data := #[] }, .int .i64 0, .slice none 0 0])
 have HM := Lib.hid h
 have HXw := Lib.hid hX
 have HXr := Lib.hid hXr
 have Hbw := Lib.hid hbw
 have HRm := Lib.hid hRm
 have HLl := Lib.hid hl
 have HLs := Lib.hid hs
 have HZz := Lib.hid hz
 have HVer := Lib.hid hver
 have HP := Lib.hid hp
 have HCn := Lib.hid hcn
 have HCS := Lib.hid hcS
 have HNn := Lib.hid hN
 obtain ⟨au, cu, eu⟩ := HM.out.own.slice
 obtain ⟨nu, hnu⟩ : ∃ q, xs.length = q := ⟨_, rfl⟩
 rw [hnu] at eu
 subst eu
 have HNu : Hid (nu = m.s.length) := Lib.hid (by rw [← hnu]; exact HM.out.mt.len)
 have hnu1 : nu ≤ 1000 := by rw [HNu.out]; exact hs
 clear h hX hXr hbw hRm hl hs hz hver hp hcn hcS hnu hvc
 have o1 : (t.op == 0) = false := by simpa using ho
 have HVl : Hid (valS t.cl t.sq = true) := Lib.hid hval
 have d0 := Bk.cell HK0.out 0
 have d1 := Bk.cell HK0.out 1
 have d2 := Bk.cell HK0.out 2
 have d3 := Bk.cell HK0.out 3
 have d4 := Bk.cell HK0.out 4
 have d5 := Bk.cell HK0.out 5
 have d6 := Bk.cell HK0.out 6
 have d7 := Bk.cell HK0.out 7
 simp only [List.getElem?_cons_zero, List.getElem?_cons_succ] at d0 d1 d2 d3 d4 d5 d6 d7
 have HAp : Hid (appM m t c = (bad 6, m)) := Lib.hid (by unfold appM actM; rw [if_neg ho, if_neg (by simp [hval]), hf]; simp [hq])
 have z2 : decide (t.sq < q) = true := decide_eq_true hq
 clear ho hval
 go_enter Tryz.func21, Tryz.ntmps21
 go_wp2_with fail
 try rw [hZ]
 try rw [hN]
 clear hZ
 refine (rvalid9_any t.cl t.sq t.op t.pa t.va t.ver t.a t.b Z).mono ?_
 rintro e w1 ⟨rfl, hb⟩
 rw [HVl.out]
 have HB1 := Lib.hid (HB.out.trans (hb.mono HB.out.size))
 have HK01 := Lib.hid (HK0.out.below hb)
 have HK11 := Lib.hid (HK1.out.below hb)
 have HK21 := Lib.hid (HK2.out.below hb)
 clear hb HB HK0 HK1 HK2 d0 d1 d2 d3 d4 d5 d6 d7
 go_wp2_with fail
 have HMr : Hid (∀ wq, Below w1.heap.size w1 wq → RM X wq base r v0 (.slice au nu cu) xs m) := Lib.hid fun wq hq => HM.out.on (HB1.out.trans (hq.mono HB1.out.size))
 have HBr : Hid (Below w1.heap.size w1 w1) := Lib.hid (Below.refl _ _)
 go_loopw [8, 9] (fun A i wr => ∃ (k : Nat) (A' : Int), k ≤ nu ∧ A = .int .i64 A' ∧ i = .int .i64 k ∧ Hid (AtI m.s t.cl k A') ∧ Hid (Below w1.heap.size w1 wr)) (fun _ i _ => nu - (intOf i).toNat)
 case atStart => exact ⟨0, -1, Nat.zero_le _, rfl, rfl, Lib.hid (AtI.start _ _), HBr⟩
 case round =>
  clear HBr
  obtain ⟨k, A, hk, rfl, rfl, hA, hB⟩ := hrel
  have tr := Bk.cell (HMr.out _ hB.out).rd.bk 1
  simp only [List.getElem?_cons_zero, List.getElem?_cons_succ] at tr
  by_cases hlt : k < nu
  ·have kn1 : (k : Int) < (nu : Int) := by omega
   have kn2 : decide ((k : Int) < (nu : Int)) = true := decide_eq_true kn1
   have kn3 : decide (k < nu) = true := decide_eq_true hlt
   have HKl : Hid (k < m.s.length) := Lib.hid (by have := HNu.out; omega)
   obtain ⟨-, g, off, ha, -⟩ := sgCell (HMr.out _ hB.out).own.rd k hlt
   subst ha
   obtain ⟨ck, hck⟩ : ∃ q, (m.s.getD k zS).1 = q := ⟨_, rfl⟩
   have HC10 : Hid (∀ wq, Below w1.heap.size w1 wq → (wq.cell? ⟨r, 1, none⟩ = some (.slice (some ⟨g, off, none⟩) nu cu) ∧ wq.cell? ⟨g, off + k * 6, none⟩ = some (.int .i64 ck) ∧ wq.cell? ⟨N, 0, none⟩ = some (.int .i64 t.cl))) := Lib.hid fun wq hq => by
    have hm := HMr.out wq hq
    have q1 := Bk.cell hm.rd.bk 1
    simp only [List.getElem?_cons_zero, List.getElem?_cons_succ] at q1
    obtain ⟨-, g9, off9, ha9, -, -, x0, -⟩ := sgCell hm.own.rd k hlt
    simp only [Option.some.injEq, Addr.mk.injEq, and_true] at ha9
    obtain ⟨rfl, rfl⟩ := ha9
    rw [(hm.mt.at' k HKl.out).cl, hck] at x0
    exact ⟨q1, x0, Bk.cell (HK01.out.below hq) 0⟩
   by_cases hc : ck = t.cl
   ·have z1 : (ck == t.cl) = true := by simp [hc]
    have HCk : Hid ((m.s.getD k zS).1 = t.cl) := Lib.hid (hck.trans hc)
    clear hc hck
    go_wp2_with fail
    refine wp_region_held_drew (S := (fun w' => w'.cell? ⟨r, 1, none⟩ = some (.slice (some ⟨g, off, none⟩) nu cu) ∧ w'.cell? ⟨g, off + k * 6, none⟩ = some (.int .i64 ck) ∧ w'.cell? ⟨N, 0, none⟩ = some (.int .i64 t.cl))) (by kernel_rfl) ?_ (fun hHeld => ?_)
    ·((first
     | exact HC10.out _ hB.out
     | exact HC10.out _ hB.out.drew
     | fail))
    (refine tkA 0 (v := ?_) ?_ ?_; rotate_left; focus (intro w hSw; (try dsimp only at hSw); go_simp; try rfl)); try simp only [Act.put, gA1, gA2, gA3, gA4, gA5, gA6]
    (refine tkA 1 (v := ?_) ?_ ?_; rotate_left; focus (intro w hSw; (try dsimp only at hSw); go_simp; try rfl)); try simp only [Act.put, gA1, gA2, gA3, gA4, gA5, gA6]
    (refine tkA 2 (v := ?_) ?_ ?_; rotate_left; focus (intro w hSw; (try dsimp only at hSw); go_simp; try rfl)); try simp only [Act.put, gA1, gA2, gA3, gA4, gA5, gA6]
    (refine tkA 3 (v := ?_) ?_ ?_; rotate_left; focus (intro w hSw; (try dsimp only at hSw); go_simp; try rfl)); try simp only [Act.put, gA1, gA2, gA3, gA4, gA5, gA6]
    (refine tkA 4 (v := ?_) ?_ ?_; rotate_left; focus (intro w hSw; (try dsimp only at hSw); go_simp; try rfl)); try simp only [Act.put, gA1, gA2, gA3, gA4, gA5, gA6]
    (refine tkA 5 (v := ?_) ?_ ?_; rotate_left; focus (intro w hSw; (try dsimp only at hSw); go_simp; try rfl)); try simp only [Act.put, gA1, gA2, gA3, gA4, gA5, gA6]
    (refine tkA 6 (v := ?_) ?_ ?_; rotate_left; focus (intro w hSw; (try dsimp only at hSw); go_simp; try rfl)); try simp only [Act.put, gA1, gA2, gA3, gA4, gA5, gA6]
    (refine tkA 7 (v := ?_) ?_ ?_; rotate_left; focus (intro w hSw; (try dsimp only at hSw); go_simp; try rfl)); try simp only [Act.put, gA1, gA2, gA3, gA4, gA5, gA6]
    (refine tkA 8 (v := ?_) ?_ ?_; rotate_left; focus (intro w hSw; (try dsimp only at hSw); go_simp; try rfl)); try simp only [Act.put, gA1, gA2, gA3, gA4, gA5, gA6]
    (refine tkA 9 (v := ?_) ?_ ?_; rotate_left; focus (intro w hSw; (try dsimp only at hSw); go_simp; try rfl)); try simp only [Act.put, gA1, gA2, gA3, gA4, gA5, gA6]
    (refine tkA 10 (v := ?_) ?_ ?_; rotate_left; focus (intro w hSw; (try dsimp only at hSw); go_simp; try rfl)); try simp only [Act.put, gA1, gA2, gA3, gA4, gA5, gA6]
    refine wpAnyH_done (by kernel_rfl) ?_ _
    have HBd := Lib.hid hB.out.drew
    have HA2 : Hid (AtI m.s t.cl (k + 1) (k : Int)) := Lib.hid (AtI.here HKl.out HCk.out)
    clear hB HC10 hA
    generalize wr.drew = wd at *
    go_wp2
    go_roundw
    case rel => exact ⟨k + 1, _, by omega, rfl, by go_num, HA2, HBd⟩
    case measure => simp [intOf]; omega
   ·have z1 : (ck == t.cl) = false := by simpa using hc
    have HCk : Hid ((m.s.getD k zS).1 ≠ t.cl) := Lib.hid (by rw [hck]; exact hc)
    clear hc hck
    go_wp2_with fail
    refine wp_region_held_drew (S := (fun w' => w'.cell? ⟨r, 1, none⟩ = some (.slice (some ⟨g, off, none⟩) nu cu) ∧ w'.cell? ⟨g, off + k * 6, none⟩ = some (.int .i64 ck) ∧ w'.cell? ⟨N, 0, none⟩ = some (.int .i64 t.cl))) (by kernel_rfl) ?_ (fun hHeld => ?_)
    ·((first
     | exact HC10.out _ hB.out
     | exact HC10.out _ hB.out.drew
     | fail))
    (refine tkA 0 (v := ?_) ?_ ?_; rotate_left; focus (intro w hSw; (try dsimp only at hSw); go_simp; try rfl)); try simp only [Act.put, gA1, gA2, gA3, gA4, gA5, gA6]
    (refine tkA 1 (v := ?_) ?_ ?_; rotate_left; focus (intro w hSw; (try dsimp only at hSw); go_simp; try rfl)); try simp only [Act.put, gA1, gA2, gA3, gA4, gA5, gA6]
    (refine tkA 2 (v := ?_) ?_ ?_; rotate_left; focus (intro w hSw; (try dsimp only at hSw); go_simp; try rfl)); try simp only [Act.put, gA1, gA2, gA3, gA4, gA5, gA6]
    (refine tkA 3 (v := ?_) ?_ ?_; rotate_left; focus (intro w hSw; (try dsimp only at hSw); go_simp; try rfl)); try simp only [Act.put, gA1, gA2, gA3, gA4, gA5, gA6]
    (refine tkA 4 (v := ?_) ?_ ?_; rotate_left; focus (intro w hSw; (try dsimp only at hSw); go_simp; try rfl)); try simp only [Act.put, gA1, gA2, gA3, gA4, gA5, gA6]
    (refine tkA 5 (v := ?_) ?_ ?_; rotate_left; focus (intro w hSw; (try dsimp only at hSw); go_simp; try rfl)); try simp only [Act.put, gA1, gA2, gA3, gA4, gA5, gA6]
    (refine tkA 6 (v := ?_) ?_ ?_; rotate_left; focus (intro w hSw; (try dsimp only at hSw); go_simp; try rfl)); try simp only [Act.put, gA1, gA2, gA3, gA4, gA5, gA6]
    (refine tkA 7 (v := ?_) ?_ ?_; rotate_left; focus (intro w hSw; (try dsimp only at hSw); go_simp; try rfl)); try simp only [Act.put, gA1, gA2, gA3, gA4, gA5, gA6]
    (refine tkA 8 (v := ?_) ?_ ?_; rotate_left; focus (intro w hSw; (try dsimp only at hSw); go_simp; try rfl)); try simp only [Act.put, gA1, gA2, gA3, gA4, gA5, gA6]
    (refine tkA 9 (v := ?_) ?_ ?_; rotate_left; focus (intro w hSw; (try dsimp only at hSw); go_simp; try rfl)); try simp only [Act.put, gA1, gA2, gA3, gA4, gA5, gA6]
    (refine tkA 10 (v := ?_) ?_ ?_; rotate_left; focus (intro w hSw; (try dsimp only at hSw); go_simp; try rfl)); try simp only [Act.put, gA1, gA2, gA3, gA4, gA5, gA6]
    refine wpAnyH_done (by kernel_rfl) ?_ _
    have HBd := Lib.hid hB.out.drew
    have HA2 : Hid (AtI m.s t.cl (k + 1) A) := Lib.hid (hA.out.on HCk.out)
    clear hB HC10 hA
    generalize wr.drew = wd at *
    go_wp2
    go_roundw
    case rel => exact ⟨k + 1, _, by omega, rfl, by go_num, HA2, HBd⟩
    case measure => simp [intOf]; omega
  ·obtain rfl : nu = k := by omega
   have kk1 : ¬ (nu : Int) < (nu : Int) := by omega
   have hAt := hA.out
   rw [HNu.out] at hAt
   have HAt := Lib.hid (hAt.fnd HRm.out.rise)
   clear hA hAt hlt
   obtain ⟨j, hj, hAj, hE⟩ : ∃ j, j < m.s.length ∧ A = ((j : Nat) : Int) ∧ m.s.getD j zS = (t.cl, q, r5) := by
    rcases HAt.out with ⟨_, e⟩ | ⟨j, q', r', h1, h2, h3, h4⟩
    ·rw [e] at hf; cases hf
    ·rw [hf] at h4
     simp only [Option.some.injEq, Prod.mk.injEq] at h4
     obtain ⟨rfl, rfl⟩ := h4
     exact ⟨j, h1, h2, h3⟩
   subst hAj
   have hjk : j < nu := by have := HNu.out; omega
   have HJ := Lib.hid hj
   have HE := Lib.hid hE
   have jn1 : (j : Int) < (nu : Int) := by omega
   have jn2 : decide (j < nu) = true := decide_eq_true hjk
   have jn3 : (0 : Int) ≤ (j : Int) := by omega
   have jn4 : decide ((0 : Int) ≤ (j : Int)) = true := decide_eq_true jn3
   obtain ⟨-, g, off, ha, -⟩ := sgCell (HMr.out _ hB.out).own.rd j hjk
   subst ha
   have HC12 : Hid (∀ wq, Below w1.heap.size w1 wq → (wq.cell? ⟨r, 1, none⟩ = some (.slice (some ⟨g, off, none⟩) nu cu) ∧ wq.cell? ⟨g, off + j * 6 + 1, none⟩ = some (.int .i64 q) ∧ wq.cell? ⟨N, 1, none⟩ = some (.int .i64 t.sq))) := Lib.hid fun wq hq => by
    have hm := HMr.out wq hq
    have q1 := Bk.cell hm.rd.bk 1
    simp only [List.getElem?_cons_zero, List.getElem?_cons_succ] at q1
    obtain ⟨-, g9, off9, ha9, -, -, -, x1, -⟩ := sgCell hm.own.rd j hjk
    simp only [Option.some.injEq, Addr.mk.injEq, and_true] at ha9
    obtain ⟨rfl, rfl⟩ := ha9
    rw [(hm.mt.at' j HJ.out).sq, HE.out] at x1
    exact ⟨q1, x1, Bk.cell (HK01.out.below hq) 1⟩
   clear hj hE HAt
   go_wp2_with fail
   clear tr
   refine wp_region_held_drew (S := (fun w' => w'.cell? ⟨r, 1, none⟩ = some (.slice (some ⟨g, off, none⟩) nu cu) ∧ w'.cell? ⟨g, off + j * 6 + 1, none⟩ = some (.int .i64 q) ∧ w'.cell? ⟨N, 1, none⟩ = some (.int .i64 t.sq))) (by kernel_rfl) ?_ (fun hHeld => ?_)
   ·((first
    | exact HC12.out _ hB.out
    | exact HC12.out _ hB.out.drew
    | fail))
   (refine tkA 0 (v := ?_) ?_ ?_; rotate_left; focus (intro w hSw; (try dsimp only at hSw); go_simp; try rfl)); try simp only [Act.put, gA1, gA2, gA3, gA4, gA5, gA6]
   (refine tkA 1 (v := ?_) ?_ ?_; rotate_left; focus (intro w hSw; (try dsimp only at hSw); go_simp; try rfl)); try simp only [Act.put, gA1, gA2, gA3, gA4, gA5, gA6]
   (refine tkA 2 (v := ?_) ?_ ?_; rotate_left; focus (intro w hSw; (try dsimp only at hSw); go_simp; try rfl)); try simp only [Act.put, gA1, gA2, gA3, gA4, gA5, gA6]
   (refine tkA 3 (v := ?_) ?_ ?_; rotate_left; focus (intro w hSw; (try dsimp only at hSw); go_simp; try rfl)); try simp only [Act.put, gA1, gA2, gA3, gA4, gA5, gA6]
   (refine tkA 4 (v := ?_) ?_ ?_; rotate_left; focus (intro w hSw; (try dsimp only at hSw); go_simp; try rfl)); try simp only [Act.put, gA1, gA2, gA3, gA4, gA5, gA6]
   (refine tkA 5 (v := ?_) ?_ ?_; rotate_left; focus (intro w hSw; (try dsimp only at hSw); go_simp; try rfl)); try simp only [Act.put, gA1, gA2, gA3, gA4, gA5, gA6]
   (refine tkA 6 (v := ?_) ?_ ?_; rotate_left; focus (intro w hSw; (try dsimp only at hSw); go_simp; try rfl)); try simp only [Act.put, gA1, gA2, gA3, gA4, gA5, gA6]
   (refine tkA 7 (v := ?_) ?_ ?_; rotate_left; focus (intro w hSw; (try dsimp only at hSw); go_simp; try rfl)); try simp only [Act.put, gA1, gA2, gA3, gA4, gA5, gA6]
   (refine tkA 8 (v := ?_) ?_ ?_; rotate_left; focus (intro w hSw; (try dsimp only at hSw); go_simp; try rfl)); try simp only [Act.put, gA1, gA2, gA3, gA4, gA5, gA6]
   (refine tkA 9 (v := ?_) ?_ ?_; rotate_left; focus (intro w hSw; (try dsimp only at hSw); go_simp; try rfl)); try simp only [Act.put, gA1, gA2, gA3, gA4, gA5, gA6]
   (refine tkA 10 (v := ?_) ?_ ?_; rotate_left; focus (intro w hSw; (try dsimp only at hSw); go_simp; try rfl)); try simp only [Act.put, gA1, gA2, gA3, gA4, gA5, gA6]
   (refine tkA 11 (v := ?_) ?_ ?_; rotate_left; focus (intro w hSw; (try dsimp only at hSw); go_simp; try rfl)); try simp only [Act.put, gA1, gA2, gA3, gA4, gA5, gA6]
   (refine tkA 12 (v := ?_) ?_ ?_; rotate_left; focus (intro w hSw; (try dsimp only at hSw); go_simp; try rfl)); try simp only [Act.put, gA1, gA2, gA3, gA4, gA5, gA6]
   (refine tkA 13 (v := ?_) ?_ ?_; rotate_left; focus (intro w hSw; (try dsimp only at hSw); go_simp; try rfl)); try simp only [Act.put, gA1, gA2, gA3, gA4, gA5, gA6]
   (refine tkA 14 (v := ?_) ?_ ?_; rotate_left; focus (intro w hSw; (try dsimp only at hSw); go_simp; try rfl)); try simp only [Act.put, gA1, gA2, gA3, gA4, gA5, gA6]
   refine wpAnyH_done (by kernel_rfl) ?_ _
   have HB2 := Lib.hid hB.out.drew
   clear hB
   generalize wr.drew = HB2w at *
   have HK22 := Lib.hid (HK21.out.below HB2.out)
   have HB3 := Lib.hid (HB1.out.trans (HB2.out.mono HB1.out.size))
   have r0 := Bk.cell HK22.out 0
   have r1 := Bk.cell HK22.out 1
   have r2 := Bk.cell HK22.out 2
   have r3 := Bk.cell HK22.out 3
   simp only [List.getElem?_cons_zero, List.getElem?_cons_succ] at r0 r1 r2 r3
   have f2 := Bk.fz HK22.out
   have hz2 := Bk.lt HK22.out
   go_wp2
   refine bodyPost_ret (v := repV (bad 6) (.slice none 0 0)) (by simp [results, Tryz.results21, go_sem, bad, r0, r1, r2, r3, f2, hz2]) rfl ?_
   rw [HAp.out]
   exact RMP.quiet HM.out (below4c HB3.out (by have := HNn.out; omega) _ _ _ _) rfl (NG.none _ _)
set_option maxHeartbeats 4000000 in
theorem rmapply_same {X w : World} {base r : Nat} {v0 u : Value} {xs : List SG} {m : Mac} (h : RM X w base r v0 u xs m) (hX : Below X.heap.size X w) (hXr : X.heap.size ≤ r) (hbw : base ≤ w.heap.size) (hRm : RightM m) (hl : m.l.length ≤ 900) (hs : m.s.length ≤ 1000) (hz : ∀ x ∈ m.l, x.1.size ≤ 1000) (hver : ∀ x ∈ m.l, 0 ≤ x.2.2 ∧ x.2.2 ≤ 4000000000000) (t : Cm) (c : Rep) (vc : Value) (hvc : SK.Rd X vc c.names) (hp : t.pa.size ≤ 1000) (ho : t.op ≠ 0) (hval : valS t.cl t.sq = true) {q : Int} {r5 : Rep} (hf : fndS m.s t.cl = some (q, r5)) (hq : q = t.sq) :
  Calls Tryz.prog 21 #[.pointer (some ⟨r, 0, none⟩), cmV t, repV c vc] w (RMP (appM m t c) X w base r v0 u) := by
 obtain ⟨ca, cc, ec⟩ := hvc.slice
 subst ec
 have hcS := hvc
 obtain ⟨cn, hcn⟩ : ∃ q, c.names.length = q := ⟨_, rfl⟩
 rw [hcn] at hcS hvc ⊢
 obtain ⟨N, hN⟩ : ∃ q, w.heap.size = q := ⟨_, rfl⟩
 obtain ⟨Z, hZ⟩ : ∃ q, box3 w t c (.slice ca cn cc) = q := ⟨_, rfl⟩
 have HB : Hid (Below w.heap.size w Z) := Lib.hid (by rw [← hZ]; exact box3_below ..)
 have HK0 : Hid (Bk Z N 40 [.int .i64 t.cl, .int .i64 t.sq, .int .i64 t.op, .string t.pa, .string t.va, .int .i64 t.ver, .int .i64 t.a, .int .i64 t.b]) := Lib.hid (by rw [← hZ]; exact ((Bk.newA hN 40 [.int .i64 t.cl, .int .i64 t.sq, .int .i64 t.op, .string t.pa, .string t.va, .int .i64 t.ver, .int .i64 t.a, .int .i64 t.b]).old _).old _)
 have HK1 : Hid (Bk Z (N + 1) 36 [.int .i64 c.err, .string c.val, .int .i64 c.ver, .slice ca cn cc]) := Lib.hid (by rw [← hZ]; exact (Bk.newA (by simp [hN]) 36 [.int .i64 c.err, .string c.val, .int .i64 c.ver, .slice ca cn cc]).old _)
 have HK2 : Hid (Bk Z (N + 2) 36 [.int .i64 0, .string { data := #[] }, .int .i64 0, .slice none 0 0]) := Lib.hid (by rw [← hZ]; exact Bk.newA (by simp [hN]) 36 [.int .i64 0, .string { data := #[] }, .int .i64 0, .slice none 0 0])
 have HM := Lib.hid h
 have HXw := Lib.hid hX
 have HXr := Lib.hid hXr
 have Hbw := Lib.hid hbw
 have HRm := Lib.hid hRm
 have HLl := Lib.hid hl
 have HLs := Lib.hid hs
 have HZz := Lib.hid hz
 have HVer := Lib.hid hver
 have HP := Lib.hid hp
 have HCn := Lib.hid hcn
 have HCS := Lib.hid hcS
 have HNn := Lib.hid hN
 obtain ⟨au, cu, eu⟩ := HM.out.own.slice
 obtain ⟨nu, hnu⟩ : ∃ q, xs.length = q := ⟨_, rfl⟩
 rw [hnu] at eu
 subst eu
 have HNu : Hid (nu = m.s.length) := Lib.hid (by rw [← hnu]; exact HM.out.mt.len)
 have hnu1 : nu ≤ 1000 := by rw [HNu.out]; exact hs
 clear h hX hXr hbw hRm hl hs hz hver hp hcn hcS hnu hvc
 have o1 : (t.op == 0) = false := by simpa using ho
 have HVl : Hid (valS t.cl t.sq = true) := Lib.hid hval
 have d0 := Bk.cell HK0.out 0
 have d1 := Bk.cell HK0.out 1
 have d2 := Bk.cell HK0.out 2
 have d3 := Bk.cell HK0.out 3
 have d4 := Bk.cell HK0.out 4
 have d5 := Bk.cell HK0.out 5
 have d6 := Bk.cell HK0.out 6
 have d7 := Bk.cell HK0.out 7
 simp only [List.getElem?_cons_zero, List.getElem?_cons_succ] at d0 d1 d2 d3 d4 d5 d6 d7
 have HAp : Hid (appM m t c = (r5, m)) := Lib.hid (by unfold appM actM; rw [if_neg ho, if_neg (by simp [hval]), hf]; simp [hq])
 have z2 : decide (t.sq < q) = false := decide_eq_false (by omega)
 have z3 : (q == t.sq) = true := by simp [hq]
 clear ho hval hq
 go_enter Tryz.func21, Tryz.ntmps21
 go_wp2_with fail
 try rw [hZ]
 try rw [hN]
 clear hZ
 refine (rvalid9_any t.cl t.sq t.op t.pa t.va t.ver t.a t.b Z).mono ?_
 rintro e w1 ⟨rfl, hb⟩
 rw [HVl.out]
 have HB1 := Lib.hid (HB.out.trans (hb.mono HB.out.size))
 have HK01 := Lib.hid (HK0.out.below hb)
 have HK11 := Lib.hid (HK1.out.below hb)
 have HK21 := Lib.hid (HK2.out.below hb)
 clear hb HB HK0 HK1 HK2 d0 d1 d2 d3 d4 d5 d6 d7
 go_wp2_with fail
 have HMr : Hid (∀ wq, Below w1.heap.size w1 wq → RM X wq base r v0 (.slice au nu cu) xs m) := Lib.hid fun wq hq => HM.out.on (HB1.out.trans (hq.mono HB1.out.size))
 have HBr : Hid (Below w1.heap.size w1 w1) := Lib.hid (Below.refl _ _)
 go_loopw [8, 9] (fun A i wr => ∃ (k : Nat) (A' : Int), k ≤ nu ∧ A = .int .i64 A' ∧ i = .int .i64 k ∧ Hid (AtI m.s t.cl k A') ∧ Hid (Below w1.heap.size w1 wr)) (fun _ i _ => nu - (intOf i).toNat)
 case atStart => exact ⟨0, -1, Nat.zero_le _, rfl, rfl, Lib.hid (AtI.start _ _), HBr⟩
 case round =>
  clear HBr
  obtain ⟨k, A, hk, rfl, rfl, hA, hB⟩ := hrel
  have tr := Bk.cell (HMr.out _ hB.out).rd.bk 1
  simp only [List.getElem?_cons_zero, List.getElem?_cons_succ] at tr
  by_cases hlt : k < nu
  ·have kn1 : (k : Int) < (nu : Int) := by omega
   have kn2 : decide ((k : Int) < (nu : Int)) = true := decide_eq_true kn1
   have kn3 : decide (k < nu) = true := decide_eq_true hlt
   have HKl : Hid (k < m.s.length) := Lib.hid (by have := HNu.out; omega)
   obtain ⟨-, g, off, ha, -⟩ := sgCell (HMr.out _ hB.out).own.rd k hlt
   subst ha
   obtain ⟨ck, hck⟩ : ∃ q, (m.s.getD k zS).1 = q := ⟨_, rfl⟩
   have HC10 : Hid (∀ wq, Below w1.heap.size w1 wq → (wq.cell? ⟨r, 1, none⟩ = some (.slice (some ⟨g, off, none⟩) nu cu) ∧ wq.cell? ⟨g, off + k * 6, none⟩ = some (.int .i64 ck) ∧ wq.cell? ⟨N, 0, none⟩ = some (.int .i64 t.cl))) := Lib.hid fun wq hq => by
    have hm := HMr.out wq hq
    have q1 := Bk.cell hm.rd.bk 1
    simp only [List.getElem?_cons_zero, List.getElem?_cons_succ] at q1
    obtain ⟨-, g9, off9, ha9, -, -, x0, -⟩ := sgCell hm.own.rd k hlt
    simp only [Option.some.injEq, Addr.mk.injEq, and_true] at ha9
    obtain ⟨rfl, rfl⟩ := ha9
    rw [(hm.mt.at' k HKl.out).cl, hck] at x0
    exact ⟨q1, x0, Bk.cell (HK01.out.below hq) 0⟩
   by_cases hc : ck = t.cl
   ·have z1 : (ck == t.cl) = true := by simp [hc]
    have HCk : Hid ((m.s.getD k zS).1 = t.cl) := Lib.hid (hck.trans hc)
    clear hc hck
    go_wp2_with fail
    refine wp_region_held_drew (S := (fun w' => w'.cell? ⟨r, 1, none⟩ = some (.slice (some ⟨g, off, none⟩) nu cu) ∧ w'.cell? ⟨g, off + k * 6, none⟩ = some (.int .i64 ck) ∧ w'.cell? ⟨N, 0, none⟩ = some (.int .i64 t.cl))) (by kernel_rfl) ?_ (fun hHeld => ?_)
    ·((first
     | exact HC10.out _ hB.out
     | exact HC10.out _ hB.out.drew
     | fail))
    (refine tkA 0 (v := ?_) ?_ ?_; rotate_left; focus (intro w hSw; (try dsimp only at hSw); go_simp; try rfl)); try simp only [Act.put, gA1, gA2, gA3, gA4, gA5, gA6]
    (refine tkA 1 (v := ?_) ?_ ?_; rotate_left; focus (intro w hSw; (try dsimp only at hSw); go_simp; try rfl)); try simp only [Act.put, gA1, gA2, gA3, gA4, gA5, gA6]
    (refine tkA 2 (v := ?_) ?_ ?_; rotate_left; focus (intro w hSw; (try dsimp only at hSw); go_simp; try rfl)); try simp only [Act.put, gA1, gA2, gA3, gA4, gA5, gA6]
    (refine tkA 3 (v := ?_) ?_ ?_; rotate_left; focus (intro w hSw; (try dsimp only at hSw); go_simp; try rfl)); try simp only [Act.put, gA1, gA2, gA3, gA4, gA5, gA6]
    (refine tkA 4 (v := ?_) ?_ ?_; rotate_left; focus (intro w hSw; (try dsimp only at hSw); go_simp; try rfl)); try simp only [Act.put, gA1, gA2, gA3, gA4, gA5, gA6]
    (refine tkA 5 (v := ?_) ?_ ?_; rotate_left; focus (intro w hSw; (try dsimp only at hSw); go_simp; try rfl)); try simp only [Act.put, gA1, gA2, gA3, gA4, gA5, gA6]
    (refine tkA 6 (v := ?_) ?_ ?_; rotate_left; focus (intro w hSw; (try dsimp only at hSw); go_simp; try rfl)); try simp only [Act.put, gA1, gA2, gA3, gA4, gA5, gA6]
    (refine tkA 7 (v := ?_) ?_ ?_; rotate_left; focus (intro w hSw; (try dsimp only at hSw); go_simp; try rfl)); try simp only [Act.put, gA1, gA2, gA3, gA4, gA5, gA6]
    (refine tkA 8 (v := ?_) ?_ ?_; rotate_left; focus (intro w hSw; (try dsimp only at hSw); go_simp; try rfl)); try simp only [Act.put, gA1, gA2, gA3, gA4, gA5, gA6]
    (refine tkA 9 (v := ?_) ?_ ?_; rotate_left; focus (intro w hSw; (try dsimp only at hSw); go_simp; try rfl)); try simp only [Act.put, gA1, gA2, gA3, gA4, gA5, gA6]
    (refine tkA 10 (v := ?_) ?_ ?_; rotate_left; focus (intro w hSw; (try dsimp only at hSw); go_simp; try rfl)); try simp only [Act.put, gA1, gA2, gA3, gA4, gA5, gA6]
    refine wpAnyH_done (by kernel_rfl) ?_ _
    have HBd := Lib.hid hB.out.drew
    have HA2 : Hid (AtI m.s t.cl (k + 1) (k : Int)) := Lib.hid (AtI.here HKl.out HCk.out)
    clear hB HC10 hA
    generalize wr.drew = wd at *
    go_wp2
    go_roundw
    case rel => exact ⟨k + 1, _, by omega, rfl, by go_num, HA2, HBd⟩
    case measure => simp [intOf]; omega
   ·have z1 : (ck == t.cl) = false := by simpa using hc
    have HCk : Hid ((m.s.getD k zS).1 ≠ t.cl) := Lib.hid (by rw [hck]; exact hc)
    clear hc hck
    go_wp2_with fail
    refine wp_region_held_drew (S := (fun w' => w'.cell? ⟨r, 1, none⟩ = some (.slice (some ⟨g, off, none⟩) nu cu) ∧ w'.cell? ⟨g, off + k * 6, none⟩ = some (.int .i64 ck) ∧ w'.cell? ⟨N, 0, none⟩ = some (.int .i64 t.cl))) (by kernel_rfl) ?_ (fun hHeld => ?_)
    ·((first
     | exact HC10.out _ hB.out
     | exact HC10.out _ hB.out.drew
     | fail))
    (refine tkA 0 (v := ?_) ?_ ?_; rotate_left; focus (intro w hSw; (try dsimp only at hSw); go_simp; try rfl)); try simp only [Act.put, gA1, gA2, gA3, gA4, gA5, gA6]
    (refine tkA 1 (v := ?_) ?_ ?_; rotate_left; focus (intro w hSw; (try dsimp only at hSw); go_simp; try rfl)); try simp only [Act.put, gA1, gA2, gA3, gA4, gA5, gA6]
    (refine tkA 2 (v := ?_) ?_ ?_; rotate_left; focus (intro w hSw; (try dsimp only at hSw); go_simp; try rfl)); try simp only [Act.put, gA1, gA2, gA3, gA4, gA5, gA6]
    (refine tkA 3 (v := ?_) ?_ ?_; rotate_left; focus (intro w hSw; (try dsimp only at hSw); go_simp; try rfl)); try simp only [Act.put, gA1, gA2, gA3, gA4, gA5, gA6]
    (refine tkA 4 (v := ?_) ?_ ?_; rotate_left; focus (intro w hSw; (try dsimp only at hSw); go_simp; try rfl)); try simp only [Act.put, gA1, gA2, gA3, gA4, gA5, gA6]
    (refine tkA 5 (v := ?_) ?_ ?_; rotate_left; focus (intro w hSw; (try dsimp only at hSw); go_simp; try rfl)); try simp only [Act.put, gA1, gA2, gA3, gA4, gA5, gA6]
    (refine tkA 6 (v := ?_) ?_ ?_; rotate_left; focus (intro w hSw; (try dsimp only at hSw); go_simp; try rfl)); try simp only [Act.put, gA1, gA2, gA3, gA4, gA5, gA6]
    (refine tkA 7 (v := ?_) ?_ ?_; rotate_left; focus (intro w hSw; (try dsimp only at hSw); go_simp; try rfl)); try simp only [Act.put, gA1, gA2, gA3, gA4, gA5, gA6]
    (refine tkA 8 (v := ?_) ?_ ?_; rotate_left; focus (intro w hSw; (try dsimp only at hSw); go_simp; try rfl)); try simp only [Act.put, gA1, gA2, gA3, gA4, gA5, gA6]
    (refine tkA 9 (v := ?_) ?_ ?_; rotate_left; focus (intro w hSw; (try dsimp only at hSw); go_simp; try rfl)); try simp only [Act.put, gA1, gA2, gA3, gA4, gA5, gA6]
    (refine tkA 10 (v := ?_) ?_ ?_; rotate_left; focus (intro w hSw; (try dsimp only at hSw); go_simp; try rfl)); try simp only [Act.put, gA1, gA2, gA3, gA4, gA5, gA6]
    refine wpAnyH_done (by kernel_rfl) ?_ _
    have HBd := Lib.hid hB.out.drew
    have HA2 : Hid (AtI m.s t.cl (k + 1) A) := Lib.hid (hA.out.on HCk.out)
    clear hB HC10 hA
    generalize wr.drew = wd at *
    go_wp2
    go_roundw
    case rel => exact ⟨k + 1, _, by omega, rfl, by go_num, HA2, HBd⟩
    case measure => simp [intOf]; omega
  ·obtain rfl : nu = k := by omega
   have kk1 : ¬ (nu : Int) < (nu : Int) := by omega
   have hAt := hA.out
   rw [HNu.out] at hAt
   have HAt := Lib.hid (hAt.fnd HRm.out.rise)
   clear hA hAt hlt
   obtain ⟨j, hj, hAj, hE⟩ : ∃ j, j < m.s.length ∧ A = ((j : Nat) : Int) ∧ m.s.getD j zS = (t.cl, q, r5) := by
    rcases HAt.out with ⟨_, e⟩ | ⟨j, q', r', h1, h2, h3, h4⟩
    ·rw [e] at hf; cases hf
    ·rw [hf] at h4
     simp only [Option.some.injEq, Prod.mk.injEq] at h4
     obtain ⟨rfl, rfl⟩ := h4
     exact ⟨j, h1, h2, h3⟩
   subst hAj
   have hjk : j < nu := by have := HNu.out; omega
   have HJ := Lib.hid hj
   have HE := Lib.hid hE
   have jn1 : (j : Int) < (nu : Int) := by omega
   have jn2 : decide (j < nu) = true := decide_eq_true hjk
   have jn3 : (0 : Int) ≤ (j : Int) := by omega
   have jn4 : decide ((0 : Int) ≤ (j : Int)) = true := decide_eq_true jn3
   obtain ⟨-, g, off, ha, -⟩ := sgCell (HMr.out _ hB.out).own.rd j hjk
   subst ha
   have HC12 : Hid (∀ wq, Below w1.heap.size w1 wq → (wq.cell? ⟨r, 1, none⟩ = some (.slice (some ⟨g, off, none⟩) nu cu) ∧ wq.cell? ⟨g, off + j * 6 + 1, none⟩ = some (.int .i64 q) ∧ wq.cell? ⟨N, 1, none⟩ = some (.int .i64 t.sq))) := Lib.hid fun wq hq => by
    have hm := HMr.out wq hq
    have q1 := Bk.cell hm.rd.bk 1
    simp only [List.getElem?_cons_zero, List.getElem?_cons_succ] at q1
    obtain ⟨-, g9, off9, ha9, -, -, -, x1, -⟩ := sgCell hm.own.rd j hjk
    simp only [Option.some.injEq, Addr.mk.injEq, and_true] at ha9
    obtain ⟨rfl, rfl⟩ := ha9
    rw [(hm.mt.at' j HJ.out).sq, HE.out] at x1
    exact ⟨q1, x1, Bk.cell (HK01.out.below hq) 1⟩
   clear hj hE HAt
   go_wp2_with fail
   clear tr
   refine wp_region_held_drew (S := (fun w' => w'.cell? ⟨r, 1, none⟩ = some (.slice (some ⟨g, off, none⟩) nu cu) ∧ w'.cell? ⟨g, off + j * 6 + 1, none⟩ = some (.int .i64 q) ∧ w'.cell? ⟨N, 1, none⟩ = some (.int .i64 t.sq))) (by kernel_rfl) ?_ (fun hHeld => ?_)
   ·((first
    | exact HC12.out _ hB.out
    | exact HC12.out _ hB.out.drew
    | fail))
   (refine tkA 0 (v := ?_) ?_ ?_; rotate_left; focus (intro w hSw; (try dsimp only at hSw); go_simp; try rfl)); try simp only [Act.put, gA1, gA2, gA3, gA4, gA5, gA6]
   (refine tkA 1 (v := ?_) ?_ ?_; rotate_left; focus (intro w hSw; (try dsimp only at hSw); go_simp; try rfl)); try simp only [Act.put, gA1, gA2, gA3, gA4, gA5, gA6]
   (refine tkA 2 (v := ?_) ?_ ?_; rotate_left; focus (intro w hSw; (try dsimp only at hSw); go_simp; try rfl)); try simp only [Act.put, gA1, gA2, gA3, gA4, gA5, gA6]
   (refine tkA 3 (v := ?_) ?_ ?_; rotate_left; focus (intro w hSw; (try dsimp only at hSw); go_simp; try rfl)); try simp only [Act.put, gA1, gA2, gA3, gA4, gA5, gA6]
   (refine tkA 4 (v := ?_) ?_ ?_; rotate_left; focus (intro w hSw; (try dsimp only at hSw); go_simp; try rfl)); try simp only [Act.put, gA1, gA2, gA3, gA4, gA5, gA6]
   (refine tkA 5 (v := ?_) ?_ ?_; rotate_left; focus (intro w hSw; (try dsimp only at hSw); go_simp; try rfl)); try simp only [Act.put, gA1, gA2, gA3, gA4, gA5, gA6]
   (refine tkA 6 (v := ?_) ?_ ?_; rotate_left; focus (intro w hSw; (try dsimp only at hSw); go_simp; try rfl)); try simp only [Act.put, gA1, gA2, gA3, gA4, gA5, gA6]
   (refine tkA 7 (v := ?_) ?_ ?_; rotate_left; focus (intro w hSw; (try dsimp only at hSw); go_simp; try rfl)); try simp only [Act.put, gA1, gA2, gA3, gA4, gA5, gA6]
   (refine tkA 8 (v := ?_) ?_ ?_; rotate_left; focus (intro w hSw; (try dsimp only at hSw); go_simp; try rfl)); try simp only [Act.put, gA1, gA2, gA3, gA4, gA5, gA6]
   (refine tkA 9 (v := ?_) ?_ ?_; rotate_left; focus (intro w hSw; (try dsimp only at hSw); go_simp; try rfl)); try simp only [Act.put, gA1, gA2, gA3, gA4, gA5, gA6]
   (refine tkA 10 (v := ?_) ?_ ?_; rotate_left; focus (intro w hSw; (try dsimp only at hSw); go_simp; try rfl)); try simp only [Act.put, gA1, gA2, gA3, gA4, gA5, gA6]
   (refine tkA 11 (v := ?_) ?_ ?_; rotate_left; focus (intro w hSw; (try dsimp only at hSw); go_simp; try rfl)); try simp only [Act.put, gA1, gA2, gA3, gA4, gA5, gA6]
   (refine tkA 12 (v := ?_) ?_ ?_; rotate_left; focus (intro w hSw; (try dsimp only at hSw); go_simp; try rfl)); try simp only [Act.put, gA1, gA2, gA3, gA4, gA5, gA6]
   (refine tkA 13 (v := ?_) ?_ ?_; rotate_left; focus (intro w hSw; (try dsimp only at hSw); go_simp; try rfl)); try simp only [Act.put, gA1, gA2, gA3, gA4, gA5, gA6]
   (refine tkA 14 (v := ?_) ?_ ?_; rotate_left; focus (intro w hSw; (try dsimp only at hSw); go_simp; try rfl)); try simp only [Act.put, gA1, gA2, gA3, gA4, gA5, gA6]
   refine wpAnyH_done (by kernel_rfl) ?_ _
   have HB2 := Lib.hid hB.out.drew
   clear hB
   generalize wr.drew = HB2w at *
   go_wp2_with fail
   refine wp_region_held_drew (S := (fun w' => w'.cell? ⟨r, 1, none⟩ = some (.slice (some ⟨g, off, none⟩) nu cu) ∧ w'.cell? ⟨g, off + j * 6 + 1, none⟩ = some (.int .i64 q) ∧ w'.cell? ⟨N, 1, none⟩ = some (.int .i64 t.sq))) (by kernel_rfl) ?_ (fun hHeld => ?_)
   ·((first
    | exact HC12.out _ HB2.out
    | exact HC12.out _ HB2.out.drew
    | fail))
   (refine tkA 0 (v := ?_) ?_ ?_; rotate_left; focus (intro w hSw; (try dsimp only at hSw); go_simp; try rfl)); try simp only [Act.put, gA1, gA2, gA3, gA4, gA5, gA6]
   (refine tkA 1 (v := ?_) ?_ ?_; rotate_left; focus (intro w hSw; (try dsimp only at hSw); go_simp; try rfl)); try simp only [Act.put, gA1, gA2, gA3, gA4, gA5, gA6]
   (refine tkA 2 (v := ?_) ?_ ?_; rotate_left; focus (intro w hSw; (try dsimp only at hSw); go_simp; try rfl)); try simp only [Act.put, gA1, gA2, gA3, gA4, gA5, gA6]
   (refine tkA 3 (v := ?_) ?_ ?_; rotate_left; focus (intro w hSw; (try dsimp only at hSw); go_simp; try rfl)); try simp only [Act.put, gA1, gA2, gA3, gA4, gA5, gA6]
   (refine tkA 4 (v := ?_) ?_ ?_; rotate_left; focus (intro w hSw; (try dsimp only at hSw); go_simp; try rfl)); try simp only [Act.put, gA1, gA2, gA3, gA4, gA5, gA6]
   (refine tkA 5 (v := ?_) ?_ ?_; rotate_left; focus (intro w hSw; (try dsimp only at hSw); go_simp; try rfl)); try simp only [Act.put, gA1, gA2, gA3, gA4, gA5, gA6]
   (refine tkA 6 (v := ?_) ?_ ?_; rotate_left; focus (intro w hSw; (try dsimp only at hSw); go_simp; try rfl)); try simp only [Act.put, gA1, gA2, gA3, gA4, gA5, gA6]
   (refine tkA 7 (v := ?_) ?_ ?_; rotate_left; focus (intro w hSw; (try dsimp only at hSw); go_simp; try rfl)); try simp only [Act.put, gA1, gA2, gA3, gA4, gA5, gA6]
   (refine tkA 8 (v := ?_) ?_ ?_; rotate_left; focus (intro w hSw; (try dsimp only at hSw); go_simp; try rfl)); try simp only [Act.put, gA1, gA2, gA3, gA4, gA5, gA6]
   (refine tkA 9 (v := ?_) ?_ ?_; rotate_left; focus (intro w hSw; (try dsimp only at hSw); go_simp; try rfl)); try simp only [Act.put, gA1, gA2, gA3, gA4, gA5, gA6]
   (refine tkA 10 (v := ?_) ?_ ?_; rotate_left; focus (intro w hSw; (try dsimp only at hSw); go_simp; try rfl)); try simp only [Act.put, gA1, gA2, gA3, gA4, gA5, gA6]
   (refine tkA 11 (v := ?_) ?_ ?_; rotate_left; focus (intro w hSw; (try dsimp only at hSw); go_simp; try rfl)); try simp only [Act.put, gA1, gA2, gA3, gA4, gA5, gA6]
   (refine tkA 12 (v := ?_) ?_ ?_; rotate_left; focus (intro w hSw; (try dsimp only at hSw); go_simp; try rfl)); try simp only [Act.put, gA1, gA2, gA3, gA4, gA5, gA6]
   (refine tkA 13 (v := ?_) ?_ ?_; rotate_left; focus (intro w hSw; (try dsimp only at hSw); go_simp; try rfl)); try simp only [Act.put, gA1, gA2, gA3, gA4, gA5, gA6]
   (refine tkA 14 (v := ?_) ?_ ?_; rotate_left; focus (intro w hSw; (try dsimp only at hSw); go_simp; try rfl)); try simp only [Act.put, gA1, gA2, gA3, gA4, gA5, gA6]
   refine wpAnyH_done (by kernel_rfl) ?_ _
   have HB3 := Lib.hid HB2.out.drew
   clear HB2
   generalize HB2w.drew = HB3w at *
   have HK22 := Lib.hid (HK21.out.below HB3.out)
   have HB4 := Lib.hid (HB1.out.trans (HB3.out.mono HB1.out.size))
   have hm := HMr.out _ HB3.out
   obtain ⟨-, g9, off9, ha9, -, -, -, -, x2, x3, x4, x5⟩ := sgCell hm.own.rd j hjk
   simp only [Option.some.injEq, Addr.mk.injEq, and_true] at ha9
   obtain ⟨rfl, rfl⟩ := ha9
   have hg := hm.mt.at' j HJ.out
   have tr := Bk.cell hm.rd.bk 1
   simp only [List.getElem?_cons_zero, List.getElem?_cons_succ] at tr
   rw [hg.er, HE.out] at x2
   rw [hg.vl, HE.out] at x3
   rw [hg.vr, HE.out] at x4
   have hrow := hg.row
   rw [HE.out] at hrow
   simp only at x2 x3 x4 hrow
   obtain ⟨⟨a5, n5, c5⟩, hy⟩ : ∃ y : Option Addr × Nat × Nat, ((xs.getD j sgZ).a, (xs.getD j sgZ).n, (xs.getD j sgZ).c) = y := ⟨_, rfl⟩
   simp only [Prod.mk.injEq] at hy
   obtain ⟨ha5, hn5, hc5⟩ := hy
   rw [ha5, hn5, hc5] at x5 hrow
   obtain ⟨er, vl, vr, ns⟩ := r5
   have HRow := Lib.hid hrow
   simp only at x2 x3 x4
   clear hm hg hrow ha5 hn5 hc5 HC12
   have r0 := Bk.cell HK22.out 0
   have r1 := Bk.cell HK22.out 1
   have r2 := Bk.cell HK22.out 2
   have r3 := Bk.cell HK22.out 3
   simp only [List.getElem?_cons_zero, List.getElem?_cons_succ] at r0 r1 r2 r3
   have f2 := Bk.fz HK22.out
   have hz2 := Bk.lt HK22.out
   go_wp2
   refine bodyPost_ret (v := repV ⟨er, vl, vr, ns⟩ (.slice a5 n5 c5)) (by simp [results, Tryz.results21, go_sem, bad, r0, r1, r2, r3, f2, hz2]) rfl ?_
   rw [HAp.out]
   refine RMP.quiet HM.out (below4c HB4.out (by have := HNn.out; omega) _ _ _ _) rfl ?_
   exact ng_four (HRow.out) HK22.out _ _ _ _
theorem fr_setRow (w : World) (g : Nat) (cs : Array Value) : Fr (fun k => k = g) w (w.setRow g cs) := ⟨rfl, rfl, rfl, by simp [World.setRow], fun k _ hn => by
 unfold World.setRow
 simp only [Array.getElem?_modify]
 rw [if_neg (fun e => hn e.symm)]⟩
/-- Behind the new row of sessions, and the reply's box. -/
theorem rm_end {X w W7 wq : World} {base r N : Nat} {v0 v1 u v' nv : Value} {xs YS : List SG} {s' : List S3} {l' : List E3} {rep : Rep} {cs2 : List Value} (hRD : RD W7 base r 58 [u] v1 l') (hSO : SF.Own W7 base u xs) (hNG : NG X W7 nv rep.names) (hF : Fr (fun k => k = r ∨ v0.ownBlock = some k) w W7) (hK2 : Bk W7 (N + 2) 36 cs2) (hO : ∀ q, v1.ownBlock = some q → v0.ownBlock = some q ∨ N + 3 ≤ q) (hbw : base ≤ w.heap.size ∧ ∀ q, v0.ownBlock = some q → q < w.heap.size) (hN : w.heap.size = N) (hq : Below W7.heap.size W7 wq) (ho : SF.Own wq W7.heap.size v' YS) (hm : MatchG X W7 YS s') (x y z a : Value) :
  RMP (rep, ⟨l', s'⟩) X w base r v0 u (.returned (repV rep nv)) (((((wq.setCell ⟨r, 1, none⟩ v').setCell ⟨N + 2, 0, none⟩ x).setCell ⟨N + 2, 1, none⟩ y).setCell ⟨N + 2, 2, none⟩ z).setCell ⟨N + 2, 3, none⟩ a) := by
 have hlt := hRD.lt
 have hb := hbw.1
 have h2 := hK2.lt
 obtain ⟨w8, hw8⟩ : ∃ q, wq.setCell ⟨r, 1, none⟩ v' = q := ⟨_, rfl⟩
 have f8 : Fr (fun k => k = r) wq w8 := by rw [← hw8]; exact Fr.set wq ⟨r, 1, none⟩ v'
 have bk8 : Bk w8 r 58 [v1, v'] := by rw [← hw8]; exact (hRD.bk.below hq).set 1 v'
 rw [hw8]
 have f9 := fr4 w8 (N + 2) x y z a
 have rQ : wq.heap[r]? = some (.cells [v1, u].toArray 58 (0, 0)) := hRD.bk.below hq
 have nQ : Bk wq (N + 2) 36 cs2 := hK2.below hq
 have n8 : Bk w8 (N + 2) 36 cs2 := f8.bk nQ (by show ¬ N + 2 = r; omega)
 have hsq := hq.size
 have ne8 : ∀ k cs' fr, wq.heap[k]? = some (.cells cs' 9 fr) → ¬ k = r := fun k cs' fr e q => by
  subst q
  rw [rQ] at e
  injection e with e
  injection e with _ e2
  exact absurd e2 (by decide)
 have ne9 : ∀ k cs' fr, w8.heap[k]? = some (.cells cs' 9 fr) → ¬ k = N + 2 := fun k cs' fr e q => by
  subst q
  rw [n8] at e
  injection e with e
  injection e with _ e2
  exact absurd e2 (by decide)
 have own1 : EK.Own w8 base v1 l' := f8.own (hRD.own.below hq) (fun k hk e => by have := hRD.own.from k hk; omega)
 have own2 : SF.Own w8 W7.heap.size v' YS := f8.own ho (fun k hk e => by have := ho.from k hk; omega)
 refine ⟨⟨nv, Lib.hid rfl, ((hNG.on hq).fr f8 ne8).fr f9 ne9⟩, ⟨v1, v', YS, ⟨⟨f9.bk bk8 (by show ¬ r = N + 2; omega), f9.own own1 (fun k hk e => ?_), hlt⟩, (f9.own own2 (fun k hk e => by have := ho.from k hk; omega)).base (by omega), ((hm.on hq).fr f8 ne8).fr f9 ne9⟩, fun q hq' => (hO q hq').elim .inl (fun e => .inr (by omega))⟩, ?_⟩
 ·rcases hO k hk with q | q
  ·have := hbw.2 k q; omega
  ·omega
 ·have f1 : Fr (fun k => W7.heap.size ≤ k) W7 wq := Fr.ofBelow hq
  refine Fr.trans (S := fun k => k = r ∨ v0.ownBlock = some k) (T := fun k => W7.heap.size ≤ k ∨ k = r ∨ k = N + 2) hF ?_ (fun j hj q => ?_)
  ·refine (f1.trans f8 (U := fun k => W7.heap.size ≤ k ∨ k = r) (fun j _ q => q.elim .inl .inr)).trans f9 (fun j _ q => ?_)
   rcases q with (q | q) | q
   ·exact .inl q
   ·exact .inr (.inl q)
   ·exact .inr (.inr q)
  ·have hs7 := hF.size
   rcases q with q | q | q | q
   ·exact q
   ·omega
   ·exact .inl q
   ·omega
end Go.Proofs.YtodcmhmankmaoaaGreat
