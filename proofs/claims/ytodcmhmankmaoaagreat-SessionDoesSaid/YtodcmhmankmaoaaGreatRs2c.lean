/-
 The document's machine: a command that is done.
-/
import Derived.Test.YtodcmhmankmaoaaGreatRs2
import Derived.Deep.RegionLaw
namespace Go.Proofs.YtodcmhmankmaoaaGreat
open Go.RowKit Go.Sort
set_option linter.unusedSimpArgs false
set_option linter.unusedVariables false
set_option maxRecDepth 100000

set_option maxHeartbeats 200000000 in
theorem rmapply_newer_c {X w : World} {base r : Nat} {v0 u : Value} {xs : List SG} {m : Mac} (h : RM X w base r v0 u xs m) (hX : Below X.heap.size X w) (hXr : X.heap.size ≤ r) (hbw : base ≤ w.heap.size) (hRm : RightM m) (hl : m.l.length ≤ 900) (hs : m.s.length ≤ 1000) (hz : ∀ x ∈ m.l, x.1.size ≤ 1000) (hver : ∀ x ∈ m.l, 0 ≤ x.2.2 ∧ x.2.2 ≤ 4000000000000) (t : Cm) (c : Rep) (vc : Value) (hvc : SK.Rd X vc c.names) (hp : t.pa.size ≤ 1000) (ho : t.op ≠ 0) (hval : valS t.cl t.sq = true) {q : Int} {r5 : Rep} (hf : fndS m.s t.cl = some (q, r5)) (hq : q < t.sq) (hct : Tc.ctl t.op = true) :
  Calls Tryz.prog 21 #[.pointer (some ⟨r, 0, none⟩), cmV t, repV c vc] w (RMP (appM m t c) X w base r v0 u) := by
 obtain ⟨ca, cc, ec⟩ := hvc.slice
 subst ec
 have hcS := hvc
 obtain ⟨cn, hcn⟩ : ∃ q, c.names.length = q := ⟨_, rfl⟩
 rw [hcn] at hcS hvc ⊢
 obtain ⟨N, hN⟩ : ∃ q, w.heap.size = q := ⟨_, rfl⟩
 obtain ⟨Z, hZ⟩ : ∃ q, box3 w t c (.slice ca cn cc) = q := ⟨_, rfl⟩
 have HB : Hid (Below w.heap.size w Z) := Lib.hid (by rw [← hZ]; exact box3_below ..)
 have HK0 : Hid (Bk Z N 40 [.int .i64 t.cl, .int .i64 t.sq, .int .i64 t.op, .string t.pa, .string t.va, .int .i64 t.ver, .int .i64 t.a, .int .i64 t.b]) := Lib.hid (by rw [← hZ]; exact ((Bk.newA hN 40 [.int .i64 t.cl, .int .i64 t.sq, .int .i64 t.op, .string t.pa, .string t.va, .int .i64 t.ver, .int .i64 t.a, .int .i64 t.b]).old _).old _)
 have HK1 : Hid (Bk Z (N + 1) 36 [.int .i64 c.err, .string c.val, .int .i64 c.ver, .slice ca cn cc]) := Lib.hid (by rw [← hZ]; exact (Bk.newA (by simp [hN]) 36 [.int .i64 c.err, .string c.val, .int .i64 c.ver, .slice ca cn cc]).old _)
 have HK2 : Hid (Bk Z (N + 2) 36 [.int .i64 0, .string { data := #[] }, .int .i64 0, .slice none 0 0]) := Lib.hid (by rw [← hZ]; exact Bk.newA (by simp [hN]) 36 [.int .i64 0, .string { data := #[] }, .int .i64 0, .slice none 0 0])
 have HM := Lib.hid h
 have HXw := Lib.hid hX
 have HXr := Lib.hid hXr
 have Hbw := Lib.hid hbw
 have HRm := Lib.hid hRm
 have HLl := Lib.hid hl
 have HLs := Lib.hid hs
 have HZz := Lib.hid hz
 have HVer := Lib.hid hver
 have HP := Lib.hid hp
 have HCn := Lib.hid hcn
 have HCS := Lib.hid hcS
 have HNn := Lib.hid hN
 obtain ⟨au, cu, eu⟩ := HM.out.own.slice
 obtain ⟨nu, hnu⟩ : ∃ q, xs.length = q := ⟨_, rfl⟩
 rw [hnu] at eu
 subst eu
 have HNu : Hid (nu = m.s.length) := Lib.hid (by rw [← hnu]; exact HM.out.mt.len)
 have hnu1 : nu ≤ 1000 := by rw [HNu.out]; exact hs
 clear h hX hXr hbw hRm hl hs hz hver hp hcn hcS hnu hvc
 have o1 : (t.op == 0) = false := by simpa using ho
 have HVl : Hid (valS t.cl t.sq = true) := Lib.hid hval
 have d0 := Bk.cell HK0.out 0
 have d1 := Bk.cell HK0.out 1
 have d2 := Bk.cell HK0.out 2
 have d3 := Bk.cell HK0.out 3
 have d4 := Bk.cell HK0.out 4
 have d5 := Bk.cell HK0.out 5
 have d6 := Bk.cell HK0.out 6
 have d7 := Bk.cell HK0.out 7
 simp only [List.getElem?_cons_zero, List.getElem?_cons_succ] at d0 d1 d2 d3 d4 d5 d6 d7
 have HAp : Hid (appM m t c = (c, ⟨m.l, putS m.s t.cl t.sq c⟩)) := Lib.hid (by unfold appM actM; rw [if_neg ho, if_neg (by simp [hval]), hf]; simp only; rw [if_neg (by omega), if_neg (by omega)]; simp only; unfold doM; rw [hct]; rfl)
 have z2 : decide (t.sq < q) = false := decide_eq_false (by omega)
 have z3 : (q == t.sq) = false := by simpa using fun e => by omega
 have HCt := Lib.hid hct
 have HFn := Lib.hid hf
 have HOw : Hid (base ≤ w.heap.size ∧ ∀ q, v0.ownBlock = some q → q < w.heap.size) := Lib.hid ⟨Hbw.out, fun q hq => (HM.out.rd.own.blk q hq).1⟩
 clear Hbw
 have Hbw := HOw
 clear ho hval hq hct
 go_enter Tryz.func21, Tryz.ntmps21
 go_wp2_with fail
 try rw [hZ]
 try rw [hN]
 clear hZ
 refine (rvalid9_any t.cl t.sq t.op t.pa t.va t.ver t.a t.b Z).mono ?_
 rintro e w1 ⟨rfl, hb⟩
 rw [HVl.out]
 have HB1 := Lib.hid (HB.out.trans (hb.mono HB.out.size))
 have HK01 := Lib.hid (HK0.out.below hb)
 have HK11 := Lib.hid (HK1.out.below hb)
 have HK21 := Lib.hid (HK2.out.below hb)
 clear hb HB HK0 HK1 HK2 d0 d1 d2 d3 d4 d5 d6 d7
 go_wp2_with fail
 have HMr : Hid (∀ wq, Below w1.heap.size w1 wq → RM X wq base r v0 (.slice au nu cu) xs m) := Lib.hid fun wq hq => HM.out.on (HB1.out.trans (hq.mono HB1.out.size))
 have HBr : Hid (Below w1.heap.size w1 w1) := Lib.hid (Below.refl _ _)
 go_loopw [8, 9] (fun A i wr => ∃ (k : Nat) (A' : Int), k ≤ nu ∧ A = .int .i64 A' ∧ i = .int .i64 k ∧ Hid (AtI m.s t.cl k A') ∧ Hid (Below w1.heap.size w1 wr)) (fun _ i _ => nu - (intOf i).toNat)
 case atStart => exact ⟨0, -1, Nat.zero_le _, rfl, rfl, Lib.hid (AtI.start _ _), HBr⟩
 case round =>
  clear HBr
  obtain ⟨k, A, hk, rfl, rfl, hA, hB⟩ := hrel
  have tr := Bk.cell (HMr.out _ hB.out).rd.bk 1
  simp only [List.getElem?_cons_zero, List.getElem?_cons_succ] at tr
  by_cases hlt : k < nu
  ·have kn1 : (k : Int) < (nu : Int) := by omega
   have kn2 : decide ((k : Int) < (nu : Int)) = true := decide_eq_true kn1
   have kn3 : decide (k < nu) = true := decide_eq_true hlt
   have HKl : Hid (k < m.s.length) := Lib.hid (by have := HNu.out; omega)
   obtain ⟨-, g, off, ha, -⟩ := sgCell (HMr.out _ hB.out).own.rd k hlt
   subst ha
   obtain ⟨ck, hck⟩ : ∃ q, (m.s.getD k zS).1 = q := ⟨_, rfl⟩
   have HC10 : Hid (∀ wq, Below w1.heap.size w1 wq → (wq.cell? ⟨r, 1, none⟩ = some (.slice (some ⟨g, off, none⟩) nu cu) ∧ wq.cell? ⟨g, off + k * 6, none⟩ = some (.int .i64 ck) ∧ wq.cell? ⟨N, 0, none⟩ = some (.int .i64 t.cl))) := Lib.hid fun wq hq => by
    have hm := HMr.out wq hq
    have q1 := Bk.cell hm.rd.bk 1
    simp only [List.getElem?_cons_zero, List.getElem?_cons_succ] at q1
    obtain ⟨-, g9, off9, ha9, -, -, x0, -⟩ := sgCell hm.own.rd k hlt
    simp only [Option.some.injEq, Addr.mk.injEq, and_true] at ha9
    obtain ⟨rfl, rfl⟩ := ha9
    rw [(hm.mt.at' k HKl.out).cl, hck] at x0
    exact ⟨q1, x0, Bk.cell (HK01.out.below hq) 0⟩
   by_cases hc : ck = t.cl
   ·have z1 : (ck == t.cl) = true := by simp [hc]
    have HCk : Hid ((m.s.getD k zS).1 = t.cl) := Lib.hid (hck.trans hc)
    clear hc hck
    go_wp2_with fail
    refine wp_region_held_drew (S := (fun w' => w'.cell? ⟨r, 1, none⟩ = some (.slice (some ⟨g, off, none⟩) nu cu) ∧ w'.cell? ⟨g, off + k * 6, none⟩ = some (.int .i64 ck) ∧ w'.cell? ⟨N, 0, none⟩ = some (.int .i64 t.cl))) (by kernel_rfl) ?_ (fun hHeld => ?_)
    ·((first
     | exact HC10.out _ hB.out
     | exact HC10.out _ hB.out.drew
     | fail))
    (refine tkA 0 (v := ?_) ?_ ?_; rotate_left; focus (intro w hSw; (try dsimp only at hSw); go_simp; try rfl)); try simp only [Act.put, gA1, gA2, gA3, gA4, gA5, gA6]
    (refine tkA 1 (v := ?_) ?_ ?_; rotate_left; focus (intro w hSw; (try dsimp only at hSw); go_simp; try rfl)); try simp only [Act.put, gA1, gA2, gA3, gA4, gA5, gA6]
    (refine tkA 2 (v := ?_) ?_ ?_; rotate_left; focus (intro w hSw; (try dsimp only at hSw); go_simp; try rfl)); try simp only [Act.put, gA1, gA2, gA3, gA4, gA5, gA6]
    (refine tkA 3 (v := ?_) ?_ ?_; rotate_left; focus (intro w hSw; (try dsimp only at hSw); go_simp; try rfl)); try simp only [Act.put, gA1, gA2, gA3, gA4, gA5, gA6]
    (refine tkA 4 (v := ?_) ?_ ?_; rotate_left; focus (intro w hSw; (try dsimp only at hSw); go_simp; try rfl)); try simp only [Act.put, gA1, gA2, gA3, gA4, gA5, gA6]
    (refine tkA 5 (v := ?_) ?_ ?_; rotate_left; focus (intro w hSw; (try dsimp only at hSw); go_simp; try rfl)); try simp only [Act.put, gA1, gA2, gA3, gA4, gA5, gA6]
    (refine tkA 6 (v := ?_) ?_ ?_; rotate_left; focus (intro w hSw; (try dsimp only at hSw); go_simp; try rfl)); try simp only [Act.put, gA1, gA2, gA3, gA4, gA5, gA6]
    (refine tkA 7 (v := ?_) ?_ ?_; rotate_left; focus (intro w hSw; (try dsimp only at hSw); go_simp; try rfl)); try simp only [Act.put, gA1, gA2, gA3, gA4, gA5, gA6]
    (refine tkA 8 (v := ?_) ?_ ?_; rotate_left; focus (intro w hSw; (try dsimp only at hSw); go_simp; try rfl)); try simp only [Act.put, gA1, gA2, gA3, gA4, gA5, gA6]
    (refine tkA 9 (v := ?_) ?_ ?_; rotate_left; focus (intro w hSw; (try dsimp only at hSw); go_simp; try rfl)); try simp only [Act.put, gA1, gA2, gA3, gA4, gA5, gA6]
    (refine tkA 10 (v := ?_) ?_ ?_; rotate_left; focus (intro w hSw; (try dsimp only at hSw); go_simp; try rfl)); try simp only [Act.put, gA1, gA2, gA3, gA4, gA5, gA6]
    refine wpAnyH_done (by kernel_rfl) ?_ _
    have HBd := Lib.hid hB.out.drew
    have HA2 : Hid (AtI m.s t.cl (k + 1) (k : Int)) := Lib.hid (AtI.here HKl.out HCk.out)
    clear hB HC10 hA
    generalize wr.drew = wd at *
    go_wp2
    go_roundw
    case rel => exact ⟨k + 1, _, by omega, rfl, by go_num, HA2, HBd⟩
    case measure => simp [intOf]; omega
   ·have z1 : (ck == t.cl) = false := by simpa using hc
    have HCk : Hid ((m.s.getD k zS).1 ≠ t.cl) := Lib.hid (by rw [hck]; exact hc)
    clear hc hck
    go_wp2_with fail
    refine wp_region_held_drew (S := (fun w' => w'.cell? ⟨r, 1, none⟩ = some (.slice (some ⟨g, off, none⟩) nu cu) ∧ w'.cell? ⟨g, off + k * 6, none⟩ = some (.int .i64 ck) ∧ w'.cell? ⟨N, 0, none⟩ = some (.int .i64 t.cl))) (by kernel_rfl) ?_ (fun hHeld => ?_)
    ·((first
     | exact HC10.out _ hB.out
     | exact HC10.out _ hB.out.drew
     | fail))
    (refine tkA 0 (v := ?_) ?_ ?_; rotate_left; focus (intro w hSw; (try dsimp only at hSw); go_simp; try rfl)); try simp only [Act.put, gA1, gA2, gA3, gA4, gA5, gA6]
    (refine tkA 1 (v := ?_) ?_ ?_; rotate_left; focus (intro w hSw; (try dsimp only at hSw); go_simp; try rfl)); try simp only [Act.put, gA1, gA2, gA3, gA4, gA5, gA6]
    (refine tkA 2 (v := ?_) ?_ ?_; rotate_left; focus (intro w hSw; (try dsimp only at hSw); go_simp; try rfl)); try simp only [Act.put, gA1, gA2, gA3, gA4, gA5, gA6]
    (refine tkA 3 (v := ?_) ?_ ?_; rotate_left; focus (intro w hSw; (try dsimp only at hSw); go_simp; try rfl)); try simp only [Act.put, gA1, gA2, gA3, gA4, gA5, gA6]
    (refine tkA 4 (v := ?_) ?_ ?_; rotate_left; focus (intro w hSw; (try dsimp only at hSw); go_simp; try rfl)); try simp only [Act.put, gA1, gA2, gA3, gA4, gA5, gA6]
    (refine tkA 5 (v := ?_) ?_ ?_; rotate_left; focus (intro w hSw; (try dsimp only at hSw); go_simp; try rfl)); try simp only [Act.put, gA1, gA2, gA3, gA4, gA5, gA6]
    (refine tkA 6 (v := ?_) ?_ ?_; rotate_left; focus (intro w hSw; (try dsimp only at hSw); go_simp; try rfl)); try simp only [Act.put, gA1, gA2, gA3, gA4, gA5, gA6]
    (refine tkA 7 (v := ?_) ?_ ?_; rotate_left; focus (intro w hSw; (try dsimp only at hSw); go_simp; try rfl)); try simp only [Act.put, gA1, gA2, gA3, gA4, gA5, gA6]
    (refine tkA 8 (v := ?_) ?_ ?_; rotate_left; focus (intro w hSw; (try dsimp only at hSw); go_simp; try rfl)); try simp only [Act.put, gA1, gA2, gA3, gA4, gA5, gA6]
    (refine tkA 9 (v := ?_) ?_ ?_; rotate_left; focus (intro w hSw; (try dsimp only at hSw); go_simp; try rfl)); try simp only [Act.put, gA1, gA2, gA3, gA4, gA5, gA6]
    (refine tkA 10 (v := ?_) ?_ ?_; rotate_left; focus (intro w hSw; (try dsimp only at hSw); go_simp; try rfl)); try simp only [Act.put, gA1, gA2, gA3, gA4, gA5, gA6]
    refine wpAnyH_done (by kernel_rfl) ?_ _
    have HBd := Lib.hid hB.out.drew
    have HA2 : Hid (AtI m.s t.cl (k + 1) A) := Lib.hid (hA.out.on HCk.out)
    clear hB HC10 hA
    generalize wr.drew = wd at *
    go_wp2
    go_roundw
    case rel => exact ⟨k + 1, _, by omega, rfl, by go_num, HA2, HBd⟩
    case measure => simp [intOf]; omega
  ·obtain rfl : nu = k := by omega
   have kk1 : ¬ (nu : Int) < (nu : Int) := by omega
   have hAt := hA.out
   rw [HNu.out] at hAt
   have HAt := Lib.hid (hAt.fnd HRm.out.rise)
   clear hA hAt hlt
   obtain ⟨j, hj, hAj, hE⟩ : ∃ j, j < m.s.length ∧ A = ((j : Nat) : Int) ∧ m.s.getD j zS = (t.cl, q, r5) := by
    rcases HAt.out with ⟨_, e⟩ | ⟨j, q', r', h1, h2, h3, h4⟩
    ·rw [e] at hf; cases hf
    ·rw [hf] at h4
     simp only [Option.some.injEq, Prod.mk.injEq] at h4
     obtain ⟨rfl, rfl⟩ := h4
     exact ⟨j, h1, h2, h3⟩
   subst hAj
   have hjk : j < nu := by have := HNu.out; omega
   have HJ := Lib.hid hj
   have HE := Lib.hid hE
   have jn1 : (j : Int) < (nu : Int) := by omega
   have jn2 : decide (j < nu) = true := decide_eq_true hjk
   have jn3 : (0 : Int) ≤ (j : Int) := by omega
   have jn4 : decide ((0 : Int) ≤ (j : Int)) = true := decide_eq_true jn3
   obtain ⟨-, g, off, ha, -⟩ := sgCell (HMr.out _ hB.out).own.rd j hjk
   subst ha
   have HC12 : Hid (∀ wq, Below w1.heap.size w1 wq → (wq.cell? ⟨r, 1, none⟩ = some (.slice (some ⟨g, off, none⟩) nu cu) ∧ wq.cell? ⟨g, off + j * 6 + 1, none⟩ = some (.int .i64 q) ∧ wq.cell? ⟨N, 1, none⟩ = some (.int .i64 t.sq))) := Lib.hid fun wq hq => by
    have hm := HMr.out wq hq
    have q1 := Bk.cell hm.rd.bk 1
    simp only [List.getElem?_cons_zero, List.getElem?_cons_succ] at q1
    obtain ⟨-, g9, off9, ha9, -, -, -, x1, -⟩ := sgCell hm.own.rd j hjk
    simp only [Option.some.injEq, Addr.mk.injEq, and_true] at ha9
    obtain ⟨rfl, rfl⟩ := ha9
    rw [(hm.mt.at' j HJ.out).sq, HE.out] at x1
    exact ⟨q1, x1, Bk.cell (HK01.out.below hq) 1⟩
   clear hj hE HAt
   go_wp2_with fail
   clear tr
   refine wp_region_held_drew (S := (fun w' => w'.cell? ⟨r, 1, none⟩ = some (.slice (some ⟨g, off, none⟩) nu cu) ∧ w'.cell? ⟨g, off + j * 6 + 1, none⟩ = some (.int .i64 q) ∧ w'.cell? ⟨N, 1, none⟩ = some (.int .i64 t.sq))) (by kernel_rfl) ?_ (fun hHeld => ?_)
   ·((first
    | exact HC12.out _ hB.out
    | exact HC12.out _ hB.out.drew
    | fail))
   (refine tkA 0 (v := ?_) ?_ ?_; rotate_left; focus (intro w hSw; (try dsimp only at hSw); go_simp; try rfl)); try simp only [Act.put, gA1, gA2, gA3, gA4, gA5, gA6]
   (refine tkA 1 (v := ?_) ?_ ?_; rotate_left; focus (intro w hSw; (try dsimp only at hSw); go_simp; try rfl)); try simp only [Act.put, gA1, gA2, gA3, gA4, gA5, gA6]
   (refine tkA 2 (v := ?_) ?_ ?_; rotate_left; focus (intro w hSw; (try dsimp only at hSw); go_simp; try rfl)); try simp only [Act.put, gA1, gA2, gA3, gA4, gA5, gA6]
   (refine tkA 3 (v := ?_) ?_ ?_; rotate_left; focus (intro w hSw; (try dsimp only at hSw); go_simp; try rfl)); try simp only [Act.put, gA1, gA2, gA3, gA4, gA5, gA6]
   (refine tkA 4 (v := ?_) ?_ ?_; rotate_left; focus (intro w hSw; (try dsimp only at hSw); go_simp; try rfl)); try simp only [Act.put, gA1, gA2, gA3, gA4, gA5, gA6]
   (refine tkA 5 (v := ?_) ?_ ?_; rotate_left; focus (intro w hSw; (try dsimp only at hSw); go_simp; try rfl)); try simp only [Act.put, gA1, gA2, gA3, gA4, gA5, gA6]
   (refine tkA 6 (v := ?_) ?_ ?_; rotate_left; focus (intro w hSw; (try dsimp only at hSw); go_simp; try rfl)); try simp only [Act.put, gA1, gA2, gA3, gA4, gA5, gA6]
   (refine tkA 7 (v := ?_) ?_ ?_; rotate_left; focus (intro w hSw; (try dsimp only at hSw); go_simp; try rfl)); try simp only [Act.put, gA1, gA2, gA3, gA4, gA5, gA6]
   (refine tkA 8 (v := ?_) ?_ ?_; rotate_left; focus (intro w hSw; (try dsimp only at hSw); go_simp; try rfl)); try simp only [Act.put, gA1, gA2, gA3, gA4, gA5, gA6]
   (refine tkA 9 (v := ?_) ?_ ?_; rotate_left; focus (intro w hSw; (try dsimp only at hSw); go_simp; try rfl)); try simp only [Act.put, gA1, gA2, gA3, gA4, gA5, gA6]
   (refine tkA 10 (v := ?_) ?_ ?_; rotate_left; focus (intro w hSw; (try dsimp only at hSw); go_simp; try rfl)); try simp only [Act.put, gA1, gA2, gA3, gA4, gA5, gA6]
   (refine tkA 11 (v := ?_) ?_ ?_; rotate_left; focus (intro w hSw; (try dsimp only at hSw); go_simp; try rfl)); try simp only [Act.put, gA1, gA2, gA3, gA4, gA5, gA6]
   (refine tkA 12 (v := ?_) ?_ ?_; rotate_left; focus (intro w hSw; (try dsimp only at hSw); go_simp; try rfl)); try simp only [Act.put, gA1, gA2, gA3, gA4, gA5, gA6]
   (refine tkA 13 (v := ?_) ?_ ?_; rotate_left; focus (intro w hSw; (try dsimp only at hSw); go_simp; try rfl)); try simp only [Act.put, gA1, gA2, gA3, gA4, gA5, gA6]
   (refine tkA 14 (v := ?_) ?_ ?_; rotate_left; focus (intro w hSw; (try dsimp only at hSw); go_simp; try rfl)); try simp only [Act.put, gA1, gA2, gA3, gA4, gA5, gA6]
   refine wpAnyH_done (by kernel_rfl) ?_ _
   have HB2 := Lib.hid hB.out.drew
   clear hB
   generalize wr.drew = HB2w at *
   go_wp2_with fail
   refine wp_region_held_drew (S := (fun w' => w'.cell? ⟨r, 1, none⟩ = some (.slice (some ⟨g, off, none⟩) nu cu) ∧ w'.cell? ⟨g, off + j * 6 + 1, none⟩ = some (.int .i64 q) ∧ w'.cell? ⟨N, 1, none⟩ = some (.int .i64 t.sq))) (by kernel_rfl) ?_ (fun hHeld => ?_)
   ·((first
    | exact HC12.out _ HB2.out
    | exact HC12.out _ HB2.out.drew
    | fail))
   (refine tkA 0 (v := ?_) ?_ ?_; rotate_left; focus (intro w hSw; (try dsimp only at hSw); go_simp; try rfl)); try simp only [Act.put, gA1, gA2, gA3, gA4, gA5, gA6]
   (refine tkA 1 (v := ?_) ?_ ?_; rotate_left; focus (intro w hSw; (try dsimp only at hSw); go_simp; try rfl)); try simp only [Act.put, gA1, gA2, gA3, gA4, gA5, gA6]
   (refine tkA 2 (v := ?_) ?_ ?_; rotate_left; focus (intro w hSw; (try dsimp only at hSw); go_simp; try rfl)); try simp only [Act.put, gA1, gA2, gA3, gA4, gA5, gA6]
   (refine tkA 3 (v := ?_) ?_ ?_; rotate_left; focus (intro w hSw; (try dsimp only at hSw); go_simp; try rfl)); try simp only [Act.put, gA1, gA2, gA3, gA4, gA5, gA6]
   (refine tkA 4 (v := ?_) ?_ ?_; rotate_left; focus (intro w hSw; (try dsimp only at hSw); go_simp; try rfl)); try simp only [Act.put, gA1, gA2, gA3, gA4, gA5, gA6]
   (refine tkA 5 (v := ?_) ?_ ?_; rotate_left; focus (intro w hSw; (try dsimp only at hSw); go_simp; try rfl)); try simp only [Act.put, gA1, gA2, gA3, gA4, gA5, gA6]
   (refine tkA 6 (v := ?_) ?_ ?_; rotate_left; focus (intro w hSw; (try dsimp only at hSw); go_simp; try rfl)); try simp only [Act.put, gA1, gA2, gA3, gA4, gA5, gA6]
   (refine tkA 7 (v := ?_) ?_ ?_; rotate_left; focus (intro w hSw; (try dsimp only at hSw); go_simp; try rfl)); try simp only [Act.put, gA1, gA2, gA3, gA4, gA5, gA6]
   (refine tkA 8 (v := ?_) ?_ ?_; rotate_left; focus (intro w hSw; (try dsimp only at hSw); go_simp; try rfl)); try simp only [Act.put, gA1, gA2, gA3, gA4, gA5, gA6]
   (refine tkA 9 (v := ?_) ?_ ?_; rotate_left; focus (intro w hSw; (try dsimp only at hSw); go_simp; try rfl)); try simp only [Act.put, gA1, gA2, gA3, gA4, gA5, gA6]
   (refine tkA 10 (v := ?_) ?_ ?_; rotate_left; focus (intro w hSw; (try dsimp only at hSw); go_simp; try rfl)); try simp only [Act.put, gA1, gA2, gA3, gA4, gA5, gA6]
   (refine tkA 11 (v := ?_) ?_ ?_; rotate_left; focus (intro w hSw; (try dsimp only at hSw); go_simp; try rfl)); try simp only [Act.put, gA1, gA2, gA3, gA4, gA5, gA6]
   (refine tkA 12 (v := ?_) ?_ ?_; rotate_left; focus (intro w hSw; (try dsimp only at hSw); go_simp; try rfl)); try simp only [Act.put, gA1, gA2, gA3, gA4, gA5, gA6]
   (refine tkA 13 (v := ?_) ?_ ?_; rotate_left; focus (intro w hSw; (try dsimp only at hSw); go_simp; try rfl)); try simp only [Act.put, gA1, gA2, gA3, gA4, gA5, gA6]
   (refine tkA 14 (v := ?_) ?_ ?_; rotate_left; focus (intro w hSw; (try dsimp only at hSw); go_simp; try rfl)); try simp only [Act.put, gA1, gA2, gA3, gA4, gA5, gA6]
   refine wpAnyH_done (by kernel_rfl) ?_ _
   have HB3 := Lib.hid HB2.out.drew
   clear HB2
   generalize HB2w.drew = HB3w at *
   clear HC12 jn1 jn2 jn3 jn4 hjk
   generalize (some (⟨g, off, none⟩ : Addr) : Option Addr) = au at *
   have HK03 := Lib.hid (HK01.out.below HB3.out)
   have HK13 := Lib.hid (HK11.out.below HB3.out)
   have HK23 := Lib.hid (HK21.out.below HB3.out)
   have HM3 := Lib.hid (HMr.out _ HB3.out)
   have HB33 := Lib.hid (HB1.out.trans (HB3.out.mono HB1.out.size))
   clear HK01 HK11 HK21 HMr HB1
   obtain ⟨V3, hV3⟩ : ∃ q, HB3w = q := ⟨_, rfl⟩
   subst hV3
   obtain ⟨W3, hW3⟩ : ∃ q, HB3w.alloc (.cells #[.int .i64 c.err, .string c.val, .int .i64 c.ver, .slice ca cn cc] 36) = q := ⟨_, rfl⟩
   obtain ⟨g10, hg10⟩ : ∃ q, HB3w.heap.size = q := ⟨_, rfl⟩
   have hb3 : Below HB3w.heap.size HB3w W3 := by rw [← hW3]; exact (Below.refl _ _).alloc (Nat.le_refl _) _
   have HK10a : Hid (Bk W3 g10 36 [.int .i64 c.err, .string c.val, .int .i64 c.ver, .slice ca cn cc]) := Lib.hid (by rw [← hW3]; exact Bk.newA hg10 36 [.int .i64 c.err, .string c.val, .int .i64 c.ver, .slice ca cn cc])
   have HG10 : Hid (N + 2 < g10) := Lib.hid (by rw [← hg10]; exact HK23.out.lt)
   have HK0a := Lib.hid (HK03.out.below hb3)
   have HK2a := Lib.hid (HK23.out.below hb3)
   have HMa := Lib.hid (HM3.out.on hb3)
   have HBa := Lib.hid (HB33.out.trans (hb3.mono HB33.out.size))
   have k0 := Bk.cell HK13.out 0
   have k1 := Bk.cell HK13.out 1
   have k2 := Bk.cell HK13.out 2
   have k3 := Bk.cell HK13.out 3
   simp only [List.getElem?_cons_zero, List.getElem?_cons_succ] at k0 k1 k2 k3
   have d0 := Bk.cell HK0a.out 0
   have d1 := Bk.cell HK0a.out 1
   have d2 := Bk.cell HK0a.out 2
   have d3 := Bk.cell HK0a.out 3
   have d4 := Bk.cell HK0a.out 4
   have d5 := Bk.cell HK0a.out 5
   have d6 := Bk.cell HK0a.out 6
   have d7 := Bk.cell HK0a.out 7
   simp only [List.getElem?_cons_zero, List.getElem?_cons_succ] at d0 d1 d2 d3 d4 d5 d6 d7
   clear hb3 HK03 HK13 HK23 HM3 HB33 HB3
   go_wp2_with fail
   try rw [hW3]
   try rw [hg10]
   clear hW3 hg10 k0 k1 k2 k3
   refine (rctl_any t.cl t.sq t.op t.pa t.va t.ver t.a t.b W3).mono ?_
   rintro e w4 ⟨rfl, hb⟩
   rw [HCt.out]
   have HK04 := Lib.hid (HK0a.out.below hb)
   have HK24 := Lib.hid (HK2a.out.below hb)
   have HK104 := Lib.hid (HK10a.out.below hb)
   have HM4 := Lib.hid (HMa.out.on hb)
   have HB4 := Lib.hid (HBa.out.trans (hb.mono HBa.out.size))
   clear hb HK0a HK2a HK10a HMa HBa d0 d1 d2 d3 d4 d5 d6 d7
   have HK0e := HK04
   have HK2e := HK24
   have HK10e := HK104
   have HRDe := Lib.hid (HM4.out.rd)
   have HSOe := Lib.hid (HM4.out.own)
   have HMte := Lib.hid (HM4.out.mt)
   have HNGe : Hid (NG X w4 (.slice ca cn cc) c.names) := Lib.hid (.inl HCS.out)
   have HFe : Hid (Fr (fun k => k = r ∨ v0.ownBlock = some k) w w4) := Lib.hid ((Fr.ofBelow HB4.out).mono fun j hj q => absurd hj (Nat.not_lt.2 q))
   have HOe : Hid (∀ q, v0.ownBlock = some q → v0.ownBlock = some q ∨ N + 3 ≤ q) := Lib.hid fun q hq => .inl hq
   clear HK04 HK24 HK104 HM4
   obtain ⟨W7, hW7⟩ : ∃ q, w4.alloc (.cells #[.int .i64 t.cl, .int .i64 t.sq, .int .i64 c.err, .string c.val, .int .i64 c.ver, .slice ca cn cc] 51) = q := ⟨_, rfl⟩
   obtain ⟨g11, hg11⟩ : ∃ q, w4.heap.size = q := ⟨_, rfl⟩
   have hb7 : Below w4.heap.size w4 W7 := by rw [← hW7]; exact (Below.refl _ _).alloc (Nat.le_refl _) _
   have HK11 : Hid (Bk W7 g11 51 [.int .i64 t.cl, .int .i64 t.sq, .int .i64 c.err, .string c.val, .int .i64 c.ver, .slice ca cn cc]) := Lib.hid (by rw [← hW7]; exact Bk.newA hg11 51 [.int .i64 t.cl, .int .i64 t.sq, .int .i64 c.err, .string c.val, .int .i64 c.ver, .slice ca cn cc])
   have HK07 := Lib.hid (HK0e.out.below hb7)
   have HK27 := Lib.hid (HK2e.out.below hb7)
   have HK107 := Lib.hid (HK10e.out.below hb7)
   have HRD7 := Lib.hid (HRDe.out.below hb7)
   have HSO7 := Lib.hid (HSOe.out.below hb7)
   have HMt7 := Lib.hid (HMte.out.on hb7)
   have HNG7 := Lib.hid (HNGe.out.on hb7)
   have HF7 : Hid (Fr (fun k => k = r ∨ v0.ownBlock = some k) w W7) := Lib.hid (HFe.out.trans (Fr.ofBelow hb7) (fun j hj q => q.elim id (fun q => absurd (Nat.lt_of_lt_of_le hj HFe.out.size) (Nat.not_lt.2 q))))
   have HN7 : Hid (N + 3 ≤ W7.heap.size ∧ g10 < W7.heap.size ∧ N + 2 < g10) := Lib.hid ⟨Nat.succ_le_of_lt HK27.out.lt, HK107.out.lt, HG10.out⟩
   have d0 := Bk.cell HK0e.out 0
   have d1 := Bk.cell HK0e.out 1
   simp only [List.getElem?_cons_zero, List.getElem?_cons_succ] at d0 d1
   have b0 := Bk.cell HK10e.out 0
   have b1 := Bk.cell HK10e.out 1
   have b2 := Bk.cell HK10e.out 2
   have b3 := Bk.cell HK10e.out 3
   simp only [List.getElem?_cons_zero, List.getElem?_cons_succ] at b0 b1 b2 b3
   clear hb7
   go_wp2_with fail
   try rw [hW7]
   try rw [hg11]
   clear hW7 hg11 d0 d1 b0 b1 b2 b3 HK0e HK2e HK10e HRDe HSOe HMte HNGe HFe
   have HE7 : Hid (∀ wq, Below W7.heap.size W7 wq → Bk wq r 58 [v0, .slice au nu cu] ∧ SF.Rd wq (.slice au nu cu) xs ∧ Bk wq N 40 [.int .i64 t.cl, .int .i64 t.sq, .int .i64 t.op, .string t.pa, .string t.va, .int .i64 t.ver, .int .i64 t.a, .int .i64 t.b] ∧ Bk wq g11 51 [.int .i64 t.cl, .int .i64 t.sq, .int .i64 c.err, .string c.val, .int .i64 c.ver, .slice ca cn cc]) := Lib.hid fun wq hq => ⟨HRD7.out.bk.below hq, (HSO7.out.below hq).rd, HK07.out.below hq, HK11.out.below hq⟩
   have HGn : Hid (GOf X W7 (⟨t.cl, t.sq, c.err, c.val, c.ver, ca, cn, cc⟩ : SG) (t.cl, t.sq, c)) := Lib.hid ⟨rfl, rfl, rfl, rfl, rfl, HNG7.out⟩
   have HBs : Hid (Below W7.heap.size W7 W7) := Lib.hid (Below.refl _ _)
   go_loopw [7, 12, 13] (fun o d i wr => ∃ (k : Nat) (v : Value) (done : Bool) (S : List S3) (XS : List SG), k ≤ nu ∧ v = o ∧ d = .bool done ∧ i = .int .i64 k ∧ Hid (SF.Own wr W7.heap.size v XS) ∧ Hid (MatchG X W7 XS S) ∧ Hid (QI m.s (t.cl, t.sq, c) k done S) ∧ Hid (Below W7.heap.size W7 wr)) (fun _ _ i _ => nu - (intOf i).toNat)
   case atStart => exact ⟨0, _, false, [], [], Nat.zero_le _, rfl, rfl, rfl, Lib.hid (Knd.Own.nil _ _), Lib.hid (MatchG.nil _ _), Lib.hid (QI.start _ _), HBs⟩
   case round =>
    clear HBs
    obtain ⟨k, v, done, S, XS, hk, rfl, rfl, rfl, HO, HMt, HQ, HB⟩ := hrel
    have tr := Bk.cell (HE7.out _ HB.out).1 1
    simp only [List.getElem?_cons_zero, List.getElem?_cons_succ] at tr
    have hSl := HQ.out.len
    have hXl := HMt.out.len
    by_cases hlt : k < nu
    ·have kn1 : (k : Int) < (nu : Int) := by omega
     have kn2 : decide ((k : Int) < (nu : Int)) = true := decide_eq_true kn1
     have kn3 : decide (k < nu) = true := decide_eq_true hlt
     have HKl : Hid (k < m.s.length) := Lib.hid (by have := HNu.out; omega)
     have HL : Hid (XS.length + 1 ≤ 1000000) := Lib.hid (by omega)
     have HL2 : Hid ((XS ++ [(⟨t.cl, t.sq, c.err, c.val, c.ver, ca, cn, cc⟩ : SG)]).length + 1 ≤ 1000000) := Lib.hid (by rw [List.length_append]; simp; omega)
     obtain ⟨-, g, off, ha, -⟩ := sgCell (HE7.out _ HB.out).2.1 k hlt
     subst ha
     obtain ⟨⟨ck, xq, xe, xv, xr, xa, xn, xc⟩, hxk⟩ : ∃ q, xs.getD k sgZ = q := ⟨_, rfl⟩
     have HXk := Lib.hid hxk
     have HGk : Hid (GOf X W7 (⟨ck, xq, xe, xv, xr, xa, xn, xc⟩ : SG) (m.s.getD k zS)) := Lib.hid (by rw [← hxk]; exact HMt7.out.at' k HKl.out)
     have HCk : Hid ((m.s.getD k zS).1 = ck) := Lib.hid HGk.out.cl.symm
     have HC24 : Hid (∀ wq, Below W7.heap.size W7 wq → (wq.cell? ⟨r, 1, none⟩ = some (.slice (some ⟨g, off, none⟩) nu cu) ∧ wq.cell? ⟨g, off + k * 6, none⟩ = some (.int .i64 ck) ∧ wq.cell? ⟨N, 0, none⟩ = some (.int .i64 t.cl))) := Lib.hid fun wq hq => by
      have hm := HE7.out wq hq
      have q1 := Bk.cell hm.1 1
      simp only [List.getElem?_cons_zero, List.getElem?_cons_succ] at q1
      obtain ⟨-, g9, off9, ha9, -, -, x0, -⟩ := sgCell hm.2.1 k hlt
      simp only [Option.some.injEq, Addr.mk.injEq, and_true] at ha9
      obtain ⟨rfl, rfl⟩ := ha9
      rw [hxk] at x0
      exact ⟨q1, x0, Bk.cell hm.2.2.1 0⟩
     clear hxk hSl hXl
     by_cases hc : ck = t.cl
     ·have z1 : (ck == t.cl) = true := by simp [hc]
      have HEq : Hid ((m.s.getD k zS).1 = (t.cl, t.sq, c).1) := Lib.hid (HCk.out.trans hc)
      clear hc
      go_wp2_with fail
      clear tr
      refine wp_region_held_drew (S := (fun w' => w'.cell? ⟨r, 1, none⟩ = some (.slice (some ⟨g, off, none⟩) nu cu) ∧ w'.cell? ⟨g, off + k * 6, none⟩ = some (.int .i64 ck) ∧ w'.cell? ⟨N, 0, none⟩ = some (.int .i64 t.cl))) (by kernel_rfl) ?_ (fun hHeld => ?_)
      ·((first
       | exact HC24.out _ HB.out
       | exact HC24.out _ HB.out.drew
       | fail))
      (refine tkA 0 (v := ?_) ?_ ?_; rotate_left; focus (intro w hSw; (try dsimp only at hSw); go_simp; try rfl)); try simp only [Act.put, gA1, gA2, gA3, gA4, gA5, gA6]
      (refine tkA 1 (v := ?_) ?_ ?_; rotate_left; focus (intro w hSw; (try dsimp only at hSw); go_simp; try rfl)); try simp only [Act.put, gA1, gA2, gA3, gA4, gA5, gA6]
      (refine tkA 2 (v := ?_) ?_ ?_; rotate_left; focus (intro w hSw; (try dsimp only at hSw); go_simp; try rfl)); try simp only [Act.put, gA1, gA2, gA3, gA4, gA5, gA6]
      (refine tkA 3 (v := ?_) ?_ ?_; rotate_left; focus (intro w hSw; (try dsimp only at hSw); go_simp; try rfl)); try simp only [Act.put, gA1, gA2, gA3, gA4, gA5, gA6]
      (refine tkA 4 (v := ?_) ?_ ?_; rotate_left; focus (intro w hSw; (try dsimp only at hSw); go_simp; try rfl)); try simp only [Act.put, gA1, gA2, gA3, gA4, gA5, gA6]
      (refine tkA 5 (v := ?_) ?_ ?_; rotate_left; focus (intro w hSw; (try dsimp only at hSw); go_simp; try rfl)); try simp only [Act.put, gA1, gA2, gA3, gA4, gA5, gA6]
      (refine tkA 6 (v := ?_) ?_ ?_; rotate_left; focus (intro w hSw; (try dsimp only at hSw); go_simp; try rfl)); try simp only [Act.put, gA1, gA2, gA3, gA4, gA5, gA6]
      (refine tkA 7 (v := ?_) ?_ ?_; rotate_left; focus (intro w hSw; (try dsimp only at hSw); go_simp; try rfl)); try simp only [Act.put, gA1, gA2, gA3, gA4, gA5, gA6]
      (refine tkA 8 (v := ?_) ?_ ?_; rotate_left; focus (intro w hSw; (try dsimp only at hSw); go_simp; try rfl)); try simp only [Act.put, gA1, gA2, gA3, gA4, gA5, gA6]
      (refine tkA 9 (v := ?_) ?_ ?_; rotate_left; focus (intro w hSw; (try dsimp only at hSw); go_simp; try rfl)); try simp only [Act.put, gA1, gA2, gA3, gA4, gA5, gA6]
      (refine tkA 10 (v := ?_) ?_ ?_; rotate_left; focus (intro w hSw; (try dsimp only at hSw); go_simp; try rfl)); try simp only [Act.put, gA1, gA2, gA3, gA4, gA5, gA6]
      refine wpAnyH_done (by kernel_rfl) ?_ _
      have HBd := Lib.hid HB.out.drew
      have HOd := Lib.hid (HO.out.below (Below.refl _ _).drew)
      have HQ2 := Lib.hid (HQ.out.skip HKl.out HEq.out)
      clear HB HO HQ HC24
      generalize wr.drew = wd at *
      go_wp2_with fail
      go_roundw
      case rel => exact ⟨k + 1, v, done, _, _, by omega, rfl, rfl, by go_num, HOd, HMt, HQ2, HBd⟩
      case measure => simp [intOf]; omega
     ·have z1 : (ck == t.cl) = false := by simpa using hc
      go_wp2_with fail
      clear tr
      refine wp_region_held_drew (S := (fun w' => w'.cell? ⟨r, 1, none⟩ = some (.slice (some ⟨g, off, none⟩) nu cu) ∧ w'.cell? ⟨g, off + k * 6, none⟩ = some (.int .i64 ck) ∧ w'.cell? ⟨N, 0, none⟩ = some (.int .i64 t.cl))) (by kernel_rfl) ?_ (fun hHeld => ?_)
      ·((first
       | exact HC24.out _ HB.out
       | exact HC24.out _ HB.out.drew
       | fail))
      (refine tkA 0 (v := ?_) ?_ ?_; rotate_left; focus (intro w hSw; (try dsimp only at hSw); go_simp; try rfl)); try simp only [Act.put, gA1, gA2, gA3, gA4, gA5, gA6]
      (refine tkA 1 (v := ?_) ?_ ?_; rotate_left; focus (intro w hSw; (try dsimp only at hSw); go_simp; try rfl)); try simp only [Act.put, gA1, gA2, gA3, gA4, gA5, gA6]
      (refine tkA 2 (v := ?_) ?_ ?_; rotate_left; focus (intro w hSw; (try dsimp only at hSw); go_simp; try rfl)); try simp only [Act.put, gA1, gA2, gA3, gA4, gA5, gA6]
      (refine tkA 3 (v := ?_) ?_ ?_; rotate_left; focus (intro w hSw; (try dsimp only at hSw); go_simp; try rfl)); try simp only [Act.put, gA1, gA2, gA3, gA4, gA5, gA6]
      (refine tkA 4 (v := ?_) ?_ ?_; rotate_left; focus (intro w hSw; (try dsimp only at hSw); go_simp; try rfl)); try simp only [Act.put, gA1, gA2, gA3, gA4, gA5, gA6]
      (refine tkA 5 (v := ?_) ?_ ?_; rotate_left; focus (intro w hSw; (try dsimp only at hSw); go_simp; try rfl)); try simp only [Act.put, gA1, gA2, gA3, gA4, gA5, gA6]
      (refine tkA 6 (v := ?_) ?_ ?_; rotate_left; focus (intro w hSw; (try dsimp only at hSw); go_simp; try rfl)); try simp only [Act.put, gA1, gA2, gA3, gA4, gA5, gA6]
      (refine tkA 7 (v := ?_) ?_ ?_; rotate_left; focus (intro w hSw; (try dsimp only at hSw); go_simp; try rfl)); try simp only [Act.put, gA1, gA2, gA3, gA4, gA5, gA6]
      (refine tkA 8 (v := ?_) ?_ ?_; rotate_left; focus (intro w hSw; (try dsimp only at hSw); go_simp; try rfl)); try simp only [Act.put, gA1, gA2, gA3, gA4, gA5, gA6]
      (refine tkA 9 (v := ?_) ?_ ?_; rotate_left; focus (intro w hSw; (try dsimp only at hSw); go_simp; try rfl)); try simp only [Act.put, gA1, gA2, gA3, gA4, gA5, gA6]
      (refine tkA 10 (v := ?_) ?_ ?_; rotate_left; focus (intro w hSw; (try dsimp only at hSw); go_simp; try rfl)); try simp only [Act.put, gA1, gA2, gA3, gA4, gA5, gA6]
      refine wpAnyH_done (by kernel_rfl) ?_ _
      have HBd := Lib.hid HB.out.drew
      have HOd : Hid (SF.Own wr.drew W7.heap.size v XS) := Lib.hid (HO.out.below (Below.refl _ _).drew)
      clear HB HO
      generalize wr.drew = wd at *
      go_wp2_with fail
      have HNe : Hid (¬ ck = t.cl) := Lib.hid hc
      cases done with
      | true =>
       refine wp_region_held_drew (S := (fun w' => w'.cell? ⟨r, 1, none⟩ = some (.slice (some ⟨g, off, none⟩) nu cu) ∧ w'.cell? ⟨g, off + k * 6, none⟩ = some (.int .i64 ck) ∧ w'.cell? ⟨N, 0, none⟩ = some (.int .i64 t.cl))) (by kernel_rfl) ?_ (fun hHeld => ?_)
       ·((first
        | exact HC24.out _ HBd.out
        | exact HC24.out _ HBd.out.drew
        | fail))
       (refine tkA 0 (v := ?_) ?_ ?_; rotate_left; focus (intro w hSw; (try dsimp only at hSw); go_simp; try rfl)); try simp only [Act.put, gA1, gA2, gA3, gA4, gA5, gA6]
       (refine tkA 1 (v := ?_) ?_ ?_; rotate_left; focus (intro w hSw; (try dsimp only at hSw); go_simp; try rfl)); try simp only [Act.put, gA1, gA2, gA3, gA4, gA5, gA6]
       (refine tkA 2 (v := ?_) ?_ ?_; rotate_left; focus (intro w hSw; (try dsimp only at hSw); go_simp; try rfl)); try simp only [Act.put, gA1, gA2, gA3, gA4, gA5, gA6]
       refine utA 3 ?_; try simp only [Act.put, gA1, gA2, gA3, gA4, gA5, gA6]
       refine utA 4 ?_; try simp only [Act.put, gA1, gA2, gA3, gA4, gA5, gA6]
       refine utA 5 ?_; try simp only [Act.put, gA1, gA2, gA3, gA4, gA5, gA6]
       refine utA 6 ?_; try simp only [Act.put, gA1, gA2, gA3, gA4, gA5, gA6]
       refine utA 7 ?_; try simp only [Act.put, gA1, gA2, gA3, gA4, gA5, gA6]
       refine utA 8 ?_; try simp only [Act.put, gA1, gA2, gA3, gA4, gA5, gA6]
       refine utA 9 ?_; try simp only [Act.put, gA1, gA2, gA3, gA4, gA5, gA6]
       refine utA 10 ?_; try simp only [Act.put, gA1, gA2, gA3, gA4, gA5, gA6]
       refine utA 11 ?_; try simp only [Act.put, gA1, gA2, gA3, gA4, gA5, gA6]
       refine utA 12 ?_; try simp only [Act.put, gA1, gA2, gA3, gA4, gA5, gA6]
       refine utA 13 ?_; try simp only [Act.put, gA1, gA2, gA3, gA4, gA5, gA6]
       (refine tkA 14 (v := ?_) ?_ ?_; rotate_left; focus (intro w hSw; (try dsimp only at hSw); go_simp; try rfl)); try simp only [Act.put, gA1, gA2, gA3, gA4, gA5, gA6]
       refine wpAnyH_done (by kernel_rfl) ?_ _
       have HBf := Lib.hid HBd.out.drew
       have HOf : Hid (SF.Own wd.drew W7.heap.size v XS) := Lib.hid (HOd.out.below (Below.refl _ _).drew)
       clear HBd HOd HC24
       generalize wd.drew = wf at *
       have HQ2 := Lib.hid (HQ.out.on HRm.out.rise HKl.out)
       have HM2 := Lib.hid (HMt.out.snoc HGk.out)
       clear HQ
       obtain ⟨-, g9, off9, ha9, -, -, e0, e1, e2, e3, e4, e5⟩ := sgCell (HE7.out _ HBf.out).2.1 k hlt
       simp only [Option.some.injEq, Addr.mk.injEq, and_true] at ha9
       obtain ⟨rfl, rfl⟩ := ha9
       rw [HXk.out] at e0 e1 e2 e3 e4 e5
       simp only at e0 e1 e2 e3 e4 e5
       have tr := Bk.cell (HE7.out _ HBf.out).1 1
       simp only [List.getElem?_cons_zero, List.getElem?_cons_succ] at tr
       have hzz : W7.heap.size ≤ _ := HBf.out.size
       go_wp2_with (refine SF.app rfl _ _ rfl W7.heap.size v XS rfl ?own11 _ [(⟨ck, xq, xe, xv, xr, xa, xn, xc⟩ : SG)] rfl ?rd11 HL.out ?bs11 ?_)
       case own11 => exact HOf.out.below ((Below.refl _ _).alloc (Nat.le_refl _) _)
       case rd11 => exact SF.rd_boxAt (⟨ck, xq, xe, xv, xr, xa, xn, xc⟩ : SG) _ 1 _ _ (by simp)
       case bs11 => first | omega | (simp; omega) | fail
       intro v2 w2 ho hb _ _
       have HOw2 := Lib.hid ho
       have HBw2 : Hid (Below W7.heap.size W7 w2) := Lib.hid ((HBf.out.alloc hzz _).trans hb)
       clear ho hb hzz
       clear e0 e1 e2 e3 e4 e5 tr
       go_wp2_with fail
       go_roundw
       case rel => exact ⟨k + 1, v2, true, _, _, by omega, rfl, rfl, by go_num, HOw2, HM2, HQ2, HBw2⟩
       case measure => simp [intOf]; omega
      | false =>
       by_cases hgt : t.cl < ck
       ·have z2 : decide (t.cl < ck) = true := decide_eq_true hgt
        have HGt : Hid ((t.cl, t.sq, c).1 < (m.s.getD k zS).1) := Lib.hid (by rw [HCk.out]; exact hgt)
        clear hc hgt
        refine wp_region_held_drew (S := (fun w' => w'.cell? ⟨r, 1, none⟩ = some (.slice (some ⟨g, off, none⟩) nu cu) ∧ w'.cell? ⟨g, off + k * 6, none⟩ = some (.int .i64 ck) ∧ w'.cell? ⟨N, 0, none⟩ = some (.int .i64 t.cl))) (by kernel_rfl) ?_ (fun hHeld => ?_)
        ·((first
         | exact HC24.out _ HBd.out
         | exact HC24.out _ HBd.out.drew
         | fail))
        (refine tkA 0 (v := ?_) ?_ ?_; rotate_left; focus (intro w hSw; (try dsimp only at hSw); go_simp; try rfl)); try simp only [Act.put, gA1, gA2, gA3, gA4, gA5, gA6]
        (refine tkA 1 (v := ?_) ?_ ?_; rotate_left; focus (intro w hSw; (try dsimp only at hSw); go_simp; try rfl)); try simp only [Act.put, gA1, gA2, gA3, gA4, gA5, gA6]
        (refine tkA 2 (v := ?_) ?_ ?_; rotate_left; focus (intro w hSw; (try dsimp only at hSw); go_simp; try rfl)); try simp only [Act.put, gA1, gA2, gA3, gA4, gA5, gA6]
        (refine tkA 3 (v := ?_) ?_ ?_; rotate_left; focus (intro w hSw; (try dsimp only at hSw); go_simp; try rfl)); try simp only [Act.put, gA1, gA2, gA3, gA4, gA5, gA6]
        (refine tkA 4 (v := ?_) ?_ ?_; rotate_left; focus (intro w hSw; (try dsimp only at hSw); go_simp; try rfl)); try simp only [Act.put, gA1, gA2, gA3, gA4, gA5, gA6]
        (refine tkA 5 (v := ?_) ?_ ?_; rotate_left; focus (intro w hSw; (try dsimp only at hSw); go_simp; try rfl)); try simp only [Act.put, gA1, gA2, gA3, gA4, gA5, gA6]
        (refine tkA 6 (v := ?_) ?_ ?_; rotate_left; focus (intro w hSw; (try dsimp only at hSw); go_simp; try rfl)); try simp only [Act.put, gA1, gA2, gA3, gA4, gA5, gA6]
        (refine tkA 7 (v := ?_) ?_ ?_; rotate_left; focus (intro w hSw; (try dsimp only at hSw); go_simp; try rfl)); try simp only [Act.put, gA1, gA2, gA3, gA4, gA5, gA6]
        (refine tkA 8 (v := ?_) ?_ ?_; rotate_left; focus (intro w hSw; (try dsimp only at hSw); go_simp; try rfl)); try simp only [Act.put, gA1, gA2, gA3, gA4, gA5, gA6]
        (refine tkA 9 (v := ?_) ?_ ?_; rotate_left; focus (intro w hSw; (try dsimp only at hSw); go_simp; try rfl)); try simp only [Act.put, gA1, gA2, gA3, gA4, gA5, gA6]
        (refine tkA 10 (v := ?_) ?_ ?_; rotate_left; focus (intro w hSw; (try dsimp only at hSw); go_simp; try rfl)); try simp only [Act.put, gA1, gA2, gA3, gA4, gA5, gA6]
        (refine tkA 11 (v := ?_) ?_ ?_; rotate_left; focus (intro w hSw; (try dsimp only at hSw); go_simp; try rfl)); try simp only [Act.put, gA1, gA2, gA3, gA4, gA5, gA6]
        (refine tkA 12 (v := ?_) ?_ ?_; rotate_left; focus (intro w hSw; (try dsimp only at hSw); go_simp; try rfl)); try simp only [Act.put, gA1, gA2, gA3, gA4, gA5, gA6]
        (refine tkA 13 (v := ?_) ?_ ?_; rotate_left; focus (intro w hSw; (try dsimp only at hSw); go_simp; try rfl)); try simp only [Act.put, gA1, gA2, gA3, gA4, gA5, gA6]
        (refine tkA 14 (v := ?_) ?_ ?_; rotate_left; focus (intro w hSw; (try dsimp only at hSw); go_simp; try rfl)); try simp only [Act.put, gA1, gA2, gA3, gA4, gA5, gA6]
        refine wpAnyH_done (by kernel_rfl) ?_ _
        have HBf := Lib.hid HBd.out.drew
        have HOf : Hid (SF.Own wd.drew W7.heap.size v XS) := Lib.hid (HOd.out.below (Below.refl _ _).drew)
        clear HBd HOd HC24
        generalize wd.drew = wf at *
        have HQ2 := Lib.hid (HQ.out.here HKl.out HGt.out)
        have HM2 := Lib.hid ((HMt.out.snoc HGn.out).snoc HGk.out)
        clear HQ
        have y0 := Bk.cell (HE7.out _ HBf.out).2.2.2 0
        have y1 := Bk.cell (HE7.out _ HBf.out).2.2.2 1
        have y2 := Bk.cell (HE7.out _ HBf.out).2.2.2 2
        have y3 := Bk.cell (HE7.out _ HBf.out).2.2.2 3
        have y4 := Bk.cell (HE7.out _ HBf.out).2.2.2 4
        have y5 := Bk.cell (HE7.out _ HBf.out).2.2.2 5
        simp only [List.getElem?_cons_zero, List.getElem?_cons_succ] at y0 y1 y2 y3 y4 y5
        have hzz : W7.heap.size ≤ _ := HBf.out.size
        go_wp2_with (refine SF.app rfl _ _ rfl W7.heap.size v XS rfl ?own13 _ [(⟨t.cl, t.sq, c.err, c.val, c.ver, ca, cn, cc⟩ : SG)] rfl ?rd13 HL.out ?bs13 ?_)
        case own13 => exact HOf.out.below ((Below.refl _ _).alloc (Nat.le_refl _) _)
        case rd13 => exact SF.rd_boxAt (⟨t.cl, t.sq, c.err, c.val, c.ver, ca, cn, cc⟩ : SG) _ 1 _ _ (by simp)
        case bs13 => first | omega | (simp; omega) | fail
        intro v2 w2 ho hb _ _
        have HOw2 := Lib.hid ho
        have HBw2 : Hid (Below W7.heap.size W7 w2) := Lib.hid ((HBf.out.alloc hzz _).trans hb)
        clear ho hb hzz
        clear y0 y1 y2 y3 y4 y5
        obtain ⟨-, g9, off9, ha9, -, -, e0, e1, e2, e3, e4, e5⟩ := sgCell (HE7.out _ HBw2.out).2.1 k hlt
        simp only [Option.some.injEq, Addr.mk.injEq, and_true] at ha9
        obtain ⟨rfl, rfl⟩ := ha9
        rw [HXk.out] at e0 e1 e2 e3 e4 e5
        simp only at e0 e1 e2 e3 e4 e5
        have tr := Bk.cell (HE7.out _ HBw2.out).1 1
        simp only [List.getElem?_cons_zero, List.getElem?_cons_succ] at tr
        have hzz : W7.heap.size ≤ _ := HBw2.out.size
        go_wp2_with (refine SF.app rfl _ _ rfl W7.heap.size v2 (XS ++ [(⟨t.cl, t.sq, c.err, c.val, c.ver, ca, cn, cc⟩ : SG)]) rfl ?own14 _ [(⟨ck, xq, xe, xv, xr, xa, xn, xc⟩ : SG)] rfl ?rd14 HL2.out ?bs14 ?_)
        case own14 => exact HOw2.out.below ((Below.refl _ _).alloc (Nat.le_refl _) _)
        case rd14 => exact SF.rd_boxAt (⟨ck, xq, xe, xv, xr, xa, xn, xc⟩ : SG) _ 1 _ _ (by simp)
        case bs14 => first | omega | (simp; omega) | fail
        intro v3 w3 ho hb _ _
        have HOw3 := Lib.hid ho
        have HBw3 : Hid (Below W7.heap.size W7 w3) := Lib.hid ((HBw2.out.alloc hzz _).trans hb)
        clear ho hb hzz
        clear e0 e1 e2 e3 e4 e5 tr
        go_wp2_with fail
        go_roundw
        case rel => exact ⟨k + 1, v3, true, _, _, by omega, rfl, rfl, by go_num, HOw3, (Lib.hid (by have q := HM2.out; rw [List.append_assoc] at q; exact q)), HQ2, HBw3⟩
        case measure => simp [intOf]; omega
       ·have z2 : decide (t.cl < ck) = false := decide_eq_false hgt
        have HLt : Hid ((m.s.getD k zS).1 < (t.cl, t.sq, c).1) := Lib.hid (by rw [HCk.out]; show ck < t.cl; omega)
        clear hc hgt
        refine wp_region_held_drew (S := (fun w' => w'.cell? ⟨r, 1, none⟩ = some (.slice (some ⟨g, off, none⟩) nu cu) ∧ w'.cell? ⟨g, off + k * 6, none⟩ = some (.int .i64 ck) ∧ w'.cell? ⟨N, 0, none⟩ = some (.int .i64 t.cl))) (by kernel_rfl) ?_ (fun hHeld => ?_)
        ·((first
         | exact HC24.out _ HBd.out
         | exact HC24.out _ HBd.out.drew
         | fail))
        (refine tkA 0 (v := ?_) ?_ ?_; rotate_left; focus (intro w hSw; (try dsimp only at hSw); go_simp; try rfl)); try simp only [Act.put, gA1, gA2, gA3, gA4, gA5, gA6]
        (refine tkA 1 (v := ?_) ?_ ?_; rotate_left; focus (intro w hSw; (try dsimp only at hSw); go_simp; try rfl)); try simp only [Act.put, gA1, gA2, gA3, gA4, gA5, gA6]
        (refine tkA 2 (v := ?_) ?_ ?_; rotate_left; focus (intro w hSw; (try dsimp only at hSw); go_simp; try rfl)); try simp only [Act.put, gA1, gA2, gA3, gA4, gA5, gA6]
        (refine tkA 3 (v := ?_) ?_ ?_; rotate_left; focus (intro w hSw; (try dsimp only at hSw); go_simp; try rfl)); try simp only [Act.put, gA1, gA2, gA3, gA4, gA5, gA6]
        (refine tkA 4 (v := ?_) ?_ ?_; rotate_left; focus (intro w hSw; (try dsimp only at hSw); go_simp; try rfl)); try simp only [Act.put, gA1, gA2, gA3, gA4, gA5, gA6]
        (refine tkA 5 (v := ?_) ?_ ?_; rotate_left; focus (intro w hSw; (try dsimp only at hSw); go_simp; try rfl)); try simp only [Act.put, gA1, gA2, gA3, gA4, gA5, gA6]
        (refine tkA 6 (v := ?_) ?_ ?_; rotate_left; focus (intro w hSw; (try dsimp only at hSw); go_simp; try rfl)); try simp only [Act.put, gA1, gA2, gA3, gA4, gA5, gA6]
        (refine tkA 7 (v := ?_) ?_ ?_; rotate_left; focus (intro w hSw; (try dsimp only at hSw); go_simp; try rfl)); try simp only [Act.put, gA1, gA2, gA3, gA4, gA5, gA6]
        (refine tkA 8 (v := ?_) ?_ ?_; rotate_left; focus (intro w hSw; (try dsimp only at hSw); go_simp; try rfl)); try simp only [Act.put, gA1, gA2, gA3, gA4, gA5, gA6]
        (refine tkA 9 (v := ?_) ?_ ?_; rotate_left; focus (intro w hSw; (try dsimp only at hSw); go_simp; try rfl)); try simp only [Act.put, gA1, gA2, gA3, gA4, gA5, gA6]
        (refine tkA 10 (v := ?_) ?_ ?_; rotate_left; focus (intro w hSw; (try dsimp only at hSw); go_simp; try rfl)); try simp only [Act.put, gA1, gA2, gA3, gA4, gA5, gA6]
        (refine tkA 11 (v := ?_) ?_ ?_; rotate_left; focus (intro w hSw; (try dsimp only at hSw); go_simp; try rfl)); try simp only [Act.put, gA1, gA2, gA3, gA4, gA5, gA6]
        (refine tkA 12 (v := ?_) ?_ ?_; rotate_left; focus (intro w hSw; (try dsimp only at hSw); go_simp; try rfl)); try simp only [Act.put, gA1, gA2, gA3, gA4, gA5, gA6]
        (refine tkA 13 (v := ?_) ?_ ?_; rotate_left; focus (intro w hSw; (try dsimp only at hSw); go_simp; try rfl)); try simp only [Act.put, gA1, gA2, gA3, gA4, gA5, gA6]
        (refine tkA 14 (v := ?_) ?_ ?_; rotate_left; focus (intro w hSw; (try dsimp only at hSw); go_simp; try rfl)); try simp only [Act.put, gA1, gA2, gA3, gA4, gA5, gA6]
        refine wpAnyH_done (by kernel_rfl) ?_ _
        have HBf := Lib.hid HBd.out.drew
        have HOf : Hid (SF.Own wd.drew W7.heap.size v XS) := Lib.hid (HOd.out.below (Below.refl _ _).drew)
        clear HBd HOd HC24
        generalize wd.drew = wf at *
        have HQ2 := Lib.hid (HQ.out.stay HKl.out HLt.out)
        have HM2 := Lib.hid (HMt.out.snoc HGk.out)
        clear HQ
        obtain ⟨-, g9, off9, ha9, -, -, e0, e1, e2, e3, e4, e5⟩ := sgCell (HE7.out _ HBf.out).2.1 k hlt
        simp only [Option.some.injEq, Addr.mk.injEq, and_true] at ha9
        obtain ⟨rfl, rfl⟩ := ha9
        rw [HXk.out] at e0 e1 e2 e3 e4 e5
        simp only at e0 e1 e2 e3 e4 e5
        have tr := Bk.cell (HE7.out _ HBf.out).1 1
        simp only [List.getElem?_cons_zero, List.getElem?_cons_succ] at tr
        have hzz : W7.heap.size ≤ _ := HBf.out.size
        go_wp2_with (refine SF.app rfl _ _ rfl W7.heap.size v XS rfl ?own12 _ [(⟨ck, xq, xe, xv, xr, xa, xn, xc⟩ : SG)] rfl ?rd12 HL.out ?bs12 ?_)
        case own12 => exact HOf.out.below ((Below.refl _ _).alloc (Nat.le_refl _) _)
        case rd12 => exact SF.rd_boxAt (⟨ck, xq, xe, xv, xr, xa, xn, xc⟩ : SG) _ 1 _ _ (by simp)
        case bs12 => first | omega | (simp; omega) | fail
        intro v2 w2 ho hb _ _
        have HOw2 := Lib.hid ho
        have HBw2 : Hid (Below W7.heap.size W7 w2) := Lib.hid ((HBf.out.alloc hzz _).trans hb)
        clear ho hb hzz
        clear e0 e1 e2 e3 e4 e5 tr
        go_wp2_with fail
        go_roundw
        case rel => exact ⟨k + 1, v2, false, _, _, by omega, rfl, rfl, by go_num, HOw2, HM2, HQ2, HBw2⟩
        case measure => simp [intOf]; omega
    ·obtain rfl : nu = k := by omega
     have kk1 : ¬ (nu : Int) < (nu : Int) := by omega
     have HEnd : Hid ((if done then S else S ++ [(t.cl, t.sq, c)]) = putS m.s t.cl t.sq c) := Lib.hid (by
      have q := HQ.out
      rw [HNu.out] at q
      exact q.end')
     have HL : Hid (XS.length + 1 ≤ 1000000) := Lib.hid (by have := HNu.out; omega)
     have HFin : Hid (∀ (wq : World) (v' : Value) (YS : List SG), Below W7.heap.size W7 wq → SF.Own wq W7.heap.size v' YS → MatchG X W7 YS (putS m.s t.cl t.sq c) → ∀ w9, w9 = wq.setCell ⟨r, 1, none⟩ v' → ∀ x y z a, RMP (c, ⟨m.l, putS m.s t.cl t.sq c⟩) X w base r v0 (.slice au nu cu) (.returned (repV c (.slice ca cn cc))) ((((w9.setCell ⟨N + 2, 0, none⟩ x).setCell ⟨N + 2, 1, none⟩ y).setCell ⟨N + 2, 2, none⟩ z).setCell ⟨N + 2, 3, none⟩ a)) := Lib.hid fun wq v' YS hq ho hm w9 h9 x y z a => by
      subst h9
      exact rm_end HRD7.out HSO7.out HNG7.out HF7.out HK27.out HOe.out Hbw.out HNn.out hq ho hm x y z a
     clear hSl hXl hlt
     cases done with
     | true =>
      have HM3 : Hid (MatchG X W7 XS (putS m.s t.cl t.sq c)) := Lib.hid (by rw [← HEnd.out]; exact HMt.out)
      obtain ⟨a9, c9, e9⟩ := HO.out.slice
      obtain ⟨m9, hm9⟩ : ∃ q, XS.length = q := ⟨_, rfl⟩
      rw [hm9] at e9
      have HR9 := Lib.hid (HFin.out wr v XS HB.out HO.out HM3.out)
      subst e9
      obtain ⟨w9, hw9⟩ : ∃ q, wr.setCell ⟨r, 1, none⟩ (.slice a9 m9 c9) = q := ⟨_, rfl⟩
      have HR8 := Lib.hid (HR9.out w9 hw9.symm)
      have f9 := Bk.fz (HE7.out _ HB.out).1 1
      have t9 := Bk.cell (HE7.out _ HB.out).1 1
      simp only [List.getElem?_cons_zero, List.getElem?_cons_succ] at t9
      have hF9 : Fr (fun k => k = r) wr w9 := by rw [← hw9]; exact Fr.set wr ⟨r, 1, none⟩ (.slice a9 m9 c9)
      have hrN : r < N := by have q1 := HRD7.out.lt; have q2 := Hbw.out; have q3 := HNn.out; omega
      have hn7 := HN7.out
      have HK29 := Lib.hid (hF9.bk (HK27.out.below HB.out) (by show ¬ N + 2 = r; omega))
      have HK109 := Lib.hid (hF9.bk (HK107.out.below HB.out) (by show ¬ g10 = r; omega))
      have r0 := Bk.cell HK29.out 0
      have r1 := Bk.cell HK29.out 1
      have r2 := Bk.cell HK29.out 2
      have r3 := Bk.cell HK29.out 3
      simp only [List.getElem?_cons_zero, List.getElem?_cons_succ] at r0 r1 r2 r3
      have b0 := Bk.cell HK109.out 0
      have b1 := Bk.cell HK109.out 1
      have b2 := Bk.cell HK109.out 2
      have b3 := Bk.cell HK109.out 3
      simp only [List.getElem?_cons_zero, List.getElem?_cons_succ] at b0 b1 b2 b3
      have f2 := Bk.fz HK29.out
      have hz2 := Bk.lt HK29.out
      clear hF9 hrN hn7 hm9
      go_wp2
      refine bodyPost_ret (v := repV c (.slice ca cn cc)) (by simp [results, Tryz.results21, go_sem, bad, r0, r1, r2, r3, f2, hz2]) rfl ?_
      rw [HAp.out]
      exact HR8.out _ _ _ _
     | false =>
      have HM3 : Hid (MatchG X W7 (XS ++ [(⟨t.cl, t.sq, c.err, c.val, c.ver, ca, cn, cc⟩ : SG)]) (putS m.s t.cl t.sq c)) := Lib.hid (by rw [← HEnd.out]; exact HMt.out.snoc HGn.out)
      have y0 := Bk.cell (HE7.out _ HB.out).2.2.2 0
      have y1 := Bk.cell (HE7.out _ HB.out).2.2.2 1
      have y2 := Bk.cell (HE7.out _ HB.out).2.2.2 2
      have y3 := Bk.cell (HE7.out _ HB.out).2.2.2 3
      have y4 := Bk.cell (HE7.out _ HB.out).2.2.2 4
      have y5 := Bk.cell (HE7.out _ HB.out).2.2.2 5
      simp only [List.getElem?_cons_zero, List.getElem?_cons_succ] at y0 y1 y2 y3 y4 y5
      have hzz : W7.heap.size ≤ _ := HB.out.size
      go_wp2_with (refine SF.app rfl _ _ rfl W7.heap.size v XS rfl ?own15 _ [(⟨t.cl, t.sq, c.err, c.val, c.ver, ca, cn, cc⟩ : SG)] rfl ?rd15 HL.out ?bs15 ?_)
      case own15 => exact HO.out.below ((Below.refl _ _).alloc (Nat.le_refl _) _)
      case rd15 => exact SF.rd_boxAt (⟨t.cl, t.sq, c.err, c.val, c.ver, ca, cn, cc⟩ : SG) _ 1 _ _ (by simp)
      case bs15 => first | omega | (simp; omega) | fail
      intro v2 w2 ho hb _ _
      have HOw2 := Lib.hid ho
      have HBw2 : Hid (Below W7.heap.size W7 w2) := Lib.hid ((HB.out.alloc hzz _).trans hb)
      clear ho hb hzz
      clear y0 y1 y2 y3 y4 y5 tr
      obtain ⟨a9, c9, e9⟩ := HOw2.out.slice
      obtain ⟨m9, hm9⟩ : ∃ q, (XS ++ [(⟨t.cl, t.sq, c.err, c.val, c.ver, ca, cn, cc⟩ : SG)]).length = q := ⟨_, rfl⟩
      rw [hm9] at e9
      have HR9 := Lib.hid (HFin.out w2 v2 (XS ++ [(⟨t.cl, t.sq, c.err, c.val, c.ver, ca, cn, cc⟩ : SG)]) HBw2.out HOw2.out HM3.out)
      subst e9
      obtain ⟨w9, hw9⟩ : ∃ q, w2.setCell ⟨r, 1, none⟩ (.slice a9 m9 c9) = q := ⟨_, rfl⟩
      have HR8 := Lib.hid (HR9.out w9 hw9.symm)
      have f9 := Bk.fz (HE7.out _ HBw2.out).1 1
      have t9 := Bk.cell (HE7.out _ HBw2.out).1 1
      simp only [List.getElem?_cons_zero, List.getElem?_cons_succ] at t9
      have hF9 : Fr (fun k => k = r) w2 w9 := by rw [← hw9]; exact Fr.set w2 ⟨r, 1, none⟩ (.slice a9 m9 c9)
      have hrN : r < N := by have q1 := HRD7.out.lt; have q2 := Hbw.out; have q3 := HNn.out; omega
      have hn7 := HN7.out
      have HK29 := Lib.hid (hF9.bk (HK27.out.below HBw2.out) (by show ¬ N + 2 = r; omega))
      have HK109 := Lib.hid (hF9.bk (HK107.out.below HBw2.out) (by show ¬ g10 = r; omega))
      have r0 := Bk.cell HK29.out 0
      have r1 := Bk.cell HK29.out 1
      have r2 := Bk.cell HK29.out 2
      have r3 := Bk.cell HK29.out 3
      simp only [List.getElem?_cons_zero, List.getElem?_cons_succ] at r0 r1 r2 r3
      have b0 := Bk.cell HK109.out 0
      have b1 := Bk.cell HK109.out 1
      have b2 := Bk.cell HK109.out 2
      have b3 := Bk.cell HK109.out 3
      simp only [List.getElem?_cons_zero, List.getElem?_cons_succ] at b0 b1 b2 b3
      have f2 := Bk.fz HK29.out
      have hz2 := Bk.lt HK29.out
      clear hF9 hrN hn7 hm9
      go_wp2
      refine bodyPost_ret (v := repV c (.slice ca cn cc)) (by simp [results, Tryz.results21, go_sem, bad, r0, r1, r2, r3, f2, hz2]) rfl ?_
      rw [HAp.out]
      exact HR8.out _ _ _ _
end Go.Proofs.YtodcmhmankmaoaaGreat
