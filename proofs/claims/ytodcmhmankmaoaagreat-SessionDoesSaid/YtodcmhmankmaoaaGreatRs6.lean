/-
 Rows of sessions compared: the machine's against the document's.
-/
import Derived.Test.YtodcmhmankmaoaaGreatSesE
import Derived.Test.YtodcmhmankmaoaaGreatRs1
import Derived.IntWalk
import Derived.Deep.QuietTactic
import Derived.BigQuiet
namespace Go.Proofs.YtodcmhmankmaoaaGreat
open Go.RowKit Go.Sort
set_option linter.unusedSimpArgs false
set_option linter.unusedVariables false

set_option maxRecDepth 100000 in
set_option maxHeartbeats 4000000 in
theorem rrow9g_any (va vb : Value) (xs : List SV) (ys : List SG) (s : List S3) (X w : World) (hXw : Below X.heap.size X w) (ha : SE.Rd w va xs) (hb : SF.Rd w vb ys) (hx : Match w xs s) (hy : MatchG X w ys s) (hl : s.length ≤ 100000) :
  Calls Tryz.prog 25 #[va, vb] w fun e w' => e = .returned (.bool true) ∧ Below w.heap.size w w' := by
 obtain ⟨aa, ca, e⟩ := ha.slice
 subst e
 obtain ⟨ab, cb, e⟩ := hb.slice
 subst e
 rw [hx.len] at ha ⊢
 rw [hy.len] at hb ⊢
 obtain ⟨N, hN⟩ : ∃ N, s.length = N := ⟨_, rfl⟩
 rw [hN] at ha hb hl ⊢
 have HN := Lib.hid hN
 have HA := Lib.hid ha
 have HB := Lib.hid hb
 have HX := Lib.hid hx
 have HY := Lib.hid hy
 have HXw := Lib.hid hXw
 have hli : (N : Int) ≤ 100000 := by omega
 clear ha hb hx hy hN hXw
 go_enter Tryz.func25, Tryz.ntmps25
 go_wp2_with fail
 go_loopw [5] (fun i wr => ∃ k : Nat, k ≤ N ∧ i = .int .i64 k ∧ Hid (Below w.heap.size w wr)) (fun i _ => N - (intOf i).toNat)
 case atStart => exact ⟨0, Nat.zero_le _, rfl, Lib.hid (Below.refl _ _)⟩
 case round =>
  obtain ⟨k, hk, rfl, hBl⟩ := hrel
  by_cases hlt : k < N
  ·have hlt' : (k : Int) < (N : Int) := by omega
   have hkl : k < s.length := by rw [HN.out]; exact hlt
   obtain ⟨e0, g2, o2, hda, hg2, _, p0, p1, p2, p3, p4, p5⟩ := sesCell (HA.out.below hBl.out) k hlt
   obtain ⟨e1, g3, o3, hdb, hg3, _, q0, q1, q2, q3, q4, q5⟩ := sgCell (HB.out.below hBl.out) k hlt
   have hxe := (HX.out.on hBl.out).at' k hkl
   have hye := (HY.out.on hBl.out).at' k hkl
   obtain ⟨x, hxx⟩ : ∃ x, xs.getD k svZ = x := ⟨_, rfl⟩
   obtain ⟨y, hyy⟩ : ∃ y, ys.getD k sgZ = y := ⟨_, rfl⟩
   obtain ⟨⟨c, q, r⟩, hE⟩ : ∃ E, s.getD k zS = E := ⟨_, rfl⟩
   rw [hxx] at p0 p1 p2 p3 p4 p5 hxe
   rw [hyy] at q0 q1 q2 q3 q4 q5 hye
   rw [hE] at hxe hye
   rw [hxe.cl] at p0
   rw [hxe.sq] at p1
   rw [hxe.er] at p2
   rw [hxe.vl] at p3
   rw [hxe.vr] at p4
   rw [hye.cl] at q0
   rw [hye.sq] at q1
   rw [hye.er] at q2
   rw [hye.vl] at q3
   rw [hye.vr] at q4
   simp only at p0 p1 p2 p3 p4 q0 q1 q2 q3 q4
   have hnx := hxe.nms
   have hny := hye.row.nms (HXw.out.trans (hBl.out.mono HXw.out.size))
   obtain ⟨vx, hvx⟩ : ∃ v, slV x.sl x.n = v := ⟨_, rfl⟩
   obtain ⟨vy, hvy⟩ : ∃ v, Value.slice y.a y.n y.c = v := ⟨_, rfl⟩
   rw [hvx] at p5 hnx
   rw [hvy] at q5 hny
   have HSA := Lib.hid (same_any r vx vy wr.drew (hnx.below (Below.refl _ _).drew) (hny.below (Below.refl _ _).drew))
   have HP0 := Lib.hid p0
   have HP1 := Lib.hid p1
   have HQ0 := Lib.hid q0
   have HQ1 := Lib.hid q1
   have HG2 := Lib.hid hg2
   have HG3 := Lib.hid hg3
   subst hda
   subst hdb
   clear hxe hye hnx hny hvx hvy hxx hyy hE e0 e1 hg2 hg3 hkl
   go_wp2_with fail
   go_still_tail 10, (by kernel_rfl)
   go_wp2_with fail
   refine HSA.out.mono ?_
   rintro e w1 ⟨rfl, hb⟩
   have hb1 : Below wr.heap.size wr w1 := below_self ((Below.refl _ _).drew) hb
   have HB1 := Lib.hid (hBl.out.trans (hb1.mono hBl.out.size))
   have u0 := (hb1.cell (p := ⟨g2, o2 + k * 6, none⟩) HG2.out).trans HP0.out
   have u1 := (hb1.cell (p := ⟨g2, o2 + k * 6 + 1, none⟩) HG2.out).trans HP1.out
   have z0 := (hb1.cell (p := ⟨g3, o3 + k * 6, none⟩) HG3.out).trans HQ0.out
   have z1 := (hb1.cell (p := ⟨g3, o3 + k * 6 + 1, none⟩) HG3.out).trans HQ1.out
   have d0 : (c != c) = false := by simp
   have d1 : (q != q) = false := by simp
   clear hb hb1 p0 p1 p2 p3 p4 p5 q0 q1 q2 q3 q4 q5 hBl HSA
   go_wp2_with fail
   go_quiet (fail)
   go_wp2
   go_roundw
   case rel => exact ⟨k + 1, by omega, by go_num, Lib.hid (below_drewN_q HB1.out _)⟩
   case measure => simp [intOf]; omega
  ·obtain rfl : N = k := by omega
   have hlt' : ¬ (N : Int) < (N : Int) := by omega
   go_wp2
   go_ret
   exact ⟨rfl, hBl.out⟩
end Go.Proofs.YtodcmhmankmaoaaGreat
