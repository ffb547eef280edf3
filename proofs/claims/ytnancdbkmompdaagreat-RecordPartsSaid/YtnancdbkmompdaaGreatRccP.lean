/-
 Package record: Same.
-/
import Derived.Test.YtnancdbkmompdaaGreatPQK
namespace Go.Proofs.YtnancdbkmompdaaGreat
open Go.RowKit
set_option linter.unusedSimpArgs false
set_option linter.unusedVariables false

set_option maxHeartbeats 4000000 in
theorem cfgSame (n m : Int) (u t : Value) (rs1 rs2 : List (Cls 1)) (l k : List Int) (W w : World) (h1 : RowIs KN numS W u rs1 l) (h2 : RowIs KN numS W t rs2 k) (hW : Below W.heap.size W w) (hN : l.length ≤ 1000000) :
  Calls Tryz.prog 27 #[.agg #[.int .i64 n, u], .agg #[.int .i64 m, t]] w (EqP (decide (((n, l) : Cfg) = (m, k))) w) := by
 obtain ⟨a1, c1, rfl⟩ := h1.rd.slice
 obtain ⟨a2, c2, rfl⟩ := h2.rd.slice
 obtain ⟨N, hN1⟩ : ∃ N, rs1.length = N := ⟨_, rfl⟩
 obtain ⟨M, hM1⟩ : ∃ M, rs2.length = M := ⟨_, rfl⟩
 rw [hN1] at h1 ⊢
 rw [hM1] at h2 ⊢
 obtain ⟨X, hX⟩ : ∃ X, (w.alloc (.cells #[.int .i64 n, .slice a1 N c1] 24)).alloc (.cells #[.int .i64 m, .slice a2 M c2] 24) = X := ⟨_, rfl⟩
 have hB : Below w.heap.size w X := by rw [← hX]; exact ((Below.refl _ _).alloc (Nat.le_refl _) _).alloc (by simp) _
 have hb1 : Bk X w.heap.size 24 [.int .i64 n, .slice a1 N c1] := by rw [← hX]; exact (Bk.new w _ _).old _
 have hb2 : Bk X (w.heap.size + 1) 24 [.int .i64 m, .slice a2 M c2] := by rw [← hX]; have := Bk.new (w.alloc (.cells #[.int .i64 n, .slice a1 N c1] 24)) 24 [.int .i64 m, .slice a2 M c2]; rwa [World.size_alloc] at this
 have p0 := hb1.cell 0
 have q0 := hb2.cell 0
 have p1 := hb1.cell 1
 have q1 := hb2.cell 1
 simp only [List.getElem?_cons_zero, List.getElem?_cons_succ] at p0 q0 p1 q1
 have HB := Lib.hid hB
 have HC := Lib.hid (eqN_any _ _ rs1 rs2 l k W X h1 h2 (hW.trans (hB.mono hW.size)) hN)
 clear h1 h2 hW hN hN1 hM1 hB hb1 hb2
 go_enter Tryz.func27, Tryz.ntmps27
 by_cases z : ¬ n = m
 ·have f : (n == m) = false := by simpa using z
  have HN : Hid (decide (((n, l) : Cfg) = (m, k)) = false) := Lib.hid (decide_eq_false (fun e => z (by simp only [Prod.mk.injEq] at e; exact e.1)))
  clear z
  go_wp2_with fail
  go_ret
  exact ⟨ret_bool8 HN.out.symm, HB.out⟩
 obtain rfl := Classical.not_not.1 z
 clear z
 have f : (n == n) = true := by simp
 have HN : Hid (decide (((n, l) : Cfg) = (n, k)) = decide (l = k)) := Lib.hid (by simp)
 go_wp2_with fail
 refine HC.out.mono ?_
 rintro e w1 ⟨he, hb⟩
 rw [he.out]
 have HB1 := Lib.hid (HB.out.trans (hb.mono HB.out.size))
 clear he hb
 go_wp2_with fail
 go_ret
 exact ⟨ret_bool8 HN.out.symm, HB1.out⟩
/-- A snap no list of which is longer than any machine reads. -/
structure Sn6 (x : Snp) : Prop where
 a : x.1.2.length ≤ 1000000
 b : x.2.1.length ≤ 1000000
 c : x.2.2.length ≤ 1000000
 d : ∀ z ∈ x.2.2, z.2.2.2.2.2.length ≤ 1000000
set_option maxRecDepth 100000 in
set_option maxHeartbeats 4000000 in
theorem recSame (x y : Snp) (cs1 cs2 : Array Value) (W w : World) (h1 : snS.is W cs1.toList x) (h2 : snS.is W cs2.toList y) (hW : Below W.heap.size W w) (hN : Sn6 x) :
  Calls Tryz.prog 13 #[.agg cs1, .agg cs2] w (EqP (decide (x = y)) w) := by
 obtain ⟨a1, m1, c1, rs1, a2, m2, c2, rs2, a3, m3, c3, rs3, hcs1, k1, k2, k3⟩ := sn_is h1
 obtain ⟨b1, n1, d1, ss1, b2, n2, d2, ss2, b3, n3, d3, ss3, hcs2, j1, j2, j3⟩ := sn_is h2
 obtain ⟨⟨x0, l1⟩, l2, l3⟩ := x
 obtain ⟨⟨y0, r1⟩, r2, r3⟩ := y
 obtain rfl : cs1 = #[.int .i64 x0, .slice a1 m1 c1, .slice a2 m2 c2, .slice a3 m3 c3] := by
  cases cs1
  simpa [snV] using hcs1
 obtain rfl : cs2 = #[.int .i64 y0, .slice b1 n1 d1, .slice b2 n2 d2, .slice b3 n3 d3] := by
  cases cs2
  simpa [snV] using hcs2
 obtain ⟨X, hX⟩ : ∃ X, (w.alloc (.cells #[.int .i64 x0, .slice a1 m1 c1, .slice a2 m2 c2, .slice a3 m3 c3] 28)).alloc (.cells #[.int .i64 y0, .slice b1 n1 d1, .slice b2 n2 d2, .slice b3 n3 d3] 28) = X := ⟨_, rfl⟩
 have hB : Below w.heap.size w X := by rw [← hX]; exact ((Below.refl _ _).alloc (Nat.le_refl _) _).alloc (by simp) _
 have hb1 : Bk X w.heap.size 28 [.int .i64 x0, .slice a1 m1 c1, .slice a2 m2 c2, .slice a3 m3 c3] := by rw [← hX]; exact (Bk.new w _ _).old _
 have hb2 : Bk X (w.heap.size + 1) 28 [.int .i64 y0, .slice b1 n1 d1, .slice b2 n2 d2, .slice b3 n3 d3] := by rw [← hX]; have := Bk.new (w.alloc (.cells #[.int .i64 x0, .slice a1 m1 c1, .slice a2 m2 c2, .slice a3 m3 c3] 28)) 28 [.int .i64 y0, .slice b1 n1 d1, .slice b2 n2 d2, .slice b3 n3 d3]; rwa [World.size_alloc] at this
 have p0 := hb1.cell 0
 have q0 := hb2.cell 0
 have p1 := hb1.cell 1
 have q1 := hb2.cell 1
 have p2 := hb1.cell 2
 have q2 := hb2.cell 2
 have p3 := hb1.cell 3
 have q3 := hb2.cell 3
 simp only [List.getElem?_cons_zero, List.getElem?_cons_succ] at p0 q0 p1 q1 p2 q2 p3 q3
 have HB := Lib.hid hB
 have HBk1 := Lib.hid hb1
 have HBk2 := Lib.hid hb2
 have HW := Lib.hid hW
 have HN := Lib.hid hN
 have HK1 := Lib.hid k1
 have HK2 := Lib.hid k2
 have HK3 := Lib.hid k3
 have HJ1 := Lib.hid j1
 have HJ2 := Lib.hid j2
 have HJ3 := Lib.hid j3
 clear h1 h2 hcs1 hcs2 k1 k2 k3 j1 j2 j3 hb1 hb2 hB hW hN
 go_enter Tryz.func13, Tryz.ntmps13
 go_wp2_with fail
 refine (cfgSame x0 y0 _ _ rs1 ss1 l1 r1 W X HK1.out HJ1.out (HW.out.trans (HB.out.mono HW.out.size)) HN.out.a).mono ?_
 rintro e w1 ⟨he, hb⟩
 rw [he.out]
 clear he hX
 have HB1 := Lib.hid (HB.out.trans (hb.mono HB.out.size))
 have hb1 := HBk1.out.below hb
 have hb2 := HBk2.out.below hb
 clear hb p0 p1 p2 p3 q0 q1 q2 q3
 have p1 := hb1.cell 1
 have q1 := hb2.cell 1
 have p2 := hb1.cell 2
 have q2 := hb2.cell 2
 have p3 := hb1.cell 3
 have q3 := hb2.cell 3
 simp only [List.getElem?_cons_zero, List.getElem?_cons_succ] at p1 p2 p3 q1 q2 q3
 have HBk1b := Lib.hid hb1
 have HBk2b := Lib.hid hb2
 clear hb1 hb2
 by_cases z : ((x0, l1) : Cfg) = (y0, r1)
 ·rw [decide_eq_true z]
  have HZ := Lib.hid z
  clear z
  go_wp2_with fail
  refine (eqE_any _ _ rs2 ss2 l2 r2 W w1 HK2.out HJ2.out (HW.out.trans (HB1.out.mono HW.out.size)) HN.out.b).mono ?_
  rintro e w2 ⟨he, hb⟩
  rw [he.out]
  have HB2 := Lib.hid (HB1.out.trans (hb.mono HB1.out.size))
  have hb1 := HBk1b.out.below hb
  have hb2 := HBk2b.out.below hb
  clear he hb p1 p2 p3 q1 q2 q3
  have p3 := hb1.cell 2
  have q3 := hb2.cell 2
  have p4 := hb1.cell 3
  have q4 := hb2.cell 3
  simp only [List.getElem?_cons_zero, List.getElem?_cons_succ] at p3 q3 p4 q4
  clear hb1 hb2
  by_cases z : l2 = r2
  ·rw [decide_eq_true z]
   have HZ2 := Lib.hid z
   clear z
   go_wp2_with fail
   refine (eqZ_any _ _ rs3 ss3 l3 r3 W w2 HK3.out HJ3.out (HW.out.trans (HB2.out.mono HW.out.size)) HN.out.c HN.out.d).mono ?_
   rintro e w3 ⟨he, hb⟩
   rw [he.out]
   have HB3 := Lib.hid (HB2.out.trans (hb.mono HB2.out.size))
   clear he hb p3 q3 p4 q4
   have HE : Hid (decide ((((x0, l1), l2, l3) : Snp) = ((y0, r1), r2, r3)) = decide (l3 = r3)) := Lib.hid (by rw [HZ.out, HZ2.out]; simp)
   go_wp2_with fail
   go_ret
   exact ⟨ret_bool8 HE.out.symm, HB3.out⟩
  ·rw [decide_eq_false z]
   have HE : Hid (decide ((((x0, l1), l2, l3) : Snp) = ((y0, r1), r2, r3)) = false) := Lib.hid (decide_eq_false (fun e => z (by simp only [Prod.mk.injEq] at e; exact e.2.1)))
   clear z
   go_wp2_with fail
   go_ret
   exact ⟨ret_bool8 HE.out.symm, HB2.out⟩
 ·rw [decide_eq_false z]
  have HE : Hid (decide ((((x0, l1), l2, l3) : Snp) = ((y0, r1), r2, r3)) = false) := Lib.hid (decide_eq_false (fun e => z (by simp only [Prod.mk.injEq] at e ⊢; exact e.1)))
  clear z
  go_wp2_with fail
  go_ret
  exact ⟨ret_bool8 HE.out.symm, HB1.out⟩
end Go.Proofs.YtnancdbkmompdaaGreat
