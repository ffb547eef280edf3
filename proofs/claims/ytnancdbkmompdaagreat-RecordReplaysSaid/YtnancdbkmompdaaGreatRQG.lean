/-
  Texts put together: CdY3, CdS.
-/
import Derived.Test.YtnancdbkmompdaaGreatRY
import Derived.Test.YtnancdbkmompdaaGreatCdY2R
import Derived.Test.YtnancdbkmompdaaGreatRQF
import Derived.Laws.CopyRow
import Derived.Laws.Rows
namespace Go.Proofs.YtnancdbkmompdaaGreat
open Go.RowKit
set_option linter.unusedSimpArgs false
set_option linter.unusedVariables false
set_option maxRecDepth 100000
set_option maxHeartbeats 40000000
def R_sn (r0 : Int) (L1 : List Int) (L2 : List Ent) (L3 : List Ses) (B b c : Nat) (s : RSt) (w : World) (e : Ending) (w' : World) : Prop := ∃ (b1 : Option Addr) (d1 f1 : Nat) (b2 : Option Addr) (d2 f2 : Nat) (b3 : Option Addr) (d3 f3 : Nat), Hid (e = .returned (.agg #[.int .i64 r0, .slice b1 d1 f1, .slice b2 d2 f2, .slice b3 d3 f3])) ∧ OwnR KN (plainR fun t => [Value.int .i64 t]) w' w.heap.size (.slice b1 d1 f1) L1 ∧ OwnR KE (plainR enE) w' w.heap.size (.slice b2 d2 f2) L2 ∧ OwnR KZ seR w' w.heap.size (.slice b3 d3 f3) L3 ∧ RO w' B b c s ∧ Ft B b c w w'
theorem r_sn (B b c : Nat) (n0 : Int) (a1 : Option Addr) (m1 c1 : Nat) (a2 : Option Addr) (m2 c2 : Nat) (a3 : Option Addr) (m3 c3 : Nat) (r0 : Int) (L1 : List Int) (L2 : List Ent) (L3 : List Ses) (s s' : RSt) (w : World) (h : RO w B b c s) (hE : snC.rd s = (((r0, L1), L2, L3), s')) :
  Calls Tryz.prog 62 #[fR c, .agg #[.int .i64 n0, .slice a1 m1 c1, .slice a2 m2 c2, .slice a3 m3 c3]] w (R_sn r0 L1 L2 L3 B b c s' w) := by
 obtain ⟨⟨q0, k1⟩, s1, he0⟩ : ∃ x y, cfC.rd s = (x, y) := ⟨_, _, rfl⟩
 obtain ⟨k2, s2, he1⟩ : ∃ x y, (listC enC).rd s1 = (x, y) := ⟨_, _, rfl⟩
 obtain ⟨k3, s3, he2⟩ : ∃ x y, (listC seC).rd s2 = (x, y) := ⟨_, _, rfl⟩
 simp only [snC, pairC_rd, numC_rd, txtC_rd, he0, he1, he2, Prod.mk.injEq] at hE
 obtain ⟨⟨⟨rfl, rfl⟩, rfl, rfl⟩, rfl⟩ := hE
 have E0 := Hd he0
 have E1 := Hd he1
 have E2 := Hd he2
 clear he0 he1 he2
 have HS0 : Hid (StR w ((w.alloc (.cells #[.int .i64 n0, .slice a1 m1 c1, .slice a2 m2 c2, .slice a3 m3 c3] 28)).alloc (.cells #[.int .i64 0, .slice none 0 0, .slice none 0 0, .slice none 0 0] 28)) B b c w.heap.size 28 [.int .i64 n0, .slice a1 m1 c1, .slice a2 m2 c2, .slice a3 m3 c3] [.int .i64 0, .slice none 0 0, .slice none 0 0, .slice none 0 0] s) := Hd (StR.start h 28 (by decide) [.int .i64 n0, .slice a1 m1 c1, .slice a2 m2 c2, .slice a3 m3 c3] [.int .i64 0, .slice none 0 0, .slice none 0 0, .slice none 0 0])
 have HZ := Hd (show w.heap.size + 2 ≤ ((w.alloc (.cells #[.int .i64 n0, .slice a1 m1 c1, .slice a2 m2 c2, .slice a3 m3 c3] 28)).alloc (.cells #[.int .i64 0, .slice none 0 0, .slice none 0 0, .slice none 0 0] 28)).heap.size by simp)
 clear h
 have hm1 := mrnum c
 have hm2 := mrtext c
 go_enter Tryz.func62, Tryz.ntmps62
 go_wp2_with fail
 refine (r_cfg B b c n0 a1 m1 c1 q0 k1 _ _ _ HS0.out.ob E0.out).mono ?_
 rintro e w1 ⟨b1, d1, f1, he, hw1, h1, h2⟩
 rw [he.out]
 clear he
 have hc := HS0.out.call h1 h2
 have hb := hc.bx
 have y0 := hb.cell 0
 have y1 := hb.cell 1
 have y2 := hb.cell 2
 have y3 := hb.cell 3
 simp only [gB] at y0 y1 y2 y3
 have z0 := hb.fz 0
 have z1 := hb.fz 1
 have zz := hb.lt
 have HS1 : Hid (StR w ((w1.setCell ⟨w.heap.size, 0, none⟩ (.int .i64 q0)).setCell ⟨w.heap.size, 1, none⟩ (.slice b1 d1 f1)) B b c w.heap.size 28 [.int .i64 q0, .slice b1 d1 f1, .slice a2 m2 c2, .slice a3 m3 c3] [.int .i64 0, .slice none 0 0, .slice none 0 0, .slice none 0 0] s1) := Hd (hc.store 0 [.int .i64 q0, .slice b1 d1 f1])
 have HQ1_1 : Hid (OwnR KN (plainR fun t => [Value.int .i64 t]) ((w1.setCell ⟨w.heap.size, 0, none⟩ (.int .i64 q0)).setCell ⟨w.heap.size, 1, none⟩ (.slice b1 d1 f1)) (w.heap.size + 2) (.slice b1 d1 f1) k1) := Hd ((hw1.base (by have := HS0.out.rs.lt; omega)).sx (setCs_sx w.heap.size [.int .i64 q0, .slice b1 d1 f1] w1 0) (by omega))
 clear hc hb h2 h1 HS0 hw1
 go_wp2_with fail
 refine (r_lent B b c _ _ _ _ _ _ _ HS1.out.ob E1.out).mono ?_
 rintro e w2 ⟨v2, he, hw2, h1, h2⟩
 obtain ⟨b2, f2, hv2⟩ := hw2.slice
 obtain ⟨d2, hd2⟩ : ∃ x, k2.length = x := ⟨_, rfl⟩
 rw [hd2] at hv2
 subst hv2
 clear hd2
 rw [he.out]
 clear he y0 y1 y2 y3 z0 z1 zz
 have hc := HS1.out.call h1 h2
 have hb := hc.bx
 have y0 := hb.cell 0
 have y1 := hb.cell 1
 have y2 := hb.cell 2
 have y3 := hb.cell 3
 simp only [gB] at y0 y1 y2 y3
 have z2 := hb.fz 2
 have zz := hb.lt
 have HS2 : Hid (StR w (w2.setCell ⟨w.heap.size, 2, none⟩ (.slice b2 d2 f2)) B b c w.heap.size 28 [.int .i64 q0, .slice b1 d1 f1, .slice b2 d2 f2, .slice a3 m3 c3] [.int .i64 0, .slice none 0 0, .slice none 0 0, .slice none 0 0] s2) := Hd (hc.store 2 [.slice b2 d2 f2])
 have HQ1_2 : Hid (OwnR KN (plainR fun t => [Value.int .i64 t]) (w2.setCell ⟨w.heap.size, 2, none⟩ (.slice b2 d2 f2)) (w.heap.size + 2) (.slice b1 d1 f1) k1) := Hd ((HQ1_1.out.ft h2 (by have := hc.hb; omega) (by have := hc.hc; omega) (by decide)).sx (setCs_sx w.heap.size [.slice b2 d2 f2] w2 2) (by omega))
 have HQ2_2 : Hid (OwnR KE (plainR enE) (w2.setCell ⟨w.heap.size, 2, none⟩ (.slice b2 d2 f2)) (w.heap.size + 2) (.slice b2 d2 f2) k2) := Hd ((hw2.base (by have := HS1.out.rs.lt; omega)).sx (setCs_sx w.heap.size [.slice b2 d2 f2] w2 2) (by omega))
 clear hc hb h2 h1 HS1 HQ1_1 hw2
 go_wp2_with fail
 refine (r_lses B b c _ _ _ _ _ _ _ HS2.out.ob E2.out).mono ?_
 rintro e w3 ⟨v3, he, hw3, h1, h2⟩
 obtain ⟨b3, f3, hv3⟩ := hw3.slice
 obtain ⟨d3, hd3⟩ : ∃ x, k3.length = x := ⟨_, rfl⟩
 rw [hd3] at hv3
 subst hv3
 clear hd3
 rw [he.out]
 clear he y0 y1 y2 y3 z2 zz
 have hc := HS2.out.call h1 h2
 have hb := hc.bx
 have y0 := hb.cell 0
 have y1 := hb.cell 1
 have y2 := hb.cell 2
 have y3 := hb.cell 3
 simp only [gB] at y0 y1 y2 y3
 have z3 := hb.fz 3
 have zz := hb.lt
 have hr := hc.rs
 have x0 := hr.cell 0
 have x1 := hr.cell 1
 have x2 := hr.cell 2
 have x3 := hr.cell 3
 simp only [gB] at x0 x1 x2 x3
 have u0 := hr.fz 0
 have u1 := hr.fz 1
 have u2 := hr.fz 2
 have u3 := hr.fz 3
 have zr := hr.lt
 clear hr
 have HS3 : Hid (StR w (w3.setCell ⟨w.heap.size, 3, none⟩ (.slice b3 d3 f3)) B b c w.heap.size 28 [.int .i64 q0, .slice b1 d1 f1, .slice b2 d2 f2, .slice b3 d3 f3] [.int .i64 0, .slice none 0 0, .slice none 0 0, .slice none 0 0] s3) := Hd (hc.store 3 [.slice b3 d3 f3])
 have HQ1_3 : Hid (OwnR KN (plainR fun t => [Value.int .i64 t]) (w3.setCell ⟨w.heap.size, 3, none⟩ (.slice b3 d3 f3)) (w.heap.size + 2) (.slice b1 d1 f1) k1) := Hd ((HQ1_2.out.ft h2 (by have := hc.hb; omega) (by have := hc.hc; omega) (by decide)).sx (setCs_sx w.heap.size [.slice b3 d3 f3] w3 3) (by omega))
 have HQ2_3 : Hid (OwnR KE (plainR enE) (w3.setCell ⟨w.heap.size, 3, none⟩ (.slice b3 d3 f3)) (w.heap.size + 2) (.slice b2 d2 f2) k2) := Hd ((HQ2_2.out.ft h2 (by have := hc.hb; omega) (by have := hc.hc; omega) (by decide)).sx (setCs_sx w.heap.size [.slice b3 d3 f3] w3 3) (by omega))
 have HQ3_3 : Hid (OwnR KZ seR (w3.setCell ⟨w.heap.size, 3, none⟩ (.slice b3 d3 f3)) (w.heap.size + 2) (.slice b3 d3 f3) k3) := Hd ((hw3.base (by have := HS2.out.rs.lt; omega)).sx (setCs_sx w.heap.size [.slice b3 d3 f3] w3 3) (by omega))
 clear hc hb h2 h1 HS2 HQ1_2 HQ2_2 hw3
 go_wp2_with fail
 have HR : Hid (_ ∧ _) := Hd (HS3.out.toStB.result [.int .i64 q0, .slice b1 d1 f1, .slice b2 d2 f2, .slice b3 d3 f3])
 have HO := Hd (HS3.out.result [.int .i64 q0, .slice b1 d1 f1, .slice b2 d2 f2, .slice b3 d3 f3])
 have hb : Bk (((((w3.setCell ⟨w.heap.size, 3, none⟩ (.slice b3 d3 f3)).setCell ⟨(w.heap.size + 1), 0, none⟩ (.int .i64 q0)).setCell ⟨(w.heap.size + 1), 1, none⟩ (.slice b1 d1 f1)).setCell ⟨(w.heap.size + 1), 2, none⟩ (.slice b2 d2 f2)).setCell ⟨(w.heap.size + 1), 3, none⟩ (.slice b3 d3 f3)) (w.heap.size + 1) 28 [.int .i64 q0, .slice b1 d1 f1, .slice b2 d2 f2, .slice b3 d3 f3] := HR.out.1
 obtain ⟨wf, hwf⟩ : ∃ x, (((((w3.setCell ⟨w.heap.size, 3, none⟩ (.slice b3 d3 f3)).setCell ⟨(w.heap.size + 1), 0, none⟩ (.int .i64 q0)).setCell ⟨(w.heap.size + 1), 1, none⟩ (.slice b1 d1 f1)).setCell ⟨(w.heap.size + 1), 2, none⟩ (.slice b2 d2 f2)).setCell ⟨(w.heap.size + 1), 3, none⟩ (.slice b3 d3 f3)) = x := ⟨_, rfl⟩
 have HO2 : Hid (RO wf B b c s3) := Hd (by rw [← hwf]; exact HO.out)
 have HF2 : Hid (Ft B b c w wf) := Hd (by rw [← hwf]; exact HR.out.2)
 have HQ1 : Hid (OwnR KN (plainR fun t => [Value.int .i64 t]) wf w.heap.size (.slice b1 d1 f1) k1) := Hd (by rw [← hwf]; exact (HQ1_3.out.sx (setCs_sx (w.heap.size + 1) [.int .i64 q0, .slice b1 d1 f1, .slice b2 d2 f2, .slice b3 d3 f3] _ 0) (by omega)).base (by omega))
 have HQ2 : Hid (OwnR KE (plainR enE) wf w.heap.size (.slice b2 d2 f2) k2) := Hd (by rw [← hwf]; exact (HQ2_3.out.sx (setCs_sx (w.heap.size + 1) [.int .i64 q0, .slice b1 d1 f1, .slice b2 d2 f2, .slice b3 d3 f3] _ 0) (by omega)).base (by omega))
 have HQ3 : Hid (OwnR KZ seR wf w.heap.size (.slice b3 d3 f3) k3) := Hd (by rw [← hwf]; exact (HQ3_3.out.sx (setCs_sx (w.heap.size + 1) [.int .i64 q0, .slice b1 d1 f1, .slice b2 d2 f2, .slice b3 d3 f3] _ 0) (by omega)).base (by omega))
 rw [hwf] at hb ⊢
 clear hwf HR HO y0 y1 y2 y3 z3 zz x0 u0 x1 u1 x2 u2 x3 u3 zr
 have y0 := hb.cell 0
 have y1 := hb.cell 1
 have y2 := hb.cell 2
 have y3 := hb.cell 3
 simp only [gB] at y0 y1 y2 y3
 have zz := hb.lt
 clear hb
 exact bodyPost_ret (v := .agg #[.int .i64 q0, .slice b1 d1 f1, .slice b2 d2 f2, .slice b3 d3 f3]) (by simp [results, Tryz.results62, go_sem, y0, y1, y2, y3]) rfl ⟨b1, d1, f1, b2, d2, f2, b3, d3, f3, rfl, HQ1.out, HQ2.out, HQ3.out, HO2.out, HF2.out⟩
def R_ins (r0 : Int) (r1 : Int) (r2 : Int) (r3 : Int) (r4 : Int) (r5 : Int) (r6 : Int) (r7 : Int) (r8 : ByteArray) (r9 : ByteArray) (r10 : Int) (r11 : Int) (r12 : Int) (r13 : Int) (L14 : List Id3) (B b c : Nat) (s : RSt) (w : World) (e : Ending) (w' : World) : Prop := ∃ (b14 : Option Addr) (d14 f14 : Nat), Hid (e = .returned (.agg #[.int .i64 r0, .int .i64 r1, .int .i64 r2, .int .i64 r3, .int .i64 r4, .int .i64 r5, .int .i64 r6, .int .i64 r7, .string r8, .string r9, .int .i64 r10, .int .i64 r11, .int .i64 r12, .int .i64 r13, .slice b14 d14 f14])) ∧ OwnR KI (plainR idE) w' w.heap.size (.slice b14 d14 f14) L14 ∧ RO w' B b c s ∧ Ft B b c w w'
theorem r_ins (B b c : Nat) (n0 : Int) (n1 : Int) (n2 : Int) (n3 : Int) (n4 : Int) (n5 : Int) (n6 : Int) (n7 : Int) (n8 : ByteArray) (n9 : ByteArray) (n10 : Int) (n11 : Int) (n12 : Int) (n13 : Int) (a14 : Option Addr) (m14 c14 : Nat) (r0 : Int) (r1 : Int) (r2 : Int) (r3 : Int) (r4 : Int) (r5 : Int) (r6 : Int) (r7 : Int) (r8 : ByteArray) (r9 : ByteArray) (r10 : Int) (r11 : Int) (r12 : Int) (r13 : Int) (L14 : List Id3) (s s' : RSt) (w : World) (h : RO w B b c s) (hE : inC.rd s = ((r0, (r1, r2), (r3, r4), (r5, r6, r7, r8, r9, r10, r11, r12), (r13, L14)), s')) :
  Calls Tryz.prog 61 #[fR c, .agg #[.int .i64 n0, .int .i64 n1, .int .i64 n2, .int .i64 n3, .int .i64 n4, .int .i64 n5, .int .i64 n6, .int .i64 n7, .string n8, .string n9, .int .i64 n10, .int .i64 n11, .int .i64 n12, .int .i64 n13, .slice a14 m14 c14]] w (R_ins r0 r1 r2 r3 r4 r5 r6 r7 r8 r9 r10 r11 r12 r13 L14 B b c s' w) := by
 obtain ⟨q0, s1, he0⟩ : ∃ x y, gNum s = (x, y) := ⟨_, _, rfl⟩
 obtain ⟨⟨q1, q2⟩, s2, he1⟩ : ∃ x y, balC.rd s1 = (x, y) := ⟨_, _, rfl⟩
 obtain ⟨⟨q3, q4⟩, s3, he2⟩ : ∃ x y, balC.rd s2 = (x, y) := ⟨_, _, rfl⟩
 obtain ⟨⟨q5, q6, q7, q8, q9, q10, q11, q12⟩, s4, he3⟩ : ∃ x y, cmC.rd s3 = (x, y) := ⟨_, _, rfl⟩
 obtain ⟨⟨q13, k14⟩, s5, he4⟩ : ∃ x y, atC.rd s4 = (x, y) := ⟨_, _, rfl⟩
 simp only [inC, pairC_rd, numC_rd, txtC_rd, he0, he1, he2, he3, he4, Prod.mk.injEq] at hE
 obtain ⟨⟨rfl, ⟨rfl, rfl⟩, ⟨rfl, rfl⟩, ⟨rfl, rfl, rfl, rfl, rfl, rfl, rfl, rfl⟩, ⟨rfl, rfl⟩⟩, rfl⟩ := hE
 have E0 := Hd he0
 have E1 := Hd he1
 have E2 := Hd he2
 have E3 := Hd he3
 have E4 := Hd he4
 clear he0 he1 he2 he3 he4
 have HS0 : Hid (StR w ((w.alloc (.cells #[.int .i64 n0, .int .i64 n1, .int .i64 n2, .int .i64 n3, .int .i64 n4, .int .i64 n5, .int .i64 n6, .int .i64 n7, .string n8, .string n9, .int .i64 n10, .int .i64 n11, .int .i64 n12, .int .i64 n13, .slice a14 m14 c14] 59)).alloc (.cells #[.int .i64 0, .int .i64 0, .int .i64 0, .int .i64 0, .int .i64 0, .int .i64 0, .int .i64 0, .int .i64 0, .string ⟨#[]⟩, .string ⟨#[]⟩, .int .i64 0, .int .i64 0, .int .i64 0, .int .i64 0, .slice none 0 0] 59)) B b c w.heap.size 59 [.int .i64 n0, .int .i64 n1, .int .i64 n2, .int .i64 n3, .int .i64 n4, .int .i64 n5, .int .i64 n6, .int .i64 n7, .string n8, .string n9, .int .i64 n10, .int .i64 n11, .int .i64 n12, .int .i64 n13, .slice a14 m14 c14] [.int .i64 0, .int .i64 0, .int .i64 0, .int .i64 0, .int .i64 0, .int .i64 0, .int .i64 0, .int .i64 0, .string ⟨#[]⟩, .string ⟨#[]⟩, .int .i64 0, .int .i64 0, .int .i64 0, .int .i64 0, .slice none 0 0] s) := Hd (StR.start h 59 (by decide) [.int .i64 n0, .int .i64 n1, .int .i64 n2, .int .i64 n3, .int .i64 n4, .int .i64 n5, .int .i64 n6, .int .i64 n7, .string n8, .string n9, .int .i64 n10, .int .i64 n11, .int .i64 n12, .int .i64 n13, .slice a14 m14 c14] [.int .i64 0, .int .i64 0, .int .i64 0, .int .i64 0, .int .i64 0, .int .i64 0, .int .i64 0, .int .i64 0, .string ⟨#[]⟩, .string ⟨#[]⟩, .int .i64 0, .int .i64 0, .int .i64 0, .int .i64 0, .slice none 0 0])
 have HZ := Hd (show w.heap.size + 2 ≤ ((w.alloc (.cells #[.int .i64 n0, .int .i64 n1, .int .i64 n2, .int .i64 n3, .int .i64 n4, .int .i64 n5, .int .i64 n6, .int .i64 n7, .string n8, .string n9, .int .i64 n10, .int .i64 n11, .int .i64 n12, .int .i64 n13, .slice a14 m14 c14] 59)).alloc (.cells #[.int .i64 0, .int .i64 0, .int .i64 0, .int .i64 0, .int .i64 0, .int .i64 0, .int .i64 0, .int .i64 0, .string ⟨#[]⟩, .string ⟨#[]⟩, .int .i64 0, .int .i64 0, .int .i64 0, .int .i64 0, .slice none 0 0] 59)).heap.size by simp)
 clear h
 have hm1 := mrnum c
 have hm2 := mrtext c
 go_enter Tryz.func61, Tryz.ntmps61
 go_wp2_with fail
 refine (r_nstat B b c n0 _ _ HS0.out.ob).mono ?_
 rw [E0.out]
 rintro e w1 ⟨he, h1, h2⟩
 rw [he.out]
 clear he
 have hc := HS0.out.call h1 h2
 have hb := hc.bx
 have y0 := hb.cell 0
 have y1 := hb.cell 1
 have y2 := hb.cell 2
 have y3 := hb.cell 3
 have y4 := hb.cell 4
 have y5 := hb.cell 5
 have y6 := hb.cell 6
 have y7 := hb.cell 7
 have y8 := hb.cell 8
 have y9 := hb.cell 9
 have y10 := hb.cell 10
 have y11 := hb.cell 11
 have y12 := hb.cell 12
 have y13 := hb.cell 13
 have y14 := hb.cell 14
 simp only [gB] at y0 y1 y2 y3 y4 y5 y6 y7 y8 y9 y10 y11 y12 y13 y14
 have z0 := hb.fz 0
 have zz := hb.lt
 have HS1 : Hid (StR w (w1.setCell ⟨w.heap.size, 0, none⟩ (.int .i64 q0)) B b c w.heap.size 59 [.int .i64 q0, .int .i64 n1, .int .i64 n2, .int .i64 n3, .int .i64 n4, .int .i64 n5, .int .i64 n6, .int .i64 n7, .string n8, .string n9, .int .i64 n10, .int .i64 n11, .int .i64 n12, .int .i64 n13, .slice a14 m14 c14] [.int .i64 0, .int .i64 0, .int .i64 0, .int .i64 0, .int .i64 0, .int .i64 0, .int .i64 0, .int .i64 0, .string ⟨#[]⟩, .string ⟨#[]⟩, .int .i64 0, .int .i64 0, .int .i64 0, .int .i64 0, .slice none 0 0] s1) := Hd (hc.store 0 [.int .i64 q0])
 clear hc hb h2 h1 HS0
 go_wp2_with fail
 refine (r_bal B b c n1 n2 q1 q2 _ _ _ HS1.out.ob E1.out).mono ?_
 rintro e w2 ⟨he, h1, h2⟩
 rw [he.out]
 clear he y0 y1 y2 y3 y4 y5 y6 y7 y8 y9 y10 y11 y12 y13 y14 z0 zz
 have hc := HS1.out.call h1 h2
 have hb := hc.bx
 have y0 := hb.cell 0
 have y1 := hb.cell 1
 have y2 := hb.cell 2
 have y3 := hb.cell 3
 have y4 := hb.cell 4
 have y5 := hb.cell 5
 have y6 := hb.cell 6
 have y7 := hb.cell 7
 have y8 := hb.cell 8
 have y9 := hb.cell 9
 have y10 := hb.cell 10
 have y11 := hb.cell 11
 have y12 := hb.cell 12
 have y13 := hb.cell 13
 have y14 := hb.cell 14
 simp only [gB] at y0 y1 y2 y3 y4 y5 y6 y7 y8 y9 y10 y11 y12 y13 y14
 have z1 := hb.fz 1
 have z2 := hb.fz 2
 have zz := hb.lt
 have HS2 : Hid (StR w ((w2.setCell ⟨w.heap.size, 1, none⟩ (.int .i64 q1)).setCell ⟨w.heap.size, 2, none⟩ (.int .i64 q2)) B b c w.heap.size 59 [.int .i64 q0, .int .i64 q1, .int .i64 q2, .int .i64 n3, .int .i64 n4, .int .i64 n5, .int .i64 n6, .int .i64 n7, .string n8, .string n9, .int .i64 n10, .int .i64 n11, .int .i64 n12, .int .i64 n13, .slice a14 m14 c14] [.int .i64 0, .int .i64 0, .int .i64 0, .int .i64 0, .int .i64 0, .int .i64 0, .int .i64 0, .int .i64 0, .string ⟨#[]⟩, .string ⟨#[]⟩, .int .i64 0, .int .i64 0, .int .i64 0, .int .i64 0, .slice none 0 0] s2) := Hd (hc.store 1 [.int .i64 q1, .int .i64 q2])
 clear hc hb h2 h1 HS1
 go_wp2_with fail
 refine (r_bal B b c n3 n4 q3 q4 _ _ _ HS2.out.ob E2.out).mono ?_
 rintro e w3 ⟨he, h1, h2⟩
 rw [he.out]
 clear he y0 y1 y2 y3 y4 y5 y6 y7 y8 y9 y10 y11 y12 y13 y14 z1 z2 zz
 have hc := HS2.out.call h1 h2
 have hb := hc.bx
 have y0 := hb.cell 0
 have y1 := hb.cell 1
 have y2 := hb.cell 2
 have y3 := hb.cell 3
 have y4 := hb.cell 4
 have y5 := hb.cell 5
 have y6 := hb.cell 6
 have y7 := hb.cell 7
 have y8 := hb.cell 8
 have y9 := hb.cell 9
 have y10 := hb.cell 10
 have y11 := hb.cell 11
 have y12 := hb.cell 12
 have y13 := hb.cell 13
 have y14 := hb.cell 14
 simp only [gB] at y0 y1 y2 y3 y4 y5 y6 y7 y8 y9 y10 y11 y12 y13 y14
 have z3 := hb.fz 3
 have z4 := hb.fz 4
 have zz := hb.lt
 have HS3 : Hid (StR w ((w3.setCell ⟨w.heap.size, 3, none⟩ (.int .i64 q3)).setCell ⟨w.heap.size, 4, none⟩ (.int .i64 q4)) B b c w.heap.size 59 [.int .i64 q0, .int .i64 q1, .int .i64 q2, .int .i64 q3, .int .i64 q4, .int .i64 n5, .int .i64 n6, .int .i64 n7, .string n8, .string n9, .int .i64 n10, .int .i64 n11, .int .i64 n12, .int .i64 n13, .slice a14 m14 c14] [.int .i64 0, .int .i64 0, .int .i64 0, .int .i64 0, .int .i64 0, .int .i64 0, .int .i64 0, .int .i64 0, .string ⟨#[]⟩, .string ⟨#[]⟩, .int .i64 0, .int .i64 0, .int .i64 0, .int .i64 0, .slice none 0 0] s3) := Hd (hc.store 3 [.int .i64 q3, .int .i64 q4])
 clear hc hb h2 h1 HS2
 go_wp2_with fail
 refine (r_cmd B b c n5 n6 n7 n8 n9 n10 n11 n12 q5 q6 q7 q8 q9 q10 q11 q12 _ _ _ HS3.out.ob E3.out).mono ?_
 rintro e w4 ⟨he, h1, h2⟩
 rw [he.out]
 clear he y0 y1 y2 y3 y4 y5 y6 y7 y8 y9 y10 y11 y12 y13 y14 z3 z4 zz
 have hc := HS3.out.call h1 h2
 have hb := hc.bx
 have y0 := hb.cell 0
 have y1 := hb.cell 1
 have y2 := hb.cell 2
 have y3 := hb.cell 3
 have y4 := hb.cell 4
 have y5 := hb.cell 5
 have y6 := hb.cell 6
 have y7 := hb.cell 7
 have y8 := hb.cell 8
 have y9 := hb.cell 9
 have y10 := hb.cell 10
 have y11 := hb.cell 11
 have y12 := hb.cell 12
 have y13 := hb.cell 13
 have y14 := hb.cell 14
 simp only [gB] at y0 y1 y2 y3 y4 y5 y6 y7 y8 y9 y10 y11 y12 y13 y14
 have z5 := hb.fz 5
 have z6 := hb.fz 6
 have z7 := hb.fz 7
 have z8 := hb.fz 8
 have z9 := hb.fz 9
 have z10 := hb.fz 10
 have z11 := hb.fz 11
 have z12 := hb.fz 12
 have zz := hb.lt
 have HS4 : Hid (StR w ((((((((w4.setCell ⟨w.heap.size, 5, none⟩ (.int .i64 q5)).setCell ⟨w.heap.size, 6, none⟩ (.int .i64 q6)).setCell ⟨w.heap.size, 7, none⟩ (.int .i64 q7)).setCell ⟨w.heap.size, 8, none⟩ (.string q8)).setCell ⟨w.heap.size, 9, none⟩ (.string q9)).setCell ⟨w.heap.size, 10, none⟩ (.int .i64 q10)).setCell ⟨w.heap.size, 11, none⟩ (.int .i64 q11)).setCell ⟨w.heap.size, 12, none⟩ (.int .i64 q12)) B b c w.heap.size 59 [.int .i64 q0, .int .i64 q1, .int .i64 q2, .int .i64 q3, .int .i64 q4, .int .i64 q5, .int .i64 q6, .int .i64 q7, .string q8, .string q9, .int .i64 q10, .int .i64 q11, .int .i64 q12, .int .i64 n13, .slice a14 m14 c14] [.int .i64 0, .int .i64 0, .int .i64 0, .int .i64 0, .int .i64 0, .int .i64 0, .int .i64 0, .int .i64 0, .string ⟨#[]⟩, .string ⟨#[]⟩, .int .i64 0, .int .i64 0, .int .i64 0, .int .i64 0, .slice none 0 0] s4) := Hd (hc.store 5 [.int .i64 q5, .int .i64 q6, .int .i64 q7, .string q8, .string q9, .int .i64 q10, .int .i64 q11, .int .i64 q12])
 clear hc hb h2 h1 HS3
 go_wp2_with fail
 refine (r_att B b c n13 a14 m14 c14 q13 k14 _ _ _ HS4.out.ob E4.out).mono ?_
 rintro e w5 ⟨b14, d14, f14, he, hw14, h1, h2⟩
 rw [he.out]
 clear he y0 y1 y2 y3 y4 y5 y6 y7 y8 y9 y10 y11 y12 y13 y14 z5 z6 z7 z8 z9 z10 z11 z12 zz
 have hc := HS4.out.call h1 h2
 have hb := hc.bx
 have y0 := hb.cell 0
 have y1 := hb.cell 1
 have y2 := hb.cell 2
 have y3 := hb.cell 3
 have y4 := hb.cell 4
 have y5 := hb.cell 5
 have y6 := hb.cell 6
 have y7 := hb.cell 7
 have y8 := hb.cell 8
 have y9 := hb.cell 9
 have y10 := hb.cell 10
 have y11 := hb.cell 11
 have y12 := hb.cell 12
 have y13 := hb.cell 13
 have y14 := hb.cell 14
 simp only [gB] at y0 y1 y2 y3 y4 y5 y6 y7 y8 y9 y10 y11 y12 y13 y14
 have z13 := hb.fz 13
 have z14 := hb.fz 14
 have zz := hb.lt
 have hr := hc.rs
 have x0 := hr.cell 0
 have x1 := hr.cell 1
 have x2 := hr.cell 2
 have x3 := hr.cell 3
 have x4 := hr.cell 4
 have x5 := hr.cell 5
 have x6 := hr.cell 6
 have x7 := hr.cell 7
 have x8 := hr.cell 8
 have x9 := hr.cell 9
 have x10 := hr.cell 10
 have x11 := hr.cell 11
 have x12 := hr.cell 12
 have x13 := hr.cell 13
 have x14 := hr.cell 14
 simp only [gB] at x0 x1 x2 x3 x4 x5 x6 x7 x8 x9 x10 x11 x12 x13 x14
 have u0 := hr.fz 0
 have u1 := hr.fz 1
 have u2 := hr.fz 2
 have u3 := hr.fz 3
 have u4 := hr.fz 4
 have u5 := hr.fz 5
 have u6 := hr.fz 6
 have u7 := hr.fz 7
 have u8 := hr.fz 8
 have u9 := hr.fz 9
 have u10 := hr.fz 10
 have u11 := hr.fz 11
 have u12 := hr.fz 12
 have u13 := hr.fz 13
 have u14 := hr.fz 14
 have zr := hr.lt
 clear hr
 have HS5 : Hid (StR w ((w5.setCell ⟨w.heap.size, 13, none⟩ (.int .i64 q13)).setCell ⟨w.heap.size, 14, none⟩ (.slice b14 d14 f14)) B b c w.heap.size 59 [.int .i64 q0, .int .i64 q1, .int .i64 q2, .int .i64 q3, .int .i64 q4, .int .i64 q5, .int .i64 q6, .int .i64 q7, .string q8, .string q9, .int .i64 q10, .int .i64 q11, .int .i64 q12, .int .i64 q13, .slice b14 d14 f14] [.int .i64 0, .int .i64 0, .int .i64 0, .int .i64 0, .int .i64 0, .int .i64 0, .int .i64 0, .int .i64 0, .string ⟨#[]⟩, .string ⟨#[]⟩, .int .i64 0, .int .i64 0, .int .i64 0, .int .i64 0, .slice none 0 0] s5) := Hd (hc.store 13 [.int .i64 q13, .slice b14 d14 f14])
 have HQ14_5 : Hid (OwnR KI (plainR idE) ((w5.setCell ⟨w.heap.size, 13, none⟩ (.int .i64 q13)).setCell ⟨w.heap.size, 14, none⟩ (.slice b14 d14 f14)) (w.heap.size + 2) (.slice b14 d14 f14) k14) := Hd ((hw14.base (by have := HS4.out.rs.lt; omega)).sx (setCs_sx w.heap.size [.int .i64 q13, .slice b14 d14 f14] w5 13) (by omega))
 clear hc hb h2 h1 HS4 hw14
 go_wp2_with fail
 have HR : Hid (_ ∧ _) := Hd (HS5.out.toStB.result [.int .i64 q0, .int .i64 q1, .int .i64 q2, .int .i64 q3, .int .i64 q4, .int .i64 q5, .int .i64 q6, .int .i64 q7, .string q8, .string q9, .int .i64 q10, .int .i64 q11, .int .i64 q12, .int .i64 q13, .slice b14 d14 f14])
 have HO := Hd (HS5.out.result [.int .i64 q0, .int .i64 q1, .int .i64 q2, .int .i64 q3, .int .i64 q4, .int .i64 q5, .int .i64 q6, .int .i64 q7, .string q8, .string q9, .int .i64 q10, .int .i64 q11, .int .i64 q12, .int .i64 q13, .slice b14 d14 f14])
 have hb : Bk (((((((((((((((((w5.setCell ⟨w.heap.size, 13, none⟩ (.int .i64 q13)).setCell ⟨w.heap.size, 14, none⟩ (.slice b14 d14 f14)).setCell ⟨(w.heap.size + 1), 0, none⟩ (.int .i64 q0)).setCell ⟨(w.heap.size + 1), 1, none⟩ (.int .i64 q1)).setCell ⟨(w.heap.size + 1), 2, none⟩ (.int .i64 q2)).setCell ⟨(w.heap.size + 1), 3, none⟩ (.int .i64 q3)).setCell ⟨(w.heap.size + 1), 4, none⟩ (.int .i64 q4)).setCell ⟨(w.heap.size + 1), 5, none⟩ (.int .i64 q5)).setCell ⟨(w.heap.size + 1), 6, none⟩ (.int .i64 q6)).setCell ⟨(w.heap.size + 1), 7, none⟩ (.int .i64 q7)).setCell ⟨(w.heap.size + 1), 8, none⟩ (.string q8)).setCell ⟨(w.heap.size + 1), 9, none⟩ (.string q9)).setCell ⟨(w.heap.size + 1), 10, none⟩ (.int .i64 q10)).setCell ⟨(w.heap.size + 1), 11, none⟩ (.int .i64 q11)).setCell ⟨(w.heap.size + 1), 12, none⟩ (.int .i64 q12)).setCell ⟨(w.heap.size + 1), 13, none⟩ (.int .i64 q13)).setCell ⟨(w.heap.size + 1), 14, none⟩ (.slice b14 d14 f14)) (w.heap.size + 1) 59 [.int .i64 q0, .int .i64 q1, .int .i64 q2, .int .i64 q3, .int .i64 q4, .int .i64 q5, .int .i64 q6, .int .i64 q7, .string q8, .string q9, .int .i64 q10, .int .i64 q11, .int .i64 q12, .int .i64 q13, .slice b14 d14 f14] := HR.out.1
 obtain ⟨wf, hwf⟩ : ∃ x, (((((((((((((((((w5.setCell ⟨w.heap.size, 13, none⟩ (.int .i64 q13)).setCell ⟨w.heap.size, 14, none⟩ (.slice b14 d14 f14)).setCell ⟨(w.heap.size + 1), 0, none⟩ (.int .i64 q0)).setCell ⟨(w.heap.size + 1), 1, none⟩ (.int .i64 q1)).setCell ⟨(w.heap.size + 1), 2, none⟩ (.int .i64 q2)).setCell ⟨(w.heap.size + 1), 3, none⟩ (.int .i64 q3)).setCell ⟨(w.heap.size + 1), 4, none⟩ (.int .i64 q4)).setCell ⟨(w.heap.size + 1), 5, none⟩ (.int .i64 q5)).setCell ⟨(w.heap.size + 1), 6, none⟩ (.int .i64 q6)).setCell ⟨(w.heap.size + 1), 7, none⟩ (.int .i64 q7)).setCell ⟨(w.heap.size + 1), 8, none⟩ (.string q8)).setCell ⟨(w.heap.size + 1), 9, none⟩ (.string q9)).setCell ⟨(w.heap.size + 1), 10, none⟩ (.int .i64 q10)).setCell ⟨(w.heap.size + 1), 11, none⟩ (.int .i64 q11)).setCell ⟨(w.heap.size + 1), 12, none⟩ (.int .i64 q12)).setCell ⟨(w.heap.size + 1), 13, none⟩ (.int .i64 q13)).setCell ⟨(w.heap.size + 1), 14, none⟩ (.slice b14 d14 f14)) = x := ⟨_, rfl⟩
 have HO2 : Hid (RO wf B b c s5) := Hd (by rw [← hwf]; exact HO.out)
 have HF2 : Hid (Ft B b c w wf) := Hd (by rw [← hwf]; exact HR.out.2)
 have HQ14 : Hid (OwnR KI (plainR idE) wf w.heap.size (.slice b14 d14 f14) k14) := Hd (by rw [← hwf]; exact (HQ14_5.out.sx (setCs_sx (w.heap.size + 1) [.int .i64 q0, .int .i64 q1, .int .i64 q2, .int .i64 q3, .int .i64 q4, .int .i64 q5, .int .i64 q6, .int .i64 q7, .string q8, .string q9, .int .i64 q10, .int .i64 q11, .int .i64 q12, .int .i64 q13, .slice b14 d14 f14] _ 0) (by omega)).base (by omega))
 rw [hwf] at hb ⊢
 clear hwf HR HO y0 y1 y2 y3 y4 y5 y6 y7 y8 y9 y10 y11 y12 y13 y14 z13 z14 zz x0 u0 x1 u1 x2 u2 x3 u3 x4 u4 x5 u5 x6 u6 x7 u7 x8 u8 x9 u9 x10 u10 x11 u11 x12 u12 x13 u13 x14 u14 zr
 have y0 := hb.cell 0
 have y1 := hb.cell 1
 have y2 := hb.cell 2
 have y3 := hb.cell 3
 have y4 := hb.cell 4
 have y5 := hb.cell 5
 have y6 := hb.cell 6
 have y7 := hb.cell 7
 have y8 := hb.cell 8
 have y9 := hb.cell 9
 have y10 := hb.cell 10
 have y11 := hb.cell 11
 have y12 := hb.cell 12
 have y13 := hb.cell 13
 have y14 := hb.cell 14
 simp only [gB] at y0 y1 y2 y3 y4 y5 y6 y7 y8 y9 y10 y11 y12 y13 y14
 have zz := hb.lt
 clear hb
 exact bodyPost_ret (v := .agg #[.int .i64 q0, .int .i64 q1, .int .i64 q2, .int .i64 q3, .int .i64 q4, .int .i64 q5, .int .i64 q6, .int .i64 q7, .string q8, .string q9, .int .i64 q10, .int .i64 q11, .int .i64 q12, .int .i64 q13, .slice b14 d14 f14]) (by simp [results, Tryz.results61, go_sem, y0, y1, y2, y3, y4, y5, y6, y7, y8, y9, y10, y11, y12, y13, y14]) rfl ⟨b14, d14, f14, rfl, HQ14.out, HO2.out, HF2.out⟩
section
variable {P : Program} {ops : Array Oper} {rest : List Oper} {o : Oper} {a : Act} {w : World} {Q : Exit → Act → World → Prop}
theorem sx_setRow (w : World) (g : Nat) (cs : Array Value) : Sx g w (w.setRow g cs) := by
 refine ⟨rfl, rfl, rfl, by simp, fun k hk => ?_⟩
 simp only [World.setRow]
 rw [Array.getElem?_modify, if_neg (Ne.symm hk)]
theorem wpList_store_bk (hw : Region.wanted o (yielded ops a.tmps) = true) (t : TypeId) (x y : Operand) (ho : o.op = .store t x y) (g off : Nat) (hx : a.eval x = .pointer (some ⟨g, off, none⟩)) (v : Value) (vs : List Value) (hy : a.eval y = v) (hv : v.cells = vs.toArray)
  (hi : (P.info? t).map (·.size) = some vs.length) (T : TypeId) (cs cs' : List Value) (hb : Bk w g T cs) (hl : off + vs.length ≤ cs.length) (h1 : vs.all (·.oneCell') = true) (hcs : cs.take off ++ vs ++ cs.drop (off + vs.length) = cs')
  (h : ∀ w', Sx g w w' → Bk w' g T cs' → wpList P ops Q rest (a.put o.dst undef) w') : wpList P ops Q (o :: rest) a w := by
 subst hcs
 have hb' : w.heap[g]? = some (.cells cs.toArray T (0, 0)) := hb
 have hr := run_storeCells_at (P := P) g off T vs 0 cs.toArray w hb' (by simpa using hl) (fun v hv => (List.all_eq_true.1 h1) v hv)
 simp only [Nat.add_zero] at hr
 refine wpList_done hw (w.setRow g (cs.take off ++ vs ++ cs.drop (off + vs.length)).toArray) ?_ (h _ (sx_setRow _ _ _) (heap_setRow_same w g cs.toArray _ T hb'))
 unfold execOp
 cases hq : P.info? t with
 | none => simp [hq] at hi
 | some i =>
  have hs : vs.length = i.size := by simp [hq] at hi; omega
  simp [ho, hx, hy, Instr.storeAt, Instr.sureAddr, storeVar, sizeOf, typeInfo, hq, hv, hs, hr]
end
theorem StB.storeS {w0 w w' : World} {B b c x : Nat} {T : TypeId} {cs cs' zs : List Value} (h : StB w0 w B b c x T cs zs) (s : Sx x w w') (hb : Bk w' x T cs') : StB w0 w' B b c x T cs' zs :=
 ⟨h.x0, h.hb, h.hc, h.hB, h.hT, hb, h.rs.sx s (by omega), h.ft.sx s (by have := h.x0; omega) h.hB⟩
theorem StW.storeS {w0 w w' : World} {B b c x : Nat} {T : TypeId} {cs cs' zs : List Value} {st : Option (List Int)} (h : StW w0 w B b c x T cs zs st) (s : Sx x w w') (hb : Bk w' x T cs') : StW w0 w' B b c x T cs' zs st :=
 ⟨h.toStB.storeS s hb, h.ob.sx s h.bx h.hT (by have := h.hb; omega) (by have := h.hc; omega)⟩
theorem StR.storeS {w0 w w' : World} {B b c x : Nat} {T : TypeId} {cs cs' zs : List Value} {st : RSt} (h : StR w0 w B b c x T cs zs st) (s : Sx x w w') (hb : Bk w' x T cs') : StR w0 w' B b c x T cs' zs st :=
 ⟨h.toStB.storeS s hb, h.ob.sx s h.bx h.hT (by have := h.hb; omega) (by have := h.hc; omega)⟩
theorem StB.resultS {w0 w w' : World} {B b c x : Nat} {T : TypeId} {cs zs : List Value} (h : StB w0 w B b c x T cs zs) (s : Sx (x + 1) w w') : Ft B b c w0 w' :=
 h.ft.sx s (by have := h.x0; omega) (by have := h.hB; omega)
theorem StW.resultS {w0 w w' : World} {B b c x : Nat} {T : TypeId} {cs zs : List Value} {st : Option (List Int)} (h : StW w0 w B b c x T cs zs st) (s : Sx (x + 1) w w') : WO w' B b c st :=
 h.ob.sx s h.rs h.hT (by have := h.hb; omega) (by have := h.hc; omega)
theorem StR.resultS {w0 w w' : World} {B b c x : Nat} {T : TypeId} {cs zs : List Value} {st : RSt} (h : StR w0 w B b c x T cs zs st) (s : Sx (x + 1) w w') : RO w' B b c st :=
 h.ob.sx s h.rs h.hT (by have := h.hb; omega) (by have := h.hc; omega)
end Go.Proofs.YtnancdbkmompdaaGreat
