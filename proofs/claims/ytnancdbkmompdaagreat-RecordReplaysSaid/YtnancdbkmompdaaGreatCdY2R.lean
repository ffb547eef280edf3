/-
 Package code: lists, and structs with lists, with a reader.
-/
import Derived.Test.YtnancdbkmompdaaGreatRY
import Derived.Test.YtnancdbkmompdaaGreatCdY1R
namespace Go.Proofs.YtnancdbkmompdaaGreat
open Go.RowKit
set_option linter.unusedSimpArgs false
set_option linter.unusedVariables false
set_option maxRecDepth 100000
set_option maxHeartbeats 40000000
def R_att (r0 : Int) (L1 : List Id3) (B b c : Nat) (s : RSt) (w : World) (e : Ending) (w' : World) : Prop := ∃ (b1 : Option Addr) (d1 f1 : Nat), Hid (e = .returned (.agg #[.int .i64 r0, .slice b1 d1 f1])) ∧ OwnR KI (plainR idE) w' w.heap.size (.slice b1 d1 f1) L1 ∧ RO w' B b c s ∧ Ft B b c w w'
theorem r_att (B b c : Nat) (n0 : Int) (a1 : Option Addr) (m1 c1 : Nat) (r0 : Int) (L1 : List Id3) (s s' : RSt) (w : World) (h : RO w B b c s) (hE : atC.rd s = ((r0, L1), s')) :
  Calls Tryz.prog 82 #[fR c, .agg #[.int .i64 n0, .slice a1 m1 c1]] w (R_att r0 L1 B b c s' w) := by
 obtain ⟨q0, s1, he0⟩ : ∃ x y, gNum s = (x, y) := ⟨_, _, rfl⟩
 obtain ⟨k1, s2, he1⟩ : ∃ x y, (listC idC).rd s1 = (x, y) := ⟨_, _, rfl⟩
 simp only [atC, pairC_rd, numC_rd, txtC_rd, he0, he1, Prod.mk.injEq] at hE
 obtain ⟨⟨rfl, rfl⟩, rfl⟩ := hE
 have E0 := Hd he0
 have E1 := Hd he1
 clear he0 he1
 have HS0 : Hid (StR w ((w.alloc (.cells #[.int .i64 n0, .slice a1 m1 c1] 57)).alloc (.cells #[.int .i64 0, .slice none 0 0] 57)) B b c w.heap.size 57 [.int .i64 n0, .slice a1 m1 c1] [.int .i64 0, .slice none 0 0] s) := Hd (StR.start h 57 (by decide) [.int .i64 n0, .slice a1 m1 c1] [.int .i64 0, .slice none 0 0])
 have HZ := Hd (show w.heap.size + 2 ≤ ((w.alloc (.cells #[.int .i64 n0, .slice a1 m1 c1] 57)).alloc (.cells #[.int .i64 0, .slice none 0 0] 57)).heap.size by simp)
 clear h
 have hm1 := mrnum c
 have hm2 := mrtext c
 go_enter Tryz.func82, Tryz.ntmps82
 go_wp2_with fail
 refine (crnum B b c n0 _ _ HS0.out.ob).mono ?_
 rw [E0.out]
 rintro e w1 ⟨he, h1, h2⟩
 rw [he.out]
 clear he
 have hc := HS0.out.call h1 h2
 have hb := hc.bx
 have y0 := hb.cell 0
 have y1 := hb.cell 1
 simp only [gB] at y0 y1
 have z0 := hb.fz 0
 have zz := hb.lt
 have HS1 : Hid (StR w (w1.setCell ⟨w.heap.size, 0, none⟩ (.int .i64 q0)) B b c w.heap.size 57 [.int .i64 q0, .slice a1 m1 c1] [.int .i64 0, .slice none 0 0] s1) := Hd (hc.store 0 [.int .i64 q0])
 clear hc hb h2 h1 HS0
 go_wp2_with fail
 refine (r_lid B b c _ _ _ _ _ _ _ HS1.out.ob E1.out).mono ?_
 rintro e w2 ⟨v1, he, hw1, h1, h2⟩
 obtain ⟨b1, f1, hv1⟩ := hw1.slice
 obtain ⟨d1, hd1⟩ : ∃ x, k1.length = x := ⟨_, rfl⟩
 rw [hd1] at hv1
 subst hv1
 clear hd1
 rw [he.out]
 clear he y0 y1 z0 zz
 have hc := HS1.out.call h1 h2
 have hb := hc.bx
 have y0 := hb.cell 0
 have y1 := hb.cell 1
 simp only [gB] at y0 y1
 have z1 := hb.fz 1
 have zz := hb.lt
 have hr := hc.rs
 have x0 := hr.cell 0
 have x1 := hr.cell 1
 simp only [gB] at x0 x1
 have u0 := hr.fz 0
 have u1 := hr.fz 1
 have zr := hr.lt
 clear hr
 have HS2 : Hid (StR w (w2.setCell ⟨w.heap.size, 1, none⟩ (.slice b1 d1 f1)) B b c w.heap.size 57 [.int .i64 q0, .slice b1 d1 f1] [.int .i64 0, .slice none 0 0] s2) := Hd (hc.store 1 [.slice b1 d1 f1])
 have HQ1_2 : Hid (OwnR KI (plainR idE) (w2.setCell ⟨w.heap.size, 1, none⟩ (.slice b1 d1 f1)) (w.heap.size + 2) (.slice b1 d1 f1) k1) := Hd ((hw1.base (by have := HS1.out.rs.lt; omega)).sx (setCs_sx w.heap.size [.slice b1 d1 f1] w2 1) (by omega))
 clear hc hb h2 h1 HS1 hw1
 go_wp2_with fail
 have HR : Hid (_ ∧ _) := Hd (HS2.out.toStB.result [.int .i64 q0, .slice b1 d1 f1])
 have HO := Hd (HS2.out.result [.int .i64 q0, .slice b1 d1 f1])
 have hb : Bk (((w2.setCell ⟨w.heap.size, 1, none⟩ (.slice b1 d1 f1)).setCell ⟨(w.heap.size + 1), 0, none⟩ (.int .i64 q0)).setCell ⟨(w.heap.size + 1), 1, none⟩ (.slice b1 d1 f1)) (w.heap.size + 1) 57 [.int .i64 q0, .slice b1 d1 f1] := HR.out.1
 obtain ⟨wf, hwf⟩ : ∃ x, (((w2.setCell ⟨w.heap.size, 1, none⟩ (.slice b1 d1 f1)).setCell ⟨(w.heap.size + 1), 0, none⟩ (.int .i64 q0)).setCell ⟨(w.heap.size + 1), 1, none⟩ (.slice b1 d1 f1)) = x := ⟨_, rfl⟩
 have HO2 : Hid (RO wf B b c s2) := Hd (by rw [← hwf]; exact HO.out)
 have HF2 : Hid (Ft B b c w wf) := Hd (by rw [← hwf]; exact HR.out.2)
 have HQ1 : Hid (OwnR KI (plainR idE) wf w.heap.size (.slice b1 d1 f1) k1) := Hd (by rw [← hwf]; exact (HQ1_2.out.sx (setCs_sx (w.heap.size + 1) [.int .i64 q0, .slice b1 d1 f1] _ 0) (by omega)).base (by omega))
 rw [hwf] at hb ⊢
 clear hwf HR HO y0 y1 z1 zz x0 u0 x1 u1 zr
 have y0 := hb.cell 0
 have y1 := hb.cell 1
 simp only [gB] at y0 y1
 have zz := hb.lt
 clear hb
 exact bodyPost_ret (v := .agg #[.int .i64 q0, .slice b1 d1 f1]) (by simp [results, Tryz.results82, go_sem, y0, y1]) rfl ⟨b1, d1, f1, rfl, HQ1.out, HO2.out, HF2.out⟩
def R_cfg (r0 : Int) (L1 : List Int) (B b c : Nat) (s : RSt) (w : World) (e : Ending) (w' : World) : Prop := ∃ (b1 : Option Addr) (d1 f1 : Nat), Hid (e = .returned (.agg #[.int .i64 r0, .slice b1 d1 f1])) ∧ OwnR KN (plainR fun t => [Value.int .i64 t]) w' w.heap.size (.slice b1 d1 f1) L1 ∧ RO w' B b c s ∧ Ft B b c w w'
theorem r_cfg (B b c : Nat) (n0 : Int) (a1 : Option Addr) (m1 c1 : Nat) (r0 : Int) (L1 : List Int) (s s' : RSt) (w : World) (h : RO w B b c s) (hE : cfC.rd s = ((r0, L1), s')) :
  Calls Tryz.prog 83 #[fR c, .agg #[.int .i64 n0, .slice a1 m1 c1]] w (R_cfg r0 L1 B b c s' w) := by
 obtain ⟨q0, s1, he0⟩ : ∃ x y, gNum s = (x, y) := ⟨_, _, rfl⟩
 obtain ⟨k1, s2, he1⟩ : ∃ x y, (listC numC).rd s1 = (x, y) := ⟨_, _, rfl⟩
 simp only [cfC, pairC_rd, numC_rd, txtC_rd, he0, he1, Prod.mk.injEq] at hE
 obtain ⟨⟨rfl, rfl⟩, rfl⟩ := hE
 have E0 := Hd he0
 have E1 := Hd he1
 clear he0 he1
 have HS0 : Hid (StR w ((w.alloc (.cells #[.int .i64 n0, .slice a1 m1 c1] 24)).alloc (.cells #[.int .i64 0, .slice none 0 0] 24)) B b c w.heap.size 24 [.int .i64 n0, .slice a1 m1 c1] [.int .i64 0, .slice none 0 0] s) := Hd (StR.start h 24 (by decide) [.int .i64 n0, .slice a1 m1 c1] [.int .i64 0, .slice none 0 0])
 have HZ := Hd (show w.heap.size + 2 ≤ ((w.alloc (.cells #[.int .i64 n0, .slice a1 m1 c1] 24)).alloc (.cells #[.int .i64 0, .slice none 0 0] 24)).heap.size by simp)
 clear h
 have hm1 := mrnum c
 have hm2 := mrtext c
 go_enter Tryz.func83, Tryz.ntmps83
 go_wp2_with fail
 refine (crnum B b c n0 _ _ HS0.out.ob).mono ?_
 rw [E0.out]
 rintro e w1 ⟨he, h1, h2⟩
 rw [he.out]
 clear he
 have hc := HS0.out.call h1 h2
 have hb := hc.bx
 have y0 := hb.cell 0
 have y1 := hb.cell 1
 simp only [gB] at y0 y1
 have z0 := hb.fz 0
 have zz := hb.lt
 have HS1 : Hid (StR w (w1.setCell ⟨w.heap.size, 0, none⟩ (.int .i64 q0)) B b c w.heap.size 24 [.int .i64 q0, .slice a1 m1 c1] [.int .i64 0, .slice none 0 0] s1) := Hd (hc.store 0 [.int .i64 q0])
 clear hc hb h2 h1 HS0
 go_wp2_with fail
 refine (r_lint B b c _ _ _ _ _ _ _ HS1.out.ob E1.out).mono ?_
 rintro e w2 ⟨v1, he, hw1, h1, h2⟩
 obtain ⟨b1, f1, hv1⟩ := hw1.slice
 obtain ⟨d1, hd1⟩ : ∃ x, k1.length = x := ⟨_, rfl⟩
 rw [hd1] at hv1
 subst hv1
 clear hd1
 rw [he.out]
 clear he y0 y1 z0 zz
 have hc := HS1.out.call h1 h2
 have hb := hc.bx
 have y0 := hb.cell 0
 have y1 := hb.cell 1
 simp only [gB] at y0 y1
 have z1 := hb.fz 1
 have zz := hb.lt
 have hr := hc.rs
 have x0 := hr.cell 0
 have x1 := hr.cell 1
 simp only [gB] at x0 x1
 have u0 := hr.fz 0
 have u1 := hr.fz 1
 have zr := hr.lt
 clear hr
 have HS2 : Hid (StR w (w2.setCell ⟨w.heap.size, 1, none⟩ (.slice b1 d1 f1)) B b c w.heap.size 24 [.int .i64 q0, .slice b1 d1 f1] [.int .i64 0, .slice none 0 0] s2) := Hd (hc.store 1 [.slice b1 d1 f1])
 have HQ1_2 : Hid (OwnR KN (plainR fun t => [Value.int .i64 t]) (w2.setCell ⟨w.heap.size, 1, none⟩ (.slice b1 d1 f1)) (w.heap.size + 2) (.slice b1 d1 f1) k1) := Hd ((hw1.base (by have := HS1.out.rs.lt; omega)).sx (setCs_sx w.heap.size [.slice b1 d1 f1] w2 1) (by omega))
 clear hc hb h2 h1 HS1 hw1
 go_wp2_with fail
 have HR : Hid (_ ∧ _) := Hd (HS2.out.toStB.result [.int .i64 q0, .slice b1 d1 f1])
 have HO := Hd (HS2.out.result [.int .i64 q0, .slice b1 d1 f1])
 have hb : Bk (((w2.setCell ⟨w.heap.size, 1, none⟩ (.slice b1 d1 f1)).setCell ⟨(w.heap.size + 1), 0, none⟩ (.int .i64 q0)).setCell ⟨(w.heap.size + 1), 1, none⟩ (.slice b1 d1 f1)) (w.heap.size + 1) 24 [.int .i64 q0, .slice b1 d1 f1] := HR.out.1
 obtain ⟨wf, hwf⟩ : ∃ x, (((w2.setCell ⟨w.heap.size, 1, none⟩ (.slice b1 d1 f1)).setCell ⟨(w.heap.size + 1), 0, none⟩ (.int .i64 q0)).setCell ⟨(w.heap.size + 1), 1, none⟩ (.slice b1 d1 f1)) = x := ⟨_, rfl⟩
 have HO2 : Hid (RO wf B b c s2) := Hd (by rw [← hwf]; exact HO.out)
 have HF2 : Hid (Ft B b c w wf) := Hd (by rw [← hwf]; exact HR.out.2)
 have HQ1 : Hid (OwnR KN (plainR fun t => [Value.int .i64 t]) wf w.heap.size (.slice b1 d1 f1) k1) := Hd (by rw [← hwf]; exact (HQ1_2.out.sx (setCs_sx (w.heap.size + 1) [.int .i64 q0, .slice b1 d1 f1] _ 0) (by omega)).base (by omega))
 rw [hwf] at hb ⊢
 clear hwf HR HO y0 y1 z1 zz x0 u0 x1 u1 zr
 have y0 := hb.cell 0
 have y1 := hb.cell 1
 simp only [gB] at y0 y1
 have zz := hb.lt
 clear hb
 exact bodyPost_ret (v := .agg #[.int .i64 q0, .slice b1 d1 f1]) (by simp [results, Tryz.results83, go_sem, y0, y1]) rfl ⟨b1, d1, f1, rfl, HQ1.out, HO2.out, HF2.out⟩
def R_rp (r0 : Int) (r1 : ByteArray) (r2 : Int) (L3 : List ByteArray) (B b c : Nat) (s : RSt) (w : World) (e : Ending) (w' : World) : Prop := ∃ (b3 : Option Addr) (d3 f3 : Nat), Hid (e = .returned (.agg #[.int .i64 r0, .string r1, .int .i64 r2, .slice b3 d3 f3])) ∧ OwnR KT (plainR fun t => [Value.string t]) w' w.heap.size (.slice b3 d3 f3) L3 ∧ RO w' B b c s ∧ Ft B b c w w'
theorem r_rp (B b c : Nat) (n0 : Int) (n1 : ByteArray) (n2 : Int) (a3 : Option Addr) (m3 c3 : Nat) (r0 : Int) (r1 : ByteArray) (r2 : Int) (L3 : List ByteArray) (s s' : RSt) (w : World) (h : RO w B b c s) (hE : rpC.rd s = ((r0, r1, r2, L3), s')) :
  Calls Tryz.prog 99 #[fR c, .agg #[.int .i64 n0, .string n1, .int .i64 n2, .slice a3 m3 c3]] w (R_rp r0 r1 r2 L3 B b c s' w) := by
 obtain ⟨q0, s1, he0⟩ : ∃ x y, gNum s = (x, y) := ⟨_, _, rfl⟩
 obtain ⟨q1, s2, he1⟩ : ∃ x y, gTxt s1 = (x, y) := ⟨_, _, rfl⟩
 obtain ⟨q2, s3, he2⟩ : ∃ x y, gNum s2 = (x, y) := ⟨_, _, rfl⟩
 obtain ⟨k3, s4, he3⟩ : ∃ x y, (listC txtC).rd s3 = (x, y) := ⟨_, _, rfl⟩
 simp only [rpC, pairC_rd, numC_rd, txtC_rd, he0, he1, he2, he3, Prod.mk.injEq] at hE
 obtain ⟨⟨rfl, rfl, rfl, rfl⟩, rfl⟩ := hE
 have E0 := Hd he0
 have E1 := Hd he1
 have E2 := Hd he2
 have E3 := Hd he3
 clear he0 he1 he2 he3
 have HS0 : Hid (StR w ((w.alloc (.cells #[.int .i64 n0, .string n1, .int .i64 n2, .slice a3 m3 c3] 73)).alloc (.cells #[.int .i64 0, .string ⟨#[]⟩, .int .i64 0, .slice none 0 0] 73)) B b c w.heap.size 73 [.int .i64 n0, .string n1, .int .i64 n2, .slice a3 m3 c3] [.int .i64 0, .string ⟨#[]⟩, .int .i64 0, .slice none 0 0] s) := Hd (StR.start h 73 (by decide) [.int .i64 n0, .string n1, .int .i64 n2, .slice a3 m3 c3] [.int .i64 0, .string ⟨#[]⟩, .int .i64 0, .slice none 0 0])
 have HZ := Hd (show w.heap.size + 2 ≤ ((w.alloc (.cells #[.int .i64 n0, .string n1, .int .i64 n2, .slice a3 m3 c3] 73)).alloc (.cells #[.int .i64 0, .string ⟨#[]⟩, .int .i64 0, .slice none 0 0] 73)).heap.size by simp)
 clear h
 have hm1 := mrnum c
 have hm2 := mrtext c
 go_enter Tryz.func99, Tryz.ntmps99
 go_wp2_with fail
 refine (r_nerr B b c n0 _ _ HS0.out.ob).mono ?_
 rw [E0.out]
 rintro e w1 ⟨he, h1, h2⟩
 rw [he.out]
 clear he
 have hc := HS0.out.call h1 h2
 have hb := hc.bx
 have y0 := hb.cell 0
 have y1 := hb.cell 1
 have y2 := hb.cell 2
 have y3 := hb.cell 3
 simp only [gB] at y0 y1 y2 y3
 have z0 := hb.fz 0
 have zz := hb.lt
 have HS1 : Hid (StR w (w1.setCell ⟨w.heap.size, 0, none⟩ (.int .i64 q0)) B b c w.heap.size 73 [.int .i64 q0, .string n1, .int .i64 n2, .slice a3 m3 c3] [.int .i64 0, .string ⟨#[]⟩, .int .i64 0, .slice none 0 0] s1) := Hd (hc.store 0 [.int .i64 q0])
 clear hc hb h2 h1 HS0
 go_wp2_with fail
 refine (crtext B b c n1 _ _ HS1.out.ob).mono ?_
 rw [E1.out]
 rintro e w2 ⟨he, h1, h2⟩
 rw [he.out]
 clear he y0 y1 y2 y3 z0 zz
 have hc := HS1.out.call h1 h2
 have hb := hc.bx
 have y0 := hb.cell 0
 have y1 := hb.cell 1
 have y2 := hb.cell 2
 have y3 := hb.cell 3
 simp only [gB] at y0 y1 y2 y3
 have z1 := hb.fz 1
 have zz := hb.lt
 have HS2 : Hid (StR w (w2.setCell ⟨w.heap.size, 1, none⟩ (.string q1)) B b c w.heap.size 73 [.int .i64 q0, .string q1, .int .i64 n2, .slice a3 m3 c3] [.int .i64 0, .string ⟨#[]⟩, .int .i64 0, .slice none 0 0] s2) := Hd (hc.store 1 [.string q1])
 clear hc hb h2 h1 HS1
 go_wp2_with fail
 refine (crnum B b c n2 _ _ HS2.out.ob).mono ?_
 rw [E2.out]
 rintro e w3 ⟨he, h1, h2⟩
 rw [he.out]
 clear he y0 y1 y2 y3 z1 zz
 have hc := HS2.out.call h1 h2
 have hb := hc.bx
 have y0 := hb.cell 0
 have y1 := hb.cell 1
 have y2 := hb.cell 2
 have y3 := hb.cell 3
 simp only [gB] at y0 y1 y2 y3
 have z2 := hb.fz 2
 have zz := hb.lt
 have HS3 : Hid (StR w (w3.setCell ⟨w.heap.size, 2, none⟩ (.int .i64 q2)) B b c w.heap.size 73 [.int .i64 q0, .string q1, .int .i64 q2, .slice a3 m3 c3] [.int .i64 0, .string ⟨#[]⟩, .int .i64 0, .slice none 0 0] s3) := Hd (hc.store 2 [.int .i64 q2])
 clear hc hb h2 h1 HS2
 go_wp2_with fail
 refine (r_lstr B b c _ _ _ _ _ _ _ HS3.out.ob E3.out).mono ?_
 rintro e w4 ⟨v3, he, hw3, h1, h2⟩
 obtain ⟨b3, f3, hv3⟩ := hw3.slice
 obtain ⟨d3, hd3⟩ : ∃ x, k3.length = x := ⟨_, rfl⟩
 rw [hd3] at hv3
 subst hv3
 clear hd3
 rw [he.out]
 clear he y0 y1 y2 y3 z2 zz
 have hc := HS3.out.call h1 h2
 have hb := hc.bx
 have y0 := hb.cell 0
 have y1 := hb.cell 1
 have y2 := hb.cell 2
 have y3 := hb.cell 3
 simp only [gB] at y0 y1 y2 y3
 have z3 := hb.fz 3
 have zz := hb.lt
 have hr := hc.rs
 have x0 := hr.cell 0
 have x1 := hr.cell 1
 have x2 := hr.cell 2
 have x3 := hr.cell 3
 simp only [gB] at x0 x1 x2 x3
 have u0 := hr.fz 0
 have u1 := hr.fz 1
 have u2 := hr.fz 2
 have u3 := hr.fz 3
 have zr := hr.lt
 clear hr
 have HS4 : Hid (StR w (w4.setCell ⟨w.heap.size, 3, none⟩ (.slice b3 d3 f3)) B b c w.heap.size 73 [.int .i64 q0, .string q1, .int .i64 q2, .slice b3 d3 f3] [.int .i64 0, .string ⟨#[]⟩, .int .i64 0, .slice none 0 0] s4) := Hd (hc.store 3 [.slice b3 d3 f3])
 have HQ3_4 : Hid (OwnR KT (plainR fun t => [Value.string t]) (w4.setCell ⟨w.heap.size, 3, none⟩ (.slice b3 d3 f3)) (w.heap.size + 2) (.slice b3 d3 f3) k3) := Hd ((hw3.base (by have := HS3.out.rs.lt; omega)).sx (setCs_sx w.heap.size [.slice b3 d3 f3] w4 3) (by omega))
 clear hc hb h2 h1 HS3 hw3
 go_wp2_with fail
 have HR : Hid (_ ∧ _) := Hd (HS4.out.toStB.result [.int .i64 q0, .string q1, .int .i64 q2, .slice b3 d3 f3])
 have HO := Hd (HS4.out.result [.int .i64 q0, .string q1, .int .i64 q2, .slice b3 d3 f3])
 have hb : Bk (((((w4.setCell ⟨w.heap.size, 3, none⟩ (.slice b3 d3 f3)).setCell ⟨(w.heap.size + 1), 0, none⟩ (.int .i64 q0)).setCell ⟨(w.heap.size + 1), 1, none⟩ (.string q1)).setCell ⟨(w.heap.size + 1), 2, none⟩ (.int .i64 q2)).setCell ⟨(w.heap.size + 1), 3, none⟩ (.slice b3 d3 f3)) (w.heap.size + 1) 73 [.int .i64 q0, .string q1, .int .i64 q2, .slice b3 d3 f3] := HR.out.1
 obtain ⟨wf, hwf⟩ : ∃ x, (((((w4.setCell ⟨w.heap.size, 3, none⟩ (.slice b3 d3 f3)).setCell ⟨(w.heap.size + 1), 0, none⟩ (.int .i64 q0)).setCell ⟨(w.heap.size + 1), 1, none⟩ (.string q1)).setCell ⟨(w.heap.size + 1), 2, none⟩ (.int .i64 q2)).setCell ⟨(w.heap.size + 1), 3, none⟩ (.slice b3 d3 f3)) = x := ⟨_, rfl⟩
 have HO2 : Hid (RO wf B b c s4) := Hd (by rw [← hwf]; exact HO.out)
 have HF2 : Hid (Ft B b c w wf) := Hd (by rw [← hwf]; exact HR.out.2)
 have HQ3 : Hid (OwnR KT (plainR fun t => [Value.string t]) wf w.heap.size (.slice b3 d3 f3) k3) := Hd (by rw [← hwf]; exact (HQ3_4.out.sx (setCs_sx (w.heap.size + 1) [.int .i64 q0, .string q1, .int .i64 q2, .slice b3 d3 f3] _ 0) (by omega)).base (by omega))
 rw [hwf] at hb ⊢
 clear hwf HR HO y0 y1 y2 y3 z3 zz x0 u0 x1 u1 x2 u2 x3 u3 zr
 have y0 := hb.cell 0
 have y1 := hb.cell 1
 have y2 := hb.cell 2
 have y3 := hb.cell 3
 simp only [gB] at y0 y1 y2 y3
 have zz := hb.lt
 clear hb
 exact bodyPost_ret (v := .agg #[.int .i64 q0, .string q1, .int .i64 q2, .slice b3 d3 f3]) (by simp [results, Tryz.results99, go_sem, y0, y1, y2, y3]) rfl ⟨b3, d3, f3, rfl, HQ3.out, HO2.out, HF2.out⟩
def R_ses (r0 : Int) (r1 : Int) (r2 : Int) (r3 : ByteArray) (r4 : Int) (L5 : List ByteArray) (B b c : Nat) (s : RSt) (w : World) (e : Ending) (w' : World) : Prop := ∃ (b5 : Option Addr) (d5 f5 : Nat), Hid (e = .returned (.agg #[.int .i64 r0, .int .i64 r1, .int .i64 r2, .string r3, .int .i64 r4, .slice b5 d5 f5])) ∧ OwnR KT (plainR fun t => [Value.string t]) w' w.heap.size (.slice b5 d5 f5) L5 ∧ RO w' B b c s ∧ Ft B b c w w'
theorem r_ses (B b c : Nat) (n0 : Int) (n1 : Int) (n2 : Int) (n3 : ByteArray) (n4 : Int) (a5 : Option Addr) (m5 c5 : Nat) (r0 : Int) (r1 : Int) (r2 : Int) (r3 : ByteArray) (r4 : Int) (L5 : List ByteArray) (s s' : RSt) (w : World) (h : RO w B b c s) (hE : seC.rd s = ((r0, r1, (r2, r3, r4, L5)), s')) :
  Calls Tryz.prog 87 #[fR c, .agg #[.int .i64 n0, .int .i64 n1, .int .i64 n2, .string n3, .int .i64 n4, .slice a5 m5 c5]] w (R_ses r0 r1 r2 r3 r4 L5 B b c s' w) := by
 obtain ⟨q0, s1, he0⟩ : ∃ x y, gNum s = (x, y) := ⟨_, _, rfl⟩
 obtain ⟨q1, s2, he1⟩ : ∃ x y, gNum s1 = (x, y) := ⟨_, _, rfl⟩
 obtain ⟨⟨q2, q3, q4, k5⟩, s3, he2⟩ : ∃ x y, rpC.rd s2 = (x, y) := ⟨_, _, rfl⟩
 simp only [seC, pairC_rd, numC_rd, txtC_rd, he0, he1, he2, Prod.mk.injEq] at hE
 obtain ⟨⟨rfl, rfl, ⟨rfl, rfl, rfl, rfl⟩⟩, rfl⟩ := hE
 have E0 := Hd he0
 have E1 := Hd he1
 have E2 := Hd he2
 clear he0 he1 he2
 have HS0 : Hid (StR w ((w.alloc (.cells #[.int .i64 n0, .int .i64 n1, .int .i64 n2, .string n3, .int .i64 n4, .slice a5 m5 c5] 75)).alloc (.cells #[.int .i64 0, .int .i64 0, .int .i64 0, .string ⟨#[]⟩, .int .i64 0, .slice none 0 0] 75)) B b c w.heap.size 75 [.int .i64 n0, .int .i64 n1, .int .i64 n2, .string n3, .int .i64 n4, .slice a5 m5 c5] [.int .i64 0, .int .i64 0, .int .i64 0, .string ⟨#[]⟩, .int .i64 0, .slice none 0 0] s) := Hd (StR.start h 75 (by decide) [.int .i64 n0, .int .i64 n1, .int .i64 n2, .string n3, .int .i64 n4, .slice a5 m5 c5] [.int .i64 0, .int .i64 0, .int .i64 0, .string ⟨#[]⟩, .int .i64 0, .slice none 0 0])
 have HZ := Hd (show w.heap.size + 2 ≤ ((w.alloc (.cells #[.int .i64 n0, .int .i64 n1, .int .i64 n2, .string n3, .int .i64 n4, .slice a5 m5 c5] 75)).alloc (.cells #[.int .i64 0, .int .i64 0, .int .i64 0, .string ⟨#[]⟩, .int .i64 0, .slice none 0 0] 75)).heap.size by simp)
 clear h
 have hm1 := mrnum c
 have hm2 := mrtext c
 go_enter Tryz.func87, Tryz.ntmps87
 go_wp2_with fail
 refine (crnum B b c n0 _ _ HS0.out.ob).mono ?_
 rw [E0.out]
 rintro e w1 ⟨he, h1, h2⟩
 rw [he.out]
 clear he
 have hc := HS0.out.call h1 h2
 have hb := hc.bx
 have y0 := hb.cell 0
 have y1 := hb.cell 1
 have y2 := hb.cell 2
 have y3 := hb.cell 3
 have y4 := hb.cell 4
 have y5 := hb.cell 5
 simp only [gB] at y0 y1 y2 y3 y4 y5
 have z0 := hb.fz 0
 have zz := hb.lt
 have HS1 : Hid (StR w (w1.setCell ⟨w.heap.size, 0, none⟩ (.int .i64 q0)) B b c w.heap.size 75 [.int .i64 q0, .int .i64 n1, .int .i64 n2, .string n3, .int .i64 n4, .slice a5 m5 c5] [.int .i64 0, .int .i64 0, .int .i64 0, .string ⟨#[]⟩, .int .i64 0, .slice none 0 0] s1) := Hd (hc.store 0 [.int .i64 q0])
 clear hc hb h2 h1 HS0
 go_wp2_with fail
 refine (crnum B b c n1 _ _ HS1.out.ob).mono ?_
 rw [E1.out]
 rintro e w2 ⟨he, h1, h2⟩
 rw [he.out]
 clear he y0 y1 y2 y3 y4 y5 z0 zz
 have hc := HS1.out.call h1 h2
 have hb := hc.bx
 have y0 := hb.cell 0
 have y1 := hb.cell 1
 have y2 := hb.cell 2
 have y3 := hb.cell 3
 have y4 := hb.cell 4
 have y5 := hb.cell 5
 simp only [gB] at y0 y1 y2 y3 y4 y5
 have z1 := hb.fz 1
 have zz := hb.lt
 have HS2 : Hid (StR w (w2.setCell ⟨w.heap.size, 1, none⟩ (.int .i64 q1)) B b c w.heap.size 75 [.int .i64 q0, .int .i64 q1, .int .i64 n2, .string n3, .int .i64 n4, .slice a5 m5 c5] [.int .i64 0, .int .i64 0, .int .i64 0, .string ⟨#[]⟩, .int .i64 0, .slice none 0 0] s2) := Hd (hc.store 1 [.int .i64 q1])
 clear hc hb h2 h1 HS1
 go_wp2_with fail
 refine (r_rp B b c n2 n3 n4 a5 m5 c5 q2 q3 q4 k5 _ _ _ HS2.out.ob E2.out).mono ?_
 rintro e w3 ⟨b5, d5, f5, he, hw5, h1, h2⟩
 rw [he.out]
 clear he y0 y1 y2 y3 y4 y5 z1 zz
 have hc := HS2.out.call h1 h2
 have hb := hc.bx
 have y0 := hb.cell 0
 have y1 := hb.cell 1
 have y2 := hb.cell 2
 have y3 := hb.cell 3
 have y4 := hb.cell 4
 have y5 := hb.cell 5
 simp only [gB] at y0 y1 y2 y3 y4 y5
 have z2 := hb.fz 2
 have z3 := hb.fz 3
 have z4 := hb.fz 4
 have z5 := hb.fz 5
 have zz := hb.lt
 have hr := hc.rs
 have x0 := hr.cell 0
 have x1 := hr.cell 1
 have x2 := hr.cell 2
 have x3 := hr.cell 3
 have x4 := hr.cell 4
 have x5 := hr.cell 5
 simp only [gB] at x0 x1 x2 x3 x4 x5
 have u0 := hr.fz 0
 have u1 := hr.fz 1
 have u2 := hr.fz 2
 have u3 := hr.fz 3
 have u4 := hr.fz 4
 have u5 := hr.fz 5
 have zr := hr.lt
 clear hr
 have HS3 : Hid (StR w ((((w3.setCell ⟨w.heap.size, 2, none⟩ (.int .i64 q2)).setCell ⟨w.heap.size, 3, none⟩ (.string q3)).setCell ⟨w.heap.size, 4, none⟩ (.int .i64 q4)).setCell ⟨w.heap.size, 5, none⟩ (.slice b5 d5 f5)) B b c w.heap.size 75 [.int .i64 q0, .int .i64 q1, .int .i64 q2, .string q3, .int .i64 q4, .slice b5 d5 f5] [.int .i64 0, .int .i64 0, .int .i64 0, .string ⟨#[]⟩, .int .i64 0, .slice none 0 0] s3) := Hd (hc.store 2 [.int .i64 q2, .string q3, .int .i64 q4, .slice b5 d5 f5])
 have HQ5_3 : Hid (OwnR KT (plainR fun t => [Value.string t]) ((((w3.setCell ⟨w.heap.size, 2, none⟩ (.int .i64 q2)).setCell ⟨w.heap.size, 3, none⟩ (.string q3)).setCell ⟨w.heap.size, 4, none⟩ (.int .i64 q4)).setCell ⟨w.heap.size, 5, none⟩ (.slice b5 d5 f5)) (w.heap.size + 2) (.slice b5 d5 f5) k5) := Hd ((hw5.base (by have := HS2.out.rs.lt; omega)).sx (setCs_sx w.heap.size [.int .i64 q2, .string q3, .int .i64 q4, .slice b5 d5 f5] w3 2) (by omega))
 clear hc hb h2 h1 HS2 hw5
 go_wp2_with fail
 have HR : Hid (_ ∧ _) := Hd (HS3.out.toStB.result [.int .i64 q0, .int .i64 q1, .int .i64 q2, .string q3, .int .i64 q4, .slice b5 d5 f5])
 have HO := Hd (HS3.out.result [.int .i64 q0, .int .i64 q1, .int .i64 q2, .string q3, .int .i64 q4, .slice b5 d5 f5])
 have hb : Bk ((((((((((w3.setCell ⟨w.heap.size, 2, none⟩ (.int .i64 q2)).setCell ⟨w.heap.size, 3, none⟩ (.string q3)).setCell ⟨w.heap.size, 4, none⟩ (.int .i64 q4)).setCell ⟨w.heap.size, 5, none⟩ (.slice b5 d5 f5)).setCell ⟨(w.heap.size + 1), 0, none⟩ (.int .i64 q0)).setCell ⟨(w.heap.size + 1), 1, none⟩ (.int .i64 q1)).setCell ⟨(w.heap.size + 1), 2, none⟩ (.int .i64 q2)).setCell ⟨(w.heap.size + 1), 3, none⟩ (.string q3)).setCell ⟨(w.heap.size + 1), 4, none⟩ (.int .i64 q4)).setCell ⟨(w.heap.size + 1), 5, none⟩ (.slice b5 d5 f5)) (w.heap.size + 1) 75 [.int .i64 q0, .int .i64 q1, .int .i64 q2, .string q3, .int .i64 q4, .slice b5 d5 f5] := HR.out.1
 obtain ⟨wf, hwf⟩ : ∃ x, ((((((((((w3.setCell ⟨w.heap.size, 2, none⟩ (.int .i64 q2)).setCell ⟨w.heap.size, 3, none⟩ (.string q3)).setCell ⟨w.heap.size, 4, none⟩ (.int .i64 q4)).setCell ⟨w.heap.size, 5, none⟩ (.slice b5 d5 f5)).setCell ⟨(w.heap.size + 1), 0, none⟩ (.int .i64 q0)).setCell ⟨(w.heap.size + 1), 1, none⟩ (.int .i64 q1)).setCell ⟨(w.heap.size + 1), 2, none⟩ (.int .i64 q2)).setCell ⟨(w.heap.size + 1), 3, none⟩ (.string q3)).setCell ⟨(w.heap.size + 1), 4, none⟩ (.int .i64 q4)).setCell ⟨(w.heap.size + 1), 5, none⟩ (.slice b5 d5 f5)) = x := ⟨_, rfl⟩
 have HO2 : Hid (RO wf B b c s3) := Hd (by rw [← hwf]; exact HO.out)
 have HF2 : Hid (Ft B b c w wf) := Hd (by rw [← hwf]; exact HR.out.2)
 have HQ5 : Hid (OwnR KT (plainR fun t => [Value.string t]) wf w.heap.size (.slice b5 d5 f5) k5) := Hd (by rw [← hwf]; exact (HQ5_3.out.sx (setCs_sx (w.heap.size + 1) [.int .i64 q0, .int .i64 q1, .int .i64 q2, .string q3, .int .i64 q4, .slice b5 d5 f5] _ 0) (by omega)).base (by omega))
 rw [hwf] at hb ⊢
 clear hwf HR HO y0 y1 y2 y3 y4 y5 z2 z3 z4 z5 zz x0 u0 x1 u1 x2 u2 x3 u3 x4 u4 x5 u5 zr
 have y0 := hb.cell 0
 have y1 := hb.cell 1
 have y2 := hb.cell 2
 have y3 := hb.cell 3
 have y4 := hb.cell 4
 have y5 := hb.cell 5
 simp only [gB] at y0 y1 y2 y3 y4 y5
 have zz := hb.lt
 clear hb
 exact bodyPost_ret (v := .agg #[.int .i64 q0, .int .i64 q1, .int .i64 q2, .string q3, .int .i64 q4, .slice b5 d5 f5]) (by simp [results, Tryz.results87, go_sem, y0, y1, y2, y3, y4, y5]) rfl ⟨b5, d5, f5, rfl, HQ5.out, HO2.out, HF2.out⟩
theorem r_lses (B b c : Nat) (a0 : Option Addr) (m0 c0 : Nat) (l : List Ses) (s s' : RSt) (w : World) (h : RO w B b c s) (hE : (listC seC).rd s = (l, s')) :
  Calls Tryz.prog 86 #[fR c, .slice a0 m0 c0, .func (.func 87) #[] #[]] w (RQ KZ seR l B b c s' w) := by
 have hN := gCnt_le s
 obtain ⟨N, s1, hC⟩ : ∃ x y, gCnt s = (x, y) := ⟨_, _, rfl⟩
 rw [listC_rd, hC] at hE
 rw [hC] at hN
 simp only at hE hN
 have E := Hd hE
 have EC := Hd hC
 have HW := Hd h
 have hcN : N ≤ 1000000 := by omega
 have m1 := mrcount c
 have m2 := tR c
 clear hE hC h
 go_enter Tryz.func86, Tryz.ntmps86
 go_wp2_with fail
 refine (crcount B b c _ _ _ HW.out).mono ?_
 rw [EC.out]
 rintro e w1 ⟨he, h1, h2⟩
 rw [he.out]
 clear he
 have H1 := Hd h1
 have H2 := Hd h2
 clear h1 h2
 go_wp2_with (refine KZ.makeN rfl _ _ rfl clsZ rfl N rfl rfl hcN w1.heap.size (Nat.le_refl _) ?_)
 intro vz w2 hoz hbz hgz
 obtain ⟨az, cz, rfl⟩ : ∃ az cz, vz = .slice az N cz := by
  obtain ⟨az, cz, e⟩ := hoz.slice
  exact ⟨az, cz, by rw [e]; simp⟩
 have HLZ : Hid (∀ j, (Value.slice az N cz).ownBlock = some j → w1.heap.size ≤ j ∧ j < w2.heap.size) := Hd (fun j hj => ⟨hoz.from j hj, (hoz.blk j hj).1⟩)
 have HOZ := Hd hoz
 have HZ := Hd (show b < w1.heap.size ∧ c < w1.heap.size ∧ B ≤ w1.heap.size ∧ w.heap.size ≤ w1.heap.size ∧ w1.heap.size ≤ w2.heap.size from ⟨H1.out.lt.1, H1.out.lt.2, by have := H1.out.lt; have := H1.out.low; omega, H2.out.size, hbz.size⟩)
 have HS0 := Hd (H1.out.below hbz)
 have HF0 := Hd (H2.out.trans (Ft.of_below (b := b) (c := c) hbz HZ.out.2.2.1))
 clear hoz hbz hgz H1 H2
 go_wp2_with (refine KZ.make rfl _ _ rfl rfl N rfl hcN w2.heap.size (Nat.le_refl _) ?_)
 intro v2 w3 ho hb hne hg
 obtain ⟨a2, c2, rfl⟩ : ∃ a2 c2, v2 = .slice a2 0 c2 := ho.slice
 have HO := Hd (show OwnR KZ seR w3 w2.heap.size (.slice a2 0 c2) [] from OwnR.nil ho)
 have HOZ3 := Hd (HOZ.out.below hb)
 have HS := Hd (HS0.out.below hb)
 have HF := Hd (HF0.out.trans (Ft.of_below (b := b) (c := c) hb (by have := HZ.out; omega)))
 have HP := Hd hb.size
 clear ho hb hne hg HS0 HF0 HOZ
 go_wp2_with fail
 go_loopw [10, 27] (fun o i wr => ∃ (k : Nat) (a : Option Addr) (cp : Nat) (lk : List Ses) (sk : RSt), k ≤ N ∧ i = .int .i64 k ∧ o = .slice a k cp ∧ Hid (gList seC.rd k s1 = (lk, sk)) ∧ Hid (OwnR KZ seR wr w2.heap.size (.slice a k cp) lk) ∧ Hid (RO wr B b c sk) ∧ Hid (Ft B b c w wr) ∧ Hid (w2.heap.size ≤ wr.heap.size) ∧ Hid (KZ.Own wr w1.heap.size (.slice az N cz) (List.replicate N clsZ))) (fun _ i _ => N - (intOf i).toNat)
 case atStart => exact ⟨0, a2, c2, [], s1, by omega, rfl, rfl, rfl, HO.out, HS.out, HF.out, HP.out, HOZ3.out⟩
 case round =>
  clear HO HS HF HP HOZ3
  obtain ⟨k, a, cp, lk, sk, hk, rfl, rfl, HG, HO, HS, HF, HP, HOZ⟩ := hrel
  by_cases hlt : k < N
  ·obtain ⟨g, off, ha, hgl, hcel⟩ := zero_at HOZ.out hlt
   subst ha
   have y0 : wr.cell? ⟨g, off + k * 6, none⟩ = some (.int .i64 0) := hcel 0 _ rfl
   have y1 : wr.cell? ⟨g, off + k * 6 + 1, none⟩ = some (.int .i64 0) := hcel 1 _ rfl
   have y2 : wr.cell? ⟨g, off + k * 6 + 2, none⟩ = some (.int .i64 0) := hcel 2 _ rfl
   have y3 : wr.cell? ⟨g, off + k * 6 + 3, none⟩ = some (.string ⟨#[]⟩) := hcel 3 _ rfl
   have y4 : wr.cell? ⟨g, off + k * 6 + 4, none⟩ = some (.int .i64 0) := hcel 4 _ rfl
   have y5 : wr.cell? ⟨g, off + k * 6 + 5, none⟩ = some (.slice none 0 0) := hcel 5 _ rfl
   obtain ⟨⟨x0, x1, x2, x3, x4, x5⟩, s2, hx⟩ : ∃ x y, seC.rd sk = (x, y) := ⟨_, _, rfl⟩
   have EX := Hd hx
   have HG2 : Hid (gList seC.rd (k + 1) s1 = (lk ++ [(x0, x1, x2, x3, x4, x5)], s2)) := Hd (by rw [gList_snoc, HG.out]; simp only; rw [show seC.rd sk = ((x0, x1, x2, x3, x4, x5), s2) from hx])
   clear hcel hx
   go_wp2_with fail
   refine (r_ses B b c _ _ _ _ _ _ _ _ x0 x1 x2 x3 x4 x5 _ _ _ HS.out EX.out).mono ?_
   rintro e w4 ⟨b3, d3, f3, he, hrow, h1, h2⟩
   rw [he.out]
   clear he y0 y1 y2 y3 y4 y5
   obtain ⟨rk, g1, g2, g3⟩ := HO.out
   have hbc : ∀ j, (Value.slice a k cp).ownBlock = some j → j ≠ b ∧ j ≠ c := fun j hj => by have := g1.from j hj; have := HZ.out; omega
   have hO := g1.ft h2 (by decide) hbc
   have hOZ := HOZ.out.ft h2 (by decide) (fun j hj => by have := HLZ.out j hj; have := HZ.out; omega)
   have HS2 := Hd h1
   have HF2 := Hd (HF.out.trans h2)
   have hz3 : w2.heap.size ≤ w4.heap.size := by have := HP.out; have := h2.size; omega
   obtain ⟨X, hX⟩ : ∃ X : Cls 6, X = ⟨[.int .i64 x0, .int .i64 x1, .int .i64 x2, .string x3, .int .i64 x4, .slice b3 d3 f3], rfl, by intro v hv; simp only [List.mem_cons, List.not_mem_nil, or_false] at hv; rcases hv with rfl | rfl | rfl | rfl | rfl | rfl <;> rfl⟩ := ⟨_, rfl⟩
   have hXe : KZ.enc X = [.int .i64 x0, .int .i64 x1, .int .i64 x2, .string x3, .int .i64 x4, .slice b3 d3 f3] := by rw [hX]; rfl
   have HXc : Hid (X.cs = [.int .i64 x0, .int .i64 x1, .int .i64 x2, .string x3, .int .i64 x4, .slice b3 d3 f3]) := Hd (by rw [hX])
   have HO2 := Hd (hO.below ((Below.refl _ _).alloc (Nat.le_refl _) (.cells (KZ.enc X).toArray 75)))
   have HOZ2 := Hd (hOZ.below ((Below.refl _ _).alloc (Nat.le_refl _) (.cells (KZ.enc X).toArray 75)))
   have HQ := Hd (KZ.rd_boxAt X 75 1 w4 w4.heap.size rfl)
   rw [hXe] at HO2 HQ HOZ2
   clear hX hXe
   have HBC := Hd hbc
   have HFr := Hd g1.from
   have hgk : rk.length = k := by
    obtain ⟨_, _, e⟩ := g1.slice
    simp only [Value.slice.injEq] at e
    exact e.2.1.symm
   have HGK := Hd hgk
   have HG23 := Hd (And.intro g2 g3)
   have hlk : rk.length + [X].length ≤ 1000000 := by rw [hgk]; simp; omega
   have HKP : Hid (∀ j, w2.heap.size ≤ j → Ty wr j 9 → w4.heap[j]? = wr.heap[j]?) := Hd (fun j hj hq => by
    obtain ⟨cs1, fr1, q1⟩ := hq
    exact h2.keep j (Array.getElem?_eq_some_iff.1 q1).1 (by have := HZ.out; omega) (by have := HZ.out; omega) (Ty.not8 ⟨cs1, fr1, q1⟩ (by decide)))
   have HRow := Hd (hrow.base (M := w2.heap.size) HP.out)
   clear hrow
   clear hO hOZ h1 h2 hbc g1 g2 g3 hgk HS HF HO HP HOZ
   go_wp2_with (refine KZ.app rfl _ _ rfl w2.heap.size _ rk rfl HO2.out _ [X] rfl HQ.out hlk (by simp; omega) ?_)
   intro v5 w5 ho hb5 hg5 hne5
   obtain ⟨a5, c5, rfl⟩ : ∃ a5 c5, v5 = .slice a5 (k + 1) c5 := by
    obtain ⟨a5, c5, e5⟩ := ho.slice
    exact ⟨a5, c5, by rw [e5]; simp [HGK.out]⟩
   have HK5 : Hid (∀ j, w2.heap.size ≤ j → Ty w4 j 9 → w5.heap[j]? = w4.heap[j]?) := Hd (fun j hj hq => by
    obtain ⟨cs1, fr1, q1⟩ := hq
    have hlt4 := (Array.getElem?_eq_some_iff.1 q1).1
    have e4 := (Below.heap_alloc w4 (.cells (KZ.enc X).toArray 75) j hlt4)
    refine (hg5.block j (by simp; omega) (fun e => ?_)).trans (Below.heap_alloc _ _ _ hlt4)
    obtain ⟨_, cs2, fr2, q2⟩ := HO2.out.blk j e.symm
    have e5 : (w4.alloc (.cells #[.int .i64 x0, .int .i64 x1, .int .i64 x2, .string x3, .int .i64 x4, .slice b3 d3 f3] 75)).heap[j]? = w4.heap[j]? := Below.heap_alloc _ _ _ hlt4
    have q3 : w4.heap[j]? = some (.cells cs2 KZ.T fr2) := e5.symm.trans q2
    rw [q1] at q3
    simp only [Option.some.injEq, Obj.cells.injEq] at q3
    exact absurd q3.2.1 (by decide))
   have HO5 : Hid (OwnR KZ seR w5 w2.heap.size (.slice a5 (k + 1) c5) (lk ++ [(x0, x1, x2, x3, x4, x5)])) := Hd (OwnR.more (w := w5) (v := .slice a k cp) ho HG23.out.1 (fun j p q => seR.keep (seR.keep (HG23.out.2 j p q) HKP.out) HK5.out) ⟨.slice b3 d3 f3, HXc.out, HRow.out.keep (fun j hj hq => HK5.out j hj (hq.elim id id))⟩)
   have HS5 := Hd ((HS2.out.below ((Below.refl _ _).alloc (Nat.le_refl _) _)).grown HO2.out (by decide) HBC.out hg5)
   have HF5 := Hd ((HF2.out.alloc (by have := HZ.out; omega) _).grown hg5 (fun j hj => by have := HFr.out j hj; have := HZ.out; omega) (by have := HZ.out; simp; omega))
   have HP5 := Hd hg5.size
   have HOZ5 := Hd (HOZ2.out.keepB (fun j hj => hg5.block j (HOZ2.out.blk j hj).1 (fun e => by have := HLZ.out j hj; have := HFr.out j e.symm; omega)))
   clear ho hb5 hg5 hne5 HO2 HS2 HF2 HOZ2
   go_wp2_with fail
   refine ⟨⟨k + 1, a5, c5, lk ++ [(x0, x1, x2, x3, x4, x5)], s2, by omega, by first | rfl | simp, rfl, HG2.out, HO5.out, HS5.out, HF5.out, Hd (by have := HP5.out; simp at this; omega), HOZ5.out⟩, by simp [intOf]; omega⟩
  ·have hkN : k = N := by omega
   subst hkN
   have hfin := HG.out
   rw [E.out] at hfin
   simp only [Prod.mk.injEq] at hfin
   obtain ⟨rfl, rfl⟩ := hfin
   go_wp2_with fail
   go_ret
   exact ⟨.slice a k cp, rfl, HO.out.base (by have := HZ.out; omega), HS.out, HF.out⟩
end Go.Proofs.YtnancdbkmompdaaGreat
