/-
 Package code: structs without lists, with a reader.
-/
import Derived.Test.YtnancdbkmompdaaGreatRY
import Derived.Test.YtnancdbkmompdaaGreatRQE
namespace Go.Proofs.YtnancdbkmompdaaGreat
open Go.RowKit
set_option linter.unusedSimpArgs false
set_option linter.unusedVariables false
set_option maxRecDepth 100000
set_option maxHeartbeats 40000000
theorem r_nstat (B b c : Nat) (n : Int) (s : RSt) (w : World) (h : RO w B b c s) :
  Calls Tryz.prog 79 #[fR c, .int .i64 n] w (RP (.int .i64 (gNum s).1) B b c (gNum s).2 w) := by
 have HW := Hd h
 clear h
 have m1 := mrnum c
 go_enter Tryz.func79, Tryz.ntmps79
 go_wp2_with fail
 refine (crnum B b c n s _ HW.out).mono ?_
 rintro e w1 ⟨he, h1, h2⟩
 rw [he.out]
 clear he
 have H1 := Hd h1
 have H2 := Hd h2
 clear h1 h2
 go_wp2_with fail
 go_ret
 exact ⟨rfl, H1.out, H2.out⟩
theorem r_nop (B b c : Nat) (n : Int) (s : RSt) (w : World) (h : RO w B b c s) :
  Calls Tryz.prog 95 #[fR c, .int .i64 n] w (RP (.int .i64 (gNum s).1) B b c (gNum s).2 w) := by
 have HW := Hd h
 clear h
 have m1 := mrnum c
 go_enter Tryz.func95, Tryz.ntmps95
 go_wp2_with fail
 refine (crnum B b c n s _ HW.out).mono ?_
 rintro e w1 ⟨he, h1, h2⟩
 rw [he.out]
 clear he
 have H1 := Hd h1
 have H2 := Hd h2
 clear h1 h2
 go_wp2_with fail
 go_ret
 exact ⟨rfl, H1.out, H2.out⟩
theorem r_nint (B b c : Nat) (n : Int) (s : RSt) (w : World) (h : RO w B b c s) :
  Calls Tryz.prog 98 #[fR c, .int .i64 n] w (RP (.int .i64 (gNum s).1) B b c (gNum s).2 w) := by
 have HW := Hd h
 clear h
 have m1 := mrnum c
 go_enter Tryz.func98, Tryz.ntmps98
 go_wp2_with fail
 refine (crnum B b c n s _ HW.out).mono ?_
 rintro e w1 ⟨he, h1, h2⟩
 rw [he.out]
 clear he
 have H1 := Hd h1
 have H2 := Hd h2
 clear h1 h2
 go_wp2_with fail
 go_ret
 exact ⟨rfl, H1.out, H2.out⟩
theorem r_nerr (B b c : Nat) (n : Int) (s : RSt) (w : World) (h : RO w B b c s) :
  Calls Tryz.prog 104 #[fR c, .int .i64 n] w (RP (.int .i64 (gNum s).1) B b c (gNum s).2 w) := by
 have HW := Hd h
 clear h
 have m1 := mrnum c
 go_enter Tryz.func104, Tryz.ntmps104
 go_wp2_with fail
 refine (crnum B b c n s _ HW.out).mono ?_
 rintro e w1 ⟨he, h1, h2⟩
 rw [he.out]
 clear he
 have H1 := Hd h1
 have H2 := Hd h2
 clear h1 h2
 go_wp2_with fail
 go_ret
 exact ⟨rfl, H1.out, H2.out⟩
theorem r_name (B b c : Nat) (n : ByteArray) (s : RSt) (w : World) (h : RO w B b c s) :
  Calls Tryz.prog 106 #[fR c, .string n] w (RP (.string (gTxt s).1) B b c (gTxt s).2 w) := by
 have HW := Hd h
 clear h
 have m1 := mrtext c
 go_enter Tryz.func106, Tryz.ntmps106
 go_wp2_with fail
 refine (crtext B b c n s _ HW.out).mono ?_
 rintro e w1 ⟨he, h1, h2⟩
 rw [he.out]
 clear he
 have H1 := Hd h1
 have H2 := Hd h2
 clear h1 h2
 go_wp2_with fail
 go_ret
 exact ⟨rfl, H1.out, H2.out⟩
theorem r_id (B b c : Nat) (n0 : Int) (n1 : Int) (n2 : Int) (r0 : Int) (r1 : Int) (r2 : Int) (s s' : RSt) (w : World) (h : RO w B b c s) (hE : idC.rd s = ((r0, r1, r2), s')) :
  Calls Tryz.prog 60 #[fR c, .agg #[.int .i64 n0, .int .i64 n1, .int .i64 n2]] w (RP (.agg #[.int .i64 r0, .int .i64 r1, .int .i64 r2]) B b c s' w) := by
 obtain ⟨q0, s1, he0⟩ : ∃ x y, gNum s = (x, y) := ⟨_, _, rfl⟩
 obtain ⟨q1, s2, he1⟩ : ∃ x y, gNum s1 = (x, y) := ⟨_, _, rfl⟩
 obtain ⟨q2, s3, he2⟩ : ∃ x y, gNum s2 = (x, y) := ⟨_, _, rfl⟩
 simp only [idC, pairC_rd, numC_rd, txtC_rd, he0, he1, he2, Prod.mk.injEq] at hE
 obtain ⟨⟨rfl, rfl, rfl⟩, rfl⟩ := hE
 have E0 := Hd he0
 have E1 := Hd he1
 have E2 := Hd he2
 clear he0 he1 he2
 have HS0 : Hid (StR w ((w.alloc (.cells #[.int .i64 n0, .int .i64 n1, .int .i64 n2] 49)).alloc (.cells #[.int .i64 0, .int .i64 0, .int .i64 0] 49)) B b c w.heap.size 49 [.int .i64 n0, .int .i64 n1, .int .i64 n2] [.int .i64 0, .int .i64 0, .int .i64 0] s) := Hd (StR.start h 49 (by decide) [.int .i64 n0, .int .i64 n1, .int .i64 n2] [.int .i64 0, .int .i64 0, .int .i64 0])
 clear h
 have m1 := mrnum c
 have m2 := mrtext c
 go_enter Tryz.func60, Tryz.ntmps60
 go_wp2_with fail
 refine (crnum B b c n0 _ _ HS0.out.ob).mono ?_
 rw [E0.out]
 rintro e w1 ⟨he, h1, h2⟩
 rw [he.out]
 clear he
 have hc := HS0.out.call h1 h2
 have hb := hc.bx
 have y0 := hb.cell 0
 have y1 := hb.cell 1
 have y2 := hb.cell 2
 simp only [gB] at y0 y1 y2
 have z0 := hb.fz 0
 have zz := hb.lt
 have HS1 : Hid (StR w (w1.setCell ⟨w.heap.size, 0, none⟩ (.int .i64 q0)) B b c w.heap.size 49 [.int .i64 q0, .int .i64 n1, .int .i64 n2] [.int .i64 0, .int .i64 0, .int .i64 0] s1) := Hd (hc.store 0 [.int .i64 q0])
 clear hc hb h1 h2 HS0
 go_wp2_with fail
 refine (crnum B b c n1 _ _ HS1.out.ob).mono ?_
 rw [E1.out]
 rintro e w2 ⟨he, h1, h2⟩
 rw [he.out]
 clear he y0 y1 y2 z0 zz
 have hc := HS1.out.call h1 h2
 have hb := hc.bx
 have y0 := hb.cell 0
 have y1 := hb.cell 1
 have y2 := hb.cell 2
 simp only [gB] at y0 y1 y2
 have z1 := hb.fz 1
 have zz := hb.lt
 have HS2 : Hid (StR w (w2.setCell ⟨w.heap.size, 1, none⟩ (.int .i64 q1)) B b c w.heap.size 49 [.int .i64 q0, .int .i64 q1, .int .i64 n2] [.int .i64 0, .int .i64 0, .int .i64 0] s2) := Hd (hc.store 1 [.int .i64 q1])
 clear hc hb h1 h2 HS1
 go_wp2_with fail
 refine (crnum B b c n2 _ _ HS2.out.ob).mono ?_
 rw [E2.out]
 rintro e w3 ⟨he, h1, h2⟩
 rw [he.out]
 clear he y0 y1 y2 z1 zz
 have hc := HS2.out.call h1 h2
 have hb := hc.bx
 have y0 := hb.cell 0
 have y1 := hb.cell 1
 have y2 := hb.cell 2
 simp only [gB] at y0 y1 y2
 have z2 := hb.fz 2
 have zz := hb.lt
 have hr := hc.rs
 have x0 := hr.cell 0
 have x1 := hr.cell 1
 have x2 := hr.cell 2
 simp only [gB] at x0 x1 x2
 have u0 := hr.fz 0
 have u1 := hr.fz 1
 have u2 := hr.fz 2
 have zr := hr.lt
 clear hr
 have HS3 : Hid (StR w (w3.setCell ⟨w.heap.size, 2, none⟩ (.int .i64 q2)) B b c w.heap.size 49 [.int .i64 q0, .int .i64 q1, .int .i64 q2] [.int .i64 0, .int .i64 0, .int .i64 0] s3) := Hd (hc.store 2 [.int .i64 q2])
 clear hc hb h1 h2 HS2
 go_wp2_with fail
 have HR : Hid (_ ∧ _) := Hd (HS3.out.toStB.result [.int .i64 q0, .int .i64 q1, .int .i64 q2])
 have HO := Hd (HS3.out.result [.int .i64 q0, .int .i64 q1, .int .i64 q2])
 have hb : Bk ((((w3.setCell ⟨w.heap.size, 2, none⟩ (.int .i64 q2)).setCell ⟨(w.heap.size + 1), 0, none⟩ (.int .i64 q0)).setCell ⟨(w.heap.size + 1), 1, none⟩ (.int .i64 q1)).setCell ⟨(w.heap.size + 1), 2, none⟩ (.int .i64 q2)) (w.heap.size + 1) 49 [.int .i64 q0, .int .i64 q1, .int .i64 q2] := HR.out.1
 obtain ⟨wf, hwf⟩ : ∃ x, ((((w3.setCell ⟨w.heap.size, 2, none⟩ (.int .i64 q2)).setCell ⟨(w.heap.size + 1), 0, none⟩ (.int .i64 q0)).setCell ⟨(w.heap.size + 1), 1, none⟩ (.int .i64 q1)).setCell ⟨(w.heap.size + 1), 2, none⟩ (.int .i64 q2)) = x := ⟨_, rfl⟩
 have HO2 : Hid (RO wf B b c s3) := Hd (by rw [← hwf]; exact HO.out)
 have HF2 : Hid (Ft B b c w wf) := Hd (by rw [← hwf]; exact HR.out.2)
 rw [hwf] at hb ⊢
 clear hwf HR HO y0 y1 y2 z2 zz x0 u0 x1 u1 x2 u2 zr
 have y0 := hb.cell 0
 have y1 := hb.cell 1
 have y2 := hb.cell 2
 simp only [gB] at y0 y1 y2
 have zz := hb.lt
 clear hb
 exact bodyPost_ret (v := .agg #[.int .i64 q0, .int .i64 q1, .int .i64 q2]) (by simp [results, Tryz.results60, go_sem, y0, y1, y2]) rfl ⟨rfl, HO2.out, HF2.out⟩
theorem r_bal (B b c : Nat) (n0 : Int) (n1 : Int) (r0 : Int) (r1 : Int) (s s' : RSt) (w : World) (h : RO w B b c s) (hE : balC.rd s = ((r0, r1), s')) :
  Calls Tryz.prog 80 #[fR c, .agg #[.int .i64 n0, .int .i64 n1]] w (RP (.agg #[.int .i64 r0, .int .i64 r1]) B b c s' w) := by
 obtain ⟨q0, s1, he0⟩ : ∃ x y, gNum s = (x, y) := ⟨_, _, rfl⟩
 obtain ⟨q1, s2, he1⟩ : ∃ x y, gNum s1 = (x, y) := ⟨_, _, rfl⟩
 simp only [balC, pairC_rd, numC_rd, txtC_rd, he0, he1, Prod.mk.injEq] at hE
 obtain ⟨⟨rfl, rfl⟩, rfl⟩ := hE
 have E0 := Hd he0
 have E1 := Hd he1
 clear he0 he1
 have HS0 : Hid (StR w ((w.alloc (.cells #[.int .i64 n0, .int .i64 n1] 52)).alloc (.cells #[.int .i64 0, .int .i64 0] 52)) B b c w.heap.size 52 [.int .i64 n0, .int .i64 n1] [.int .i64 0, .int .i64 0] s) := Hd (StR.start h 52 (by decide) [.int .i64 n0, .int .i64 n1] [.int .i64 0, .int .i64 0])
 clear h
 have m1 := mrnum c
 have m2 := mrtext c
 go_enter Tryz.func80, Tryz.ntmps80
 go_wp2_with fail
 refine (crnum B b c n0 _ _ HS0.out.ob).mono ?_
 rw [E0.out]
 rintro e w1 ⟨he, h1, h2⟩
 rw [he.out]
 clear he
 have hc := HS0.out.call h1 h2
 have hb := hc.bx
 have y0 := hb.cell 0
 have y1 := hb.cell 1
 simp only [gB] at y0 y1
 have z0 := hb.fz 0
 have zz := hb.lt
 have HS1 : Hid (StR w (w1.setCell ⟨w.heap.size, 0, none⟩ (.int .i64 q0)) B b c w.heap.size 52 [.int .i64 q0, .int .i64 n1] [.int .i64 0, .int .i64 0] s1) := Hd (hc.store 0 [.int .i64 q0])
 clear hc hb h1 h2 HS0
 go_wp2_with fail
 refine (crnum B b c n1 _ _ HS1.out.ob).mono ?_
 rw [E1.out]
 rintro e w2 ⟨he, h1, h2⟩
 rw [he.out]
 clear he y0 y1 z0 zz
 have hc := HS1.out.call h1 h2
 have hb := hc.bx
 have y0 := hb.cell 0
 have y1 := hb.cell 1
 simp only [gB] at y0 y1
 have z1 := hb.fz 1
 have zz := hb.lt
 have hr := hc.rs
 have x0 := hr.cell 0
 have x1 := hr.cell 1
 simp only [gB] at x0 x1
 have u0 := hr.fz 0
 have u1 := hr.fz 1
 have zr := hr.lt
 clear hr
 have HS2 : Hid (StR w (w2.setCell ⟨w.heap.size, 1, none⟩ (.int .i64 q1)) B b c w.heap.size 52 [.int .i64 q0, .int .i64 q1] [.int .i64 0, .int .i64 0] s2) := Hd (hc.store 1 [.int .i64 q1])
 clear hc hb h1 h2 HS1
 go_wp2_with fail
 have HR : Hid (_ ∧ _) := Hd (HS2.out.toStB.result [.int .i64 q0, .int .i64 q1])
 have HO := Hd (HS2.out.result [.int .i64 q0, .int .i64 q1])
 have hb : Bk (((w2.setCell ⟨w.heap.size, 1, none⟩ (.int .i64 q1)).setCell ⟨(w.heap.size + 1), 0, none⟩ (.int .i64 q0)).setCell ⟨(w.heap.size + 1), 1, none⟩ (.int .i64 q1)) (w.heap.size + 1) 52 [.int .i64 q0, .int .i64 q1] := HR.out.1
 obtain ⟨wf, hwf⟩ : ∃ x, (((w2.setCell ⟨w.heap.size, 1, none⟩ (.int .i64 q1)).setCell ⟨(w.heap.size + 1), 0, none⟩ (.int .i64 q0)).setCell ⟨(w.heap.size + 1), 1, none⟩ (.int .i64 q1)) = x := ⟨_, rfl⟩
 have HO2 : Hid (RO wf B b c s2) := Hd (by rw [← hwf]; exact HO.out)
 have HF2 : Hid (Ft B b c w wf) := Hd (by rw [← hwf]; exact HR.out.2)
 rw [hwf] at hb ⊢
 clear hwf HR HO y0 y1 z1 zz x0 u0 x1 u1 zr
 have y0 := hb.cell 0
 have y1 := hb.cell 1
 simp only [gB] at y0 y1
 have zz := hb.lt
 clear hb
 exact bodyPost_ret (v := .agg #[.int .i64 q0, .int .i64 q1]) (by simp [results, Tryz.results80, go_sem, y0, y1]) rfl ⟨rfl, HO2.out, HF2.out⟩
theorem r_cmd (B b c : Nat) (n0 : Int) (n1 : Int) (n2 : Int) (n3 : ByteArray) (n4 : ByteArray) (n5 : Int) (n6 : Int) (n7 : Int) (r0 : Int) (r1 : Int) (r2 : Int) (r3 : ByteArray) (r4 : ByteArray) (r5 : Int) (r6 : Int) (r7 : Int) (s s' : RSt) (w : World) (h : RO w B b c s) (hE : cmC.rd s = ((r0, r1, r2, r3, r4, r5, r6, r7), s')) :
  Calls Tryz.prog 81 #[fR c, .agg #[.int .i64 n0, .int .i64 n1, .int .i64 n2, .string n3, .string n4, .int .i64 n5, .int .i64 n6, .int .i64 n7]] w (RP (.agg #[.int .i64 r0, .int .i64 r1, .int .i64 r2, .string r3, .string r4, .int .i64 r5, .int .i64 r6, .int .i64 r7]) B b c s' w) := by
 obtain ⟨q0, s1, he0⟩ : ∃ x y, gNum s = (x, y) := ⟨_, _, rfl⟩
 obtain ⟨q1, s2, he1⟩ : ∃ x y, gNum s1 = (x, y) := ⟨_, _, rfl⟩
 obtain ⟨q2, s3, he2⟩ : ∃ x y, gNum s2 = (x, y) := ⟨_, _, rfl⟩
 obtain ⟨q3, s4, he3⟩ : ∃ x y, gTxt s3 = (x, y) := ⟨_, _, rfl⟩
 obtain ⟨q4, s5, he4⟩ : ∃ x y, gTxt s4 = (x, y) := ⟨_, _, rfl⟩
 obtain ⟨q5, s6, he5⟩ : ∃ x y, gNum s5 = (x, y) := ⟨_, _, rfl⟩
 obtain ⟨q6, s7, he6⟩ : ∃ x y, gNum s6 = (x, y) := ⟨_, _, rfl⟩
 obtain ⟨q7, s8, he7⟩ : ∃ x y, gNum s7 = (x, y) := ⟨_, _, rfl⟩
 simp only [cmC, pairC_rd, numC_rd, txtC_rd, he0, he1, he2, he3, he4, he5, he6, he7, Prod.mk.injEq] at hE
 obtain ⟨⟨rfl, rfl, rfl, rfl, rfl, rfl, rfl, rfl⟩, rfl⟩ := hE
 have E0 := Hd he0
 have E1 := Hd he1
 have E2 := Hd he2
 have E3 := Hd he3
 have E4 := Hd he4
 have E5 := Hd he5
 have E6 := Hd he6
 have E7 := Hd he7
 clear he0 he1 he2 he3 he4 he5 he6 he7
 have HS0 : Hid (StR w ((w.alloc (.cells #[.int .i64 n0, .int .i64 n1, .int .i64 n2, .string n3, .string n4, .int .i64 n5, .int .i64 n6, .int .i64 n7] 55)).alloc (.cells #[.int .i64 0, .int .i64 0, .int .i64 0, .string ⟨#[]⟩, .string ⟨#[]⟩, .int .i64 0, .int .i64 0, .int .i64 0] 55)) B b c w.heap.size 55 [.int .i64 n0, .int .i64 n1, .int .i64 n2, .string n3, .string n4, .int .i64 n5, .int .i64 n6, .int .i64 n7] [.int .i64 0, .int .i64 0, .int .i64 0, .string ⟨#[]⟩, .string ⟨#[]⟩, .int .i64 0, .int .i64 0, .int .i64 0] s) := Hd (StR.start h 55 (by decide) [.int .i64 n0, .int .i64 n1, .int .i64 n2, .string n3, .string n4, .int .i64 n5, .int .i64 n6, .int .i64 n7] [.int .i64 0, .int .i64 0, .int .i64 0, .string ⟨#[]⟩, .string ⟨#[]⟩, .int .i64 0, .int .i64 0, .int .i64 0])
 clear h
 have m1 := mrnum c
 have m2 := mrtext c
 go_enter Tryz.func81, Tryz.ntmps81
 go_wp2_with fail
 refine (crnum B b c n0 _ _ HS0.out.ob).mono ?_
 rw [E0.out]
 rintro e w1 ⟨he, h1, h2⟩
 rw [he.out]
 clear he
 have hc := HS0.out.call h1 h2
 have hb := hc.bx
 have y0 := hb.cell 0
 have y1 := hb.cell 1
 have y2 := hb.cell 2
 have y3 := hb.cell 3
 have y4 := hb.cell 4
 have y5 := hb.cell 5
 have y6 := hb.cell 6
 have y7 := hb.cell 7
 simp only [gB] at y0 y1 y2 y3 y4 y5 y6 y7
 have z0 := hb.fz 0
 have zz := hb.lt
 have HS1 : Hid (StR w (w1.setCell ⟨w.heap.size, 0, none⟩ (.int .i64 q0)) B b c w.heap.size 55 [.int .i64 q0, .int .i64 n1, .int .i64 n2, .string n3, .string n4, .int .i64 n5, .int .i64 n6, .int .i64 n7] [.int .i64 0, .int .i64 0, .int .i64 0, .string ⟨#[]⟩, .string ⟨#[]⟩, .int .i64 0, .int .i64 0, .int .i64 0] s1) := Hd (hc.store 0 [.int .i64 q0])
 clear hc hb h1 h2 HS0
 go_wp2_with fail
 refine (crnum B b c n1 _ _ HS1.out.ob).mono ?_
 rw [E1.out]
 rintro e w2 ⟨he, h1, h2⟩
 rw [he.out]
 clear he y0 y1 y2 y3 y4 y5 y6 y7 z0 zz
 have hc := HS1.out.call h1 h2
 have hb := hc.bx
 have y0 := hb.cell 0
 have y1 := hb.cell 1
 have y2 := hb.cell 2
 have y3 := hb.cell 3
 have y4 := hb.cell 4
 have y5 := hb.cell 5
 have y6 := hb.cell 6
 have y7 := hb.cell 7
 simp only [gB] at y0 y1 y2 y3 y4 y5 y6 y7
 have z1 := hb.fz 1
 have zz := hb.lt
 have HS2 : Hid (StR w (w2.setCell ⟨w.heap.size, 1, none⟩ (.int .i64 q1)) B b c w.heap.size 55 [.int .i64 q0, .int .i64 q1, .int .i64 n2, .string n3, .string n4, .int .i64 n5, .int .i64 n6, .int .i64 n7] [.int .i64 0, .int .i64 0, .int .i64 0, .string ⟨#[]⟩, .string ⟨#[]⟩, .int .i64 0, .int .i64 0, .int .i64 0] s2) := Hd (hc.store 1 [.int .i64 q1])
 clear hc hb h1 h2 HS1
 go_wp2_with fail
 refine (r_nop B b c n2 _ _ HS2.out.ob).mono ?_
 rw [E2.out]
 rintro e w3 ⟨he, h1, h2⟩
 rw [he.out]
 clear he y0 y1 y2 y3 y4 y5 y6 y7 z1 zz
 have hc := HS2.out.call h1 h2
 have hb := hc.bx
 have y0 := hb.cell 0
 have y1 := hb.cell 1
 have y2 := hb.cell 2
 have y3 := hb.cell 3
 have y4 := hb.cell 4
 have y5 := hb.cell 5
 have y6 := hb.cell 6
 have y7 := hb.cell 7
 simp only [gB] at y0 y1 y2 y3 y4 y5 y6 y7
 have z2 := hb.fz 2
 have zz := hb.lt
 have HS3 : Hid (StR w (w3.setCell ⟨w.heap.size, 2, none⟩ (.int .i64 q2)) B b c w.heap.size 55 [.int .i64 q0, .int .i64 q1, .int .i64 q2, .string n3, .string n4, .int .i64 n5, .int .i64 n6, .int .i64 n7] [.int .i64 0, .int .i64 0, .int .i64 0, .string ⟨#[]⟩, .string ⟨#[]⟩, .int .i64 0, .int .i64 0, .int .i64 0] s3) := Hd (hc.store 2 [.int .i64 q2])
 clear hc hb h1 h2 HS2
 go_wp2_with fail
 refine (crtext B b c n3 _ _ HS3.out.ob).mono ?_
 rw [E3.out]
 rintro e w4 ⟨he, h1, h2⟩
 rw [he.out]
 clear he y0 y1 y2 y3 y4 y5 y6 y7 z2 zz
 have hc := HS3.out.call h1 h2
 have hb := hc.bx
 have y0 := hb.cell 0
 have y1 := hb.cell 1
 have y2 := hb.cell 2
 have y3 := hb.cell 3
 have y4 := hb.cell 4
 have y5 := hb.cell 5
 have y6 := hb.cell 6
 have y7 := hb.cell 7
 simp only [gB] at y0 y1 y2 y3 y4 y5 y6 y7
 have z3 := hb.fz 3
 have zz := hb.lt
 have HS4 : Hid (StR w (w4.setCell ⟨w.heap.size, 3, none⟩ (.string q3)) B b c w.heap.size 55 [.int .i64 q0, .int .i64 q1, .int .i64 q2, .string q3, .string n4, .int .i64 n5, .int .i64 n6, .int .i64 n7] [.int .i64 0, .int .i64 0, .int .i64 0, .string ⟨#[]⟩, .string ⟨#[]⟩, .int .i64 0, .int .i64 0, .int .i64 0] s4) := Hd (hc.store 3 [.string q3])
 clear hc hb h1 h2 HS3
 go_wp2_with fail
 refine (crtext B b c n4 _ _ HS4.out.ob).mono ?_
 rw [E4.out]
 rintro e w5 ⟨he, h1, h2⟩
 rw [he.out]
 clear he y0 y1 y2 y3 y4 y5 y6 y7 z3 zz
 have hc := HS4.out.call h1 h2
 have hb := hc.bx
 have y0 := hb.cell 0
 have y1 := hb.cell 1
 have y2 := hb.cell 2
 have y3 := hb.cell 3
 have y4 := hb.cell 4
 have y5 := hb.cell 5
 have y6 := hb.cell 6
 have y7 := hb.cell 7
 simp only [gB] at y0 y1 y2 y3 y4 y5 y6 y7
 have z4 := hb.fz 4
 have zz := hb.lt
 have HS5 : Hid (StR w (w5.setCell ⟨w.heap.size, 4, none⟩ (.string q4)) B b c w.heap.size 55 [.int .i64 q0, .int .i64 q1, .int .i64 q2, .string q3, .string q4, .int .i64 n5, .int .i64 n6, .int .i64 n7] [.int .i64 0, .int .i64 0, .int .i64 0, .string ⟨#[]⟩, .string ⟨#[]⟩, .int .i64 0, .int .i64 0, .int .i64 0] s5) := Hd (hc.store 4 [.string q4])
 clear hc hb h1 h2 HS4
 go_wp2_with fail
 refine (crnum B b c n5 _ _ HS5.out.ob).mono ?_
 rw [E5.out]
 rintro e w6 ⟨he, h1, h2⟩
 rw [he.out]
 clear he y0 y1 y2 y3 y4 y5 y6 y7 z4 zz
 have hc := HS5.out.call h1 h2
 have hb := hc.bx
 have y0 := hb.cell 0
 have y1 := hb.cell 1
 have y2 := hb.cell 2
 have y3 := hb.cell 3
 have y4 := hb.cell 4
 have y5 := hb.cell 5
 have y6 := hb.cell 6
 have y7 := hb.cell 7
 simp only [gB] at y0 y1 y2 y3 y4 y5 y6 y7
 have z5 := hb.fz 5
 have zz := hb.lt
 have HS6 : Hid (StR w (w6.setCell ⟨w.heap.size, 5, none⟩ (.int .i64 q5)) B b c w.heap.size 55 [.int .i64 q0, .int .i64 q1, .int .i64 q2, .string q3, .string q4, .int .i64 q5, .int .i64 n6, .int .i64 n7] [.int .i64 0, .int .i64 0, .int .i64 0, .string ⟨#[]⟩, .string ⟨#[]⟩, .int .i64 0, .int .i64 0, .int .i64 0] s6) := Hd (hc.store 5 [.int .i64 q5])
 clear hc hb h1 h2 HS5
 go_wp2_with fail
 refine (crnum B b c n6 _ _ HS6.out.ob).mono ?_
 rw [E6.out]
 rintro e w7 ⟨he, h1, h2⟩
 rw [he.out]
 clear he y0 y1 y2 y3 y4 y5 y6 y7 z5 zz
 have hc := HS6.out.call h1 h2
 have hb := hc.bx
 have y0 := hb.cell 0
 have y1 := hb.cell 1
 have y2 := hb.cell 2
 have y3 := hb.cell 3
 have y4 := hb.cell 4
 have y5 := hb.cell 5
 have y6 := hb.cell 6
 have y7 := hb.cell 7
 simp only [gB] at y0 y1 y2 y3 y4 y5 y6 y7
 have z6 := hb.fz 6
 have zz := hb.lt
 have HS7 : Hid (StR w (w7.setCell ⟨w.heap.size, 6, none⟩ (.int .i64 q6)) B b c w.heap.size 55 [.int .i64 q0, .int .i64 q1, .int .i64 q2, .string q3, .string q4, .int .i64 q5, .int .i64 q6, .int .i64 n7] [.int .i64 0, .int .i64 0, .int .i64 0, .string ⟨#[]⟩, .string ⟨#[]⟩, .int .i64 0, .int .i64 0, .int .i64 0] s7) := Hd (hc.store 6 [.int .i64 q6])
 clear hc hb h1 h2 HS6
 go_wp2_with fail
 refine (crnum B b c n7 _ _ HS7.out.ob).mono ?_
 rw [E7.out]
 rintro e w8 ⟨he, h1, h2⟩
 rw [he.out]
 clear he y0 y1 y2 y3 y4 y5 y6 y7 z6 zz
 have hc := HS7.out.call h1 h2
 have hb := hc.bx
 have y0 := hb.cell 0
 have y1 := hb.cell 1
 have y2 := hb.cell 2
 have y3 := hb.cell 3
 have y4 := hb.cell 4
 have y5 := hb.cell 5
 have y6 := hb.cell 6
 have y7 := hb.cell 7
 simp only [gB] at y0 y1 y2 y3 y4 y5 y6 y7
 have z7 := hb.fz 7
 have zz := hb.lt
 have hr := hc.rs
 have x0 := hr.cell 0
 have x1 := hr.cell 1
 have x2 := hr.cell 2
 have x3 := hr.cell 3
 have x4 := hr.cell 4
 have x5 := hr.cell 5
 have x6 := hr.cell 6
 have x7 := hr.cell 7
 simp only [gB] at x0 x1 x2 x3 x4 x5 x6 x7
 have u0 := hr.fz 0
 have u1 := hr.fz 1
 have u2 := hr.fz 2
 have u3 := hr.fz 3
 have u4 := hr.fz 4
 have u5 := hr.fz 5
 have u6 := hr.fz 6
 have u7 := hr.fz 7
 have zr := hr.lt
 clear hr
 have HS8 : Hid (StR w (w8.setCell ⟨w.heap.size, 7, none⟩ (.int .i64 q7)) B b c w.heap.size 55 [.int .i64 q0, .int .i64 q1, .int .i64 q2, .string q3, .string q4, .int .i64 q5, .int .i64 q6, .int .i64 q7] [.int .i64 0, .int .i64 0, .int .i64 0, .string ⟨#[]⟩, .string ⟨#[]⟩, .int .i64 0, .int .i64 0, .int .i64 0] s8) := Hd (hc.store 7 [.int .i64 q7])
 clear hc hb h1 h2 HS7
 go_wp2_with fail
 have HR : Hid (_ ∧ _) := Hd (HS8.out.toStB.result [.int .i64 q0, .int .i64 q1, .int .i64 q2, .string q3, .string q4, .int .i64 q5, .int .i64 q6, .int .i64 q7])
 have HO := Hd (HS8.out.result [.int .i64 q0, .int .i64 q1, .int .i64 q2, .string q3, .string q4, .int .i64 q5, .int .i64 q6, .int .i64 q7])
 have hb : Bk (((((((((w8.setCell ⟨w.heap.size, 7, none⟩ (.int .i64 q7)).setCell ⟨(w.heap.size + 1), 0, none⟩ (.int .i64 q0)).setCell ⟨(w.heap.size + 1), 1, none⟩ (.int .i64 q1)).setCell ⟨(w.heap.size + 1), 2, none⟩ (.int .i64 q2)).setCell ⟨(w.heap.size + 1), 3, none⟩ (.string q3)).setCell ⟨(w.heap.size + 1), 4, none⟩ (.string q4)).setCell ⟨(w.heap.size + 1), 5, none⟩ (.int .i64 q5)).setCell ⟨(w.heap.size + 1), 6, none⟩ (.int .i64 q6)).setCell ⟨(w.heap.size + 1), 7, none⟩ (.int .i64 q7)) (w.heap.size + 1) 55 [.int .i64 q0, .int .i64 q1, .int .i64 q2, .string q3, .string q4, .int .i64 q5, .int .i64 q6, .int .i64 q7] := HR.out.1
 obtain ⟨wf, hwf⟩ : ∃ x, (((((((((w8.setCell ⟨w.heap.size, 7, none⟩ (.int .i64 q7)).setCell ⟨(w.heap.size + 1), 0, none⟩ (.int .i64 q0)).setCell ⟨(w.heap.size + 1), 1, none⟩ (.int .i64 q1)).setCell ⟨(w.heap.size + 1), 2, none⟩ (.int .i64 q2)).setCell ⟨(w.heap.size + 1), 3, none⟩ (.string q3)).setCell ⟨(w.heap.size + 1), 4, none⟩ (.string q4)).setCell ⟨(w.heap.size + 1), 5, none⟩ (.int .i64 q5)).setCell ⟨(w.heap.size + 1), 6, none⟩ (.int .i64 q6)).setCell ⟨(w.heap.size + 1), 7, none⟩ (.int .i64 q7)) = x := ⟨_, rfl⟩
 have HO2 : Hid (RO wf B b c s8) := Hd (by rw [← hwf]; exact HO.out)
 have HF2 : Hid (Ft B b c w wf) := Hd (by rw [← hwf]; exact HR.out.2)
 rw [hwf] at hb ⊢
 clear hwf HR HO y0 y1 y2 y3 y4 y5 y6 y7 z7 zz x0 u0 x1 u1 x2 u2 x3 u3 x4 u4 x5 u5 x6 u6 x7 u7 zr
 have y0 := hb.cell 0
 have y1 := hb.cell 1
 have y2 := hb.cell 2
 have y3 := hb.cell 3
 have y4 := hb.cell 4
 have y5 := hb.cell 5
 have y6 := hb.cell 6
 have y7 := hb.cell 7
 simp only [gB] at y0 y1 y2 y3 y4 y5 y6 y7
 have zz := hb.lt
 clear hb
 exact bodyPost_ret (v := .agg #[.int .i64 q0, .int .i64 q1, .int .i64 q2, .string q3, .string q4, .int .i64 q5, .int .i64 q6, .int .i64 q7]) (by simp [results, Tryz.results81, go_sem, y0, y1, y2, y3, y4, y5, y6, y7]) rfl ⟨rfl, HO2.out, HF2.out⟩
theorem r_ent (B b c : Nat) (n0 : ByteArray) (n1 : ByteArray) (n2 : Int) (r0 : ByteArray) (r1 : ByteArray) (r2 : Int) (s s' : RSt) (w : World) (h : RO w B b c s) (hE : enC.rd s = ((r0, r1, r2), s')) :
  Calls Tryz.prog 85 #[fR c, .agg #[.string n0, .string n1, .int .i64 n2]] w (RP (.agg #[.string r0, .string r1, .int .i64 r2]) B b c s' w) := by
 obtain ⟨q0, s1, he0⟩ : ∃ x y, gTxt s = (x, y) := ⟨_, _, rfl⟩
 obtain ⟨q1, s2, he1⟩ : ∃ x y, gTxt s1 = (x, y) := ⟨_, _, rfl⟩
 obtain ⟨q2, s3, he2⟩ : ∃ x y, gNum s2 = (x, y) := ⟨_, _, rfl⟩
 simp only [enC, pairC_rd, numC_rd, txtC_rd, he0, he1, he2, Prod.mk.injEq] at hE
 obtain ⟨⟨rfl, rfl, rfl⟩, rfl⟩ := hE
 have E0 := Hd he0
 have E1 := Hd he1
 have E2 := Hd he2
 clear he0 he1 he2
 have HS0 : Hid (StR w ((w.alloc (.cells #[.string n0, .string n1, .int .i64 n2] 71)).alloc (.cells #[.string ⟨#[]⟩, .string ⟨#[]⟩, .int .i64 0] 71)) B b c w.heap.size 71 [.string n0, .string n1, .int .i64 n2] [.string ⟨#[]⟩, .string ⟨#[]⟩, .int .i64 0] s) := Hd (StR.start h 71 (by decide) [.string n0, .string n1, .int .i64 n2] [.string ⟨#[]⟩, .string ⟨#[]⟩, .int .i64 0])
 clear h
 have m1 := mrnum c
 have m2 := mrtext c
 go_enter Tryz.func85, Tryz.ntmps85
 go_wp2_with fail
 refine (crtext B b c n0 _ _ HS0.out.ob).mono ?_
 rw [E0.out]
 rintro e w1 ⟨he, h1, h2⟩
 rw [he.out]
 clear he
 have hc := HS0.out.call h1 h2
 have hb := hc.bx
 have y0 := hb.cell 0
 have y1 := hb.cell 1
 have y2 := hb.cell 2
 simp only [gB] at y0 y1 y2
 have z0 := hb.fz 0
 have zz := hb.lt
 have HS1 : Hid (StR w (w1.setCell ⟨w.heap.size, 0, none⟩ (.string q0)) B b c w.heap.size 71 [.string q0, .string n1, .int .i64 n2] [.string ⟨#[]⟩, .string ⟨#[]⟩, .int .i64 0] s1) := Hd (hc.store 0 [.string q0])
 clear hc hb h1 h2 HS0
 go_wp2_with fail
 refine (crtext B b c n1 _ _ HS1.out.ob).mono ?_
 rw [E1.out]
 rintro e w2 ⟨he, h1, h2⟩
 rw [he.out]
 clear he y0 y1 y2 z0 zz
 have hc := HS1.out.call h1 h2
 have hb := hc.bx
 have y0 := hb.cell 0
 have y1 := hb.cell 1
 have y2 := hb.cell 2
 simp only [gB] at y0 y1 y2
 have z1 := hb.fz 1
 have zz := hb.lt
 have HS2 : Hid (StR w (w2.setCell ⟨w.heap.size, 1, none⟩ (.string q1)) B b c w.heap.size 71 [.string q0, .string q1, .int .i64 n2] [.string ⟨#[]⟩, .string ⟨#[]⟩, .int .i64 0] s2) := Hd (hc.store 1 [.string q1])
 clear hc hb h1 h2 HS1
 go_wp2_with fail
 refine (crnum B b c n2 _ _ HS2.out.ob).mono ?_
 rw [E2.out]
 rintro e w3 ⟨he, h1, h2⟩
 rw [he.out]
 clear he y0 y1 y2 z1 zz
 have hc := HS2.out.call h1 h2
 have hb := hc.bx
 have y0 := hb.cell 0
 have y1 := hb.cell 1
 have y2 := hb.cell 2
 simp only [gB] at y0 y1 y2
 have z2 := hb.fz 2
 have zz := hb.lt
 have hr := hc.rs
 have x0 := hr.cell 0
 have x1 := hr.cell 1
 have x2 := hr.cell 2
 simp only [gB] at x0 x1 x2
 have u0 := hr.fz 0
 have u1 := hr.fz 1
 have u2 := hr.fz 2
 have zr := hr.lt
 clear hr
 have HS3 : Hid (StR w (w3.setCell ⟨w.heap.size, 2, none⟩ (.int .i64 q2)) B b c w.heap.size 71 [.string q0, .string q1, .int .i64 q2] [.string ⟨#[]⟩, .string ⟨#[]⟩, .int .i64 0] s3) := Hd (hc.store 2 [.int .i64 q2])
 clear hc hb h1 h2 HS2
 go_wp2_with fail
 have HR : Hid (_ ∧ _) := Hd (HS3.out.toStB.result [.string q0, .string q1, .int .i64 q2])
 have HO := Hd (HS3.out.result [.string q0, .string q1, .int .i64 q2])
 have hb : Bk ((((w3.setCell ⟨w.heap.size, 2, none⟩ (.int .i64 q2)).setCell ⟨(w.heap.size + 1), 0, none⟩ (.string q0)).setCell ⟨(w.heap.size + 1), 1, none⟩ (.string q1)).setCell ⟨(w.heap.size + 1), 2, none⟩ (.int .i64 q2)) (w.heap.size + 1) 71 [.string q0, .string q1, .int .i64 q2] := HR.out.1
 obtain ⟨wf, hwf⟩ : ∃ x, ((((w3.setCell ⟨w.heap.size, 2, none⟩ (.int .i64 q2)).setCell ⟨(w.heap.size + 1), 0, none⟩ (.string q0)).setCell ⟨(w.heap.size + 1), 1, none⟩ (.string q1)).setCell ⟨(w.heap.size + 1), 2, none⟩ (.int .i64 q2)) = x := ⟨_, rfl⟩
 have HO2 : Hid (RO wf B b c s3) := Hd (by rw [← hwf]; exact HO.out)
 have HF2 : Hid (Ft B b c w wf) := Hd (by rw [← hwf]; exact HR.out.2)
 rw [hwf] at hb ⊢
 clear hwf HR HO y0 y1 y2 z2 zz x0 u0 x1 u1 x2 u2 zr
 have y0 := hb.cell 0
 have y1 := hb.cell 1
 have y2 := hb.cell 2
 simp only [gB] at y0 y1 y2
 have zz := hb.lt
 clear hb
 exact bodyPost_ret (v := .agg #[.string q0, .string q1, .int .i64 q2]) (by simp [results, Tryz.results85, go_sem, y0, y1, y2]) rfl ⟨rfl, HO2.out, HF2.out⟩
end Go.Proofs.YtnancdbkmompdaaGreat
