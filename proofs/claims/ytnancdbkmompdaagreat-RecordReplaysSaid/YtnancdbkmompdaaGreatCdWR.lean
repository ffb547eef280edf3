/-
 Package code: structs without lists, with a writer.
-/
import Derived.Test.YtnancdbkmompdaaGreatRY
import Derived.Test.YtnancdbkmompdaaGreatRQE
namespace Go.Proofs.YtnancdbkmompdaaGreat
open Go.RowKit
set_option linter.unusedSimpArgs false
set_option linter.unusedVariables false
set_option maxRecDepth 100000
set_option maxHeartbeats 40000000
theorem w_nstat (B b c : Nat) (n : Int) (st : Option (List Int)) (w : World) (h : WO w B b c st) (hl : (stl st).length ≤ 99999990000) :
  Calls Tryz.prog 79 #[fW c, .int .i64 n] w (WP (.int .i64 n) B b c (wr1 st (.num n)) w) := by
 have HW := Hd h
 clear h
 have m1 := mwnum c
 go_enter Tryz.func79, Tryz.ntmps79
 go_wp2_with fail
 refine (cwnum B b c n st _ HW.out hl).mono ?_
 rintro e w1 ⟨he, h1, h2⟩
 rw [he.out]
 clear he
 have H1 := Hd h1
 have H2 := Hd h2
 clear h1 h2
 go_wp2_with fail
 go_ret
 exact ⟨rfl, H1.out, H2.out⟩
theorem w_nop (B b c : Nat) (n : Int) (st : Option (List Int)) (w : World) (h : WO w B b c st) (hl : (stl st).length ≤ 99999990000) :
  Calls Tryz.prog 95 #[fW c, .int .i64 n] w (WP (.int .i64 n) B b c (wr1 st (.num n)) w) := by
 have HW := Hd h
 clear h
 have m1 := mwnum c
 go_enter Tryz.func95, Tryz.ntmps95
 go_wp2_with fail
 refine (cwnum B b c n st _ HW.out hl).mono ?_
 rintro e w1 ⟨he, h1, h2⟩
 rw [he.out]
 clear he
 have H1 := Hd h1
 have H2 := Hd h2
 clear h1 h2
 go_wp2_with fail
 go_ret
 exact ⟨rfl, H1.out, H2.out⟩
theorem w_nint (B b c : Nat) (n : Int) (st : Option (List Int)) (w : World) (h : WO w B b c st) (hl : (stl st).length ≤ 99999990000) :
  Calls Tryz.prog 98 #[fW c, .int .i64 n] w (WP (.int .i64 n) B b c (wr1 st (.num n)) w) := by
 have HW := Hd h
 clear h
 have m1 := mwnum c
 go_enter Tryz.func98, Tryz.ntmps98
 go_wp2_with fail
 refine (cwnum B b c n st _ HW.out hl).mono ?_
 rintro e w1 ⟨he, h1, h2⟩
 rw [he.out]
 clear he
 have H1 := Hd h1
 have H2 := Hd h2
 clear h1 h2
 go_wp2_with fail
 go_ret
 exact ⟨rfl, H1.out, H2.out⟩
theorem w_nerr (B b c : Nat) (n : Int) (st : Option (List Int)) (w : World) (h : WO w B b c st) (hl : (stl st).length ≤ 99999990000) :
  Calls Tryz.prog 104 #[fW c, .int .i64 n] w (WP (.int .i64 n) B b c (wr1 st (.num n)) w) := by
 have HW := Hd h
 clear h
 have m1 := mwnum c
 go_enter Tryz.func104, Tryz.ntmps104
 go_wp2_with fail
 refine (cwnum B b c n st _ HW.out hl).mono ?_
 rintro e w1 ⟨he, h1, h2⟩
 rw [he.out]
 clear he
 have H1 := Hd h1
 have H2 := Hd h2
 clear h1 h2
 go_wp2_with fail
 go_ret
 exact ⟨rfl, H1.out, H2.out⟩
theorem w_name (B b c : Nat) (n : ByteArray) (st : Option (List Int)) (w : World) (h : WO w B b c st) (hl : (stl st).length ≤ 99999990000) (hs : n.size ≤ 9223372036854775807) :
  Calls Tryz.prog 106 #[fW c, .string n] w (WP (.string n) B b c (wr1 st (.txt n)) w) := by
 have HW := Hd h
 clear h
 have m1 := mwtext c
 go_enter Tryz.func106, Tryz.ntmps106
 go_wp2_with fail
 refine (cwtext B b c n st _ HW.out hl hs).mono ?_
 rintro e w1 ⟨he, h1, h2⟩
 rw [he.out]
 clear he
 have H1 := Hd h1
 have H2 := Hd h2
 clear h1 h2
 go_wp2_with fail
 go_ret
 exact ⟨rfl, H1.out, H2.out⟩
theorem w_id (B b c : Nat) (n0 : Int) (n1 : Int) (n2 : Int) (st st' : Option (List Int)) (K : Nat) (w : World) (h : WO w B b c st) (hE : wrs st (idC.fs (n0, n1, n2)) = st') (hK : Sh K st) (hk : K + 3 ≤ 20000000)  :
  Calls Tryz.prog 60 #[fW c, .agg #[.int .i64 n0, .int .i64 n1, .int .i64 n2]] w (WP (.agg #[.int .i64 n0, .int .i64 n1, .int .i64 n2]) B b c st' w) := by
 obtain ⟨st1, he0⟩ : ∃ x, wr1 st (.num n0) = x := ⟨_, rfl⟩
 obtain ⟨st2, he1⟩ : ∃ x, wr1 st1 (.num n1) = x := ⟨_, rfl⟩
 obtain ⟨st3, he2⟩ : ∃ x, wr1 st2 (.num n2) = x := ⟨_, rfl⟩
 simp only [idC, pairC_fs, numC_fs, txtC_fs, wrs_app, wrs_one, he0, he1, he2] at hE
 subst hE
 have E0 := Hd he0
 have E1 := Hd he1
 have E2 := Hd he2
 clear he0 he1 he2
 have K1 : Hid (Sh (K + 1) st1) := Hd (by rw [← E0.out]; exact Sh.one hK _)
 have K2 : Hid (Sh (K + 2) st2) := Hd (by rw [← E1.out]; exact Sh.one K1.out _)
 have K3 : Hid (Sh (K + 3) st3) := Hd (by rw [← E2.out]; exact Sh.one K2.out _)
 have K0 := Hd hK
 clear hK
 have HS0 : Hid (StW w ((w.alloc (.cells #[.int .i64 n0, .int .i64 n1, .int .i64 n2] 49)).alloc (.cells #[.int .i64 0, .int .i64 0, .int .i64 0] 49)) B b c w.heap.size 49 [.int .i64 n0, .int .i64 n1, .int .i64 n2] [.int .i64 0, .int .i64 0, .int .i64 0] st) := Hd (StW.start h 49 (by decide) [.int .i64 n0, .int .i64 n1, .int .i64 n2] [.int .i64 0, .int .i64 0, .int .i64 0])
 clear h
 have m1 := mwnum c
 have m2 := mwtext c
 go_enter Tryz.func60, Tryz.ntmps60
 go_wp2_with fail
 refine (cwnum B b c n0 _ _ HS0.out.ob (K0.out.max (by omega))).mono ?_
 rw [E0.out]
 rintro e w1 ⟨he, h1, h2⟩
 rw [he.out]
 clear he
 have hc := HS0.out.call h1 h2
 have hb := hc.bx
 have y0 := hb.cell 0
 have y1 := hb.cell 1
 have y2 := hb.cell 2
 simp only [gB] at y0 y1 y2
 have z0 := hb.fz 0
 have zz := hb.lt
 have HS1 : Hid (StW w (w1.setCell ⟨w.heap.size, 0, none⟩ (.int .i64 n0)) B b c w.heap.size 49 [.int .i64 n0, .int .i64 n1, .int .i64 n2] [.int .i64 0, .int .i64 0, .int .i64 0] st1) := Hd (hc.store 0 [.int .i64 n0])
 clear hc hb h1 h2 HS0
 go_wp2_with fail
 refine (cwnum B b c n1 _ _ HS1.out.ob (K1.out.max (by omega))).mono ?_
 rw [E1.out]
 rintro e w2 ⟨he, h1, h2⟩
 rw [he.out]
 clear he y0 y1 y2 z0 zz
 have hc := HS1.out.call h1 h2
 have hb := hc.bx
 have y0 := hb.cell 0
 have y1 := hb.cell 1
 have y2 := hb.cell 2
 simp only [gB] at y0 y1 y2
 have z1 := hb.fz 1
 have zz := hb.lt
 have HS2 : Hid (StW w (w2.setCell ⟨w.heap.size, 1, none⟩ (.int .i64 n1)) B b c w.heap.size 49 [.int .i64 n0, .int .i64 n1, .int .i64 n2] [.int .i64 0, .int .i64 0, .int .i64 0] st2) := Hd (hc.store 1 [.int .i64 n1])
 clear hc hb h1 h2 HS1
 go_wp2_with fail
 refine (cwnum B b c n2 _ _ HS2.out.ob (K2.out.max (by omega))).mono ?_
 rw [E2.out]
 rintro e w3 ⟨he, h1, h2⟩
 rw [he.out]
 clear he y0 y1 y2 z1 zz
 have hc := HS2.out.call h1 h2
 have hb := hc.bx
 have y0 := hb.cell 0
 have y1 := hb.cell 1
 have y2 := hb.cell 2
 simp only [gB] at y0 y1 y2
 have z2 := hb.fz 2
 have zz := hb.lt
 have hr := hc.rs
 have x0 := hr.cell 0
 have x1 := hr.cell 1
 have x2 := hr.cell 2
 simp only [gB] at x0 x1 x2
 have u0 := hr.fz 0
 have u1 := hr.fz 1
 have u2 := hr.fz 2
 have zr := hr.lt
 clear hr
 have HS3 : Hid (StW w (w3.setCell ⟨w.heap.size, 2, none⟩ (.int .i64 n2)) B b c w.heap.size 49 [.int .i64 n0, .int .i64 n1, .int .i64 n2] [.int .i64 0, .int .i64 0, .int .i64 0] st3) := Hd (hc.store 2 [.int .i64 n2])
 clear hc hb h1 h2 HS2
 go_wp2_with fail
 have HR : Hid (_ ∧ _) := Hd (HS3.out.toStB.result [.int .i64 n0, .int .i64 n1, .int .i64 n2])
 have HO := Hd (HS3.out.result [.int .i64 n0, .int .i64 n1, .int .i64 n2])
 have hb : Bk ((((w3.setCell ⟨w.heap.size, 2, none⟩ (.int .i64 n2)).setCell ⟨(w.heap.size + 1), 0, none⟩ (.int .i64 n0)).setCell ⟨(w.heap.size + 1), 1, none⟩ (.int .i64 n1)).setCell ⟨(w.heap.size + 1), 2, none⟩ (.int .i64 n2)) (w.heap.size + 1) 49 [.int .i64 n0, .int .i64 n1, .int .i64 n2] := HR.out.1
 obtain ⟨wf, hwf⟩ : ∃ x, ((((w3.setCell ⟨w.heap.size, 2, none⟩ (.int .i64 n2)).setCell ⟨(w.heap.size + 1), 0, none⟩ (.int .i64 n0)).setCell ⟨(w.heap.size + 1), 1, none⟩ (.int .i64 n1)).setCell ⟨(w.heap.size + 1), 2, none⟩ (.int .i64 n2)) = x := ⟨_, rfl⟩
 have HO2 : Hid (WO wf B b c st3) := Hd (by rw [← hwf]; exact HO.out)
 have HF2 : Hid (Ft B b c w wf) := Hd (by rw [← hwf]; exact HR.out.2)
 rw [hwf] at hb ⊢
 clear hwf HR HO y0 y1 y2 z2 zz x0 u0 x1 u1 x2 u2 zr
 have y0 := hb.cell 0
 have y1 := hb.cell 1
 have y2 := hb.cell 2
 simp only [gB] at y0 y1 y2
 have zz := hb.lt
 clear hb
 exact bodyPost_ret (v := .agg #[.int .i64 n0, .int .i64 n1, .int .i64 n2]) (by simp [results, Tryz.results60, go_sem, y0, y1, y2]) rfl ⟨rfl, HO2.out, HF2.out⟩
theorem w_bal (B b c : Nat) (n0 : Int) (n1 : Int) (st st' : Option (List Int)) (K : Nat) (w : World) (h : WO w B b c st) (hE : wrs st (balC.fs (n0, n1)) = st') (hK : Sh K st) (hk : K + 2 ≤ 20000000)  :
  Calls Tryz.prog 80 #[fW c, .agg #[.int .i64 n0, .int .i64 n1]] w (WP (.agg #[.int .i64 n0, .int .i64 n1]) B b c st' w) := by
 obtain ⟨st1, he0⟩ : ∃ x, wr1 st (.num n0) = x := ⟨_, rfl⟩
 obtain ⟨st2, he1⟩ : ∃ x, wr1 st1 (.num n1) = x := ⟨_, rfl⟩
 simp only [balC, pairC_fs, numC_fs, txtC_fs, wrs_app, wrs_one, he0, he1] at hE
 subst hE
 have E0 := Hd he0
 have E1 := Hd he1
 clear he0 he1
 have K1 : Hid (Sh (K + 1) st1) := Hd (by rw [← E0.out]; exact Sh.one hK _)
 have K2 : Hid (Sh (K + 2) st2) := Hd (by rw [← E1.out]; exact Sh.one K1.out _)
 have K0 := Hd hK
 clear hK
 have HS0 : Hid (StW w ((w.alloc (.cells #[.int .i64 n0, .int .i64 n1] 52)).alloc (.cells #[.int .i64 0, .int .i64 0] 52)) B b c w.heap.size 52 [.int .i64 n0, .int .i64 n1] [.int .i64 0, .int .i64 0] st) := Hd (StW.start h 52 (by decide) [.int .i64 n0, .int .i64 n1] [.int .i64 0, .int .i64 0])
 clear h
 have m1 := mwnum c
 have m2 := mwtext c
 go_enter Tryz.func80, Tryz.ntmps80
 go_wp2_with fail
 refine (cwnum B b c n0 _ _ HS0.out.ob (K0.out.max (by omega))).mono ?_
 rw [E0.out]
 rintro e w1 ⟨he, h1, h2⟩
 rw [he.out]
 clear he
 have hc := HS0.out.call h1 h2
 have hb := hc.bx
 have y0 := hb.cell 0
 have y1 := hb.cell 1
 simp only [gB] at y0 y1
 have z0 := hb.fz 0
 have zz := hb.lt
 have HS1 : Hid (StW w (w1.setCell ⟨w.heap.size, 0, none⟩ (.int .i64 n0)) B b c w.heap.size 52 [.int .i64 n0, .int .i64 n1] [.int .i64 0, .int .i64 0] st1) := Hd (hc.store 0 [.int .i64 n0])
 clear hc hb h1 h2 HS0
 go_wp2_with fail
 refine (cwnum B b c n1 _ _ HS1.out.ob (K1.out.max (by omega))).mono ?_
 rw [E1.out]
 rintro e w2 ⟨he, h1, h2⟩
 rw [he.out]
 clear he y0 y1 z0 zz
 have hc := HS1.out.call h1 h2
 have hb := hc.bx
 have y0 := hb.cell 0
 have y1 := hb.cell 1
 simp only [gB] at y0 y1
 have z1 := hb.fz 1
 have zz := hb.lt
 have hr := hc.rs
 have x0 := hr.cell 0
 have x1 := hr.cell 1
 simp only [gB] at x0 x1
 have u0 := hr.fz 0
 have u1 := hr.fz 1
 have zr := hr.lt
 clear hr
 have HS2 : Hid (StW w (w2.setCell ⟨w.heap.size, 1, none⟩ (.int .i64 n1)) B b c w.heap.size 52 [.int .i64 n0, .int .i64 n1] [.int .i64 0, .int .i64 0] st2) := Hd (hc.store 1 [.int .i64 n1])
 clear hc hb h1 h2 HS1
 go_wp2_with fail
 have HR : Hid (_ ∧ _) := Hd (HS2.out.toStB.result [.int .i64 n0, .int .i64 n1])
 have HO := Hd (HS2.out.result [.int .i64 n0, .int .i64 n1])
 have hb : Bk (((w2.setCell ⟨w.heap.size, 1, none⟩ (.int .i64 n1)).setCell ⟨(w.heap.size + 1), 0, none⟩ (.int .i64 n0)).setCell ⟨(w.heap.size + 1), 1, none⟩ (.int .i64 n1)) (w.heap.size + 1) 52 [.int .i64 n0, .int .i64 n1] := HR.out.1
 obtain ⟨wf, hwf⟩ : ∃ x, (((w2.setCell ⟨w.heap.size, 1, none⟩ (.int .i64 n1)).setCell ⟨(w.heap.size + 1), 0, none⟩ (.int .i64 n0)).setCell ⟨(w.heap.size + 1), 1, none⟩ (.int .i64 n1)) = x := ⟨_, rfl⟩
 have HO2 : Hid (WO wf B b c st2) := Hd (by rw [← hwf]; exact HO.out)
 have HF2 : Hid (Ft B b c w wf) := Hd (by rw [← hwf]; exact HR.out.2)
 rw [hwf] at hb ⊢
 clear hwf HR HO y0 y1 z1 zz x0 u0 x1 u1 zr
 have y0 := hb.cell 0
 have y1 := hb.cell 1
 simp only [gB] at y0 y1
 have zz := hb.lt
 clear hb
 exact bodyPost_ret (v := .agg #[.int .i64 n0, .int .i64 n1]) (by simp [results, Tryz.results80, go_sem, y0, y1]) rfl ⟨rfl, HO2.out, HF2.out⟩
theorem w_cmd (B b c : Nat) (n0 : Int) (n1 : Int) (n2 : Int) (n3 : ByteArray) (n4 : ByteArray) (n5 : Int) (n6 : Int) (n7 : Int) (st st' : Option (List Int)) (K : Nat) (w : World) (h : WO w B b c st) (hE : wrs st (cmC.fs (n0, n1, n2, n3, n4, n5, n6, n7)) = st') (hK : Sh K st) (hk : K + 8 ≤ 20000000) (hs3 : n3.size ≤ 9223372036854775807) (hs4 : n4.size ≤ 9223372036854775807) :
  Calls Tryz.prog 81 #[fW c, .agg #[.int .i64 n0, .int .i64 n1, .int .i64 n2, .string n3, .string n4, .int .i64 n5, .int .i64 n6, .int .i64 n7]] w (WP (.agg #[.int .i64 n0, .int .i64 n1, .int .i64 n2, .string n3, .string n4, .int .i64 n5, .int .i64 n6, .int .i64 n7]) B b c st' w) := by
 obtain ⟨st1, he0⟩ : ∃ x, wr1 st (.num n0) = x := ⟨_, rfl⟩
 obtain ⟨st2, he1⟩ : ∃ x, wr1 st1 (.num n1) = x := ⟨_, rfl⟩
 obtain ⟨st3, he2⟩ : ∃ x, wr1 st2 (.num n2) = x := ⟨_, rfl⟩
 obtain ⟨st4, he3⟩ : ∃ x, wr1 st3 (.txt n3) = x := ⟨_, rfl⟩
 obtain ⟨st5, he4⟩ : ∃ x, wr1 st4 (.txt n4) = x := ⟨_, rfl⟩
 obtain ⟨st6, he5⟩ : ∃ x, wr1 st5 (.num n5) = x := ⟨_, rfl⟩
 obtain ⟨st7, he6⟩ : ∃ x, wr1 st6 (.num n6) = x := ⟨_, rfl⟩
 obtain ⟨st8, he7⟩ : ∃ x, wr1 st7 (.num n7) = x := ⟨_, rfl⟩
 simp only [cmC, pairC_fs, numC_fs, txtC_fs, wrs_app, wrs_one, he0, he1, he2, he3, he4, he5, he6, he7] at hE
 subst hE
 have E0 := Hd he0
 have E1 := Hd he1
 have E2 := Hd he2
 have E3 := Hd he3
 have E4 := Hd he4
 have E5 := Hd he5
 have E6 := Hd he6
 have E7 := Hd he7
 clear he0 he1 he2 he3 he4 he5 he6 he7
 have K1 : Hid (Sh (K + 1) st1) := Hd (by rw [← E0.out]; exact Sh.one hK _)
 have K2 : Hid (Sh (K + 2) st2) := Hd (by rw [← E1.out]; exact Sh.one K1.out _)
 have K3 : Hid (Sh (K + 3) st3) := Hd (by rw [← E2.out]; exact Sh.one K2.out _)
 have K4 : Hid (Sh (K + 4) st4) := Hd (by rw [← E3.out]; exact Sh.one K3.out _)
 have K5 : Hid (Sh (K + 5) st5) := Hd (by rw [← E4.out]; exact Sh.one K4.out _)
 have K6 : Hid (Sh (K + 6) st6) := Hd (by rw [← E5.out]; exact Sh.one K5.out _)
 have K7 : Hid (Sh (K + 7) st7) := Hd (by rw [← E6.out]; exact Sh.one K6.out _)
 have K8 : Hid (Sh (K + 8) st8) := Hd (by rw [← E7.out]; exact Sh.one K7.out _)
 have K0 := Hd hK
 clear hK
 have HS0 : Hid (StW w ((w.alloc (.cells #[.int .i64 n0, .int .i64 n1, .int .i64 n2, .string n3, .string n4, .int .i64 n5, .int .i64 n6, .int .i64 n7] 55)).alloc (.cells #[.int .i64 0, .int .i64 0, .int .i64 0, .string ⟨#[]⟩, .string ⟨#[]⟩, .int .i64 0, .int .i64 0, .int .i64 0] 55)) B b c w.heap.size 55 [.int .i64 n0, .int .i64 n1, .int .i64 n2, .string n3, .string n4, .int .i64 n5, .int .i64 n6, .int .i64 n7] [.int .i64 0, .int .i64 0, .int .i64 0, .string ⟨#[]⟩, .string ⟨#[]⟩, .int .i64 0, .int .i64 0, .int .i64 0] st) := Hd (StW.start h 55 (by decide) [.int .i64 n0, .int .i64 n1, .int .i64 n2, .string n3, .string n4, .int .i64 n5, .int .i64 n6, .int .i64 n7] [.int .i64 0, .int .i64 0, .int .i64 0, .string ⟨#[]⟩, .string ⟨#[]⟩, .int .i64 0, .int .i64 0, .int .i64 0])
 clear h
 have m1 := mwnum c
 have m2 := mwtext c
 go_enter Tryz.func81, Tryz.ntmps81
 go_wp2_with fail
 refine (cwnum B b c n0 _ _ HS0.out.ob (K0.out.max (by omega))).mono ?_
 rw [E0.out]
 rintro e w1 ⟨he, h1, h2⟩
 rw [he.out]
 clear he
 have hc := HS0.out.call h1 h2
 have hb := hc.bx
 have y0 := hb.cell 0
 have y1 := hb.cell 1
 have y2 := hb.cell 2
 have y3 := hb.cell 3
 have y4 := hb.cell 4
 have y5 := hb.cell 5
 have y6 := hb.cell 6
 have y7 := hb.cell 7
 simp only [gB] at y0 y1 y2 y3 y4 y5 y6 y7
 have z0 := hb.fz 0
 have zz := hb.lt
 have HS1 : Hid (StW w (w1.setCell ⟨w.heap.size, 0, none⟩ (.int .i64 n0)) B b c w.heap.size 55 [.int .i64 n0, .int .i64 n1, .int .i64 n2, .string n3, .string n4, .int .i64 n5, .int .i64 n6, .int .i64 n7] [.int .i64 0, .int .i64 0, .int .i64 0, .string ⟨#[]⟩, .string ⟨#[]⟩, .int .i64 0, .int .i64 0, .int .i64 0] st1) := Hd (hc.store 0 [.int .i64 n0])
 clear hc hb h1 h2 HS0
 go_wp2_with fail
 refine (cwnum B b c n1 _ _ HS1.out.ob (K1.out.max (by omega))).mono ?_
 rw [E1.out]
 rintro e w2 ⟨he, h1, h2⟩
 rw [he.out]
 clear he y0 y1 y2 y3 y4 y5 y6 y7 z0 zz
 have hc := HS1.out.call h1 h2
 have hb := hc.bx
 have y0 := hb.cell 0
 have y1 := hb.cell 1
 have y2 := hb.cell 2
 have y3 := hb.cell 3
 have y4 := hb.cell 4
 have y5 := hb.cell 5
 have y6 := hb.cell 6
 have y7 := hb.cell 7
 simp only [gB] at y0 y1 y2 y3 y4 y5 y6 y7
 have z1 := hb.fz 1
 have zz := hb.lt
 have HS2 : Hid (StW w (w2.setCell ⟨w.heap.size, 1, none⟩ (.int .i64 n1)) B b c w.heap.size 55 [.int .i64 n0, .int .i64 n1, .int .i64 n2, .string n3, .string n4, .int .i64 n5, .int .i64 n6, .int .i64 n7] [.int .i64 0, .int .i64 0, .int .i64 0, .string ⟨#[]⟩, .string ⟨#[]⟩, .int .i64 0, .int .i64 0, .int .i64 0] st2) := Hd (hc.store 1 [.int .i64 n1])
 clear hc hb h1 h2 HS1
 go_wp2_with fail
 refine (w_nop B b c n2 _ _ HS2.out.ob (K2.out.max (by omega))).mono ?_
 rw [E2.out]
 rintro e w3 ⟨he, h1, h2⟩
 rw [he.out]
 clear he y0 y1 y2 y3 y4 y5 y6 y7 z1 zz
 have hc := HS2.out.call h1 h2
 have hb := hc.bx
 have y0 := hb.cell 0
 have y1 := hb.cell 1
 have y2 := hb.cell 2
 have y3 := hb.cell 3
 have y4 := hb.cell 4
 have y5 := hb.cell 5
 have y6 := hb.cell 6
 have y7 := hb.cell 7
 simp only [gB] at y0 y1 y2 y3 y4 y5 y6 y7
 have z2 := hb.fz 2
 have zz := hb.lt
 have HS3 : Hid (StW w (w3.setCell ⟨w.heap.size, 2, none⟩ (.int .i64 n2)) B b c w.heap.size 55 [.int .i64 n0, .int .i64 n1, .int .i64 n2, .string n3, .string n4, .int .i64 n5, .int .i64 n6, .int .i64 n7] [.int .i64 0, .int .i64 0, .int .i64 0, .string ⟨#[]⟩, .string ⟨#[]⟩, .int .i64 0, .int .i64 0, .int .i64 0] st3) := Hd (hc.store 2 [.int .i64 n2])
 clear hc hb h1 h2 HS2
 go_wp2_with fail
 refine (cwtext B b c n3 _ _ HS3.out.ob (K3.out.max (by omega)) hs3).mono ?_
 rw [E3.out]
 rintro e w4 ⟨he, h1, h2⟩
 rw [he.out]
 clear he y0 y1 y2 y3 y4 y5 y6 y7 z2 zz
 have hc := HS3.out.call h1 h2
 have hb := hc.bx
 have y0 := hb.cell 0
 have y1 := hb.cell 1
 have y2 := hb.cell 2
 have y3 := hb.cell 3
 have y4 := hb.cell 4
 have y5 := hb.cell 5
 have y6 := hb.cell 6
 have y7 := hb.cell 7
 simp only [gB] at y0 y1 y2 y3 y4 y5 y6 y7
 have z3 := hb.fz 3
 have zz := hb.lt
 have HS4 : Hid (StW w (w4.setCell ⟨w.heap.size, 3, none⟩ (.string n3)) B b c w.heap.size 55 [.int .i64 n0, .int .i64 n1, .int .i64 n2, .string n3, .string n4, .int .i64 n5, .int .i64 n6, .int .i64 n7] [.int .i64 0, .int .i64 0, .int .i64 0, .string ⟨#[]⟩, .string ⟨#[]⟩, .int .i64 0, .int .i64 0, .int .i64 0] st4) := Hd (hc.store 3 [.string n3])
 clear hc hb h1 h2 HS3
 go_wp2_with fail
 refine (cwtext B b c n4 _ _ HS4.out.ob (K4.out.max (by omega)) hs4).mono ?_
 rw [E4.out]
 rintro e w5 ⟨he, h1, h2⟩
 rw [he.out]
 clear he y0 y1 y2 y3 y4 y5 y6 y7 z3 zz
 have hc := HS4.out.call h1 h2
 have hb := hc.bx
 have y0 := hb.cell 0
 have y1 := hb.cell 1
 have y2 := hb.cell 2
 have y3 := hb.cell 3
 have y4 := hb.cell 4
 have y5 := hb.cell 5
 have y6 := hb.cell 6
 have y7 := hb.cell 7
 simp only [gB] at y0 y1 y2 y3 y4 y5 y6 y7
 have z4 := hb.fz 4
 have zz := hb.lt
 have HS5 : Hid (StW w (w5.setCell ⟨w.heap.size, 4, none⟩ (.string n4)) B b c w.heap.size 55 [.int .i64 n0, .int .i64 n1, .int .i64 n2, .string n3, .string n4, .int .i64 n5, .int .i64 n6, .int .i64 n7] [.int .i64 0, .int .i64 0, .int .i64 0, .string ⟨#[]⟩, .string ⟨#[]⟩, .int .i64 0, .int .i64 0, .int .i64 0] st5) := Hd (hc.store 4 [.string n4])
 clear hc hb h1 h2 HS4
 go_wp2_with fail
 refine (cwnum B b c n5 _ _ HS5.out.ob (K5.out.max (by omega))).mono ?_
 rw [E5.out]
 rintro e w6 ⟨he, h1, h2⟩
 rw [he.out]
 clear he y0 y1 y2 y3 y4 y5 y6 y7 z4 zz
 have hc := HS5.out.call h1 h2
 have hb := hc.bx
 have y0 := hb.cell 0
 have y1 := hb.cell 1
 have y2 := hb.cell 2
 have y3 := hb.cell 3
 have y4 := hb.cell 4
 have y5 := hb.cell 5
 have y6 := hb.cell 6
 have y7 := hb.cell 7
 simp only [gB] at y0 y1 y2 y3 y4 y5 y6 y7
 have z5 := hb.fz 5
 have zz := hb.lt
 have HS6 : Hid (StW w (w6.setCell ⟨w.heap.size, 5, none⟩ (.int .i64 n5)) B b c w.heap.size 55 [.int .i64 n0, .int .i64 n1, .int .i64 n2, .string n3, .string n4, .int .i64 n5, .int .i64 n6, .int .i64 n7] [.int .i64 0, .int .i64 0, .int .i64 0, .string ⟨#[]⟩, .string ⟨#[]⟩, .int .i64 0, .int .i64 0, .int .i64 0] st6) := Hd (hc.store 5 [.int .i64 n5])
 clear hc hb h1 h2 HS5
 go_wp2_with fail
 refine (cwnum B b c n6 _ _ HS6.out.ob (K6.out.max (by omega))).mono ?_
 rw [E6.out]
 rintro e w7 ⟨he, h1, h2⟩
 rw [he.out]
 clear he y0 y1 y2 y3 y4 y5 y6 y7 z5 zz
 have hc := HS6.out.call h1 h2
 have hb := hc.bx
 have y0 := hb.cell 0
 have y1 := hb.cell 1
 have y2 := hb.cell 2
 have y3 := hb.cell 3
 have y4 := hb.cell 4
 have y5 := hb.cell 5
 have y6 := hb.cell 6
 have y7 := hb.cell 7
 simp only [gB] at y0 y1 y2 y3 y4 y5 y6 y7
 have z6 := hb.fz 6
 have zz := hb.lt
 have HS7 : Hid (StW w (w7.setCell ⟨w.heap.size, 6, none⟩ (.int .i64 n6)) B b c w.heap.size 55 [.int .i64 n0, .int .i64 n1, .int .i64 n2, .string n3, .string n4, .int .i64 n5, .int .i64 n6, .int .i64 n7] [.int .i64 0, .int .i64 0, .int .i64 0, .string ⟨#[]⟩, .string ⟨#[]⟩, .int .i64 0, .int .i64 0, .int .i64 0] st7) := Hd (hc.store 6 [.int .i64 n6])
 clear hc hb h1 h2 HS6
 go_wp2_with fail
 refine (cwnum B b c n7 _ _ HS7.out.ob (K7.out.max (by omega))).mono ?_
 rw [E7.out]
 rintro e w8 ⟨he, h1, h2⟩
 rw [he.out]
 clear he y0 y1 y2 y3 y4 y5 y6 y7 z6 zz
 have hc := HS7.out.call h1 h2
 have hb := hc.bx
 have y0 := hb.cell 0
 have y1 := hb.cell 1
 have y2 := hb.cell 2
 have y3 := hb.cell 3
 have y4 := hb.cell 4
 have y5 := hb.cell 5
 have y6 := hb.cell 6
 have y7 := hb.cell 7
 simp only [gB] at y0 y1 y2 y3 y4 y5 y6 y7
 have z7 := hb.fz 7
 have zz := hb.lt
 have hr := hc.rs
 have x0 := hr.cell 0
 have x1 := hr.cell 1
 have x2 := hr.cell 2
 have x3 := hr.cell 3
 have x4 := hr.cell 4
 have x5 := hr.cell 5
 have x6 := hr.cell 6
 have x7 := hr.cell 7
 simp only [gB] at x0 x1 x2 x3 x4 x5 x6 x7
 have u0 := hr.fz 0
 have u1 := hr.fz 1
 have u2 := hr.fz 2
 have u3 := hr.fz 3
 have u4 := hr.fz 4
 have u5 := hr.fz 5
 have u6 := hr.fz 6
 have u7 := hr.fz 7
 have zr := hr.lt
 clear hr
 have HS8 : Hid (StW w (w8.setCell ⟨w.heap.size, 7, none⟩ (.int .i64 n7)) B b c w.heap.size 55 [.int .i64 n0, .int .i64 n1, .int .i64 n2, .string n3, .string n4, .int .i64 n5, .int .i64 n6, .int .i64 n7] [.int .i64 0, .int .i64 0, .int .i64 0, .string ⟨#[]⟩, .string ⟨#[]⟩, .int .i64 0, .int .i64 0, .int .i64 0] st8) := Hd (hc.store 7 [.int .i64 n7])
 clear hc hb h1 h2 HS7
 go_wp2_with fail
 have HR : Hid (_ ∧ _) := Hd (HS8.out.toStB.result [.int .i64 n0, .int .i64 n1, .int .i64 n2, .string n3, .string n4, .int .i64 n5, .int .i64 n6, .int .i64 n7])
 have HO := Hd (HS8.out.result [.int .i64 n0, .int .i64 n1, .int .i64 n2, .string n3, .string n4, .int .i64 n5, .int .i64 n6, .int .i64 n7])
 have hb : Bk (((((((((w8.setCell ⟨w.heap.size, 7, none⟩ (.int .i64 n7)).setCell ⟨(w.heap.size + 1), 0, none⟩ (.int .i64 n0)).setCell ⟨(w.heap.size + 1), 1, none⟩ (.int .i64 n1)).setCell ⟨(w.heap.size + 1), 2, none⟩ (.int .i64 n2)).setCell ⟨(w.heap.size + 1), 3, none⟩ (.string n3)).setCell ⟨(w.heap.size + 1), 4, none⟩ (.string n4)).setCell ⟨(w.heap.size + 1), 5, none⟩ (.int .i64 n5)).setCell ⟨(w.heap.size + 1), 6, none⟩ (.int .i64 n6)).setCell ⟨(w.heap.size + 1), 7, none⟩ (.int .i64 n7)) (w.heap.size + 1) 55 [.int .i64 n0, .int .i64 n1, .int .i64 n2, .string n3, .string n4, .int .i64 n5, .int .i64 n6, .int .i64 n7] := HR.out.1
 obtain ⟨wf, hwf⟩ : ∃ x, (((((((((w8.setCell ⟨w.heap.size, 7, none⟩ (.int .i64 n7)).setCell ⟨(w.heap.size + 1), 0, none⟩ (.int .i64 n0)).setCell ⟨(w.heap.size + 1), 1, none⟩ (.int .i64 n1)).setCell ⟨(w.heap.size + 1), 2, none⟩ (.int .i64 n2)).setCell ⟨(w.heap.size + 1), 3, none⟩ (.string n3)).setCell ⟨(w.heap.size + 1), 4, none⟩ (.string n4)).setCell ⟨(w.heap.size + 1), 5, none⟩ (.int .i64 n5)).setCell ⟨(w.heap.size + 1), 6, none⟩ (.int .i64 n6)).setCell ⟨(w.heap.size + 1), 7, none⟩ (.int .i64 n7)) = x := ⟨_, rfl⟩
 have HO2 : Hid (WO wf B b c st8) := Hd (by rw [← hwf]; exact HO.out)
 have HF2 : Hid (Ft B b c w wf) := Hd (by rw [← hwf]; exact HR.out.2)
 rw [hwf] at hb ⊢
 clear hwf HR HO y0 y1 y2 y3 y4 y5 y6 y7 z7 zz x0 u0 x1 u1 x2 u2 x3 u3 x4 u4 x5 u5 x6 u6 x7 u7 zr
 have y0 := hb.cell 0
 have y1 := hb.cell 1
 have y2 := hb.cell 2
 have y3 := hb.cell 3
 have y4 := hb.cell 4
 have y5 := hb.cell 5
 have y6 := hb.cell 6
 have y7 := hb.cell 7
 simp only [gB] at y0 y1 y2 y3 y4 y5 y6 y7
 have zz := hb.lt
 clear hb
 exact bodyPost_ret (v := .agg #[.int .i64 n0, .int .i64 n1, .int .i64 n2, .string n3, .string n4, .int .i64 n5, .int .i64 n6, .int .i64 n7]) (by simp [results, Tryz.results81, go_sem, y0, y1, y2, y3, y4, y5, y6, y7]) rfl ⟨rfl, HO2.out, HF2.out⟩
theorem w_ent (B b c : Nat) (n0 : ByteArray) (n1 : ByteArray) (n2 : Int) (st st' : Option (List Int)) (K : Nat) (w : World) (h : WO w B b c st) (hE : wrs st (enC.fs (n0, n1, n2)) = st') (hK : Sh K st) (hk : K + 3 ≤ 20000000) (hs0 : n0.size ≤ 9223372036854775807) (hs1 : n1.size ≤ 9223372036854775807) :
  Calls Tryz.prog 85 #[fW c, .agg #[.string n0, .string n1, .int .i64 n2]] w (WP (.agg #[.string n0, .string n1, .int .i64 n2]) B b c st' w) := by
 obtain ⟨st1, he0⟩ : ∃ x, wr1 st (.txt n0) = x := ⟨_, rfl⟩
 obtain ⟨st2, he1⟩ : ∃ x, wr1 st1 (.txt n1) = x := ⟨_, rfl⟩
 obtain ⟨st3, he2⟩ : ∃ x, wr1 st2 (.num n2) = x := ⟨_, rfl⟩
 simp only [enC, pairC_fs, numC_fs, txtC_fs, wrs_app, wrs_one, he0, he1, he2] at hE
 subst hE
 have E0 := Hd he0
 have E1 := Hd he1
 have E2 := Hd he2
 clear he0 he1 he2
 have K1 : Hid (Sh (K + 1) st1) := Hd (by rw [← E0.out]; exact Sh.one hK _)
 have K2 : Hid (Sh (K + 2) st2) := Hd (by rw [← E1.out]; exact Sh.one K1.out _)
 have K3 : Hid (Sh (K + 3) st3) := Hd (by rw [← E2.out]; exact Sh.one K2.out _)
 have K0 := Hd hK
 clear hK
 have HS0 : Hid (StW w ((w.alloc (.cells #[.string n0, .string n1, .int .i64 n2] 71)).alloc (.cells #[.string ⟨#[]⟩, .string ⟨#[]⟩, .int .i64 0] 71)) B b c w.heap.size 71 [.string n0, .string n1, .int .i64 n2] [.string ⟨#[]⟩, .string ⟨#[]⟩, .int .i64 0] st) := Hd (StW.start h 71 (by decide) [.string n0, .string n1, .int .i64 n2] [.string ⟨#[]⟩, .string ⟨#[]⟩, .int .i64 0])
 clear h
 have m1 := mwnum c
 have m2 := mwtext c
 go_enter Tryz.func85, Tryz.ntmps85
 go_wp2_with fail
 refine (cwtext B b c n0 _ _ HS0.out.ob (K0.out.max (by omega)) hs0).mono ?_
 rw [E0.out]
 rintro e w1 ⟨he, h1, h2⟩
 rw [he.out]
 clear he
 have hc := HS0.out.call h1 h2
 have hb := hc.bx
 have y0 := hb.cell 0
 have y1 := hb.cell 1
 have y2 := hb.cell 2
 simp only [gB] at y0 y1 y2
 have z0 := hb.fz 0
 have zz := hb.lt
 have HS1 : Hid (StW w (w1.setCell ⟨w.heap.size, 0, none⟩ (.string n0)) B b c w.heap.size 71 [.string n0, .string n1, .int .i64 n2] [.string ⟨#[]⟩, .string ⟨#[]⟩, .int .i64 0] st1) := Hd (hc.store 0 [.string n0])
 clear hc hb h1 h2 HS0
 go_wp2_with fail
 refine (cwtext B b c n1 _ _ HS1.out.ob (K1.out.max (by omega)) hs1).mono ?_
 rw [E1.out]
 rintro e w2 ⟨he, h1, h2⟩
 rw [he.out]
 clear he y0 y1 y2 z0 zz
 have hc := HS1.out.call h1 h2
 have hb := hc.bx
 have y0 := hb.cell 0
 have y1 := hb.cell 1
 have y2 := hb.cell 2
 simp only [gB] at y0 y1 y2
 have z1 := hb.fz 1
 have zz := hb.lt
 have HS2 : Hid (StW w (w2.setCell ⟨w.heap.size, 1, none⟩ (.string n1)) B b c w.heap.size 71 [.string n0, .string n1, .int .i64 n2] [.string ⟨#[]⟩, .string ⟨#[]⟩, .int .i64 0] st2) := Hd (hc.store 1 [.string n1])
 clear hc hb h1 h2 HS1
 go_wp2_with fail
 refine (cwnum B b c n2 _ _ HS2.out.ob (K2.out.max (by omega))).mono ?_
 rw [E2.out]
 rintro e w3 ⟨he, h1, h2⟩
 rw [he.out]
 clear he y0 y1 y2 z1 zz
 have hc := HS2.out.call h1 h2
 have hb := hc.bx
 have y0 := hb.cell 0
 have y1 := hb.cell 1
 have y2 := hb.cell 2
 simp only [gB] at y0 y1 y2
 have z2 := hb.fz 2
 have zz := hb.lt
 have hr := hc.rs
 have x0 := hr.cell 0
 have x1 := hr.cell 1
 have x2 := hr.cell 2
 simp only [gB] at x0 x1 x2
 have u0 := hr.fz 0
 have u1 := hr.fz 1
 have u2 := hr.fz 2
 have zr := hr.lt
 clear hr
 have HS3 : Hid (StW w (w3.setCell ⟨w.heap.size, 2, none⟩ (.int .i64 n2)) B b c w.heap.size 71 [.string n0, .string n1, .int .i64 n2] [.string ⟨#[]⟩, .string ⟨#[]⟩, .int .i64 0] st3) := Hd (hc.store 2 [.int .i64 n2])
 clear hc hb h1 h2 HS2
 go_wp2_with fail
 have HR : Hid (_ ∧ _) := Hd (HS3.out.toStB.result [.string n0, .string n1, .int .i64 n2])
 have HO := Hd (HS3.out.result [.string n0, .string n1, .int .i64 n2])
 have hb : Bk ((((w3.setCell ⟨w.heap.size, 2, none⟩ (.int .i64 n2)).setCell ⟨(w.heap.size + 1), 0, none⟩ (.string n0)).setCell ⟨(w.heap.size + 1), 1, none⟩ (.string n1)).setCell ⟨(w.heap.size + 1), 2, none⟩ (.int .i64 n2)) (w.heap.size + 1) 71 [.string n0, .string n1, .int .i64 n2] := HR.out.1
 obtain ⟨wf, hwf⟩ : ∃ x, ((((w3.setCell ⟨w.heap.size, 2, none⟩ (.int .i64 n2)).setCell ⟨(w.heap.size + 1), 0, none⟩ (.string n0)).setCell ⟨(w.heap.size + 1), 1, none⟩ (.string n1)).setCell ⟨(w.heap.size + 1), 2, none⟩ (.int .i64 n2)) = x := ⟨_, rfl⟩
 have HO2 : Hid (WO wf B b c st3) := Hd (by rw [← hwf]; exact HO.out)
 have HF2 : Hid (Ft B b c w wf) := Hd (by rw [← hwf]; exact HR.out.2)
 rw [hwf] at hb ⊢
 clear hwf HR HO y0 y1 y2 z2 zz x0 u0 x1 u1 x2 u2 zr
 have y0 := hb.cell 0
 have y1 := hb.cell 1
 have y2 := hb.cell 2
 simp only [gB] at y0 y1 y2
 have zz := hb.lt
 clear hb
 exact bodyPost_ret (v := .agg #[.string n0, .string n1, .int .i64 n2]) (by simp [results, Tryz.results85, go_sem, y0, y1, y2]) rfl ⟨rfl, HO2.out, HF2.out⟩
end Go.Proofs.YtnancdbkmompdaaGreat
