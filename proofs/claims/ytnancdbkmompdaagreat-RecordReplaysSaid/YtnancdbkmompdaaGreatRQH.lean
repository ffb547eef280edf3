/-
  Texts put together: CdX3, Cd6, Cd7, Cd8.
-/
import Derived.Test.YtnancdbkmompdaaGreatRY
import Derived.Test.YtnancdbkmompdaaGreatCdX2R
import Derived.Test.YtnancdbkmompdaaGreatRQF
import Derived.Test.YtnancdbkmompdaaGreatRQG
namespace Go.Proofs.YtnancdbkmompdaaGreat
open Go.RowKit
set_option linter.unusedSimpArgs false
set_option linter.unusedVariables false
set_option maxRecDepth 100000
set_option maxHeartbeats 40000000
def W_sn (n0 : Int) (B b c : Nat) (st : Option (List Int)) (w : World) (e : Ending) (w' : World) : Prop := ∃ (b1 : Option Addr) (d1 f1 : Nat) (b2 : Option Addr) (d2 f2 : Nat) (b3 : Option Addr) (d3 f3 : Nat), Hid (e = .returned (.agg #[.int .i64 n0, .slice b1 d1 f1, .slice b2 d2 f2, .slice b3 d3 f3])) ∧ WO w' B b c st ∧ Ft B b c w w'
theorem w_sn (B b c : Nat) (n0 : Int) (a1 : Option Addr) (m1 c1 : Nat) (a2 : Option Addr) (m2 c2 : Nat) (a3 : Option Addr) (m3 c3 : Nat) (rs1 : List (Cls 1)) (l1 : List Int) (rs2 : List (Cls 3)) (l2 : List Ent) (rs3 : List (Cls 6)) (l3 : List Ses) (st st' : Option (List Int)) (K : Nat) (W w : World) (h : WO w B b c st) (hW : Below W.heap.size W w) (hWB : W.heap.size ≤ B) (hE : wrs st (snC.fs ((n0, l1), l2, l3)) = st') (hK : Sh K st) (hk : K + 1058820 ≤ 20000000)  (hr1 : RowIs KN numS W (.slice a1 m1 c1) rs1 l1) (hr2 : RowIs KE enS W (.slice a2 m2 c2) rs2 l2) (hr3 : RowIs KZ seS W (.slice a3 m3 c3) rs3 l3) :
  Calls Tryz.prog 62 #[fW c, .agg #[.int .i64 n0, .slice a1 m1 c1, .slice a2 m2 c2, .slice a3 m3 c3]] w (W_sn n0 B b c st' w) := by
 obtain ⟨st1, he0⟩ : ∃ x, wrs st (cfC.fs (n0, l1)) = x := ⟨_, rfl⟩
 obtain ⟨st2, he1⟩ : ∃ x, wrs st1 ((listC enC).fs l2) = x := ⟨_, rfl⟩
 obtain ⟨st3, he2⟩ : ∃ x, wrs st2 ((listC seC).fs l3) = x := ⟨_, rfl⟩
 simp only [snC, pairC_fs, numC_fs, txtC_fs, wrs_app, wrs_one, he0, he1, he2] at hE
 subst hE
 have E0 := Hd he0
 have E1 := Hd he1
 have E2 := Hd he2
 clear he0 he1 he2
 have K1 : Hid (Sh (K + 1026) st1) := Hd (by rw [← E0.out]; exact ShC.cf _ _ _ hK)
 have K2 : Hid (Sh (K + 4099) st2) := Hd (by rw [← E1.out]; exact (ShC.list ShC.en) _ _ _ K1.out)
 have K3 : Hid (Sh (K + 1058820) st3) := Hd (by rw [← E2.out]; exact (ShC.list ShC.se) _ _ _ K2.out)
 have K0 := Hd hK
 have HBW := Hd hW
 have HWB := Hd hWB
 have HRW1 := Hd hr1
 have HRW2 := Hd hr2
 have HRW3 := Hd hr3
 clear hK hW hWB hr1 hr2 hr3
 have HS0 : Hid (StW w ((w.alloc (.cells #[.int .i64 n0, .slice a1 m1 c1, .slice a2 m2 c2, .slice a3 m3 c3] 28)).alloc (.cells #[.int .i64 0, .slice none 0 0, .slice none 0 0, .slice none 0 0] 28)) B b c w.heap.size 28 [.int .i64 n0, .slice a1 m1 c1, .slice a2 m2 c2, .slice a3 m3 c3] [.int .i64 0, .slice none 0 0, .slice none 0 0, .slice none 0 0] st) := Hd (StW.start h 28 (by decide) [.int .i64 n0, .slice a1 m1 c1, .slice a2 m2 c2, .slice a3 m3 c3] [.int .i64 0, .slice none 0 0, .slice none 0 0, .slice none 0 0])
 have HZ := Hd (show w.heap.size + 2 ≤ ((w.alloc (.cells #[.int .i64 n0, .slice a1 m1 c1, .slice a2 m2 c2, .slice a3 m3 c3] 28)).alloc (.cells #[.int .i64 0, .slice none 0 0, .slice none 0 0, .slice none 0 0] 28)).heap.size by simp)
 clear h
 have hm1 := mwnum c
 have hm2 := mwtext c
 go_enter Tryz.func62, Tryz.ntmps62
 go_wp2_with fail
 refine (w_cfg B b c n0 a1 m1 c1 rs1 l1 _ _ _ W _ HS0.out.ob (HBW.out.trans (HS0.out.ft.low.mono HWB.out)) HWB.out E0.out K0.out (by omega)  HRW1.out).mono ?_
 rintro e w1 ⟨b1, d1, f1, he, h1, h2⟩
 rw [he.out]
 clear he
 have hc := HS0.out.call h1 h2
 have hb := hc.bx
 have y0 := hb.cell 0
 have y1 := hb.cell 1
 have y2 := hb.cell 2
 have y3 := hb.cell 3
 simp only [gB] at y0 y1 y2 y3
 have z0 := hb.fz 0
 have z1 := hb.fz 1
 have zz := hb.lt
 have HS1 : Hid (StW w ((w1.setCell ⟨w.heap.size, 0, none⟩ (.int .i64 n0)).setCell ⟨w.heap.size, 1, none⟩ (.slice b1 d1 f1)) B b c w.heap.size 28 [.int .i64 n0, .slice b1 d1 f1, .slice a2 m2 c2, .slice a3 m3 c3] [.int .i64 0, .slice none 0 0, .slice none 0 0, .slice none 0 0] st1) := Hd (hc.store 0 [.int .i64 n0, .slice b1 d1 f1])
 clear hc hb h2 h1 HS0
 go_wp2_with fail
 refine (w_lent B b c _ _ _ W _ _ _ _ HS1.out.ob HRW2.out (HBW.out.trans (HS1.out.ft.low.mono HWB.out)) HWB.out E1.out K1.out (by omega)).mono ?_
 rintro e w2 ⟨b2, d2, f2, he, h1, h2⟩
 rw [he.out]
 clear he y0 y1 y2 y3 z0 z1 zz
 have hc := HS1.out.call h1 h2
 have hb := hc.bx
 have y0 := hb.cell 0
 have y1 := hb.cell 1
 have y2 := hb.cell 2
 have y3 := hb.cell 3
 simp only [gB] at y0 y1 y2 y3
 have z2 := hb.fz 2
 have zz := hb.lt
 have HS2 : Hid (StW w (w2.setCell ⟨w.heap.size, 2, none⟩ (.slice b2 d2 f2)) B b c w.heap.size 28 [.int .i64 n0, .slice b1 d1 f1, .slice b2 d2 f2, .slice a3 m3 c3] [.int .i64 0, .slice none 0 0, .slice none 0 0, .slice none 0 0] st2) := Hd (hc.store 2 [.slice b2 d2 f2])
 clear hc hb h2 h1 HS1
 go_wp2_with fail
 refine (w_lses B b c _ _ _ W _ _ _ _ HS2.out.ob HRW3.out (HBW.out.trans (HS2.out.ft.low.mono HWB.out)) HWB.out E2.out K2.out (by omega)).mono ?_
 rintro e w3 ⟨b3, d3, f3, he, h1, h2⟩
 rw [he.out]
 clear he y0 y1 y2 y3 z2 zz
 have hc := HS2.out.call h1 h2
 have hb := hc.bx
 have y0 := hb.cell 0
 have y1 := hb.cell 1
 have y2 := hb.cell 2
 have y3 := hb.cell 3
 simp only [gB] at y0 y1 y2 y3
 have z3 := hb.fz 3
 have zz := hb.lt
 have hr := hc.rs
 have x0 := hr.cell 0
 have x1 := hr.cell 1
 have x2 := hr.cell 2
 have x3 := hr.cell 3
 simp only [gB] at x0 x1 x2 x3
 have u0 := hr.fz 0
 have u1 := hr.fz 1
 have u2 := hr.fz 2
 have u3 := hr.fz 3
 have zr := hr.lt
 clear hr
 have HS3 : Hid (StW w (w3.setCell ⟨w.heap.size, 3, none⟩ (.slice b3 d3 f3)) B b c w.heap.size 28 [.int .i64 n0, .slice b1 d1 f1, .slice b2 d2 f2, .slice b3 d3 f3] [.int .i64 0, .slice none 0 0, .slice none 0 0, .slice none 0 0] st3) := Hd (hc.store 3 [.slice b3 d3 f3])
 clear hc hb h2 h1 HS2
 go_wp2_with fail
 have HR : Hid (_ ∧ _) := Hd (HS3.out.toStB.result [.int .i64 n0, .slice b1 d1 f1, .slice b2 d2 f2, .slice b3 d3 f3])
 have HO := Hd (HS3.out.result [.int .i64 n0, .slice b1 d1 f1, .slice b2 d2 f2, .slice b3 d3 f3])
 have hb : Bk (((((w3.setCell ⟨w.heap.size, 3, none⟩ (.slice b3 d3 f3)).setCell ⟨(w.heap.size + 1), 0, none⟩ (.int .i64 n0)).setCell ⟨(w.heap.size + 1), 1, none⟩ (.slice b1 d1 f1)).setCell ⟨(w.heap.size + 1), 2, none⟩ (.slice b2 d2 f2)).setCell ⟨(w.heap.size + 1), 3, none⟩ (.slice b3 d3 f3)) (w.heap.size + 1) 28 [.int .i64 n0, .slice b1 d1 f1, .slice b2 d2 f2, .slice b3 d3 f3] := HR.out.1
 obtain ⟨wf, hwf⟩ : ∃ x, (((((w3.setCell ⟨w.heap.size, 3, none⟩ (.slice b3 d3 f3)).setCell ⟨(w.heap.size + 1), 0, none⟩ (.int .i64 n0)).setCell ⟨(w.heap.size + 1), 1, none⟩ (.slice b1 d1 f1)).setCell ⟨(w.heap.size + 1), 2, none⟩ (.slice b2 d2 f2)).setCell ⟨(w.heap.size + 1), 3, none⟩ (.slice b3 d3 f3)) = x := ⟨_, rfl⟩
 have HO2 : Hid (WO wf B b c st3) := Hd (by rw [← hwf]; exact HO.out)
 have HF2 : Hid (Ft B b c w wf) := Hd (by rw [← hwf]; exact HR.out.2)
 rw [hwf] at hb ⊢
 clear hwf HR HO y0 y1 y2 y3 z3 zz x0 u0 x1 u1 x2 u2 x3 u3 zr
 have y0 := hb.cell 0
 have y1 := hb.cell 1
 have y2 := hb.cell 2
 have y3 := hb.cell 3
 simp only [gB] at y0 y1 y2 y3
 have zz := hb.lt
 clear hb
 exact bodyPost_ret (v := .agg #[.int .i64 n0, .slice b1 d1 f1, .slice b2 d2 f2, .slice b3 d3 f3]) (by simp [results, Tryz.results62, go_sem, y0, y1, y2, y3]) rfl ⟨b1, d1, f1, b2, d2, f2, b3, d3, f3, rfl, HO2.out, HF2.out⟩
def W_ins (n0 : Int) (n1 : Int) (n2 : Int) (n3 : Int) (n4 : Int) (n5 : Int) (n6 : Int) (n7 : Int) (n8 : ByteArray) (n9 : ByteArray) (n10 : Int) (n11 : Int) (n12 : Int) (n13 : Int) (B b c : Nat) (st : Option (List Int)) (w : World) (e : Ending) (w' : World) : Prop := ∃ (b14 : Option Addr) (d14 f14 : Nat), Hid (e = .returned (.agg #[.int .i64 n0, .int .i64 n1, .int .i64 n2, .int .i64 n3, .int .i64 n4, .int .i64 n5, .int .i64 n6, .int .i64 n7, .string n8, .string n9, .int .i64 n10, .int .i64 n11, .int .i64 n12, .int .i64 n13, .slice b14 d14 f14])) ∧ WO w' B b c st ∧ Ft B b c w w'
theorem w_ins (B b c : Nat) (n0 : Int) (n1 : Int) (n2 : Int) (n3 : Int) (n4 : Int) (n5 : Int) (n6 : Int) (n7 : Int) (n8 : ByteArray) (n9 : ByteArray) (n10 : Int) (n11 : Int) (n12 : Int) (n13 : Int) (a14 : Option Addr) (m14 c14 : Nat) (rs14 : List (Cls 3)) (l14 : List Id3) (st st' : Option (List Int)) (K : Nat) (W w : World) (h : WO w B b c st) (hW : Below W.heap.size W w) (hWB : W.heap.size ≤ B) (hE : wrs st (inC.fs (n0, (n1, n2), (n3, n4), (n5, n6, n7, n8, n9, n10, n11, n12), (n13, l14))) = st') (hK : Sh K st) (hk : K + 3087 ≤ 20000000) (hs8 : n8.size ≤ 9223372036854775807) (hs9 : n9.size ≤ 9223372036854775807) (hr14 : RowIs KI idS W (.slice a14 m14 c14) rs14 l14) :
  Calls Tryz.prog 61 #[fW c, .agg #[.int .i64 n0, .int .i64 n1, .int .i64 n2, .int .i64 n3, .int .i64 n4, .int .i64 n5, .int .i64 n6, .int .i64 n7, .string n8, .string n9, .int .i64 n10, .int .i64 n11, .int .i64 n12, .int .i64 n13, .slice a14 m14 c14]] w (W_ins n0 n1 n2 n3 n4 n5 n6 n7 n8 n9 n10 n11 n12 n13 B b c st' w) := by
 obtain ⟨st1, he0⟩ : ∃ x, wr1 st (.num n0) = x := ⟨_, rfl⟩
 obtain ⟨st2, he1⟩ : ∃ x, wrs st1 (balC.fs (n1, n2)) = x := ⟨_, rfl⟩
 obtain ⟨st3, he2⟩ : ∃ x, wrs st2 (balC.fs (n3, n4)) = x := ⟨_, rfl⟩
 obtain ⟨st4, he3⟩ : ∃ x, wrs st3 (cmC.fs (n5, n6, n7, n8, n9, n10, n11, n12)) = x := ⟨_, rfl⟩
 obtain ⟨st5, he4⟩ : ∃ x, wrs st4 (atC.fs (n13, l14)) = x := ⟨_, rfl⟩
 simp only [inC, pairC_fs, numC_fs, txtC_fs, wrs_app, wrs_one, he0, he1, he2, he3, he4] at hE
 subst hE
 have E0 := Hd he0
 have E1 := Hd he1
 have E2 := Hd he2
 have E3 := Hd he3
 have E4 := Hd he4
 clear he0 he1 he2 he3 he4
 have K1 : Hid (Sh (K + 1) st1) := Hd (by rw [← E0.out]; exact Sh.one hK _)
 have K2 : Hid (Sh (K + 3) st2) := Hd (by rw [← E1.out]; exact ShC.bal _ _ _ K1.out)
 have K3 : Hid (Sh (K + 5) st3) := Hd (by rw [← E2.out]; exact ShC.bal _ _ _ K2.out)
 have K4 : Hid (Sh (K + 13) st4) := Hd (by rw [← E3.out]; exact ShC.cm _ _ _ K3.out)
 have K5 : Hid (Sh (K + 3087) st5) := Hd (by rw [← E4.out]; exact ShC.att _ _ _ K4.out)
 have K0 := Hd hK
 have HBW := Hd hW
 have HWB := Hd hWB
 have HRW14 := Hd hr14
 clear hK hW hWB hr14
 have HS0 : Hid (StW w ((w.alloc (.cells #[.int .i64 n0, .int .i64 n1, .int .i64 n2, .int .i64 n3, .int .i64 n4, .int .i64 n5, .int .i64 n6, .int .i64 n7, .string n8, .string n9, .int .i64 n10, .int .i64 n11, .int .i64 n12, .int .i64 n13, .slice a14 m14 c14] 59)).alloc (.cells #[.int .i64 0, .int .i64 0, .int .i64 0, .int .i64 0, .int .i64 0, .int .i64 0, .int .i64 0, .int .i64 0, .string ⟨#[]⟩, .string ⟨#[]⟩, .int .i64 0, .int .i64 0, .int .i64 0, .int .i64 0, .slice none 0 0] 59)) B b c w.heap.size 59 [.int .i64 n0, .int .i64 n1, .int .i64 n2, .int .i64 n3, .int .i64 n4, .int .i64 n5, .int .i64 n6, .int .i64 n7, .string n8, .string n9, .int .i64 n10, .int .i64 n11, .int .i64 n12, .int .i64 n13, .slice a14 m14 c14] [.int .i64 0, .int .i64 0, .int .i64 0, .int .i64 0, .int .i64 0, .int .i64 0, .int .i64 0, .int .i64 0, .string ⟨#[]⟩, .string ⟨#[]⟩, .int .i64 0, .int .i64 0, .int .i64 0, .int .i64 0, .slice none 0 0] st) := Hd (StW.start h 59 (by decide) [.int .i64 n0, .int .i64 n1, .int .i64 n2, .int .i64 n3, .int .i64 n4, .int .i64 n5, .int .i64 n6, .int .i64 n7, .string n8, .string n9, .int .i64 n10, .int .i64 n11, .int .i64 n12, .int .i64 n13, .slice a14 m14 c14] [.int .i64 0, .int .i64 0, .int .i64 0, .int .i64 0, .int .i64 0, .int .i64 0, .int .i64 0, .int .i64 0, .string ⟨#[]⟩, .string ⟨#[]⟩, .int .i64 0, .int .i64 0, .int .i64 0, .int .i64 0, .slice none 0 0])
 have HZ := Hd (show w.heap.size + 2 ≤ ((w.alloc (.cells #[.int .i64 n0, .int .i64 n1, .int .i64 n2, .int .i64 n3, .int .i64 n4, .int .i64 n5, .int .i64 n6, .int .i64 n7, .string n8, .string n9, .int .i64 n10, .int .i64 n11, .int .i64 n12, .int .i64 n13, .slice a14 m14 c14] 59)).alloc (.cells #[.int .i64 0, .int .i64 0, .int .i64 0, .int .i64 0, .int .i64 0, .int .i64 0, .int .i64 0, .int .i64 0, .string ⟨#[]⟩, .string ⟨#[]⟩, .int .i64 0, .int .i64 0, .int .i64 0, .int .i64 0, .slice none 0 0] 59)).heap.size by simp)
 clear h
 have hm1 := mwnum c
 have hm2 := mwtext c
 go_enter Tryz.func61, Tryz.ntmps61
 go_wp2_with fail
 refine (w_nstat B b c n0 _ _ HS0.out.ob (K0.out.max (by omega))).mono ?_
 rw [E0.out]
 rintro e w1 ⟨he, h1, h2⟩
 rw [he.out]
 clear he
 have hc := HS0.out.call h1 h2
 have hb := hc.bx
 have y0 := hb.cell 0
 have y1 := hb.cell 1
 have y2 := hb.cell 2
 have y3 := hb.cell 3
 have y4 := hb.cell 4
 have y5 := hb.cell 5
 have y6 := hb.cell 6
 have y7 := hb.cell 7
 have y8 := hb.cell 8
 have y9 := hb.cell 9
 have y10 := hb.cell 10
 have y11 := hb.cell 11
 have y12 := hb.cell 12
 have y13 := hb.cell 13
 have y14 := hb.cell 14
 simp only [gB] at y0 y1 y2 y3 y4 y5 y6 y7 y8 y9 y10 y11 y12 y13 y14
 have z0 := hb.fz 0
 have zz := hb.lt
 have HS1 : Hid (StW w (w1.setCell ⟨w.heap.size, 0, none⟩ (.int .i64 n0)) B b c w.heap.size 59 [.int .i64 n0, .int .i64 n1, .int .i64 n2, .int .i64 n3, .int .i64 n4, .int .i64 n5, .int .i64 n6, .int .i64 n7, .string n8, .string n9, .int .i64 n10, .int .i64 n11, .int .i64 n12, .int .i64 n13, .slice a14 m14 c14] [.int .i64 0, .int .i64 0, .int .i64 0, .int .i64 0, .int .i64 0, .int .i64 0, .int .i64 0, .int .i64 0, .string ⟨#[]⟩, .string ⟨#[]⟩, .int .i64 0, .int .i64 0, .int .i64 0, .int .i64 0, .slice none 0 0] st1) := Hd (hc.store 0 [.int .i64 n0])
 clear hc hb h2 h1 HS0
 go_wp2_with fail
 refine (w_bal B b c n1 n2 _ _ _ _ HS1.out.ob E1.out K1.out (by omega) ).mono ?_
 rintro e w2 ⟨he, h1, h2⟩
 rw [he.out]
 clear he y0 y1 y2 y3 y4 y5 y6 y7 y8 y9 y10 y11 y12 y13 y14 z0 zz
 have hc := HS1.out.call h1 h2
 have hb := hc.bx
 have y0 := hb.cell 0
 have y1 := hb.cell 1
 have y2 := hb.cell 2
 have y3 := hb.cell 3
 have y4 := hb.cell 4
 have y5 := hb.cell 5
 have y6 := hb.cell 6
 have y7 := hb.cell 7
 have y8 := hb.cell 8
 have y9 := hb.cell 9
 have y10 := hb.cell 10
 have y11 := hb.cell 11
 have y12 := hb.cell 12
 have y13 := hb.cell 13
 have y14 := hb.cell 14
 simp only [gB] at y0 y1 y2 y3 y4 y5 y6 y7 y8 y9 y10 y11 y12 y13 y14
 have z1 := hb.fz 1
 have z2 := hb.fz 2
 have zz := hb.lt
 have HS2 : Hid (StW w ((w2.setCell ⟨w.heap.size, 1, none⟩ (.int .i64 n1)).setCell ⟨w.heap.size, 2, none⟩ (.int .i64 n2)) B b c w.heap.size 59 [.int .i64 n0, .int .i64 n1, .int .i64 n2, .int .i64 n3, .int .i64 n4, .int .i64 n5, .int .i64 n6, .int .i64 n7, .string n8, .string n9, .int .i64 n10, .int .i64 n11, .int .i64 n12, .int .i64 n13, .slice a14 m14 c14] [.int .i64 0, .int .i64 0, .int .i64 0, .int .i64 0, .int .i64 0, .int .i64 0, .int .i64 0, .int .i64 0, .string ⟨#[]⟩, .string ⟨#[]⟩, .int .i64 0, .int .i64 0, .int .i64 0, .int .i64 0, .slice none 0 0] st2) := Hd (hc.store 1 [.int .i64 n1, .int .i64 n2])
 clear hc hb h2 h1 HS1
 go_wp2_with fail
 refine (w_bal B b c n3 n4 _ _ _ _ HS2.out.ob E2.out K2.out (by omega) ).mono ?_
 rintro e w3 ⟨he, h1, h2⟩
 rw [he.out]
 clear he y0 y1 y2 y3 y4 y5 y6 y7 y8 y9 y10 y11 y12 y13 y14 z1 z2 zz
 have hc := HS2.out.call h1 h2
 have hb := hc.bx
 have y0 := hb.cell 0
 have y1 := hb.cell 1
 have y2 := hb.cell 2
 have y3 := hb.cell 3
 have y4 := hb.cell 4
 have y5 := hb.cell 5
 have y6 := hb.cell 6
 have y7 := hb.cell 7
 have y8 := hb.cell 8
 have y9 := hb.cell 9
 have y10 := hb.cell 10
 have y11 := hb.cell 11
 have y12 := hb.cell 12
 have y13 := hb.cell 13
 have y14 := hb.cell 14
 simp only [gB] at y0 y1 y2 y3 y4 y5 y6 y7 y8 y9 y10 y11 y12 y13 y14
 have z3 := hb.fz 3
 have z4 := hb.fz 4
 have zz := hb.lt
 have HS3 : Hid (StW w ((w3.setCell ⟨w.heap.size, 3, none⟩ (.int .i64 n3)).setCell ⟨w.heap.size, 4, none⟩ (.int .i64 n4)) B b c w.heap.size 59 [.int .i64 n0, .int .i64 n1, .int .i64 n2, .int .i64 n3, .int .i64 n4, .int .i64 n5, .int .i64 n6, .int .i64 n7, .string n8, .string n9, .int .i64 n10, .int .i64 n11, .int .i64 n12, .int .i64 n13, .slice a14 m14 c14] [.int .i64 0, .int .i64 0, .int .i64 0, .int .i64 0, .int .i64 0, .int .i64 0, .int .i64 0, .int .i64 0, .string ⟨#[]⟩, .string ⟨#[]⟩, .int .i64 0, .int .i64 0, .int .i64 0, .int .i64 0, .slice none 0 0] st3) := Hd (hc.store 3 [.int .i64 n3, .int .i64 n4])
 clear hc hb h2 h1 HS2
 go_wp2_with fail
 refine (w_cmd B b c n5 n6 n7 n8 n9 n10 n11 n12 _ _ _ _ HS3.out.ob E3.out K3.out (by omega) hs8 hs9).mono ?_
 rintro e w4 ⟨he, h1, h2⟩
 rw [he.out]
 clear he y0 y1 y2 y3 y4 y5 y6 y7 y8 y9 y10 y11 y12 y13 y14 z3 z4 zz
 have hc := HS3.out.call h1 h2
 have hb := hc.bx
 have y0 := hb.cell 0
 have y1 := hb.cell 1
 have y2 := hb.cell 2
 have y3 := hb.cell 3
 have y4 := hb.cell 4
 have y5 := hb.cell 5
 have y6 := hb.cell 6
 have y7 := hb.cell 7
 have y8 := hb.cell 8
 have y9 := hb.cell 9
 have y10 := hb.cell 10
 have y11 := hb.cell 11
 have y12 := hb.cell 12
 have y13 := hb.cell 13
 have y14 := hb.cell 14
 simp only [gB] at y0 y1 y2 y3 y4 y5 y6 y7 y8 y9 y10 y11 y12 y13 y14
 have z5 := hb.fz 5
 have z6 := hb.fz 6
 have z7 := hb.fz 7
 have z8 := hb.fz 8
 have z9 := hb.fz 9
 have z10 := hb.fz 10
 have z11 := hb.fz 11
 have z12 := hb.fz 12
 have zz := hb.lt
 have HS4 : Hid (StW w ((((((((w4.setCell ⟨w.heap.size, 5, none⟩ (.int .i64 n5)).setCell ⟨w.heap.size, 6, none⟩ (.int .i64 n6)).setCell ⟨w.heap.size, 7, none⟩ (.int .i64 n7)).setCell ⟨w.heap.size, 8, none⟩ (.string n8)).setCell ⟨w.heap.size, 9, none⟩ (.string n9)).setCell ⟨w.heap.size, 10, none⟩ (.int .i64 n10)).setCell ⟨w.heap.size, 11, none⟩ (.int .i64 n11)).setCell ⟨w.heap.size, 12, none⟩ (.int .i64 n12)) B b c w.heap.size 59 [.int .i64 n0, .int .i64 n1, .int .i64 n2, .int .i64 n3, .int .i64 n4, .int .i64 n5, .int .i64 n6, .int .i64 n7, .string n8, .string n9, .int .i64 n10, .int .i64 n11, .int .i64 n12, .int .i64 n13, .slice a14 m14 c14] [.int .i64 0, .int .i64 0, .int .i64 0, .int .i64 0, .int .i64 0, .int .i64 0, .int .i64 0, .int .i64 0, .string ⟨#[]⟩, .string ⟨#[]⟩, .int .i64 0, .int .i64 0, .int .i64 0, .int .i64 0, .slice none 0 0] st4) := Hd (hc.store 5 [.int .i64 n5, .int .i64 n6, .int .i64 n7, .string n8, .string n9, .int .i64 n10, .int .i64 n11, .int .i64 n12])
 clear hc hb h2 h1 HS3
 go_wp2_with fail
 refine (w_att B b c n13 a14 m14 c14 rs14 l14 _ _ _ W _ HS4.out.ob (HBW.out.trans (HS4.out.ft.low.mono HWB.out)) HWB.out E4.out K4.out (by omega)  HRW14.out).mono ?_
 rintro e w5 ⟨b14, d14, f14, he, h1, h2⟩
 rw [he.out]
 clear he y0 y1 y2 y3 y4 y5 y6 y7 y8 y9 y10 y11 y12 y13 y14 z5 z6 z7 z8 z9 z10 z11 z12 zz
 have hc := HS4.out.call h1 h2
 have hb := hc.bx
 have y0 := hb.cell 0
 have y1 := hb.cell 1
 have y2 := hb.cell 2
 have y3 := hb.cell 3
 have y4 := hb.cell 4
 have y5 := hb.cell 5
 have y6 := hb.cell 6
 have y7 := hb.cell 7
 have y8 := hb.cell 8
 have y9 := hb.cell 9
 have y10 := hb.cell 10
 have y11 := hb.cell 11
 have y12 := hb.cell 12
 have y13 := hb.cell 13
 have y14 := hb.cell 14
 simp only [gB] at y0 y1 y2 y3 y4 y5 y6 y7 y8 y9 y10 y11 y12 y13 y14
 have z13 := hb.fz 13
 have z14 := hb.fz 14
 have zz := hb.lt
 have hr := hc.rs
 have x0 := hr.cell 0
 have x1 := hr.cell 1
 have x2 := hr.cell 2
 have x3 := hr.cell 3
 have x4 := hr.cell 4
 have x5 := hr.cell 5
 have x6 := hr.cell 6
 have x7 := hr.cell 7
 have x8 := hr.cell 8
 have x9 := hr.cell 9
 have x10 := hr.cell 10
 have x11 := hr.cell 11
 have x12 := hr.cell 12
 have x13 := hr.cell 13
 have x14 := hr.cell 14
 simp only [gB] at x0 x1 x2 x3 x4 x5 x6 x7 x8 x9 x10 x11 x12 x13 x14
 have u0 := hr.fz 0
 have u1 := hr.fz 1
 have u2 := hr.fz 2
 have u3 := hr.fz 3
 have u4 := hr.fz 4
 have u5 := hr.fz 5
 have u6 := hr.fz 6
 have u7 := hr.fz 7
 have u8 := hr.fz 8
 have u9 := hr.fz 9
 have u10 := hr.fz 10
 have u11 := hr.fz 11
 have u12 := hr.fz 12
 have u13 := hr.fz 13
 have u14 := hr.fz 14
 have zr := hr.lt
 clear hr
 have HS5 : Hid (StW w ((w5.setCell ⟨w.heap.size, 13, none⟩ (.int .i64 n13)).setCell ⟨w.heap.size, 14, none⟩ (.slice b14 d14 f14)) B b c w.heap.size 59 [.int .i64 n0, .int .i64 n1, .int .i64 n2, .int .i64 n3, .int .i64 n4, .int .i64 n5, .int .i64 n6, .int .i64 n7, .string n8, .string n9, .int .i64 n10, .int .i64 n11, .int .i64 n12, .int .i64 n13, .slice b14 d14 f14] [.int .i64 0, .int .i64 0, .int .i64 0, .int .i64 0, .int .i64 0, .int .i64 0, .int .i64 0, .int .i64 0, .string ⟨#[]⟩, .string ⟨#[]⟩, .int .i64 0, .int .i64 0, .int .i64 0, .int .i64 0, .slice none 0 0] st5) := Hd (hc.store 13 [.int .i64 n13, .slice b14 d14 f14])
 clear hc hb h2 h1 HS4
 go_wp2_with fail
 have HR : Hid (_ ∧ _) := Hd (HS5.out.toStB.result [.int .i64 n0, .int .i64 n1, .int .i64 n2, .int .i64 n3, .int .i64 n4, .int .i64 n5, .int .i64 n6, .int .i64 n7, .string n8, .string n9, .int .i64 n10, .int .i64 n11, .int .i64 n12, .int .i64 n13, .slice b14 d14 f14])
 have HO := Hd (HS5.out.result [.int .i64 n0, .int .i64 n1, .int .i64 n2, .int .i64 n3, .int .i64 n4, .int .i64 n5, .int .i64 n6, .int .i64 n7, .string n8, .string n9, .int .i64 n10, .int .i64 n11, .int .i64 n12, .int .i64 n13, .slice b14 d14 f14])
 have hb : Bk (((((((((((((((((w5.setCell ⟨w.heap.size, 13, none⟩ (.int .i64 n13)).setCell ⟨w.heap.size, 14, none⟩ (.slice b14 d14 f14)).setCell ⟨(w.heap.size + 1), 0, none⟩ (.int .i64 n0)).setCell ⟨(w.heap.size + 1), 1, none⟩ (.int .i64 n1)).setCell ⟨(w.heap.size + 1), 2, none⟩ (.int .i64 n2)).setCell ⟨(w.heap.size + 1), 3, none⟩ (.int .i64 n3)).setCell ⟨(w.heap.size + 1), 4, none⟩ (.int .i64 n4)).setCell ⟨(w.heap.size + 1), 5, none⟩ (.int .i64 n5)).setCell ⟨(w.heap.size + 1), 6, none⟩ (.int .i64 n6)).setCell ⟨(w.heap.size + 1), 7, none⟩ (.int .i64 n7)).setCell ⟨(w.heap.size + 1), 8, none⟩ (.string n8)).setCell ⟨(w.heap.size + 1), 9, none⟩ (.string n9)).setCell ⟨(w.heap.size + 1), 10, none⟩ (.int .i64 n10)).setCell ⟨(w.heap.size + 1), 11, none⟩ (.int .i64 n11)).setCell ⟨(w.heap.size + 1), 12, none⟩ (.int .i64 n12)).setCell ⟨(w.heap.size + 1), 13, none⟩ (.int .i64 n13)).setCell ⟨(w.heap.size + 1), 14, none⟩ (.slice b14 d14 f14)) (w.heap.size + 1) 59 [.int .i64 n0, .int .i64 n1, .int .i64 n2, .int .i64 n3, .int .i64 n4, .int .i64 n5, .int .i64 n6, .int .i64 n7, .string n8, .string n9, .int .i64 n10, .int .i64 n11, .int .i64 n12, .int .i64 n13, .slice b14 d14 f14] := HR.out.1
 obtain ⟨wf, hwf⟩ : ∃ x, (((((((((((((((((w5.setCell ⟨w.heap.size, 13, none⟩ (.int .i64 n13)).setCell ⟨w.heap.size, 14, none⟩ (.slice b14 d14 f14)).setCell ⟨(w.heap.size + 1), 0, none⟩ (.int .i64 n0)).setCell ⟨(w.heap.size + 1), 1, none⟩ (.int .i64 n1)).setCell ⟨(w.heap.size + 1), 2, none⟩ (.int .i64 n2)).setCell ⟨(w.heap.size + 1), 3, none⟩ (.int .i64 n3)).setCell ⟨(w.heap.size + 1), 4, none⟩ (.int .i64 n4)).setCell ⟨(w.heap.size + 1), 5, none⟩ (.int .i64 n5)).setCell ⟨(w.heap.size + 1), 6, none⟩ (.int .i64 n6)).setCell ⟨(w.heap.size + 1), 7, none⟩ (.int .i64 n7)).setCell ⟨(w.heap.size + 1), 8, none⟩ (.string n8)).setCell ⟨(w.heap.size + 1), 9, none⟩ (.string n9)).setCell ⟨(w.heap.size + 1), 10, none⟩ (.int .i64 n10)).setCell ⟨(w.heap.size + 1), 11, none⟩ (.int .i64 n11)).setCell ⟨(w.heap.size + 1), 12, none⟩ (.int .i64 n12)).setCell ⟨(w.heap.size + 1), 13, none⟩ (.int .i64 n13)).setCell ⟨(w.heap.size + 1), 14, none⟩ (.slice b14 d14 f14)) = x := ⟨_, rfl⟩
 have HO2 : Hid (WO wf B b c st5) := Hd (by rw [← hwf]; exact HO.out)
 have HF2 : Hid (Ft B b c w wf) := Hd (by rw [← hwf]; exact HR.out.2)
 rw [hwf] at hb ⊢
 clear hwf HR HO y0 y1 y2 y3 y4 y5 y6 y7 y8 y9 y10 y11 y12 y13 y14 z13 z14 zz x0 u0 x1 u1 x2 u2 x3 u3 x4 u4 x5 u5 x6 u6 x7 u7 x8 u8 x9 u9 x10 u10 x11 u11 x12 u12 x13 u13 x14 u14 zr
 have y0 := hb.cell 0
 have y1 := hb.cell 1
 have y2 := hb.cell 2
 have y3 := hb.cell 3
 have y4 := hb.cell 4
 have y5 := hb.cell 5
 have y6 := hb.cell 6
 have y7 := hb.cell 7
 have y8 := hb.cell 8
 have y9 := hb.cell 9
 have y10 := hb.cell 10
 have y11 := hb.cell 11
 have y12 := hb.cell 12
 have y13 := hb.cell 13
 have y14 := hb.cell 14
 simp only [gB] at y0 y1 y2 y3 y4 y5 y6 y7 y8 y9 y10 y11 y12 y13 y14
 have zz := hb.lt
 clear hb
 exact bodyPost_ret (v := .agg #[.int .i64 n0, .int .i64 n1, .int .i64 n2, .int .i64 n3, .int .i64 n4, .int .i64 n5, .int .i64 n6, .int .i64 n7, .string n8, .string n9, .int .i64 n10, .int .i64 n11, .int .i64 n12, .int .i64 n13, .slice b14 d14 f14]) (by simp [results, Tryz.results61, go_sem, y0, y1, y2, y3, y4, y5, y6, y7, y8, y9, y10, y11, y12, y13, y14]) rfl ⟨b14, d14, f14, rfl, HO2.out, HF2.out⟩
end Go.Proofs.YtnancdbkmompdaaGreat
namespace Go.Proofs.YtnancdbkmompdaaGreat
open Go.ChangeShapes Go.WideShapes Go.ChangeAt Go.RowKit Go.Joins Go.Deep
set_option linter.unusedSimpArgs false
set_option linter.unusedVariables false
set_option maxRecDepth 100000
set_option maxHeartbeats 40000000
theorem opens_num {P : Program} {t : TypeId} (ht : P.underlying t = some (.int .i64)) : Opens P t numS := (opens_int ht).to id (fun _ _ _ h => h.1)
theorem opens_tx {P : Program} {t : TypeId} (ht : P.underlying t = some .string) : Opens P t txS := (opens_str ht).to id (fun _ _ _ h => h)
def balS : Shp Bal := pairS numS numS
def cmS : Shp Cmd8 := pairS numS (pairS numS (pairS numS (pairS txS (pairS txS (pairS numS (pairS numS numS))))))
noncomputable def atS : Shp Att := pairS numS (rowS KI idS)
noncomputable def inS : Shp Ins := pairS numS (pairS balS (pairS balS (pairS cmS atS)))
noncomputable def cfS : Shp Cfg := pairS numS (rowS KN numS)
noncomputable def snS : Shp Snp := pairS cfS (pairS (rowS KE enS) (rowS KZ seS))
noncomputable def rcS : Shp (Bool × Id3 × Ins × Snp) := pairS boolS (pairS idS (pairS inS snS))
theorem opens_en : Opens Tryz.prog 71 enS :=
 (opens_struct (P := Tryz.prog) (S := pairS txS (pairS txS numS)) Tryz.underlying71 (n := 3) (by kernel_rfl) (opensF_cons _ rfl rfl (k := 1) (by kernel_rfl) (opens_tx Tryz.underlying9) (opensF_cons _ rfl rfl (k := 1) (by kernel_rfl) (opens_tx Tryz.underlying9) (opensF_last _ rfl rfl (k := 1) (by kernel_rfl) rfl (opens_num Tryz.underlying3))))).to id (fun w cs x h => by
   obtain ⟨c1, c2, e, ⟨h1, s1⟩, d1, d2, e2, ⟨h2, s2⟩, h3⟩ := h
   subst h1 h2 h3 e2
   exact ⟨e, s1, s2⟩)
theorem opens_ints : Opens Tryz.prog 22 (rowS KN numS) := opens_row KN rfl rfl rfl (by kernel_rfl) (opens_num Tryz.underlying3)
theorem opens_strs : Opens Tryz.prog 29 (rowS KT txS) := opens_row KT rfl rfl rfl (by kernel_rfl) (opens_tx Tryz.underlying9)
theorem opens_ens : Opens Tryz.prog 25 (rowS KE enS) := opens_row KE rfl rfl rfl (by kernel_rfl) opens_en
noncomputable def rpS : Shp Rpl := pairS numS (pairS txS (pairS numS (rowS KT txS)))
theorem opens_rp : Opens Tryz.prog 73 rpS :=
 opens_struct (P := Tryz.prog) (S := rpS) Tryz.underlying73 (n := 4) (by kernel_rfl) (opensF_cons _ rfl rfl (k := 1) (by kernel_rfl) (opens_num Tryz.underlying62) (opensF_cons _ rfl rfl (k := 1) (by kernel_rfl) (opens_tx Tryz.underlying9) (opensF_cons _ rfl rfl (k := 1) (by kernel_rfl) (opens_num Tryz.underlying3) (opensF_last _ rfl rfl (k := 1) (by kernel_rfl) rfl opens_strs))))
theorem opens_se : Opens Tryz.prog 75 seS :=
 (opens_struct (P := Tryz.prog) (S := pairS numS (pairS numS rpS)) Tryz.underlying75 (n := 6) (by kernel_rfl) (opensF_cons _ rfl rfl (k := 1) (by kernel_rfl) (opens_num Tryz.underlying3) (opensF_cons _ rfl rfl (k := 1) (by kernel_rfl) (opens_num Tryz.underlying3) (opensF_last _ rfl rfl (k := 4) (by kernel_rfl) rfl opens_rp)))).to id (fun w cs x h => by
   obtain ⟨c1, c2, e, h1, d1, d2, e2, h2, e1', e2', e3, h3, f1, f2, e4, ⟨h4, s4⟩, g1, g2, e5, h5, v, rs, h6, h7⟩ := h
   subst h1 h2 h3 h4 h5 h6 e5 e4 e3 e2
   exact ⟨v, rs, e, s4, h7⟩)
theorem opens_ses : Opens Tryz.prog 26 (rowS KZ seS) := opens_row KZ rfl rfl rfl (by kernel_rfl) opens_se
theorem opens_cf : Opens Tryz.prog 24 cfS :=
 opens_struct (P := Tryz.prog) (S := cfS) Tryz.underlying24 (n := 2) (by kernel_rfl) (opensF_cons _ rfl rfl (k := 1) (by kernel_rfl) (opens_num Tryz.underlying3) (opensF_last _ rfl rfl (k := 1) (by kernel_rfl) rfl opens_ints))
theorem opens_sn : Opens Tryz.prog 28 snS :=
 opens_struct (P := Tryz.prog) (S := snS) Tryz.underlying28 (n := 4) (by kernel_rfl) (opensF_cons _ rfl rfl (k := 2) (by kernel_rfl) opens_cf (opensF_cons _ rfl rfl (k := 1) (by kernel_rfl) opens_ens (opensF_last _ rfl rfl (k := 1) (by kernel_rfl) rfl opens_ses)))
/-- The cells of an instance. -/
def inV (x : Ins) (u : Value) : List Value := [.int .i64 x.1, .int .i64 x.2.1.1, .int .i64 x.2.1.2, .int .i64 x.2.2.1.1, .int .i64 x.2.2.1.2, .int .i64 x.2.2.2.1.1, .int .i64 x.2.2.2.1.2.1, .int .i64 x.2.2.2.1.2.2.1, .string x.2.2.2.1.2.2.2.1, .string x.2.2.2.1.2.2.2.2.1, .int .i64 x.2.2.2.1.2.2.2.2.2.1, .int .i64 x.2.2.2.1.2.2.2.2.2.2.1, .int .i64 x.2.2.2.1.2.2.2.2.2.2.2, .int .i64 x.2.2.2.2.1, u]
def snV (x : Snp) (u1 u2 u3 : Value) : List Value := [.int .i64 x.1.1, u1, u2, u3]
theorem row_is {k : Nat} {K : Knd Tryz.prog (Cls k)} {α : Type} {S : Shp α} {W : World} {cs : List Value} {l : List α} (h : (rowS K S).is W cs l) : ∃ a m c rs, cs = [.slice a m c] ∧ RowIs K S W (.slice a m c) rs l := by
 obtain ⟨v, rs, e, h⟩ := h
 obtain ⟨a, c, e2⟩ := h.rd.slice
 subst e2
 exact ⟨a, _, c, rs, e, h⟩
theorem in_is {W : World} {cs : List Value} {x : Ins} (h : inS.is W cs x) : ∃ a m c rs, cs = inV x (.slice a m c) ∧ x.2.2.2.1.2.2.2.1.size ≤ maxLen ∧ x.2.2.2.1.2.2.2.2.1.size ≤ maxLen ∧ RowIs KI idS W (.slice a m c) rs x.2.2.2.2.2 := by
 obtain ⟨_, _, e0, h0, _, _, e1, ⟨_, _, p0, p1, p2⟩, _, _, e2, ⟨_, _, q0, q1, q2⟩, _, _, e3, ⟨_, _, r0, r1, _, _, s0, r2, _, _, t0, r3, _, _, u0, ⟨r4, z4⟩, _, _, v0, ⟨r5, z5⟩, _, _, w0, r6, _, _, x0, r7, r8⟩, _, _, y0, y1, hr⟩ := h
 obtain ⟨a, m, c, rs, e5, h5⟩ := row_is hr
 subst h0 p1 p2 p0 q1 q2 q0 r1 r2 r3 r4 r5 r6 r7 r8 x0 w0 v0 u0 t0 s0 r0 y1 e5 y0 e3 e2 e1
 exact ⟨a, m, c, rs, e0, z4, z5, h5⟩
theorem sn_is {W : World} {cs : List Value} {x : Snp} (h : snS.is W cs x) : ∃ a1 m1 c1 rs1 a2 m2 c2 rs2 a3 m3 c3 rs3, cs = snV x (.slice a1 m1 c1) (.slice a2 m2 c2) (.slice a3 m3 c3) ∧ RowIs KN numS W (.slice a1 m1 c1) rs1 x.1.2 ∧ RowIs KE enS W (.slice a2 m2 c2) rs2 x.2.1 ∧ RowIs KZ seS W (.slice a3 m3 c3) rs3 x.2.2 := by
 obtain ⟨_, _, e0, ⟨_, _, f0, h0, hr1⟩, _, _, e1, hr2, hr3⟩ := h
 obtain ⟨a1, m1, c1, rs1, g1, k1⟩ := row_is hr1
 obtain ⟨a2, m2, c2, rs2, g2, k2⟩ := row_is hr2
 obtain ⟨a3, m3, c3, rs3, g3, k3⟩ := row_is hr3
 subst h0 g1 g2 g3 f0 e1
 exact ⟨a1, m1, c1, rs1, a2, m2, c2, rs2, a3, m3, c3, rs3, e0, k1, k2, k3⟩
def RecIs (W : World) (v : Value) (x : Bool × Id3 × Ins × Snp) : Prop := ∃ cs, v = .agg cs ∧ rcS.is W cs.toList x
end Go.Proofs.YtnancdbkmompdaaGreat
namespace Go.Proofs.YtnancdbkmompdaaGreat
open Go.RowKit
set_option linter.unusedSimpArgs false
set_option linter.unusedVariables false
set_option maxRecDepth 100000
set_option maxHeartbeats 40000000
def VNP (w : World) (e : Ending) (w' : World) : Prop := Hid (e = .returned (.pointer (some ⟨w.heap.size, 0, none⟩))) ∧ WrV w' w.heap.size w.heap.size (.slice none 0 0) [] false ∧ Below w.heap.size w w' ∧ w'.heap.size = w.heap.size + 1
theorem vnew_any (w : World) : Calls Tryz.prog 63 #[] w (VNP w) := by
 go_enter Tryz.func63, Tryz.ntmps63
 go_wp2
 go_ret
 exact ⟨rfl, ⟨by simp, Nat.le_refl _, by simp [go_sem], by simp [go_sem], by simp [go_sem], by simp [go_sem], Own8.nil _ _, (fun k hk => by cases hk), ⟨_, _, heap_alloc_new w _⟩⟩, (Below.refl _ _).alloc (Nat.le_refl _) _, by simp⟩
/-- What a thing's bytes are, or that there are none. -/
def ByP (l : List Fd) (w : World) (e : Ending) (w' : World) : Prop := (Oks l ∧ ∃ u, Hid (e = .returned (.tuple #[u, .int .i64 0])) ∧ Own8 w' w.heap.size u (eF l) ∧ Below w.heap.size w w') ∨ (¬ Oks l ∧ Hid (e = .returned (.tuple #[.slice none 0 0, .int .i64 1])) ∧ Below w.heap.size w w')
theorem Own8.base {w : World} {b b2 : Nat} {v : Value} {xs : List Int} (h : Own8 w b v xs) (hb : b2 ≤ b) : Own8 w b2 v xs := h.le hb
def WUP (B b c : Nat) (st : Option (List Int)) (w : World) (e : Ending) (w' : World) : Prop := ∃ u, Hid (e = .returned u) ∧ WO w' B b c st ∧ Ft B b c w w'
theorem bka_new (w : World) (T : TypeId) (cs : Array Value) : (w.alloc (.cells cs T)).heap[w.heap.size]? = some (.cells cs T (0, 0)) := heap_alloc_new w _
theorem OwnR.row {k : Nat} {K : Knd Tryz.prog (Cls k)} {α : Type} {R : Rz α} {S : Shp α} {w : World} {N : Nat} {a : Option Addr} {m c : Nat} {l : List α} (h : OwnR K R w N (.slice a m c) l) (hi : ∀ (cs : List Value) (x : α), x ∈ l → R.is w N cs x → S.is w cs x) : ∃ rs, RowIs K S w (.slice a m c) rs l := by
 obtain ⟨rs, h1, h2, h3⟩ := h
 exact ⟨rs, h1.rd, h2, fun j a b => hi _ _ (List.getElem_mem b) (h3 j a b)⟩
theorem oks_flat {α : Type} {A : Cod α} {l : List α} (h : Oks ((listC A).fs l)) : ∀ x ∈ l, Oks (A.fs x) := by
 rw [listC_fs, oks_cons] at h
 intro x hx f hf
 exact h.2 f (List.mem_flatMap.2 ⟨x, hx, hf⟩)
theorem tx_max {t : ByteArray} (h : Oks (txtC.fs t)) : t.size ≤ maxLen := by
 have h1 : t.size ≤ 4096 := (oks_one _).1 h
 unfold maxLen
 omega
theorem se_row {w : World} {N : Nat} {cs : List Value} {x : Ses} (h : seR.is w N cs x) (ho : Oks (seC.fs x)) : seS.is w cs x := by
 obtain ⟨v, h1, h2⟩ := h
 simp only [seC, rpC, pairC_fs, oks_app] at ho
 obtain ⟨a, c, e⟩ := h2.slice
 subst e
 obtain ⟨rs, hr⟩ := OwnR.row (S := txS) h2 (fun cs t ht hq => ⟨hq, tx_max (oks_flat ho.2.2.2.2.2 t ht)⟩)
 exact ⟨_, rs, h1, tx_max ho.2.2.2.1, hr⟩
theorem en_row {w : World} {N : Nat} {cs : List Value} {x : Ent} (h : (plainR enE).is w N cs x) (ho : Oks (enC.fs x)) : enS.is w cs x := by
 simp only [enC, pairC_fs, oks_app] at ho
 exact ⟨h, tx_max ho.1, tx_max ho.2.1⟩
theorem rowS_mk {k : Nat} {K : Knd Tryz.prog (Cls k)} {α : Type} {S : Shp α} {w : World} {v : Value} {rs : List (Cls k)} {l : List α} (h : RowIs K S w v rs l) : (rowS K S).is w [v] l := ⟨v, rs, rfl, h⟩
theorem pairS_mk {α β : Type} {S : Shp α} {R : Shp β} {w : World} {c1 c2 : List Value} {x : α} {y : β} (h1 : S.is w c1 x) (h2 : R.is w c2 y) : (pairS S R).is w (c1 ++ c2) (x, y) := ⟨c1, c2, rfl, h1, h2⟩
theorem num_mk (w : World) (n : Int) : numS.is w [.int .i64 n] n := rfl
theorem tx_mk (w : World) (n : ByteArray) (h : n.size ≤ maxLen) : txS.is w [.string n] n := ⟨rfl, h⟩
theorem in_mk {w : World} {x : Ins} {u : Value} {rs : List (Cls 3)} (hx : x.2.2.2.1.2.2.2.1.size ≤ maxLen) (hy : x.2.2.2.1.2.2.2.2.1.size ≤ maxLen) (h : RowIs KI idS w u rs x.2.2.2.2.2) : inS.is w (inV x u) x :=
 pairS_mk (num_mk w _) (pairS_mk (pairS_mk (num_mk w _) (num_mk w _)) (pairS_mk (pairS_mk (num_mk w _) (num_mk w _)) (pairS_mk
  (pairS_mk (num_mk w _) (pairS_mk (num_mk w _) (pairS_mk (num_mk w _) (pairS_mk (tx_mk w _ hx) (pairS_mk (tx_mk w _ hy) (pairS_mk (num_mk w _) (pairS_mk (num_mk w _) (num_mk w _))))))))
  (pairS_mk (num_mk w _) (rowS_mk h)))))
theorem sn_mk {w : World} {x : Snp} {u1 u2 u3 : Value} {rs1 : List (Cls 1)} {rs2 : List (Cls 3)} {rs3 : List (Cls 6)} (h1 : RowIs KN numS w u1 rs1 x.1.2) (h2 : RowIs KE enS w u2 rs2 x.2.1) (h3 : RowIs KZ seS w u3 rs3 x.2.2) : snS.is w (snV x u1 u2 u3) x :=
 pairS_mk (pairS_mk (num_mk w _) (rowS_mk h1)) (pairS_mk (rowS_mk h2) (rowS_mk h3))
def OfU (xs : List Int) (w : World) (e : Ending) (w' : World) : Prop := ∃ b : Nat, Hid (e = .returned (.pointer (some ⟨b, 0, none⟩))) ∧ w.heap.size ≤ b ∧ RdU w' b xs 0 ∧ Below w.heap.size w w'
theorem rdu_box {w : World} {base : Nat} {a : Option Addr} {m c : Nat} {xs : List Int} {t : TypeId} (h : Own8 w base (.slice a m c) xs) (hm : xs.length = m) (hl : xs.length ≤ 1000000000) : RdU (w.alloc (.cells #[.slice a m c, .int .i64 0] t)) w.heap.size xs 0 := by
 subst hm
 obtain ⟨ad, cap, e, h1, h2⟩ := (h.bt (by omega)).row
 simp only [Value.slice.injEq] at e
 obtain ⟨rfl, _, rfl⟩ := e
 have hlt : ∀ ad, a = some ad → ad.block < w.heap.size := fun ad hq => h.lt ad.block (by subst hq; rfl)
 refine ⟨rdat_box h1 h2 hlt, fun ad n cap2 hc => ?_⟩
 have e : (w.alloc (.cells #[.slice a xs.length c, .int .i64 0] t)).cell? ⟨w.heap.size, 0, none⟩ = some (.slice a xs.length c) := by simp [go_sem]
 rw [e] at hc
 simp only [Option.some.injEq, Value.slice.injEq] at hc
 obtain ⟨cs, fr, q⟩ := h.blk ad.block (by rw [hc.1]; rfl)
 exact ⟨cs, fr, (Below.heap_alloc _ _ _ (hlt ad hc.1)).trans q⟩
theorem of_u (v : Value) (xs : List Int) (w : World) (h : Bt w v xs) (hl : xs.length ≤ 1000000000) : Calls Tryz.prog 58 #[v] w (OfU xs w) := by
 have HY := Hd h
 have hl2 : ([] : List Int).length + xs.length ≤ 100000000000 := by simp; omega
 clear h
 go_enter Tryz.func58, Tryz.ntmps58
 go_wp2_with (refine wpList_app8N rfl _ _ rfl w.heap.size (.slice none 0 0) [] rfl (Own8.nil _ _) v xs rfl HY.out hl2 (Nat.le_refl _) ?_)
 intro v2 w2 ho hg hn
 obtain ⟨a2, c2, rfl⟩ := ho.slice
 have HO := Hd ho
 have HB := Hd ((Below.refl w.heap.size w).grown hg (Nat.le_refl _) (fun k h => by cases h))
 clear ho hg hn
 go_wp2_with fail
 go_ret
 exact ⟨_, rfl, HB.out.size, rdu_box HO.out (by simp) (by simpa using hl), HB.out.alloc HB.out.size _⟩
theorem endE_ok {s : RSt} (h : endE s = 0) : s.2 = 0 ∧ s.1 = [] := by
 unfold endE at h
 by_cases q : s.2 = 0 ∧ 0 < s.1.length
 ·rw [if_pos q] at h; cases h
 ·rw [if_neg q] at h
  exact ⟨h, List.eq_nil_of_length_eq_zero (by have := fun z => q ⟨h, z⟩; omega)⟩
end Go.Proofs.YtnancdbkmompdaaGreat
