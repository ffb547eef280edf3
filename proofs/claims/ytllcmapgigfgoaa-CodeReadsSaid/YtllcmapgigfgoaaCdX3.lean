/-
  Package code: lists, and structs with lists, with a writer.
-/
import Derived.Test.YtllcmapgigfgoaaCdX2
namespace Go.Proofs.Ytllcmapgigfgoaa
open Go.RowKit
set_option linter.unusedSimpArgs false
set_option linter.unusedVariables false

def W_sn (n0 : Int) (B b c : Nat) (st : Option (List Int)) (w : World) (e : Ending) (w' : World) : Prop := ∃ (b1 : Option Addr) (d1 f1 : Nat) (b2 : Option Addr) (d2 f2 : Nat) (b3 : Option Addr) (d3 f3 : Nat), Hid (e = .returned (.agg #[.int .i64 n0, .slice b1 d1 f1, .slice b2 d2 f2, .slice b3 d3 f3])) ∧ WO w' B b c st ∧ Ft B b c w w'
set_option maxRecDepth 100000 in
set_option maxHeartbeats 40000000 in
theorem w_sn (B b c : Nat) (n0 : Int) (a1 : Option Addr) (m1 c1 : Nat) (a2 : Option Addr) (m2 c2 : Nat) (a3 : Option Addr) (m3 c3 : Nat) (rs1 : List (Cls 1)) (l1 : List Int) (rs2 : List (Cls 3)) (l2 : List Ent) (rs3 : List (Cls 6)) (l3 : List Ses) (st st' : Option (List Int)) (K : Nat) (W w : World) (h : WO w B b c st) (hW : Below W.heap.size W w) (hWB : W.heap.size ≤ B) (hE : wrs st (snC.fs ((n0, l1), l2, l3)) = st') (hK : Sh K st) (hk : K + 1058820 ≤ 20000000)  (hr1 : RowIs KN numS W (.slice a1 m1 c1) rs1 l1) (hr2 : RowIs KE enS W (.slice a2 m2 c2) rs2 l2) (hr3 : RowIs KZ seS W (.slice a3 m3 c3) rs3 l3) :
    Calls Try.prog 56 #[fW c, .agg #[.int .i64 n0, .slice a1 m1 c1, .slice a2 m2 c2, .slice a3 m3 c3]] w (W_sn n0 B b c st' w) := by
  obtain ⟨st1, he0⟩ : ∃ x, wrs st (cfC.fs (n0, l1)) = x := ⟨_, rfl⟩
  obtain ⟨st2, he1⟩ : ∃ x, wrs st1 ((listC enC).fs l2) = x := ⟨_, rfl⟩
  obtain ⟨st3, he2⟩ : ∃ x, wrs st2 ((listC seC).fs l3) = x := ⟨_, rfl⟩
  simp only [snC, pairC_fs, numC_fs, txtC_fs, wrs_app, wrs_one, he0, he1, he2] at hE
  subst hE
  have E0 := Lib.hid he0
  have E1 := Lib.hid he1
  have E2 := Lib.hid he2
  clear he0 he1 he2
  have K1 : Hid (Sh (K + 1026) st1) := Lib.hid (by rw [← E0.out]; exact ShC.cf _ _ _ hK)
  have K2 : Hid (Sh (K + 4099) st2) := Lib.hid (by rw [← E1.out]; exact (ShC.list ShC.en) _ _ _ K1.out)
  have K3 : Hid (Sh (K + 1058820) st3) := Lib.hid (by rw [← E2.out]; exact (ShC.list ShC.se) _ _ _ K2.out)
  have K0 := Lib.hid hK
  have HBW := Lib.hid hW
  have HWB := Lib.hid hWB
  have HRW1 := Lib.hid hr1
  have HRW2 := Lib.hid hr2
  have HRW3 := Lib.hid hr3
  clear hK hW hWB hr1 hr2 hr3
  have HS0 : Hid (StW w ((w.alloc (.cells #[.int .i64 n0, .slice a1 m1 c1, .slice a2 m2 c2, .slice a3 m3 c3] 42)).alloc (.cells #[.int .i64 0, .slice none 0 0, .slice none 0 0, .slice none 0 0] 42)) B b c w.heap.size 42 [.int .i64 n0, .slice a1 m1 c1, .slice a2 m2 c2, .slice a3 m3 c3] [.int .i64 0, .slice none 0 0, .slice none 0 0, .slice none 0 0] st) := Lib.hid (StW.start h 42 (by decide) [.int .i64 n0, .slice a1 m1 c1, .slice a2 m2 c2, .slice a3 m3 c3] [.int .i64 0, .slice none 0 0, .slice none 0 0, .slice none 0 0])
  have HZ := Lib.hid (show w.heap.size + 2 ≤ ((w.alloc (.cells #[.int .i64 n0, .slice a1 m1 c1, .slice a2 m2 c2, .slice a3 m3 c3] 42)).alloc (.cells #[.int .i64 0, .slice none 0 0, .slice none 0 0, .slice none 0 0] 42)).heap.size by simp)
  clear h
  have hm1 := mwnum c
  have hm2 := mwtext c
  go_enter Try.func56, Try.ntmps56
  go_wp2_with fail
  refine (w_cfg B b c n0 a1 m1 c1 rs1 l1 _ _ _ W _ HS0.out.ob (HBW.out.trans (HS0.out.ft.low.mono HWB.out)) HWB.out E0.out K0.out (by omega)  HRW1.out).mono ?_
  rintro e w1 ⟨b1, d1, f1, he, h1, h2⟩
  rw [he.out]
  clear he
  have hc := HS0.out.call h1 h2
  have hb := hc.bx
  have y0 := hb.cell 0
  have y1 := hb.cell 1
  have y2 := hb.cell 2
  have y3 := hb.cell 3
  simp only [List.getElem?_cons_zero, List.getElem?_cons_succ] at y0 y1 y2 y3
  have z0 := hb.fz 0
  have z1 := hb.fz 1
  have zz := hb.lt
  have HS1 : Hid (StW w ((w1.setCell ⟨w.heap.size, 0, none⟩ (.int .i64 n0)).setCell ⟨w.heap.size, 1, none⟩ (.slice b1 d1 f1)) B b c w.heap.size 42 [.int .i64 n0, .slice b1 d1 f1, .slice a2 m2 c2, .slice a3 m3 c3] [.int .i64 0, .slice none 0 0, .slice none 0 0, .slice none 0 0] st1) := Lib.hid (hc.store 0 [.int .i64 n0, .slice b1 d1 f1])
  clear hc hb h2 h1 HS0
  go_wp2_with fail
  refine (w_lent B b c _ _ _ W _ _ _ _ HS1.out.ob HRW2.out (HBW.out.trans (HS1.out.ft.low.mono HWB.out)) HWB.out E1.out K1.out (by omega)).mono ?_
  rintro e w2 ⟨b2, d2, f2, he, h1, h2⟩
  rw [he.out]
  clear he y0 y1 y2 y3 z0 z1 zz
  have hc := HS1.out.call h1 h2
  have hb := hc.bx
  have y0 := hb.cell 0
  have y1 := hb.cell 1
  have y2 := hb.cell 2
  have y3 := hb.cell 3
  simp only [List.getElem?_cons_zero, List.getElem?_cons_succ] at y0 y1 y2 y3
  have z2 := hb.fz 2
  have zz := hb.lt
  have HS2 : Hid (StW w (w2.setCell ⟨w.heap.size, 2, none⟩ (.slice b2 d2 f2)) B b c w.heap.size 42 [.int .i64 n0, .slice b1 d1 f1, .slice b2 d2 f2, .slice a3 m3 c3] [.int .i64 0, .slice none 0 0, .slice none 0 0, .slice none 0 0] st2) := Lib.hid (hc.store 2 [.slice b2 d2 f2])
  clear hc hb h2 h1 HS1
  go_wp2_with fail
  refine (w_lses B b c _ _ _ W _ _ _ _ HS2.out.ob HRW3.out (HBW.out.trans (HS2.out.ft.low.mono HWB.out)) HWB.out E2.out K2.out (by omega)).mono ?_
  rintro e w3 ⟨b3, d3, f3, he, h1, h2⟩
  rw [he.out]
  clear he y0 y1 y2 y3 z2 zz
  have hc := HS2.out.call h1 h2
  have hb := hc.bx
  have y0 := hb.cell 0
  have y1 := hb.cell 1
  have y2 := hb.cell 2
  have y3 := hb.cell 3
  simp only [List.getElem?_cons_zero, List.getElem?_cons_succ] at y0 y1 y2 y3
  have z3 := hb.fz 3
  have zz := hb.lt
  have hr := hc.rs
  have x0 := hr.cell 0
  have x1 := hr.cell 1
  have x2 := hr.cell 2
  have x3 := hr.cell 3
  simp only [List.getElem?_cons_zero, List.getElem?_cons_succ] at x0 x1 x2 x3
  have u0 := hr.fz 0
  have u1 := hr.fz 1
  have u2 := hr.fz 2
  have u3 := hr.fz 3
  have zr := hr.lt
  clear hr
  have HS3 : Hid (StW w (w3.setCell ⟨w.heap.size, 3, none⟩ (.slice b3 d3 f3)) B b c w.heap.size 42 [.int .i64 n0, .slice b1 d1 f1, .slice b2 d2 f2, .slice b3 d3 f3] [.int .i64 0, .slice none 0 0, .slice none 0 0, .slice none 0 0] st3) := Lib.hid (hc.store 3 [.slice b3 d3 f3])
  clear hc hb h2 h1 HS2
  go_wp2_with fail
  have HR : Hid (_ ∧ _) := Lib.hid (HS3.out.toStB.result [.int .i64 n0, .slice b1 d1 f1, .slice b2 d2 f2, .slice b3 d3 f3])
  have HO := Lib.hid (HS3.out.result [.int .i64 n0, .slice b1 d1 f1, .slice b2 d2 f2, .slice b3 d3 f3])
  have hb : Bk (((((w3.setCell ⟨w.heap.size, 3, none⟩ (.slice b3 d3 f3)).setCell ⟨(w.heap.size + 1), 0, none⟩ (.int .i64 n0)).setCell ⟨(w.heap.size + 1), 1, none⟩ (.slice b1 d1 f1)).setCell ⟨(w.heap.size + 1), 2, none⟩ (.slice b2 d2 f2)).setCell ⟨(w.heap.size + 1), 3, none⟩ (.slice b3 d3 f3)) (w.heap.size + 1) 42 [.int .i64 n0, .slice b1 d1 f1, .slice b2 d2 f2, .slice b3 d3 f3] := HR.out.1
  obtain ⟨wf, hwf⟩ : ∃ x, (((((w3.setCell ⟨w.heap.size, 3, none⟩ (.slice b3 d3 f3)).setCell ⟨(w.heap.size + 1), 0, none⟩ (.int .i64 n0)).setCell ⟨(w.heap.size + 1), 1, none⟩ (.slice b1 d1 f1)).setCell ⟨(w.heap.size + 1), 2, none⟩ (.slice b2 d2 f2)).setCell ⟨(w.heap.size + 1), 3, none⟩ (.slice b3 d3 f3)) = x := ⟨_, rfl⟩
  have HO2 : Hid (WO wf B b c st3) := Lib.hid (by rw [← hwf]; exact HO.out)
  have HF2 : Hid (Ft B b c w wf) := Lib.hid (by rw [← hwf]; exact HR.out.2)
  rw [hwf] at hb ⊢
  clear hwf HR HO y0 y1 y2 y3 z3 zz x0 u0 x1 u1 x2 u2 x3 u3 zr
  have y0 := hb.cell 0
  have y1 := hb.cell 1
  have y2 := hb.cell 2
  have y3 := hb.cell 3
  simp only [List.getElem?_cons_zero, List.getElem?_cons_succ] at y0 y1 y2 y3
  have zz := hb.lt
  clear hb
  exact bodyPost_ret (v := .agg #[.int .i64 n0, .slice b1 d1 f1, .slice b2 d2 f2, .slice b3 d3 f3]) (by simp [results, Try.results56, go_sem, y0, y1, y2, y3]) rfl ⟨b1, d1, f1, b2, d2, f2, b3, d3, f3, rfl, HO2.out, HF2.out⟩
def W_ins (n0 : Int) (n1 : Int) (n2 : Int) (n3 : Int) (n4 : Int) (n5 : Int) (n6 : Int) (n7 : Int) (n8 : ByteArray) (n9 : ByteArray) (n10 : Int) (n11 : Int) (n12 : Int) (n13 : Int) (B b c : Nat) (st : Option (List Int)) (w : World) (e : Ending) (w' : World) : Prop := ∃ (b14 : Option Addr) (d14 f14 : Nat), Hid (e = .returned (.agg #[.int .i64 n0, .int .i64 n1, .int .i64 n2, .int .i64 n3, .int .i64 n4, .int .i64 n5, .int .i64 n6, .int .i64 n7, .string n8, .string n9, .int .i64 n10, .int .i64 n11, .int .i64 n12, .int .i64 n13, .slice b14 d14 f14])) ∧ WO w' B b c st ∧ Ft B b c w w'
set_option maxRecDepth 100000 in
set_option maxHeartbeats 40000000 in
theorem w_ins (B b c : Nat) (n0 : Int) (n1 : Int) (n2 : Int) (n3 : Int) (n4 : Int) (n5 : Int) (n6 : Int) (n7 : Int) (n8 : ByteArray) (n9 : ByteArray) (n10 : Int) (n11 : Int) (n12 : Int) (n13 : Int) (a14 : Option Addr) (m14 c14 : Nat) (rs14 : List (Cls 3)) (l14 : List Id3) (st st' : Option (List Int)) (K : Nat) (W w : World) (h : WO w B b c st) (hW : Below W.heap.size W w) (hWB : W.heap.size ≤ B) (hE : wrs st (inC.fs (n0, (n1, n2), (n3, n4), (n5, n6, n7, n8, n9, n10, n11, n12), (n13, l14))) = st') (hK : Sh K st) (hk : K + 3087 ≤ 20000000) (hs8 : n8.size ≤ 9223372036854775807) (hs9 : n9.size ≤ 9223372036854775807) (hr14 : RowIs KI idS W (.slice a14 m14 c14) rs14 l14) :
    Calls Try.prog 55 #[fW c, .agg #[.int .i64 n0, .int .i64 n1, .int .i64 n2, .int .i64 n3, .int .i64 n4, .int .i64 n5, .int .i64 n6, .int .i64 n7, .string n8, .string n9, .int .i64 n10, .int .i64 n11, .int .i64 n12, .int .i64 n13, .slice a14 m14 c14]] w (W_ins n0 n1 n2 n3 n4 n5 n6 n7 n8 n9 n10 n11 n12 n13 B b c st' w) := by
  obtain ⟨st1, he0⟩ : ∃ x, wr1 st (.num n0) = x := ⟨_, rfl⟩
  obtain ⟨st2, he1⟩ : ∃ x, wrs st1 (balC.fs (n1, n2)) = x := ⟨_, rfl⟩
  obtain ⟨st3, he2⟩ : ∃ x, wrs st2 (balC.fs (n3, n4)) = x := ⟨_, rfl⟩
  obtain ⟨st4, he3⟩ : ∃ x, wrs st3 (cmC.fs (n5, n6, n7, n8, n9, n10, n11, n12)) = x := ⟨_, rfl⟩
  obtain ⟨st5, he4⟩ : ∃ x, wrs st4 (atC.fs (n13, l14)) = x := ⟨_, rfl⟩
  simp only [inC, pairC_fs, numC_fs, txtC_fs, wrs_app, wrs_one, he0, he1, he2, he3, he4] at hE
  subst hE
  have E0 := Lib.hid he0
  have E1 := Lib.hid he1
  have E2 := Lib.hid he2
  have E3 := Lib.hid he3
  have E4 := Lib.hid he4
  clear he0 he1 he2 he3 he4
  have K1 : Hid (Sh (K + 1) st1) := Lib.hid (by rw [← E0.out]; exact Sh.one hK _)
  have K2 : Hid (Sh (K + 3) st2) := Lib.hid (by rw [← E1.out]; exact ShC.bal _ _ _ K1.out)
  have K3 : Hid (Sh (K + 5) st3) := Lib.hid (by rw [← E2.out]; exact ShC.bal _ _ _ K2.out)
  have K4 : Hid (Sh (K + 13) st4) := Lib.hid (by rw [← E3.out]; exact ShC.cm _ _ _ K3.out)
  have K5 : Hid (Sh (K + 3087) st5) := Lib.hid (by rw [← E4.out]; exact ShC.att _ _ _ K4.out)
  have K0 := Lib.hid hK
  have HBW := Lib.hid hW
  have HWB := Lib.hid hWB
  have HRW14 := Lib.hid hr14
  clear hK hW hWB hr14
  have HS0 : Hid (StW w ((w.alloc (.cells #[.int .i64 n0, .int .i64 n1, .int .i64 n2, .int .i64 n3, .int .i64 n4, .int .i64 n5, .int .i64 n6, .int .i64 n7, .string n8, .string n9, .int .i64 n10, .int .i64 n11, .int .i64 n12, .int .i64 n13, .slice a14 m14 c14] 35)).alloc (.cells #[.int .i64 0, .int .i64 0, .int .i64 0, .int .i64 0, .int .i64 0, .int .i64 0, .int .i64 0, .int .i64 0, .string ⟨#[]⟩, .string ⟨#[]⟩, .int .i64 0, .int .i64 0, .int .i64 0, .int .i64 0, .slice none 0 0] 35)) B b c w.heap.size 35 [.int .i64 n0, .int .i64 n1, .int .i64 n2, .int .i64 n3, .int .i64 n4, .int .i64 n5, .int .i64 n6, .int .i64 n7, .string n8, .string n9, .int .i64 n10, .int .i64 n11, .int .i64 n12, .int .i64 n13, .slice a14 m14 c14] [.int .i64 0, .int .i64 0, .int .i64 0, .int .i64 0, .int .i64 0, .int .i64 0, .int .i64 0, .int .i64 0, .string ⟨#[]⟩, .string ⟨#[]⟩, .int .i64 0, .int .i64 0, .int .i64 0, .int .i64 0, .slice none 0 0] st) := Lib.hid (StW.start h 35 (by decide) [.int .i64 n0, .int .i64 n1, .int .i64 n2, .int .i64 n3, .int .i64 n4, .int .i64 n5, .int .i64 n6, .int .i64 n7, .string n8, .string n9, .int .i64 n10, .int .i64 n11, .int .i64 n12, .int .i64 n13, .slice a14 m14 c14] [.int .i64 0, .int .i64 0, .int .i64 0, .int .i64 0, .int .i64 0, .int .i64 0, .int .i64 0, .int .i64 0, .string ⟨#[]⟩, .string ⟨#[]⟩, .int .i64 0, .int .i64 0, .int .i64 0, .int .i64 0, .slice none 0 0])
  have HZ := Lib.hid (show w.heap.size + 2 ≤ ((w.alloc (.cells #[.int .i64 n0, .int .i64 n1, .int .i64 n2, .int .i64 n3, .int .i64 n4, .int .i64 n5, .int .i64 n6, .int .i64 n7, .string n8, .string n9, .int .i64 n10, .int .i64 n11, .int .i64 n12, .int .i64 n13, .slice a14 m14 c14] 35)).alloc (.cells #[.int .i64 0, .int .i64 0, .int .i64 0, .int .i64 0, .int .i64 0, .int .i64 0, .int .i64 0, .int .i64 0, .string ⟨#[]⟩, .string ⟨#[]⟩, .int .i64 0, .int .i64 0, .int .i64 0, .int .i64 0, .slice none 0 0] 35)).heap.size by simp)
  clear h
  have hm1 := mwnum c
  have hm2 := mwtext c
  go_enter Try.func55, Try.ntmps55
  go_wp2_with fail
  refine (w_nstat B b c n0 _ _ HS0.out.ob (K0.out.max (by omega))).mono ?_
  rw [E0.out]
  rintro e w1 ⟨he, h1, h2⟩
  rw [he.out]
  clear he
  have hc := HS0.out.call h1 h2
  have hb := hc.bx
  have y0 := hb.cell 0
  have y1 := hb.cell 1
  have y2 := hb.cell 2
  have y3 := hb.cell 3
  have y4 := hb.cell 4
  have y5 := hb.cell 5
  have y6 := hb.cell 6
  have y7 := hb.cell 7
  have y8 := hb.cell 8
  have y9 := hb.cell 9
  have y10 := hb.cell 10
  have y11 := hb.cell 11
  have y12 := hb.cell 12
  have y13 := hb.cell 13
  have y14 := hb.cell 14
  simp only [List.getElem?_cons_zero, List.getElem?_cons_succ] at y0 y1 y2 y3 y4 y5 y6 y7 y8 y9 y10 y11 y12 y13 y14
  have z0 := hb.fz 0
  have zz := hb.lt
  have HS1 : Hid (StW w (w1.setCell ⟨w.heap.size, 0, none⟩ (.int .i64 n0)) B b c w.heap.size 35 [.int .i64 n0, .int .i64 n1, .int .i64 n2, .int .i64 n3, .int .i64 n4, .int .i64 n5, .int .i64 n6, .int .i64 n7, .string n8, .string n9, .int .i64 n10, .int .i64 n11, .int .i64 n12, .int .i64 n13, .slice a14 m14 c14] [.int .i64 0, .int .i64 0, .int .i64 0, .int .i64 0, .int .i64 0, .int .i64 0, .int .i64 0, .int .i64 0, .string ⟨#[]⟩, .string ⟨#[]⟩, .int .i64 0, .int .i64 0, .int .i64 0, .int .i64 0, .slice none 0 0] st1) := Lib.hid (hc.store 0 [.int .i64 n0])
  clear hc hb h2 h1 HS0
  go_wp2_with fail
  refine (w_bal B b c n1 n2 _ _ _ _ HS1.out.ob E1.out K1.out (by omega) ).mono ?_
  rintro e w2 ⟨he, h1, h2⟩
  rw [he.out]
  clear he y0 y1 y2 y3 y4 y5 y6 y7 y8 y9 y10 y11 y12 y13 y14 z0 zz
  have hc := HS1.out.call h1 h2
  have hb := hc.bx
  have y0 := hb.cell 0
  have y1 := hb.cell 1
  have y2 := hb.cell 2
  have y3 := hb.cell 3
  have y4 := hb.cell 4
  have y5 := hb.cell 5
  have y6 := hb.cell 6
  have y7 := hb.cell 7
  have y8 := hb.cell 8
  have y9 := hb.cell 9
  have y10 := hb.cell 10
  have y11 := hb.cell 11
  have y12 := hb.cell 12
  have y13 := hb.cell 13
  have y14 := hb.cell 14
  simp only [List.getElem?_cons_zero, List.getElem?_cons_succ] at y0 y1 y2 y3 y4 y5 y6 y7 y8 y9 y10 y11 y12 y13 y14
  have z1 := hb.fz 1
  have z2 := hb.fz 2
  have zz := hb.lt
  have HS2 : Hid (StW w ((w2.setCell ⟨w.heap.size, 1, none⟩ (.int .i64 n1)).setCell ⟨w.heap.size, 2, none⟩ (.int .i64 n2)) B b c w.heap.size 35 [.int .i64 n0, .int .i64 n1, .int .i64 n2, .int .i64 n3, .int .i64 n4, .int .i64 n5, .int .i64 n6, .int .i64 n7, .string n8, .string n9, .int .i64 n10, .int .i64 n11, .int .i64 n12, .int .i64 n13, .slice a14 m14 c14] [.int .i64 0, .int .i64 0, .int .i64 0, .int .i64 0, .int .i64 0, .int .i64 0, .int .i64 0, .int .i64 0, .string ⟨#[]⟩, .string ⟨#[]⟩, .int .i64 0, .int .i64 0, .int .i64 0, .int .i64 0, .slice none 0 0] st2) := Lib.hid (hc.store 1 [.int .i64 n1, .int .i64 n2])
  clear hc hb h2 h1 HS1
  go_wp2_with fail
  refine (w_bal B b c n3 n4 _ _ _ _ HS2.out.ob E2.out K2.out (by omega) ).mono ?_
  rintro e w3 ⟨he, h1, h2⟩
  rw [he.out]
  clear he y0 y1 y2 y3 y4 y5 y6 y7 y8 y9 y10 y11 y12 y13 y14 z1 z2 zz
  have hc := HS2.out.call h1 h2
  have hb := hc.bx
  have y0 := hb.cell 0
  have y1 := hb.cell 1
  have y2 := hb.cell 2
  have y3 := hb.cell 3
  have y4 := hb.cell 4
  have y5 := hb.cell 5
  have y6 := hb.cell 6
  have y7 := hb.cell 7
  have y8 := hb.cell 8
  have y9 := hb.cell 9
  have y10 := hb.cell 10
  have y11 := hb.cell 11
  have y12 := hb.cell 12
  have y13 := hb.cell 13
  have y14 := hb.cell 14
  simp only [List.getElem?_cons_zero, List.getElem?_cons_succ] at y0 y1 y2 y3 y4 y5 y6 y7 y8 y9 y10 y11 y12 y13 y14
  have z3 := hb.fz 3
  have z4 := hb.fz 4
  have zz := hb.lt
  have HS3 : Hid (StW w ((w3.setCell ⟨w.heap.size, 3, none⟩ (.int .i64 n3)).setCell ⟨w.heap.size, 4, none⟩ (.int .i64 n4)) B b c w.heap.size 35 [.int .i64 n0, .int .i64 n1, .int .i64 n2, .int .i64 n3, .int .i64 n4, .int .i64 n5, .int .i64 n6, .int .i64 n7, .string n8, .string n9, .int .i64 n10, .int .i64 n11, .int .i64 n12, .int .i64 n13, .slice a14 m14 c14] [.int .i64 0, .int .i64 0, .int .i64 0, .int .i64 0, .int .i64 0, .int .i64 0, .int .i64 0, .int .i64 0, .string ⟨#[]⟩, .string ⟨#[]⟩, .int .i64 0, .int .i64 0, .int .i64 0, .int .i64 0, .slice none 0 0] st3) := Lib.hid (hc.store 3 [.int .i64 n3, .int .i64 n4])
  clear hc hb h2 h1 HS2
  go_wp2_with fail
  refine (w_cmd B b c n5 n6 n7 n8 n9 n10 n11 n12 _ _ _ _ HS3.out.ob E3.out K3.out (by omega) hs8 hs9).mono ?_
  rintro e w4 ⟨he, h1, h2⟩
  rw [he.out]
  clear he y0 y1 y2 y3 y4 y5 y6 y7 y8 y9 y10 y11 y12 y13 y14 z3 z4 zz
  have hc := HS3.out.call h1 h2
  have hb := hc.bx
  have y0 := hb.cell 0
  have y1 := hb.cell 1
  have y2 := hb.cell 2
  have y3 := hb.cell 3
  have y4 := hb.cell 4
  have y5 := hb.cell 5
  have y6 := hb.cell 6
  have y7 := hb.cell 7
  have y8 := hb.cell 8
  have y9 := hb.cell 9
  have y10 := hb.cell 10
  have y11 := hb.cell 11
  have y12 := hb.cell 12
  have y13 := hb.cell 13
  have y14 := hb.cell 14
  simp only [List.getElem?_cons_zero, List.getElem?_cons_succ] at y0 y1 y2 y3 y4 y5 y6 y7 y8 y9 y10 y11 y12 y13 y14
  have z5 := hb.fz 5
  have z6 := hb.fz 6
  have z7 := hb.fz 7
  have z8 := hb.fz 8
  have z9 := hb.fz 9
  have z10 := hb.fz 10
  have z11 := hb.fz 11
  have z12 := hb.fz 12
  have zz := hb.lt
  have HS4 : Hid (StW w ((((((((w4.setCell ⟨w.heap.size, 5, none⟩ (.int .i64 n5)).setCell ⟨w.heap.size, 6, none⟩ (.int .i64 n6)).setCell ⟨w.heap.size, 7, none⟩ (.int .i64 n7)).setCell ⟨w.heap.size, 8, none⟩ (.string n8)).setCell ⟨w.heap.size, 9, none⟩ (.string n9)).setCell ⟨w.heap.size, 10, none⟩ (.int .i64 n10)).setCell ⟨w.heap.size, 11, none⟩ (.int .i64 n11)).setCell ⟨w.heap.size, 12, none⟩ (.int .i64 n12)) B b c w.heap.size 35 [.int .i64 n0, .int .i64 n1, .int .i64 n2, .int .i64 n3, .int .i64 n4, .int .i64 n5, .int .i64 n6, .int .i64 n7, .string n8, .string n9, .int .i64 n10, .int .i64 n11, .int .i64 n12, .int .i64 n13, .slice a14 m14 c14] [.int .i64 0, .int .i64 0, .int .i64 0, .int .i64 0, .int .i64 0, .int .i64 0, .int .i64 0, .int .i64 0, .string ⟨#[]⟩, .string ⟨#[]⟩, .int .i64 0, .int .i64 0, .int .i64 0, .int .i64 0, .slice none 0 0] st4) := Lib.hid (hc.store 5 [.int .i64 n5, .int .i64 n6, .int .i64 n7, .string n8, .string n9, .int .i64 n10, .int .i64 n11, .int .i64 n12])
  clear hc hb h2 h1 HS3
  go_wp2_with fail
  refine (w_att B b c n13 a14 m14 c14 rs14 l14 _ _ _ W _ HS4.out.ob (HBW.out.trans (HS4.out.ft.low.mono HWB.out)) HWB.out E4.out K4.out (by omega)  HRW14.out).mono ?_
  rintro e w5 ⟨b14, d14, f14, he, h1, h2⟩
  rw [he.out]
  clear he y0 y1 y2 y3 y4 y5 y6 y7 y8 y9 y10 y11 y12 y13 y14 z5 z6 z7 z8 z9 z10 z11 z12 zz
  have hc := HS4.out.call h1 h2
  have hb := hc.bx
  have y0 := hb.cell 0
  have y1 := hb.cell 1
  have y2 := hb.cell 2
  have y3 := hb.cell 3
  have y4 := hb.cell 4
  have y5 := hb.cell 5
  have y6 := hb.cell 6
  have y7 := hb.cell 7
  have y8 := hb.cell 8
  have y9 := hb.cell 9
  have y10 := hb.cell 10
  have y11 := hb.cell 11
  have y12 := hb.cell 12
  have y13 := hb.cell 13
  have y14 := hb.cell 14
  simp only [List.getElem?_cons_zero, List.getElem?_cons_succ] at y0 y1 y2 y3 y4 y5 y6 y7 y8 y9 y10 y11 y12 y13 y14
  have z13 := hb.fz 13
  have z14 := hb.fz 14
  have zz := hb.lt
  have hr := hc.rs
  have x0 := hr.cell 0
  have x1 := hr.cell 1
  have x2 := hr.cell 2
  have x3 := hr.cell 3
  have x4 := hr.cell 4
  have x5 := hr.cell 5
  have x6 := hr.cell 6
  have x7 := hr.cell 7
  have x8 := hr.cell 8
  have x9 := hr.cell 9
  have x10 := hr.cell 10
  have x11 := hr.cell 11
  have x12 := hr.cell 12
  have x13 := hr.cell 13
  have x14 := hr.cell 14
  simp only [List.getElem?_cons_zero, List.getElem?_cons_succ] at x0 x1 x2 x3 x4 x5 x6 x7 x8 x9 x10 x11 x12 x13 x14
  have u0 := hr.fz 0
  have u1 := hr.fz 1
  have u2 := hr.fz 2
  have u3 := hr.fz 3
  have u4 := hr.fz 4
  have u5 := hr.fz 5
  have u6 := hr.fz 6
  have u7 := hr.fz 7
  have u8 := hr.fz 8
  have u9 := hr.fz 9
  have u10 := hr.fz 10
  have u11 := hr.fz 11
  have u12 := hr.fz 12
  have u13 := hr.fz 13
  have u14 := hr.fz 14
  have zr := hr.lt
  clear hr
  have HS5 : Hid (StW w ((w5.setCell ⟨w.heap.size, 13, none⟩ (.int .i64 n13)).setCell ⟨w.heap.size, 14, none⟩ (.slice b14 d14 f14)) B b c w.heap.size 35 [.int .i64 n0, .int .i64 n1, .int .i64 n2, .int .i64 n3, .int .i64 n4, .int .i64 n5, .int .i64 n6, .int .i64 n7, .string n8, .string n9, .int .i64 n10, .int .i64 n11, .int .i64 n12, .int .i64 n13, .slice b14 d14 f14] [.int .i64 0, .int .i64 0, .int .i64 0, .int .i64 0, .int .i64 0, .int .i64 0, .int .i64 0, .int .i64 0, .string ⟨#[]⟩, .string ⟨#[]⟩, .int .i64 0, .int .i64 0, .int .i64 0, .int .i64 0, .slice none 0 0] st5) := Lib.hid (hc.store 13 [.int .i64 n13, .slice b14 d14 f14])
  clear hc hb h2 h1 HS4
  go_wp2_with fail
  have HR : Hid (_ ∧ _) := Lib.hid (HS5.out.toStB.result [.int .i64 n0, .int .i64 n1, .int .i64 n2, .int .i64 n3, .int .i64 n4, .int .i64 n5, .int .i64 n6, .int .i64 n7, .string n8, .string n9, .int .i64 n10, .int .i64 n11, .int .i64 n12, .int .i64 n13, .slice b14 d14 f14])
  have HO := Lib.hid (HS5.out.result [.int .i64 n0, .int .i64 n1, .int .i64 n2, .int .i64 n3, .int .i64 n4, .int .i64 n5, .int .i64 n6, .int .i64 n7, .string n8, .string n9, .int .i64 n10, .int .i64 n11, .int .i64 n12, .int .i64 n13, .slice b14 d14 f14])
  have hb : Bk (((((((((((((((((w5.setCell ⟨w.heap.size, 13, none⟩ (.int .i64 n13)).setCell ⟨w.heap.size, 14, none⟩ (.slice b14 d14 f14)).setCell ⟨(w.heap.size + 1), 0, none⟩ (.int .i64 n0)).setCell ⟨(w.heap.size + 1), 1, none⟩ (.int .i64 n1)).setCell ⟨(w.heap.size + 1), 2, none⟩ (.int .i64 n2)).setCell ⟨(w.heap.size + 1), 3, none⟩ (.int .i64 n3)).setCell ⟨(w.heap.size + 1), 4, none⟩ (.int .i64 n4)).setCell ⟨(w.heap.size + 1), 5, none⟩ (.int .i64 n5)).setCell ⟨(w.heap.size + 1), 6, none⟩ (.int .i64 n6)).setCell ⟨(w.heap.size + 1), 7, none⟩ (.int .i64 n7)).setCell ⟨(w.heap.size + 1), 8, none⟩ (.string n8)).setCell ⟨(w.heap.size + 1), 9, none⟩ (.string n9)).setCell ⟨(w.heap.size + 1), 10, none⟩ (.int .i64 n10)).setCell ⟨(w.heap.size + 1), 11, none⟩ (.int .i64 n11)).setCell ⟨(w.heap.size + 1), 12, none⟩ (.int .i64 n12)).setCell ⟨(w.heap.size + 1), 13, none⟩ (.int .i64 n13)).setCell ⟨(w.heap.size + 1), 14, none⟩ (.slice b14 d14 f14)) (w.heap.size + 1) 35 [.int .i64 n0, .int .i64 n1, .int .i64 n2, .int .i64 n3, .int .i64 n4, .int .i64 n5, .int .i64 n6, .int .i64 n7, .string n8, .string n9, .int .i64 n10, .int .i64 n11, .int .i64 n12, .int .i64 n13, .slice b14 d14 f14] := HR.out.1
  obtain ⟨wf, hwf⟩ : ∃ x, (((((((((((((((((w5.setCell ⟨w.heap.size, 13, none⟩ (.int .i64 n13)).setCell ⟨w.heap.size, 14, none⟩ (.slice b14 d14 f14)).setCell ⟨(w.heap.size + 1), 0, none⟩ (.int .i64 n0)).setCell ⟨(w.heap.size + 1), 1, none⟩ (.int .i64 n1)).setCell ⟨(w.heap.size + 1), 2, none⟩ (.int .i64 n2)).setCell ⟨(w.heap.size + 1), 3, none⟩ (.int .i64 n3)).setCell ⟨(w.heap.size + 1), 4, none⟩ (.int .i64 n4)).setCell ⟨(w.heap.size + 1), 5, none⟩ (.int .i64 n5)).setCell ⟨(w.heap.size + 1), 6, none⟩ (.int .i64 n6)).setCell ⟨(w.heap.size + 1), 7, none⟩ (.int .i64 n7)).setCell ⟨(w.heap.size + 1), 8, none⟩ (.string n8)).setCell ⟨(w.heap.size + 1), 9, none⟩ (.string n9)).setCell ⟨(w.heap.size + 1), 10, none⟩ (.int .i64 n10)).setCell ⟨(w.heap.size + 1), 11, none⟩ (.int .i64 n11)).setCell ⟨(w.heap.size + 1), 12, none⟩ (.int .i64 n12)).setCell ⟨(w.heap.size + 1), 13, none⟩ (.int .i64 n13)).setCell ⟨(w.heap.size + 1), 14, none⟩ (.slice b14 d14 f14)) = x := ⟨_, rfl⟩
  have HO2 : Hid (WO wf B b c st5) := Lib.hid (by rw [← hwf]; exact HO.out)
  have HF2 : Hid (Ft B b c w wf) := Lib.hid (by rw [← hwf]; exact HR.out.2)
  rw [hwf] at hb ⊢
  clear hwf HR HO y0 y1 y2 y3 y4 y5 y6 y7 y8 y9 y10 y11 y12 y13 y14 z13 z14 zz x0 u0 x1 u1 x2 u2 x3 u3 x4 u4 x5 u5 x6 u6 x7 u7 x8 u8 x9 u9 x10 u10 x11 u11 x12 u12 x13 u13 x14 u14 zr
  have y0 := hb.cell 0
  have y1 := hb.cell 1
  have y2 := hb.cell 2
  have y3 := hb.cell 3
  have y4 := hb.cell 4
  have y5 := hb.cell 5
  have y6 := hb.cell 6
  have y7 := hb.cell 7
  have y8 := hb.cell 8
  have y9 := hb.cell 9
  have y10 := hb.cell 10
  have y11 := hb.cell 11
  have y12 := hb.cell 12
  have y13 := hb.cell 13
  have y14 := hb.cell 14
  simp only [List.getElem?_cons_zero, List.getElem?_cons_succ] at y0 y1 y2 y3 y4 y5 y6 y7 y8 y9 y10 y11 y12 y13 y14
  have zz := hb.lt
  clear hb
  exact bodyPost_ret (v := .agg #[.int .i64 n0, .int .i64 n1, .int .i64 n2, .int .i64 n3, .int .i64 n4, .int .i64 n5, .int .i64 n6, .int .i64 n7, .string n8, .string n9, .int .i64 n10, .int .i64 n11, .int .i64 n12, .int .i64 n13, .slice b14 d14 f14]) (by simp [results, Try.results55, go_sem, y0, y1, y2, y3, y4, y5, y6, y7, y8, y9, y10, y11, y12, y13, y14]) rfl ⟨b14, d14, f14, rfl, HO2.out, HF2.out⟩
end Go.Proofs.Ytllcmapgigfgoaa
