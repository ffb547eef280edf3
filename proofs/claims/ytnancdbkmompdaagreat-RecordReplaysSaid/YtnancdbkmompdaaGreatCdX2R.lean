/-
 Package code: lists, and structs with lists, with a writer.
-/
import Derived.Test.YtnancdbkmompdaaGreatRY
import Derived.Test.YtnancdbkmompdaaGreatCdX1R
namespace Go.Proofs.YtnancdbkmompdaaGreat
open Go.RowKit
set_option linter.unusedSimpArgs false
set_option linter.unusedVariables false
set_option maxRecDepth 100000
set_option maxHeartbeats 40000000
def W_att (n0 : Int) (B b c : Nat) (st : Option (List Int)) (w : World) (e : Ending) (w' : World) : Prop := ∃ (b1 : Option Addr) (d1 f1 : Nat), Hid (e = .returned (.agg #[.int .i64 n0, .slice b1 d1 f1])) ∧ WO w' B b c st ∧ Ft B b c w w'
theorem w_att (B b c : Nat) (n0 : Int) (a1 : Option Addr) (m1 c1 : Nat) (rs1 : List (Cls 3)) (l1 : List Id3) (st st' : Option (List Int)) (K : Nat) (W w : World) (h : WO w B b c st) (hW : Below W.heap.size W w) (hWB : W.heap.size ≤ B) (hE : wrs st (atC.fs (n0, l1)) = st') (hK : Sh K st) (hk : K + 3074 ≤ 20000000)  (hr1 : RowIs KI idS W (.slice a1 m1 c1) rs1 l1) :
  Calls Tryz.prog 82 #[fW c, .agg #[.int .i64 n0, .slice a1 m1 c1]] w (W_att n0 B b c st' w) := by
 obtain ⟨st1, he0⟩ : ∃ x, wr1 st (.num n0) = x := ⟨_, rfl⟩
 obtain ⟨st2, he1⟩ : ∃ x, wrs st1 ((listC idC).fs l1) = x := ⟨_, rfl⟩
 simp only [atC, pairC_fs, numC_fs, txtC_fs, wrs_app, wrs_one, he0, he1] at hE
 subst hE
 have E0 := Hd he0
 have E1 := Hd he1
 clear he0 he1
 have K1 : Hid (Sh (K + 1) st1) := Hd (by rw [← E0.out]; exact Sh.one hK _)
 have K2 : Hid (Sh (K + 3074) st2) := Hd (by rw [← E1.out]; exact (ShC.list ShC.id) _ _ _ K1.out)
 have K0 := Hd hK
 have HBW := Hd hW
 have HWB := Hd hWB
 have HRW1 := Hd hr1
 clear hK hW hWB hr1
 have HS0 : Hid (StW w ((w.alloc (.cells #[.int .i64 n0, .slice a1 m1 c1] 57)).alloc (.cells #[.int .i64 0, .slice none 0 0] 57)) B b c w.heap.size 57 [.int .i64 n0, .slice a1 m1 c1] [.int .i64 0, .slice none 0 0] st) := Hd (StW.start h 57 (by decide) [.int .i64 n0, .slice a1 m1 c1] [.int .i64 0, .slice none 0 0])
 have HZ := Hd (show w.heap.size + 2 ≤ ((w.alloc (.cells #[.int .i64 n0, .slice a1 m1 c1] 57)).alloc (.cells #[.int .i64 0, .slice none 0 0] 57)).heap.size by simp)
 clear h
 have hm1 := mwnum c
 have hm2 := mwtext c
 go_enter Tryz.func82, Tryz.ntmps82
 go_wp2_with fail
 refine (cwnum B b c n0 _ _ HS0.out.ob (K0.out.max (by omega))).mono ?_
 rw [E0.out]
 rintro e w1 ⟨he, h1, h2⟩
 rw [he.out]
 clear he
 have hc := HS0.out.call h1 h2
 have hb := hc.bx
 have y0 := hb.cell 0
 have y1 := hb.cell 1
 simp only [gB] at y0 y1
 have z0 := hb.fz 0
 have zz := hb.lt
 have HS1 : Hid (StW w (w1.setCell ⟨w.heap.size, 0, none⟩ (.int .i64 n0)) B b c w.heap.size 57 [.int .i64 n0, .slice a1 m1 c1] [.int .i64 0, .slice none 0 0] st1) := Hd (hc.store 0 [.int .i64 n0])
 clear hc hb h2 h1 HS0
 go_wp2_with fail
 refine (w_lid B b c _ _ _ W _ _ _ _ HS1.out.ob HRW1.out (HBW.out.trans (HS1.out.ft.low.mono HWB.out)) HWB.out E1.out K1.out (by omega)).mono ?_
 rintro e w2 ⟨b1, d1, f1, he, h1, h2⟩
 rw [he.out]
 clear he y0 y1 z0 zz
 have hc := HS1.out.call h1 h2
 have hb := hc.bx
 have y0 := hb.cell 0
 have y1 := hb.cell 1
 simp only [gB] at y0 y1
 have z1 := hb.fz 1
 have zz := hb.lt
 have hr := hc.rs
 have x0 := hr.cell 0
 have x1 := hr.cell 1
 simp only [gB] at x0 x1
 have u0 := hr.fz 0
 have u1 := hr.fz 1
 have zr := hr.lt
 clear hr
 have HS2 : Hid (StW w (w2.setCell ⟨w.heap.size, 1, none⟩ (.slice b1 d1 f1)) B b c w.heap.size 57 [.int .i64 n0, .slice b1 d1 f1] [.int .i64 0, .slice none 0 0] st2) := Hd (hc.store 1 [.slice b1 d1 f1])
 clear hc hb h2 h1 HS1
 go_wp2_with fail
 have HR : Hid (_ ∧ _) := Hd (HS2.out.toStB.result [.int .i64 n0, .slice b1 d1 f1])
 have HO := Hd (HS2.out.result [.int .i64 n0, .slice b1 d1 f1])
 have hb : Bk (((w2.setCell ⟨w.heap.size, 1, none⟩ (.slice b1 d1 f1)).setCell ⟨(w.heap.size + 1), 0, none⟩ (.int .i64 n0)).setCell ⟨(w.heap.size + 1), 1, none⟩ (.slice b1 d1 f1)) (w.heap.size + 1) 57 [.int .i64 n0, .slice b1 d1 f1] := HR.out.1
 obtain ⟨wf, hwf⟩ : ∃ x, (((w2.setCell ⟨w.heap.size, 1, none⟩ (.slice b1 d1 f1)).setCell ⟨(w.heap.size + 1), 0, none⟩ (.int .i64 n0)).setCell ⟨(w.heap.size + 1), 1, none⟩ (.slice b1 d1 f1)) = x := ⟨_, rfl⟩
 have HO2 : Hid (WO wf B b c st2) := Hd (by rw [← hwf]; exact HO.out)
 have HF2 : Hid (Ft B b c w wf) := Hd (by rw [← hwf]; exact HR.out.2)
 rw [hwf] at hb ⊢
 clear hwf HR HO y0 y1 z1 zz x0 u0 x1 u1 zr
 have y0 := hb.cell 0
 have y1 := hb.cell 1
 simp only [gB] at y0 y1
 have zz := hb.lt
 clear hb
 exact bodyPost_ret (v := .agg #[.int .i64 n0, .slice b1 d1 f1]) (by simp [results, Tryz.results82, go_sem, y0, y1]) rfl ⟨b1, d1, f1, rfl, HO2.out, HF2.out⟩
def W_cfg (n0 : Int) (B b c : Nat) (st : Option (List Int)) (w : World) (e : Ending) (w' : World) : Prop := ∃ (b1 : Option Addr) (d1 f1 : Nat), Hid (e = .returned (.agg #[.int .i64 n0, .slice b1 d1 f1])) ∧ WO w' B b c st ∧ Ft B b c w w'
theorem w_cfg (B b c : Nat) (n0 : Int) (a1 : Option Addr) (m1 c1 : Nat) (rs1 : List (Cls 1)) (l1 : List Int) (st st' : Option (List Int)) (K : Nat) (W w : World) (h : WO w B b c st) (hW : Below W.heap.size W w) (hWB : W.heap.size ≤ B) (hE : wrs st (cfC.fs (n0, l1)) = st') (hK : Sh K st) (hk : K + 1026 ≤ 20000000)  (hr1 : RowIs KN numS W (.slice a1 m1 c1) rs1 l1) :
  Calls Tryz.prog 83 #[fW c, .agg #[.int .i64 n0, .slice a1 m1 c1]] w (W_cfg n0 B b c st' w) := by
 obtain ⟨st1, he0⟩ : ∃ x, wr1 st (.num n0) = x := ⟨_, rfl⟩
 obtain ⟨st2, he1⟩ : ∃ x, wrs st1 ((listC numC).fs l1) = x := ⟨_, rfl⟩
 simp only [cfC, pairC_fs, numC_fs, txtC_fs, wrs_app, wrs_one, he0, he1] at hE
 subst hE
 have E0 := Hd he0
 have E1 := Hd he1
 clear he0 he1
 have K1 : Hid (Sh (K + 1) st1) := Hd (by rw [← E0.out]; exact Sh.one hK _)
 have K2 : Hid (Sh (K + 1026) st2) := Hd (by rw [← E1.out]; exact (ShC.list ShC.num) _ _ _ K1.out)
 have K0 := Hd hK
 have HBW := Hd hW
 have HWB := Hd hWB
 have HRW1 := Hd hr1
 clear hK hW hWB hr1
 have HS0 : Hid (StW w ((w.alloc (.cells #[.int .i64 n0, .slice a1 m1 c1] 24)).alloc (.cells #[.int .i64 0, .slice none 0 0] 24)) B b c w.heap.size 24 [.int .i64 n0, .slice a1 m1 c1] [.int .i64 0, .slice none 0 0] st) := Hd (StW.start h 24 (by decide) [.int .i64 n0, .slice a1 m1 c1] [.int .i64 0, .slice none 0 0])
 have HZ := Hd (show w.heap.size + 2 ≤ ((w.alloc (.cells #[.int .i64 n0, .slice a1 m1 c1] 24)).alloc (.cells #[.int .i64 0, .slice none 0 0] 24)).heap.size by simp)
 clear h
 have hm1 := mwnum c
 have hm2 := mwtext c
 go_enter Tryz.func83, Tryz.ntmps83
 go_wp2_with fail
 refine (cwnum B b c n0 _ _ HS0.out.ob (K0.out.max (by omega))).mono ?_
 rw [E0.out]
 rintro e w1 ⟨he, h1, h2⟩
 rw [he.out]
 clear he
 have hc := HS0.out.call h1 h2
 have hb := hc.bx
 have y0 := hb.cell 0
 have y1 := hb.cell 1
 simp only [gB] at y0 y1
 have z0 := hb.fz 0
 have zz := hb.lt
 have HS1 : Hid (StW w (w1.setCell ⟨w.heap.size, 0, none⟩ (.int .i64 n0)) B b c w.heap.size 24 [.int .i64 n0, .slice a1 m1 c1] [.int .i64 0, .slice none 0 0] st1) := Hd (hc.store 0 [.int .i64 n0])
 clear hc hb h2 h1 HS0
 go_wp2_with fail
 refine (w_lint B b c _ _ _ W _ _ _ _ HS1.out.ob HRW1.out (HBW.out.trans (HS1.out.ft.low.mono HWB.out)) HWB.out E1.out K1.out (by omega)).mono ?_
 rintro e w2 ⟨b1, d1, f1, he, h1, h2⟩
 rw [he.out]
 clear he y0 y1 z0 zz
 have hc := HS1.out.call h1 h2
 have hb := hc.bx
 have y0 := hb.cell 0
 have y1 := hb.cell 1
 simp only [gB] at y0 y1
 have z1 := hb.fz 1
 have zz := hb.lt
 have hr := hc.rs
 have x0 := hr.cell 0
 have x1 := hr.cell 1
 simp only [gB] at x0 x1
 have u0 := hr.fz 0
 have u1 := hr.fz 1
 have zr := hr.lt
 clear hr
 have HS2 : Hid (StW w (w2.setCell ⟨w.heap.size, 1, none⟩ (.slice b1 d1 f1)) B b c w.heap.size 24 [.int .i64 n0, .slice b1 d1 f1] [.int .i64 0, .slice none 0 0] st2) := Hd (hc.store 1 [.slice b1 d1 f1])
 clear hc hb h2 h1 HS1
 go_wp2_with fail
 have HR : Hid (_ ∧ _) := Hd (HS2.out.toStB.result [.int .i64 n0, .slice b1 d1 f1])
 have HO := Hd (HS2.out.result [.int .i64 n0, .slice b1 d1 f1])
 have hb : Bk (((w2.setCell ⟨w.heap.size, 1, none⟩ (.slice b1 d1 f1)).setCell ⟨(w.heap.size + 1), 0, none⟩ (.int .i64 n0)).setCell ⟨(w.heap.size + 1), 1, none⟩ (.slice b1 d1 f1)) (w.heap.size + 1) 24 [.int .i64 n0, .slice b1 d1 f1] := HR.out.1
 obtain ⟨wf, hwf⟩ : ∃ x, (((w2.setCell ⟨w.heap.size, 1, none⟩ (.slice b1 d1 f1)).setCell ⟨(w.heap.size + 1), 0, none⟩ (.int .i64 n0)).setCell ⟨(w.heap.size + 1), 1, none⟩ (.slice b1 d1 f1)) = x := ⟨_, rfl⟩
 have HO2 : Hid (WO wf B b c st2) := Hd (by rw [← hwf]; exact HO.out)
 have HF2 : Hid (Ft B b c w wf) := Hd (by rw [← hwf]; exact HR.out.2)
 rw [hwf] at hb ⊢
 clear hwf HR HO y0 y1 z1 zz x0 u0 x1 u1 zr
 have y0 := hb.cell 0
 have y1 := hb.cell 1
 simp only [gB] at y0 y1
 have zz := hb.lt
 clear hb
 exact bodyPost_ret (v := .agg #[.int .i64 n0, .slice b1 d1 f1]) (by simp [results, Tryz.results83, go_sem, y0, y1]) rfl ⟨b1, d1, f1, rfl, HO2.out, HF2.out⟩
def W_rp (n0 : Int) (n1 : ByteArray) (n2 : Int) (B b c : Nat) (st : Option (List Int)) (w : World) (e : Ending) (w' : World) : Prop := ∃ (b3 : Option Addr) (d3 f3 : Nat), Hid (e = .returned (.agg #[.int .i64 n0, .string n1, .int .i64 n2, .slice b3 d3 f3])) ∧ WO w' B b c st ∧ Ft B b c w w'
theorem w_rp (B b c : Nat) (n0 : Int) (n1 : ByteArray) (n2 : Int) (a3 : Option Addr) (m3 c3 : Nat) (rs3 : List (Cls 1)) (l3 : List ByteArray) (st st' : Option (List Int)) (K : Nat) (W w : World) (h : WO w B b c st) (hW : Below W.heap.size W w) (hWB : W.heap.size ≤ B) (hE : wrs st (rpC.fs (n0, n1, n2, l3)) = st') (hK : Sh K st) (hk : K + 1028 ≤ 20000000) (hs1 : n1.size ≤ 9223372036854775807) (hr3 : RowIs KT txS W (.slice a3 m3 c3) rs3 l3) :
  Calls Tryz.prog 99 #[fW c, .agg #[.int .i64 n0, .string n1, .int .i64 n2, .slice a3 m3 c3]] w (W_rp n0 n1 n2 B b c st' w) := by
 obtain ⟨st1, he0⟩ : ∃ x, wr1 st (.num n0) = x := ⟨_, rfl⟩
 obtain ⟨st2, he1⟩ : ∃ x, wr1 st1 (.txt n1) = x := ⟨_, rfl⟩
 obtain ⟨st3, he2⟩ : ∃ x, wr1 st2 (.num n2) = x := ⟨_, rfl⟩
 obtain ⟨st4, he3⟩ : ∃ x, wrs st3 ((listC txtC).fs l3) = x := ⟨_, rfl⟩
 simp only [rpC, pairC_fs, numC_fs, txtC_fs, wrs_app, wrs_one, he0, he1, he2, he3] at hE
 subst hE
 have E0 := Hd he0
 have E1 := Hd he1
 have E2 := Hd he2
 have E3 := Hd he3
 clear he0 he1 he2 he3
 have K1 : Hid (Sh (K + 1) st1) := Hd (by rw [← E0.out]; exact Sh.one hK _)
 have K2 : Hid (Sh (K + 2) st2) := Hd (by rw [← E1.out]; exact Sh.one K1.out _)
 have K3 : Hid (Sh (K + 3) st3) := Hd (by rw [← E2.out]; exact Sh.one K2.out _)
 have K4 : Hid (Sh (K + 1028) st4) := Hd (by rw [← E3.out]; exact (ShC.list ShC.txt) _ _ _ K3.out)
 have K0 := Hd hK
 have HBW := Hd hW
 have HWB := Hd hWB
 have HRW3 := Hd hr3
 clear hK hW hWB hr3
 have HS0 : Hid (StW w ((w.alloc (.cells #[.int .i64 n0, .string n1, .int .i64 n2, .slice a3 m3 c3] 73)).alloc (.cells #[.int .i64 0, .string ⟨#[]⟩, .int .i64 0, .slice none 0 0] 73)) B b c w.heap.size 73 [.int .i64 n0, .string n1, .int .i64 n2, .slice a3 m3 c3] [.int .i64 0, .string ⟨#[]⟩, .int .i64 0, .slice none 0 0] st) := Hd (StW.start h 73 (by decide) [.int .i64 n0, .string n1, .int .i64 n2, .slice a3 m3 c3] [.int .i64 0, .string ⟨#[]⟩, .int .i64 0, .slice none 0 0])
 have HZ := Hd (show w.heap.size + 2 ≤ ((w.alloc (.cells #[.int .i64 n0, .string n1, .int .i64 n2, .slice a3 m3 c3] 73)).alloc (.cells #[.int .i64 0, .string ⟨#[]⟩, .int .i64 0, .slice none 0 0] 73)).heap.size by simp)
 clear h
 have hm1 := mwnum c
 have hm2 := mwtext c
 go_enter Tryz.func99, Tryz.ntmps99
 go_wp2_with fail
 refine (w_nerr B b c n0 _ _ HS0.out.ob (K0.out.max (by omega))).mono ?_
 rw [E0.out]
 rintro e w1 ⟨he, h1, h2⟩
 rw [he.out]
 clear he
 have hc := HS0.out.call h1 h2
 have hb := hc.bx
 have y0 := hb.cell 0
 have y1 := hb.cell 1
 have y2 := hb.cell 2
 have y3 := hb.cell 3
 simp only [gB] at y0 y1 y2 y3
 have z0 := hb.fz 0
 have zz := hb.lt
 have HS1 : Hid (StW w (w1.setCell ⟨w.heap.size, 0, none⟩ (.int .i64 n0)) B b c w.heap.size 73 [.int .i64 n0, .string n1, .int .i64 n2, .slice a3 m3 c3] [.int .i64 0, .string ⟨#[]⟩, .int .i64 0, .slice none 0 0] st1) := Hd (hc.store 0 [.int .i64 n0])
 clear hc hb h2 h1 HS0
 go_wp2_with fail
 refine (cwtext B b c n1 _ _ HS1.out.ob (K1.out.max (by omega)) hs1).mono ?_
 rw [E1.out]
 rintro e w2 ⟨he, h1, h2⟩
 rw [he.out]
 clear he y0 y1 y2 y3 z0 zz
 have hc := HS1.out.call h1 h2
 have hb := hc.bx
 have y0 := hb.cell 0
 have y1 := hb.cell 1
 have y2 := hb.cell 2
 have y3 := hb.cell 3
 simp only [gB] at y0 y1 y2 y3
 have z1 := hb.fz 1
 have zz := hb.lt
 have HS2 : Hid (StW w (w2.setCell ⟨w.heap.size, 1, none⟩ (.string n1)) B b c w.heap.size 73 [.int .i64 n0, .string n1, .int .i64 n2, .slice a3 m3 c3] [.int .i64 0, .string ⟨#[]⟩, .int .i64 0, .slice none 0 0] st2) := Hd (hc.store 1 [.string n1])
 clear hc hb h2 h1 HS1
 go_wp2_with fail
 refine (cwnum B b c n2 _ _ HS2.out.ob (K2.out.max (by omega))).mono ?_
 rw [E2.out]
 rintro e w3 ⟨he, h1, h2⟩
 rw [he.out]
 clear he y0 y1 y2 y3 z1 zz
 have hc := HS2.out.call h1 h2
 have hb := hc.bx
 have y0 := hb.cell 0
 have y1 := hb.cell 1
 have y2 := hb.cell 2
 have y3 := hb.cell 3
 simp only [gB] at y0 y1 y2 y3
 have z2 := hb.fz 2
 have zz := hb.lt
 have HS3 : Hid (StW w (w3.setCell ⟨w.heap.size, 2, none⟩ (.int .i64 n2)) B b c w.heap.size 73 [.int .i64 n0, .string n1, .int .i64 n2, .slice a3 m3 c3] [.int .i64 0, .string ⟨#[]⟩, .int .i64 0, .slice none 0 0] st3) := Hd (hc.store 2 [.int .i64 n2])
 clear hc hb h2 h1 HS2
 go_wp2_with fail
 refine (w_lstr B b c _ _ _ W _ _ _ _ HS3.out.ob HRW3.out (HBW.out.trans (HS3.out.ft.low.mono HWB.out)) HWB.out E3.out K3.out (by omega)).mono ?_
 rintro e w4 ⟨b3, d3, f3, he, h1, h2⟩
 rw [he.out]
 clear he y0 y1 y2 y3 z2 zz
 have hc := HS3.out.call h1 h2
 have hb := hc.bx
 have y0 := hb.cell 0
 have y1 := hb.cell 1
 have y2 := hb.cell 2
 have y3 := hb.cell 3
 simp only [gB] at y0 y1 y2 y3
 have z3 := hb.fz 3
 have zz := hb.lt
 have hr := hc.rs
 have x0 := hr.cell 0
 have x1 := hr.cell 1
 have x2 := hr.cell 2
 have x3 := hr.cell 3
 simp only [gB] at x0 x1 x2 x3
 have u0 := hr.fz 0
 have u1 := hr.fz 1
 have u2 := hr.fz 2
 have u3 := hr.fz 3
 have zr := hr.lt
 clear hr
 have HS4 : Hid (StW w (w4.setCell ⟨w.heap.size, 3, none⟩ (.slice b3 d3 f3)) B b c w.heap.size 73 [.int .i64 n0, .string n1, .int .i64 n2, .slice b3 d3 f3] [.int .i64 0, .string ⟨#[]⟩, .int .i64 0, .slice none 0 0] st4) := Hd (hc.store 3 [.slice b3 d3 f3])
 clear hc hb h2 h1 HS3
 go_wp2_with fail
 have HR : Hid (_ ∧ _) := Hd (HS4.out.toStB.result [.int .i64 n0, .string n1, .int .i64 n2, .slice b3 d3 f3])
 have HO := Hd (HS4.out.result [.int .i64 n0, .string n1, .int .i64 n2, .slice b3 d3 f3])
 have hb : Bk (((((w4.setCell ⟨w.heap.size, 3, none⟩ (.slice b3 d3 f3)).setCell ⟨(w.heap.size + 1), 0, none⟩ (.int .i64 n0)).setCell ⟨(w.heap.size + 1), 1, none⟩ (.string n1)).setCell ⟨(w.heap.size + 1), 2, none⟩ (.int .i64 n2)).setCell ⟨(w.heap.size + 1), 3, none⟩ (.slice b3 d3 f3)) (w.heap.size + 1) 73 [.int .i64 n0, .string n1, .int .i64 n2, .slice b3 d3 f3] := HR.out.1
 obtain ⟨wf, hwf⟩ : ∃ x, (((((w4.setCell ⟨w.heap.size, 3, none⟩ (.slice b3 d3 f3)).setCell ⟨(w.heap.size + 1), 0, none⟩ (.int .i64 n0)).setCell ⟨(w.heap.size + 1), 1, none⟩ (.string n1)).setCell ⟨(w.heap.size + 1), 2, none⟩ (.int .i64 n2)).setCell ⟨(w.heap.size + 1), 3, none⟩ (.slice b3 d3 f3)) = x := ⟨_, rfl⟩
 have HO2 : Hid (WO wf B b c st4) := Hd (by rw [← hwf]; exact HO.out)
 have HF2 : Hid (Ft B b c w wf) := Hd (by rw [← hwf]; exact HR.out.2)
 rw [hwf] at hb ⊢
 clear hwf HR HO y0 y1 y2 y3 z3 zz x0 u0 x1 u1 x2 u2 x3 u3 zr
 have y0 := hb.cell 0
 have y1 := hb.cell 1
 have y2 := hb.cell 2
 have y3 := hb.cell 3
 simp only [gB] at y0 y1 y2 y3
 have zz := hb.lt
 clear hb
 exact bodyPost_ret (v := .agg #[.int .i64 n0, .string n1, .int .i64 n2, .slice b3 d3 f3]) (by simp [results, Tryz.results99, go_sem, y0, y1, y2, y3]) rfl ⟨b3, d3, f3, rfl, HO2.out, HF2.out⟩
def W_ses (n0 : Int) (n1 : Int) (n2 : Int) (n3 : ByteArray) (n4 : Int) (B b c : Nat) (st : Option (List Int)) (w : World) (e : Ending) (w' : World) : Prop := ∃ (b5 : Option Addr) (d5 f5 : Nat), Hid (e = .returned (.agg #[.int .i64 n0, .int .i64 n1, .int .i64 n2, .string n3, .int .i64 n4, .slice b5 d5 f5])) ∧ WO w' B b c st ∧ Ft B b c w w'
theorem w_ses (B b c : Nat) (n0 : Int) (n1 : Int) (n2 : Int) (n3 : ByteArray) (n4 : Int) (a5 : Option Addr) (m5 c5 : Nat) (rs5 : List (Cls 1)) (l5 : List ByteArray) (st st' : Option (List Int)) (K : Nat) (W w : World) (h : WO w B b c st) (hW : Below W.heap.size W w) (hWB : W.heap.size ≤ B) (hE : wrs st (seC.fs (n0, n1, (n2, n3, n4, l5))) = st') (hK : Sh K st) (hk : K + 1030 ≤ 20000000) (hs3 : n3.size ≤ 9223372036854775807) (hr5 : RowIs KT txS W (.slice a5 m5 c5) rs5 l5) :
  Calls Tryz.prog 87 #[fW c, .agg #[.int .i64 n0, .int .i64 n1, .int .i64 n2, .string n3, .int .i64 n4, .slice a5 m5 c5]] w (W_ses n0 n1 n2 n3 n4 B b c st' w) := by
 obtain ⟨st1, he0⟩ : ∃ x, wr1 st (.num n0) = x := ⟨_, rfl⟩
 obtain ⟨st2, he1⟩ : ∃ x, wr1 st1 (.num n1) = x := ⟨_, rfl⟩
 obtain ⟨st3, he2⟩ : ∃ x, wrs st2 (rpC.fs (n2, n3, n4, l5)) = x := ⟨_, rfl⟩
 simp only [seC, pairC_fs, numC_fs, txtC_fs, wrs_app, wrs_one, he0, he1, he2] at hE
 subst hE
 have E0 := Hd he0
 have E1 := Hd he1
 have E2 := Hd he2
 clear he0 he1 he2
 have K1 : Hid (Sh (K + 1) st1) := Hd (by rw [← E0.out]; exact Sh.one hK _)
 have K2 : Hid (Sh (K + 2) st2) := Hd (by rw [← E1.out]; exact Sh.one K1.out _)
 have K3 : Hid (Sh (K + 1030) st3) := Hd (by rw [← E2.out]; exact ShC.rp _ _ _ K2.out)
 have K0 := Hd hK
 have HBW := Hd hW
 have HWB := Hd hWB
 have HRW5 := Hd hr5
 clear hK hW hWB hr5
 have HS0 : Hid (StW w ((w.alloc (.cells #[.int .i64 n0, .int .i64 n1, .int .i64 n2, .string n3, .int .i64 n4, .slice a5 m5 c5] 75)).alloc (.cells #[.int .i64 0, .int .i64 0, .int .i64 0, .string ⟨#[]⟩, .int .i64 0, .slice none 0 0] 75)) B b c w.heap.size 75 [.int .i64 n0, .int .i64 n1, .int .i64 n2, .string n3, .int .i64 n4, .slice a5 m5 c5] [.int .i64 0, .int .i64 0, .int .i64 0, .string ⟨#[]⟩, .int .i64 0, .slice none 0 0] st) := Hd (StW.start h 75 (by decide) [.int .i64 n0, .int .i64 n1, .int .i64 n2, .string n3, .int .i64 n4, .slice a5 m5 c5] [.int .i64 0, .int .i64 0, .int .i64 0, .string ⟨#[]⟩, .int .i64 0, .slice none 0 0])
 have HZ := Hd (show w.heap.size + 2 ≤ ((w.alloc (.cells #[.int .i64 n0, .int .i64 n1, .int .i64 n2, .string n3, .int .i64 n4, .slice a5 m5 c5] 75)).alloc (.cells #[.int .i64 0, .int .i64 0, .int .i64 0, .string ⟨#[]⟩, .int .i64 0, .slice none 0 0] 75)).heap.size by simp)
 clear h
 have hm1 := mwnum c
 have hm2 := mwtext c
 go_enter Tryz.func87, Tryz.ntmps87
 go_wp2_with fail
 refine (cwnum B b c n0 _ _ HS0.out.ob (K0.out.max (by omega))).mono ?_
 rw [E0.out]
 rintro e w1 ⟨he, h1, h2⟩
 rw [he.out]
 clear he
 have hc := HS0.out.call h1 h2
 have hb := hc.bx
 have y0 := hb.cell 0
 have y1 := hb.cell 1
 have y2 := hb.cell 2
 have y3 := hb.cell 3
 have y4 := hb.cell 4
 have y5 := hb.cell 5
 simp only [gB] at y0 y1 y2 y3 y4 y5
 have z0 := hb.fz 0
 have zz := hb.lt
 have HS1 : Hid (StW w (w1.setCell ⟨w.heap.size, 0, none⟩ (.int .i64 n0)) B b c w.heap.size 75 [.int .i64 n0, .int .i64 n1, .int .i64 n2, .string n3, .int .i64 n4, .slice a5 m5 c5] [.int .i64 0, .int .i64 0, .int .i64 0, .string ⟨#[]⟩, .int .i64 0, .slice none 0 0] st1) := Hd (hc.store 0 [.int .i64 n0])
 clear hc hb h2 h1 HS0
 go_wp2_with fail
 refine (cwnum B b c n1 _ _ HS1.out.ob (K1.out.max (by omega))).mono ?_
 rw [E1.out]
 rintro e w2 ⟨he, h1, h2⟩
 rw [he.out]
 clear he y0 y1 y2 y3 y4 y5 z0 zz
 have hc := HS1.out.call h1 h2
 have hb := hc.bx
 have y0 := hb.cell 0
 have y1 := hb.cell 1
 have y2 := hb.cell 2
 have y3 := hb.cell 3
 have y4 := hb.cell 4
 have y5 := hb.cell 5
 simp only [gB] at y0 y1 y2 y3 y4 y5
 have z1 := hb.fz 1
 have zz := hb.lt
 have HS2 : Hid (StW w (w2.setCell ⟨w.heap.size, 1, none⟩ (.int .i64 n1)) B b c w.heap.size 75 [.int .i64 n0, .int .i64 n1, .int .i64 n2, .string n3, .int .i64 n4, .slice a5 m5 c5] [.int .i64 0, .int .i64 0, .int .i64 0, .string ⟨#[]⟩, .int .i64 0, .slice none 0 0] st2) := Hd (hc.store 1 [.int .i64 n1])
 clear hc hb h2 h1 HS1
 go_wp2_with fail
 refine (w_rp B b c n2 n3 n4 a5 m5 c5 rs5 l5 _ _ _ W _ HS2.out.ob (HBW.out.trans (HS2.out.ft.low.mono HWB.out)) HWB.out E2.out K2.out (by omega) hs3 HRW5.out).mono ?_
 rintro e w3 ⟨b5, d5, f5, he, h1, h2⟩
 rw [he.out]
 clear he y0 y1 y2 y3 y4 y5 z1 zz
 have hc := HS2.out.call h1 h2
 have hb := hc.bx
 have y0 := hb.cell 0
 have y1 := hb.cell 1
 have y2 := hb.cell 2
 have y3 := hb.cell 3
 have y4 := hb.cell 4
 have y5 := hb.cell 5
 simp only [gB] at y0 y1 y2 y3 y4 y5
 have z2 := hb.fz 2
 have z3 := hb.fz 3
 have z4 := hb.fz 4
 have z5 := hb.fz 5
 have zz := hb.lt
 have hr := hc.rs
 have x0 := hr.cell 0
 have x1 := hr.cell 1
 have x2 := hr.cell 2
 have x3 := hr.cell 3
 have x4 := hr.cell 4
 have x5 := hr.cell 5
 simp only [gB] at x0 x1 x2 x3 x4 x5
 have u0 := hr.fz 0
 have u1 := hr.fz 1
 have u2 := hr.fz 2
 have u3 := hr.fz 3
 have u4 := hr.fz 4
 have u5 := hr.fz 5
 have zr := hr.lt
 clear hr
 have HS3 : Hid (StW w ((((w3.setCell ⟨w.heap.size, 2, none⟩ (.int .i64 n2)).setCell ⟨w.heap.size, 3, none⟩ (.string n3)).setCell ⟨w.heap.size, 4, none⟩ (.int .i64 n4)).setCell ⟨w.heap.size, 5, none⟩ (.slice b5 d5 f5)) B b c w.heap.size 75 [.int .i64 n0, .int .i64 n1, .int .i64 n2, .string n3, .int .i64 n4, .slice b5 d5 f5] [.int .i64 0, .int .i64 0, .int .i64 0, .string ⟨#[]⟩, .int .i64 0, .slice none 0 0] st3) := Hd (hc.store 2 [.int .i64 n2, .string n3, .int .i64 n4, .slice b5 d5 f5])
 clear hc hb h2 h1 HS2
 go_wp2_with fail
 have HR : Hid (_ ∧ _) := Hd (HS3.out.toStB.result [.int .i64 n0, .int .i64 n1, .int .i64 n2, .string n3, .int .i64 n4, .slice b5 d5 f5])
 have HO := Hd (HS3.out.result [.int .i64 n0, .int .i64 n1, .int .i64 n2, .string n3, .int .i64 n4, .slice b5 d5 f5])
 have hb : Bk ((((((((((w3.setCell ⟨w.heap.size, 2, none⟩ (.int .i64 n2)).setCell ⟨w.heap.size, 3, none⟩ (.string n3)).setCell ⟨w.heap.size, 4, none⟩ (.int .i64 n4)).setCell ⟨w.heap.size, 5, none⟩ (.slice b5 d5 f5)).setCell ⟨(w.heap.size + 1), 0, none⟩ (.int .i64 n0)).setCell ⟨(w.heap.size + 1), 1, none⟩ (.int .i64 n1)).setCell ⟨(w.heap.size + 1), 2, none⟩ (.int .i64 n2)).setCell ⟨(w.heap.size + 1), 3, none⟩ (.string n3)).setCell ⟨(w.heap.size + 1), 4, none⟩ (.int .i64 n4)).setCell ⟨(w.heap.size + 1), 5, none⟩ (.slice b5 d5 f5)) (w.heap.size + 1) 75 [.int .i64 n0, .int .i64 n1, .int .i64 n2, .string n3, .int .i64 n4, .slice b5 d5 f5] := HR.out.1
 obtain ⟨wf, hwf⟩ : ∃ x, ((((((((((w3.setCell ⟨w.heap.size, 2, none⟩ (.int .i64 n2)).setCell ⟨w.heap.size, 3, none⟩ (.string n3)).setCell ⟨w.heap.size, 4, none⟩ (.int .i64 n4)).setCell ⟨w.heap.size, 5, none⟩ (.slice b5 d5 f5)).setCell ⟨(w.heap.size + 1), 0, none⟩ (.int .i64 n0)).setCell ⟨(w.heap.size + 1), 1, none⟩ (.int .i64 n1)).setCell ⟨(w.heap.size + 1), 2, none⟩ (.int .i64 n2)).setCell ⟨(w.heap.size + 1), 3, none⟩ (.string n3)).setCell ⟨(w.heap.size + 1), 4, none⟩ (.int .i64 n4)).setCell ⟨(w.heap.size + 1), 5, none⟩ (.slice b5 d5 f5)) = x := ⟨_, rfl⟩
 have HO2 : Hid (WO wf B b c st3) := Hd (by rw [← hwf]; exact HO.out)
 have HF2 : Hid (Ft B b c w wf) := Hd (by rw [← hwf]; exact HR.out.2)
 rw [hwf] at hb ⊢
 clear hwf HR HO y0 y1 y2 y3 y4 y5 z2 z3 z4 z5 zz x0 u0 x1 u1 x2 u2 x3 u3 x4 u4 x5 u5 zr
 have y0 := hb.cell 0
 have y1 := hb.cell 1
 have y2 := hb.cell 2
 have y3 := hb.cell 3
 have y4 := hb.cell 4
 have y5 := hb.cell 5
 simp only [gB] at y0 y1 y2 y3 y4 y5
 have zz := hb.lt
 clear hb
 exact bodyPost_ret (v := .agg #[.int .i64 n0, .int .i64 n1, .int .i64 n2, .string n3, .int .i64 n4, .slice b5 d5 f5]) (by simp [results, Tryz.results87, go_sem, y0, y1, y2, y3, y4, y5]) rfl ⟨b5, d5, f5, rfl, HO2.out, HF2.out⟩
theorem w_lses (B b c : Nat) (v : Value) (rs : List (Cls 6)) (l : List Ses) (W w : World) (st st' : Option (List Int)) (K : Nat) (h : WO w B b c st) (hr : RowIs KZ seS W v rs l) (hW : Below W.heap.size W w) (hWB : W.heap.size ≤ B) (hE : wrs st ((listC seC).fs l) = st') (hK : Sh K st) (hk : K + 1054721 ≤ 20000000) :
  Calls Tryz.prog 86 #[fW c, v, .func (.func 87) #[] #[]] w (WQ B b c st' w) := by
 obtain ⟨a0, c0, rfl⟩ := hr.rd.slice
 have hlen := hr.len
 have hmx := hr.rd.len
 obtain ⟨N, hN⟩ : ∃ N, rs.length = N := ⟨_, rfl⟩
 rw [hN] at hlen hr hmx ⊢
 unfold maxLen at hmx
 rw [listC_fs, wrs_cons, ← hlen] at hE
 obtain ⟨st1, he1⟩ : ∃ x, wr1 st (.cnt N) = x := ⟨_, rfl⟩
 rw [he1] at hE
 have K1 : Hid (Sh (K + 1) st1) := Hd (by rw [← he1]; exact hK.one _)
 have E1 := Hd he1
 have E := Hd hE
 have HW := Hd h
 have HK := Hd hK
 have HR := Hd hr
 have HL := Hd hlen
 have HBW := Hd hW
 have HWB := Hd hWB
 have hN9 : N ≤ 9223372036854775807 := by omega
 have m1 := mwcount c
 have m2 := tW c
 clear hE he1 h hr hK hN hlen hW hWB
 by_cases q : N ≤ 1024
 ·have hcN : N ≤ 1000000 := by omega
  go_enter Tryz.func86, Tryz.ntmps86
  go_wp2_with fail
  refine (cwcount B b c N _ _ HW.out (HK.out.max (by omega)) hN9).mono ?_
  rw [if_pos q, E1.out]
  rintro e w1 ⟨he, h1, h2⟩
  rw [he.out]
  clear he
  have H1 := Hd h1
  have H2 := Hd h2
  clear h1 h2
  go_wp2_with (refine KZ.make rfl _ _ rfl rfl N rfl hcN w1.heap.size (Nat.le_refl _) ?_)
  intro v2 w2 ho hb hne hg
  obtain ⟨a2, c2, rfl⟩ : ∃ a2 c2, v2 = .slice a2 0 c2 := ho.slice
  have HO := Hd ho
  have HZ := Hd (show b < w1.heap.size ∧ c < w1.heap.size ∧ B ≤ w1.heap.size ∧ w.heap.size ≤ w1.heap.size from ⟨H1.out.lb.1, H1.out.bx.lt, by have := H1.out.lb; omega, H2.out.size⟩)
  have HS := Hd (H1.out.below hb)
  have HF := Hd (H2.out.trans (Ft.of_below (b := b) (c := c) hb HZ.out.2.2.1))
  have HP := Hd hb.size
  clear ho hb hne hg H1 H2
  go_wp2_with fail
  go_loopw [10, 27] (fun o i wr => ∃ (k : Nat) (a : Option Addr) (cp : Nat) (rk : List (Cls 6)), k ≤ N ∧ i = .int .i64 k ∧ o = .slice a k cp ∧ Hid (rk.length = k) ∧ Hid (KZ.Own wr w1.heap.size (.slice a k cp) rk) ∧ Hid (WO wr B b c (wrs st1 ((l.take k).flatMap seC.fs))) ∧ Hid (Ft B b c w wr) ∧ Hid (w1.heap.size ≤ wr.heap.size)) (fun _ i _ => N - (intOf i).toNat)
  case atStart => exact ⟨0, a2, c2, [], by omega, rfl, rfl, rfl, HO.out, Hd (by simpa [wrs] using HS.out), HF.out, HP.out⟩
  case round =>
   clear HO HS HF HP
   obtain ⟨k, a, cp, rk, hk, rfl, rfl, hrk, HO, HS, HF, HP⟩ := hrel
   by_cases hlt : k < N
   ·obtain ⟨hl, g, off, cs, ha, hg, hcs, hcel⟩ := HR.out.el2 rfl (HBW.out.trans (HF.out.low.mono HWB.out)) k hlt
    subst ha
    obtain ⟨x, hx⟩ : ∃ x, l[k] = x := ⟨_, rfl⟩
    rw [hx] at hcs
    have HX := Hd hx
    clear hx
    obtain ⟨x0, x1, x2, x3, x4, x5⟩ := x
    obtain ⟨vn, rn, hcs0, hs3, hrn⟩ := hcs
    have hcs0 : cs = [.int .i64 x0, .int .i64 x1, .int .i64 x2, .string x3, .int .i64 x4, vn] := hcs0
    have hs3 : x3.size ≤ 9223372036854775807 := by unfold maxLen at hs3; simp only at hs3; omega
    subst hcs0
    obtain ⟨an, cn, hvn⟩ := hrn.rd.slice
    obtain ⟨nn, hnn⟩ : ∃ nn, rn.length = nn := ⟨_, rfl⟩
    rw [hnn] at hvn
    subst hvn
    clear hnn
    have HRN := Hd hrn
    clear hrn
    have y0 : wr.cell? ⟨g, off + k * 6, none⟩ = some (.int .i64 x0) := hcel 0 _ rfl
    have y1 : wr.cell? ⟨g, off + k * 6 + 1, none⟩ = some (.int .i64 x1) := hcel 1 _ rfl
    have y2 : wr.cell? ⟨g, off + k * 6 + 2, none⟩ = some (.int .i64 x2) := hcel 2 _ rfl
    have y3 : wr.cell? ⟨g, off + k * 6 + 3, none⟩ = some (.string x3) := hcel 3 _ rfl
    have y4 : wr.cell? ⟨g, off + k * 6 + 4, none⟩ = some (.int .i64 x4) := hcel 4 _ rfl
    have y5 : wr.cell? ⟨g, off + k * 6 + 5, none⟩ = some (.slice an nn cn) := hcel 5 _ rfl
    have HE := Hd (step_fs seC st1 l k (x0, x1, x2, x3, x4, x5) hl HX.out)
    have HK1 := Hd (sh_part ShC.se K1.out l k)
    clear hcel
    go_wp2_with fail
    refine (w_ses B b c _ _ _ _ _ _ _ _ _ _ _ _ _ _ _ HS.out (HBW.out.trans (HF.out.low.mono HWB.out)) HWB.out HE.out HK1.out (by omega) hs3 HRN.out).mono ?_
    rintro e w3 ⟨a3, n3, c3, he, h1, h2⟩
    rw [he.out]
    clear he y0 y1 y2 y3 y4 y5
    have hbc : ∀ j, (Value.slice a k cp).ownBlock = some j → j ≠ b ∧ j ≠ c := fun j hj => by have := HO.out.from j hj; have := HZ.out; omega
    have hO := HO.out.ft h2 (by decide) hbc
    have HS2 := Hd h1
    have HF2 := Hd (HF.out.trans h2)
    have hz3 : w1.heap.size ≤ w3.heap.size := by have := HP.out; have := h2.size; omega
    obtain ⟨X, hX⟩ : ∃ X : Cls 6, X = ⟨[.int .i64 x0, .int .i64 x1, .int .i64 x2, .string x3, .int .i64 x4, .slice a3 n3 c3], rfl, by intro v hv; simp only [List.mem_cons, List.not_mem_nil, or_false] at hv; rcases hv with rfl | rfl | rfl | rfl | rfl | rfl <;> rfl⟩ := ⟨_, rfl⟩
    have hXe : KZ.enc X = [.int .i64 x0, .int .i64 x1, .int .i64 x2, .string x3, .int .i64 x4, .slice a3 n3 c3] := by rw [hX]; rfl
    have HO2 := Hd (hO.below ((Below.refl _ _).alloc (Nat.le_refl _) (.cells (KZ.enc X).toArray 75)))
    have HQ := Hd (KZ.rd_boxAt X 75 1 w3 w3.heap.size rfl)
    rw [hXe] at HO2 HQ
    clear hX hXe
    have HBC := Hd hbc
    have HFr := Hd HO.out.from
    have hlk : rk.length + [X].length ≤ 1000000 := by rw [hrk.out]; simp; omega
    clear hO h1 h2 hbc HS HF HO HP
    go_wp2_with (refine KZ.app rfl _ _ rfl w1.heap.size _ rk rfl HO2.out _ [X] rfl HQ.out hlk (by simp; omega) ?_)
    intro v5 w5 ho hb5 hg5 hne5
    obtain ⟨a5, c5, rfl⟩ : ∃ a5 c5, v5 = .slice a5 (k + 1) c5 := by
     obtain ⟨a5, c5, e5⟩ := ho.slice
     exact ⟨a5, c5, by rw [e5]; simp [hrk.out]⟩
    have HO5 := Hd ho
    have HS5 := Hd ((HS2.out.below ((Below.refl _ _).alloc (Nat.le_refl _) _)).grown HO2.out (by decide) HBC.out hg5)
    have HF5 := Hd ((HF2.out.alloc (by have := HZ.out; omega) _).grown hg5 (fun j hj => by have := HFr.out j hj; have := HZ.out; omega) (by have := HZ.out; simp; omega))
    have HP5 := Hd hg5.size
    clear ho hb5 hg5 hne5 HO2 HS2 HF2
    go_wp2_with fail
    refine ⟨⟨k + 1, a5, c5, rk ++ [X], by omega, by first | rfl | simp, rfl, Hd (by simp [hrk.out]), HO5.out, HS5.out, HF5.out, Hd (by have := HP5.out; simp at this; omega)⟩, by simp [intOf]; omega⟩
   ·have hkN : k = N := by omega
    subst hkN
    go_wp2_with fail
    go_ret
    refine ⟨a, k, cp, rfl, ?_, HF.out⟩
    rw [← E.out]
    have := HS.out
    rwa [List.take_of_length_le (by rw [← HL.out]; exact Nat.le_refl _)] at this
 ·have hst : st' = none := by
   rw [← E.out, ← E1.out, wr1_bad (show ¬ (Fd.cnt N).ok from q), wrs_none]
  have hst1 : st1 = none := by rw [← E1.out, wr1_bad (show ¬ (Fd.cnt N).ok from q)]
  subst hst
  subst hst1
  go_enter Tryz.func86, Tryz.ntmps86
  go_wp2_with fail
  refine (cwcount B b c N _ _ HW.out (HK.out.max (by omega)) hN9).mono ?_
  rw [if_neg q, E1.out]
  rintro e w1 ⟨he, h1, h2⟩
  rw [he.out]
  clear he
  have H1 := Hd h1
  have H2 := Hd h2
  clear h1 h2
  go_wp2_with (refine KZ.make rfl _ _ rfl rfl 0 rfl (by omega) w1.heap.size (Nat.le_refl _) ?_)
  intro v2 w2 ho hb hne hg
  obtain ⟨a2, c2, rfl⟩ : ∃ a2 c2, v2 = .slice a2 0 c2 := ho.slice
  have HS := Hd (H1.out.below hb)
  have HF := Hd (H2.out.trans (Ft.of_below (b := b) (c := c) hb (by have := H1.out.lb; omega)))
  clear ho hb hne hg H1 H2
  go_wp2_with fail
  go_loopw [10, 27] (fun o i wr => o = .slice a2 0 c2 ∧ i = .int .i64 0 ∧ wr = w2) (fun _ i _ => 0)
  case atStart => exact ⟨rfl, rfl, rfl⟩
  case round =>
   obtain ⟨rfl, rfl, rfl⟩ := hrel
   go_wp2_with fail
   go_ret
   exact ⟨a2, 0, c2, rfl, HS.out, HF.out⟩
end Go.Proofs.YtnancdbkmompdaaGreat
