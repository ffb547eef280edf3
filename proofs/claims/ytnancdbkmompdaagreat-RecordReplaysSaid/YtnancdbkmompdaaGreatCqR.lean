/-
 Texts put together: Cd9, CdA, CdB.
-/
import Derived.Test.YtnancdbkmompdaaGreatRY
import Derived.Test.YtnancdbkmompdaaGreatRQH
namespace Go.Proofs.YtnancdbkmompdaaGreat
open Go.RowKit
set_option linter.unusedSimpArgs false
set_option linter.unusedVariables false
set_option maxRecDepth 100000
set_option maxHeartbeats 40000000
def W_rec (B b c : Nat) (st : Option (List Int)) (w : World) (e : Ending) (w' : World) : Prop := ∃ cs : Array Value, Hid (e = .returned (.agg cs)) ∧ WO w' B b c st ∧ Ft B b c w w'
theorem w_rec0 (B b c : Nat) (n1 : Int) (n2 : Int) (n3 : Int) (n4 : Int) (n5 : Int) (n6 : Int) (n7 : Int) (n8 : Int) (n9 : Int) (n10 : Int) (n11 : Int) (n12 : ByteArray) (n13 : ByteArray) (n14 : Int) (n15 : Int) (n16 : Int) (n17 : Int) (a18 : Option Addr) (m18 c18 : Nat) (n19 : Int) (a20 : Option Addr) (m20 c20 : Nat) (a21 : Option Addr) (m21 c21 : Nat) (a22 : Option Addr) (m22 c22 : Nat) (rs18 : List (Cls 3)) (l18 : List Id3) (st st' : Option (List Int)) (K : Nat) (W w : World) (h : WO w B b c st) (hW : Below W.heap.size W w) (hWB : W.heap.size ≤ B) (hE : wrs st (.num 0 :: (idC.fs (n1, n2, n3) ++ inC.fs (n4, (n5, n6), (n7, n8), (n9, n10, n11, n12, n13, n14, n15, n16), n17, l18))) = st') (hK : Sh K st) (hk : K + 4000 ≤ 20000000) (hs12 : n12.size ≤ 9223372036854775807) (hs13 : n13.size ≤ 9223372036854775807) (hr18 : RowIs KI idS W (.slice a18 m18 c18) rs18 l18) :
  Calls Tryz.prog 35 #[fW c, .agg #[.bool false, .int .i64 n1, .int .i64 n2, .int .i64 n3, .int .i64 n4, .int .i64 n5, .int .i64 n6, .int .i64 n7, .int .i64 n8, .int .i64 n9, .int .i64 n10, .int .i64 n11, .string n12, .string n13, .int .i64 n14, .int .i64 n15, .int .i64 n16, .int .i64 n17, .slice a18 m18 c18, .int .i64 n19, .slice a20 m20 c20, .slice a21 m21 c21, .slice a22 m22 c22]] w (W_rec B b c st' w) := by
 rw [wrs_cons, wrs_app] at hE
 obtain ⟨st1, he0⟩ : ∃ x, wr1 st (.num 0) = x := ⟨_, rfl⟩
 rw [he0] at hE
 obtain ⟨st2, he1⟩ : ∃ x, wrs st1 (idC.fs (n1, n2, n3)) = x := ⟨_, rfl⟩
 rw [he1] at hE
 have E0 := Hd he0
 have E1 := Hd he1
 have E2 := Hd hE
 have K0 := Hd hK
 have K1 : Hid (Sh (K + 1) st1) := Hd (by rw [← he0]; exact hK.one _)
 have K2 : Hid (Sh (K + 4) st2) := Hd (by rw [← he1]; exact ShC.id _ _ _ K1.out)
 have HBW := Hd hW
 have HWB := Hd hWB
 have HR := Hd hr18
 clear he0 he1 hE hK hW hWB hr18
 have HS0 : Hid (StW w ((w.alloc (.cells #[.bool false, .int .i64 n1, .int .i64 n2, .int .i64 n3, .int .i64 n4, .int .i64 n5, .int .i64 n6, .int .i64 n7, .int .i64 n8, .int .i64 n9, .int .i64 n10, .int .i64 n11, .string n12, .string n13, .int .i64 n14, .int .i64 n15, .int .i64 n16, .int .i64 n17, .slice a18 m18 c18, .int .i64 n19, .slice a20 m20 c20, .slice a21 m21 c21, .slice a22 m22 c22] 61)).alloc (.cells #[.bool false, .int .i64 0, .int .i64 0, .int .i64 0, .int .i64 0, .int .i64 0, .int .i64 0, .int .i64 0, .int .i64 0, .int .i64 0, .int .i64 0, .int .i64 0, .string ⟨#[]⟩, .string ⟨#[]⟩, .int .i64 0, .int .i64 0, .int .i64 0, .int .i64 0, .slice none 0 0, .int .i64 0, .slice none 0 0, .slice none 0 0, .slice none 0 0] 61)) B b c w.heap.size 61 [.bool false, .int .i64 n1, .int .i64 n2, .int .i64 n3, .int .i64 n4, .int .i64 n5, .int .i64 n6, .int .i64 n7, .int .i64 n8, .int .i64 n9, .int .i64 n10, .int .i64 n11, .string n12, .string n13, .int .i64 n14, .int .i64 n15, .int .i64 n16, .int .i64 n17, .slice a18 m18 c18, .int .i64 n19, .slice a20 m20 c20, .slice a21 m21 c21, .slice a22 m22 c22] [.bool false, .int .i64 0, .int .i64 0, .int .i64 0, .int .i64 0, .int .i64 0, .int .i64 0, .int .i64 0, .int .i64 0, .int .i64 0, .int .i64 0, .int .i64 0, .string ⟨#[]⟩, .string ⟨#[]⟩, .int .i64 0, .int .i64 0, .int .i64 0, .int .i64 0, .slice none 0 0, .int .i64 0, .slice none 0 0, .slice none 0 0, .slice none 0 0] st) := Hd (StW.start h 61 (by decide) [.bool false, .int .i64 n1, .int .i64 n2, .int .i64 n3, .int .i64 n4, .int .i64 n5, .int .i64 n6, .int .i64 n7, .int .i64 n8, .int .i64 n9, .int .i64 n10, .int .i64 n11, .string n12, .string n13, .int .i64 n14, .int .i64 n15, .int .i64 n16, .int .i64 n17, .slice a18 m18 c18, .int .i64 n19, .slice a20 m20 c20, .slice a21 m21 c21, .slice a22 m22 c22] [.bool false, .int .i64 0, .int .i64 0, .int .i64 0, .int .i64 0, .int .i64 0, .int .i64 0, .int .i64 0, .int .i64 0, .int .i64 0, .int .i64 0, .int .i64 0, .string ⟨#[]⟩, .string ⟨#[]⟩, .int .i64 0, .int .i64 0, .int .i64 0, .int .i64 0, .slice none 0 0, .int .i64 0, .slice none 0 0, .slice none 0 0, .slice none 0 0])
 clear h
 have hm1 := mwnum c
 go_enter Tryz.func35, Tryz.ntmps35
 go_wp2_with fail
 refine (cwnum B b c 0 _ _ HS0.out.ob (K0.out.max (by omega))).mono ?_
 rw [E0.out]
 rintro e w1 ⟨he, h1, h2⟩
 rw [he.out]
 clear he
 have HS1 := Hd (HS0.out.call h1 h2)
 have hb := HS1.out.bx
 have y1 : _ = some ((.int .i64 n1) : Value) := hb.cell 1
 have y2 : _ = some ((.int .i64 n2) : Value) := hb.cell 2
 have y3 : _ = some ((.int .i64 n3) : Value) := hb.cell 3
 have zz := hb.lt
 clear hb h1 h2 HS0
 go_wp2_with fail
 refine (w_id B b c n1 n2 n3 _ _ _ _ HS1.out.ob E1.out K1.out (by omega)).mono ?_
 rintro e w2 ⟨he, h1, h2⟩
 rw [he.out]
 clear he y1 y2 y3 zz
 have HC := Hd (HS1.out.call h1 h2)
 clear h1 h2 HS1
 go_wp2_with (refine wpList_store_bk rfl _ _ _ rfl w.heap.size 1 rfl _ [.int .i64 n1, .int .i64 n2, .int .i64 n3] rfl rfl (by kernel_rfl) 61 [.bool false, .int .i64 n1, .int .i64 n2, .int .i64 n3, .int .i64 n4, .int .i64 n5, .int .i64 n6, .int .i64 n7, .int .i64 n8, .int .i64 n9, .int .i64 n10, .int .i64 n11, .string n12, .string n13, .int .i64 n14, .int .i64 n15, .int .i64 n16, .int .i64 n17, .slice a18 m18 c18, .int .i64 n19, .slice a20 m20 c20, .slice a21 m21 c21, .slice a22 m22 c22] [.bool false, .int .i64 n1, .int .i64 n2, .int .i64 n3, .int .i64 n4, .int .i64 n5, .int .i64 n6, .int .i64 n7, .int .i64 n8, .int .i64 n9, .int .i64 n10, .int .i64 n11, .string n12, .string n13, .int .i64 n14, .int .i64 n15, .int .i64 n16, .int .i64 n17, .slice a18 m18 c18, .int .i64 n19, .slice a20 m20 c20, .slice a21 m21 c21, .slice a22 m22 c22] HC.out.bx (by simp) rfl rfl ?_)
 intro v2 hsx hb
 have HS2 := Hd (HC.out.storeS hsx hb)
 have y4 : _ = some ((.int .i64 n4) : Value) := hb.cell 4
 have y5 : _ = some ((.int .i64 n5) : Value) := hb.cell 5
 have y6 : _ = some ((.int .i64 n6) : Value) := hb.cell 6
 have y7 : _ = some ((.int .i64 n7) : Value) := hb.cell 7
 have y8 : _ = some ((.int .i64 n8) : Value) := hb.cell 8
 have y9 : _ = some ((.int .i64 n9) : Value) := hb.cell 9
 have y10 : _ = some ((.int .i64 n10) : Value) := hb.cell 10
 have y11 : _ = some ((.int .i64 n11) : Value) := hb.cell 11
 have y12 : _ = some ((.string n12) : Value) := hb.cell 12
 have y13 : _ = some ((.string n13) : Value) := hb.cell 13
 have y14 : _ = some ((.int .i64 n14) : Value) := hb.cell 14
 have y15 : _ = some ((.int .i64 n15) : Value) := hb.cell 15
 have y16 : _ = some ((.int .i64 n16) : Value) := hb.cell 16
 have y17 : _ = some ((.int .i64 n17) : Value) := hb.cell 17
 have y18 : _ = some ((.slice a18 m18 c18) : Value) := hb.cell 18
 have zz := hb.lt
 clear hsx hb HC
 go_wp2_with fail
 refine (w_ins B b c n4 n5 n6 n7 n8 n9 n10 n11 n12 n13 n14 n15 n16 n17 a18 m18 c18 rs18 l18 _ _ _ W _ HS2.out.ob (HBW.out.trans (HS2.out.ft.low.mono HWB.out)) HWB.out E2.out K2.out (by omega) hs12 hs13 HR.out).mono ?_
 rintro e w3 ⟨b18, d18, f18, he, h1, h2⟩
 rw [he.out]
 clear he zz y4 y5 y6 y7 y8 y9 y10 y11 y12 y13 y14 y15 y16 y17 y18
 have HC := Hd (HS2.out.call h1 h2)
 clear h1 h2 HS2
 go_wp2_with (refine wpList_store_bk rfl _ _ _ rfl w.heap.size 4 rfl _ [.int .i64 n4, .int .i64 n5, .int .i64 n6, .int .i64 n7, .int .i64 n8, .int .i64 n9, .int .i64 n10, .int .i64 n11, .string n12, .string n13, .int .i64 n14, .int .i64 n15, .int .i64 n16, .int .i64 n17, .slice b18 d18 f18] rfl rfl (by kernel_rfl) 61 [.bool false, .int .i64 n1, .int .i64 n2, .int .i64 n3, .int .i64 n4, .int .i64 n5, .int .i64 n6, .int .i64 n7, .int .i64 n8, .int .i64 n9, .int .i64 n10, .int .i64 n11, .string n12, .string n13, .int .i64 n14, .int .i64 n15, .int .i64 n16, .int .i64 n17, .slice a18 m18 c18, .int .i64 n19, .slice a20 m20 c20, .slice a21 m21 c21, .slice a22 m22 c22] [.bool false, .int .i64 n1, .int .i64 n2, .int .i64 n3, .int .i64 n4, .int .i64 n5, .int .i64 n6, .int .i64 n7, .int .i64 n8, .int .i64 n9, .int .i64 n10, .int .i64 n11, .string n12, .string n13, .int .i64 n14, .int .i64 n15, .int .i64 n16, .int .i64 n17, .slice b18 d18 f18, .int .i64 n19, .slice a20 m20 c20, .slice a21 m21 c21, .slice a22 m22 c22] HC.out.bx (by simp) rfl rfl ?_)
 intro v3 hsx hb
 have HS3 := Hd (HC.out.storeS hsx hb)
 clear hsx HC
 have HHb := Hd hb
 have HHr := Hd HS3.out.rs
 clear hb
 go_wp2_with (first | (refine wpList_load_row rfl _ _ rfl w.heap.size rfl 61 _ (0, 0) _ HHb.out Tryz.underlying61 rfl (by kernel_rfl) ?_) | (refine wpList_store_bk rfl _ _ _ rfl (w.heap.size + 1) 0 rfl _ [.bool false, .int .i64 n1, .int .i64 n2, .int .i64 n3, .int .i64 n4, .int .i64 n5, .int .i64 n6, .int .i64 n7, .int .i64 n8, .int .i64 n9, .int .i64 n10, .int .i64 n11, .string n12, .string n13, .int .i64 n14, .int .i64 n15, .int .i64 n16, .int .i64 n17, .slice b18 d18 f18, .int .i64 n19, .slice a20 m20 c20, .slice a21 m21 c21, .slice a22 m22 c22] rfl rfl (by kernel_rfl) 61 [.bool false, .int .i64 0, .int .i64 0, .int .i64 0, .int .i64 0, .int .i64 0, .int .i64 0, .int .i64 0, .int .i64 0, .int .i64 0, .int .i64 0, .int .i64 0, .string ⟨#[]⟩, .string ⟨#[]⟩, .int .i64 0, .int .i64 0, .int .i64 0, .int .i64 0, .slice none 0 0, .int .i64 0, .slice none 0 0, .slice none 0 0, .slice none 0 0] [.bool false, .int .i64 n1, .int .i64 n2, .int .i64 n3, .int .i64 n4, .int .i64 n5, .int .i64 n6, .int .i64 n7, .int .i64 n8, .int .i64 n9, .int .i64 n10, .int .i64 n11, .string n12, .string n13, .int .i64 n14, .int .i64 n15, .int .i64 n16, .int .i64 n17, .slice b18 d18 f18, .int .i64 n19, .slice a20 m20 c20, .slice a21 m21 c21, .slice a22 m22 c22] HHr.out (by simp) rfl rfl ?_))
 intro wf hsx hb
 have HO2 := Hd (HS3.out.resultS hsx)
 have HF2 := Hd (HS3.out.toStB.resultS hsx)
 have hb' : wf.heap[w.heap.size + 1]? = some (.cells _ _ (0, 0)) := hb
 have HB := Hd hb'
 clear hb hb' hsx HHb HHr
 go_wp2_with fail
 exact bodyPost_ret (results_cell_row rfl _ _ (w.heap.size + 1) _ _ _ _ rfl HB.out Tryz.underlying61 rfl (by kernel_rfl)) rfl ⟨_, rfl, HO2.out, HF2.out⟩
def R_rec (rs : List Value) (L18 : List Id3) (ss : List Value) (B b c : Nat) (s : RSt) (w : World) (e : Ending) (w' : World) : Prop := ∃ (b18 : Option Addr) (d18 f18 : Nat), Hid (e = .returned (.agg (rs ++ [Value.slice b18 d18 f18] ++ ss).toArray)) ∧ OwnR KI (plainR idE) w' w.heap.size (.slice b18 d18 f18) L18 ∧ RO w' B b c s ∧ Ft B b c w w'
theorem r_rec0 (B b c : Nat) (n1 : Int) (n2 : Int) (n3 : Int) (n4 : Int) (n5 : Int) (n6 : Int) (n7 : Int) (n8 : Int) (n9 : Int) (n10 : Int) (n11 : Int) (n12 : ByteArray) (n13 : ByteArray) (n14 : Int) (n15 : Int) (n16 : Int) (n17 : Int) (a18 : Option Addr) (m18 c18 : Nat) (n19 : Int) (a20 : Option Addr) (m20 c20 : Nat) (a21 : Option Addr) (m21 c21 : Nat) (a22 : Option Addr) (m22 c22 : Nat) (r1 : Int) (r2 : Int) (r3 : Int) (r4 : Int) (r5 : Int) (r6 : Int) (r7 : Int) (r8 : Int) (r9 : Int) (r10 : Int) (r11 : Int) (r12 : ByteArray) (r13 : ByteArray) (r14 : Int) (r15 : Int) (r16 : Int) (r17 : Int) (l18 : List Id3) (s s1 s2 s' : RSt) (w : World) (h : RO w B b c s) (hE0 : gNum s = (0, s1)) (hE1 : idC.rd s1 = ((r1, r2, r3), s2)) (hE2 : inC.rd s2 = ((r4, (r5, r6), (r7, r8), (r9, r10, r11, r12, r13, r14, r15, r16), r17, l18), s')) :
  Calls Tryz.prog 35 #[fR c, .agg #[.bool false, .int .i64 n1, .int .i64 n2, .int .i64 n3, .int .i64 n4, .int .i64 n5, .int .i64 n6, .int .i64 n7, .int .i64 n8, .int .i64 n9, .int .i64 n10, .int .i64 n11, .string n12, .string n13, .int .i64 n14, .int .i64 n15, .int .i64 n16, .int .i64 n17, .slice a18 m18 c18, .int .i64 n19, .slice a20 m20 c20, .slice a21 m21 c21, .slice a22 m22 c22]] w (R_rec [.bool false, .int .i64 r1, .int .i64 r2, .int .i64 r3, .int .i64 r4, .int .i64 r5, .int .i64 r6, .int .i64 r7, .int .i64 r8, .int .i64 r9, .int .i64 r10, .int .i64 r11, .string r12, .string r13, .int .i64 r14, .int .i64 r15, .int .i64 r16, .int .i64 r17] l18 [.int .i64 n19, .slice a20 m20 c20, .slice a21 m21 c21, .slice a22 m22 c22] B b c s' w) := by
 have E0 := Hd hE0
 have E1 := Hd hE1
 have E2 := Hd hE2
 clear hE0 hE1 hE2
 have HS0 : Hid (StR w ((w.alloc (.cells #[.bool false, .int .i64 n1, .int .i64 n2, .int .i64 n3, .int .i64 n4, .int .i64 n5, .int .i64 n6, .int .i64 n7, .int .i64 n8, .int .i64 n9, .int .i64 n10, .int .i64 n11, .string n12, .string n13, .int .i64 n14, .int .i64 n15, .int .i64 n16, .int .i64 n17, .slice a18 m18 c18, .int .i64 n19, .slice a20 m20 c20, .slice a21 m21 c21, .slice a22 m22 c22] 61)).alloc (.cells #[.bool false, .int .i64 0, .int .i64 0, .int .i64 0, .int .i64 0, .int .i64 0, .int .i64 0, .int .i64 0, .int .i64 0, .int .i64 0, .int .i64 0, .int .i64 0, .string ⟨#[]⟩, .string ⟨#[]⟩, .int .i64 0, .int .i64 0, .int .i64 0, .int .i64 0, .slice none 0 0, .int .i64 0, .slice none 0 0, .slice none 0 0, .slice none 0 0] 61)) B b c w.heap.size 61 [.bool false, .int .i64 n1, .int .i64 n2, .int .i64 n3, .int .i64 n4, .int .i64 n5, .int .i64 n6, .int .i64 n7, .int .i64 n8, .int .i64 n9, .int .i64 n10, .int .i64 n11, .string n12, .string n13, .int .i64 n14, .int .i64 n15, .int .i64 n16, .int .i64 n17, .slice a18 m18 c18, .int .i64 n19, .slice a20 m20 c20, .slice a21 m21 c21, .slice a22 m22 c22] [.bool false, .int .i64 0, .int .i64 0, .int .i64 0, .int .i64 0, .int .i64 0, .int .i64 0, .int .i64 0, .int .i64 0, .int .i64 0, .int .i64 0, .int .i64 0, .string ⟨#[]⟩, .string ⟨#[]⟩, .int .i64 0, .int .i64 0, .int .i64 0, .int .i64 0, .slice none 0 0, .int .i64 0, .slice none 0 0, .slice none 0 0, .slice none 0 0] s) := Hd (StR.start h 61 (by decide) [.bool false, .int .i64 n1, .int .i64 n2, .int .i64 n3, .int .i64 n4, .int .i64 n5, .int .i64 n6, .int .i64 n7, .int .i64 n8, .int .i64 n9, .int .i64 n10, .int .i64 n11, .string n12, .string n13, .int .i64 n14, .int .i64 n15, .int .i64 n16, .int .i64 n17, .slice a18 m18 c18, .int .i64 n19, .slice a20 m20 c20, .slice a21 m21 c21, .slice a22 m22 c22] [.bool false, .int .i64 0, .int .i64 0, .int .i64 0, .int .i64 0, .int .i64 0, .int .i64 0, .int .i64 0, .int .i64 0, .int .i64 0, .int .i64 0, .int .i64 0, .string ⟨#[]⟩, .string ⟨#[]⟩, .int .i64 0, .int .i64 0, .int .i64 0, .int .i64 0, .slice none 0 0, .int .i64 0, .slice none 0 0, .slice none 0 0, .slice none 0 0])
 clear h
 have hm1 := mrnum c
 go_enter Tryz.func35, Tryz.ntmps35
 go_wp2_with fail
 refine (crnum B b c 0 _ _ HS0.out.ob).mono ?_
 rw [E0.out]
 rintro e w1 ⟨he, h1, h2⟩
 rw [he.out]
 clear he
 have HS1 := Hd (HS0.out.call h1 h2)
 have hb := HS1.out.bx
 have y1 : _ = some ((.int .i64 n1) : Value) := hb.cell 1
 have y2 : _ = some ((.int .i64 n2) : Value) := hb.cell 2
 have y3 : _ = some ((.int .i64 n3) : Value) := hb.cell 3
 have zz := hb.lt
 clear hb h1 h2 HS0
 go_wp2_with fail
 refine (r_id B b c n1 n2 n3 r1 r2 r3 _ _ _ HS1.out.ob E1.out).mono ?_
 rintro e w2 ⟨he, h1, h2⟩
 rw [he.out]
 clear he y1 y2 y3 zz
 have HC := Hd (HS1.out.call h1 h2)
 clear h1 h2 HS1
 go_wp2_with (refine wpList_store_bk rfl _ _ _ rfl w.heap.size 1 rfl _ [.int .i64 r1, .int .i64 r2, .int .i64 r3] rfl rfl (by kernel_rfl) 61 [.bool false, .int .i64 n1, .int .i64 n2, .int .i64 n3, .int .i64 n4, .int .i64 n5, .int .i64 n6, .int .i64 n7, .int .i64 n8, .int .i64 n9, .int .i64 n10, .int .i64 n11, .string n12, .string n13, .int .i64 n14, .int .i64 n15, .int .i64 n16, .int .i64 n17, .slice a18 m18 c18, .int .i64 n19, .slice a20 m20 c20, .slice a21 m21 c21, .slice a22 m22 c22] [.bool false, .int .i64 r1, .int .i64 r2, .int .i64 r3, .int .i64 n4, .int .i64 n5, .int .i64 n6, .int .i64 n7, .int .i64 n8, .int .i64 n9, .int .i64 n10, .int .i64 n11, .string n12, .string n13, .int .i64 n14, .int .i64 n15, .int .i64 n16, .int .i64 n17, .slice a18 m18 c18, .int .i64 n19, .slice a20 m20 c20, .slice a21 m21 c21, .slice a22 m22 c22] HC.out.bx (by simp) rfl rfl ?_)
 intro v2 hsx hb
 have HS2 := Hd (HC.out.storeS hsx hb)
 have y4 : _ = some ((.int .i64 n4) : Value) := hb.cell 4
 have y5 : _ = some ((.int .i64 n5) : Value) := hb.cell 5
 have y6 : _ = some ((.int .i64 n6) : Value) := hb.cell 6
 have y7 : _ = some ((.int .i64 n7) : Value) := hb.cell 7
 have y8 : _ = some ((.int .i64 n8) : Value) := hb.cell 8
 have y9 : _ = some ((.int .i64 n9) : Value) := hb.cell 9
 have y10 : _ = some ((.int .i64 n10) : Value) := hb.cell 10
 have y11 : _ = some ((.int .i64 n11) : Value) := hb.cell 11
 have y12 : _ = some ((.string n12) : Value) := hb.cell 12
 have y13 : _ = some ((.string n13) : Value) := hb.cell 13
 have y14 : _ = some ((.int .i64 n14) : Value) := hb.cell 14
 have y15 : _ = some ((.int .i64 n15) : Value) := hb.cell 15
 have y16 : _ = some ((.int .i64 n16) : Value) := hb.cell 16
 have y17 : _ = some ((.int .i64 n17) : Value) := hb.cell 17
 have y18 : _ = some ((.slice a18 m18 c18) : Value) := hb.cell 18
 have zz := hb.lt
 clear hsx hb HC
 go_wp2_with fail
 refine (r_ins B b c n4 n5 n6 n7 n8 n9 n10 n11 n12 n13 n14 n15 n16 n17 a18 m18 c18 r4 r5 r6 r7 r8 r9 r10 r11 r12 r13 r14 r15 r16 r17 l18 _ _ _ HS2.out.ob E2.out).mono ?_
 rintro e w3 ⟨b18, d18, f18, he, hw18, h1, h2⟩
 rw [he.out]
 clear he zz y4 y5 y6 y7 y8 y9 y10 y11 y12 y13 y14 y15 y16 y17 y18
 have HC := Hd (HS2.out.call h1 h2)
 have HA := Hd (hw18.base (M := w.heap.size + 2) (by have := HS2.out.rs.lt; omega))
 clear h1 h2 HS2 hw18
 go_wp2_with (refine wpList_store_bk rfl _ _ _ rfl w.heap.size 4 rfl _ [.int .i64 r4, .int .i64 r5, .int .i64 r6, .int .i64 r7, .int .i64 r8, .int .i64 r9, .int .i64 r10, .int .i64 r11, .string r12, .string r13, .int .i64 r14, .int .i64 r15, .int .i64 r16, .int .i64 r17, .slice b18 d18 f18] rfl rfl (by kernel_rfl) 61 [.bool false, .int .i64 r1, .int .i64 r2, .int .i64 r3, .int .i64 n4, .int .i64 n5, .int .i64 n6, .int .i64 n7, .int .i64 n8, .int .i64 n9, .int .i64 n10, .int .i64 n11, .string n12, .string n13, .int .i64 n14, .int .i64 n15, .int .i64 n16, .int .i64 n17, .slice a18 m18 c18, .int .i64 n19, .slice a20 m20 c20, .slice a21 m21 c21, .slice a22 m22 c22] [.bool false, .int .i64 r1, .int .i64 r2, .int .i64 r3, .int .i64 r4, .int .i64 r5, .int .i64 r6, .int .i64 r7, .int .i64 r8, .int .i64 r9, .int .i64 r10, .int .i64 r11, .string r12, .string r13, .int .i64 r14, .int .i64 r15, .int .i64 r16, .int .i64 r17, .slice b18 d18 f18, .int .i64 n19, .slice a20 m20 c20, .slice a21 m21 c21, .slice a22 m22 c22] HC.out.bx (by simp) rfl rfl ?_)
 intro v3 hsx hb
 have HS3 := Hd (HC.out.storeS hsx hb)
 have HQ := Hd (HA.out.sx hsx (by omega))
 clear hsx HC HA
 have HHb := Hd hb
 have HHr := Hd HS3.out.rs
 clear hb
 go_wp2_with (first | (refine wpList_load_row rfl _ _ rfl w.heap.size rfl 61 _ (0, 0) _ HHb.out Tryz.underlying61 rfl (by kernel_rfl) ?_) | (refine wpList_store_bk rfl _ _ _ rfl (w.heap.size + 1) 0 rfl _ [.bool false, .int .i64 r1, .int .i64 r2, .int .i64 r3, .int .i64 r4, .int .i64 r5, .int .i64 r6, .int .i64 r7, .int .i64 r8, .int .i64 r9, .int .i64 r10, .int .i64 r11, .string r12, .string r13, .int .i64 r14, .int .i64 r15, .int .i64 r16, .int .i64 r17, .slice b18 d18 f18, .int .i64 n19, .slice a20 m20 c20, .slice a21 m21 c21, .slice a22 m22 c22] rfl rfl (by kernel_rfl) 61 [.bool false, .int .i64 0, .int .i64 0, .int .i64 0, .int .i64 0, .int .i64 0, .int .i64 0, .int .i64 0, .int .i64 0, .int .i64 0, .int .i64 0, .int .i64 0, .string ⟨#[]⟩, .string ⟨#[]⟩, .int .i64 0, .int .i64 0, .int .i64 0, .int .i64 0, .slice none 0 0, .int .i64 0, .slice none 0 0, .slice none 0 0, .slice none 0 0] [.bool false, .int .i64 r1, .int .i64 r2, .int .i64 r3, .int .i64 r4, .int .i64 r5, .int .i64 r6, .int .i64 r7, .int .i64 r8, .int .i64 r9, .int .i64 r10, .int .i64 r11, .string r12, .string r13, .int .i64 r14, .int .i64 r15, .int .i64 r16, .int .i64 r17, .slice b18 d18 f18, .int .i64 n19, .slice a20 m20 c20, .slice a21 m21 c21, .slice a22 m22 c22] HHr.out (by simp) rfl rfl ?_))
 intro wf hsx hb
 have HO2 := Hd (HS3.out.resultS hsx)
 have HF2 := Hd (HS3.out.toStB.resultS hsx)
 have HQ2 := Hd ((HQ.out.sx hsx (by omega)).base (M := w.heap.size) (by omega))
 have hb' : wf.heap[w.heap.size + 1]? = some (.cells _ _ (0, 0)) := hb
 have HB := Hd hb'
 clear hb hb' hsx HHb HHr
 go_wp2_with fail
 exact bodyPost_ret (results_cell_row rfl _ _ (w.heap.size + 1) _ _ _ _ rfl HB.out Tryz.underlying61 rfl (by kernel_rfl)) rfl ⟨b18, d18, f18, rfl, HQ2.out, HO2.out, HF2.out⟩
section
variable {P : Program} {ops : Array Oper} {rest : List Oper} {o : Oper} {a : Act} {w : World} {Q : Exit → Act → World → Prop}
/-- A whole variable is loaded, also behind a guard. -/
theorem wpList_load_rowG (hw : Region.wanted o (yielded ops a.tmps) = true) (ty : TypeId) (x : Operand) (ho : o.op = .load ty x) (g : Nat) (hx : a.eval x = .pointer (some ⟨g, 0, none⟩)) (t : TypeId) (cs : Array Value) (fr : Nat × Nat) (d : TypeDesc) (hg : w.heap[g]? = some (.cells cs t fr))
  (hu : P.underlying ty = some d) (hd : (match d with | .struct _ | .array _ _ => true | _ => false) = true) (hi : (P.info? ty).map (·.size) = some cs.size)
  (h : wpList P ops Q rest (a.put o.dst (.agg cs)) w) : wpList P ops Q (o :: rest) a w := by
 refine wpList_value hw (.agg cs) w ?_ h
 unfold execOp
 simp only [ho, hx, Instr.loadAt, Instr.sureAddr, Sem.run_bind, Sem.run_pure, Result.andThen_ok, run_loadVar_row w g t ty cs fr d hg hu hd hi]
end
abbrev Rec4 := Bool × Id3 × Ins × Snp
def zSnp : Snp := ((0, []), [], [])
def z23 : Array Value := #[.bool false, .int .i64 0, .int .i64 0, .int .i64 0, .int .i64 0, .int .i64 0, .int .i64 0, .int .i64 0, .int .i64 0, .int .i64 0, .int .i64 0, .int .i64 0, .string ⟨#[]⟩, .string ⟨#[]⟩, .int .i64 0, .int .i64 0, .int .i64 0, .int .i64 0, .slice none 0 0, .int .i64 0, .slice none 0 0, .slice none 0 0, .slice none 0 0]
theorem row_nil {k : Nat} {K : Knd Tryz.prog (Cls k)} {α : Type} {S : Shp α} {w : World} : RowIs K S w (.slice none 0 0) [] ([] : List α) := ⟨Knd.Rd.nil w, rfl, fun j h => by simp at h⟩
theorem sn_zero (w : World) : snS.is w (snV zSnp (.slice none 0 0) (.slice none 0 0) (.slice none 0 0)) zSnp := sn_mk (x := zSnp) row_nil row_nil row_nil
theorem bool_mk (w : World) (b : Bool) : boolS.is w [.bool b] b := rfl
theorem rc_mk {w : World} {x : Rec4} {c1 c2 : List Value} (h1 : inS.is w c1 x.2.2.1) (h2 : snS.is w c2 x.2.2.2) : rcS.is w ([.bool x.1] ++ (idE x.2.1 ++ (c1 ++ c2))) x := by
 have hid : idS.is w (idE x.2.1) x.2.1 := rfl
 exact pairS_mk (bool_mk w x.1) (pairS_mk hid (pairS_mk h1 h2))
/-- The cells of a record. -/
theorem rc_is {W : World} {cs : List Value} {x : Rec4} (h : rcS.is W cs x) : ∃ a0 m0 c0 rs0 a1 m1 c1 rs1 a2 m2 c2 rs2 a3 m3 c3 rs3, cs = [.bool x.1] ++ (idE x.2.1 ++ (inV x.2.2.1 (.slice a0 m0 c0) ++ snV x.2.2.2 (.slice a1 m1 c1) (.slice a2 m2 c2) (.slice a3 m3 c3))) ∧ x.2.2.1.2.2.2.1.2.2.2.1.size ≤ maxLen ∧ x.2.2.1.2.2.2.1.2.2.2.2.1.size ≤ maxLen ∧ RowIs KI idS W (.slice a0 m0 c0) rs0 x.2.2.1.2.2.2.2.2 ∧ RowIs KN numS W (.slice a1 m1 c1) rs1 x.2.2.2.1.2 ∧ RowIs KE enS W (.slice a2 m2 c2) rs2 x.2.2.2.2.1 ∧ RowIs KZ seS W (.slice a3 m3 c3) rs3 x.2.2.2.2.2 := by
 obtain ⟨_, _, e0, h0, _, _, e1, h1, _, _, e2, hi, hs⟩ := h
 obtain ⟨a0, m0, c0, rs0, g0, z4, z5, k0⟩ := in_is hi
 obtain ⟨a1, m1, c1, rs1, a2, m2, c2, rs2, a3, m3, c3, rs3, g1, k1, k2, k3⟩ := sn_is hs
 have h1 : _ = idE _ := h1
 subst h0 h1 g0 g1 e2 e1
 exact ⟨a0, m0, c0, rs0, a1, m1, c1, rs1, a2, m2, c2, rs2, a3, m3, c3, rs3, e0, z4, z5, k0, k1, k2, k3⟩
theorem rc_size {W : World} {cs : Array Value} {x : Rec4} (h : rcS.is W cs.toList x) : cs.size = 23 := by
 obtain ⟨a0, m0, c0, rs0, a1, m1, c1, rs1, a2, m2, c2, rs2, a3, m3, c3, rs3, hcs, _⟩ := rc_is h
 have := congrArg List.length hcs
 simpa [inV, snV, idE] using this
def rc0Rd (s : RSt) : Rec4 × RSt := ((false, (idC.rd (gNum s).2).1, (inC.rd (idC.rd (gNum s).2).2).1, zSnp), (inC.rd (idC.rd (gNum s).2).2).2)
def rc0Fs (x : Rec4) : List Fd := .num 0 :: (idC.fs x.2.1 ++ inC.fs x.2.2.1)
/-- The record that a reader has read, if all of it may be. -/
def RrP (x : Rec4) (B b c : Nat) (s : RSt) (w : World) (e : Ending) (w' : World) : Prop := ∃ cs : Array Value, Hid (e = .returned (.agg cs)) ∧ cs.size = 23 ∧ cs.all (·.oneCell') = true ∧ (∀ w'' : World, (∀ k, w.heap.size ≤ k → k < w'.heap.size → w''.heap[k]? = w'.heap[k]?) → Oks (rc0Fs x) → rcS.is w'' cs.toList x) ∧ RO w' B b c s ∧ Ft B b c w w'
theorem r_recI (B b c : Nat) (x : Rec4) (s s' : RSt) (w : World) (h : RO w B b c s) (h0 : (gNum s).1 = 0) (hE : rc0Rd s = (x, s')) : Calls Tryz.prog 35 #[fR c, .agg z23] w (RrP x B b c s' w) := by
 unfold rc0Rd at hE
 obtain ⟨k, s1, hk⟩ : ∃ x y, gNum s = (x, y) := ⟨_, _, rfl⟩
 rw [hk] at h0 hE
 simp only at h0 hE
 subst h0
 obtain ⟨⟨r1, r2, r3⟩, s2, h1⟩ : ∃ x y, idC.rd s1 = (x, y) := ⟨_, _, rfl⟩
 rw [h1] at hE
 simp only at hE
 obtain ⟨⟨r4, ⟨r5, r6⟩, ⟨r7, r8⟩, ⟨r9, r10, r11, r12, r13, r14, r15, r16⟩, r17, l18⟩, s3, h2⟩ : ∃ x y, inC.rd s2 = (x, y) := ⟨_, _, rfl⟩
 rw [h2] at hE
 simp only [Prod.mk.injEq] at hE
 obtain ⟨rfl, rfl⟩ := hE
 refine (r_rec0 B b c 0 0 0 0 0 0 0 0 0 0 0 ⟨#[]⟩ ⟨#[]⟩ 0 0 0 0 none 0 0 0 none 0 0 none 0 0 none 0 0 r1 r2 r3 r4 r5 r6 r7 r8 r9 r10 r11 r12 r13 r14 r15 r16 r17 l18 s s1 s2 s3 w h hk h1 h2).mono ?_
 rintro e w2 ⟨b18, d18, f18, he, h18, g1, g2⟩
 refine ⟨_, he, rfl, (by rw [← Array.all_toList]; rfl), fun w'' hk ho => ?_, g1, g2⟩
 have hk' : ∀ (T : TypeId) (k : Nat), w.heap.size ≤ k → (Ty w2 k 9 ∨ Ty w2 k T) → w''.heap[k]? = w2.heap[k]? := fun T k h hq => hk k h (by rcases hq with ⟨cs, fr, q⟩ | ⟨cs, fr, q⟩ <;> exact (Array.getElem?_eq_some_iff.1 q).1)
 replace h18 := h18.keep (hk' _)
 simp only [rc0Fs, inC, cmC, oks_cons, pairC_fs, oks_app] at ho
 obtain ⟨_, _, _, _, _, ⟨_, _, _, t16, t17, _⟩, _⟩ := ho
 obtain ⟨rs18, g18⟩ := OwnR.row (S := idS) h18 (fun cs x _ hq => hq)
 exact rc_mk (x := (false, (r1, r2, r3), (r4, (r5, r6), (r7, r8), (r9, r10, r11, r12, r13, r14, r15, r16), r17, l18), zSnp)) (in_mk (tx_max t16) (tx_max t17) g18) (sn_zero w'')
theorem rc0_inv (xs : List Int) (hb : BytL xs) (h0 : (gNum (xs, 0)).1 = 0) : (rc0Rd (xs, 0)).2.2 = 0 → Oks (rc0Fs (rc0Rd (xs, 0)).1) ∧ xs = eF (rc0Fs (rc0Rd (xs, 0)).1) ++ (rc0Rd (xs, 0)).2.1 := by
 intro h
 have key := (pairC numC (pairC idC inC)).inv xs hb h
 have e : ((pairC numC (pairC idC inC)).rd (xs, 0)).1.1 = 0 := h0
 rw [pairC_fs, numC_fs, e, pairC_fs] at key
 exact key
theorem rc0_sh (x : Rec4) {K : Nat} {st : Option (List Int)} (h : Sh K st) : Sh (K + 4000) (wrs st (rc0Fs x)) := by
 unfold rc0Fs
 rw [wrs_cons, wrs_app]
 exact (ShC.ins _ _ _ (ShC.id _ _ _ (h.one _))).le (by omega)
theorem w_recI (B b c : Nat) (cs : Array Value) (x : Rec4) (st : Option (List Int)) (K : Nat) (W w : World) (h : WO w B b c st) (hW : Below W.heap.size W w) (hWB : W.heap.size ≤ B) (hK : Sh K st) (hk : K + 4000 ≤ 20000000) (hs : rcS.is W cs.toList x) (h0 : x.1 = false) :
  Calls Tryz.prog 35 #[fW c, .agg cs] w (WUP B b c (wrs st (rc0Fs x)) w) := by
 obtain ⟨a18, m18, c18, rs18, a20, m20, c20, rs20, a21, m21, c21, rs21, a22, m22, c22, rs22, hcs, hs12, hs13, hr18, hr20, hr21, hr22⟩ := rc_is hs
 obtain ⟨n0, ⟨n1, n2, n3⟩, ⟨n4, ⟨n5, n6⟩, ⟨n7, n8⟩, ⟨n9, n10, n11, n12, n13, n14, n15, n16⟩, n17, l18⟩, ⟨n19, l20⟩, l21, l22⟩ := x
 have h0 : n0 = false := h0
 subst h0
 obtain rfl : cs = #[.bool false, .int .i64 n1, .int .i64 n2, .int .i64 n3, .int .i64 n4, .int .i64 n5, .int .i64 n6, .int .i64 n7, .int .i64 n8, .int .i64 n9, .int .i64 n10, .int .i64 n11, .string n12, .string n13, .int .i64 n14, .int .i64 n15, .int .i64 n16, .int .i64 n17, .slice a18 m18 c18, .int .i64 n19, .slice a20 m20 c20, .slice a21 m21 c21, .slice a22 m22 c22] := by
  cases cs
  simpa [idE, inV, snV] using hcs
 simp only at hs12 hs13 hr18
 unfold maxLen at hs12 hs13
 refine (w_rec0 B b c n1 n2 n3 n4 n5 n6 n7 n8 n9 n10 n11 n12 n13 n14 n15 n16 n17 a18 m18 c18 n19 a20 m20 c20 a21 m21 c21 a22 m22 c22 rs18 l18 _ _ K W w h hW hWB rfl hK hk (by omega) (by omega) hr18).mono ?_
 rintro e w2 ⟨cs, he, h1, h2⟩
 exact ⟨_, he, h1, h2⟩
theorem RecIs.on {W w : World} {v : Value} {x : Rec4} (h : RecIs W v x) (hb : Below W.heap.size W w) : RecIs w v x := by
 obtain ⟨cs, e, h⟩ := h
 exact ⟨cs, e, rcS.keep h hb⟩
end Go.Proofs.YtnancdbkmompdaaGreat
