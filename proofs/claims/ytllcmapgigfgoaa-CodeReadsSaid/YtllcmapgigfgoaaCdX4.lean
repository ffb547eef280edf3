/-
  Package code: lists, and structs with lists, with a writer.
-/
import Derived.Test.YtllcmapgigfgoaaCdX3
import Derived.Test.YtllcmapgigfgoaaCdS
namespace Go.Proofs.Ytllcmapgigfgoaa
open Go.RowKit
set_option linter.unusedSimpArgs false
set_option linter.unusedVariables false

def W_msg (n0 : Int) (n1 : Int) (n2 : Int) (n3 : Int) (n4 : Int) (n5 : Int) (n6 : Int) (n7 : Int) (n8 : Int) (n9 : Int) (n10 : Int) (n11 : Int) (n12 : Int) (n13 : Int) (n14 : Int) (n15 : Int) (n16 : ByteArray) (n17 : ByteArray) (n18 : Int) (n19 : Int) (n20 : Int) (n21 : Int) (n23 : Int) (B b c : Nat) (st : Option (List Int)) (w : World) (e : Ending) (w' : World) : Prop := ∃ (b22 : Option Addr) (d22 f22 : Nat) (b24 : Option Addr) (d24 f24 : Nat) (b25 : Option Addr) (d25 f25 : Nat) (b26 : Option Addr) (d26 f26 : Nat), Hid (e = .returned (.agg #[.int .i64 n0, .int .i64 n1, .int .i64 n2, .int .i64 n3, .int .i64 n4, .int .i64 n5, .int .i64 n6, .int .i64 n7, .int .i64 n8, .int .i64 n9, .int .i64 n10, .int .i64 n11, .int .i64 n12, .int .i64 n13, .int .i64 n14, .int .i64 n15, .string n16, .string n17, .int .i64 n18, .int .i64 n19, .int .i64 n20, .int .i64 n21, .slice b22 d22 f22, .int .i64 n23, .slice b24 d24 f24, .slice b25 d25 f25, .slice b26 d26 f26])) ∧ WO w' B b c st ∧ Ft B b c w w'
set_option maxRecDepth 100000 in
set_option maxHeartbeats 40000000 in
theorem w_msg (B b c : Nat) (n0 : Int) (n1 : Int) (n2 : Int) (n3 : Int) (n4 : Int) (n5 : Int) (n6 : Int) (n7 : Int) (n8 : Int) (n9 : Int) (n10 : Int) (n11 : Int) (n12 : Int) (n13 : Int) (n14 : Int) (n15 : Int) (n16 : ByteArray) (n17 : ByteArray) (n18 : Int) (n19 : Int) (n20 : Int) (n21 : Int) (a22 : Option Addr) (m22 c22 : Nat) (n23 : Int) (a24 : Option Addr) (m24 c24 : Nat) (a25 : Option Addr) (m25 c25 : Nat) (a26 : Option Addr) (m26 c26 : Nat) (rs22 : List (Cls 3)) (l22 : List Id3) (rs24 : List (Cls 1)) (l24 : List Int) (rs25 : List (Cls 3)) (l25 : List Ent) (rs26 : List (Cls 6)) (l26 : List Ses) (st st' : Option (List Int)) (K : Nat) (W w : World) (h : WO w B b c st) (hW : Below W.heap.size W w) (hWB : W.heap.size ≤ B) (hE : wrs st (msC.fs (n0, n1, n2, (n3, n4, n5), (n6, n7), (n8, (n9, n10), (n11, n12), (n13, n14, n15, n16, n17, n18, n19, n20), (n21, l22)), ((n23, l24), l25, l26))) = st') (hK : Sh K st) (hk : K + 1061915 ≤ 20000000) (hs16 : n16.size ≤ 9223372036854775807) (hs17 : n17.size ≤ 9223372036854775807) (hr22 : RowIs KI idS W (.slice a22 m22 c22) rs22 l22) (hr24 : RowIs KN numS W (.slice a24 m24 c24) rs24 l24) (hr25 : RowIs KE enS W (.slice a25 m25 c25) rs25 l25) (hr26 : RowIs KZ seS W (.slice a26 m26 c26) rs26 l26) :
    Calls Try.prog 27 #[fW c, .agg #[.int .i64 n0, .int .i64 n1, .int .i64 n2, .int .i64 n3, .int .i64 n4, .int .i64 n5, .int .i64 n6, .int .i64 n7, .int .i64 n8, .int .i64 n9, .int .i64 n10, .int .i64 n11, .int .i64 n12, .int .i64 n13, .int .i64 n14, .int .i64 n15, .string n16, .string n17, .int .i64 n18, .int .i64 n19, .int .i64 n20, .int .i64 n21, .slice a22 m22 c22, .int .i64 n23, .slice a24 m24 c24, .slice a25 m25 c25, .slice a26 m26 c26]] w (W_msg n0 n1 n2 n3 n4 n5 n6 n7 n8 n9 n10 n11 n12 n13 n14 n15 n16 n17 n18 n19 n20 n21 n23 B b c st' w) := by
  obtain ⟨st1, he0⟩ : ∃ x, wr1 st (.num n0) = x := ⟨_, rfl⟩
  obtain ⟨st2, he1⟩ : ∃ x, wr1 st1 (.num n1) = x := ⟨_, rfl⟩
  obtain ⟨st3, he2⟩ : ∃ x, wr1 st2 (.num n2) = x := ⟨_, rfl⟩
  obtain ⟨st4, he3⟩ : ∃ x, wrs st3 (idC.fs (n3, n4, n5)) = x := ⟨_, rfl⟩
  obtain ⟨st5, he4⟩ : ∃ x, wrs st4 (balC.fs (n6, n7)) = x := ⟨_, rfl⟩
  obtain ⟨st6, he5⟩ : ∃ x, wrs st5 (inC.fs (n8, (n9, n10), (n11, n12), (n13, n14, n15, n16, n17, n18, n19, n20), (n21, l22))) = x := ⟨_, rfl⟩
  obtain ⟨st7, he6⟩ : ∃ x, wrs st6 (snC.fs ((n23, l24), l25, l26)) = x := ⟨_, rfl⟩
  simp only [msC, pairC_fs, numC_fs, txtC_fs, wrs_app, wrs_one, he0, he1, he2, he3, he4, he5, he6] at hE
  subst hE
  have E0 := Lib.hid he0
  have E1 := Lib.hid he1
  have E2 := Lib.hid he2
  have E3 := Lib.hid he3
  have E4 := Lib.hid he4
  have E5 := Lib.hid he5
  have E6 := Lib.hid he6
  clear he0 he1 he2 he3 he4 he5 he6
  have K1 : Hid (Sh (K + 1) st1) := Lib.hid (by rw [← E0.out]; exact Sh.one hK _)
  have K2 : Hid (Sh (K + 2) st2) := Lib.hid (by rw [← E1.out]; exact Sh.one K1.out _)
  have K3 : Hid (Sh (K + 3) st3) := Lib.hid (by rw [← E2.out]; exact Sh.one K2.out _)
  have K4 : Hid (Sh (K + 6) st4) := Lib.hid (by rw [← E3.out]; exact ShC.id _ _ _ K3.out)
  have K5 : Hid (Sh (K + 8) st5) := Lib.hid (by rw [← E4.out]; exact ShC.bal _ _ _ K4.out)
  have K6 : Hid (Sh (K + 3095) st6) := Lib.hid (by rw [← E5.out]; exact ShC.ins _ _ _ K5.out)
  have K7 : Hid (Sh (K + 1061915) st7) := Lib.hid (by rw [← E6.out]; exact ShC.sn _ _ _ K6.out)
  have K0 := Lib.hid hK
  have HBW := Lib.hid hW
  have HWB := Lib.hid hWB
  have HRW22 := Lib.hid hr22
  have HRW24 := Lib.hid hr24
  have HRW25 := Lib.hid hr25
  have HRW26 := Lib.hid hr26
  clear hK hW hWB hr22 hr24 hr25 hr26
  have HS0 : Hid (StW w ((w.alloc (.cells #[.int .i64 n0, .int .i64 n1, .int .i64 n2, .int .i64 n3, .int .i64 n4, .int .i64 n5, .int .i64 n6, .int .i64 n7, .int .i64 n8, .int .i64 n9, .int .i64 n10, .int .i64 n11, .int .i64 n12, .int .i64 n13, .int .i64 n14, .int .i64 n15, .string n16, .string n17, .int .i64 n18, .int .i64 n19, .int .i64 n20, .int .i64 n21, .slice a22 m22 c22, .int .i64 n23, .slice a24 m24 c24, .slice a25 m25 c25, .slice a26 m26 c26] 44)).alloc (.cells #[.int .i64 0, .int .i64 0, .int .i64 0, .int .i64 0, .int .i64 0, .int .i64 0, .int .i64 0, .int .i64 0, .int .i64 0, .int .i64 0, .int .i64 0, .int .i64 0, .int .i64 0, .int .i64 0, .int .i64 0, .int .i64 0, .string ⟨#[]⟩, .string ⟨#[]⟩, .int .i64 0, .int .i64 0, .int .i64 0, .int .i64 0, .slice none 0 0, .int .i64 0, .slice none 0 0, .slice none 0 0, .slice none 0 0] 44)) B b c w.heap.size 44 [.int .i64 n0, .int .i64 n1, .int .i64 n2, .int .i64 n3, .int .i64 n4, .int .i64 n5, .int .i64 n6, .int .i64 n7, .int .i64 n8, .int .i64 n9, .int .i64 n10, .int .i64 n11, .int .i64 n12, .int .i64 n13, .int .i64 n14, .int .i64 n15, .string n16, .string n17, .int .i64 n18, .int .i64 n19, .int .i64 n20, .int .i64 n21, .slice a22 m22 c22, .int .i64 n23, .slice a24 m24 c24, .slice a25 m25 c25, .slice a26 m26 c26] [.int .i64 0, .int .i64 0, .int .i64 0, .int .i64 0, .int .i64 0, .int .i64 0, .int .i64 0, .int .i64 0, .int .i64 0, .int .i64 0, .int .i64 0, .int .i64 0, .int .i64 0, .int .i64 0, .int .i64 0, .int .i64 0, .string ⟨#[]⟩, .string ⟨#[]⟩, .int .i64 0, .int .i64 0, .int .i64 0, .int .i64 0, .slice none 0 0, .int .i64 0, .slice none 0 0, .slice none 0 0, .slice none 0 0] st) := Lib.hid (StW.start h 44 (by decide) [.int .i64 n0, .int .i64 n1, .int .i64 n2, .int .i64 n3, .int .i64 n4, .int .i64 n5, .int .i64 n6, .int .i64 n7, .int .i64 n8, .int .i64 n9, .int .i64 n10, .int .i64 n11, .int .i64 n12, .int .i64 n13, .int .i64 n14, .int .i64 n15, .string n16, .string n17, .int .i64 n18, .int .i64 n19, .int .i64 n20, .int .i64 n21, .slice a22 m22 c22, .int .i64 n23, .slice a24 m24 c24, .slice a25 m25 c25, .slice a26 m26 c26] [.int .i64 0, .int .i64 0, .int .i64 0, .int .i64 0, .int .i64 0, .int .i64 0, .int .i64 0, .int .i64 0, .int .i64 0, .int .i64 0, .int .i64 0, .int .i64 0, .int .i64 0, .int .i64 0, .int .i64 0, .int .i64 0, .string ⟨#[]⟩, .string ⟨#[]⟩, .int .i64 0, .int .i64 0, .int .i64 0, .int .i64 0, .slice none 0 0, .int .i64 0, .slice none 0 0, .slice none 0 0, .slice none 0 0])
  have HZ := Lib.hid (show w.heap.size + 2 ≤ ((w.alloc (.cells #[.int .i64 n0, .int .i64 n1, .int .i64 n2, .int .i64 n3, .int .i64 n4, .int .i64 n5, .int .i64 n6, .int .i64 n7, .int .i64 n8, .int .i64 n9, .int .i64 n10, .int .i64 n11, .int .i64 n12, .int .i64 n13, .int .i64 n14, .int .i64 n15, .string n16, .string n17, .int .i64 n18, .int .i64 n19, .int .i64 n20, .int .i64 n21, .slice a22 m22 c22, .int .i64 n23, .slice a24 m24 c24, .slice a25 m25 c25, .slice a26 m26 c26] 44)).alloc (.cells #[.int .i64 0, .int .i64 0, .int .i64 0, .int .i64 0, .int .i64 0, .int .i64 0, .int .i64 0, .int .i64 0, .int .i64 0, .int .i64 0, .int .i64 0, .int .i64 0, .int .i64 0, .int .i64 0, .int .i64 0, .int .i64 0, .string ⟨#[]⟩, .string ⟨#[]⟩, .int .i64 0, .int .i64 0, .int .i64 0, .int .i64 0, .slice none 0 0, .int .i64 0, .slice none 0 0, .slice none 0 0, .slice none 0 0] 44)).heap.size by simp)
  clear h
  have hm1 := mwnum c
  have hm2 := mwtext c
  go_enter Try.func27, Try.ntmps27
  go_wp2_with fail
  refine (w_nkind B b c n0 _ _ HS0.out.ob (K0.out.max (by omega))).mono ?_
  rw [E0.out]
  rintro e w1 ⟨he, h1, h2⟩
  rw [he.out]
  clear he
  have HC := Lib.hid (HS0.out.call h1 h2)
  clear h2 h1 HS0
  go_wp2_with (refine wpList_store_bk rfl _ _ _ rfl w.heap.size 0 rfl _ [.int .i64 n0] rfl rfl (by kernel_rfl) 44 [.int .i64 n0, .int .i64 n1, .int .i64 n2, .int .i64 n3, .int .i64 n4, .int .i64 n5, .int .i64 n6, .int .i64 n7, .int .i64 n8, .int .i64 n9, .int .i64 n10, .int .i64 n11, .int .i64 n12, .int .i64 n13, .int .i64 n14, .int .i64 n15, .string n16, .string n17, .int .i64 n18, .int .i64 n19, .int .i64 n20, .int .i64 n21, .slice a22 m22 c22, .int .i64 n23, .slice a24 m24 c24, .slice a25 m25 c25, .slice a26 m26 c26] [.int .i64 n0, .int .i64 n1, .int .i64 n2, .int .i64 n3, .int .i64 n4, .int .i64 n5, .int .i64 n6, .int .i64 n7, .int .i64 n8, .int .i64 n9, .int .i64 n10, .int .i64 n11, .int .i64 n12, .int .i64 n13, .int .i64 n14, .int .i64 n15, .string n16, .string n17, .int .i64 n18, .int .i64 n19, .int .i64 n20, .int .i64 n21, .slice a22 m22 c22, .int .i64 n23, .slice a24 m24 c24, .slice a25 m25 c25, .slice a26 m26 c26] HC.out.bx (by simp) rfl rfl ?_)
  intro v1 hsx hb
  have HS1 := Lib.hid (HC.out.storeS hsx hb)
  have y1 : _ = some ((.int .i64 n1) : Value) := hb.cell 1
  have zz := hb.lt
  clear hsx hb HC
  go_wp2_with fail
  refine (cwnum B b c n1 _ _ HS1.out.ob (K1.out.max (by omega))).mono ?_
  rw [E1.out]
  rintro e w2 ⟨he, h1, h2⟩
  rw [he.out]
  clear he y1 zz
  have HC := Lib.hid (HS1.out.call h1 h2)
  clear h2 h1 HS1
  go_wp2_with (refine wpList_store_bk rfl _ _ _ rfl w.heap.size 1 rfl _ [.int .i64 n1] rfl rfl (by kernel_rfl) 44 [.int .i64 n0, .int .i64 n1, .int .i64 n2, .int .i64 n3, .int .i64 n4, .int .i64 n5, .int .i64 n6, .int .i64 n7, .int .i64 n8, .int .i64 n9, .int .i64 n10, .int .i64 n11, .int .i64 n12, .int .i64 n13, .int .i64 n14, .int .i64 n15, .string n16, .string n17, .int .i64 n18, .int .i64 n19, .int .i64 n20, .int .i64 n21, .slice a22 m22 c22, .int .i64 n23, .slice a24 m24 c24, .slice a25 m25 c25, .slice a26 m26 c26] [.int .i64 n0, .int .i64 n1, .int .i64 n2, .int .i64 n3, .int .i64 n4, .int .i64 n5, .int .i64 n6, .int .i64 n7, .int .i64 n8, .int .i64 n9, .int .i64 n10, .int .i64 n11, .int .i64 n12, .int .i64 n13, .int .i64 n14, .int .i64 n15, .string n16, .string n17, .int .i64 n18, .int .i64 n19, .int .i64 n20, .int .i64 n21, .slice a22 m22 c22, .int .i64 n23, .slice a24 m24 c24, .slice a25 m25 c25, .slice a26 m26 c26] HC.out.bx (by simp) rfl rfl ?_)
  intro v2 hsx hb
  have HS2 := Lib.hid (HC.out.storeS hsx hb)
  have y2 : _ = some ((.int .i64 n2) : Value) := hb.cell 2
  have zz := hb.lt
  clear hsx hb HC
  go_wp2_with fail
  refine (cwnum B b c n2 _ _ HS2.out.ob (K2.out.max (by omega))).mono ?_
  rw [E2.out]
  rintro e w3 ⟨he, h1, h2⟩
  rw [he.out]
  clear he y2 zz
  have HC := Lib.hid (HS2.out.call h1 h2)
  clear h2 h1 HS2
  go_wp2_with (refine wpList_store_bk rfl _ _ _ rfl w.heap.size 2 rfl _ [.int .i64 n2] rfl rfl (by kernel_rfl) 44 [.int .i64 n0, .int .i64 n1, .int .i64 n2, .int .i64 n3, .int .i64 n4, .int .i64 n5, .int .i64 n6, .int .i64 n7, .int .i64 n8, .int .i64 n9, .int .i64 n10, .int .i64 n11, .int .i64 n12, .int .i64 n13, .int .i64 n14, .int .i64 n15, .string n16, .string n17, .int .i64 n18, .int .i64 n19, .int .i64 n20, .int .i64 n21, .slice a22 m22 c22, .int .i64 n23, .slice a24 m24 c24, .slice a25 m25 c25, .slice a26 m26 c26] [.int .i64 n0, .int .i64 n1, .int .i64 n2, .int .i64 n3, .int .i64 n4, .int .i64 n5, .int .i64 n6, .int .i64 n7, .int .i64 n8, .int .i64 n9, .int .i64 n10, .int .i64 n11, .int .i64 n12, .int .i64 n13, .int .i64 n14, .int .i64 n15, .string n16, .string n17, .int .i64 n18, .int .i64 n19, .int .i64 n20, .int .i64 n21, .slice a22 m22 c22, .int .i64 n23, .slice a24 m24 c24, .slice a25 m25 c25, .slice a26 m26 c26] HC.out.bx (by simp) rfl rfl ?_)
  intro v3 hsx hb
  have HS3 := Lib.hid (HC.out.storeS hsx hb)
  have y3 : _ = some ((.int .i64 n3) : Value) := hb.cell 3
  have y4 : _ = some ((.int .i64 n4) : Value) := hb.cell 4
  have y5 : _ = some ((.int .i64 n5) : Value) := hb.cell 5
  have zz := hb.lt
  clear hsx hb HC
  go_wp2_with fail
  refine (w_id B b c n3 n4 n5 _ _ _ _ HS3.out.ob E3.out K3.out (by omega) ).mono ?_
  rintro e w4 ⟨he, h1, h2⟩
  rw [he.out]
  clear he y3 y4 y5 zz
  have HC := Lib.hid (HS3.out.call h1 h2)
  clear h2 h1 HS3
  go_wp2_with (refine wpList_store_bk rfl _ _ _ rfl w.heap.size 3 rfl _ [.int .i64 n3, .int .i64 n4, .int .i64 n5] rfl rfl (by kernel_rfl) 44 [.int .i64 n0, .int .i64 n1, .int .i64 n2, .int .i64 n3, .int .i64 n4, .int .i64 n5, .int .i64 n6, .int .i64 n7, .int .i64 n8, .int .i64 n9, .int .i64 n10, .int .i64 n11, .int .i64 n12, .int .i64 n13, .int .i64 n14, .int .i64 n15, .string n16, .string n17, .int .i64 n18, .int .i64 n19, .int .i64 n20, .int .i64 n21, .slice a22 m22 c22, .int .i64 n23, .slice a24 m24 c24, .slice a25 m25 c25, .slice a26 m26 c26] [.int .i64 n0, .int .i64 n1, .int .i64 n2, .int .i64 n3, .int .i64 n4, .int .i64 n5, .int .i64 n6, .int .i64 n7, .int .i64 n8, .int .i64 n9, .int .i64 n10, .int .i64 n11, .int .i64 n12, .int .i64 n13, .int .i64 n14, .int .i64 n15, .string n16, .string n17, .int .i64 n18, .int .i64 n19, .int .i64 n20, .int .i64 n21, .slice a22 m22 c22, .int .i64 n23, .slice a24 m24 c24, .slice a25 m25 c25, .slice a26 m26 c26] HC.out.bx (by simp) rfl rfl ?_)
  intro v4 hsx hb
  have HS4 := Lib.hid (HC.out.storeS hsx hb)
  have y6 : _ = some ((.int .i64 n6) : Value) := hb.cell 6
  have y7 : _ = some ((.int .i64 n7) : Value) := hb.cell 7
  have zz := hb.lt
  clear hsx hb HC
  go_wp2_with fail
  refine (w_bal B b c n6 n7 _ _ _ _ HS4.out.ob E4.out K4.out (by omega) ).mono ?_
  rintro e w5 ⟨he, h1, h2⟩
  rw [he.out]
  clear he y6 y7 zz
  have HC := Lib.hid (HS4.out.call h1 h2)
  clear h2 h1 HS4
  go_wp2_with (refine wpList_store_bk rfl _ _ _ rfl w.heap.size 6 rfl _ [.int .i64 n6, .int .i64 n7] rfl rfl (by kernel_rfl) 44 [.int .i64 n0, .int .i64 n1, .int .i64 n2, .int .i64 n3, .int .i64 n4, .int .i64 n5, .int .i64 n6, .int .i64 n7, .int .i64 n8, .int .i64 n9, .int .i64 n10, .int .i64 n11, .int .i64 n12, .int .i64 n13, .int .i64 n14, .int .i64 n15, .string n16, .string n17, .int .i64 n18, .int .i64 n19, .int .i64 n20, .int .i64 n21, .slice a22 m22 c22, .int .i64 n23, .slice a24 m24 c24, .slice a25 m25 c25, .slice a26 m26 c26] [.int .i64 n0, .int .i64 n1, .int .i64 n2, .int .i64 n3, .int .i64 n4, .int .i64 n5, .int .i64 n6, .int .i64 n7, .int .i64 n8, .int .i64 n9, .int .i64 n10, .int .i64 n11, .int .i64 n12, .int .i64 n13, .int .i64 n14, .int .i64 n15, .string n16, .string n17, .int .i64 n18, .int .i64 n19, .int .i64 n20, .int .i64 n21, .slice a22 m22 c22, .int .i64 n23, .slice a24 m24 c24, .slice a25 m25 c25, .slice a26 m26 c26] HC.out.bx (by simp) rfl rfl ?_)
  intro v5 hsx hb
  have HS5 := Lib.hid (HC.out.storeS hsx hb)
  have y8 : _ = some ((.int .i64 n8) : Value) := hb.cell 8
  have y9 : _ = some ((.int .i64 n9) : Value) := hb.cell 9
  have y10 : _ = some ((.int .i64 n10) : Value) := hb.cell 10
  have y11 : _ = some ((.int .i64 n11) : Value) := hb.cell 11
  have y12 : _ = some ((.int .i64 n12) : Value) := hb.cell 12
  have y13 : _ = some ((.int .i64 n13) : Value) := hb.cell 13
  have y14 : _ = some ((.int .i64 n14) : Value) := hb.cell 14
  have y15 : _ = some ((.int .i64 n15) : Value) := hb.cell 15
  have y16 : _ = some ((.string n16) : Value) := hb.cell 16
  have y17 : _ = some ((.string n17) : Value) := hb.cell 17
  have y18 : _ = some ((.int .i64 n18) : Value) := hb.cell 18
  have y19 : _ = some ((.int .i64 n19) : Value) := hb.cell 19
  have y20 : _ = some ((.int .i64 n20) : Value) := hb.cell 20
  have y21 : _ = some ((.int .i64 n21) : Value) := hb.cell 21
  have y22 : _ = some ((.slice a22 m22 c22) : Value) := hb.cell 22
  have zz := hb.lt
  clear hsx hb HC
  go_wp2_with fail
  refine (w_ins B b c n8 n9 n10 n11 n12 n13 n14 n15 n16 n17 n18 n19 n20 n21 a22 m22 c22 rs22 l22 _ _ _ W _ HS5.out.ob (HBW.out.trans (HS5.out.ft.low.mono HWB.out)) HWB.out E5.out K5.out (by omega) hs16 hs17 HRW22.out).mono ?_
  rintro e w6 ⟨b22, d22, f22, he, h1, h2⟩
  rw [he.out]
  clear he y8 y9 y10 y11 y12 y13 y14 y15 y16 y17 y18 y19 y20 y21 y22 zz
  have HC := Lib.hid (HS5.out.call h1 h2)
  clear h2 h1 HS5
  go_wp2_with (refine wpList_store_bk rfl _ _ _ rfl w.heap.size 8 rfl _ [.int .i64 n8, .int .i64 n9, .int .i64 n10, .int .i64 n11, .int .i64 n12, .int .i64 n13, .int .i64 n14, .int .i64 n15, .string n16, .string n17, .int .i64 n18, .int .i64 n19, .int .i64 n20, .int .i64 n21, .slice b22 d22 f22] rfl rfl (by kernel_rfl) 44 [.int .i64 n0, .int .i64 n1, .int .i64 n2, .int .i64 n3, .int .i64 n4, .int .i64 n5, .int .i64 n6, .int .i64 n7, .int .i64 n8, .int .i64 n9, .int .i64 n10, .int .i64 n11, .int .i64 n12, .int .i64 n13, .int .i64 n14, .int .i64 n15, .string n16, .string n17, .int .i64 n18, .int .i64 n19, .int .i64 n20, .int .i64 n21, .slice a22 m22 c22, .int .i64 n23, .slice a24 m24 c24, .slice a25 m25 c25, .slice a26 m26 c26] [.int .i64 n0, .int .i64 n1, .int .i64 n2, .int .i64 n3, .int .i64 n4, .int .i64 n5, .int .i64 n6, .int .i64 n7, .int .i64 n8, .int .i64 n9, .int .i64 n10, .int .i64 n11, .int .i64 n12, .int .i64 n13, .int .i64 n14, .int .i64 n15, .string n16, .string n17, .int .i64 n18, .int .i64 n19, .int .i64 n20, .int .i64 n21, .slice b22 d22 f22, .int .i64 n23, .slice a24 m24 c24, .slice a25 m25 c25, .slice a26 m26 c26] HC.out.bx (by simp) rfl rfl ?_)
  intro v6 hsx hb
  have HS6 := Lib.hid (HC.out.storeS hsx hb)
  have y23 : _ = some ((.int .i64 n23) : Value) := hb.cell 23
  have y24 : _ = some ((.slice a24 m24 c24) : Value) := hb.cell 24
  have y25 : _ = some ((.slice a25 m25 c25) : Value) := hb.cell 25
  have y26 : _ = some ((.slice a26 m26 c26) : Value) := hb.cell 26
  have zz := hb.lt
  clear hsx hb HC
  go_wp2_with fail
  refine (w_sn B b c n23 a24 m24 c24 a25 m25 c25 a26 m26 c26 rs24 l24 rs25 l25 rs26 l26 _ _ _ W _ HS6.out.ob (HBW.out.trans (HS6.out.ft.low.mono HWB.out)) HWB.out E6.out K6.out (by omega)  HRW24.out HRW25.out HRW26.out).mono ?_
  rintro e w7 ⟨b24, d24, f24, b25, d25, f25, b26, d26, f26, he, h1, h2⟩
  rw [he.out]
  clear he y23 y24 y25 y26 zz
  have HC := Lib.hid (HS6.out.call h1 h2)
  clear h2 h1 HS6
  go_wp2_with (refine wpList_store_bk rfl _ _ _ rfl w.heap.size 23 rfl _ [.int .i64 n23, .slice b24 d24 f24, .slice b25 d25 f25, .slice b26 d26 f26] rfl rfl (by kernel_rfl) 44 [.int .i64 n0, .int .i64 n1, .int .i64 n2, .int .i64 n3, .int .i64 n4, .int .i64 n5, .int .i64 n6, .int .i64 n7, .int .i64 n8, .int .i64 n9, .int .i64 n10, .int .i64 n11, .int .i64 n12, .int .i64 n13, .int .i64 n14, .int .i64 n15, .string n16, .string n17, .int .i64 n18, .int .i64 n19, .int .i64 n20, .int .i64 n21, .slice b22 d22 f22, .int .i64 n23, .slice a24 m24 c24, .slice a25 m25 c25, .slice a26 m26 c26] [.int .i64 n0, .int .i64 n1, .int .i64 n2, .int .i64 n3, .int .i64 n4, .int .i64 n5, .int .i64 n6, .int .i64 n7, .int .i64 n8, .int .i64 n9, .int .i64 n10, .int .i64 n11, .int .i64 n12, .int .i64 n13, .int .i64 n14, .int .i64 n15, .string n16, .string n17, .int .i64 n18, .int .i64 n19, .int .i64 n20, .int .i64 n21, .slice b22 d22 f22, .int .i64 n23, .slice b24 d24 f24, .slice b25 d25 f25, .slice b26 d26 f26] HC.out.bx (by simp) rfl rfl ?_)
  intro v7 hsx hb
  have HS7 := Lib.hid (HC.out.storeS hsx hb)
  have y0 : _ = some ((.int .i64 n0) : Value) := hb.cell 0
  have zz := hb.lt
  clear hsx hb HC
  have hr := HS7.out.rs
  have hbx := HS7.out.bx
  go_wp2_with (first | (refine wpList_load_row rfl _ _ rfl w.heap.size rfl 44 _ (0, 0) _ hbx Try.underlying44 rfl (by kernel_rfl) ?_) | (refine wpList_store_bk rfl _ _ _ rfl (w.heap.size + 1) 0 rfl _ [.int .i64 n0, .int .i64 n1, .int .i64 n2, .int .i64 n3, .int .i64 n4, .int .i64 n5, .int .i64 n6, .int .i64 n7, .int .i64 n8, .int .i64 n9, .int .i64 n10, .int .i64 n11, .int .i64 n12, .int .i64 n13, .int .i64 n14, .int .i64 n15, .string n16, .string n17, .int .i64 n18, .int .i64 n19, .int .i64 n20, .int .i64 n21, .slice b22 d22 f22, .int .i64 n23, .slice b24 d24 f24, .slice b25 d25 f25, .slice b26 d26 f26] rfl rfl (by kernel_rfl) 44 [.int .i64 0, .int .i64 0, .int .i64 0, .int .i64 0, .int .i64 0, .int .i64 0, .int .i64 0, .int .i64 0, .int .i64 0, .int .i64 0, .int .i64 0, .int .i64 0, .int .i64 0, .int .i64 0, .int .i64 0, .int .i64 0, .string ⟨#[]⟩, .string ⟨#[]⟩, .int .i64 0, .int .i64 0, .int .i64 0, .int .i64 0, .slice none 0 0, .int .i64 0, .slice none 0 0, .slice none 0 0, .slice none 0 0] [.int .i64 n0, .int .i64 n1, .int .i64 n2, .int .i64 n3, .int .i64 n4, .int .i64 n5, .int .i64 n6, .int .i64 n7, .int .i64 n8, .int .i64 n9, .int .i64 n10, .int .i64 n11, .int .i64 n12, .int .i64 n13, .int .i64 n14, .int .i64 n15, .string n16, .string n17, .int .i64 n18, .int .i64 n19, .int .i64 n20, .int .i64 n21, .slice b22 d22 f22, .int .i64 n23, .slice b24 d24 f24, .slice b25 d25 f25, .slice b26 d26 f26] hr (by simp) rfl rfl ?_))
  intro wf hsx hb
  have HO2 := Lib.hid (HS7.out.resultS hsx)
  have HF2 := Lib.hid (HS7.out.toStB.resultS hsx)
  clear y0 zz hr hsx hbx
  have hb' : wf.heap[w.heap.size + 1]? = some (.cells _ _ (0, 0)) := hb
  have HB := Lib.hid hb'
  clear hb hb'
  go_wp2_with fail
  exact bodyPost_ret (results_cell_row rfl _ _ (w.heap.size + 1) _ _ _ _ rfl HB.out Try.underlying44 rfl (by kernel_rfl)) rfl ⟨b22, d22, f22, b24, d24, f24, b25, d25, f25, b26, d26, f26, rfl, HO2.out, HF2.out⟩
end Go.Proofs.Ytllcmapgigfgoaa
