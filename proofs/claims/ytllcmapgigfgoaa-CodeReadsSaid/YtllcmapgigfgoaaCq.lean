/-
  Texts put together: Cd9, CdA, CdB.
-/
import Derived.Test.YtllcmapgigfgoaaCd8
namespace Go.Proofs.Ytllcmapgigfgoaa
open Go.RowKit
set_option linter.unusedSimpArgs false
set_option linter.unusedVariables false

def W_rec (B b c : Nat) (st : Option (List Int)) (w : World) (e : Ending) (w' : World) : Prop := ∃ cs : Array Value, Hid (e = .returned (.agg cs)) ∧ WO w' B b c st ∧ Ft B b c w w'
set_option maxRecDepth 100000 in
set_option maxHeartbeats 40000000 in
theorem w_rec0 (B b c : Nat) (n1 : Int) (n2 : Int) (n3 : Int) (n4 : Int) (n5 : Int) (n6 : Int) (n7 : Int) (n8 : Int) (n9 : Int) (n10 : Int) (n11 : Int) (n12 : ByteArray) (n13 : ByteArray) (n14 : Int) (n15 : Int) (n16 : Int) (n17 : Int) (a18 : Option Addr) (m18 c18 : Nat) (n19 : Int) (a20 : Option Addr) (m20 c20 : Nat) (a21 : Option Addr) (m21 c21 : Nat) (a22 : Option Addr) (m22 c22 : Nat) (rs18 : List (Cls 3)) (l18 : List Id3) (st st' : Option (List Int)) (K : Nat) (W w : World) (h : WO w B b c st) (hW : Below W.heap.size W w) (hWB : W.heap.size ≤ B) (hE : wrs st (.num 0 :: (idC.fs (n1, n2, n3) ++ inC.fs (n4, (n5, n6), (n7, n8), (n9, n10, n11, n12, n13, n14, n15, n16), n17, l18))) = st') (hK : Sh K st) (hk : K + 4000 ≤ 20000000) (hs12 : n12.size ≤ 9223372036854775807) (hs13 : n13.size ≤ 9223372036854775807) (hr18 : RowIs KI idS W (.slice a18 m18 c18) rs18 l18) :
    Calls Try.prog 36 #[fW c, .agg #[.bool false, .int .i64 n1, .int .i64 n2, .int .i64 n3, .int .i64 n4, .int .i64 n5, .int .i64 n6, .int .i64 n7, .int .i64 n8, .int .i64 n9, .int .i64 n10, .int .i64 n11, .string n12, .string n13, .int .i64 n14, .int .i64 n15, .int .i64 n16, .int .i64 n17, .slice a18 m18 c18, .int .i64 n19, .slice a20 m20 c20, .slice a21 m21 c21, .slice a22 m22 c22]] w (W_rec B b c st' w) := by
  rw [wrs_cons, wrs_app] at hE
  obtain ⟨st1, he0⟩ : ∃ x, wr1 st (.num 0) = x := ⟨_, rfl⟩
  rw [he0] at hE
  obtain ⟨st2, he1⟩ : ∃ x, wrs st1 (idC.fs (n1, n2, n3)) = x := ⟨_, rfl⟩
  rw [he1] at hE
  have E0 := Lib.hid he0
  have E1 := Lib.hid he1
  have E2 := Lib.hid hE
  have K0 := Lib.hid hK
  have K1 : Hid (Sh (K + 1) st1) := Lib.hid (by rw [← he0]; exact hK.one _)
  have K2 : Hid (Sh (K + 4) st2) := Lib.hid (by rw [← he1]; exact ShC.id _ _ _ K1.out)
  have HBW := Lib.hid hW
  have HWB := Lib.hid hWB
  have HR := Lib.hid hr18
  clear he0 he1 hE hK hW hWB hr18
  have HS0 : Hid (StW w ((w.alloc (.cells #[.bool false, .int .i64 n1, .int .i64 n2, .int .i64 n3, .int .i64 n4, .int .i64 n5, .int .i64 n6, .int .i64 n7, .int .i64 n8, .int .i64 n9, .int .i64 n10, .int .i64 n11, .string n12, .string n13, .int .i64 n14, .int .i64 n15, .int .i64 n16, .int .i64 n17, .slice a18 m18 c18, .int .i64 n19, .slice a20 m20 c20, .slice a21 m21 c21, .slice a22 m22 c22] 46)).alloc (.cells #[.bool false, .int .i64 0, .int .i64 0, .int .i64 0, .int .i64 0, .int .i64 0, .int .i64 0, .int .i64 0, .int .i64 0, .int .i64 0, .int .i64 0, .int .i64 0, .string ⟨#[]⟩, .string ⟨#[]⟩, .int .i64 0, .int .i64 0, .int .i64 0, .int .i64 0, .slice none 0 0, .int .i64 0, .slice none 0 0, .slice none 0 0, .slice none 0 0] 46)) B b c w.heap.size 46 [.bool false, .int .i64 n1, .int .i64 n2, .int .i64 n3, .int .i64 n4, .int .i64 n5, .int .i64 n6, .int .i64 n7, .int .i64 n8, .int .i64 n9, .int .i64 n10, .int .i64 n11, .string n12, .string n13, .int .i64 n14, .int .i64 n15, .int .i64 n16, .int .i64 n17, .slice a18 m18 c18, .int .i64 n19, .slice a20 m20 c20, .slice a21 m21 c21, .slice a22 m22 c22] [.bool false, .int .i64 0, .int .i64 0, .int .i64 0, .int .i64 0, .int .i64 0, .int .i64 0, .int .i64 0, .int .i64 0, .int .i64 0, .int .i64 0, .int .i64 0, .string ⟨#[]⟩, .string ⟨#[]⟩, .int .i64 0, .int .i64 0, .int .i64 0, .int .i64 0, .slice none 0 0, .int .i64 0, .slice none 0 0, .slice none 0 0, .slice none 0 0] st) := Lib.hid (StW.start h 46 (by decide) [.bool false, .int .i64 n1, .int .i64 n2, .int .i64 n3, .int .i64 n4, .int .i64 n5, .int .i64 n6, .int .i64 n7, .int .i64 n8, .int .i64 n9, .int .i64 n10, .int .i64 n11, .string n12, .string n13, .int .i64 n14, .int .i64 n15, .int .i64 n16, .int .i64 n17, .slice a18 m18 c18, .int .i64 n19, .slice a20 m20 c20, .slice a21 m21 c21, .slice a22 m22 c22] [.bool false, .int .i64 0, .int .i64 0, .int .i64 0, .int .i64 0, .int .i64 0, .int .i64 0, .int .i64 0, .int .i64 0, .int .i64 0, .int .i64 0, .int .i64 0, .string ⟨#[]⟩, .string ⟨#[]⟩, .int .i64 0, .int .i64 0, .int .i64 0, .int .i64 0, .slice none 0 0, .int .i64 0, .slice none 0 0, .slice none 0 0, .slice none 0 0])
  clear h
  have hm1 := mwnum c
  go_enter Try.func36, Try.ntmps36
  go_wp2_with fail
  refine (cwnum B b c 0 _ _ HS0.out.ob (K0.out.max (by omega))).mono ?_
  rw [E0.out]
  rintro e w1 ⟨he, h1, h2⟩
  rw [he.out]
  clear he
  have HS1 := Lib.hid (HS0.out.call h1 h2)
  have hb := HS1.out.bx
  have y1 : _ = some ((.int .i64 n1) : Value) := hb.cell 1
  have y2 : _ = some ((.int .i64 n2) : Value) := hb.cell 2
  have y3 : _ = some ((.int .i64 n3) : Value) := hb.cell 3
  have zz := hb.lt
  clear hb h1 h2 HS0
  go_wp2_with fail
  refine (w_id B b c n1 n2 n3 _ _ _ _ HS1.out.ob E1.out K1.out (by omega)).mono ?_
  rintro e w2 ⟨he, h1, h2⟩
  rw [he.out]
  clear he y1 y2 y3 zz
  have HC := Lib.hid (HS1.out.call h1 h2)
  clear h1 h2 HS1
  go_wp2_with (refine wpList_store_bk rfl _ _ _ rfl w.heap.size 1 rfl _ [.int .i64 n1, .int .i64 n2, .int .i64 n3] rfl rfl (by kernel_rfl) 46 [.bool false, .int .i64 n1, .int .i64 n2, .int .i64 n3, .int .i64 n4, .int .i64 n5, .int .i64 n6, .int .i64 n7, .int .i64 n8, .int .i64 n9, .int .i64 n10, .int .i64 n11, .string n12, .string n13, .int .i64 n14, .int .i64 n15, .int .i64 n16, .int .i64 n17, .slice a18 m18 c18, .int .i64 n19, .slice a20 m20 c20, .slice a21 m21 c21, .slice a22 m22 c22] [.bool false, .int .i64 n1, .int .i64 n2, .int .i64 n3, .int .i64 n4, .int .i64 n5, .int .i64 n6, .int .i64 n7, .int .i64 n8, .int .i64 n9, .int .i64 n10, .int .i64 n11, .string n12, .string n13, .int .i64 n14, .int .i64 n15, .int .i64 n16, .int .i64 n17, .slice a18 m18 c18, .int .i64 n19, .slice a20 m20 c20, .slice a21 m21 c21, .slice a22 m22 c22] HC.out.bx (by simp) rfl rfl ?_)
  intro v2 hsx hb
  have HS2 := Lib.hid (HC.out.storeS hsx hb)
  have y4 : _ = some ((.int .i64 n4) : Value) := hb.cell 4
  have y5 : _ = some ((.int .i64 n5) : Value) := hb.cell 5
  have y6 : _ = some ((.int .i64 n6) : Value) := hb.cell 6
  have y7 : _ = some ((.int .i64 n7) : Value) := hb.cell 7
  have y8 : _ = some ((.int .i64 n8) : Value) := hb.cell 8
  have y9 : _ = some ((.int .i64 n9) : Value) := hb.cell 9
  have y10 : _ = some ((.int .i64 n10) : Value) := hb.cell 10
  have y11 : _ = some ((.int .i64 n11) : Value) := hb.cell 11
  have y12 : _ = some ((.string n12) : Value) := hb.cell 12
  have y13 : _ = some ((.string n13) : Value) := hb.cell 13
  have y14 : _ = some ((.int .i64 n14) : Value) := hb.cell 14
  have y15 : _ = some ((.int .i64 n15) : Value) := hb.cell 15
  have y16 : _ = some ((.int .i64 n16) : Value) := hb.cell 16
  have y17 : _ = some ((.int .i64 n17) : Value) := hb.cell 17
  have y18 : _ = some ((.slice a18 m18 c18) : Value) := hb.cell 18
  have zz := hb.lt
  clear hsx hb HC
  go_wp2_with fail
  refine (w_ins B b c n4 n5 n6 n7 n8 n9 n10 n11 n12 n13 n14 n15 n16 n17 a18 m18 c18 rs18 l18 _ _ _ W _ HS2.out.ob (HBW.out.trans (HS2.out.ft.low.mono HWB.out)) HWB.out E2.out K2.out (by omega) hs12 hs13 HR.out).mono ?_
  rintro e w3 ⟨b18, d18, f18, he, h1, h2⟩
  rw [he.out]
  clear he zz y4 y5 y6 y7 y8 y9 y10 y11 y12 y13 y14 y15 y16 y17 y18
  have HC := Lib.hid (HS2.out.call h1 h2)
  clear h1 h2 HS2
  go_wp2_with (refine wpList_store_bk rfl _ _ _ rfl w.heap.size 4 rfl _ [.int .i64 n4, .int .i64 n5, .int .i64 n6, .int .i64 n7, .int .i64 n8, .int .i64 n9, .int .i64 n10, .int .i64 n11, .string n12, .string n13, .int .i64 n14, .int .i64 n15, .int .i64 n16, .int .i64 n17, .slice b18 d18 f18] rfl rfl (by kernel_rfl) 46 [.bool false, .int .i64 n1, .int .i64 n2, .int .i64 n3, .int .i64 n4, .int .i64 n5, .int .i64 n6, .int .i64 n7, .int .i64 n8, .int .i64 n9, .int .i64 n10, .int .i64 n11, .string n12, .string n13, .int .i64 n14, .int .i64 n15, .int .i64 n16, .int .i64 n17, .slice a18 m18 c18, .int .i64 n19, .slice a20 m20 c20, .slice a21 m21 c21, .slice a22 m22 c22] [.bool false, .int .i64 n1, .int .i64 n2, .int .i64 n3, .int .i64 n4, .int .i64 n5, .int .i64 n6, .int .i64 n7, .int .i64 n8, .int .i64 n9, .int .i64 n10, .int .i64 n11, .string n12, .string n13, .int .i64 n14, .int .i64 n15, .int .i64 n16, .int .i64 n17, .slice b18 d18 f18, .int .i64 n19, .slice a20 m20 c20, .slice a21 m21 c21, .slice a22 m22 c22] HC.out.bx (by simp) rfl rfl ?_)
  intro v3 hsx hb
  have HS3 := Lib.hid (HC.out.storeS hsx hb)
  clear hsx HC
  have HHb := Lib.hid hb
  have HHr := Lib.hid HS3.out.rs
  clear hb
  go_wp2_with (first | (refine wpList_load_row rfl _ _ rfl w.heap.size rfl 46 _ (0, 0) _ HHb.out Try.underlying46 rfl (by kernel_rfl) ?_) | (refine wpList_store_bk rfl _ _ _ rfl (w.heap.size + 1) 0 rfl _ [.bool false, .int .i64 n1, .int .i64 n2, .int .i64 n3, .int .i64 n4, .int .i64 n5, .int .i64 n6, .int .i64 n7, .int .i64 n8, .int .i64 n9, .int .i64 n10, .int .i64 n11, .string n12, .string n13, .int .i64 n14, .int .i64 n15, .int .i64 n16, .int .i64 n17, .slice b18 d18 f18, .int .i64 n19, .slice a20 m20 c20, .slice a21 m21 c21, .slice a22 m22 c22] rfl rfl (by kernel_rfl) 46 [.bool false, .int .i64 0, .int .i64 0, .int .i64 0, .int .i64 0, .int .i64 0, .int .i64 0, .int .i64 0, .int .i64 0, .int .i64 0, .int .i64 0, .int .i64 0, .string ⟨#[]⟩, .string ⟨#[]⟩, .int .i64 0, .int .i64 0, .int .i64 0, .int .i64 0, .slice none 0 0, .int .i64 0, .slice none 0 0, .slice none 0 0, .slice none 0 0] [.bool false, .int .i64 n1, .int .i64 n2, .int .i64 n3, .int .i64 n4, .int .i64 n5, .int .i64 n6, .int .i64 n7, .int .i64 n8, .int .i64 n9, .int .i64 n10, .int .i64 n11, .string n12, .string n13, .int .i64 n14, .int .i64 n15, .int .i64 n16, .int .i64 n17, .slice b18 d18 f18, .int .i64 n19, .slice a20 m20 c20, .slice a21 m21 c21, .slice a22 m22 c22] HHr.out (by simp) rfl rfl ?_))
  intro wf hsx hb
  have HO2 := Lib.hid (HS3.out.resultS hsx)
  have HF2 := Lib.hid (HS3.out.toStB.resultS hsx)
  have hb' : wf.heap[w.heap.size + 1]? = some (.cells _ _ (0, 0)) := hb
  have HB := Lib.hid hb'
  clear hb hb' hsx HHb HHr
  go_wp2_with fail
  exact bodyPost_ret (results_cell_row rfl _ _ (w.heap.size + 1) _ _ _ _ rfl HB.out Try.underlying46 rfl (by kernel_rfl)) rfl ⟨_, rfl, HO2.out, HF2.out⟩
def R_rec (rs : List Value) (L18 : List Id3) (ss : List Value) (B b c : Nat) (s : RSt) (w : World) (e : Ending) (w' : World) : Prop := ∃ (b18 : Option Addr) (d18 f18 : Nat), Hid (e = .returned (.agg (rs ++ [Value.slice b18 d18 f18] ++ ss).toArray)) ∧ OwnR KI (plainR idE) w' w.heap.size (.slice b18 d18 f18) L18 ∧ RO w' B b c s ∧ Ft B b c w w'
set_option maxRecDepth 100000 in
set_option maxHeartbeats 40000000 in
theorem r_rec0 (B b c : Nat) (n1 : Int) (n2 : Int) (n3 : Int) (n4 : Int) (n5 : Int) (n6 : Int) (n7 : Int) (n8 : Int) (n9 : Int) (n10 : Int) (n11 : Int) (n12 : ByteArray) (n13 : ByteArray) (n14 : Int) (n15 : Int) (n16 : Int) (n17 : Int) (a18 : Option Addr) (m18 c18 : Nat) (n19 : Int) (a20 : Option Addr) (m20 c20 : Nat) (a21 : Option Addr) (m21 c21 : Nat) (a22 : Option Addr) (m22 c22 : Nat) (r1 : Int) (r2 : Int) (r3 : Int) (r4 : Int) (r5 : Int) (r6 : Int) (r7 : Int) (r8 : Int) (r9 : Int) (r10 : Int) (r11 : Int) (r12 : ByteArray) (r13 : ByteArray) (r14 : Int) (r15 : Int) (r16 : Int) (r17 : Int) (l18 : List Id3) (s s1 s2 s' : RSt) (w : World) (h : RO w B b c s) (hE0 : gNum s = (0, s1)) (hE1 : idC.rd s1 = ((r1, r2, r3), s2)) (hE2 : inC.rd s2 = ((r4, (r5, r6), (r7, r8), (r9, r10, r11, r12, r13, r14, r15, r16), r17, l18), s')) :
    Calls Try.prog 36 #[fR c, .agg #[.bool false, .int .i64 n1, .int .i64 n2, .int .i64 n3, .int .i64 n4, .int .i64 n5, .int .i64 n6, .int .i64 n7, .int .i64 n8, .int .i64 n9, .int .i64 n10, .int .i64 n11, .string n12, .string n13, .int .i64 n14, .int .i64 n15, .int .i64 n16, .int .i64 n17, .slice a18 m18 c18, .int .i64 n19, .slice a20 m20 c20, .slice a21 m21 c21, .slice a22 m22 c22]] w (R_rec [.bool false, .int .i64 r1, .int .i64 r2, .int .i64 r3, .int .i64 r4, .int .i64 r5, .int .i64 r6, .int .i64 r7, .int .i64 r8, .int .i64 r9, .int .i64 r10, .int .i64 r11, .string r12, .string r13, .int .i64 r14, .int .i64 r15, .int .i64 r16, .int .i64 r17] l18 [.int .i64 n19, .slice a20 m20 c20, .slice a21 m21 c21, .slice a22 m22 c22] B b c s' w) := by
  have E0 := Lib.hid hE0
  have E1 := Lib.hid hE1
  have E2 := Lib.hid hE2
  clear hE0 hE1 hE2
  have HS0 : Hid (StR w ((w.alloc (.cells #[.bool false, .int .i64 n1, .int .i64 n2, .int .i64 n3, .int .i64 n4, .int .i64 n5, .int .i64 n6, .int .i64 n7, .int .i64 n8, .int .i64 n9, .int .i64 n10, .int .i64 n11, .string n12, .string n13, .int .i64 n14, .int .i64 n15, .int .i64 n16, .int .i64 n17, .slice a18 m18 c18, .int .i64 n19, .slice a20 m20 c20, .slice a21 m21 c21, .slice a22 m22 c22] 46)).alloc (.cells #[.bool false, .int .i64 0, .int .i64 0, .int .i64 0, .int .i64 0, .int .i64 0, .int .i64 0, .int .i64 0, .int .i64 0, .int .i64 0, .int .i64 0, .int .i64 0, .string ⟨#[]⟩, .string ⟨#[]⟩, .int .i64 0, .int .i64 0, .int .i64 0, .int .i64 0, .slice none 0 0, .int .i64 0, .slice none 0 0, .slice none 0 0, .slice none 0 0] 46)) B b c w.heap.size 46 [.bool false, .int .i64 n1, .int .i64 n2, .int .i64 n3, .int .i64 n4, .int .i64 n5, .int .i64 n6, .int .i64 n7, .int .i64 n8, .int .i64 n9, .int .i64 n10, .int .i64 n11, .string n12, .string n13, .int .i64 n14, .int .i64 n15, .int .i64 n16, .int .i64 n17, .slice a18 m18 c18, .int .i64 n19, .slice a20 m20 c20, .slice a21 m21 c21, .slice a22 m22 c22] [.bool false, .int .i64 0, .int .i64 0, .int .i64 0, .int .i64 0, .int .i64 0, .int .i64 0, .int .i64 0, .int .i64 0, .int .i64 0, .int .i64 0, .int .i64 0, .string ⟨#[]⟩, .string ⟨#[]⟩, .int .i64 0, .int .i64 0, .int .i64 0, .int .i64 0, .slice none 0 0, .int .i64 0, .slice none 0 0, .slice none 0 0, .slice none 0 0] s) := Lib.hid (StR.start h 46 (by decide) [.bool false, .int .i64 n1, .int .i64 n2, .int .i64 n3, .int .i64 n4, .int .i64 n5, .int .i64 n6, .int .i64 n7, .int .i64 n8, .int .i64 n9, .int .i64 n10, .int .i64 n11, .string n12, .string n13, .int .i64 n14, .int .i64 n15, .int .i64 n16, .int .i64 n17, .slice a18 m18 c18, .int .i64 n19, .slice a20 m20 c20, .slice a21 m21 c21, .slice a22 m22 c22] [.bool false, .int .i64 0, .int .i64 0, .int .i64 0, .int .i64 0, .int .i64 0, .int .i64 0, .int .i64 0, .int .i64 0, .int .i64 0, .int .i64 0, .int .i64 0, .string ⟨#[]⟩, .string ⟨#[]⟩, .int .i64 0, .int .i64 0, .int .i64 0, .int .i64 0, .slice none 0 0, .int .i64 0, .slice none 0 0, .slice none 0 0, .slice none 0 0])
  clear h
  have hm1 := mrnum c
  go_enter Try.func36, Try.ntmps36
  go_wp2_with fail
  refine (crnum B b c 0 _ _ HS0.out.ob).mono ?_
  rw [E0.out]
  rintro e w1 ⟨he, h1, h2⟩
  rw [he.out]
  clear he
  have HS1 := Lib.hid (HS0.out.call h1 h2)
  have hb := HS1.out.bx
  have y1 : _ = some ((.int .i64 n1) : Value) := hb.cell 1
  have y2 : _ = some ((.int .i64 n2) : Value) := hb.cell 2
  have y3 : _ = some ((.int .i64 n3) : Value) := hb.cell 3
  have zz := hb.lt
  clear hb h1 h2 HS0
  go_wp2_with fail
  refine (r_id B b c n1 n2 n3 r1 r2 r3 _ _ _ HS1.out.ob E1.out).mono ?_
  rintro e w2 ⟨he, h1, h2⟩
  rw [he.out]
  clear he y1 y2 y3 zz
  have HC := Lib.hid (HS1.out.call h1 h2)
  clear h1 h2 HS1
  go_wp2_with (refine wpList_store_bk rfl _ _ _ rfl w.heap.size 1 rfl _ [.int .i64 r1, .int .i64 r2, .int .i64 r3] rfl rfl (by kernel_rfl) 46 [.bool false, .int .i64 n1, .int .i64 n2, .int .i64 n3, .int .i64 n4, .int .i64 n5, .int .i64 n6, .int .i64 n7, .int .i64 n8, .int .i64 n9, .int .i64 n10, .int .i64 n11, .string n12, .string n13, .int .i64 n14, .int .i64 n15, .int .i64 n16, .int .i64 n17, .slice a18 m18 c18, .int .i64 n19, .slice a20 m20 c20, .slice a21 m21 c21, .slice a22 m22 c22] [.bool false, .int .i64 r1, .int .i64 r2, .int .i64 r3, .int .i64 n4, .int .i64 n5, .int .i64 n6, .int .i64 n7, .int .i64 n8, .int .i64 n9, .int .i64 n10, .int .i64 n11, .string n12, .string n13, .int .i64 n14, .int .i64 n15, .int .i64 n16, .int .i64 n17, .slice a18 m18 c18, .int .i64 n19, .slice a20 m20 c20, .slice a21 m21 c21, .slice a22 m22 c22] HC.out.bx (by simp) rfl rfl ?_)
  intro v2 hsx hb
  have HS2 := Lib.hid (HC.out.storeS hsx hb)
  have y4 : _ = some ((.int .i64 n4) : Value) := hb.cell 4
  have y5 : _ = some ((.int .i64 n5) : Value) := hb.cell 5
  have y6 : _ = some ((.int .i64 n6) : Value) := hb.cell 6
  have y7 : _ = some ((.int .i64 n7) : Value) := hb.cell 7
  have y8 : _ = some ((.int .i64 n8) : Value) := hb.cell 8
  have y9 : _ = some ((.int .i64 n9) : Value) := hb.cell 9
  have y10 : _ = some ((.int .i64 n10) : Value) := hb.cell 10
  have y11 : _ = some ((.int .i64 n11) : Value) := hb.cell 11
  have y12 : _ = some ((.string n12) : Value) := hb.cell 12
  have y13 : _ = some ((.string n13) : Value) := hb.cell 13
  have y14 : _ = some ((.int .i64 n14) : Value) := hb.cell 14
  have y15 : _ = some ((.int .i64 n15) : Value) := hb.cell 15
  have y16 : _ = some ((.int .i64 n16) : Value) := hb.cell 16
  have y17 : _ = some ((.int .i64 n17) : Value) := hb.cell 17
  have y18 : _ = some ((.slice a18 m18 c18) : Value) := hb.cell 18
  have zz := hb.lt
  clear hsx hb HC
  go_wp2_with fail
  refine (r_ins B b c n4 n5 n6 n7 n8 n9 n10 n11 n12 n13 n14 n15 n16 n17 a18 m18 c18 r4 r5 r6 r7 r8 r9 r10 r11 r12 r13 r14 r15 r16 r17 l18 _ _ _ HS2.out.ob E2.out).mono ?_
  rintro e w3 ⟨b18, d18, f18, he, hw18, h1, h2⟩
  rw [he.out]
  clear he zz y4 y5 y6 y7 y8 y9 y10 y11 y12 y13 y14 y15 y16 y17 y18
  have HC := Lib.hid (HS2.out.call h1 h2)
  have HA := Lib.hid (hw18.base (M := w.heap.size + 2) (by have := HS2.out.rs.lt; omega))
  clear h1 h2 HS2 hw18
  go_wp2_with (refine wpList_store_bk rfl _ _ _ rfl w.heap.size 4 rfl _ [.int .i64 r4, .int .i64 r5, .int .i64 r6, .int .i64 r7, .int .i64 r8, .int .i64 r9, .int .i64 r10, .int .i64 r11, .string r12, .string r13, .int .i64 r14, .int .i64 r15, .int .i64 r16, .int .i64 r17, .slice b18 d18 f18] rfl rfl (by kernel_rfl) 46 [.bool false, .int .i64 r1, .int .i64 r2, .int .i64 r3, .int .i64 n4, .int .i64 n5, .int .i64 n6, .int .i64 n7, .int .i64 n8, .int .i64 n9, .int .i64 n10, .int .i64 n11, .string n12, .string n13, .int .i64 n14, .int .i64 n15, .int .i64 n16, .int .i64 n17, .slice a18 m18 c18, .int .i64 n19, .slice a20 m20 c20, .slice a21 m21 c21, .slice a22 m22 c22] [.bool false, .int .i64 r1, .int .i64 r2, .int .i64 r3, .int .i64 r4, .int .i64 r5, .int .i64 r6, .int .i64 r7, .int .i64 r8, .int .i64 r9, .int .i64 r10, .int .i64 r11, .string r12, .string r13, .int .i64 r14, .int .i64 r15, .int .i64 r16, .int .i64 r17, .slice b18 d18 f18, .int .i64 n19, .slice a20 m20 c20, .slice a21 m21 c21, .slice a22 m22 c22] HC.out.bx (by simp) rfl rfl ?_)
  intro v3 hsx hb
  have HS3 := Lib.hid (HC.out.storeS hsx hb)
  have HQ := Lib.hid (HA.out.sx hsx (by omega))
  clear hsx HC HA
  have HHb := Lib.hid hb
  have HHr := Lib.hid HS3.out.rs
  clear hb
  go_wp2_with (first | (refine wpList_load_row rfl _ _ rfl w.heap.size rfl 46 _ (0, 0) _ HHb.out Try.underlying46 rfl (by kernel_rfl) ?_) | (refine wpList_store_bk rfl _ _ _ rfl (w.heap.size + 1) 0 rfl _ [.bool false, .int .i64 r1, .int .i64 r2, .int .i64 r3, .int .i64 r4, .int .i64 r5, .int .i64 r6, .int .i64 r7, .int .i64 r8, .int .i64 r9, .int .i64 r10, .int .i64 r11, .string r12, .string r13, .int .i64 r14, .int .i64 r15, .int .i64 r16, .int .i64 r17, .slice b18 d18 f18, .int .i64 n19, .slice a20 m20 c20, .slice a21 m21 c21, .slice a22 m22 c22] rfl rfl (by kernel_rfl) 46 [.bool false, .int .i64 0, .int .i64 0, .int .i64 0, .int .i64 0, .int .i64 0, .int .i64 0, .int .i64 0, .int .i64 0, .int .i64 0, .int .i64 0, .int .i64 0, .string ⟨#[]⟩, .string ⟨#[]⟩, .int .i64 0, .int .i64 0, .int .i64 0, .int .i64 0, .slice none 0 0, .int .i64 0, .slice none 0 0, .slice none 0 0, .slice none 0 0] [.bool false, .int .i64 r1, .int .i64 r2, .int .i64 r3, .int .i64 r4, .int .i64 r5, .int .i64 r6, .int .i64 r7, .int .i64 r8, .int .i64 r9, .int .i64 r10, .int .i64 r11, .string r12, .string r13, .int .i64 r14, .int .i64 r15, .int .i64 r16, .int .i64 r17, .slice b18 d18 f18, .int .i64 n19, .slice a20 m20 c20, .slice a21 m21 c21, .slice a22 m22 c22] HHr.out (by simp) rfl rfl ?_))
  intro wf hsx hb
  have HO2 := Lib.hid (HS3.out.resultS hsx)
  have HF2 := Lib.hid (HS3.out.toStB.resultS hsx)
  have HQ2 := Lib.hid ((HQ.out.sx hsx (by omega)).base (M := w.heap.size) (by omega))
  have hb' : wf.heap[w.heap.size + 1]? = some (.cells _ _ (0, 0)) := hb
  have HB := Lib.hid hb'
  clear hb hb' hsx HHb HHr
  go_wp2_with fail
  exact bodyPost_ret (results_cell_row rfl _ _ (w.heap.size + 1) _ _ _ _ rfl HB.out Try.underlying46 rfl (by kernel_rfl)) rfl ⟨b18, d18, f18, rfl, HQ2.out, HO2.out, HF2.out⟩
end Go.Proofs.Ytllcmapgigfgoaa
namespace Go.Proofs.Ytllcmapgigfgoaa
open Go.RowKit
set_option linter.unusedSimpArgs false
set_option linter.unusedVariables false

section
variable {P : Program} {ops : Array Oper} {rest : List Oper} {o : Oper} {a : Act} {w : World} {Q : Exit → Act → World → Prop}
/-- A whole variable is loaded, also behind a guard. -/
theorem wpList_load_rowG (hw : Region.wanted o (yielded ops a.tmps) = true) (ty : TypeId) (x : Operand) (ho : o.op = .load ty x) (g : Nat) (hx : a.eval x = .pointer (some ⟨g, 0, none⟩)) (t : TypeId) (cs : Array Value) (fr : Nat × Nat) (d : TypeDesc) (hg : w.heap[g]? = some (.cells cs t fr))
    (hu : P.underlying ty = some d) (hd : (match d with | .struct _ | .array _ _ => true | _ => false) = true) (hi : (P.info? ty).map (·.size) = some cs.size)
    (h : wpList P ops Q rest (a.put o.dst (.agg cs)) w) : wpList P ops Q (o :: rest) a w := by
  refine wpList_value hw (.agg cs) w ?_ h
  unfold execOp
  simp only [ho, hx, Instr.loadAt, Instr.sureAddr, Sem.run_bind, Sem.run_pure, Result.andThen_ok, run_loadVar_row w g t ty cs fr d hg hu hd hi]
end
abbrev Rec4 := Bool × Id3 × Ins × Snp
def zSnp : Snp := ((0, []), [], [])
def z23 : Array Value := #[.bool false, .int .i64 0, .int .i64 0, .int .i64 0, .int .i64 0, .int .i64 0, .int .i64 0, .int .i64 0, .int .i64 0, .int .i64 0, .int .i64 0, .int .i64 0, .string ⟨#[]⟩, .string ⟨#[]⟩, .int .i64 0, .int .i64 0, .int .i64 0, .int .i64 0, .slice none 0 0, .int .i64 0, .slice none 0 0, .slice none 0 0, .slice none 0 0]
theorem row_nil {k : Nat} {K : Knd Try.prog (Cls k)} {α : Type} {S : Shp α} {w : World} : RowIs K S w (.slice none 0 0) [] ([] : List α) := ⟨Knd.Rd.nil w, rfl, fun j h => by simp at h⟩
theorem sn_zero (w : World) : snS.is w (snV zSnp (.slice none 0 0) (.slice none 0 0) (.slice none 0 0)) zSnp := sn_mk (x := zSnp) row_nil row_nil row_nil
theorem bool_mk (w : World) (b : Bool) : boolS.is w [.bool b] b := rfl
theorem rc_mk {w : World} {x : Rec4} {c1 c2 : List Value} (h1 : inS.is w c1 x.2.2.1) (h2 : snS.is w c2 x.2.2.2) : rcS.is w ([.bool x.1] ++ (idE x.2.1 ++ (c1 ++ c2))) x := by
  have hid : idS.is w (idE x.2.1) x.2.1 := rfl
  exact pairS_mk (bool_mk w x.1) (pairS_mk hid (pairS_mk h1 h2))
/-- The cells of a record. -/
theorem rc_is {W : World} {cs : List Value} {x : Rec4} (h : rcS.is W cs x) : ∃ a0 m0 c0 rs0 a1 m1 c1 rs1 a2 m2 c2 rs2 a3 m3 c3 rs3, cs = [.bool x.1] ++ (idE x.2.1 ++ (inV x.2.2.1 (.slice a0 m0 c0) ++ snV x.2.2.2 (.slice a1 m1 c1) (.slice a2 m2 c2) (.slice a3 m3 c3))) ∧ x.2.2.1.2.2.2.1.2.2.2.1.size ≤ maxLen ∧ x.2.2.1.2.2.2.1.2.2.2.2.1.size ≤ maxLen ∧ RowIs KI idS W (.slice a0 m0 c0) rs0 x.2.2.1.2.2.2.2.2 ∧ RowIs KN numS W (.slice a1 m1 c1) rs1 x.2.2.2.1.2 ∧ RowIs KE enS W (.slice a2 m2 c2) rs2 x.2.2.2.2.1 ∧ RowIs KZ seS W (.slice a3 m3 c3) rs3 x.2.2.2.2.2 := by
  obtain ⟨_, _, e0, h0, _, _, e1, h1, _, _, e2, hi, hs⟩ := h
  obtain ⟨a0, m0, c0, rs0, g0, z4, z5, k0⟩ := in_is hi
  obtain ⟨a1, m1, c1, rs1, a2, m2, c2, rs2, a3, m3, c3, rs3, g1, k1, k2, k3⟩ := sn_is hs
  have h1 : _ = idE _ := h1
  subst h0 h1 g0 g1 e2 e1
  exact ⟨a0, m0, c0, rs0, a1, m1, c1, rs1, a2, m2, c2, rs2, a3, m3, c3, rs3, e0, z4, z5, k0, k1, k2, k3⟩
theorem rc_size {W : World} {cs : Array Value} {x : Rec4} (h : rcS.is W cs.toList x) : cs.size = 23 := by
  obtain ⟨a0, m0, c0, rs0, a1, m1, c1, rs1, a2, m2, c2, rs2, a3, m3, c3, rs3, hcs, _⟩ := rc_is h
  have := congrArg List.length hcs
  simpa [inV, snV, idE] using this
def rc0Rd (s : RSt) : Rec4 × RSt := ((false, (idC.rd (gNum s).2).1, (inC.rd (idC.rd (gNum s).2).2).1, zSnp), (inC.rd (idC.rd (gNum s).2).2).2)
def rc0Fs (x : Rec4) : List Fd := .num 0 :: (idC.fs x.2.1 ++ inC.fs x.2.2.1)
/-- The record that a reader has read, if all of it may be. -/
def RrP (x : Rec4) (B b c : Nat) (s : RSt) (w : World) (e : Ending) (w' : World) : Prop := ∃ cs : Array Value, Hid (e = .returned (.agg cs)) ∧ cs.size = 23 ∧ cs.all (·.oneCell') = true ∧ (∀ w'' : World, (∀ k, w.heap.size ≤ k → k < w'.heap.size → w''.heap[k]? = w'.heap[k]?) → Oks (rc0Fs x) → rcS.is w'' cs.toList x) ∧ RO w' B b c s ∧ Ft B b c w w'
theorem r_recI (B b c : Nat) (x : Rec4) (s s' : RSt) (w : World) (h : RO w B b c s) (h0 : (gNum s).1 = 0) (hE : rc0Rd s = (x, s')) : Calls Try.prog 36 #[fR c, .agg z23] w (RrP x B b c s' w) := by
  unfold rc0Rd at hE
  obtain ⟨k, s1, hk⟩ : ∃ x y, gNum s = (x, y) := ⟨_, _, rfl⟩
  rw [hk] at h0 hE
  simp only at h0 hE
  subst h0
  obtain ⟨⟨r1, r2, r3⟩, s2, h1⟩ : ∃ x y, idC.rd s1 = (x, y) := ⟨_, _, rfl⟩
  rw [h1] at hE
  simp only at hE
  obtain ⟨⟨r4, ⟨r5, r6⟩, ⟨r7, r8⟩, ⟨r9, r10, r11, r12, r13, r14, r15, r16⟩, r17, l18⟩, s3, h2⟩ : ∃ x y, inC.rd s2 = (x, y) := ⟨_, _, rfl⟩
  rw [h2] at hE
  simp only [Prod.mk.injEq] at hE
  obtain ⟨rfl, rfl⟩ := hE
  refine (r_rec0 B b c 0 0 0 0 0 0 0 0 0 0 0 ⟨#[]⟩ ⟨#[]⟩ 0 0 0 0 none 0 0 0 none 0 0 none 0 0 none 0 0 r1 r2 r3 r4 r5 r6 r7 r8 r9 r10 r11 r12 r13 r14 r15 r16 r17 l18 s s1 s2 s3 w h hk h1 h2).mono ?_
  rintro e w2 ⟨b18, d18, f18, he, h18, g1, g2⟩
  refine ⟨_, he, rfl, (by rw [← Array.all_toList]; rfl), fun w'' hk ho => ?_, g1, g2⟩
  have hk' : ∀ (T : TypeId) (k : Nat), w.heap.size ≤ k → (Ty w2 k 9 ∨ Ty w2 k T) → w''.heap[k]? = w2.heap[k]? := fun T k h hq => hk k h (by rcases hq with ⟨cs, fr, q⟩ | ⟨cs, fr, q⟩ <;> exact (Array.getElem?_eq_some_iff.1 q).1)
  replace h18 := h18.keep (hk' _)
  simp only [rc0Fs, inC, cmC, oks_cons, pairC_fs, oks_app] at ho
  obtain ⟨_, _, _, _, _, ⟨_, _, _, t16, t17, _⟩, _⟩ := ho
  obtain ⟨rs18, g18⟩ := OwnR.row (S := idS) h18 (fun cs x _ hq => hq)
  exact rc_mk (x := (false, (r1, r2, r3), (r4, (r5, r6), (r7, r8), (r9, r10, r11, r12, r13, r14, r15, r16), r17, l18), zSnp)) (in_mk (tx_max t16) (tx_max t17) g18) (sn_zero w'')
theorem rc0_inv (xs : List Int) (hb : BytL xs) (h0 : (gNum (xs, 0)).1 = 0) : (rc0Rd (xs, 0)).2.2 = 0 → Oks (rc0Fs (rc0Rd (xs, 0)).1) ∧ xs = eF (rc0Fs (rc0Rd (xs, 0)).1) ++ (rc0Rd (xs, 0)).2.1 := by
  intro h
  have key := (pairC numC (pairC idC inC)).inv xs hb h
  have e : ((pairC numC (pairC idC inC)).rd (xs, 0)).1.1 = 0 := h0
  rw [pairC_fs, numC_fs, e, pairC_fs] at key
  exact key
/-- What a record is read as. -/
def GrP (xs : List Int) (w : World) (e : Ending) (w' : World) : Prop := ∃ u : Value, Hid (e = .returned (.tuple #[u, .int .i64 (endE (rc0Rd (xs, 0)).2)])) ∧ Below w.heap.size w w' ∧ ((endE (rc0Rd (xs, 0)).2 = 0 ∧ ∀ w'' : World, (∀ k, w.heap.size ≤ k → k < w'.heap.size → w''.heap[k]? = w'.heap[k]?) → RecIs w'' u (rc0Rd (xs, 0)).1) ∨ (endE (rc0Rd (xs, 0)).2 ≠ 0 ∧ u = .agg z23))
set_option maxRecDepth 100000 in
set_option maxHeartbeats 4000000 in
theorem read_rec (v : Value) (xs : List Int) (w : World) (h : Bt w v xs) (hx : BytL xs) (hl : xs.length ≤ 1000000000) (h0 : (gNum (xs, 0)).1 = 0) :
    Calls Try.prog 45 #[v, .func (.func 36) #[] #[]] w (GrP xs w) := by
  have HY := Lib.hid (h.below (((Below.refl _ _).alloc (Nat.le_refl _) (.cells z23 46)).alloc (by simp) (.cells z23 46)))
  have HX := Lib.hid hx
  have H0 := Lib.hid h0
  have HA : Hid (((w.alloc (.cells z23 46)).alloc (.cells z23 46)).heap[w.heap.size]? = some (.cells z23 46 (0, 0))) := Lib.hid ((Below.heap_alloc _ _ _ (by simp)).trans (bka_new w _ _))
  have HB : Hid (((w.alloc (.cells z23 46)).alloc (.cells z23 46)).heap[w.heap.size + 1]? = some (.cells z23 46 (0, 0))) := Lib.hid (by have := bka_new (w.alloc (.cells z23 46)) 46 z23; rwa [World.size_alloc] at this)
  have HW : Hid (Below w.heap.size w ((w.alloc (.cells z23 46)).alloc (.cells z23 46))) := Lib.hid (((Below.refl _ _).alloc (Nat.le_refl _) _).alloc (by simp) _)
  clear h hx h0
  go_enter Try.func45, Try.ntmps45
  go_wp2_with fail
  refine (of_u v xs _ HY.out hl).mono ?_
  rintro e w1 ⟨b, he, h1, h2, h3⟩
  rw [he.out]
  clear he
  have hz : ((w.alloc (.cells z23 46)).alloc (.cells z23 46)).heap.size = w.heap.size + 2 := by simp
  have h1 : w.heap.size + 2 ≤ b := by rw [← hz]; exact h1
  have h3 : Below (w.heap.size + 2) ((w.alloc (.cells z23 46)).alloc (.cells z23 46)) w1 := by rw [← hz]; exact h3
  clear hz
  have hlt := h2.at'.size
  have HC := Lib.hid (Bk.new w1 135 [.pointer (some ⟨b, 0, none⟩), .int .i64 0])
  have hu8 : ∀ k, U8 w1 k → (w1.alloc (.cells #[.pointer (some ⟨b, 0, none⟩), .int .i64 0] 135)).heap[k]? = w1.heap[k]? := fun k ⟨cs, fr, q⟩ => Below.heap_alloc _ _ _ (Array.getElem?_eq_some_iff.1 q).1
  have HO : Hid (RO (w1.alloc (.cells #[.pointer (some ⟨b, 0, none⟩), .int .i64 0] 135)) (w.heap.size + 2) b w1.heap.size (xs, 0)) := Lib.hid ⟨⟨0, 0, h2.keep (by simp) (Below.heap_alloc _ _ _ hlt) hu8, HC.out, fun _ => rfl, fun q => absurd rfl q⟩, HX.out, hl, by omega, by omega, h1⟩
  have HA1 : Hid ((w1.alloc (.cells #[.pointer (some ⟨b, 0, none⟩), .int .i64 0] 135)).heap[w.heap.size]? = some (.cells z23 46 (0, 0))) := Lib.hid ((Below.heap_alloc _ _ _ (by omega)).trans ((h3.block _ (by omega)).trans HA.out))
  have HB1 : Hid ((w1.alloc (.cells #[.pointer (some ⟨b, 0, none⟩), .int .i64 0] 135)).heap[w.heap.size + 1]? = some (.cells z23 46 (0, 0))) := Lib.hid ((Below.heap_alloc _ _ _ (by omega)).trans ((h3.block _ (by omega)).trans HB.out))
  have HW1 : Hid (Below w.heap.size w (w1.alloc (.cells #[.pointer (some ⟨b, 0, none⟩), .int .i64 0] 135))) := Lib.hid ((HW.out.trans (h3.mono (by omega))).alloc (by omega) _)
  have HZ := Lib.hid (show w.heap.size + 2 ≤ b ∧ b < w1.heap.size from ⟨h1, hlt⟩)
  obtain ⟨x, s', hE⟩ : ∃ x y, rc0Rd (xs, 0) = (x, y) := ⟨_, _, rfl⟩
  have HE := Lib.hid hE
  have HIn := Lib.hid (rc0_inv xs HX.out H0.out)
  unfold GrP
  rw [hE] at HIn ⊢
  clear hE h1 h2 h3 hu8 HA HB HW hlt
  go_wp2_with (refine wpList_load_row rfl _ _ rfl (w.heap.size + 1) rfl 46 z23 (0, 0) _ HB1.out Try.underlying46 rfl (by kernel_rfl) ?_)
  refine (r_recI (w.heap.size + 2) b w1.heap.size x _ s' _ HO.out H0.out HE.out).mono ?_
  rintro e w2 ⟨cs, he, hsz, hone, hok, h1, h2⟩
  rw [he.out]
  clear he
  have hbc : b < w2.heap.size ∧ w1.heap.size < w2.heap.size := ⟨h1.lt.1, h1.lt.2⟩
  have HI : Hid ((Try.prog.info? 46).map (·.size) = some cs.size) := Lib.hid (by rw [hsz]; kernel_rfl)
  have HI2 : Hid (z23.size = cs.size) := Lib.hid (by rw [hsz]; rfl)
  have HOne := Lib.hid hone
  have HNew := Lib.hid (bka_new w2 46 z23)
  have hsx := sx_setRow (w2.alloc (.cells z23 46)) w2.heap.size cs
  have HRow : Hid (((w2.alloc (.cells z23 46)).setRow w2.heap.size cs).heap[w2.heap.size]? = some (.cells cs 46 (0, 0))) := Lib.hid (heap_setRow_same _ _ z23 cs _ (bka_new _ _ _))
  have hB3 : Below w2.heap.size w2 ((w2.alloc (.cells z23 46)).setRow w2.heap.size cs) := below_setRow ((Below.refl _ _).alloc (Nat.le_refl _) _) (Nat.le_refl _) cs
  have HO3 : Hid (RO ((w2.alloc (.cells z23 46)).setRow w2.heap.size cs) (w.heap.size + 2) b w1.heap.size s') := Lib.hid (h1.below hB3)
  have hlow := h2.low
  have HA3 : Hid (((w2.alloc (.cells z23 46)).setRow w2.heap.size cs).heap[w.heap.size]? = some (.cells z23 46 (0, 0))) := Lib.hid ((hB3.block _ (by have := HZ.out; omega)).trans ((hlow.block _ (by omega)).trans HA1.out))
  have HB3 : Hid (((w2.alloc (.cells z23 46)).setRow w2.heap.size cs).heap[w.heap.size + 1]? = some (.cells z23 46 (0, 0))) := Lib.hid ((hB3.block _ (by have := HZ.out; omega)).trans ((hlow.block _ (by omega)).trans HB1.out))
  have HW3 : Hid (Below w.heap.size w ((w2.alloc (.cells z23 46)).setRow w2.heap.size cs)) := Lib.hid ((HW1.out.trans (hlow.mono (by omega))).trans (hB3.mono (by have := HZ.out; omega)))
  have hst : w.heap.size + 1 < (w1.alloc (.cells #[.pointer (some ⟨b, 0, none⟩), .int .i64 0] 135)).heap.size := by have := HZ.out; simp; omega
  have HOk : Hid (∀ w'' : World, (∀ k, w.heap.size ≤ k → k < (((w2.alloc (.cells z23 46)).setRow w2.heap.size cs).setRow w.heap.size cs).heap.size → w''.heap[k]? = (((w2.alloc (.cells z23 46)).setRow w2.heap.size cs).setRow w.heap.size cs).heap[k]?) → Oks (rc0Fs x) → rcS.is w'' cs.toList x) := Lib.hid (fun w'' hw'' => hok w'' (fun k hk1 hk2 => (hw'' k (by omega) (by have := hB3.size; rw [(sx_setRow _ w.heap.size cs).size]; omega)).trans (((sx_setRow _ w.heap.size cs).block k (by omega)).trans (hB3.block k hk2))))
  have HZ3 := Lib.hid (show w.heap.size < w2.heap.size ∧ w.heap.size + 1 < w2.heap.size by have := HZ.out; omega)
  clear hsz hone hok h1 h2 hsx hB3 hlow hbc hst HO HA1 HB1 HW1
  go_wp2_with (refine wpList_store_row rfl 46 _ _ rfl w2.heap.size rfl cs rfl z23 46 HNew.out HI.out HI2.out HOne.out ?_)
  refine (crend _ _ _ s' ((w2.alloc (.cells z23 46)).setRow w2.heap.size cs) HO3.out).mono ?_
  rintro e w4 ⟨rfl, rfl⟩
  generalize hw3 : (w2.alloc (.cells z23 46)).setRow w2.heap.size cs = w3 at *
  clear hw3
  obtain ⟨er, her⟩ : ∃ er, endE s' = er := ⟨_, rfl⟩
  have HEr := Lib.hid her
  rw [her]
  clear her
  by_cases q : er = 0
  · subst q
    have HS0 := Lib.hid (endE_ok HEr.out)
    have hlt0 : w.heap.size < w3.heap.size := (Array.getElem?_eq_some_iff.1 HA3.out).1
    have hBf : Below w.heap.size w3 (w3.setRow w.heap.size cs) := below_setRow (Below.refl _ _) (Nat.le_refl _) cs
    have HLv : Hid ((loadVar 46 ⟨w.heap.size, 0, none⟩).run Try.prog (w3.setRow w.heap.size cs) = .ok (.agg cs) (w3.setRow w.heap.size cs)) := Lib.hid (run_loadVar_row _ _ _ _ cs (0, 0) _ (heap_setRow_same _ _ z23 cs _ HA3.out) Try.underlying46 rfl HI.out)
    have HBf := Lib.hid (HW3.out.trans hBf)
    have HMf : Hid (∀ w'' : World, (∀ k, w.heap.size ≤ k → k < (w3.setRow w.heap.size cs).heap.size → w''.heap[k]? = (w3.setRow w.heap.size cs).heap[k]?) → RecIs w'' (.agg cs) x) := Lib.hid (fun w'' hw'' => ⟨cs, rfl, HOk.out w'' hw'' (HIn.out HS0.out.1).1⟩)
    clear hBf
    go_wp2_with (first | (refine wpList_load_row rfl _ _ rfl w2.heap.size rfl 46 cs (0, 0) _ HRow.out Try.underlying46 rfl HI.out ?_) | (refine wpList_store_row rfl 46 _ _ rfl w.heap.size rfl cs rfl z23 46 HA3.out HI.out HI2.out HOne.out ?_))
    have hlv := HLv.out
    exact bodyPost_ret (v := .tuple #[.agg cs, .int .i64 0]) (by simp [results, Try.results45, asAddr, hlv]) rfl (by unfold GrP; rw [HE.out]; exact ⟨.agg cs, Lib.hid (by rw [HEr.out]), HBf.out, .inl ⟨HEr.out, HMf.out⟩⟩)
  · have q1 : (er == 0) = false := by simpa using q
    have q2 : (er != 0) = true := by simpa using q
    have hBf : Below w.heap.size w3 (w3.setRow w.heap.size z23) := below_setRow (Below.refl _ _) (Nat.le_refl _) z23
    have HLv : Hid ((loadVar 46 ⟨w.heap.size, 0, none⟩).run Try.prog (w3.setRow w.heap.size z23) = .ok (.agg z23) (w3.setRow w.heap.size z23)) := Lib.hid (run_loadVar_row _ _ _ _ z23 (0, 0) _ (heap_setRow_same _ _ z23 z23 _ HA3.out) Try.underlying46 rfl (by kernel_rfl))
    have HBf := Lib.hid (HW3.out.trans hBf)
    have HQ := Lib.hid q
    clear hBf q
    go_wp2_with (first | (refine wpList_load_row rfl _ _ rfl (w.heap.size + 1) rfl 46 z23 (0, 0) _ HB3.out Try.underlying46 rfl (by kernel_rfl) ?_) | (refine wpList_store_row rfl 46 _ _ rfl w.heap.size rfl z23 rfl z23 46 HA3.out (by kernel_rfl) rfl (by rw [← Array.all_toList]; rfl) ?_))
    have hlv := HLv.out
    exact bodyPost_ret (v := .tuple #[.agg z23, .int .i64 er]) (by simp [results, Try.results45, asAddr, hlv]) rfl (by unfold GrP; rw [HE.out]; exact ⟨.agg z23, Lib.hid (by rw [HEr.out]), HBf.out, .inr ⟨by rw [HEr.out]; exact HQ.out, rfl⟩⟩)
set_option maxRecDepth 100000 in
set_option maxHeartbeats 4000000 in
theorem get_any0 (v : Value) (xs : List Int) (w : World) (h : Bt w v xs) (hx : BytL xs) (hl : xs.length ≤ 1000000000) (h0 : (gNum (xs, 0)).1 = 0) :
    Calls Try.prog 19 #[v] w (GrP xs w) := by
  have HY := Lib.hid (h.below ((Below.refl _ _).alloc (Nat.le_refl _) (.cells z23 46)))
  have HX := Lib.hid hx
  have H0 := Lib.hid h0
  have HA := Lib.hid (bka_new w 46 z23)
  clear h hx h0
  go_enter Try.func19, Try.ntmps19
  go_wp2_with fail
  refine (read_rec v xs _ HY.out HX.out hl H0.out).mono ?_
  rintro e w1 ⟨u, he, h1, h2⟩
  rw [he.out]
  clear he
  have h1 : Below (w.heap.size + 1) (w.alloc (.cells z23 46)) w1 := by have := h1; simpa using this
  have hA1 : w1.heap[w.heap.size]? = some (.cells z23 46 (0, 0)) := (h1.block _ (by omega)).trans HA.out
  have HA1 := Lib.hid hA1
  obtain ⟨cs, hu, hsz, hone, hM⟩ : ∃ cs : Array Value, u = .agg cs ∧ cs.size = 23 ∧ cs.all (·.oneCell') = true ∧ ((endE (rc0Rd (xs, 0)).2 = 0 ∧ ∀ w'' : World, (∀ k, w.heap.size + 1 ≤ k → k < w1.heap.size → w''.heap[k]? = w1.heap[k]?) → rcS.is w'' cs.toList (rc0Rd (xs, 0)).1) ∨ (endE (rc0Rd (xs, 0)).2 ≠ 0 ∧ cs = z23)) := by
    rcases h2 with ⟨q, hm0⟩ | ⟨q, rfl⟩
    · obtain ⟨cs, rfl, hm⟩ := hm0 w1 (fun _ _ _ => rfl)
      exact ⟨cs, rfl, rc_size hm, by rw [← Array.all_toList]; exact List.all_eq_true.2 (fun v hv => rcS.one hm v hv), .inl ⟨q, fun w'' hw'' => by
        obtain ⟨cs', e, hm'⟩ := hm0 w'' (fun k hk1 hk2 => hw'' k (by simpa using hk1) hk2)
        simp only [Value.agg.injEq] at e
        subst e
        exact hm'⟩⟩
    · exact ⟨z23, rfl, rfl, by rw [← Array.all_toList]; rfl, .inr ⟨q, rfl⟩⟩
  subst hu
  have HI : Hid ((Try.prog.info? 46).map (·.size) = some cs.size) := Lib.hid (by rw [hsz]; kernel_rfl)
  have HI2 : Hid (z23.size = cs.size) := Lib.hid (by rw [hsz]; rfl)
  have HOne := Lib.hid hone
  have hBf : Below w.heap.size w (w1.setRow w.heap.size cs) := below_setRow (((Below.refl _ _).alloc (Nat.le_refl _) _).trans (h1.mono (by omega))) (Nat.le_refl _) cs
  have HBf := Lib.hid hBf
  have HLv : Hid ((loadVar 46 ⟨w.heap.size, 0, none⟩).run Try.prog (w1.setRow w.heap.size cs) = .ok (.agg cs) (w1.setRow w.heap.size cs)) := Lib.hid (run_loadVar_row _ _ _ _ cs (0, 0) _ (heap_setRow_same _ _ z23 cs _ hA1) Try.underlying46 rfl HI.out)
  have HMf : Hid ((endE (rc0Rd (xs, 0)).2 = 0 ∧ ∀ w'' : World, (∀ k, w.heap.size ≤ k → k < (w1.setRow w.heap.size cs).heap.size → w''.heap[k]? = (w1.setRow w.heap.size cs).heap[k]?) → RecIs w'' (.agg cs) (rc0Rd (xs, 0)).1) ∨ (endE (rc0Rd (xs, 0)).2 ≠ 0 ∧ cs = z23)) := Lib.hid (by
    rcases hM with ⟨q, hm⟩ | ⟨q, hm⟩
    · exact .inl ⟨q, fun w'' hw'' => ⟨cs, rfl, hm w'' (fun k hk1 hk2 => (hw'' k (by omega) (by rw [(sx_setRow _ w.heap.size cs).size]; exact hk2)).trans ((sx_setRow _ w.heap.size cs).block k (by omega)))⟩⟩
    · exact .inr ⟨q, hm⟩)
  obtain ⟨er, her⟩ : ∃ er, endE (rc0Rd (xs, 0)).2 = er := ⟨_, rfl⟩
  have HEr := Lib.hid her
  rw [her]
  clear h1 h2 hA1 hsz hone hBf hM her
  go_wp2_with (refine wpList_store_row rfl 46 _ _ rfl w.heap.size rfl cs rfl z23 46 HA1.out HI.out HI2.out HOne.out ?_)
  have hlv := HLv.out
  exact bodyPost_ret (v := .tuple #[.agg cs, .int .i64 er]) (by simp [results, Try.results19, asAddr, hlv]) rfl ⟨.agg cs, Lib.hid (by rw [HEr.out]), HBf.out, by
    rcases HMf.out with ⟨q, hm⟩ | ⟨q, hm⟩
    · exact .inl ⟨q, hm⟩
    · exact .inr ⟨q, by rw [hm]⟩⟩
end Go.Proofs.Ytllcmapgigfgoaa
namespace Go.Proofs.Ytllcmapgigfgoaa
open Go.RowKit
set_option linter.unusedSimpArgs false
set_option linter.unusedVariables false

theorem rc0_sh (x : Rec4) {K : Nat} {st : Option (List Int)} (h : Sh K st) : Sh (K + 4000) (wrs st (rc0Fs x)) := by
  unfold rc0Fs
  rw [wrs_cons, wrs_app]
  exact (ShC.ins _ _ _ (ShC.id _ _ _ (h.one _))).le (by omega)
theorem w_recI (B b c : Nat) (cs : Array Value) (x : Rec4) (st : Option (List Int)) (K : Nat) (W w : World) (h : WO w B b c st) (hW : Below W.heap.size W w) (hWB : W.heap.size ≤ B) (hK : Sh K st) (hk : K + 4000 ≤ 20000000) (hs : rcS.is W cs.toList x) (h0 : x.1 = false) :
    Calls Try.prog 36 #[fW c, .agg cs] w (WUP B b c (wrs st (rc0Fs x)) w) := by
  obtain ⟨a18, m18, c18, rs18, a20, m20, c20, rs20, a21, m21, c21, rs21, a22, m22, c22, rs22, hcs, hs12, hs13, hr18, hr20, hr21, hr22⟩ := rc_is hs
  obtain ⟨n0, ⟨n1, n2, n3⟩, ⟨n4, ⟨n5, n6⟩, ⟨n7, n8⟩, ⟨n9, n10, n11, n12, n13, n14, n15, n16⟩, n17, l18⟩, ⟨n19, l20⟩, l21, l22⟩ := x
  have h0 : n0 = false := h0
  subst h0
  obtain rfl : cs = #[.bool false, .int .i64 n1, .int .i64 n2, .int .i64 n3, .int .i64 n4, .int .i64 n5, .int .i64 n6, .int .i64 n7, .int .i64 n8, .int .i64 n9, .int .i64 n10, .int .i64 n11, .string n12, .string n13, .int .i64 n14, .int .i64 n15, .int .i64 n16, .int .i64 n17, .slice a18 m18 c18, .int .i64 n19, .slice a20 m20 c20, .slice a21 m21 c21, .slice a22 m22 c22] := by
    cases cs
    simpa [idE, inV, snV] using hcs
  simp only at hs12 hs13 hr18
  unfold maxLen at hs12 hs13
  refine (w_rec0 B b c n1 n2 n3 n4 n5 n6 n7 n8 n9 n10 n11 n12 n13 n14 n15 n16 n17 a18 m18 c18 n19 a20 m20 c20 a21 m21 c21 a22 m22 c22 rs18 l18 _ _ K W w h hW hWB rfl hK hk (by omega) (by omega) hr18).mono ?_
  rintro e w2 ⟨cs, he, h1, h2⟩
  exact ⟨_, he, h1, h2⟩
set_option maxRecDepth 100000 in
set_option maxHeartbeats 4000000 in
theorem written_rec (v : Value) (x : Rec4) (w : World) (h : RecIs w v x) (h0 : x.1 = false) :
    Calls Try.prog 35 #[v, .func (.func 36) #[] #[]] w (ByP (rc0Fs x) w) := by
  obtain ⟨cs, rfl, hs⟩ := h
  have HI : Hid ((Try.prog.info? 46).map (·.size) = some cs.size) := Lib.hid (by rw [rc_size hs]; kernel_rfl)
  have HM := Lib.hid hs
  have HX := Lib.hid (bka_new w 46 cs)
  clear hs
  go_enter Try.func35, Try.ntmps35
  go_wp2_with fail
  refine (vnew_any _).mono ?_
  rintro e w1 ⟨he, h1, h2, h3⟩
  rw [he.out]
  clear he
  have hz : (w.alloc (.cells cs 46)).heap.size = w.heap.size + 1 := by simp
  rw [hz] at h1 h2 h3 ⊢
  clear hz
  have HZ := Lib.hid h3
  have hX1 : w1.heap[w.heap.size]? = some (.cells cs 46 (0, 0)) := (h2.block _ (by omega)).trans HX.out
  have HX2 : Hid ((w1.alloc (.cells #[.pointer (some ⟨w.heap.size + 1, 0, none⟩)] 120)).heap[w.heap.size]? = some (.cells cs 46 (0, 0))) := Lib.hid ((Below.heap_alloc _ _ _ (by omega)).trans hX1)
  have HC := Lib.hid (Bk.new w1 120 [.pointer (some ⟨w.heap.size + 1, 0, none⟩)])
  have HO : Hid (WO (w1.alloc (.cells #[.pointer (some ⟨w.heap.size + 1, 0, none⟩)] 120)) (w.heap.size + 1) (w.heap.size + 1) w1.heap.size (some [])) := Lib.hid ⟨⟨_, h1.below ((Below.refl _ _).alloc (Nat.le_refl _) _)⟩, HC.out, by omega, by omega⟩
  have HB := Lib.hid (show Below w.heap.size w (w1.alloc (.cells #[.pointer (some ⟨w.heap.size + 1, 0, none⟩)] 120)) from (((Below.refl _ _).alloc (Nat.le_refl _) _).trans (h2.mono (by omega))).alloc (by omega) _)
  have HK : Hid (Sh 0 (some [])) := Lib.hid (by simp [Sh, stl])
  have HWB : Hid (w.heap.size ≤ w.heap.size + 1) := Lib.hid (by omega)
  clear h1 h2 h3 hX1 HX
  go_wp2_with (refine wpList_load_row rfl _ _ rfl w.heap.size rfl 46 cs (0, 0) _ HX2.out Try.underlying46 rfl HI.out ?_)
  refine (w_recI (w.heap.size + 1) (w.heap.size + 1) w1.heap.size cs x _ 0 w _ HO.out HB.out HWB.out HK.out (by omega) HM.out h0).mono ?_
  rintro e w2 ⟨u, he, h1, h2⟩
  rw [he.out]
  clear he
  have H1 := Lib.hid h1
  have HB2 := Lib.hid (HB.out.trans (h2.low.mono (by omega : w.heap.size ≤ w.heap.size + 1)))
  have c0 := h1.bx.cell 0
  simp only [List.getElem?_cons_zero] at c0
  have hlt := h1.bx.lt
  have hsz : w.heap.size ≤ w2.heap.size := HB2.out.size
  have HSh : Hid (Sh 4000 (wrs (some []) (rc0Fs x))) := Lib.hid ((rc0_sh x HK.out).le (by omega))
  clear h1 h2
  by_cases q : Oks (rc0Fs x)
  · have e1 := wrs_ok _ [] q
    rw [List.nil_append] at e1
    rw [e1] at H1 HSh
    have HQ := Lib.hid q
    clear e1 q
    obtain ⟨v2, hv2⟩ := H1.out.wr
    have HV := Lib.hid hv2
    have hlen : (eF (rc0Fs x)).length ≤ 99999999900 := by have h := HSh.out; unfold Sh stl at h; simp only [Option.getD_some] at h; omega
    clear hv2
    go_wp2_with fail
    refine (vbytes_good _ _ _ _ _ HV.out hlen).mono ?_
    rintro e w3 ⟨u, he, h1, h2⟩
    rw [he.out]
    clear he
    have HU := Lib.hid (h1.base hsz)
    have H3 := Lib.hid (HB2.out.trans (h2.mono hsz))
    clear h1 h2
    go_wp2_with fail
    go_ret2
    exact Or.inl ⟨HQ.out, u, rfl, HU.out, H3.out⟩
  · have e1 := wrs_bad _ [] q
    rw [e1] at H1 HSh
    have HQ := Lib.hid q
    clear e1 q
    obtain ⟨v2, hv2⟩ := H1.out.wr
    have HV := Lib.hid hv2
    clear hv2
    go_wp2_with fail
    refine (vbytes_bad _ _ _ _ HV.out).mono ?_
    rintro e w3 ⟨rfl, rfl⟩
    go_wp2_with fail
    go_ret2
    exact Or.inr ⟨HQ.out, rfl, HB2.out⟩

theorem RecIs.on {W w : World} {v : Value} {x : Rec4} (h : RecIs W v x) (hb : Below W.heap.size W w) : RecIs w v x := by
  obtain ⟨cs, e, h⟩ := h
  exact ⟨cs, e, rcS.keep h hb⟩
def TrueP (w : World) (e : Ending) (w' : World) : Prop := Hid (e = .returned (.bool true)) ∧ Below w.heap.size w w'
set_option maxRecDepth 100000 in
set_option maxHeartbeats 4000000 in
theorem nosnap0 (n1 : Int) (n2 : Int) (n3 : Int) (n4 : Int) (n5 : Int) (n6 : Int) (n7 : Int) (n8 : Int) (n9 : Int) (n10 : Int) (n11 : Int) (n12 : ByteArray) (n13 : ByteArray) (n14 : Int) (n15 : Int) (n16 : Int) (n17 : Int) (a18 : Option Addr) (m18 c18 : Nat) (a20 : Option Addr) (c20 : Nat) (a21 : Option Addr) (c21 : Nat) (a22 : Option Addr) (c22 : Nat) (w : World) : Calls Try.prog 34 #[.agg #[.bool false, .int .i64 n1, .int .i64 n2, .int .i64 n3, .int .i64 n4, .int .i64 n5, .int .i64 n6, .int .i64 n7, .int .i64 n8, .int .i64 n9, .int .i64 n10, .int .i64 n11, .string n12, .string n13, .int .i64 n14, .int .i64 n15, .int .i64 n16, .int .i64 n17, .slice a18 m18 c18, .int .i64 0, .slice a20 0 c20, .slice a21 0 c21, .slice a22 0 c22]] w (TrueP w) := by
  have HX := Lib.hid (Bk.new w 46 [.bool false, .int .i64 n1, .int .i64 n2, .int .i64 n3, .int .i64 n4, .int .i64 n5, .int .i64 n6, .int .i64 n7, .int .i64 n8, .int .i64 n9, .int .i64 n10, .int .i64 n11, .string n12, .string n13, .int .i64 n14, .int .i64 n15, .int .i64 n16, .int .i64 n17, .slice a18 m18 c18, .int .i64 0, .slice a20 0 c20, .slice a21 0 c21, .slice a22 0 c22])
  have HB := Lib.hid (show Below w.heap.size w (w.alloc (.cells #[.bool false, .int .i64 n1, .int .i64 n2, .int .i64 n3, .int .i64 n4, .int .i64 n5, .int .i64 n6, .int .i64 n7, .int .i64 n8, .int .i64 n9, .int .i64 n10, .int .i64 n11, .string n12, .string n13, .int .i64 n14, .int .i64 n15, .int .i64 n16, .int .i64 n17, .slice a18 m18 c18, .int .i64 0, .slice a20 0 c20, .slice a21 0 c21, .slice a22 0 c22] 46)) from (Below.refl _ _).alloc (Nat.le_refl _) _)
  go_enter Try.func34, Try.ntmps34
  go_wp2
  go_ret
  exact ⟨rfl, by first | exact ((Below.refl _ _).alloc (Nat.le_refl _) _).alloc (by simp) _ | exact ((((Below.refl _ _).alloc (Nat.le_refl _) _).alloc (by simp) _).setCell (by simp) _).setCell (by simp) _⟩
set_option maxRecDepth 100000 in
set_option maxHeartbeats 4000000 in
theorem put0 (v : Value) (x : Rec4) (w : World) (h : RecIs w v x) (h0 : x.1 = false) (h1 : x.2.2.2 = zSnp) :
    Calls Try.prog 14 #[v] w (ByP (rc0Fs x) w) := by
  have HM := h
  obtain ⟨cs, rfl, hs⟩ := h
  have HI : Hid ((Try.prog.info? 46).map (·.size) = some cs.size) := Lib.hid (by rw [rc_size hs]; kernel_rfl)
  have HX := Lib.hid (bka_new w 46 cs)
  have HM2 := Lib.hid (HM.on ((Below.refl _ _).alloc (Nat.le_refl _) (.cells cs 46)))
  have hc0 : cs[0]? = some (.bool false) := by
    obtain ⟨a18, m18, c18, rs18, a20, m20, c20, rs20, a21, m21, c21, rs21, a22, m22, c22, rs22, hcs, _⟩ := rc_is hs
    rw [← Array.getElem?_toList, hcs, h0]
    rfl
  have HNS : Hid (∀ w, Calls Try.prog 34 #[.agg cs] w (TrueP w)) := Lib.hid (by
    intro w1
    obtain ⟨a18, m18, c18, rs18, a20, m20, c20, rs20, a21, m21, c21, rs21, a22, m22, c22, rs22, hcs, hs12, hs13, hr18, hr20, hr21, hr22⟩ := rc_is hs
    obtain ⟨n0, ⟨n1, n2, n3⟩, ⟨n4, ⟨n5, n6⟩, ⟨n7, n8⟩, ⟨n9, n10, n11, n12, n13, n14, n15, n16⟩, n17, l18⟩, ⟨n19, l20⟩, l21, l22⟩ := x
    have h0 : n0 = false := h0
    have h1 : ((n19, l20), l21, l22) = (((0 : Int), ([] : List Int)), ([] : List Ent), ([] : List Ses)) := h1
    simp only [Prod.mk.injEq] at h1
    obtain ⟨⟨rfl, rfl⟩, rfl, rfl⟩ := h1
    subst h0
    have hz : ∀ {k : Nat} {K : Knd Try.prog (Cls k)} {α : Type} {S : Shp α} {a : Option Addr} {m c : Nat} {rs : List (Cls k)}, RowIs K S w (.slice a m c) rs ([] : List α) → m = 0 := by
      intro k K α S a m c rs hr
      obtain ⟨_, _, e⟩ := hr.rd.slice
      simp only [Value.slice.injEq] at e
      have := hr.len
      simp at this
      rw [e.2.1, this]
      rfl
    obtain rfl := hz hr20
    obtain rfl := hz hr21
    obtain rfl := hz hr22
    obtain rfl : cs = #[.bool false, .int .i64 n1, .int .i64 n2, .int .i64 n3, .int .i64 n4, .int .i64 n5, .int .i64 n6, .int .i64 n7, .int .i64 n8, .int .i64 n9, .int .i64 n10, .int .i64 n11, .string n12, .string n13, .int .i64 n14, .int .i64 n15, .int .i64 n16, .int .i64 n17, .slice a18 m18 c18, .int .i64 0, .slice a20 0 c20, .slice a21 0 c21, .slice a22 0 c22] := by
      cases cs
      simpa [idE, inV, snV] using hcs
    exact nosnap0 n1 n2 n3 n4 n5 n6 n7 n8 n9 n10 n11 n12 n13 n14 n15 n16 n17 a18 m18 c18 a20 c20 a21 c21 a22 c22 w1)
  have H0 := Lib.hid h0
  clear hs HM h0 h1
  go_enter Try.func14, Try.ntmps14
  go_wp2_with (refine wpList_load_rowG rfl _ _ rfl w.heap.size rfl 46 cs (0, 0) _ HX.out Try.underlying46 rfl HI.out ?_)
  refine (HNS.out _).mono ?_
  rintro e w1 ⟨he, hb⟩
  rw [he.out]
  clear he HNS
  have hz : (w.alloc (.cells cs 46)).heap.size = w.heap.size + 1 := by simp
  rw [hz] at hb
  have HX1 := Lib.hid ((hb.block _ (by omega)).trans HX.out)
  have HB1 := Lib.hid (show Below w.heap.size w w1 from ((Below.refl _ _).alloc (Nat.le_refl _) _).trans (hb.mono (by omega)))
  have HM3 := Lib.hid (HM2.out.on (hz ▸ hb))
  clear hz hb HX HM2
  go_wp2_with (refine wpList_load_rowG rfl _ _ rfl w.heap.size rfl 46 cs (0, 0) _ HX1.out Try.underlying46 rfl HI.out ?_)
  refine (written_rec _ _ _ HM3.out H0.out).mono ?_
  rintro e w2 hP
  have HP := Lib.hid hP
  clear hP
  rcases HP.out with ⟨q, u, he, h1, h2⟩ | ⟨q, he, h2⟩
  · rw [he.out]
    clear he HP
    have HU := Lib.hid (show Own8 w2 w.heap.size u _ from h1.base HB1.out.size)
    have H3 := Lib.hid (HB1.out.trans (h2.mono HB1.out.size))
    have HQ := Lib.hid q
    clear h1 h2 q
    go_wp2_with fail
    go_ret2
    exact Or.inl ⟨HQ.out, u, rfl, HU.out, H3.out⟩
  · rw [he.out]
    clear he HP
    have H3 := Lib.hid (HB1.out.trans (h2.mono HB1.out.size))
    have HQ := Lib.hid q
    clear h2 q
    go_wp2_with fail
    go_ret2
    exact Or.inr ⟨HQ.out, rfl, H3.out⟩
end Go.Proofs.Ytllcmapgigfgoaa
