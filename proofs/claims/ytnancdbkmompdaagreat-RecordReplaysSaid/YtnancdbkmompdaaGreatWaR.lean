/-
 Texts put together: Ce1, Ce2, Ce3.
-/
import Derived.Test.YtnancdbkmompdaaGreatRY
import Derived.Test.YtnancdbkmompdaaGreatCqR
import Derived.Deep.Cut
import Derived.Test.YtnancdbkmompdaaGreatWrR
namespace Go.Proofs.YtnancdbkmompdaaGreat
open Go.RowKit
set_option linter.unusedSimpArgs false
set_option linter.unusedVariables false
set_option maxRecDepth 100000
set_option maxHeartbeats 40000000
theorem w_rec1 (B b c : Nat) (n1 : Int) (n2 : Int) (n3 : Int) (n4 : Int) (n5 : Int) (n6 : Int) (n7 : Int) (n8 : Int) (n9 : Int) (n10 : Int) (n11 : Int) (n12 : ByteArray) (n13 : ByteArray) (n14 : Int) (n15 : Int) (n16 : Int) (n17 : Int) (a18 : Option Addr) (m18 c18 : Nat) (n19 : Int) (a20 : Option Addr) (m20 c20 : Nat) (a21 : Option Addr) (m21 c21 : Nat) (a22 : Option Addr) (m22 c22 : Nat) (rs20 : List (Cls 1)) (l20 : List Int) (rs21 : List (Cls 3)) (l21 : List Ent) (rs22 : List (Cls 6)) (l22 : List Ses) (st st' : Option (List Int)) (K : Nat) (W w : World) (h : WO w B b c st) (hW : Below W.heap.size W w) (hWB : W.heap.size ≤ B) (hE : wrs st (.num 1 :: snC.fs ((n19, l20), l21, l22)) = st') (hK : Sh K st) (hk : K + 1060000 ≤ 20000000) (hr20 : RowIs KN numS W (.slice a20 m20 c20) rs20 l20) (hr21 : RowIs KE enS W (.slice a21 m21 c21) rs21 l21) (hr22 : RowIs KZ seS W (.slice a22 m22 c22) rs22 l22) :
  Calls Tryz.prog 35 #[fW c, .agg #[.bool true, .int .i64 n1, .int .i64 n2, .int .i64 n3, .int .i64 n4, .int .i64 n5, .int .i64 n6, .int .i64 n7, .int .i64 n8, .int .i64 n9, .int .i64 n10, .int .i64 n11, .string n12, .string n13, .int .i64 n14, .int .i64 n15, .int .i64 n16, .int .i64 n17, .slice a18 m18 c18, .int .i64 n19, .slice a20 m20 c20, .slice a21 m21 c21, .slice a22 m22 c22]] w (W_rec B b c st' w) := by
 rw [wrs_cons] at hE
 obtain ⟨st1, he0⟩ : ∃ x, wr1 st (.num 1) = x := ⟨_, rfl⟩
 rw [he0] at hE
 have E0 := Hd he0
 have E1 := Hd hE
 have K0 := Hd hK
 have K1 : Hid (Sh (K + 1) st1) := Hd (by rw [← he0]; exact hK.one _)
 have HBW := Hd hW
 have HWB := Hd hWB
 have HR20 := Hd hr20
 have HR21 := Hd hr21
 have HR22 := Hd hr22
 clear he0 hE hK hW hWB hr20 hr21 hr22
 have HS0 : Hid (StW w ((w.alloc (.cells #[.bool true, .int .i64 n1, .int .i64 n2, .int .i64 n3, .int .i64 n4, .int .i64 n5, .int .i64 n6, .int .i64 n7, .int .i64 n8, .int .i64 n9, .int .i64 n10, .int .i64 n11, .string n12, .string n13, .int .i64 n14, .int .i64 n15, .int .i64 n16, .int .i64 n17, .slice a18 m18 c18, .int .i64 n19, .slice a20 m20 c20, .slice a21 m21 c21, .slice a22 m22 c22] 61)).alloc (.cells #[.bool false, .int .i64 0, .int .i64 0, .int .i64 0, .int .i64 0, .int .i64 0, .int .i64 0, .int .i64 0, .int .i64 0, .int .i64 0, .int .i64 0, .int .i64 0, .string ⟨#[]⟩, .string ⟨#[]⟩, .int .i64 0, .int .i64 0, .int .i64 0, .int .i64 0, .slice none 0 0, .int .i64 0, .slice none 0 0, .slice none 0 0, .slice none 0 0] 61)) B b c w.heap.size 61 [.bool true, .int .i64 n1, .int .i64 n2, .int .i64 n3, .int .i64 n4, .int .i64 n5, .int .i64 n6, .int .i64 n7, .int .i64 n8, .int .i64 n9, .int .i64 n10, .int .i64 n11, .string n12, .string n13, .int .i64 n14, .int .i64 n15, .int .i64 n16, .int .i64 n17, .slice a18 m18 c18, .int .i64 n19, .slice a20 m20 c20, .slice a21 m21 c21, .slice a22 m22 c22] [.bool false, .int .i64 0, .int .i64 0, .int .i64 0, .int .i64 0, .int .i64 0, .int .i64 0, .int .i64 0, .int .i64 0, .int .i64 0, .int .i64 0, .int .i64 0, .string ⟨#[]⟩, .string ⟨#[]⟩, .int .i64 0, .int .i64 0, .int .i64 0, .int .i64 0, .slice none 0 0, .int .i64 0, .slice none 0 0, .slice none 0 0, .slice none 0 0] st) := Hd (StW.start h 61 (by decide) [.bool true, .int .i64 n1, .int .i64 n2, .int .i64 n3, .int .i64 n4, .int .i64 n5, .int .i64 n6, .int .i64 n7, .int .i64 n8, .int .i64 n9, .int .i64 n10, .int .i64 n11, .string n12, .string n13, .int .i64 n14, .int .i64 n15, .int .i64 n16, .int .i64 n17, .slice a18 m18 c18, .int .i64 n19, .slice a20 m20 c20, .slice a21 m21 c21, .slice a22 m22 c22] [.bool false, .int .i64 0, .int .i64 0, .int .i64 0, .int .i64 0, .int .i64 0, .int .i64 0, .int .i64 0, .int .i64 0, .int .i64 0, .int .i64 0, .int .i64 0, .string ⟨#[]⟩, .string ⟨#[]⟩, .int .i64 0, .int .i64 0, .int .i64 0, .int .i64 0, .slice none 0 0, .int .i64 0, .slice none 0 0, .slice none 0 0, .slice none 0 0])
 clear h
 have hm1 := mwnum c
 go_enter Tryz.func35, Tryz.ntmps35
 have y00 := HS0.out.bx.cell 0
 simp only [List.getElem?_cons_zero] at y00
 go_wp2_with fail
 refine (cwnum B b c 1 _ _ HS0.out.ob (K0.out.max (by omega))).mono ?_
 rw [E0.out]
 rintro e w1 ⟨he, h1, h2⟩
 rw [he.out]
 clear he y00
 have HS1 := Hd (HS0.out.call h1 h2)
 have HS2 := Hd (show StW w (w1.setCell ⟨w.heap.size, 0, none⟩ (.bool true)) B b c w.heap.size 61 [.bool true, .int .i64 n1, .int .i64 n2, .int .i64 n3, .int .i64 n4, .int .i64 n5, .int .i64 n6, .int .i64 n7, .int .i64 n8, .int .i64 n9, .int .i64 n10, .int .i64 n11, .string n12, .string n13, .int .i64 n14, .int .i64 n15, .int .i64 n16, .int .i64 n17, .slice a18 m18 c18, .int .i64 n19, .slice a20 m20 c20, .slice a21 m21 c21, .slice a22 m22 c22] [.bool false, .int .i64 0, .int .i64 0, .int .i64 0, .int .i64 0, .int .i64 0, .int .i64 0, .int .i64 0, .int .i64 0, .int .i64 0, .int .i64 0, .int .i64 0, .string ⟨#[]⟩, .string ⟨#[]⟩, .int .i64 0, .int .i64 0, .int .i64 0, .int .i64 0, .slice none 0 0, .int .i64 0, .slice none 0 0, .slice none 0 0, .slice none 0 0] st1 from HS1.out.store 0 [.bool true])
 have y0 := HS1.out.bx.cell 0
 have z0 := HS1.out.bx.fz 0
 simp only [List.getElem?_cons_zero] at y0
 have hb := HS2.out.bx
 have y19 : _ = some ((.int .i64 n19) : Value) := hb.cell 19
 have y20 : _ = some ((.slice a20 m20 c20) : Value) := hb.cell 20
 have y21 : _ = some ((.slice a21 m21 c21) : Value) := hb.cell 21
 have y22 : _ = some ((.slice a22 m22 c22) : Value) := hb.cell 22
 have zz := hb.lt
 clear hb h1 h2 HS0 HS1
 go_wp2_with fail
 generalize w1.setCell ⟨w.heap.size, 0, none⟩ (.bool true) = wq at *
 refine (w_sn B b c n19 a20 m20 c20 a21 m21 c21 a22 m22 c22 rs20 l20 rs21 l21 rs22 l22 _ _ _ W _ HS2.out.ob (HBW.out.trans (HS2.out.ft.low.mono HWB.out)) HWB.out E1.out K1.out (by omega) HR20.out HR21.out HR22.out).mono ?_
 rintro e w3 ⟨b20, d20, f20, b21, d21, f21, b22, d22, f22, he, h1, h2⟩
 rw [he.out]
 clear he zz y19 y20 y21 y22
 have HC := Hd (HS2.out.call h1 h2)
 clear h1 h2 HS2
 go_wp2_with (refine wpList_store_bk rfl _ _ _ rfl w.heap.size 19 rfl _ [.int .i64 n19, .slice b20 d20 f20, .slice b21 d21 f21, .slice b22 d22 f22] rfl rfl (by kernel_rfl) 61 [.bool true, .int .i64 n1, .int .i64 n2, .int .i64 n3, .int .i64 n4, .int .i64 n5, .int .i64 n6, .int .i64 n7, .int .i64 n8, .int .i64 n9, .int .i64 n10, .int .i64 n11, .string n12, .string n13, .int .i64 n14, .int .i64 n15, .int .i64 n16, .int .i64 n17, .slice a18 m18 c18, .int .i64 n19, .slice a20 m20 c20, .slice a21 m21 c21, .slice a22 m22 c22] [.bool true, .int .i64 n1, .int .i64 n2, .int .i64 n3, .int .i64 n4, .int .i64 n5, .int .i64 n6, .int .i64 n7, .int .i64 n8, .int .i64 n9, .int .i64 n10, .int .i64 n11, .string n12, .string n13, .int .i64 n14, .int .i64 n15, .int .i64 n16, .int .i64 n17, .slice a18 m18 c18, .int .i64 n19, .slice b20 d20 f20, .slice b21 d21 f21, .slice b22 d22 f22] HC.out.bx (by simp) rfl rfl ?_)
 intro v3 hsx hb
 have HS3 := Hd (HC.out.storeS hsx hb)
 clear hsx HC
 have HHb := Hd hb
 have HHr := Hd HS3.out.rs
 clear hb
 go_wp2_with (first | (refine wpList_load_row rfl _ _ rfl w.heap.size rfl 61 _ (0, 0) _ HHb.out Tryz.underlying61 rfl (by kernel_rfl) ?_) | (refine wpList_store_bk rfl _ _ _ rfl (w.heap.size + 1) 0 rfl _ [.bool true, .int .i64 n1, .int .i64 n2, .int .i64 n3, .int .i64 n4, .int .i64 n5, .int .i64 n6, .int .i64 n7, .int .i64 n8, .int .i64 n9, .int .i64 n10, .int .i64 n11, .string n12, .string n13, .int .i64 n14, .int .i64 n15, .int .i64 n16, .int .i64 n17, .slice a18 m18 c18, .int .i64 n19, .slice b20 d20 f20, .slice b21 d21 f21, .slice b22 d22 f22] rfl rfl (by kernel_rfl) 61 [.bool false, .int .i64 0, .int .i64 0, .int .i64 0, .int .i64 0, .int .i64 0, .int .i64 0, .int .i64 0, .int .i64 0, .int .i64 0, .int .i64 0, .int .i64 0, .string ⟨#[]⟩, .string ⟨#[]⟩, .int .i64 0, .int .i64 0, .int .i64 0, .int .i64 0, .slice none 0 0, .int .i64 0, .slice none 0 0, .slice none 0 0, .slice none 0 0] [.bool true, .int .i64 n1, .int .i64 n2, .int .i64 n3, .int .i64 n4, .int .i64 n5, .int .i64 n6, .int .i64 n7, .int .i64 n8, .int .i64 n9, .int .i64 n10, .int .i64 n11, .string n12, .string n13, .int .i64 n14, .int .i64 n15, .int .i64 n16, .int .i64 n17, .slice a18 m18 c18, .int .i64 n19, .slice b20 d20 f20, .slice b21 d21 f21, .slice b22 d22 f22] HHr.out (by simp) rfl rfl ?_))
 intro wf hsx hb
 have HO2 := Hd (HS3.out.resultS hsx)
 have HF2 := Hd (HS3.out.toStB.resultS hsx)
 have hb' : wf.heap[w.heap.size + 1]? = some (.cells _ _ (0, 0)) := hb
 have HB := Hd hb'
 clear hb hb' hsx HHb HHr
 go_wp2_with fail
 exact bodyPost_ret (results_cell_row rfl _ _ (w.heap.size + 1) _ _ _ _ rfl HB.out Tryz.underlying61 rfl (by kernel_rfl)) rfl ⟨_, rfl, HO2.out, HF2.out⟩
/-- What is written of a record. -/
def rcFs (x : Rec4) : List Fd := if x.1 then .num 1 :: snC.fs x.2.2.2 else rc0Fs x
theorem rc_sh (x : Rec4) {K : Nat} {st : Option (List Int)} (h : Sh K st) : Sh (K + 1060000) (wrs st (rcFs x)) := by
 unfold rcFs
 split
 ·rw [wrs_cons]
  exact (ShC.sn _ _ _ (h.one _)).le (by omega)
 ·exact (rc0_sh x h).le (by omega)
theorem w_recJ (B b c : Nat) (cs : Array Value) (x : Rec4) (st : Option (List Int)) (K : Nat) (W w : World) (h : WO w B b c st) (hW : Below W.heap.size W w) (hWB : W.heap.size ≤ B) (hK : Sh K st) (hk : K + 1060000 ≤ 20000000) (hs : rcS.is W cs.toList x) (h0 : x.1 = true) :
  Calls Tryz.prog 35 #[fW c, .agg cs] w (WUP B b c (wrs st (.num 1 :: snC.fs x.2.2.2)) w) := by
 obtain ⟨a18, m18, c18, rs18, a20, m20, c20, rs20, a21, m21, c21, rs21, a22, m22, c22, rs22, hcs, hs12, hs13, hr18, hr20, hr21, hr22⟩ := rc_is hs
 obtain ⟨n0, ⟨n1, n2, n3⟩, ⟨n4, ⟨n5, n6⟩, ⟨n7, n8⟩, ⟨n9, n10, n11, n12, n13, n14, n15, n16⟩, n17, l18⟩, ⟨n19, l20⟩, l21, l22⟩ := x
 have h0 : n0 = true := h0
 subst h0
 obtain rfl : cs = #[.bool true, .int .i64 n1, .int .i64 n2, .int .i64 n3, .int .i64 n4, .int .i64 n5, .int .i64 n6, .int .i64 n7, .int .i64 n8, .int .i64 n9, .int .i64 n10, .int .i64 n11, .string n12, .string n13, .int .i64 n14, .int .i64 n15, .int .i64 n16, .int .i64 n17, .slice a18 m18 c18, .int .i64 n19, .slice a20 m20 c20, .slice a21 m21 c21, .slice a22 m22 c22] := by
  cases cs
  simpa [idE, inV, snV] using hcs
 simp only at hr20 hr21 hr22
 refine (w_rec1 B b c n1 n2 n3 n4 n5 n6 n7 n8 n9 n10 n11 n12 n13 n14 n15 n16 n17 a18 m18 c18 n19 a20 m20 c20 a21 m21 c21 a22 m22 c22 rs20 l20 rs21 l21 rs22 l22 _ _ K W w h hW hWB rfl hK hk hr20 hr21 hr22).mono ?_
 rintro e w2 ⟨cs, he, h1, h2⟩
 exact ⟨_, he, h1, h2⟩
theorem w_recG (B b c : Nat) (cs : Array Value) (x : Rec4) (st : Option (List Int)) (K : Nat) (W w : World) (h : WO w B b c st) (hW : Below W.heap.size W w) (hWB : W.heap.size ≤ B) (hK : Sh K st) (hk : K + 1060000 ≤ 20000000) (hs : rcS.is W cs.toList x) :
  Calls Tryz.prog 35 #[fW c, .agg cs] w (WUP B b c (wrs st (rcFs x)) w) := by
 by_cases q : x.1 = true
 ·have e : rcFs x = .num 1 :: snC.fs x.2.2.2 := by unfold rcFs; rw [if_pos q]
  rw [e]
  exact w_recJ B b c cs x st K W w h hW hWB hK hk hs q
 ·have e : rcFs x = rc0Fs x := by unfold rcFs; rw [if_neg q]
  rw [e]
  exact w_recI B b c cs x st K W w h hW hWB hK (by omega) hs (by simpa using q)
theorem written_recG (v : Value) (x : Rec4) (w : World) (h : RecIs w v x) :
  Calls Tryz.prog 40 #[v, .func (.func 35) #[] #[]] w (ByP (rcFs x) w) := by
 obtain ⟨cs, rfl, hs⟩ := h
 have HI : Hid ((Tryz.prog.info? 61).map (·.size) = some cs.size) := Hd (by rw [rc_size hs]; kernel_rfl)
 have HM := Hd hs
 have HX := Hd (bka_new w 61 cs)
 clear hs
 go_enter Tryz.func40, Tryz.ntmps40
 go_wp2_with fail
 refine (vnew_any _).mono ?_
 rintro e w1 ⟨he, h1, h2, h3⟩
 rw [he.out]
 clear he
 have hz : (w.alloc (.cells cs 61)).heap.size = w.heap.size + 1 := by simp
 rw [hz] at h1 h2 h3 ⊢
 clear hz
 have HZ := Hd h3
 have hX1 : w1.heap[w.heap.size]? = some (.cells cs 61 (0, 0)) := (h2.block _ (by omega)).trans HX.out
 have HX2 : Hid ((w1.alloc (.cells #[.pointer (some ⟨w.heap.size + 1, 0, none⟩)] 137)).heap[w.heap.size]? = some (.cells cs 61 (0, 0))) := Hd ((Below.heap_alloc _ _ _ (by omega)).trans hX1)
 have HC := Hd (Bk.new w1 137 [.pointer (some ⟨w.heap.size + 1, 0, none⟩)])
 have HO : Hid (WO (w1.alloc (.cells #[.pointer (some ⟨w.heap.size + 1, 0, none⟩)] 137)) (w.heap.size + 1) (w.heap.size + 1) w1.heap.size (some [])) := Hd ⟨⟨_, h1.below ((Below.refl _ _).alloc (Nat.le_refl _) _)⟩, HC.out, by omega, by omega⟩
 have HB := Hd (show Below w.heap.size w (w1.alloc (.cells #[.pointer (some ⟨w.heap.size + 1, 0, none⟩)] 137)) from (((Below.refl _ _).alloc (Nat.le_refl _) _).trans (h2.mono (by omega))).alloc (by omega) _)
 have HK : Hid (Sh 0 (some [])) := Hd (by simp [Sh, stl])
 have HWB : Hid (w.heap.size ≤ w.heap.size + 1) := Hd (by omega)
 clear h1 h2 h3 hX1 HX
 go_wp2_with (refine wpList_load_row rfl _ _ rfl w.heap.size rfl 61 cs (0, 0) _ HX2.out Tryz.underlying61 rfl HI.out ?_)
 refine (w_recG (w.heap.size + 1) (w.heap.size + 1) w1.heap.size cs x _ 0 w _ HO.out HB.out HWB.out HK.out (by omega) HM.out).mono ?_
 rintro e w2 ⟨u, he, h1, h2⟩
 rw [he.out]
 clear he
 have H1 := Hd h1
 have HB2 := Hd (HB.out.trans (h2.low.mono (by omega : w.heap.size ≤ w.heap.size + 1)))
 have c0 := h1.bx.cell 0
 simp only [List.getElem?_cons_zero] at c0
 have hlt := h1.bx.lt
 have hsz : w.heap.size ≤ w2.heap.size := HB2.out.size
 have HSh : Hid (Sh 1060000 (wrs (some []) (rcFs x))) := Hd ((rc_sh x HK.out).le (by omega))
 clear h1 h2
 by_cases q : Oks (rcFs x)
 ·have e1 := wrs_ok _ [] q
  rw [List.nil_append] at e1
  rw [e1] at H1 HSh
  have HQ := Hd q
  clear e1 q
  obtain ⟨v2, hv2⟩ := H1.out.wr
  have HV := Hd hv2
  have hlen : (eF (rcFs x)).length ≤ 99999999900 := by have h := HSh.out; unfold Sh stl at h; simp only [Option.getD_some] at h; omega
  clear hv2
  go_wp2_with fail
  refine (vbytes_good _ _ _ _ _ HV.out hlen).mono ?_
  rintro e w3 ⟨u, he, h1, h2⟩
  rw [he.out]
  clear he
  have HU := Hd (h1.base hsz)
  have H3 := Hd (HB2.out.trans (h2.mono hsz))
  clear h1 h2
  go_wp2_with fail
  go_ret2
  exact Or.inl ⟨HQ.out, u, rfl, HU.out, H3.out⟩
 ·have e1 := wrs_bad _ [] q
  rw [e1] at H1 HSh
  have HQ := Hd q
  clear e1 q
  obtain ⟨v2, hv2⟩ := H1.out.wr
  have HV := Hd hv2
  clear hv2
  go_wp2_with fail
  refine (vbytes_bad _ _ _ _ HV.out).mono ?_
  rintro e w3 ⟨rfl, rfl⟩
  go_wp2_with fail
  go_ret2
  exact Or.inr ⟨HQ.out, rfl, HB2.out⟩
theorem eqI0 (a : Int) (b : Int) (c : Int) : (∀ w, Sem.run Tryz.prog (binOp .eql 49 (.agg #[.int .i64 a, .int .i64 b, .int .i64 c]) (.agg #[.int .i64 0, .int .i64 0, .int .i64 0])) w = .ok (.bool (decide (a = 0 ∧ b = 0 ∧ c = 0))) w) ∧
  (∀ op x y w, Sem.run Tryz.prog (eqGuard op 49 x y (.agg #[.int .i64 a, .int .i64 b, .int .i64 c]) (.agg #[.int .i64 0, .int .i64 0, .int .i64 0])) w = .ok () w) := by
 refine ⟨fun w => ?_, fun op x y w => run_eqGuard_agg w op 49 x y _ _ (by kernel_rfl)⟩
 have u3 := Tryz.underlying9
 have a3 := Tryz.isAgg9
 have z3 := Tryz.sizeOf9
 have u4 := Tryz.underlying3
 have a4 := Tryz.isAgg3
 have z4 := Tryz.sizeOf3
 have hS : Tryz.prog.underlying 49 = some (.struct (Tryz.prog.fieldsOf 49)) := by kernel_rfl
 have hp : Tryz.prog.stoodInHeld 49 = false := by kernel_rfl
 rw [run_eql_struct, show (10000 : Nat) = 9999 + 1 from rfl, run_equalIn_agg w 9999 49 _ _ hS hp]
 simp only [Program.fieldsOf, Tryz.underlying49]
 go_simp
 by_cases h0 : a = 0
 rotate_left
 ·simp [h0]
 subst h0
 by_cases h1 : b = 0
 rotate_left
 ·simp [h1]
 subst h1
 by_cases h2 : c = 0
 rotate_left
 ·simp [h2]
 subst h2
 simp
theorem eqB0 (a : Int) (b : Int) : (∀ w, Sem.run Tryz.prog (binOp .eql 52 (.agg #[.int .i64 a, .int .i64 b]) (.agg #[.int .i64 0, .int .i64 0])) w = .ok (.bool (decide (a = 0 ∧ b = 0))) w) ∧
  (∀ op x y w, Sem.run Tryz.prog (eqGuard op 52 x y (.agg #[.int .i64 a, .int .i64 b]) (.agg #[.int .i64 0, .int .i64 0])) w = .ok () w) := by
 refine ⟨fun w => ?_, fun op x y w => run_eqGuard_agg w op 52 x y _ _ (by kernel_rfl)⟩
 have u3 := Tryz.underlying9
 have a3 := Tryz.isAgg9
 have z3 := Tryz.sizeOf9
 have u4 := Tryz.underlying3
 have a4 := Tryz.isAgg3
 have z4 := Tryz.sizeOf3
 have hS : Tryz.prog.underlying 52 = some (.struct (Tryz.prog.fieldsOf 52)) := by kernel_rfl
 have hp : Tryz.prog.stoodInHeld 52 = false := by kernel_rfl
 rw [run_eql_struct, show (10000 : Nat) = 9999 + 1 from rfl, run_equalIn_agg w 9999 52 _ _ hS hp]
 simp only [Program.fieldsOf, Tryz.underlying52]
 go_simp
 by_cases h0 : a = 0
 rotate_left
 ·simp [h0]
 subst h0
 by_cases h1 : b = 0
 rotate_left
 ·simp [h1]
 subst h1
 simp
theorem eqC0 (a : Int) (b : Int) (c : Int) (d : ByteArray) (e : ByteArray) (f : Int) (g : Int) (h : Int) : (∀ w, Sem.run Tryz.prog (binOp .eql 55 (.agg #[.int .i64 a, .int .i64 b, .int .i64 c, .string d, .string e, .int .i64 f, .int .i64 g, .int .i64 h]) (.agg #[.int .i64 0, .int .i64 0, .int .i64 0, .string ⟨#[]⟩, .string ⟨#[]⟩, .int .i64 0, .int .i64 0, .int .i64 0])) w = .ok (.bool (decide (a = 0 ∧ b = 0 ∧ c = 0 ∧ d = ⟨#[]⟩ ∧ e = ⟨#[]⟩ ∧ f = 0 ∧ g = 0 ∧ h = 0))) w) ∧
  (∀ op x y w, Sem.run Tryz.prog (eqGuard op 55 x y (.agg #[.int .i64 a, .int .i64 b, .int .i64 c, .string d, .string e, .int .i64 f, .int .i64 g, .int .i64 h]) (.agg #[.int .i64 0, .int .i64 0, .int .i64 0, .string ⟨#[]⟩, .string ⟨#[]⟩, .int .i64 0, .int .i64 0, .int .i64 0])) w = .ok () w) := by
 refine ⟨fun w => ?_, fun op x y w => run_eqGuard_agg w op 55 x y _ _ (by kernel_rfl)⟩
 have u3 := Tryz.underlying9
 have a3 := Tryz.isAgg9
 have z3 := Tryz.sizeOf9
 have u4 := Tryz.underlying3
 have a4 := Tryz.isAgg3
 have z4 := Tryz.sizeOf3
 have u5 := Tryz.underlying53
 have a5 := Tryz.isAgg53
 have z5 := Tryz.sizeOf53
 have hS : Tryz.prog.underlying 55 = some (.struct (Tryz.prog.fieldsOf 55)) := by kernel_rfl
 have hp : Tryz.prog.stoodInHeld 55 = false := by kernel_rfl
 rw [run_eql_struct, show (10000 : Nat) = 9999 + 1 from rfl, run_equalIn_agg w 9999 55 _ _ hS hp]
 simp only [Program.fieldsOf, Tryz.underlying55]
 go_simp
 by_cases h0 : a = 0
 rotate_left
 ·simp [h0]
 subst h0
 by_cases h1 : b = 0
 rotate_left
 ·simp [h1]
 subst h1
 by_cases h2 : c = 0
 rotate_left
 ·simp [h2]
 subst h2
 by_cases h3 : d = ⟨#[]⟩
 rotate_left
 ·have q : d.toList ≠ [] := by
   intro e
   rw [ByteArray.toList_eq] at e
   exact h3 (ByteArray.ext (by simpa using e))
  simp [h3, q]
 subst h3
 by_cases h4 : e = ⟨#[]⟩
 rotate_left
 ·have q : e.toList ≠ [] := by
   intro e
   rw [ByteArray.toList_eq] at e
   exact h4 (ByteArray.ext (by simpa using e))
  simp [h4, q]
 subst h4
 by_cases h5 : f = 0
 rotate_left
 ·simp [h5]
 subst h5
 by_cases h6 : g = 0
 rotate_left
 ·simp [h6]
 subst h6
 by_cases h7 : h = 0
 rotate_left
 ·simp [h7]
 subst h7
 simp
def BoP (b : Bool) (w : World) (e : Ending) (w' : World) : Prop := Hid (e = .returned (.bool b)) ∧ Below w.heap.size w w'
theorem noinst_any (n0 : Bool) (n1 : Int) (n2 : Int) (n3 : Int) (n4 : Int) (n5 : Int) (n6 : Int) (n7 : Int) (n8 : Int) (n9 : Int) (n10 : Int) (n11 : Int) (n12 : ByteArray) (n13 : ByteArray) (n14 : Int) (n15 : Int) (n16 : Int) (n17 : Int) (a18 : Option Addr) (m18 c18 : Nat) (n19 : Int) (a20 : Option Addr) (m20 c20 : Nat) (a21 : Option Addr) (m21 c21 : Nat) (a22 : Option Addr) (m22 c22 : Nat) (w : World) (hm : m18 ≤ 9223372036854775807) : Calls Tryz.prog 38 #[.agg #[.bool n0, .int .i64 n1, .int .i64 n2, .int .i64 n3, .int .i64 n4, .int .i64 n5, .int .i64 n6, .int .i64 n7, .int .i64 n8, .int .i64 n9, .int .i64 n10, .int .i64 n11, .string n12, .string n13, .int .i64 n14, .int .i64 n15, .int .i64 n16, .int .i64 n17, .slice a18 m18 c18, .int .i64 n19, .slice a20 m20 c20, .slice a21 m21 c21, .slice a22 m22 c22]] w (BoP (decide ((n1 = 0 ∧ n2 = 0 ∧ n3 = 0) ∧ n4 = 0 ∧ (n5 = 0 ∧ n6 = 0) ∧ (n7 = 0 ∧ n8 = 0) ∧ (n9 = 0 ∧ n10 = 0 ∧ n11 = 0 ∧ n12 = ⟨#[]⟩ ∧ n13 = ⟨#[]⟩ ∧ n14 = 0 ∧ n15 = 0 ∧ n16 = 0) ∧ n17 = 0 ∧ m18 = 0)) w) := by
 obtain ⟨e1, g1⟩ := eqI0 n1 n2 n3
 obtain ⟨e2, g2⟩ := eqB0 n5 n6
 obtain ⟨e3, g3⟩ := eqB0 n7 n8
 obtain ⟨e4, g4⟩ := eqC0 n9 n10 n11 n12 n13 n14 n15 n16
 have hm' : (m18 : Int) ≤ 9223372036854775807 := by omega
 obtain ⟨B, hBB⟩ : ∃ B, decide ((n1 = 0 ∧ n2 = 0 ∧ n3 = 0) ∧ n4 = 0 ∧ (n5 = 0 ∧ n6 = 0) ∧ (n7 = 0 ∧ n8 = 0) ∧ (n9 = 0 ∧ n10 = 0 ∧ n11 = 0 ∧ n12 = ⟨#[]⟩ ∧ n13 = ⟨#[]⟩ ∧ n14 = 0 ∧ n15 = 0 ∧ n16 = 0) ∧ n17 = 0 ∧ m18 = 0) = B := ⟨_, rfl⟩
 rw [hBB]
 have HBB := Hd hBB
 clear hBB
 have hbk := Bk.new w 61 [.bool n0, .int .i64 n1, .int .i64 n2, .int .i64 n3, .int .i64 n4, .int .i64 n5, .int .i64 n6, .int .i64 n7, .int .i64 n8, .int .i64 n9, .int .i64 n10, .int .i64 n11, .string n12, .string n13, .int .i64 n14, .int .i64 n15, .int .i64 n16, .int .i64 n17, .slice a18 m18 c18, .int .i64 n19, .slice a20 m20 c20, .slice a21 m21 c21, .slice a22 m22 c22]
 have HB1 : Hid (Below w.heap.size w ((w.alloc (.cells #[.bool n0, .int .i64 n1, .int .i64 n2, .int .i64 n3, .int .i64 n4, .int .i64 n5, .int .i64 n6, .int .i64 n7, .int .i64 n8, .int .i64 n9, .int .i64 n10, .int .i64 n11, .string n12, .string n13, .int .i64 n14, .int .i64 n15, .int .i64 n16, .int .i64 n17, .slice a18 m18 c18, .int .i64 n19, .slice a20 m20 c20, .slice a21 m21 c21, .slice a22 m22 c22] 61)).alloc (.cells #[.int .i64 n4, .int .i64 n5, .int .i64 n6, .int .i64 n7, .int .i64 n8, .int .i64 n9, .int .i64 n10, .int .i64 n11, .string n12, .string n13, .int .i64 n14, .int .i64 n15, .int .i64 n16, .int .i64 n17, .slice a18 m18 c18] 59))) := Hd (((Below.refl _ _).alloc (Nat.le_refl _) _).alloc (by simp) _)
 have hi := Bk.new (w.alloc (.cells #[.bool n0, .int .i64 n1, .int .i64 n2, .int .i64 n3, .int .i64 n4, .int .i64 n5, .int .i64 n6, .int .i64 n7, .int .i64 n8, .int .i64 n9, .int .i64 n10, .int .i64 n11, .string n12, .string n13, .int .i64 n14, .int .i64 n15, .int .i64 n16, .int .i64 n17, .slice a18 m18 c18, .int .i64 n19, .slice a20 m20 c20, .slice a21 m21 c21, .slice a22 m22 c22] 61)) 59 [.int .i64 n4, .int .i64 n5, .int .i64 n6, .int .i64 n7, .int .i64 n8, .int .i64 n9, .int .i64 n10, .int .i64 n11, .string n12, .string n13, .int .i64 n14, .int .i64 n15, .int .i64 n16, .int .i64 n17, .slice a18 m18 c18]
 rw [World.size_alloc] at hi
 have hr := hbk.old (.cells #[.int .i64 n4, .int .i64 n5, .int .i64 n6, .int .i64 n7, .int .i64 n8, .int .i64 n9, .int .i64 n10, .int .i64 n11, .string n12, .string n13, .int .i64 n14, .int .i64 n15, .int .i64 n16, .int .i64 n17, .slice a18 m18 c18] 59)
 have y4 := hbk.cell 4
 have y5 := hbk.cell 5
 have y6 := hbk.cell 6
 have y7 := hbk.cell 7
 have y8 := hbk.cell 8
 have y9 := hbk.cell 9
 have y10 := hbk.cell 10
 have y11 := hbk.cell 11
 have y12 := hbk.cell 12
 have y13 := hbk.cell 13
 have y14 := hbk.cell 14
 have y15 := hbk.cell 15
 have y16 := hbk.cell 16
 have y17 := hbk.cell 17
 have y18 := hbk.cell 18
 have r1 := hr.cell 1
 have r2 := hr.cell 2
 have r3 := hr.cell 3
 have i4 := hi.cell 0
 have i5 := hi.cell 1
 have i6 := hi.cell 2
 have i7 := hi.cell 3
 have i8 := hi.cell 4
 have i9 := hi.cell 5
 have i10 := hi.cell 6
 have i11 := hi.cell 7
 have i12 := hi.cell 8
 have i13 := hi.cell 9
 have i14 := hi.cell 10
 have i15 := hi.cell 11
 have i16 := hi.cell 12
 have i17 := hi.cell 13
 have i18 := hi.cell 14
 simp only [gB] at y4 y5 y6 y7 y8 y9 y10 y11 y12 y13 y14 y15 y16 y17 y18 r1 r2 r3 i4 i5 i6 i7 i8 i9 i10 i11 i12 i13 i14 i15 i16 i17 i18
 clear hbk hm hi hr
 go_enter Tryz.func38, Tryz.ntmps38
 go_upto_region 2 with fail
 generalize (w.alloc (.cells #[.bool n0, .int .i64 n1, .int .i64 n2, .int .i64 n3, .int .i64 n4, .int .i64 n5, .int .i64 n6, .int .i64 n7, .int .i64 n8, .int .i64 n9, .int .i64 n10, .int .i64 n11, .string n12, .string n13, .int .i64 n14, .int .i64 n15, .int .i64 n16, .int .i64 n17, .slice a18 m18 c18, .int .i64 n19, .slice a20 m20 c20, .slice a21 m21 c21, .slice a22 m22 c22] 61)).alloc (.cells #[.int .i64 n4, .int .i64 n5, .int .i64 n6, .int .i64 n7, .int .i64 n8, .int .i64 n9, .int .i64 n10, .int .i64 n11, .string n12, .string n13, .int .i64 n14, .int .i64 n15, .int .i64 n16, .int .i64 n17, .slice a18 m18 c18] 59) = X at *
 clear y4 y5 y6 y7 y8 y9 y10 y11 y12 y13 y14 y15 y16 y17 y18
 by_cases p0 : (n1 = 0 ∧ n2 = 0 ∧ n3 = 0)
 rotate_left
 ·have hB' : B = false := by
   rw [← HBB.out]
   exact decide_eq_false (fun h => p0 h.1)
  subst hB'
  have q0 := fun w => (e1 w).trans (by rw [decide_eq_false p0])
  clear e1
  have e1 := q0
  clear q0
  clear p0
  go_wp2_with fail
  go_ret
  exact ⟨rfl, HB1.out⟩
 have q0 := fun w => (e1 w).trans (by rw [decide_eq_true p0])
 clear e1
 have e1 := q0
 clear q0
 by_cases p1 : n4 = 0
 rotate_left
 ·have hB' : B = false := by
   rw [← HBB.out]
   exact decide_eq_false (fun h => p1 h.2.1)
  subst hB'
  have q1 : (n4 == 0) = false := by exact beq_eq_false_iff_ne.2 p1
  clear p0 p1
  go_wp2_with fail
  go_ret
  exact ⟨rfl, HB1.out⟩
 have q1 : (n4 == 0) = true := by simp [p1]
 by_cases p2 : (n5 = 0 ∧ n6 = 0)
 rotate_left
 ·have hB' : B = false := by
   rw [← HBB.out]
   exact decide_eq_false (fun h => p2 h.2.2.1)
  subst hB'
  have q2 := fun w => (e2 w).trans (by rw [decide_eq_false p2])
  clear e2
  have e2 := q2
  clear q2
  clear p0 p1 p2
  go_wp2_with fail
  go_ret
  exact ⟨rfl, HB1.out⟩
 have q2 := fun w => (e2 w).trans (by rw [decide_eq_true p2])
 clear e2
 have e2 := q2
 clear q2
 by_cases p3 : (n7 = 0 ∧ n8 = 0)
 rotate_left
 ·have hB' : B = false := by
   rw [← HBB.out]
   exact decide_eq_false (fun h => p3 h.2.2.2.1)
  subst hB'
  have q3 := fun w => (e3 w).trans (by rw [decide_eq_false p3])
  clear e3
  have e3 := q3
  clear q3
  clear p0 p1 p2 p3
  go_wp2_with fail
  go_ret
  exact ⟨rfl, HB1.out⟩
 have q3 := fun w => (e3 w).trans (by rw [decide_eq_true p3])
 clear e3
 have e3 := q3
 clear q3
 by_cases p4 : (n9 = 0 ∧ n10 = 0 ∧ n11 = 0 ∧ n12 = ⟨#[]⟩ ∧ n13 = ⟨#[]⟩ ∧ n14 = 0 ∧ n15 = 0 ∧ n16 = 0)
 rotate_left
 ·have hB' : B = false := by
   rw [← HBB.out]
   exact decide_eq_false (fun h => p4 h.2.2.2.2.1)
  subst hB'
  have q4 := fun w => (e4 w).trans (by rw [decide_eq_false p4])
  clear e4
  have e4 := q4
  clear q4
  clear p0 p1 p2 p3 p4
  go_wp2_with fail
  go_ret
  exact ⟨rfl, HB1.out⟩
 have q4 := fun w => (e4 w).trans (by rw [decide_eq_true p4])
 clear e4
 have e4 := q4
 clear q4
 by_cases p5 : n17 = 0
 rotate_left
 ·have hB' : B = false := by
   rw [← HBB.out]
   exact decide_eq_false (fun h => p5 h.2.2.2.2.2.1)
  subst hB'
  have q5 : (n17 == 0) = false := by exact beq_eq_false_iff_ne.2 p5
  clear p0 p1 p2 p3 p4 p5
  go_wp2_with fail
  go_ret
  exact ⟨rfl, HB1.out⟩
 have q5 : (n17 == 0) = true := by simp [p5]
 by_cases p6 : m18 = 0
 rotate_left
 ·have hB' : B = false := by
   rw [← HBB.out]
   exact decide_eq_false (fun h => p6 h.2.2.2.2.2.2)
  subst hB'
  have q6 : ((m18 : Int) == 0) = false := by exact beq_eq_false_iff_ne.2 (by omega)
  have q6' : (m18 == 0) = false := by exact beq_eq_false_iff_ne.2 p6
  clear p0 p1 p2 p3 p4 p5 p6
  go_wp2_with fail
  go_ret
  exact ⟨rfl, HB1.out⟩
 have q6 : ((m18 : Int) == 0) = true := by simp [p6]
 have q6' : (m18 == 0) = true := by simp [p6]
 have hB' : B = true := by
  rw [← HBB.out]
  exact decide_eq_true ⟨p0, p1, p2, p3, p4, p5, p6⟩
 subst hB'
 clear p0 p1 p2 p3 p4 p5 p6
 go_wp2_with fail
 go_ret
 exact ⟨rfl, HB1.out⟩
theorem nosnap_any (n0 : Bool) (n1 : Int) (n2 : Int) (n3 : Int) (n4 : Int) (n5 : Int) (n6 : Int) (n7 : Int) (n8 : Int) (n9 : Int) (n10 : Int) (n11 : Int) (n12 : ByteArray) (n13 : ByteArray) (n14 : Int) (n15 : Int) (n16 : Int) (n17 : Int) (a18 : Option Addr) (m18 c18 : Nat) (n19 : Int) (a20 : Option Addr) (m20 c20 : Nat) (a21 : Option Addr) (m21 c21 : Nat) (a22 : Option Addr) (m22 c22 : Nat) (w : World) (hm0 : m20 ≤ 9223372036854775807) (hm1 : m21 ≤ 9223372036854775807) (hm2 : m22 ≤ 9223372036854775807) : Calls Tryz.prog 39 #[.agg #[.bool n0, .int .i64 n1, .int .i64 n2, .int .i64 n3, .int .i64 n4, .int .i64 n5, .int .i64 n6, .int .i64 n7, .int .i64 n8, .int .i64 n9, .int .i64 n10, .int .i64 n11, .string n12, .string n13, .int .i64 n14, .int .i64 n15, .int .i64 n16, .int .i64 n17, .slice a18 m18 c18, .int .i64 n19, .slice a20 m20 c20, .slice a21 m21 c21, .slice a22 m22 c22]] w (BoP (decide (n19 = 0 ∧ m20 = 0 ∧ m21 = 0 ∧ m22 = 0)) w) := by
 have hm0' : (m20 : Int) ≤ 9223372036854775807 := by omega
 have hm1' : (m21 : Int) ≤ 9223372036854775807 := by omega
 have hm2' : (m22 : Int) ≤ 9223372036854775807 := by omega
 obtain ⟨B, hBB⟩ : ∃ B, decide (n19 = 0 ∧ m20 = 0 ∧ m21 = 0 ∧ m22 = 0) = B := ⟨_, rfl⟩
 rw [hBB]
 have HBB := Hd hBB
 clear hBB
 have hbk := Bk.new w 61 [.bool n0, .int .i64 n1, .int .i64 n2, .int .i64 n3, .int .i64 n4, .int .i64 n5, .int .i64 n6, .int .i64 n7, .int .i64 n8, .int .i64 n9, .int .i64 n10, .int .i64 n11, .string n12, .string n13, .int .i64 n14, .int .i64 n15, .int .i64 n16, .int .i64 n17, .slice a18 m18 c18, .int .i64 n19, .slice a20 m20 c20, .slice a21 m21 c21, .slice a22 m22 c22]
 have HB1 : Hid (Below w.heap.size w ((w.alloc (.cells #[.bool n0, .int .i64 n1, .int .i64 n2, .int .i64 n3, .int .i64 n4, .int .i64 n5, .int .i64 n6, .int .i64 n7, .int .i64 n8, .int .i64 n9, .int .i64 n10, .int .i64 n11, .string n12, .string n13, .int .i64 n14, .int .i64 n15, .int .i64 n16, .int .i64 n17, .slice a18 m18 c18, .int .i64 n19, .slice a20 m20 c20, .slice a21 m21 c21, .slice a22 m22 c22] 61)).alloc (.cells #[.int .i64 n19, .slice a20 m20 c20] 24))) := Hd (((Below.refl _ _).alloc (Nat.le_refl _) _).alloc (by simp) _)
 have hi := Bk.new (w.alloc (.cells #[.bool n0, .int .i64 n1, .int .i64 n2, .int .i64 n3, .int .i64 n4, .int .i64 n5, .int .i64 n6, .int .i64 n7, .int .i64 n8, .int .i64 n9, .int .i64 n10, .int .i64 n11, .string n12, .string n13, .int .i64 n14, .int .i64 n15, .int .i64 n16, .int .i64 n17, .slice a18 m18 c18, .int .i64 n19, .slice a20 m20 c20, .slice a21 m21 c21, .slice a22 m22 c22] 61)) 24 [.int .i64 n19, .slice a20 m20 c20]
 rw [World.size_alloc] at hi
 have hr := hbk.old (.cells #[.int .i64 n19, .slice a20 m20 c20] 24)
 have y19 := hbk.cell 19
 have y20 := hbk.cell 20
 have r21 := hr.cell 21
 have r22 := hr.cell 22
 have i19 := hi.cell 0
 have i20 := hi.cell 1
 simp only [gB] at y19 y20 r21 r22 i19 i20
 clear hbk hm0 hm1 hm2 hi hr
 go_enter Tryz.func39, Tryz.ntmps39
 go_upto_region 2 with fail
 generalize (w.alloc (.cells #[.bool n0, .int .i64 n1, .int .i64 n2, .int .i64 n3, .int .i64 n4, .int .i64 n5, .int .i64 n6, .int .i64 n7, .int .i64 n8, .int .i64 n9, .int .i64 n10, .int .i64 n11, .string n12, .string n13, .int .i64 n14, .int .i64 n15, .int .i64 n16, .int .i64 n17, .slice a18 m18 c18, .int .i64 n19, .slice a20 m20 c20, .slice a21 m21 c21, .slice a22 m22 c22] 61)).alloc (.cells #[.int .i64 n19, .slice a20 m20 c20] 24) = X at *
 clear y19 y20
 by_cases p0 : n19 = 0
 rotate_left
 ·have hB' : B = false := by
   rw [← HBB.out]
   exact decide_eq_false (fun h => p0 h.1)
  subst hB'
  have q0 : (n19 == 0) = false := by exact beq_eq_false_iff_ne.2 p0
  clear p0
  go_wp2_with fail
  go_ret
  exact ⟨rfl, HB1.out⟩
 have q0 : (n19 == 0) = true := by simp [p0]
 by_cases p1 : m20 = 0
 rotate_left
 ·have hB' : B = false := by
   rw [← HBB.out]
   exact decide_eq_false (fun h => p1 h.2.1)
  subst hB'
  have q1 : ((m20 : Int) == 0) = false := by exact beq_eq_false_iff_ne.2 (by omega)
  have q1' : (m20 == 0) = false := by exact beq_eq_false_iff_ne.2 p1
  clear p0 p1
  go_wp2_with fail
  go_ret
  exact ⟨rfl, HB1.out⟩
 have q1 : ((m20 : Int) == 0) = true := by simp [p1]
 have q1' : (m20 == 0) = true := by simp [p1]
 by_cases p2 : m21 = 0
 rotate_left
 ·have hB' : B = false := by
   rw [← HBB.out]
   exact decide_eq_false (fun h => p2 h.2.2.1)
  subst hB'
  have q2 : ((m21 : Int) == 0) = false := by exact beq_eq_false_iff_ne.2 (by omega)
  have q2' : (m21 == 0) = false := by exact beq_eq_false_iff_ne.2 p2
  clear p0 p1 p2
  go_wp2_with fail
  go_ret
  exact ⟨rfl, HB1.out⟩
 have q2 : ((m21 : Int) == 0) = true := by simp [p2]
 have q2' : (m21 == 0) = true := by simp [p2]
 by_cases p3 : m22 = 0
 rotate_left
 ·have hB' : B = false := by
   rw [← HBB.out]
   exact decide_eq_false (fun h => p3 h.2.2.2)
  subst hB'
  have q3 : ((m22 : Int) == 0) = false := by exact beq_eq_false_iff_ne.2 (by omega)
  have q3' : (m22 == 0) = false := by exact beq_eq_false_iff_ne.2 p3
  clear p0 p1 p2 p3
  go_wp2_with fail
  go_ret
  exact ⟨rfl, HB1.out⟩
 have q3 : ((m22 : Int) == 0) = true := by simp [p3]
 have q3' : (m22 == 0) = true := by simp [p3]
 have hB' : B = true := by
  rw [← HBB.out]
  exact decide_eq_true ⟨p0, p1, p2, p3⟩
 subst hB'
 clear p0 p1 p2 p3
 go_wp2_with fail
 go_ret
 exact ⟨rfl, HB1.out⟩
/-- An instance that tells nothing. -/
def noI (x : Rec4) : Prop := (x.2.1.1 = 0 ∧ x.2.1.2.1 = 0 ∧ x.2.1.2.2 = 0) ∧ x.2.2.1.1 = 0 ∧ (x.2.2.1.2.1.1 = 0 ∧ x.2.2.1.2.1.2 = 0) ∧ (x.2.2.1.2.2.1.1 = 0 ∧ x.2.2.1.2.2.1.2 = 0) ∧ (x.2.2.1.2.2.2.1.1 = 0 ∧ x.2.2.1.2.2.2.1.2.1 = 0 ∧ x.2.2.1.2.2.2.1.2.2.1 = 0 ∧ x.2.2.1.2.2.2.1.2.2.2.1 = ⟨#[]⟩ ∧ x.2.2.1.2.2.2.1.2.2.2.2.1 = ⟨#[]⟩ ∧ x.2.2.1.2.2.2.1.2.2.2.2.2.1 = 0 ∧ x.2.2.1.2.2.2.1.2.2.2.2.2.2.1 = 0 ∧ x.2.2.1.2.2.2.1.2.2.2.2.2.2.2 = 0) ∧ x.2.2.1.2.2.2.2.1 = 0 ∧ x.2.2.1.2.2.2.2.2.length = 0
def noS (x : Rec4) : Prop := x.2.2.2.1.1 = 0 ∧ x.2.2.2.1.2.length = 0 ∧ x.2.2.2.2.1.length = 0 ∧ x.2.2.2.2.2.length = 0
instance (x : Rec4) : Decidable (noI x) := by unfold noI; infer_instance
instance (x : Rec4) : Decidable (noS x) := by unfold noS; infer_instance
/-- A record that can be written. -/
def rcGood (x : Rec4) : Prop := (if x.1 then noI x else noS x) ∧ Oks (rcFs x)
instance (x : Rec4) : Decidable (if x.1 then noI x else noS x) := by split <;> infer_instance
instance (x : Rec4) : Decidable (rcGood x) := by unfold rcGood; infer_instance
def PuP (x : Rec4) (w : World) (e : Ending) (w' : World) : Prop := (rcGood x ∧ ∃ u, Hid (e = .returned (.tuple #[u, .int .i64 0])) ∧ Own8 w' w.heap.size u (eF (rcFs x)) ∧ Below w.heap.size w w') ∨ (¬ rcGood x ∧ Hid (e = .returned (.tuple #[.slice none 0 0, .int .i64 1])) ∧ Below w.heap.size w w')
theorem no_of_rec {w : World} {cs : Array Value} {x : Rec4} (hs : rcS.is w cs.toList x) : (∀ w', Calls Tryz.prog 38 #[.agg cs] w' (BoP (decide (noI x)) w')) ∧ (∀ w', Calls Tryz.prog 39 #[.agg cs] w' (BoP (decide (noS x)) w')) := by
 obtain ⟨a18, m18, c18, rs18, a20, m20, c20, rs20, a21, m21, c21, rs21, a22, m22, c22, rs22, hcs, hs12, hs13, hr18, hr20, hr21, hr22⟩ := rc_is hs
 obtain ⟨n0, ⟨n1, n2, n3⟩, ⟨n4, ⟨n5, n6⟩, ⟨n7, n8⟩, ⟨n9, n10, n11, n12, n13, n14, n15, n16⟩, n17, l18⟩, ⟨n19, l20⟩, l21, l22⟩ := x
 have hm : ∀ {k : Nat} {K : Knd Tryz.prog (Cls k)} {α : Type} {S : Shp α} {a : Option Addr} {m c : Nat} {rs : List (Cls k)} {l : List α}, RowIs K S w (.slice a m c) rs l → m = l.length ∧ m ≤ 9223372036854775807 := by
  intro k K α S a m c rs l hr
  obtain ⟨_, _, e⟩ := hr.rd.slice
  simp only [Value.slice.injEq] at e
  have h1 := hr.len
  have h2 := hr.rd.len
  unfold maxLen at h2
  omega
 have q18 := hm hr18
 have q20 := hm hr20
 have q21 := hm hr21
 have q22 := hm hr22
 obtain rfl : cs = #[.bool n0, .int .i64 n1, .int .i64 n2, .int .i64 n3, .int .i64 n4, .int .i64 n5, .int .i64 n6, .int .i64 n7, .int .i64 n8, .int .i64 n9, .int .i64 n10, .int .i64 n11, .string n12, .string n13, .int .i64 n14, .int .i64 n15, .int .i64 n16, .int .i64 n17, .slice a18 m18 c18, .int .i64 n19, .slice a20 m20 c20, .slice a21 m21 c21, .slice a22 m22 c22] := by
  cases cs
  simpa [idE, inV, snV] using hcs
 refine ⟨fun w' => ?_, fun w' => ?_⟩
 ·have h := noinst_any n0 n1 n2 n3 n4 n5 n6 n7 n8 n9 n10 n11 n12 n13 n14 n15 n16 n17 a18 m18 c18 n19 a20 m20 c20 a21 m21 c21 a22 m22 c22 w' q18.2
  have e : decide (noI (n0, (n1, n2, n3), (n4, (n5, n6), (n7, n8), (n9, n10, n11, n12, n13, n14, n15, n16), n17, l18), (n19, l20), l21, l22)) = decide ((n1 = 0 ∧ n2 = 0 ∧ n3 = 0) ∧ n4 = 0 ∧ (n5 = 0 ∧ n6 = 0) ∧ (n7 = 0 ∧ n8 = 0) ∧ (n9 = 0 ∧ n10 = 0 ∧ n11 = 0 ∧ n12 = ⟨#[]⟩ ∧ n13 = ⟨#[]⟩ ∧ n14 = 0 ∧ n15 = 0 ∧ n16 = 0) ∧ n17 = 0 ∧ m18 = 0) := by
   rw [decide_eq_decide, q18.1]
   exact Iff.rfl
  rw [e]
  exact h
 ·have h := nosnap_any n0 n1 n2 n3 n4 n5 n6 n7 n8 n9 n10 n11 n12 n13 n14 n15 n16 n17 a18 m18 c18 n19 a20 m20 c20 a21 m21 c21 a22 m22 c22 w' q20.2 q21.2 q22.2
  have e : decide (noS (n0, (n1, n2, n3), (n4, (n5, n6), (n7, n8), (n9, n10, n11, n12, n13, n14, n15, n16), n17, l18), (n19, l20), l21, l22)) = decide (n19 = 0 ∧ m20 = 0 ∧ m21 = 0 ∧ m22 = 0) := by
   rw [decide_eq_decide, q20.1, q21.1, q22.1]
   exact Iff.rfl
  rw [e]
  exact h
theorem putG (v : Value) (x : Rec4) (w : World) (h : RecIs w v x) : Calls Tryz.prog 18 #[v] w (PuP x w) := by
 have HM := h
 obtain ⟨cs, rfl, hs⟩ := h
 have HI : Hid ((Tryz.prog.info? 61).map (·.size) = some cs.size) := Hd (by rw [rc_size hs]; kernel_rfl)
 have HX := Hd (bka_new w 61 cs)
 have HB0 : Hid (Below w.heap.size w (w.alloc (.cells cs 61))) := Hd ((Below.refl _ _).alloc (Nat.le_refl _) _)
 have HM2 := Hd (HM.on HB0.out)
 have HM2' := HM2
 have HS := Hd hs
 clear hs HM
 rcases hq : x.1 with _ | _
 all_goals have q := hq; clear hq
 ·have hc0 : cs[0]? = some (.bool false) := by
   obtain ⟨a18, m18, c18, rs18, a20, m20, c20, rs20, a21, m21, c21, rs21, a22, m22, c22, rs22, hcs, _⟩ := rc_is HS.out
   rw [← Array.getElem?_toList, hcs, q]
   rfl
  have HG : Hid (rcGood x ↔ noS x ∧ Oks (rcFs x)) := Hd (by unfold rcGood; rw [q]; simp)
  have HC := Hd (no_of_rec HS.out)
  go_enter Tryz.func18, Tryz.ntmps18
  go_wp2_with (refine wpList_load_rowG rfl _ _ rfl w.heap.size rfl 61 cs (0, 0) _ HX.out Tryz.underlying61 rfl HI.out ?_)
  refine (HC.out.2 _).mono ?_
  rintro e w1 ⟨he, hb⟩
  rw [he.out]
  clear he HC
  have HX' := Hd ((hb.block _ (Array.getElem?_eq_some_iff.1 HX.out).1).trans HX.out)
  have HB1 := Hd (HB0.out.trans (hb.mono HB0.out.size))
  have HM3 := Hd (HM2.out.on hb)
  have y0 : w1.cell? ⟨w.heap.size, 0, none⟩ = some (.bool false) := by
   have h1 := cell_of_row w1 w.heap.size 0 cs 61 (0, 0) HX'.out
   rw [h1]
   simpa using hc0
  clear hb HX HM2
  have HX := HX'
  clear HX'
  by_cases p : noS x
  ·have hd : decide (noS x) = true := decide_eq_true p
   rw [hd]
   have HP := Hd p
   clear hd p
   go_wp2_with (refine wpList_load_rowG rfl _ _ rfl w.heap.size rfl 61 cs (0, 0) _ HX.out Tryz.underlying61 rfl HI.out ?_)
   refine (written_recG _ _ _ HM3.out).mono ?_
   rintro e w2 hP
   have HQ := Hd hP
   clear hP
   rcases HQ.out with ⟨q2, u, he, h1, h2⟩ | ⟨q2, he, h2⟩
   ·rw [he.out]
    clear he HQ
    have HU := Hd (show Own8 w2 w.heap.size u _ from h1.base HB1.out.size)
    have HB2 := Hd (HB1.out.trans (h2.mono HB1.out.size))
    have HQ := Hd q2
    clear h1 h2 q2
    go_wp2_with fail
    go_ret2
    exact Or.inl ⟨HG.out.2 ⟨HP.out, HQ.out⟩, u, rfl, HU.out, HB2.out⟩
   ·rw [he.out]
    clear he HQ
    have HB2 := Hd (HB1.out.trans (h2.mono HB1.out.size))
    have HQ := Hd q2
    clear h2 q2
    go_wp2_with fail
    go_ret2
    exact Or.inr ⟨fun h => HQ.out (HG.out.1 h).2, rfl, HB2.out⟩
  ·have hd : decide (noS x) = false := decide_eq_false p
   rw [hd]
   have HP := Hd p
   clear hd p
   go_wp2_with fail
   go_ret2
   exact Or.inr ⟨fun h => HP.out (HG.out.1 h).1, rfl, HB1.out⟩
 ·have hc0 : cs[0]? = some (.bool true) := by
   obtain ⟨a18, m18, c18, rs18, a20, m20, c20, rs20, a21, m21, c21, rs21, a22, m22, c22, rs22, hcs, _⟩ := rc_is HS.out
   rw [← Array.getElem?_toList, hcs, q]
   rfl
  have HG : Hid (rcGood x ↔ noI x ∧ Oks (rcFs x)) := Hd (by unfold rcGood; rw [q]; simp)
  have HC := Hd (no_of_rec HS.out)
  go_enter Tryz.func18, Tryz.ntmps18
  go_wp2_with (refine wpList_load_rowG rfl _ _ rfl w.heap.size rfl 61 cs (0, 0) _ HX.out Tryz.underlying61 rfl HI.out ?_)
  refine (HC.out.1 _).mono ?_
  rintro e w1 ⟨he, hb⟩
  rw [he.out]
  clear he HC
  have HX' := Hd ((hb.block _ (Array.getElem?_eq_some_iff.1 HX.out).1).trans HX.out)
  have HB1 := Hd (HB0.out.trans (hb.mono HB0.out.size))
  have HM3 := Hd (HM2.out.on hb)
  have y0 : w1.cell? ⟨w.heap.size, 0, none⟩ = some (.bool true) := by
   have h1 := cell_of_row w1 w.heap.size 0 cs 61 (0, 0) HX'.out
   rw [h1]
   simpa using hc0
  clear hb HX HM2
  have HX := HX'
  clear HX'
  by_cases p : noI x
  ·have hd : decide (noI x) = true := decide_eq_true p
   rw [hd]
   have HP := Hd p
   clear hd p
   go_wp2_with (refine wpList_load_rowG rfl _ _ rfl w.heap.size rfl 61 cs (0, 0) _ HX.out Tryz.underlying61 rfl HI.out ?_)
   refine (written_recG _ _ _ HM3.out).mono ?_
   rintro e w2 hP
   have HQ := Hd hP
   clear hP
   rcases HQ.out with ⟨q2, u, he, h1, h2⟩ | ⟨q2, he, h2⟩
   ·rw [he.out]
    clear he HQ
    have HU := Hd (show Own8 w2 w.heap.size u _ from h1.base HB1.out.size)
    have HB2 := Hd (HB1.out.trans (h2.mono HB1.out.size))
    have HQ := Hd q2
    clear h1 h2 q2
    go_wp2_with fail
    go_ret2
    exact Or.inl ⟨HG.out.2 ⟨HP.out, HQ.out⟩, u, rfl, HU.out, HB2.out⟩
   ·rw [he.out]
    clear he HQ
    have HB2 := Hd (HB1.out.trans (h2.mono HB1.out.size))
    have HQ := Hd q2
    clear h2 q2
    go_wp2_with fail
    go_ret2
    exact Or.inr ⟨fun h => HQ.out (HG.out.1 h).2, rfl, HB2.out⟩
  ·have hd : decide (noI x) = false := decide_eq_false p
   rw [hd]
   have HP := Hd p
   clear hd p
   go_wp2_with fail
   go_ret2
   exact Or.inr ⟨fun h => HP.out (HG.out.1 h).1, rfl, HB1.out⟩
end Go.Proofs.YtnancdbkmompdaaGreat
