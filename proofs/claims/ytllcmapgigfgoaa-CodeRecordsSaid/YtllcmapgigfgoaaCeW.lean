/-
  The walk of CodeWrites.
-/
import Derived.Test.YtllcmapgigfgoaaWe
import Derived.Test.YtllcmapgigfgoaaCdV
namespace Go.Proofs.Ytllcmapgigfgoaa
open Go.RowKit
set_option linter.unusedSimpArgs false
set_option linter.unusedVariables false

theorem txt_nilW : ((txt []).toList == []) = true := by decide +kernel
theorem rc_len (x : Rec4) (h : Oks (rcFs x)) : (eF (rcFs x)).length ≤ 99999999900 := by
  have h1 := rc_sh x (K := 0) (st := some []) (by simp [Sh, stl])
  rw [wrs_ok _ [] h] at h1
  unfold Sh stl at h1
  simp only [Option.getD_some, List.nil_append] at h1
  omega
set_option maxRecDepth 100000 in
set_option maxHeartbeats 16000000 in
theorem writes_law (v0 v1 : Value) (x0 : Msg7) (x1 : Rec4) (w : World) (h0 : MsgIs w v0 x0) (h1 : RecIs w v1 x1) (z0 : RchI x0.2.2.2.2.2.1 x0.2.2.2.2.2.2) (z1 : RchI x1.2.2.1 x1.2.2.2 ∧ RchL x1.2.2.2) :
    Calls Try.prog 3 #[v0, v1] w (TruP w) := by
  have HZ0 := Lib.hid z0
  have HZ1 := Lib.hid z1
  have hr0 := h0
  have hr1 := h1
  obtain ⟨cs0, rfl, hs0⟩ := h0
  obtain ⟨cs1, rfl, hs1⟩ := h1
  obtain ⟨a18, m18, p18, rs18, a20, m20, p20, rs20, a21, m21, p21, rs21, a22, m22, p22, rs22, hcs, hs12, hs13, hr18, hr20, hr21, hr22⟩ := rc_is hs1
  obtain ⟨n0, ⟨n1, n2, n3⟩, ⟨n4, ⟨n5, n6⟩, ⟨n7, n8⟩, ⟨n9, n10, n11, n12, n13, n14, n15, n16⟩, n17, l18⟩, ⟨n19, l20⟩, l21, l22⟩ := x1
  obtain rfl : cs1 = #[.bool n0, .int .i64 n1, .int .i64 n2, .int .i64 n3, .int .i64 n4, .int .i64 n5, .int .i64 n6, .int .i64 n7, .int .i64 n8, .int .i64 n9, .int .i64 n10, .int .i64 n11, .string n12, .string n13, .int .i64 n14, .int .i64 n15, .int .i64 n16, .int .i64 n17, .slice a18 m18 p18, .int .i64 n19, .slice a20 m20 p20, .slice a21 m21 p21, .slice a22 m22 p22] := by
    cases cs1
    simpa [idE, inV, snV] using hcs
  have HB : Hid (Below w.heap.size w ((w.alloc (.cells cs0 44)).alloc (.cells #[.bool n0, .int .i64 n1, .int .i64 n2, .int .i64 n3, .int .i64 n4, .int .i64 n5, .int .i64 n6, .int .i64 n7, .int .i64 n8, .int .i64 n9, .int .i64 n10, .int .i64 n11, .string n12, .string n13, .int .i64 n14, .int .i64 n15, .int .i64 n16, .int .i64 n17, .slice a18 m18 p18, .int .i64 n19, .slice a20 m20 p20, .slice a21 m21 p21, .slice a22 m22 p22] 46))) := Lib.hid (((Below.refl _ _).alloc (Nat.le_refl _) _).alloc (by simp) _)
  have HM0 := Lib.hid (hr0.on HB.out)
  have HR1 := Lib.hid (hr1.on HB.out)
  have HMf : Hid (MsgIs ((w.alloc (.cells cs0 44)).alloc (.cells #[.bool n0, .int .i64 n1, .int .i64 n2, .int .i64 n3, .int .i64 n4, .int .i64 n5, .int .i64 n6, .int .i64 n7, .int .i64 n8, .int .i64 n9, .int .i64 n10, .int .i64 n11, .string n12, .string n13, .int .i64 n14, .int .i64 n15, .int .i64 n16, .int .i64 n17, .slice a18 m18 p18, .int .i64 n19, .slice a20 m20 p20, .slice a21 m21 p21, .slice a22 m22 p22] 46)) (.agg #[.int .i64 0, .int .i64 0, .int .i64 0, .int .i64 0, .int .i64 0, .int .i64 0, .int .i64 0, .int .i64 0, .int .i64 n4, .int .i64 n5, .int .i64 n6, .int .i64 n7, .int .i64 n8, .int .i64 n9, .int .i64 n10, .int .i64 n11, .string n12, .string n13, .int .i64 n14, .int .i64 n15, .int .i64 n16, .int .i64 n17, .slice a18 m18 p18, .int .i64 n19, .slice a20 m20 p20, .slice a21 m21 p21, .slice a22 m22 p22]) ((0, 0, 0, (0, 0, 0), (0, 0), (n4, (n5, n6), (n7, n8), (n9, n10, n11, n12, n13, n14, n15, n16), n17, l18), ((n19, l20), l21, l22)) : Msg7)) := Lib.hid (MsgIs.on (W := w) ⟨_, rfl, ms_mk (x := ((0, 0, 0, (0, 0, 0), (0, 0), (n4, (n5, n6), (n7, n8), (n9, n10, n11, n12, n13, n14, n15, n16), n17, l18), ((n19, l20), l21, l22)) : Msg7)) hs12 hs13 hr18 hr20 hr21 hr22⟩ HB.out)
  have HI0 : Hid ((Try.prog.info? 44).map (·.size) = some cs0.size) := Lib.hid (by rw [ms_size hs0]; kernel_rfl)
  have HI1 : Hid ((Try.prog.info? 46).map (·.size) = some (#[.bool n0, .int .i64 n1, .int .i64 n2, .int .i64 n3, .int .i64 n4, .int .i64 n5, .int .i64 n6, .int .i64 n7, .int .i64 n8, .int .i64 n9, .int .i64 n10, .int .i64 n11, .string n12, .string n13, .int .i64 n14, .int .i64 n15, .int .i64 n16, .int .i64 n17, .slice a18 m18 p18, .int .i64 n19, .slice a20 m20 p20, .slice a21 m21 p21, .slice a22 m22 p22] : Array Value).size) := Lib.hid (by kernel_rfl)
  have HX0 : Hid (((w.alloc (.cells cs0 44)).alloc (.cells #[.bool n0, .int .i64 n1, .int .i64 n2, .int .i64 n3, .int .i64 n4, .int .i64 n5, .int .i64 n6, .int .i64 n7, .int .i64 n8, .int .i64 n9, .int .i64 n10, .int .i64 n11, .string n12, .string n13, .int .i64 n14, .int .i64 n15, .int .i64 n16, .int .i64 n17, .slice a18 m18 p18, .int .i64 n19, .slice a20 m20 p20, .slice a21 m21 p21, .slice a22 m22 p22] 46)).heap[w.heap.size]? = some (.cells cs0 44 (0, 0))) := Lib.hid ((Below.heap_alloc _ _ _ (by simp)).trans (bka_new w 44 cs0))
  have HX1 : Hid (((w.alloc (.cells cs0 44)).alloc (.cells #[.bool n0, .int .i64 n1, .int .i64 n2, .int .i64 n3, .int .i64 n4, .int .i64 n5, .int .i64 n6, .int .i64 n7, .int .i64 n8, .int .i64 n9, .int .i64 n10, .int .i64 n11, .string n12, .string n13, .int .i64 n14, .int .i64 n15, .int .i64 n16, .int .i64 n17, .slice a18 m18 p18, .int .i64 n19, .slice a20 m20 p20, .slice a21 m21 p21, .slice a22 m22 p22] 46)).heap[w.heap.size + 1]? = some (.cells #[.bool n0, .int .i64 n1, .int .i64 n2, .int .i64 n3, .int .i64 n4, .int .i64 n5, .int .i64 n6, .int .i64 n7, .int .i64 n8, .int .i64 n9, .int .i64 n10, .int .i64 n11, .string n12, .string n13, .int .i64 n14, .int .i64 n15, .int .i64 n16, .int .i64 n17, .slice a18 m18 p18, .int .i64 n19, .slice a20 m20 p20, .slice a21 m21 p21, .slice a22 m22 p22] 46 (0, 0))) := Lib.hid (by have := bka_new (w.alloc (.cells cs0 44)) 46 #[.bool n0, .int .i64 n1, .int .i64 n2, .int .i64 n3, .int .i64 n4, .int .i64 n5, .int .i64 n6, .int .i64 n7, .int .i64 n8, .int .i64 n9, .int .i64 n10, .int .i64 n11, .string n12, .string n13, .int .i64 n14, .int .i64 n15, .int .i64 n16, .int .i64 n17, .slice a18 m18 p18, .int .i64 n19, .slice a20 m20 p20, .slice a21 m21 p21, .slice a22 m22 p22]; rwa [World.size_alloc] at this)
  clear hs0 hs1 hcs hs12 hs13 hr18 hr20 hr21 hr22 hr0 hr1 z0 z1
  go_enter Try.func3, Try.ntmps3
  go_wp2_with fail
  refine (works_any _).mono ?_
  rintro e w1 ⟨rfl, hb⟩
  have HX0' := Lib.hid ((hb.block _ (Array.getElem?_eq_some_iff.1 HX0.out).1).trans HX0.out)
  have HX1' := Lib.hid ((hb.block _ (Array.getElem?_eq_some_iff.1 HX1.out).1).trans HX1.out)
  have HB' := Lib.hid (HB.out.trans (hb.mono HB.out.size))
  have HM0' := Lib.hid (HM0.out.on hb)
  have HR1' := Lib.hid (HR1.out.on hb)
  have HMf' := Lib.hid (HMf.out.on hb)
  clear hb HX0 HX1 HB HM0 HR1 HMf
  have HX0 := HX0'
  have HX1 := HX1'
  have HB := HB'
  have HM0 := HM0'
  have HR1 := HR1'
  have HMf := HMf'
  clear HX0' HX1' HB' HM0' HR1' HMf'
  go_wp2_with (first | refine wpList_load_rowG rfl _ _ rfl (w.heap.size) rfl 44 cs0 (0, 0) _ HX0.out Try.underlying44 rfl HI0.out ?_ | refine wpList_load_rowG rfl _ _ rfl (w.heap.size + 1) rfl 46 #[.bool n0, .int .i64 n1, .int .i64 n2, .int .i64 n3, .int .i64 n4, .int .i64 n5, .int .i64 n6, .int .i64 n7, .int .i64 n8, .int .i64 n9, .int .i64 n10, .int .i64 n11, .string n12, .string n13, .int .i64 n14, .int .i64 n15, .int .i64 n16, .int .i64 n17, .slice a18 m18 p18, .int .i64 n19, .slice a20 m20 p20, .slice a21 m21 p21, .slice a22 m22 p22] (0, 0) _ HX1.out Try.underlying46 rfl HI1.out ?_ | fail)
  refine (few_any _ x0 _ HM0.out).mono ?_
  rintro e wf ⟨R, he, hF, hb⟩
  rw [he.out]
  clear he
  have HF0 := Lib.hid hF
  clear hF
  have HX0' := Lib.hid ((hb.block _ (Array.getElem?_eq_some_iff.1 HX0.out).1).trans HX0.out)
  have HX1' := Lib.hid ((hb.block _ (Array.getElem?_eq_some_iff.1 HX1.out).1).trans HX1.out)
  have HB' := Lib.hid (HB.out.trans (hb.mono HB.out.size))
  have HM0' := Lib.hid (HM0.out.on hb)
  have HR1' := Lib.hid (HR1.out.on hb)
  have HMf' := Lib.hid (HMf.out.on hb)
  clear hb HX0 HX1 HB HM0 HR1 HMf
  have HX0 := HX0'
  have HX1 := HX1'
  have HB := HB'
  have HM0 := HM0'
  have HR1 := HR1'
  have HMf := HMf'
  clear HX0' HX1' HB' HM0' HR1' HMf'
  cases R with
  | false =>
    go_wp2_with fail
    go_ret
    exact ⟨rfl, HB.out⟩
  | true =>
  have hbr : Bk _ (w.heap.size + 1) 46 [.bool n0, .int .i64 n1, .int .i64 n2, .int .i64 n3, .int .i64 n4, .int .i64 n5, .int .i64 n6, .int .i64 n7, .int .i64 n8, .int .i64 n9, .int .i64 n10, .int .i64 n11, .string n12, .string n13, .int .i64 n14, .int .i64 n15, .int .i64 n16, .int .i64 n17, .slice a18 m18 p18, .int .i64 n19, .slice a20 m20 p20, .slice a21 m21 p21, .slice a22 m22 p22] := HX1.out
  have y4 := hbr.cell 4
  have y5 := hbr.cell 5
  have y6 := hbr.cell 6
  have y7 := hbr.cell 7
  have y8 := hbr.cell 8
  have y9 := hbr.cell 9
  have y10 := hbr.cell 10
  have y11 := hbr.cell 11
  have y12 := hbr.cell 12
  have y13 := hbr.cell 13
  have y14 := hbr.cell 14
  have y15 := hbr.cell 15
  have y16 := hbr.cell 16
  have y17 := hbr.cell 17
  have y18 := hbr.cell 18
  have y19 := hbr.cell 19
  have y20 := hbr.cell 20
  have y21 := hbr.cell 21
  have y22 := hbr.cell 22
  simp only [List.getElem?_cons_zero, List.getElem?_cons_succ] at y4 y5 y6 y7 y8 y9 y10 y11 y12 y13 y14 y15 y16 y17 y18 y19 y20 y21 y22
  clear hbr
  go_wp2_with (first | refine wpList_load_rowG rfl _ _ rfl (w.heap.size) rfl 44 cs0 (0, 0) _ HX0.out Try.underlying44 rfl HI0.out ?_ | refine wpList_load_rowG rfl _ _ rfl (w.heap.size + 1) rfl 46 #[.bool n0, .int .i64 n1, .int .i64 n2, .int .i64 n3, .int .i64 n4, .int .i64 n5, .int .i64 n6, .int .i64 n7, .int .i64 n8, .int .i64 n9, .int .i64 n10, .int .i64 n11, .string n12, .string n13, .int .i64 n14, .int .i64 n15, .int .i64 n16, .int .i64 n17, .slice a18 m18 p18, .int .i64 n19, .slice a20 m20 p20, .slice a21 m21 p21, .slice a22 m22 p22] (0, 0) _ HX1.out Try.underlying46 rfl HI1.out ?_ | fail)
  refine (few_any _ ((0, 0, 0, (0, 0, 0), (0, 0), (n4, (n5, n6), (n7, n8), (n9, n10, n11, n12, n13, n14, n15, n16), n17, l18), ((n19, l20), l21, l22)) : Msg7) _ HMf.out).mono ?_
  rintro e wf2 ⟨R, he, hF, hb⟩
  rw [he.out]
  clear he y4 y5 y6 y7 y8 y9 y10 y11 y12 y13 y14 y15 y16 y17 y18 y19 y20 y21 y22
  have HF1 := Lib.hid hF
  clear hF
  have HX0' := Lib.hid ((hb.block _ (Array.getElem?_eq_some_iff.1 HX0.out).1).trans HX0.out)
  have HX1' := Lib.hid ((hb.block _ (Array.getElem?_eq_some_iff.1 HX1.out).1).trans HX1.out)
  have HB' := Lib.hid (HB.out.trans (hb.mono HB.out.size))
  have HM0' := Lib.hid (HM0.out.on hb)
  have HR1' := Lib.hid (HR1.out.on hb)
  have HMf' := Lib.hid (HMf.out.on hb)
  clear hb HX0 HX1 HB HM0 HR1 HMf
  have HX0 := HX0'
  have HX1 := HX1'
  have HB := HB'
  have HM0 := HM0'
  have HR1 := HR1'
  have HMf := HMf'
  clear HX0' HX1' HB' HM0' HR1' HMf'
  cases R with
  | false =>
    go_wp2_with fail
    go_ret
    exact ⟨rfl, HB.out⟩
  | true =>
  go_wp2_with (first | refine wpList_load_rowG rfl _ _ rfl (w.heap.size) rfl 44 cs0 (0, 0) _ HX0.out Try.underlying44 rfl HI0.out ?_ | refine wpList_load_rowG rfl _ _ rfl (w.heap.size + 1) rfl 46 #[.bool n0, .int .i64 n1, .int .i64 n2, .int .i64 n3, .int .i64 n4, .int .i64 n5, .int .i64 n6, .int .i64 n7, .int .i64 n8, .int .i64 n9, .int .i64 n10, .int .i64 n11, .string n12, .string n13, .int .i64 n14, .int .i64 n15, .int .i64 n16, .int .i64 n17, .slice a18 m18 p18, .int .i64 n19, .slice a20 m20 p20, .slice a21 m21 p21, .slice a22 m22 p22] (0, 0) _ HX1.out Try.underlying46 rfl HI1.out ?_ | fail)
  refine (msg_any _ x0 _ HM0.out).mono ?_
  rintro e wm hP
  have HP := Lib.hid hP
  clear hP
  rcases HP.out with ⟨q, u0, he, ho, hb⟩ | ⟨q, he, hb⟩
  · rw [he.out]
    clear he HP
    have HQ := Lib.hid q
    have hlm := (sh_len x0).resolve_right (fun k => k q)
    obtain ⟨a0, c0, hv⟩ := ho.slice
    subst hv
    have HU0 := Lib.hid (ho.bt (by omega))
    clear ho q hlm
    have HX0' := Lib.hid ((hb.block _ (Array.getElem?_eq_some_iff.1 HX0.out).1).trans HX0.out)
    have HX1' := Lib.hid ((hb.block _ (Array.getElem?_eq_some_iff.1 HX1.out).1).trans HX1.out)
    have HB' := Lib.hid (HB.out.trans (hb.mono HB.out.size))
    have HM0' := Lib.hid (HM0.out.on hb)
    have HR1' := Lib.hid (HR1.out.on hb)
    have HMf' := Lib.hid (HMf.out.on hb)
    clear hb HX0 HX1 HB HM0 HR1 HMf
    have HX0 := HX0'
    have HX1 := HX1'
    have HB := HB'
    have HM0 := HM0'
    have HR1 := HR1'
    have HMf := HMf'
    clear HX0' HX1' HB' HM0' HR1' HMf'
    go_wp2_with (first | refine wpList_load_rowG rfl _ _ rfl (w.heap.size) rfl 44 cs0 (0, 0) _ HX0.out Try.underlying44 rfl HI0.out ?_ | refine wpList_load_rowG rfl _ _ rfl (w.heap.size + 1) rfl 46 #[.bool n0, .int .i64 n1, .int .i64 n2, .int .i64 n3, .int .i64 n4, .int .i64 n5, .int .i64 n6, .int .i64 n7, .int .i64 n8, .int .i64 n9, .int .i64 n10, .int .i64 n11, .string n12, .string n13, .int .i64 n14, .int .i64 n15, .int .i64 n16, .int .i64 n17, .slice a18 m18 p18, .int .i64 n19, .slice a20 m20 p20, .slice a21 m21 p21, .slice a22 m22 p22] (0, 0) _ HX1.out Try.underlying46 rfl HI1.out ?_ | fail)
    refine (ro_msg _ x0 _ HM0.out HZ0.out).mono ?_
    rintro e wt ⟨hb, hq⟩
    obtain ⟨_, he⟩ := hq.resolve_right (fun k => k.1 HQ.out)
    rw [he.out]
    clear he hq
    have HX0' := Lib.hid ((hb.block _ (Array.getElem?_eq_some_iff.1 HX0.out).1).trans HX0.out)
    have HX1' := Lib.hid ((hb.block _ (Array.getElem?_eq_some_iff.1 HX1.out).1).trans HX1.out)
    have HB' := Lib.hid (HB.out.trans (hb.mono HB.out.size))
    have HM0' := Lib.hid (HM0.out.on hb)
    have HR1' := Lib.hid (HR1.out.on hb)
    have HMf' := Lib.hid (HMf.out.on hb)
    have HU0' := Lib.hid (HU0.out.below hb)
    clear hb HX0 HX1 HB HM0 HR1 HMf HU0
    have HX0 := HX0'
    have HX1 := HX1'
    have HB := HB'
    have HM0 := HM0'
    have HR1 := HR1'
    have HMf := HMf'
    have HU0 := HU0'
    clear HX0' HX1' HB' HM0' HR1' HMf' HU0'
    go_wp2_with (first | refine wpList_load_rowG rfl _ _ rfl (w.heap.size) rfl 44 cs0 (0, 0) _ HX0.out Try.underlying44 rfl HI0.out ?_ | refine wpList_load_rowG rfl _ _ rfl (w.heap.size + 1) rfl 46 #[.bool n0, .int .i64 n1, .int .i64 n2, .int .i64 n3, .int .i64 n4, .int .i64 n5, .int .i64 n6, .int .i64 n7, .int .i64 n8, .int .i64 n9, .int .i64 n10, .int .i64 n11, .string n12, .string n13, .int .i64 n14, .int .i64 n15, .int .i64 n16, .int .i64 n17, .slice a18 m18 p18, .int .i64 n19, .slice a20 m20 p20, .slice a21 m21 p21, .slice a22 m22 p22] (0, 0) _ HX1.out Try.underlying46 rfl HI1.out ?_ | fail)
    refine (putG _ _ _ HR1.out).mono ?_
    rintro e wp hP
    have HP := Lib.hid hP
    clear hP
    rcases HP.out with hq | hq
    · obtain ⟨q, u1, he, ho, hb⟩ := hq
      rw [he.out]
      clear he HP
      have HG := Lib.hid q
      have hlr := rc_len _ q.2
      obtain ⟨a1, c1, hv⟩ := ho.slice
      subst hv
      have HU1 := Lib.hid (ho.bt (by omega))
      clear ho q hlr
      have HX0' := Lib.hid ((hb.block _ (Array.getElem?_eq_some_iff.1 HX0.out).1).trans HX0.out)
      have HX1' := Lib.hid ((hb.block _ (Array.getElem?_eq_some_iff.1 HX1.out).1).trans HX1.out)
      have HB' := Lib.hid (HB.out.trans (hb.mono HB.out.size))
      have HM0' := Lib.hid (HM0.out.on hb)
      have HR1' := Lib.hid (HR1.out.on hb)
      have HMf' := Lib.hid (HMf.out.on hb)
      have HU0' := Lib.hid (HU0.out.below hb)
      clear hb HX0 HX1 HB HM0 HR1 HMf HU0
      have HX0 := HX0'
      have HX1 := HX1'
      have HB := HB'
      have HM0 := HM0'
      have HR1 := HR1'
      have HMf := HMf'
      have HU0 := HU0'
      clear HX0' HX1' HB' HM0' HR1' HMf' HU0'
      go_wp2_with (first | refine wpList_load_rowG rfl _ _ rfl (w.heap.size) rfl 44 cs0 (0, 0) _ HX0.out Try.underlying44 rfl HI0.out ?_ | refine wpList_load_rowG rfl _ _ rfl (w.heap.size + 1) rfl 46 #[.bool n0, .int .i64 n1, .int .i64 n2, .int .i64 n3, .int .i64 n4, .int .i64 n5, .int .i64 n6, .int .i64 n7, .int .i64 n8, .int .i64 n9, .int .i64 n10, .int .i64 n11, .string n12, .string n13, .int .i64 n14, .int .i64 n15, .int .i64 n16, .int .i64 n17, .slice a18 m18 p18, .int .i64 n19, .slice a20 m20 p20, .slice a21 m21 p21, .slice a22 m22 p22] (0, 0) _ HX1.out Try.underlying46 rfl HI1.out ?_ | fail)
      refine (ofr_any n0 n1 n2 n3 n4 n5 n6 n7 n8 n9 n10 n11 n12 n13 n14 n15 n16 n17 a18 m18 p18 n19 a20 m20 p20 a21 m21 p21 a22 m22 p22 _).mono ?_
      rintro e wo ⟨he, hb⟩
      rw [he.out]
      clear he
      have HX0' := Lib.hid ((hb.block _ (Array.getElem?_eq_some_iff.1 HX0.out).1).trans HX0.out)
      have HX1' := Lib.hid ((hb.block _ (Array.getElem?_eq_some_iff.1 HX1.out).1).trans HX1.out)
      have HB' := Lib.hid (HB.out.trans (hb.mono HB.out.size))
      have HM0' := Lib.hid (HM0.out.on hb)
      have HR1' := Lib.hid (HR1.out.on hb)
      have HMf' := Lib.hid (HMf.out.on hb)
      have HU0' := Lib.hid (HU0.out.below hb)
      have HU1' := Lib.hid (HU1.out.below hb)
      clear hb HX0 HX1 HB HM0 HR1 HMf HU0 HU1
      have HX0 := HX0'
      have HX1 := HX1'
      have HB := HB'
      have HM0 := HM0'
      have HR1 := HR1'
      have HMf := HMf'
      have HU0 := HU0'
      have HU1 := HU1'
      clear HX0' HX1' HB' HM0' HR1' HMf' HU0' HU1'
      go_wp2_with (first | refine wpList_load_rowG rfl _ _ rfl (w.heap.size) rfl 44 cs0 (0, 0) _ HX0.out Try.underlying44 rfl HI0.out ?_ | refine wpList_load_rowG rfl _ _ rfl (w.heap.size + 1) rfl 46 #[.bool n0, .int .i64 n1, .int .i64 n2, .int .i64 n3, .int .i64 n4, .int .i64 n5, .int .i64 n6, .int .i64 n7, .int .i64 n8, .int .i64 n9, .int .i64 n10, .int .i64 n11, .string n12, .string n13, .int .i64 n14, .int .i64 n15, .int .i64 n16, .int .i64 n17, .slice a18 m18 p18, .int .i64 n19, .slice a20 m20 p20, .slice a21 m21 p21, .slice a22 m22 p22] (0, 0) _ HX1.out Try.underlying46 rfl HI1.out ?_ | fail)
      refine (ro_put _ _ _ HR1.out HZ1.out.1 HZ1.out.2).mono ?_
      rintro e wz ⟨hb, hq⟩
      obtain ⟨_, he⟩ := hq.resolve_right (fun k => k.1 HG.out)
      rw [he.out]
      clear he hq
      have HX0' := Lib.hid ((hb.block _ (Array.getElem?_eq_some_iff.1 HX0.out).1).trans HX0.out)
      have HX1' := Lib.hid ((hb.block _ (Array.getElem?_eq_some_iff.1 HX1.out).1).trans HX1.out)
      have HB' := Lib.hid (HB.out.trans (hb.mono HB.out.size))
      have HM0' := Lib.hid (HM0.out.on hb)
      have HR1' := Lib.hid (HR1.out.on hb)
      have HMf' := Lib.hid (HMf.out.on hb)
      have HU0' := Lib.hid (HU0.out.below hb)
      have HU1' := Lib.hid (HU1.out.below hb)
      clear hb HX0 HX1 HB HM0 HR1 HMf HU0 HU1
      have HX0 := HX0'
      have HX1 := HX1'
      have HB := HB'
      have HM0 := HM0'
      have HR1 := HR1'
      have HMf := HMf'
      have HU0 := HU0'
      have HU1 := HU1'
      clear HX0' HX1' HB' HM0' HR1' HMf' HU0' HU1'
      have e0 := txt_nilW
      have s1 := bt_str HU0.out
      have s2 := bt_str HU1.out
      clear HX0 HX1 HM0 HR1 HMf HU0 HU1
      go_wp2_with fail
      go_ret
      exact ⟨rfl, HB.out⟩
    · obtain ⟨q, he, hb⟩ := hq
      rw [he.out]
      clear he HP
      have HG := Lib.hid q
      clear q
      have HX0' := Lib.hid ((hb.block _ (Array.getElem?_eq_some_iff.1 HX0.out).1).trans HX0.out)
      have HX1' := Lib.hid ((hb.block _ (Array.getElem?_eq_some_iff.1 HX1.out).1).trans HX1.out)
      have HB' := Lib.hid (HB.out.trans (hb.mono HB.out.size))
      have HM0' := Lib.hid (HM0.out.on hb)
      have HR1' := Lib.hid (HR1.out.on hb)
      have HMf' := Lib.hid (HMf.out.on hb)
      have HU0' := Lib.hid (HU0.out.below hb)
      clear hb HX0 HX1 HB HM0 HR1 HMf HU0
      have HX0 := HX0'
      have HX1 := HX1'
      have HB := HB'
      have HM0 := HM0'
      have HR1 := HR1'
      have HMf := HMf'
      have HU0 := HU0'
      clear HX0' HX1' HB' HM0' HR1' HMf' HU0'
      go_wp2_with (first | refine wpList_load_rowG rfl _ _ rfl (w.heap.size) rfl 44 cs0 (0, 0) _ HX0.out Try.underlying44 rfl HI0.out ?_ | refine wpList_load_rowG rfl _ _ rfl (w.heap.size + 1) rfl 46 #[.bool n0, .int .i64 n1, .int .i64 n2, .int .i64 n3, .int .i64 n4, .int .i64 n5, .int .i64 n6, .int .i64 n7, .int .i64 n8, .int .i64 n9, .int .i64 n10, .int .i64 n11, .string n12, .string n13, .int .i64 n14, .int .i64 n15, .int .i64 n16, .int .i64 n17, .slice a18 m18 p18, .int .i64 n19, .slice a20 m20 p20, .slice a21 m21 p21, .slice a22 m22 p22] (0, 0) _ HX1.out Try.underlying46 rfl HI1.out ?_ | fail)
      refine (ofr_any n0 n1 n2 n3 n4 n5 n6 n7 n8 n9 n10 n11 n12 n13 n14 n15 n16 n17 a18 m18 p18 n19 a20 m20 p20 a21 m21 p21 a22 m22 p22 _).mono ?_
      rintro e wo ⟨he, hb⟩
      rw [he.out]
      clear he
      have HX0' := Lib.hid ((hb.block _ (Array.getElem?_eq_some_iff.1 HX0.out).1).trans HX0.out)
      have HX1' := Lib.hid ((hb.block _ (Array.getElem?_eq_some_iff.1 HX1.out).1).trans HX1.out)
      have HB' := Lib.hid (HB.out.trans (hb.mono HB.out.size))
      have HM0' := Lib.hid (HM0.out.on hb)
      have HR1' := Lib.hid (HR1.out.on hb)
      have HMf' := Lib.hid (HMf.out.on hb)
      have HU0' := Lib.hid (HU0.out.below hb)
      clear hb HX0 HX1 HB HM0 HR1 HMf HU0
      have HX0 := HX0'
      have HX1 := HX1'
      have HB := HB'
      have HM0 := HM0'
      have HR1 := HR1'
      have HMf := HMf'
      have HU0 := HU0'
      clear HX0' HX1' HB' HM0' HR1' HMf' HU0'
      go_wp2_with (first | refine wpList_load_rowG rfl _ _ rfl (w.heap.size) rfl 44 cs0 (0, 0) _ HX0.out Try.underlying44 rfl HI0.out ?_ | refine wpList_load_rowG rfl _ _ rfl (w.heap.size + 1) rfl 46 #[.bool n0, .int .i64 n1, .int .i64 n2, .int .i64 n3, .int .i64 n4, .int .i64 n5, .int .i64 n6, .int .i64 n7, .int .i64 n8, .int .i64 n9, .int .i64 n10, .int .i64 n11, .string n12, .string n13, .int .i64 n14, .int .i64 n15, .int .i64 n16, .int .i64 n17, .slice a18 m18 p18, .int .i64 n19, .slice a20 m20 p20, .slice a21 m21 p21, .slice a22 m22 p22] (0, 0) _ HX1.out Try.underlying46 rfl HI1.out ?_ | fail)
      refine (ro_put _ _ _ HR1.out HZ1.out.1 HZ1.out.2).mono ?_
      rintro e wz ⟨hb, hq⟩
      obtain ⟨_, he⟩ := hq.resolve_left (fun k => HG.out k.1)
      rw [he.out]
      clear he hq
      have HX0' := Lib.hid ((hb.block _ (Array.getElem?_eq_some_iff.1 HX0.out).1).trans HX0.out)
      have HX1' := Lib.hid ((hb.block _ (Array.getElem?_eq_some_iff.1 HX1.out).1).trans HX1.out)
      have HB' := Lib.hid (HB.out.trans (hb.mono HB.out.size))
      have HM0' := Lib.hid (HM0.out.on hb)
      have HR1' := Lib.hid (HR1.out.on hb)
      have HMf' := Lib.hid (HMf.out.on hb)
      have HU0' := Lib.hid (HU0.out.below hb)
      clear hb HX0 HX1 HB HM0 HR1 HMf HU0
      have HX0 := HX0'
      have HX1 := HX1'
      have HB := HB'
      have HM0 := HM0'
      have HR1 := HR1'
      have HMf := HMf'
      have HU0 := HU0'
      clear HX0' HX1' HB' HM0' HR1' HMf' HU0'
      have e0 := txt_nilW
      have s1 := bt_str HU0.out
      have s0 := bt_str (Bt.nil wz)
      clear HX0 HX1 HM0 HR1 HMf HU0
      go_wp2_with fail
      go_ret
      exact ⟨rfl, HB.out⟩
  · rw [he.out]
    clear he HP
    have HQ := Lib.hid q
    clear q
    have HX0' := Lib.hid ((hb.block _ (Array.getElem?_eq_some_iff.1 HX0.out).1).trans HX0.out)
    have HX1' := Lib.hid ((hb.block _ (Array.getElem?_eq_some_iff.1 HX1.out).1).trans HX1.out)
    have HB' := Lib.hid (HB.out.trans (hb.mono HB.out.size))
    have HM0' := Lib.hid (HM0.out.on hb)
    have HR1' := Lib.hid (HR1.out.on hb)
    have HMf' := Lib.hid (HMf.out.on hb)
    clear hb HX0 HX1 HB HM0 HR1 HMf
    have HX0 := HX0'
    have HX1 := HX1'
    have HB := HB'
    have HM0 := HM0'
    have HR1 := HR1'
    have HMf := HMf'
    clear HX0' HX1' HB' HM0' HR1' HMf'
    go_wp2_with (first | refine wpList_load_rowG rfl _ _ rfl (w.heap.size) rfl 44 cs0 (0, 0) _ HX0.out Try.underlying44 rfl HI0.out ?_ | refine wpList_load_rowG rfl _ _ rfl (w.heap.size + 1) rfl 46 #[.bool n0, .int .i64 n1, .int .i64 n2, .int .i64 n3, .int .i64 n4, .int .i64 n5, .int .i64 n6, .int .i64 n7, .int .i64 n8, .int .i64 n9, .int .i64 n10, .int .i64 n11, .string n12, .string n13, .int .i64 n14, .int .i64 n15, .int .i64 n16, .int .i64 n17, .slice a18 m18 p18, .int .i64 n19, .slice a20 m20 p20, .slice a21 m21 p21, .slice a22 m22 p22] (0, 0) _ HX1.out Try.underlying46 rfl HI1.out ?_ | fail)
    refine (ro_msg _ x0 _ HM0.out HZ0.out).mono ?_
    rintro e wt ⟨hb, hq⟩
    obtain ⟨_, he⟩ := hq.resolve_left (fun k => HQ.out k.1)
    rw [he.out]
    clear he hq
    have HX0' := Lib.hid ((hb.block _ (Array.getElem?_eq_some_iff.1 HX0.out).1).trans HX0.out)
    have HX1' := Lib.hid ((hb.block _ (Array.getElem?_eq_some_iff.1 HX1.out).1).trans HX1.out)
    have HB' := Lib.hid (HB.out.trans (hb.mono HB.out.size))
    have HM0' := Lib.hid (HM0.out.on hb)
    have HR1' := Lib.hid (HR1.out.on hb)
    have HMf' := Lib.hid (HMf.out.on hb)
    clear hb HX0 HX1 HB HM0 HR1 HMf
    have HX0 := HX0'
    have HX1 := HX1'
    have HB := HB'
    have HM0 := HM0'
    have HR1 := HR1'
    have HMf := HMf'
    clear HX0' HX1' HB' HM0' HR1' HMf'
    go_wp2_with (first | refine wpList_load_rowG rfl _ _ rfl (w.heap.size) rfl 44 cs0 (0, 0) _ HX0.out Try.underlying44 rfl HI0.out ?_ | refine wpList_load_rowG rfl _ _ rfl (w.heap.size + 1) rfl 46 #[.bool n0, .int .i64 n1, .int .i64 n2, .int .i64 n3, .int .i64 n4, .int .i64 n5, .int .i64 n6, .int .i64 n7, .int .i64 n8, .int .i64 n9, .int .i64 n10, .int .i64 n11, .string n12, .string n13, .int .i64 n14, .int .i64 n15, .int .i64 n16, .int .i64 n17, .slice a18 m18 p18, .int .i64 n19, .slice a20 m20 p20, .slice a21 m21 p21, .slice a22 m22 p22] (0, 0) _ HX1.out Try.underlying46 rfl HI1.out ?_ | fail)
    refine (putG _ _ _ HR1.out).mono ?_
    rintro e wp hP
    have HP := Lib.hid hP
    clear hP
    rcases HP.out with hq | hq
    · obtain ⟨q, u1, he, ho, hb⟩ := hq
      rw [he.out]
      clear he HP
      have HG := Lib.hid q
      have hlr := rc_len _ q.2
      obtain ⟨a1, c1, hv⟩ := ho.slice
      subst hv
      have HU1 := Lib.hid (ho.bt (by omega))
      clear ho q hlr
      have HX0' := Lib.hid ((hb.block _ (Array.getElem?_eq_some_iff.1 HX0.out).1).trans HX0.out)
      have HX1' := Lib.hid ((hb.block _ (Array.getElem?_eq_some_iff.1 HX1.out).1).trans HX1.out)
      have HB' := Lib.hid (HB.out.trans (hb.mono HB.out.size))
      have HM0' := Lib.hid (HM0.out.on hb)
      have HR1' := Lib.hid (HR1.out.on hb)
      have HMf' := Lib.hid (HMf.out.on hb)
      clear hb HX0 HX1 HB HM0 HR1 HMf
      have HX0 := HX0'
      have HX1 := HX1'
      have HB := HB'
      have HM0 := HM0'
      have HR1 := HR1'
      have HMf := HMf'
      clear HX0' HX1' HB' HM0' HR1' HMf'
      go_wp2_with (first | refine wpList_load_rowG rfl _ _ rfl (w.heap.size) rfl 44 cs0 (0, 0) _ HX0.out Try.underlying44 rfl HI0.out ?_ | refine wpList_load_rowG rfl _ _ rfl (w.heap.size + 1) rfl 46 #[.bool n0, .int .i64 n1, .int .i64 n2, .int .i64 n3, .int .i64 n4, .int .i64 n5, .int .i64 n6, .int .i64 n7, .int .i64 n8, .int .i64 n9, .int .i64 n10, .int .i64 n11, .string n12, .string n13, .int .i64 n14, .int .i64 n15, .int .i64 n16, .int .i64 n17, .slice a18 m18 p18, .int .i64 n19, .slice a20 m20 p20, .slice a21 m21 p21, .slice a22 m22 p22] (0, 0) _ HX1.out Try.underlying46 rfl HI1.out ?_ | fail)
      refine (ofr_any n0 n1 n2 n3 n4 n5 n6 n7 n8 n9 n10 n11 n12 n13 n14 n15 n16 n17 a18 m18 p18 n19 a20 m20 p20 a21 m21 p21 a22 m22 p22 _).mono ?_
      rintro e wo ⟨he, hb⟩
      rw [he.out]
      clear he
      have HX0' := Lib.hid ((hb.block _ (Array.getElem?_eq_some_iff.1 HX0.out).1).trans HX0.out)
      have HX1' := Lib.hid ((hb.block _ (Array.getElem?_eq_some_iff.1 HX1.out).1).trans HX1.out)
      have HB' := Lib.hid (HB.out.trans (hb.mono HB.out.size))
      have HM0' := Lib.hid (HM0.out.on hb)
      have HR1' := Lib.hid (HR1.out.on hb)
      have HMf' := Lib.hid (HMf.out.on hb)
      have HU1' := Lib.hid (HU1.out.below hb)
      clear hb HX0 HX1 HB HM0 HR1 HMf HU1
      have HX0 := HX0'
      have HX1 := HX1'
      have HB := HB'
      have HM0 := HM0'
      have HR1 := HR1'
      have HMf := HMf'
      have HU1 := HU1'
      clear HX0' HX1' HB' HM0' HR1' HMf' HU1'
      go_wp2_with (first | refine wpList_load_rowG rfl _ _ rfl (w.heap.size) rfl 44 cs0 (0, 0) _ HX0.out Try.underlying44 rfl HI0.out ?_ | refine wpList_load_rowG rfl _ _ rfl (w.heap.size + 1) rfl 46 #[.bool n0, .int .i64 n1, .int .i64 n2, .int .i64 n3, .int .i64 n4, .int .i64 n5, .int .i64 n6, .int .i64 n7, .int .i64 n8, .int .i64 n9, .int .i64 n10, .int .i64 n11, .string n12, .string n13, .int .i64 n14, .int .i64 n15, .int .i64 n16, .int .i64 n17, .slice a18 m18 p18, .int .i64 n19, .slice a20 m20 p20, .slice a21 m21 p21, .slice a22 m22 p22] (0, 0) _ HX1.out Try.underlying46 rfl HI1.out ?_ | fail)
      refine (ro_put _ _ _ HR1.out HZ1.out.1 HZ1.out.2).mono ?_
      rintro e wz ⟨hb, hq⟩
      obtain ⟨_, he⟩ := hq.resolve_right (fun k => k.1 HG.out)
      rw [he.out]
      clear he hq
      have HX0' := Lib.hid ((hb.block _ (Array.getElem?_eq_some_iff.1 HX0.out).1).trans HX0.out)
      have HX1' := Lib.hid ((hb.block _ (Array.getElem?_eq_some_iff.1 HX1.out).1).trans HX1.out)
      have HB' := Lib.hid (HB.out.trans (hb.mono HB.out.size))
      have HM0' := Lib.hid (HM0.out.on hb)
      have HR1' := Lib.hid (HR1.out.on hb)
      have HMf' := Lib.hid (HMf.out.on hb)
      have HU1' := Lib.hid (HU1.out.below hb)
      clear hb HX0 HX1 HB HM0 HR1 HMf HU1
      have HX0 := HX0'
      have HX1 := HX1'
      have HB := HB'
      have HM0 := HM0'
      have HR1 := HR1'
      have HMf := HMf'
      have HU1 := HU1'
      clear HX0' HX1' HB' HM0' HR1' HMf' HU1'
      have e0 := txt_nilW
      have s0 := bt_str (Bt.nil wz)
      have s2 := bt_str HU1.out
      clear HX0 HX1 HM0 HR1 HMf HU1
      go_wp2_with fail
      go_ret
      exact ⟨rfl, HB.out⟩
    · obtain ⟨q, he, hb⟩ := hq
      rw [he.out]
      clear he HP
      have HG := Lib.hid q
      clear q
      have HX0' := Lib.hid ((hb.block _ (Array.getElem?_eq_some_iff.1 HX0.out).1).trans HX0.out)
      have HX1' := Lib.hid ((hb.block _ (Array.getElem?_eq_some_iff.1 HX1.out).1).trans HX1.out)
      have HB' := Lib.hid (HB.out.trans (hb.mono HB.out.size))
      have HM0' := Lib.hid (HM0.out.on hb)
      have HR1' := Lib.hid (HR1.out.on hb)
      have HMf' := Lib.hid (HMf.out.on hb)
      clear hb HX0 HX1 HB HM0 HR1 HMf
      have HX0 := HX0'
      have HX1 := HX1'
      have HB := HB'
      have HM0 := HM0'
      have HR1 := HR1'
      have HMf := HMf'
      clear HX0' HX1' HB' HM0' HR1' HMf'
      go_wp2_with (first | refine wpList_load_rowG rfl _ _ rfl (w.heap.size) rfl 44 cs0 (0, 0) _ HX0.out Try.underlying44 rfl HI0.out ?_ | refine wpList_load_rowG rfl _ _ rfl (w.heap.size + 1) rfl 46 #[.bool n0, .int .i64 n1, .int .i64 n2, .int .i64 n3, .int .i64 n4, .int .i64 n5, .int .i64 n6, .int .i64 n7, .int .i64 n8, .int .i64 n9, .int .i64 n10, .int .i64 n11, .string n12, .string n13, .int .i64 n14, .int .i64 n15, .int .i64 n16, .int .i64 n17, .slice a18 m18 p18, .int .i64 n19, .slice a20 m20 p20, .slice a21 m21 p21, .slice a22 m22 p22] (0, 0) _ HX1.out Try.underlying46 rfl HI1.out ?_ | fail)
      refine (ofr_any n0 n1 n2 n3 n4 n5 n6 n7 n8 n9 n10 n11 n12 n13 n14 n15 n16 n17 a18 m18 p18 n19 a20 m20 p20 a21 m21 p21 a22 m22 p22 _).mono ?_
      rintro e wo ⟨he, hb⟩
      rw [he.out]
      clear he
      have HX0' := Lib.hid ((hb.block _ (Array.getElem?_eq_some_iff.1 HX0.out).1).trans HX0.out)
      have HX1' := Lib.hid ((hb.block _ (Array.getElem?_eq_some_iff.1 HX1.out).1).trans HX1.out)
      have HB' := Lib.hid (HB.out.trans (hb.mono HB.out.size))
      have HM0' := Lib.hid (HM0.out.on hb)
      have HR1' := Lib.hid (HR1.out.on hb)
      have HMf' := Lib.hid (HMf.out.on hb)
      clear hb HX0 HX1 HB HM0 HR1 HMf
      have HX0 := HX0'
      have HX1 := HX1'
      have HB := HB'
      have HM0 := HM0'
      have HR1 := HR1'
      have HMf := HMf'
      clear HX0' HX1' HB' HM0' HR1' HMf'
      go_wp2_with (first | refine wpList_load_rowG rfl _ _ rfl (w.heap.size) rfl 44 cs0 (0, 0) _ HX0.out Try.underlying44 rfl HI0.out ?_ | refine wpList_load_rowG rfl _ _ rfl (w.heap.size + 1) rfl 46 #[.bool n0, .int .i64 n1, .int .i64 n2, .int .i64 n3, .int .i64 n4, .int .i64 n5, .int .i64 n6, .int .i64 n7, .int .i64 n8, .int .i64 n9, .int .i64 n10, .int .i64 n11, .string n12, .string n13, .int .i64 n14, .int .i64 n15, .int .i64 n16, .int .i64 n17, .slice a18 m18 p18, .int .i64 n19, .slice a20 m20 p20, .slice a21 m21 p21, .slice a22 m22 p22] (0, 0) _ HX1.out Try.underlying46 rfl HI1.out ?_ | fail)
      refine (ro_put _ _ _ HR1.out HZ1.out.1 HZ1.out.2).mono ?_
      rintro e wz ⟨hb, hq⟩
      obtain ⟨_, he⟩ := hq.resolve_left (fun k => HG.out k.1)
      rw [he.out]
      clear he hq
      have HX0' := Lib.hid ((hb.block _ (Array.getElem?_eq_some_iff.1 HX0.out).1).trans HX0.out)
      have HX1' := Lib.hid ((hb.block _ (Array.getElem?_eq_some_iff.1 HX1.out).1).trans HX1.out)
      have HB' := Lib.hid (HB.out.trans (hb.mono HB.out.size))
      have HM0' := Lib.hid (HM0.out.on hb)
      have HR1' := Lib.hid (HR1.out.on hb)
      have HMf' := Lib.hid (HMf.out.on hb)
      clear hb HX0 HX1 HB HM0 HR1 HMf
      have HX0 := HX0'
      have HX1 := HX1'
      have HB := HB'
      have HM0 := HM0'
      have HR1 := HR1'
      have HMf := HMf'
      clear HX0' HX1' HB' HM0' HR1' HMf'
      have e0 := txt_nilW
      have s0 := bt_str (Bt.nil wz)
      clear HX0 HX1 HM0 HR1 HMf
      go_wp2_with fail
      go_ret
      exact ⟨rfl, HB.out⟩
end Go.Proofs.Ytllcmapgigfgoaa
