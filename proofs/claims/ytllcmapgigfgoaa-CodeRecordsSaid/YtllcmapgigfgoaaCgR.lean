/-
  The walk of CodeRecords.
-/
import Derived.Test.YtllcmapgigfgoaaCeW
import Derived.Test.YtllcmapgigfgoaaWg
namespace Go.Proofs.Ytllcmapgigfgoaa
open Go.RowKit
set_option linter.unusedSimpArgs false
set_option linter.unusedVariables false

set_option maxRecDepth 100000 in
set_option maxHeartbeats 32000000 in
theorem records_law (v1 v0 : Value) (x1 : Rec4) (s : ByteArray) (x0 : Msg7) (w : World) (h1 : RecIs w v1 x1) (h0 : MsgIs w v0 x0) (z1 : RchI x1.2.2.1 x1.2.2.2 ∧ RchL x1.2.2.2) (z0 : RchI x0.2.2.2.2.2.1 x0.2.2.2.2.2.2) (hs : s.size ≤ maxLen) :
    Calls Try.prog 7 #[v1, .string s, v0] w (TruP w) := by
  have hsm : (s.size : Int) ≤ 9223372036854775807 := by unfold maxLen at hs; omega
  clear hs
  have HZ0 := Lib.hid z0
  have hr0 := h0
  have hr1 := h1
  obtain ⟨cs0, rfl, hs0⟩ := h0
  obtain ⟨cs1, rfl, hs1⟩ := h1
  obtain ⟨a18, m18, p18, rs18, a20, m20, p20, rs20, a21, m21, p21, rs21, a22, m22, p22, rs22, hcs, hs12, hs13, hr18, hr20, hr21, hr22⟩ := rc_is hs1
  obtain ⟨n0, ⟨n1, n2, n3⟩, ⟨n4, ⟨n5, n6⟩, ⟨n7, n8⟩, ⟨n9, n10, n11, n12, n13, n14, n15, n16⟩, n17, l18⟩, ⟨n19, l20⟩, l21, l22⟩ := x1
  obtain rfl : cs1 = #[.bool n0, .int .i64 n1, .int .i64 n2, .int .i64 n3, .int .i64 n4, .int .i64 n5, .int .i64 n6, .int .i64 n7, .int .i64 n8, .int .i64 n9, .int .i64 n10, .int .i64 n11, .string n12, .string n13, .int .i64 n14, .int .i64 n15, .int .i64 n16, .int .i64 n17, .slice a18 m18 p18, .int .i64 n19, .slice a20 m20 p20, .slice a21 m21 p21, .slice a22 m22 p22] := by
    cases cs1
    simpa [idE, inV, snV] using hcs
  have HB : Hid (Below w.heap.size w ((w.alloc (.cells #[.bool n0, .int .i64 n1, .int .i64 n2, .int .i64 n3, .int .i64 n4, .int .i64 n5, .int .i64 n6, .int .i64 n7, .int .i64 n8, .int .i64 n9, .int .i64 n10, .int .i64 n11, .string n12, .string n13, .int .i64 n14, .int .i64 n15, .int .i64 n16, .int .i64 n17, .slice a18 m18 p18, .int .i64 n19, .slice a20 m20 p20, .slice a21 m21 p21, .slice a22 m22 p22] 46)).alloc (.cells cs0 44))) := Lib.hid (((Below.refl _ _).alloc (Nat.le_refl _) _).alloc (by simp) _)
  have HM0 := Lib.hid (hr0.on HB.out)
  have HR1 := Lib.hid (hr1.on HB.out)
  have HMf : Hid (MsgIs ((w.alloc (.cells #[.bool n0, .int .i64 n1, .int .i64 n2, .int .i64 n3, .int .i64 n4, .int .i64 n5, .int .i64 n6, .int .i64 n7, .int .i64 n8, .int .i64 n9, .int .i64 n10, .int .i64 n11, .string n12, .string n13, .int .i64 n14, .int .i64 n15, .int .i64 n16, .int .i64 n17, .slice a18 m18 p18, .int .i64 n19, .slice a20 m20 p20, .slice a21 m21 p21, .slice a22 m22 p22] 46)).alloc (.cells cs0 44)) (.agg #[.int .i64 0, .int .i64 0, .int .i64 0, .int .i64 0, .int .i64 0, .int .i64 0, .int .i64 0, .int .i64 0, .int .i64 n4, .int .i64 n5, .int .i64 n6, .int .i64 n7, .int .i64 n8, .int .i64 n9, .int .i64 n10, .int .i64 n11, .string n12, .string n13, .int .i64 n14, .int .i64 n15, .int .i64 n16, .int .i64 n17, .slice a18 m18 p18, .int .i64 n19, .slice a20 m20 p20, .slice a21 m21 p21, .slice a22 m22 p22]) ((0, 0, 0, (0, 0, 0), (0, 0), (n4, (n5, n6), (n7, n8), (n9, n10, n11, n12, n13, n14, n15, n16), n17, l18), ((n19, l20), l21, l22)) : Msg7)) := Lib.hid (MsgIs.on (W := w) ⟨_, rfl, ms_mk (x := ((0, 0, 0, (0, 0, 0), (0, 0), (n4, (n5, n6), (n7, n8), (n9, n10, n11, n12, n13, n14, n15, n16), n17, l18), ((n19, l20), l21, l22)) : Msg7)) hs12 hs13 hr18 hr20 hr21 hr22⟩ HB.out)
  have HI0 : Hid ((Try.prog.info? 44).map (·.size) = some cs0.size) := Lib.hid (by rw [ms_size hs0]; kernel_rfl)
  have HI1 : Hid ((Try.prog.info? 46).map (·.size) = some (#[.bool n0, .int .i64 n1, .int .i64 n2, .int .i64 n3, .int .i64 n4, .int .i64 n5, .int .i64 n6, .int .i64 n7, .int .i64 n8, .int .i64 n9, .int .i64 n10, .int .i64 n11, .string n12, .string n13, .int .i64 n14, .int .i64 n15, .int .i64 n16, .int .i64 n17, .slice a18 m18 p18, .int .i64 n19, .slice a20 m20 p20, .slice a21 m21 p21, .slice a22 m22 p22] : Array Value).size) := Lib.hid (by kernel_rfl)
  have HX1 : Hid (((w.alloc (.cells #[.bool n0, .int .i64 n1, .int .i64 n2, .int .i64 n3, .int .i64 n4, .int .i64 n5, .int .i64 n6, .int .i64 n7, .int .i64 n8, .int .i64 n9, .int .i64 n10, .int .i64 n11, .string n12, .string n13, .int .i64 n14, .int .i64 n15, .int .i64 n16, .int .i64 n17, .slice a18 m18 p18, .int .i64 n19, .slice a20 m20 p20, .slice a21 m21 p21, .slice a22 m22 p22] 46)).alloc (.cells cs0 44)).heap[w.heap.size]? = some (.cells #[.bool n0, .int .i64 n1, .int .i64 n2, .int .i64 n3, .int .i64 n4, .int .i64 n5, .int .i64 n6, .int .i64 n7, .int .i64 n8, .int .i64 n9, .int .i64 n10, .int .i64 n11, .string n12, .string n13, .int .i64 n14, .int .i64 n15, .int .i64 n16, .int .i64 n17, .slice a18 m18 p18, .int .i64 n19, .slice a20 m20 p20, .slice a21 m21 p21, .slice a22 m22 p22] 46 (0, 0))) := Lib.hid ((Below.heap_alloc _ _ _ (by simp)).trans (bka_new w 46 #[.bool n0, .int .i64 n1, .int .i64 n2, .int .i64 n3, .int .i64 n4, .int .i64 n5, .int .i64 n6, .int .i64 n7, .int .i64 n8, .int .i64 n9, .int .i64 n10, .int .i64 n11, .string n12, .string n13, .int .i64 n14, .int .i64 n15, .int .i64 n16, .int .i64 n17, .slice a18 m18 p18, .int .i64 n19, .slice a20 m20 p20, .slice a21 m21 p21, .slice a22 m22 p22]))
  have HX0 : Hid (((w.alloc (.cells #[.bool n0, .int .i64 n1, .int .i64 n2, .int .i64 n3, .int .i64 n4, .int .i64 n5, .int .i64 n6, .int .i64 n7, .int .i64 n8, .int .i64 n9, .int .i64 n10, .int .i64 n11, .string n12, .string n13, .int .i64 n14, .int .i64 n15, .int .i64 n16, .int .i64 n17, .slice a18 m18 p18, .int .i64 n19, .slice a20 m20 p20, .slice a21 m21 p21, .slice a22 m22 p22] 46)).alloc (.cells cs0 44)).heap[w.heap.size + 1]? = some (.cells cs0 44 (0, 0))) := Lib.hid (by have := bka_new (w.alloc (.cells #[.bool n0, .int .i64 n1, .int .i64 n2, .int .i64 n3, .int .i64 n4, .int .i64 n5, .int .i64 n6, .int .i64 n7, .int .i64 n8, .int .i64 n9, .int .i64 n10, .int .i64 n11, .string n12, .string n13, .int .i64 n14, .int .i64 n15, .int .i64 n16, .int .i64 n17, .slice a18 m18 p18, .int .i64 n19, .slice a20 m20 p20, .slice a21 m21 p21, .slice a22 m22 p22] 46)) 44 cs0; rwa [World.size_alloc] at this)
  clear hs0 hs1 hcs hs12 hs13 hr18 hr20 hr21 hr22 hr0 hr1 z0 z1
  go_enter Try.func7, Try.ntmps7
  go_wp2_with fail
  refine (works_any _).mono ?_
  rintro e w1 ⟨rfl, hb⟩
  have HX1' := Lib.hid ((hb.block _ (Array.getElem?_eq_some_iff.1 HX1.out).1).trans HX1.out)
  have HX0' := Lib.hid ((hb.block _ (Array.getElem?_eq_some_iff.1 HX0.out).1).trans HX0.out)
  have HB' := Lib.hid (HB.out.trans (hb.mono HB.out.size))
  have HM0' := Lib.hid (HM0.out.on hb)
  have HR1' := Lib.hid (HR1.out.on hb)
  have HMf' := Lib.hid (HMf.out.on hb)
  clear hb HX1 HX0 HB HM0 HR1 HMf
  have HX1 := HX1'
  have HX0 := HX0'
  have HB := HB'
  have HM0 := HM0'
  have HR1 := HR1'
  have HMf := HMf'
  clear HX1' HX0' HB' HM0' HR1' HMf'
  go_wp2_with (first | refine wpList_load_rowG rfl _ _ rfl (w.heap.size) rfl 46 #[.bool n0, .int .i64 n1, .int .i64 n2, .int .i64 n3, .int .i64 n4, .int .i64 n5, .int .i64 n6, .int .i64 n7, .int .i64 n8, .int .i64 n9, .int .i64 n10, .int .i64 n11, .string n12, .string n13, .int .i64 n14, .int .i64 n15, .int .i64 n16, .int .i64 n17, .slice a18 m18 p18, .int .i64 n19, .slice a20 m20 p20, .slice a21 m21 p21, .slice a22 m22 p22] (0, 0) _ HX1.out Try.underlying46 rfl HI1.out ?_ | refine wpList_load_rowG rfl _ _ rfl (w.heap.size + 1) rfl 44 cs0 (0, 0) _ HX0.out Try.underlying44 rfl HI0.out ?_ | fail)
  refine (few_any _ x0 _ HM0.out).mono ?_
  rintro e wf ⟨R, he, hF, hb⟩
  rw [he.out]
  clear he
  have HF0 := Lib.hid hF
  clear hF
  have HX1' := Lib.hid ((hb.block _ (Array.getElem?_eq_some_iff.1 HX1.out).1).trans HX1.out)
  have HX0' := Lib.hid ((hb.block _ (Array.getElem?_eq_some_iff.1 HX0.out).1).trans HX0.out)
  have HB' := Lib.hid (HB.out.trans (hb.mono HB.out.size))
  have HM0' := Lib.hid (HM0.out.on hb)
  have HR1' := Lib.hid (HR1.out.on hb)
  have HMf' := Lib.hid (HMf.out.on hb)
  clear hb HX1 HX0 HB HM0 HR1 HMf
  have HX1 := HX1'
  have HX0 := HX0'
  have HB := HB'
  have HM0 := HM0'
  have HR1 := HR1'
  have HMf := HMf'
  clear HX1' HX0' HB' HM0' HR1' HMf'
  cases R with
  | false =>
    go_wp2_with fail
    go_ret
    exact ⟨rfl, HB.out⟩
  | true =>
  have hbr : Bk _ w.heap.size 46 [.bool n0, .int .i64 n1, .int .i64 n2, .int .i64 n3, .int .i64 n4, .int .i64 n5, .int .i64 n6, .int .i64 n7, .int .i64 n8, .int .i64 n9, .int .i64 n10, .int .i64 n11, .string n12, .string n13, .int .i64 n14, .int .i64 n15, .int .i64 n16, .int .i64 n17, .slice a18 m18 p18, .int .i64 n19, .slice a20 m20 p20, .slice a21 m21 p21, .slice a22 m22 p22] := HX1.out
  have y4 := hbr.cell 4
  have y5 := hbr.cell 5
  have y6 := hbr.cell 6
  have y7 := hbr.cell 7
  have y8 := hbr.cell 8
  have y9 := hbr.cell 9
  have y10 := hbr.cell 10
  have y11 := hbr.cell 11
  have y12 := hbr.cell 12
  have y13 := hbr.cell 13
  have y14 := hbr.cell 14
  have y15 := hbr.cell 15
  have y16 := hbr.cell 16
  have y17 := hbr.cell 17
  have y18 := hbr.cell 18
  have y19 := hbr.cell 19
  have y20 := hbr.cell 20
  have y21 := hbr.cell 21
  have y22 := hbr.cell 22
  simp only [List.getElem?_cons_zero, List.getElem?_cons_succ] at y4 y5 y6 y7 y8 y9 y10 y11 y12 y13 y14 y15 y16 y17 y18 y19 y20 y21 y22
  clear hbr
  go_wp2_with (first | refine wpList_load_rowG rfl _ _ rfl (w.heap.size) rfl 46 #[.bool n0, .int .i64 n1, .int .i64 n2, .int .i64 n3, .int .i64 n4, .int .i64 n5, .int .i64 n6, .int .i64 n7, .int .i64 n8, .int .i64 n9, .int .i64 n10, .int .i64 n11, .string n12, .string n13, .int .i64 n14, .int .i64 n15, .int .i64 n16, .int .i64 n17, .slice a18 m18 p18, .int .i64 n19, .slice a20 m20 p20, .slice a21 m21 p21, .slice a22 m22 p22] (0, 0) _ HX1.out Try.underlying46 rfl HI1.out ?_ | refine wpList_load_rowG rfl _ _ rfl (w.heap.size + 1) rfl 44 cs0 (0, 0) _ HX0.out Try.underlying44 rfl HI0.out ?_ | fail)
  refine (few_any _ ((0, 0, 0, (0, 0, 0), (0, 0), (n4, (n5, n6), (n7, n8), (n9, n10, n11, n12, n13, n14, n15, n16), n17, l18), ((n19, l20), l21, l22)) : Msg7) _ HMf.out).mono ?_
  rintro e wf2 ⟨R, he, hF, hb⟩
  rw [he.out]
  clear he
  have HF1 := Lib.hid hF
  clear hF y4 y5 y6 y7 y8 y9 y10 y11 y12 y13 y14 y15 y16 y17 y18 y19 y20 y21 y22
  have HX1' := Lib.hid ((hb.block _ (Array.getElem?_eq_some_iff.1 HX1.out).1).trans HX1.out)
  have HX0' := Lib.hid ((hb.block _ (Array.getElem?_eq_some_iff.1 HX0.out).1).trans HX0.out)
  have HB' := Lib.hid (HB.out.trans (hb.mono HB.out.size))
  have HM0' := Lib.hid (HM0.out.on hb)
  have HR1' := Lib.hid (HR1.out.on hb)
  clear hb HX1 HX0 HB HM0 HR1
  have HX1 := HX1'
  have HX0 := HX0'
  have HB := HB'
  have HM0 := HM0'
  have HR1 := HR1'
  clear HX1' HX0' HB' HM0' HR1'
  cases R with
  | false =>
    go_wp2_with fail
    go_ret
    exact ⟨rfl, HB.out⟩
  | true =>
  by_cases q0 : 3000 < s.size
  · have s1 : decide ((3000 : Int) < (s.size : Int)) = true := decide_eq_true (by omega)
    have s2 : (3000 : Int) < (s.size : Int) := by omega
    have s3 : decide (3000 < s.size) = true := decide_eq_true q0
    go_wp2_with fail
    go_ret
    exact ⟨rfl, HB.out⟩
  have s1 : decide ((3000 : Int) < (s.size : Int)) = false := decide_eq_false (by omega)
  have s3 : decide (3000 < s.size) = false := decide_eq_false q0
  have HS3 := Lib.hid (show s.size ≤ 3000 by omega)
  clear q0
  go_wp2_with (first | refine wpList_load_rowG rfl _ _ rfl (w.heap.size) rfl 46 #[.bool n0, .int .i64 n1, .int .i64 n2, .int .i64 n3, .int .i64 n4, .int .i64 n5, .int .i64 n6, .int .i64 n7, .int .i64 n8, .int .i64 n9, .int .i64 n10, .int .i64 n11, .string n12, .string n13, .int .i64 n14, .int .i64 n15, .int .i64 n16, .int .i64 n17, .slice a18 m18 p18, .int .i64 n19, .slice a20 m20 p20, .slice a21 m21 p21, .slice a22 m22 p22] (0, 0) _ HX1.out Try.underlying46 rfl HI1.out ?_ | refine wpList_load_rowG rfl _ _ rfl (w.heap.size + 1) rfl 44 cs0 (0, 0) _ HX0.out Try.underlying44 rfl HI0.out ?_ | fail)
  refine (putG _ _ _ HR1.out).mono ?_
  rintro e wp hP
  have HP := Lib.hid hP
  clear hP
  rcases HP.out with ⟨q, u1, he, ho, hb⟩ | ⟨q, he, hb⟩
  · rw [he.out]
    clear he HP
    have HG := Lib.hid q
    have HBy := Lib.hid (eF_byte q.2)
    have hlr := rc_len _ q.2
    have hl2 : (eF (rcFs (n0, (n1, n2, n3), (n4, (n5, n6), (n7, n8), (n9, n10, n11, n12, n13, n14, n15, n16), n17, l18), (n19, l20), l21, l22))).length ≤ 500000 := rc_few q (HF1.out (by first | rfl | trivial))
    obtain ⟨a1, c1, hv⟩ := ho.slice
    subst hv
    have HU1 := Lib.hid (ho.bt (by omega))
    have HL2 := Lib.hid hl2
    clear ho q hlr hl2
    have HX1' := Lib.hid ((hb.block _ (Array.getElem?_eq_some_iff.1 HX1.out).1).trans HX1.out)
    have HX0' := Lib.hid ((hb.block _ (Array.getElem?_eq_some_iff.1 HX0.out).1).trans HX0.out)
    have HB' := Lib.hid (HB.out.trans (hb.mono HB.out.size))
    have HM0' := Lib.hid (HM0.out.on hb)
    have HR1' := Lib.hid (HR1.out.on hb)
    clear hb HX1 HX0 HB HM0 HR1
    have HX1 := HX1'
    have HX0 := HX0'
    have HB := HB'
    have HM0 := HM0'
    have HR1 := HR1'
    clear HX1' HX0' HB' HM0' HR1'
    go_wp2_with (first | refine wpList_load_rowG rfl _ _ rfl (w.heap.size) rfl 46 #[.bool n0, .int .i64 n1, .int .i64 n2, .int .i64 n3, .int .i64 n4, .int .i64 n5, .int .i64 n6, .int .i64 n7, .int .i64 n8, .int .i64 n9, .int .i64 n10, .int .i64 n11, .string n12, .string n13, .int .i64 n14, .int .i64 n15, .int .i64 n16, .int .i64 n17, .slice a18 m18 p18, .int .i64 n19, .slice a20 m20 p20, .slice a21 m21 p21, .slice a22 m22 p22] (0, 0) _ HX1.out Try.underlying46 rfl HI1.out ?_ | refine wpList_load_rowG rfl _ _ rfl (w.heap.size + 1) rfl 44 cs0 (0, 0) _ HX0.out Try.underlying44 rfl HI0.out ?_ | fail)
    refine (get_any _ (eF (rcFs (n0, (n1, n2, n3), (n4, (n5, n6), (n7, n8), (n9, n10, n11, n12, n13, n14, n15, n16), n17, l18), (n19, l20), l21, l22))) _ HU1.out HBy.out (by have := HL2.out; omega)).mono ?_
    rintro e wq ⟨u, he, hb, hm⟩
    rw [rcRd_back HG.out] at he hm
    rw [he.out]
    rw [show endE ((n0, (n1, n2, n3), (n4, (n5, n6), (n7, n8), (n9, n10, n11, n12, n13, n14, n15, n16), n17, l18), (n19, l20), l21, l22), (([] : List Int), (0 : Int))).2 = 0 from rfl]
    have hm := (hm.resolve_right (fun h => h.1 rfl)).2
    obtain ⟨csq, hv, hsq⟩ := hm wq (fun _ _ _ => rfl)
    subst hv
    obtain ⟨b18, d18, f18, _, b20, d20, f20, _, b21, d21, f21, _, b22, d22, f22, _, hcs, _⟩ := rc_is hsq
    obtain rfl : csq = #[.bool n0, .int .i64 n1, .int .i64 n2, .int .i64 n3, .int .i64 n4, .int .i64 n5, .int .i64 n6, .int .i64 n7, .int .i64 n8, .int .i64 n9, .int .i64 n10, .int .i64 n11, .string n12, .string n13, .int .i64 n14, .int .i64 n15, .int .i64 n16, .int .i64 n17, .slice b18 d18 f18, .int .i64 n19, .slice b20 d20 f20, .slice b21 d21 f21, .slice b22 d22 f22] := by
      cases csq
      simpa [idE, inV, snV] using hcs
    have HXq := Lib.hid (box_row wq 46 (#[.bool false, .int .i64 0, .int .i64 0, .int .i64 0, .int .i64 0, .int .i64 0, .int .i64 0, .int .i64 0, .int .i64 0, .int .i64 0, .int .i64 0, .int .i64 0, .string ⟨#[]⟩, .string ⟨#[]⟩, .int .i64 0, .int .i64 0, .int .i64 0, .int .i64 0, .slice none 0 0, .int .i64 0, .slice none 0 0, .slice none 0 0, .slice none 0 0] : Array Value) #[.bool n0, .int .i64 n1, .int .i64 n2, .int .i64 n3, .int .i64 n4, .int .i64 n5, .int .i64 n6, .int .i64 n7, .int .i64 n8, .int .i64 n9, .int .i64 n10, .int .i64 n11, .string n12, .string n13, .int .i64 n14, .int .i64 n15, .int .i64 n16, .int .i64 n17, .slice b18 d18 f18, .int .i64 n19, .slice b20 d20 f20, .slice b21 d21 f21, .slice b22 d22 f22])
    have HAq := Lib.hid (bka_new wq 46 (#[.bool false, .int .i64 0, .int .i64 0, .int .i64 0, .int .i64 0, .int .i64 0, .int .i64 0, .int .i64 0, .int .i64 0, .int .i64 0, .int .i64 0, .int .i64 0, .string ⟨#[]⟩, .string ⟨#[]⟩, .int .i64 0, .int .i64 0, .int .i64 0, .int .i64 0, .slice none 0 0, .int .i64 0, .slice none 0 0, .slice none 0 0, .slice none 0 0] : Array Value))
    have HIq : Hid ((Try.prog.info? 46).map (·.size) = some (#[.bool n0, .int .i64 n1, .int .i64 n2, .int .i64 n3, .int .i64 n4, .int .i64 n5, .int .i64 n6, .int .i64 n7, .int .i64 n8, .int .i64 n9, .int .i64 n10, .int .i64 n11, .string n12, .string n13, .int .i64 n14, .int .i64 n15, .int .i64 n16, .int .i64 n17, .slice b18 d18 f18, .int .i64 n19, .slice b20 d20 f20, .slice b21 d21 f21, .slice b22 d22 f22] : Array Value).size) := Lib.hid (by kernel_rfl)
    have HRq := Lib.hid (hm ((wq.alloc (.cells (#[.bool false, .int .i64 0, .int .i64 0, .int .i64 0, .int .i64 0, .int .i64 0, .int .i64 0, .int .i64 0, .int .i64 0, .int .i64 0, .int .i64 0, .int .i64 0, .string ⟨#[]⟩, .string ⟨#[]⟩, .int .i64 0, .int .i64 0, .int .i64 0, .int .i64 0, .slice none 0 0, .int .i64 0, .slice none 0 0, .slice none 0 0, .slice none 0 0] : Array Value) 46)).setRow wq.heap.size #[.bool n0, .int .i64 n1, .int .i64 n2, .int .i64 n3, .int .i64 n4, .int .i64 n5, .int .i64 n6, .int .i64 n7, .int .i64 n8, .int .i64 n9, .int .i64 n10, .int .i64 n11, .string n12, .string n13, .int .i64 n14, .int .i64 n15, .int .i64 n16, .int .i64 n17, .slice b18 d18 f18, .int .i64 n19, .slice b20 d20 f20, .slice b21 d21 f21, .slice b22 d22 f22]) (fun j _ hj => (box_below wq 46 (#[.bool false, .int .i64 0, .int .i64 0, .int .i64 0, .int .i64 0, .int .i64 0, .int .i64 0, .int .i64 0, .int .i64 0, .int .i64 0, .int .i64 0, .int .i64 0, .string ⟨#[]⟩, .string ⟨#[]⟩, .int .i64 0, .int .i64 0, .int .i64 0, .int .i64 0, .slice none 0 0, .int .i64 0, .slice none 0 0, .slice none 0 0, .slice none 0 0] : Array Value) #[.bool n0, .int .i64 n1, .int .i64 n2, .int .i64 n3, .int .i64 n4, .int .i64 n5, .int .i64 n6, .int .i64 n7, .int .i64 n8, .int .i64 n9, .int .i64 n10, .int .i64 n11, .string n12, .string n13, .int .i64 n14, .int .i64 n15, .int .i64 n16, .int .i64 n17, .slice b18 d18 f18, .int .i64 n19, .slice b20 d20 f20, .slice b21 d21 f21, .slice b22 d22 f22]).block j hj))
    have hb := hb.trans ((box_below wq 46 (#[.bool false, .int .i64 0, .int .i64 0, .int .i64 0, .int .i64 0, .int .i64 0, .int .i64 0, .int .i64 0, .int .i64 0, .int .i64 0, .int .i64 0, .int .i64 0, .string ⟨#[]⟩, .string ⟨#[]⟩, .int .i64 0, .int .i64 0, .int .i64 0, .int .i64 0, .slice none 0 0, .int .i64 0, .slice none 0 0, .slice none 0 0, .slice none 0 0] : Array Value) #[.bool n0, .int .i64 n1, .int .i64 n2, .int .i64 n3, .int .i64 n4, .int .i64 n5, .int .i64 n6, .int .i64 n7, .int .i64 n8, .int .i64 n9, .int .i64 n10, .int .i64 n11, .string n12, .string n13, .int .i64 n14, .int .i64 n15, .int .i64 n16, .int .i64 n17, .slice b18 d18 f18, .int .i64 n19, .slice b20 d20 f20, .slice b21 d21 f21, .slice b22 d22 f22]).mono hb.size)
    clear he hm hsq hcs
    have HX1' := Lib.hid ((hb.block _ (Array.getElem?_eq_some_iff.1 HX1.out).1).trans HX1.out)
    have HX0' := Lib.hid ((hb.block _ (Array.getElem?_eq_some_iff.1 HX0.out).1).trans HX0.out)
    have HB' := Lib.hid (HB.out.trans (hb.mono HB.out.size))
    have HM0' := Lib.hid (HM0.out.on hb)
    have HR1' := Lib.hid (HR1.out.on hb)
    have HU1' := Lib.hid (HU1.out.below hb)
    clear hb HX1 HX0 HB HM0 HR1 HU1
    have HX1 := HX1'
    have HX0 := HX0'
    have HB := HB'
    have HM0 := HM0'
    have HR1 := HR1'
    have HU1 := HU1'
    clear HX1' HX0' HB' HM0' HR1' HU1'
    go_wp2_with (first | refine wpList_store_row rfl 46 _ _ rfl wq.heap.size rfl #[.bool n0, .int .i64 n1, .int .i64 n2, .int .i64 n3, .int .i64 n4, .int .i64 n5, .int .i64 n6, .int .i64 n7, .int .i64 n8, .int .i64 n9, .int .i64 n10, .int .i64 n11, .string n12, .string n13, .int .i64 n14, .int .i64 n15, .int .i64 n16, .int .i64 n17, .slice b18 d18 f18, .int .i64 n19, .slice b20 d20 f20, .slice b21 d21 f21, .slice b22 d22 f22] rfl (#[.bool false, .int .i64 0, .int .i64 0, .int .i64 0, .int .i64 0, .int .i64 0, .int .i64 0, .int .i64 0, .int .i64 0, .int .i64 0, .int .i64 0, .int .i64 0, .string ⟨#[]⟩, .string ⟨#[]⟩, .int .i64 0, .int .i64 0, .int .i64 0, .int .i64 0, .slice none 0 0, .int .i64 0, .slice none 0 0, .slice none 0 0, .slice none 0 0] : Array Value) 46 HAq.out HIq.out rfl (by rw [← Array.all_toList]; rfl) ?_ | refine wpList_load_rowG rfl _ _ rfl (w.heap.size) rfl 46 #[.bool n0, .int .i64 n1, .int .i64 n2, .int .i64 n3, .int .i64 n4, .int .i64 n5, .int .i64 n6, .int .i64 n7, .int .i64 n8, .int .i64 n9, .int .i64 n10, .int .i64 n11, .string n12, .string n13, .int .i64 n14, .int .i64 n15, .int .i64 n16, .int .i64 n17, .slice a18 m18 p18, .int .i64 n19, .slice a20 m20 p20, .slice a21 m21 p21, .slice a22 m22 p22] (0, 0) _ HX1.out Try.underlying46 rfl HI1.out ?_ | refine wpList_load_rowG rfl _ _ rfl (w.heap.size + 1) rfl 44 cs0 (0, 0) _ HX0.out Try.underlying44 rfl HI0.out ?_ | refine wpList_load_rowG rfl _ _ rfl (wq.heap.size) rfl 46 #[.bool n0, .int .i64 n1, .int .i64 n2, .int .i64 n3, .int .i64 n4, .int .i64 n5, .int .i64 n6, .int .i64 n7, .int .i64 n8, .int .i64 n9, .int .i64 n10, .int .i64 n11, .string n12, .string n13, .int .i64 n14, .int .i64 n15, .int .i64 n16, .int .i64 n17, .slice b18 d18 f18, .int .i64 n19, .slice b20 d20 f20, .slice b21 d21 f21, .slice b22 d22 f22] (0, 0) _ HXq.out Try.underlying46 rfl HIq.out ?_ | fail)
    generalize ((wq.alloc (.cells (#[.bool false, .int .i64 0, .int .i64 0, .int .i64 0, .int .i64 0, .int .i64 0, .int .i64 0, .int .i64 0, .int .i64 0, .int .i64 0, .int .i64 0, .int .i64 0, .string ⟨#[]⟩, .string ⟨#[]⟩, .int .i64 0, .int .i64 0, .int .i64 0, .int .i64 0, .slice none 0 0, .int .i64 0, .slice none 0 0, .slice none 0 0, .slice none 0 0] : Array Value) 46)).setRow wq.heap.size #[.bool n0, .int .i64 n1, .int .i64 n2, .int .i64 n3, .int .i64 n4, .int .i64 n5, .int .i64 n6, .int .i64 n7, .int .i64 n8, .int .i64 n9, .int .i64 n10, .int .i64 n11, .string n12, .string n13, .int .i64 n14, .int .i64 n15, .int .i64 n16, .int .i64 n17, .slice b18 d18 f18, .int .i64 n19, .slice b20 d20 f20, .slice b21 d21 f21, .slice b22 d22 f22]) = wS1 at *
    refine (putG _ _ _ HRq.out).mono ?_
    rintro e wp1 hP
    obtain ⟨_, u2, he, ho, hb⟩ := hP.resolve_right (fun k => k.1 HG.out)
    rw [he.out]
    clear he hP
    obtain ⟨a2, c2, hv⟩ := ho.slice
    subst hv
    have HU2 := Lib.hid (ho.bt (by have := HL2.out; omega))
    clear ho
    have HX1' := Lib.hid ((hb.block _ (Array.getElem?_eq_some_iff.1 HX1.out).1).trans HX1.out)
    have HX0' := Lib.hid ((hb.block _ (Array.getElem?_eq_some_iff.1 HX0.out).1).trans HX0.out)
    have HB' := Lib.hid (HB.out.trans (hb.mono HB.out.size))
    have HM0' := Lib.hid (HM0.out.on hb)
    have HR1' := Lib.hid (HR1.out.on hb)
    have HU1' := Lib.hid (HU1.out.below hb)
    have HXq' := Lib.hid ((hb.block _ (Array.getElem?_eq_some_iff.1 HXq.out).1).trans HXq.out)
    have HRq' := Lib.hid (HRq.out.on hb)
    clear hb HX1 HX0 HB HM0 HR1 HU1 HXq HRq
    have HX1 := HX1'
    have HX0 := HX0'
    have HB := HB'
    have HM0 := HM0'
    have HR1 := HR1'
    have HU1 := HU1'
    have HXq := HXq'
    have HRq := HRq'
    clear HX1' HX0' HB' HM0' HR1' HU1' HXq' HRq'
    have k1 := bt_str HU1.out
    have k2 := bt_str HU2.out
    have kq : Bk _ wq.heap.size 46 [.bool n0, .int .i64 n1, .int .i64 n2, .int .i64 n3, .int .i64 n4, .int .i64 n5, .int .i64 n6, .int .i64 n7, .int .i64 n8, .int .i64 n9, .int .i64 n10, .int .i64 n11, .string n12, .string n13, .int .i64 n14, .int .i64 n15, .int .i64 n16, .int .i64 n17, .slice b18 d18 f18, .int .i64 n19, .slice b20 d20 f20, .slice b21 d21 f21, .slice b22 d22 f22] := HXq.out
    have kr : Bk _ w.heap.size 46 [.bool n0, .int .i64 n1, .int .i64 n2, .int .i64 n3, .int .i64 n4, .int .i64 n5, .int .i64 n6, .int .i64 n7, .int .i64 n8, .int .i64 n9, .int .i64 n10, .int .i64 n11, .string n12, .string n13, .int .i64 n14, .int .i64 n15, .int .i64 n16, .int .i64 n17, .slice a18 m18 p18, .int .i64 n19, .slice a20 m20 p20, .slice a21 m21 p21, .slice a22 m22 p22] := HX1.out
    have i0 := kq.cell 0
    have i1 := kq.cell 1
    have i2 := kq.cell 2
    have i3 := kq.cell 3
    have j0 := kr.cell 0
    have j1 := kr.cell 1
    have j2 := kr.cell 2
    have j3 := kr.cell 3
    simp only [List.getElem?_cons_zero, List.getElem?_cons_succ] at i0 i1 i2 i3 j0 j1 j2 j3
    obtain ⟨e1, g1⟩ := neII n1 n2 n3
    have hnn : (n0 != n0) = false := by simp
    clear kq kr
    go_wp2_with (first | refine wpList_load_rowG rfl _ _ rfl (w.heap.size) rfl 46 #[.bool n0, .int .i64 n1, .int .i64 n2, .int .i64 n3, .int .i64 n4, .int .i64 n5, .int .i64 n6, .int .i64 n7, .int .i64 n8, .int .i64 n9, .int .i64 n10, .int .i64 n11, .string n12, .string n13, .int .i64 n14, .int .i64 n15, .int .i64 n16, .int .i64 n17, .slice a18 m18 p18, .int .i64 n19, .slice a20 m20 p20, .slice a21 m21 p21, .slice a22 m22 p22] (0, 0) _ HX1.out Try.underlying46 rfl HI1.out ?_ | refine wpList_load_rowG rfl _ _ rfl (w.heap.size + 1) rfl 44 cs0 (0, 0) _ HX0.out Try.underlying44 rfl HI0.out ?_ | refine wpList_bytes_g (o := ⟨some 89, _, _, _, _, _⟩) rfl 9 49 _ rfl 5 Try.underlying9 Try.underlying49 Try.underlying5 _ rfl (by omega) ?_ | fail)
    intro v9 w9 hT hz9 hb
    have HT9 := Lib.hid hT
    clear hT hz9
    have HX1' := Lib.hid ((hb.block _ (Array.getElem?_eq_some_iff.1 HX1.out).1).trans HX1.out)
    have HX0' := Lib.hid ((hb.block _ (Array.getElem?_eq_some_iff.1 HX0.out).1).trans HX0.out)
    have HB' := Lib.hid (HB.out.trans (hb.mono HB.out.size))
    have HM0' := Lib.hid (HM0.out.on hb)
    have HR1' := Lib.hid (HR1.out.on hb)
    clear hb HX1 HX0 HB HM0 HR1
    have HX1 := HX1'
    have HX0 := HX0'
    have HB := HB'
    have HM0 := HM0'
    have HR1 := HR1'
    clear HX1' HX0' HB' HM0' HR1'
    go_wp2_with (first | refine wpList_load_rowG rfl _ _ rfl (w.heap.size) rfl 46 #[.bool n0, .int .i64 n1, .int .i64 n2, .int .i64 n3, .int .i64 n4, .int .i64 n5, .int .i64 n6, .int .i64 n7, .int .i64 n8, .int .i64 n9, .int .i64 n10, .int .i64 n11, .string n12, .string n13, .int .i64 n14, .int .i64 n15, .int .i64 n16, .int .i64 n17, .slice a18 m18 p18, .int .i64 n19, .slice a20 m20 p20, .slice a21 m21 p21, .slice a22 m22 p22] (0, 0) _ HX1.out Try.underlying46 rfl HI1.out ?_ | refine wpList_load_rowG rfl _ _ rfl (w.heap.size + 1) rfl 44 cs0 (0, 0) _ HX0.out Try.underlying44 rfl HI0.out ?_ | fail)
    refine (get_any _ (byt s) _ HT9.out (byt_range s) (by rw [byt_length]; have := HS3.out; omega)).mono ?_
    rintro e wg ⟨u, he, hb, hm⟩
    have HM := Lib.hid hm
    clear hm
    rcases HM.out with ⟨qe, hm⟩ | ⟨qe, hu⟩
    · rw [qe] at he
      rw [he.out]
      have HQE := Lib.hid (rcRd_good (byt_range s) qe)
      obtain ⟨csg, hv, hsg⟩ := hm wg (fun _ _ _ => rfl)
      subst hv
      have hone := rc_one hsg
      have HIg : Hid ((Try.prog.info? 46).map (·.size) = some csg.size) := Lib.hid (by rw [rc_size hsg]; kernel_rfl)
      have HZg : Hid (((#[.bool false, .int .i64 0, .int .i64 0, .int .i64 0, .int .i64 0, .int .i64 0, .int .i64 0, .int .i64 0, .int .i64 0, .int .i64 0, .int .i64 0, .int .i64 0, .string ⟨#[]⟩, .string ⟨#[]⟩, .int .i64 0, .int .i64 0, .int .i64 0, .int .i64 0, .slice none 0 0, .int .i64 0, .slice none 0 0, .slice none 0 0, .slice none 0 0] : Array Value)).size = csg.size) := Lib.hid (by rw [rc_size hsg]; rfl)
      have HOg := Lib.hid hone
      have HAg := Lib.hid (bka_new wg 46 (#[.bool false, .int .i64 0, .int .i64 0, .int .i64 0, .int .i64 0, .int .i64 0, .int .i64 0, .int .i64 0, .int .i64 0, .int .i64 0, .int .i64 0, .int .i64 0, .string ⟨#[]⟩, .string ⟨#[]⟩, .int .i64 0, .int .i64 0, .int .i64 0, .int .i64 0, .slice none 0 0, .int .i64 0, .slice none 0 0, .slice none 0 0, .slice none 0 0] : Array Value))
      have HXg := Lib.hid (box_row wg 46 (#[.bool false, .int .i64 0, .int .i64 0, .int .i64 0, .int .i64 0, .int .i64 0, .int .i64 0, .int .i64 0, .int .i64 0, .int .i64 0, .int .i64 0, .int .i64 0, .string ⟨#[]⟩, .string ⟨#[]⟩, .int .i64 0, .int .i64 0, .int .i64 0, .int .i64 0, .slice none 0 0, .int .i64 0, .slice none 0 0, .slice none 0 0, .slice none 0 0] : Array Value) csg)
      have HRg := Lib.hid (hm ((wg.alloc (.cells (#[.bool false, .int .i64 0, .int .i64 0, .int .i64 0, .int .i64 0, .int .i64 0, .int .i64 0, .int .i64 0, .int .i64 0, .int .i64 0, .int .i64 0, .int .i64 0, .string ⟨#[]⟩, .string ⟨#[]⟩, .int .i64 0, .int .i64 0, .int .i64 0, .int .i64 0, .slice none 0 0, .int .i64 0, .slice none 0 0, .slice none 0 0, .slice none 0 0] : Array Value) 46)).setRow wg.heap.size csg) (fun j _ hj => (box_below wg 46 (#[.bool false, .int .i64 0, .int .i64 0, .int .i64 0, .int .i64 0, .int .i64 0, .int .i64 0, .int .i64 0, .int .i64 0, .int .i64 0, .int .i64 0, .int .i64 0, .string ⟨#[]⟩, .string ⟨#[]⟩, .int .i64 0, .int .i64 0, .int .i64 0, .int .i64 0, .slice none 0 0, .int .i64 0, .slice none 0 0, .slice none 0 0, .slice none 0 0] : Array Value) csg).block j hj))
      have hb := hb.trans ((box_below wg 46 (#[.bool false, .int .i64 0, .int .i64 0, .int .i64 0, .int .i64 0, .int .i64 0, .int .i64 0, .int .i64 0, .int .i64 0, .int .i64 0, .int .i64 0, .int .i64 0, .string ⟨#[]⟩, .string ⟨#[]⟩, .int .i64 0, .int .i64 0, .int .i64 0, .int .i64 0, .slice none 0 0, .int .i64 0, .slice none 0 0, .slice none 0 0, .slice none 0 0] : Array Value) csg).mono hb.size)
      clear he HM qe hm hsg hone
      have HX1' := Lib.hid ((hb.block _ (Array.getElem?_eq_some_iff.1 HX1.out).1).trans HX1.out)
      have HX0' := Lib.hid ((hb.block _ (Array.getElem?_eq_some_iff.1 HX0.out).1).trans HX0.out)
      have HB' := Lib.hid (HB.out.trans (hb.mono HB.out.size))
      have HM0' := Lib.hid (HM0.out.on hb)
      have HR1' := Lib.hid (HR1.out.on hb)
      have HT9' := Lib.hid (HT9.out.below hb)
      clear hb HX1 HX0 HB HM0 HR1 HT9
      have HX1 := HX1'
      have HX0 := HX0'
      have HB := HB'
      have HM0 := HM0'
      have HR1 := HR1'
      have HT9 := HT9'
      clear HX1' HX0' HB' HM0' HR1' HT9'
      go_wp2_with (first | refine wpList_store_row rfl 46 _ _ rfl wg.heap.size rfl csg rfl (#[.bool false, .int .i64 0, .int .i64 0, .int .i64 0, .int .i64 0, .int .i64 0, .int .i64 0, .int .i64 0, .int .i64 0, .int .i64 0, .int .i64 0, .int .i64 0, .string ⟨#[]⟩, .string ⟨#[]⟩, .int .i64 0, .int .i64 0, .int .i64 0, .int .i64 0, .slice none 0 0, .int .i64 0, .slice none 0 0, .slice none 0 0, .slice none 0 0] : Array Value) 46 HAg.out HIg.out HZg.out HOg.out ?_ | refine wpList_load_rowG rfl _ _ rfl (w.heap.size) rfl 46 #[.bool n0, .int .i64 n1, .int .i64 n2, .int .i64 n3, .int .i64 n4, .int .i64 n5, .int .i64 n6, .int .i64 n7, .int .i64 n8, .int .i64 n9, .int .i64 n10, .int .i64 n11, .string n12, .string n13, .int .i64 n14, .int .i64 n15, .int .i64 n16, .int .i64 n17, .slice a18 m18 p18, .int .i64 n19, .slice a20 m20 p20, .slice a21 m21 p21, .slice a22 m22 p22] (0, 0) _ HX1.out Try.underlying46 rfl HI1.out ?_ | refine wpList_load_rowG rfl _ _ rfl (w.heap.size + 1) rfl 44 cs0 (0, 0) _ HX0.out Try.underlying44 rfl HI0.out ?_ | refine wpList_load_rowG rfl _ _ rfl (wg.heap.size) rfl 46 csg (0, 0) _ HXg.out Try.underlying46 rfl HIg.out ?_ | fail)
      generalize ((wg.alloc (.cells (#[.bool false, .int .i64 0, .int .i64 0, .int .i64 0, .int .i64 0, .int .i64 0, .int .i64 0, .int .i64 0, .int .i64 0, .int .i64 0, .int .i64 0, .int .i64 0, .string ⟨#[]⟩, .string ⟨#[]⟩, .int .i64 0, .int .i64 0, .int .i64 0, .int .i64 0, .slice none 0 0, .int .i64 0, .slice none 0 0, .slice none 0 0, .slice none 0 0] : Array Value) 46)).setRow wg.heap.size csg) = wS2 at *
      refine (putG _ _ _ HRg.out).mono ?_
      rintro e wp2 hP
      obtain ⟨_, u2, he, ho, hb⟩ := hP.resolve_right (fun k => k.1 HQE.out.1)
      rw [he.out]
      clear he hP
      rw [HQE.out.2] at ho
      obtain ⟨aq, cq, hv⟩ := ho.slice
      subst hv
      have h1 := bt_str (ho.bt (by rw [byt_length]; have := HS3.out; omega))
      rw [txt_byt] at h1
      clear ho
      have HX1' := Lib.hid ((hb.block _ (Array.getElem?_eq_some_iff.1 HX1.out).1).trans HX1.out)
      have HX0' := Lib.hid ((hb.block _ (Array.getElem?_eq_some_iff.1 HX0.out).1).trans HX0.out)
      have HB' := Lib.hid (HB.out.trans (hb.mono HB.out.size))
      have HM0' := Lib.hid (HM0.out.on hb)
      have HR1' := Lib.hid (HR1.out.on hb)
      have HT9' := Lib.hid (HT9.out.below hb)
      have HXg' := Lib.hid ((hb.block _ (Array.getElem?_eq_some_iff.1 HXg.out).1).trans HXg.out)
      have HRg' := Lib.hid (HRg.out.on hb)
      clear hb HX1 HX0 HB HM0 HR1 HT9 HXg HRg
      have HX1 := HX1'
      have HX0 := HX0'
      have HB := HB'
      have HM0 := HM0'
      have HR1 := HR1'
      have HT9 := HT9'
      have HXg := HXg'
      have HRg := HRg'
      clear HX1' HX0' HB' HM0' HR1' HT9' HXg' HRg'
      go_wp2_with (first | refine wpList_load_rowG rfl _ _ rfl (w.heap.size) rfl 46 #[.bool n0, .int .i64 n1, .int .i64 n2, .int .i64 n3, .int .i64 n4, .int .i64 n5, .int .i64 n6, .int .i64 n7, .int .i64 n8, .int .i64 n9, .int .i64 n10, .int .i64 n11, .string n12, .string n13, .int .i64 n14, .int .i64 n15, .int .i64 n16, .int .i64 n17, .slice a18 m18 p18, .int .i64 n19, .slice a20 m20 p20, .slice a21 m21 p21, .slice a22 m22 p22] (0, 0) _ HX1.out Try.underlying46 rfl HI1.out ?_ | refine wpList_load_rowG rfl _ _ rfl (w.heap.size + 1) rfl 44 cs0 (0, 0) _ HX0.out Try.underlying44 rfl HI0.out ?_ | refine wpList_load_rowG rfl _ _ rfl (wg.heap.size) rfl 46 csg (0, 0) _ HXg.out Try.underlying46 rfl HIg.out ?_ | fail)
      refine (frame_any _ x0 _ HM0.out).mono ?_
      rintro e wv hP
      by_cases qm : Oks (msC.fs x0)
      · obtain ⟨_, hl, t0, he, ho, hb⟩ := hP.resolve_right (fun h => h.elim (fun k => k.2.1 (by have := few_len qm (HF0.out (by first | rfl | trivial)); omega)) (fun k => k.1 qm))
        rw [he.out]
        clear he hP
        obtain ⟨ar, cr, hv, _⟩ := ho.row
        subst hv
        have HT0 := Lib.hid ho
        have HQ := Lib.hid qm
        have HLq := Lib.hid hl
        clear ho qm hl
        have HX1' := Lib.hid ((hb.block _ (Array.getElem?_eq_some_iff.1 HX1.out).1).trans HX1.out)
        have HX0' := Lib.hid ((hb.block _ (Array.getElem?_eq_some_iff.1 HX0.out).1).trans HX0.out)
        have HB' := Lib.hid (HB.out.trans (hb.mono HB.out.size))
        have HM0' := Lib.hid (HM0.out.on hb)
        have HR1' := Lib.hid (HR1.out.on hb)
        have HT9' := Lib.hid (HT9.out.below hb)
        have HXg' := Lib.hid ((hb.block _ (Array.getElem?_eq_some_iff.1 HXg.out).1).trans HXg.out)
        have HRg' := Lib.hid (HRg.out.on hb)
        clear hb HX1 HX0 HB HM0 HR1 HT9 HXg HRg
        have HX1 := HX1'
        have HX0 := HX0'
        have HB := HB'
        have HM0 := HM0'
        have HR1 := HR1'
        have HT9 := HT9'
        have HXg := HXg'
        have HRg := HRg'
        clear HX1' HX0' HB' HM0' HR1' HT9' HXg' HRg'
        go_wp2_with (first | refine wpList_load_rowG rfl _ _ rfl (w.heap.size) rfl 46 #[.bool n0, .int .i64 n1, .int .i64 n2, .int .i64 n3, .int .i64 n4, .int .i64 n5, .int .i64 n6, .int .i64 n7, .int .i64 n8, .int .i64 n9, .int .i64 n10, .int .i64 n11, .string n12, .string n13, .int .i64 n14, .int .i64 n15, .int .i64 n16, .int .i64 n17, .slice a18 m18 p18, .int .i64 n19, .slice a20 m20 p20, .slice a21 m21 p21, .slice a22 m22 p22] (0, 0) _ HX1.out Try.underlying46 rfl HI1.out ?_ | refine wpList_load_rowG rfl _ _ rfl (w.heap.size + 1) rfl 44 cs0 (0, 0) _ HX0.out Try.underlying44 rfl HI0.out ?_ | refine wpList_load_rowG rfl _ _ rfl (wg.heap.size) rfl 46 csg (0, 0) _ HXg.out Try.underlying46 rfl HIg.out ?_ | fail)
        refine (ro_msg _ x0 _ HM0.out HZ0.out).mono ?_
        rintro e wA ⟨hb, hq⟩
        obtain ⟨_, he⟩ := hq.resolve_right (fun k => k.1 HQ.out)
        rw [he.out]
        clear he hq
        have HX1' := Lib.hid ((hb.block _ (Array.getElem?_eq_some_iff.1 HX1.out).1).trans HX1.out)
        have HX0' := Lib.hid ((hb.block _ (Array.getElem?_eq_some_iff.1 HX0.out).1).trans HX0.out)
        have HB' := Lib.hid (HB.out.trans (hb.mono HB.out.size))
        have HM0' := Lib.hid (HM0.out.on hb)
        have HR1' := Lib.hid (HR1.out.on hb)
        have HT9' := Lib.hid (HT9.out.below hb)
        have HXg' := Lib.hid ((hb.block _ (Array.getElem?_eq_some_iff.1 HXg.out).1).trans HXg.out)
        have HRg' := Lib.hid (HRg.out.on hb)
        have HT0' := Lib.hid (HT0.out.below hb)
        clear hb HX1 HX0 HB HM0 HR1 HT9 HXg HRg HT0
        have HX1 := HX1'
        have HX0 := HX0'
        have HB := HB'
        have HM0 := HM0'
        have HR1 := HR1'
        have HT9 := HT9'
        have HXg := HXg'
        have HRg := HRg'
        have HT0 := HT0'
        clear HX1' HX0' HB' HM0' HR1' HT9' HXg' HRg' HT0'
        have HCP : Hid (∀ W, Calls Try.prog 24 #[.string (txt (eF (msC.fs x0)))] W fun e w' => e = .returned (.string (txt (frm (eF (msC.fs x0))))) ∧ Below W.heap.size W w') := Lib.hid (fun W => by
          have h := rputC (txt (eF (msC.fs x0))) W (by rw [txt_size]; exact HLq.out)
          rw [byt_txt (eF_byte HQ.out)] at h
          exact h)
        go_upto_region 21 with fail
        refine wp_region_held_drew (S := fun w' => Below wA.heap.size wA w') (by kernel_rfl) ?_ (fun hHeld => ?_)
        · (first | exact Below.refl _ _ | exact (Below.refl _ _).drew | assumption | exact below_self (by assumption) (by assumption))
        refine wpAnyH_take (i := 0) (v := ?_) rfl (by kernel_rfl) (by kernel_rfl) (by kernel_rfl) (fun _ _ _ h => h) (Or.inl ⟨by rfl, ?_⟩) (by assumption) ?_
        rotate_left
        · (intro w hSw; (try dsimp only at hSw); go_simp; try rfl)
        try simp only [Act.put, List.setIfInBounds_toArray, List.set_cons_zero, List.set_cons_succ, List.getElem_toArray, List.getElem_cons_zero, List.getElem_cons_succ]
        refine wpAnyH_take (i := 1) (v := ?_) rfl (by kernel_rfl) (by kernel_rfl) (by kernel_rfl) (fun _ _ _ h => h) (Or.inl ⟨by rfl, ?_⟩) (by assumption) ?_
        rotate_left
        · (intro w hSw; (try dsimp only at hSw); go_simp; try rfl)
        try simp only [Act.put, List.setIfInBounds_toArray, List.set_cons_zero, List.set_cons_succ, List.getElem_toArray, List.getElem_cons_zero, List.getElem_cons_succ]
        refine wpAnyH_take (i := 2) (v := ?_) rfl (by kernel_rfl) (by kernel_rfl) (by kernel_rfl) (fun _ _ _ h => h) (Or.inl ⟨by rfl, ?_⟩) (by assumption) ?_
        rotate_left
        · (intro w hSw; (try dsimp only at hSw); go_simp; try rfl)
        try simp only [Act.put, List.setIfInBounds_toArray, List.set_cons_zero, List.set_cons_succ, List.getElem_toArray, List.getElem_cons_zero, List.getElem_cons_succ]
        refine wpAnyH_take (i := 3) (v := ?_) rfl (by kernel_rfl) (by kernel_rfl) (by kernel_rfl) (fun _ _ _ h => h) (Or.inl ⟨by rfl, ?_⟩) (by assumption) ?_
        rotate_left
        · (intro w hSw; (try dsimp only at hSw); go_simp; try rfl)
        try simp only [Act.put, List.setIfInBounds_toArray, List.set_cons_zero, List.set_cons_succ, List.getElem_toArray, List.getElem_cons_zero, List.getElem_cons_succ]
        refine wpAnyH_take (i := 4) (v := ?_) rfl (by kernel_rfl) (by kernel_rfl) (by kernel_rfl) (fun _ _ _ h => h) (Or.inl ⟨by rfl, ?_⟩) (by assumption) ?_
        rotate_left
        · (intro w hSw; (try dsimp only at hSw); go_simp; try rfl)
        try simp only [Act.put, List.setIfInBounds_toArray, List.set_cons_zero, List.set_cons_succ, List.getElem_toArray, List.getElem_cons_zero, List.getElem_cons_succ]
        refine wpAnyH_take (i := 5) (v := ?_) rfl (by kernel_rfl) (by kernel_rfl) (by kernel_rfl) (fun _ _ _ h => h) (Or.inl ⟨by rfl, ?_⟩) (by assumption) ?_
        rotate_left
        · (intro w hSw; (try dsimp only at hSw); go_simp; try rfl)
        try simp only [Act.put, List.setIfInBounds_toArray, List.set_cons_zero, List.set_cons_succ, List.getElem_toArray, List.getElem_cons_zero, List.getElem_cons_succ]
        refine wpAnyH_take (i := 6) (v := ?_) rfl (by kernel_rfl) (by kernel_rfl) (by kernel_rfl) (fun _ _ _ h => h) (Or.inl ⟨by rfl, ?_⟩) (by assumption) ?_
        rotate_left
        · (intro w hSw; (try dsimp only at hSw); go_simp; try rfl)
        try simp only [Act.put, List.setIfInBounds_toArray, List.set_cons_zero, List.set_cons_succ, List.getElem_toArray, List.getElem_cons_zero, List.getElem_cons_succ]
        refine wpAnyH_take (i := 8) (v := ?_) rfl (by kernel_rfl) (by kernel_rfl) (by kernel_rfl) (fun _ _ _ h => h) (Or.inl ⟨by rfl, ?_⟩) (by assumption) ?_
        rotate_left
        · (intro w hSw; (try dsimp only at hSw); go_simp; try rfl)
        try simp only [Act.put, List.setIfInBounds_toArray, List.set_cons_zero, List.set_cons_succ, List.getElem_toArray, List.getElem_cons_zero, List.getElem_cons_succ]
        refine wpAnyH_ready (rs := [7, 9]) (by kernel_rfl) (by simp) ?_
        refine (AllReadyH.cons rfl (fun K hK => ?_) (AllReadyH.cons rfl (fun K hK => ?_) AllReadyH.nil))
        ·
          refine step_text (by rfl) 49 9 _ rfl 5 Try.underlying49 Try.underlying5 Try.underlying9 _ (frm (eF (msC.fs x0))) rfl (HT0.out.below (by assumption)) ?_
          refine hK.out _ _ ?_ (fun hHeld => ?_)
          · (first | exact Below.refl _ _ | exact (Below.refl _ _).drew | assumption | exact below_self (by assumption) (by assumption))
          clear hK K
          try simp only [Act.put, List.setIfInBounds_toArray, List.set_cons_zero, List.set_cons_succ, List.getElem_toArray, List.getElem_cons_zero, List.getElem_cons_succ]
          refine wpAnyH_ready (rs := [9]) (by kernel_rfl) (by simp) ?_
          refine (AllReadyH.cons rfl (fun K hK => ?_) AllReadyH.nil)
          go_simp
          (go_at_call 24; refine (HCP.out _).mono ?_; rintro e y ⟨rfl, hy⟩; have hy := below_self (by assumption) hy)
          refine hK.out _ _ ?_ (fun hHeld => ?_)
          · (first | exact Below.refl _ _ | exact (Below.refl _ _).drew | assumption | exact below_self (by assumption) (by assumption))
          clear hK K
          try simp only [Act.put, List.setIfInBounds_toArray, List.set_cons_zero, List.set_cons_succ, List.getElem_toArray, List.getElem_cons_zero, List.getElem_cons_succ]
          refine wpAnyH_take (i := 10) (v := ?_) rfl (by kernel_rfl) (by kernel_rfl) (by kernel_rfl) (fun _ _ _ h => h) (Or.inl ⟨by rfl, ?_⟩) (by assumption) ?_
          rotate_left
          · (intro w hSw; (try dsimp only at hSw); go_simp; try rfl)
          try simp only [Act.put, List.setIfInBounds_toArray, List.set_cons_zero, List.set_cons_succ, List.getElem_toArray, List.getElem_cons_zero, List.getElem_cons_succ]
          refine wpAnyH_take (i := 11) (v := ?_) rfl (by kernel_rfl) (by kernel_rfl) (by kernel_rfl) (fun _ _ _ h => h) (Or.inl ⟨by rfl, ?_⟩) (by assumption) ?_
          rotate_left
          · (intro w hSw; (try dsimp only at hSw); go_simp; try rfl)
          try simp only [Act.put, List.setIfInBounds_toArray, List.set_cons_zero, List.set_cons_succ, List.getElem_toArray, List.getElem_cons_zero, List.getElem_cons_succ]
          refine wpAnyH_take (i := 12) (v := ?_) rfl (by kernel_rfl) (by kernel_rfl) (by kernel_rfl) (fun _ _ _ h => h) (Or.inl ⟨by rfl, ?_⟩) (by assumption) ?_
          rotate_left
          · (intro w hSw; (try dsimp only at hSw); go_simp; try rfl)
          try simp only [Act.put, List.setIfInBounds_toArray, List.set_cons_zero, List.set_cons_succ, List.getElem_toArray, List.getElem_cons_zero, List.getElem_cons_succ]
          refine wpAnyH_done (by kernel_rfl) ?_ _
          go_wp2_with fail
          go_ret
          exact ⟨by simp, HB.out.trans ((by assumption : Below wA.heap.size wA _).mono HB.out.size)⟩
        ·
          go_simp
          (go_at_call 24; refine (HCP.out _).mono ?_; rintro e y ⟨rfl, hy⟩; have hy := below_self (by assumption) hy)
          refine hK.out _ _ ?_ (fun hHeld => ?_)
          · (first | exact Below.refl _ _ | exact (Below.refl _ _).drew | assumption | exact below_self (by assumption) (by assumption))
          clear hK K
          try simp only [Act.put, List.setIfInBounds_toArray, List.set_cons_zero, List.set_cons_succ, List.getElem_toArray, List.getElem_cons_zero, List.getElem_cons_succ]
          refine wpAnyH_ready (rs := [7]) (by kernel_rfl) (by simp) ?_
          refine (AllReadyH.cons rfl (fun K hK => ?_) AllReadyH.nil)
          refine step_text (by rfl) 49 9 _ rfl 5 Try.underlying49 Try.underlying5 Try.underlying9 _ (frm (eF (msC.fs x0))) rfl (HT0.out.below (by assumption)) ?_
          refine hK.out _ _ ?_ (fun hHeld => ?_)
          · (first | exact Below.refl _ _ | exact (Below.refl _ _).drew | assumption | exact below_self (by assumption) (by assumption))
          clear hK K
          try simp only [Act.put, List.setIfInBounds_toArray, List.set_cons_zero, List.set_cons_succ, List.getElem_toArray, List.getElem_cons_zero, List.getElem_cons_succ]
          refine wpAnyH_take (i := 10) (v := ?_) rfl (by kernel_rfl) (by kernel_rfl) (by kernel_rfl) (fun _ _ _ h => h) (Or.inl ⟨by rfl, ?_⟩) (by assumption) ?_
          rotate_left
          · (intro w hSw; (try dsimp only at hSw); go_simp; try rfl)
          try simp only [Act.put, List.setIfInBounds_toArray, List.set_cons_zero, List.set_cons_succ, List.getElem_toArray, List.getElem_cons_zero, List.getElem_cons_succ]
          refine wpAnyH_take (i := 11) (v := ?_) rfl (by kernel_rfl) (by kernel_rfl) (by kernel_rfl) (fun _ _ _ h => h) (Or.inl ⟨by rfl, ?_⟩) (by assumption) ?_
          rotate_left
          · (intro w hSw; (try dsimp only at hSw); go_simp; try rfl)
          try simp only [Act.put, List.setIfInBounds_toArray, List.set_cons_zero, List.set_cons_succ, List.getElem_toArray, List.getElem_cons_zero, List.getElem_cons_succ]
          refine wpAnyH_take (i := 12) (v := ?_) rfl (by kernel_rfl) (by kernel_rfl) (by kernel_rfl) (fun _ _ _ h => h) (Or.inl ⟨by rfl, ?_⟩) (by assumption) ?_
          rotate_left
          · (intro w hSw; (try dsimp only at hSw); go_simp; try rfl)
          try simp only [Act.put, List.setIfInBounds_toArray, List.set_cons_zero, List.set_cons_succ, List.getElem_toArray, List.getElem_cons_zero, List.getElem_cons_succ]
          refine wpAnyH_done (by kernel_rfl) ?_ _
          go_wp2_with fail
          go_ret
          exact ⟨by simp, HB.out.trans ((by assumption : Below wA.heap.size wA _).mono HB.out.size)⟩
      · obtain ⟨_, he, hb⟩ := (hP.resolve_left (fun h => qm h.1)).resolve_left (fun h => qm h.1)
        rw [he.out]
        clear he hP
        have HQ := Lib.hid qm
        clear qm
        have HX1' := Lib.hid ((hb.block _ (Array.getElem?_eq_some_iff.1 HX1.out).1).trans HX1.out)
        have HX0' := Lib.hid ((hb.block _ (Array.getElem?_eq_some_iff.1 HX0.out).1).trans HX0.out)
        have HB' := Lib.hid (HB.out.trans (hb.mono HB.out.size))
        have HM0' := Lib.hid (HM0.out.on hb)
        have HR1' := Lib.hid (HR1.out.on hb)
        have HT9' := Lib.hid (HT9.out.below hb)
        have HXg' := Lib.hid ((hb.block _ (Array.getElem?_eq_some_iff.1 HXg.out).1).trans HXg.out)
        have HRg' := Lib.hid (HRg.out.on hb)
        clear hb HX1 HX0 HB HM0 HR1 HT9 HXg HRg
        have HX1 := HX1'
        have HX0 := HX0'
        have HB := HB'
        have HM0 := HM0'
        have HR1 := HR1'
        have HT9 := HT9'
        have HXg := HXg'
        have HRg := HRg'
        clear HX1' HX0' HB' HM0' HR1' HT9' HXg' HRg'
        go_wp2_with (first | refine wpList_load_rowG rfl _ _ rfl (w.heap.size) rfl 46 #[.bool n0, .int .i64 n1, .int .i64 n2, .int .i64 n3, .int .i64 n4, .int .i64 n5, .int .i64 n6, .int .i64 n7, .int .i64 n8, .int .i64 n9, .int .i64 n10, .int .i64 n11, .string n12, .string n13, .int .i64 n14, .int .i64 n15, .int .i64 n16, .int .i64 n17, .slice a18 m18 p18, .int .i64 n19, .slice a20 m20 p20, .slice a21 m21 p21, .slice a22 m22 p22] (0, 0) _ HX1.out Try.underlying46 rfl HI1.out ?_ | refine wpList_load_rowG rfl _ _ rfl (w.heap.size + 1) rfl 44 cs0 (0, 0) _ HX0.out Try.underlying44 rfl HI0.out ?_ | refine wpList_load_rowG rfl _ _ rfl (wg.heap.size) rfl 46 csg (0, 0) _ HXg.out Try.underlying46 rfl HIg.out ?_ | fail)
        refine (ro_msg _ x0 _ HM0.out HZ0.out).mono ?_
        rintro e wA ⟨hb, hq⟩
        obtain ⟨_, he⟩ := hq.resolve_left (fun k => HQ.out k.1)
        rw [he.out]
        clear he hq
        have HX1' := Lib.hid ((hb.block _ (Array.getElem?_eq_some_iff.1 HX1.out).1).trans HX1.out)
        have HX0' := Lib.hid ((hb.block _ (Array.getElem?_eq_some_iff.1 HX0.out).1).trans HX0.out)
        have HB' := Lib.hid (HB.out.trans (hb.mono HB.out.size))
        have HM0' := Lib.hid (HM0.out.on hb)
        have HR1' := Lib.hid (HR1.out.on hb)
        have HT9' := Lib.hid (HT9.out.below hb)
        have HXg' := Lib.hid ((hb.block _ (Array.getElem?_eq_some_iff.1 HXg.out).1).trans HXg.out)
        have HRg' := Lib.hid (HRg.out.on hb)
        clear hb HX1 HX0 HB HM0 HR1 HT9 HXg HRg
        have HX1 := HX1'
        have HX0 := HX0'
        have HB := HB'
        have HM0 := HM0'
        have HR1 := HR1'
        have HT9 := HT9'
        have HXg := HXg'
        have HRg := HRg'
        clear HX1' HX0' HB' HM0' HR1' HT9' HXg' HRg'
        go_wp2_with fail
        go_ret
        exact ⟨rfl, HB.out⟩
    · subst hu
      obtain ⟨er, her⟩ : ∃ er, endE (rcRd (byt s, 0)).2 = er := ⟨_, rfl⟩
      rw [her] at he qe
      rw [he.out]
      have t6 : (er == 0) = false := beq_eq_false_iff_ne.2 qe
      have t7 : (er != 0) = true := by simpa using qe
      clear he HM her qe
      have HAg := Lib.hid (bka_new wg 46 (#[.bool false, .int .i64 0, .int .i64 0, .int .i64 0, .int .i64 0, .int .i64 0, .int .i64 0, .int .i64 0, .int .i64 0, .int .i64 0, .int .i64 0, .int .i64 0, .string ⟨#[]⟩, .string ⟨#[]⟩, .int .i64 0, .int .i64 0, .int .i64 0, .int .i64 0, .slice none 0 0, .int .i64 0, .slice none 0 0, .slice none 0 0, .slice none 0 0] : Array Value))
      have hb := hb.trans ((box_below wg 46 (#[.bool false, .int .i64 0, .int .i64 0, .int .i64 0, .int .i64 0, .int .i64 0, .int .i64 0, .int .i64 0, .int .i64 0, .int .i64 0, .int .i64 0, .int .i64 0, .string ⟨#[]⟩, .string ⟨#[]⟩, .int .i64 0, .int .i64 0, .int .i64 0, .int .i64 0, .slice none 0 0, .int .i64 0, .slice none 0 0, .slice none 0 0, .slice none 0 0] : Array Value) (#[.bool false, .int .i64 0, .int .i64 0, .int .i64 0, .int .i64 0, .int .i64 0, .int .i64 0, .int .i64 0, .int .i64 0, .int .i64 0, .int .i64 0, .int .i64 0, .string ⟨#[]⟩, .string ⟨#[]⟩, .int .i64 0, .int .i64 0, .int .i64 0, .int .i64 0, .slice none 0 0, .int .i64 0, .slice none 0 0, .slice none 0 0, .slice none 0 0] : Array Value)).mono hb.size)
      have HX1' := Lib.hid ((hb.block _ (Array.getElem?_eq_some_iff.1 HX1.out).1).trans HX1.out)
      have HX0' := Lib.hid ((hb.block _ (Array.getElem?_eq_some_iff.1 HX0.out).1).trans HX0.out)
      have HB' := Lib.hid (HB.out.trans (hb.mono HB.out.size))
      have HM0' := Lib.hid (HM0.out.on hb)
      have HR1' := Lib.hid (HR1.out.on hb)
      have HT9' := Lib.hid (HT9.out.below hb)
      clear hb HX1 HX0 HB HM0 HR1 HT9
      have HX1 := HX1'
      have HX0 := HX0'
      have HB := HB'
      have HM0 := HM0'
      have HR1 := HR1'
      have HT9 := HT9'
      clear HX1' HX0' HB' HM0' HR1' HT9'
      go_wp2_with (first | refine wpList_store_row rfl 46 _ _ rfl wg.heap.size rfl (#[.bool false, .int .i64 0, .int .i64 0, .int .i64 0, .int .i64 0, .int .i64 0, .int .i64 0, .int .i64 0, .int .i64 0, .int .i64 0, .int .i64 0, .int .i64 0, .string ⟨#[]⟩, .string ⟨#[]⟩, .int .i64 0, .int .i64 0, .int .i64 0, .int .i64 0, .slice none 0 0, .int .i64 0, .slice none 0 0, .slice none 0 0, .slice none 0 0] : Array Value) rfl (#[.bool false, .int .i64 0, .int .i64 0, .int .i64 0, .int .i64 0, .int .i64 0, .int .i64 0, .int .i64 0, .int .i64 0, .int .i64 0, .int .i64 0, .int .i64 0, .string ⟨#[]⟩, .string ⟨#[]⟩, .int .i64 0, .int .i64 0, .int .i64 0, .int .i64 0, .slice none 0 0, .int .i64 0, .slice none 0 0, .slice none 0 0, .slice none 0 0] : Array Value) 46 HAg.out (by kernel_rfl) rfl (by rw [← Array.all_toList]; rfl) ?_ | refine wpList_load_rowG rfl _ _ rfl (w.heap.size) rfl 46 #[.bool n0, .int .i64 n1, .int .i64 n2, .int .i64 n3, .int .i64 n4, .int .i64 n5, .int .i64 n6, .int .i64 n7, .int .i64 n8, .int .i64 n9, .int .i64 n10, .int .i64 n11, .string n12, .string n13, .int .i64 n14, .int .i64 n15, .int .i64 n16, .int .i64 n17, .slice a18 m18 p18, .int .i64 n19, .slice a20 m20 p20, .slice a21 m21 p21, .slice a22 m22 p22] (0, 0) _ HX1.out Try.underlying46 rfl HI1.out ?_ | refine wpList_load_rowG rfl _ _ rfl (w.heap.size + 1) rfl 44 cs0 (0, 0) _ HX0.out Try.underlying44 rfl HI0.out ?_ | fail)
      generalize ((wg.alloc (.cells (#[.bool false, .int .i64 0, .int .i64 0, .int .i64 0, .int .i64 0, .int .i64 0, .int .i64 0, .int .i64 0, .int .i64 0, .int .i64 0, .int .i64 0, .int .i64 0, .string ⟨#[]⟩, .string ⟨#[]⟩, .int .i64 0, .int .i64 0, .int .i64 0, .int .i64 0, .slice none 0 0, .int .i64 0, .slice none 0 0, .slice none 0 0, .slice none 0 0] : Array Value) 46)).setRow wg.heap.size (#[.bool false, .int .i64 0, .int .i64 0, .int .i64 0, .int .i64 0, .int .i64 0, .int .i64 0, .int .i64 0, .int .i64 0, .int .i64 0, .int .i64 0, .int .i64 0, .string ⟨#[]⟩, .string ⟨#[]⟩, .int .i64 0, .int .i64 0, .int .i64 0, .int .i64 0, .slice none 0 0, .int .i64 0, .slice none 0 0, .slice none 0 0, .slice none 0 0] : Array Value)) = wS at *
      refine (frame_any _ x0 _ HM0.out).mono ?_
      rintro e wv hP
      by_cases qm : Oks (msC.fs x0)
      · obtain ⟨_, hl, t0, he, ho, hb⟩ := hP.resolve_right (fun h => h.elim (fun k => k.2.1 (by have := few_len qm (HF0.out (by first | rfl | trivial)); omega)) (fun k => k.1 qm))
        rw [he.out]
        clear he hP
        obtain ⟨ar, cr, hv, _⟩ := ho.row
        subst hv
        have HT0 := Lib.hid ho
        have HQ := Lib.hid qm
        have HLq := Lib.hid hl
        clear ho qm hl
        have HX1' := Lib.hid ((hb.block _ (Array.getElem?_eq_some_iff.1 HX1.out).1).trans HX1.out)
        have HX0' := Lib.hid ((hb.block _ (Array.getElem?_eq_some_iff.1 HX0.out).1).trans HX0.out)
        have HB' := Lib.hid (HB.out.trans (hb.mono HB.out.size))
        have HM0' := Lib.hid (HM0.out.on hb)
        have HR1' := Lib.hid (HR1.out.on hb)
        have HT9' := Lib.hid (HT9.out.below hb)
        clear hb HX1 HX0 HB HM0 HR1 HT9
        have HX1 := HX1'
        have HX0 := HX0'
        have HB := HB'
        have HM0 := HM0'
        have HR1 := HR1'
        have HT9 := HT9'
        clear HX1' HX0' HB' HM0' HR1' HT9'
        go_wp2_with (first | refine wpList_load_rowG rfl _ _ rfl (w.heap.size) rfl 46 #[.bool n0, .int .i64 n1, .int .i64 n2, .int .i64 n3, .int .i64 n4, .int .i64 n5, .int .i64 n6, .int .i64 n7, .int .i64 n8, .int .i64 n9, .int .i64 n10, .int .i64 n11, .string n12, .string n13, .int .i64 n14, .int .i64 n15, .int .i64 n16, .int .i64 n17, .slice a18 m18 p18, .int .i64 n19, .slice a20 m20 p20, .slice a21 m21 p21, .slice a22 m22 p22] (0, 0) _ HX1.out Try.underlying46 rfl HI1.out ?_ | refine wpList_load_rowG rfl _ _ rfl (w.heap.size + 1) rfl 44 cs0 (0, 0) _ HX0.out Try.underlying44 rfl HI0.out ?_ | fail)
        refine (ro_msg _ x0 _ HM0.out HZ0.out).mono ?_
        rintro e wA ⟨hb, hq⟩
        obtain ⟨_, he⟩ := hq.resolve_right (fun k => k.1 HQ.out)
        rw [he.out]
        clear he hq
        have HX1' := Lib.hid ((hb.block _ (Array.getElem?_eq_some_iff.1 HX1.out).1).trans HX1.out)
        have HX0' := Lib.hid ((hb.block _ (Array.getElem?_eq_some_iff.1 HX0.out).1).trans HX0.out)
        have HB' := Lib.hid (HB.out.trans (hb.mono HB.out.size))
        have HM0' := Lib.hid (HM0.out.on hb)
        have HR1' := Lib.hid (HR1.out.on hb)
        have HT9' := Lib.hid (HT9.out.below hb)
        have HT0' := Lib.hid (HT0.out.below hb)
        clear hb HX1 HX0 HB HM0 HR1 HT9 HT0
        have HX1 := HX1'
        have HX0 := HX0'
        have HB := HB'
        have HM0 := HM0'
        have HR1 := HR1'
        have HT9 := HT9'
        have HT0 := HT0'
        clear HX1' HX0' HB' HM0' HR1' HT9' HT0'
        have HCP : Hid (∀ W, Calls Try.prog 24 #[.string (txt (eF (msC.fs x0)))] W fun e w' => e = .returned (.string (txt (frm (eF (msC.fs x0))))) ∧ Below W.heap.size W w') := Lib.hid (fun W => by
          have h := rputC (txt (eF (msC.fs x0))) W (by rw [txt_size]; exact HLq.out)
          rw [byt_txt (eF_byte HQ.out)] at h
          exact h)
        go_upto_region 21 with fail
        refine wp_region_held_drew (S := fun w' => Below wA.heap.size wA w') (by kernel_rfl) ?_ (fun hHeld => ?_)
        · (first | exact Below.refl _ _ | exact (Below.refl _ _).drew | assumption | exact below_self (by assumption) (by assumption))
        refine wpAnyH_take (i := 0) (v := ?_) rfl (by kernel_rfl) (by kernel_rfl) (by kernel_rfl) (fun _ _ _ h => h) (Or.inl ⟨by rfl, ?_⟩) (by assumption) ?_
        rotate_left
        · (intro w hSw; (try dsimp only at hSw); go_simp; try rfl)
        try simp only [Act.put, List.setIfInBounds_toArray, List.set_cons_zero, List.set_cons_succ, List.getElem_toArray, List.getElem_cons_zero, List.getElem_cons_succ]
        refine wpAnyH_take (i := 1) (v := ?_) rfl (by kernel_rfl) (by kernel_rfl) (by kernel_rfl) (fun _ _ _ h => h) (Or.inl ⟨by rfl, ?_⟩) (by assumption) ?_
        rotate_left
        · (intro w hSw; (try dsimp only at hSw); go_simp; try rfl)
        try simp only [Act.put, List.setIfInBounds_toArray, List.set_cons_zero, List.set_cons_succ, List.getElem_toArray, List.getElem_cons_zero, List.getElem_cons_succ]
        refine wpAnyH_take (i := 2) (v := ?_) rfl (by kernel_rfl) (by kernel_rfl) (by kernel_rfl) (fun _ _ _ h => h) (Or.inl ⟨by rfl, ?_⟩) (by assumption) ?_
        rotate_left
        · (intro w hSw; (try dsimp only at hSw); go_simp; try rfl)
        try simp only [Act.put, List.setIfInBounds_toArray, List.set_cons_zero, List.set_cons_succ, List.getElem_toArray, List.getElem_cons_zero, List.getElem_cons_succ]
        refine wpAnyH_take (i := 3) (v := ?_) rfl (by kernel_rfl) (by kernel_rfl) (by kernel_rfl) (fun _ _ _ h => h) (Or.inl ⟨by rfl, ?_⟩) (by assumption) ?_
        rotate_left
        · (intro w hSw; (try dsimp only at hSw); go_simp; try rfl)
        try simp only [Act.put, List.setIfInBounds_toArray, List.set_cons_zero, List.set_cons_succ, List.getElem_toArray, List.getElem_cons_zero, List.getElem_cons_succ]
        refine wpAnyH_take (i := 4) (v := ?_) rfl (by kernel_rfl) (by kernel_rfl) (by kernel_rfl) (fun _ _ _ h => h) (Or.inl ⟨by rfl, ?_⟩) (by assumption) ?_
        rotate_left
        · (intro w hSw; (try dsimp only at hSw); go_simp; try rfl)
        try simp only [Act.put, List.setIfInBounds_toArray, List.set_cons_zero, List.set_cons_succ, List.getElem_toArray, List.getElem_cons_zero, List.getElem_cons_succ]
        refine wpAnyH_take (i := 5) (v := ?_) rfl (by kernel_rfl) (by kernel_rfl) (by kernel_rfl) (fun _ _ _ h => h) (Or.inl ⟨by rfl, ?_⟩) (by assumption) ?_
        rotate_left
        · (intro w hSw; (try dsimp only at hSw); go_simp; try rfl)
        try simp only [Act.put, List.setIfInBounds_toArray, List.set_cons_zero, List.set_cons_succ, List.getElem_toArray, List.getElem_cons_zero, List.getElem_cons_succ]
        refine wpAnyH_take (i := 6) (v := ?_) rfl (by kernel_rfl) (by kernel_rfl) (by kernel_rfl) (fun _ _ _ h => h) (Or.inl ⟨by rfl, ?_⟩) (by assumption) ?_
        rotate_left
        · (intro w hSw; (try dsimp only at hSw); go_simp; try rfl)
        try simp only [Act.put, List.setIfInBounds_toArray, List.set_cons_zero, List.set_cons_succ, List.getElem_toArray, List.getElem_cons_zero, List.getElem_cons_succ]
        refine wpAnyH_take (i := 8) (v := ?_) rfl (by kernel_rfl) (by kernel_rfl) (by kernel_rfl) (fun _ _ _ h => h) (Or.inl ⟨by rfl, ?_⟩) (by assumption) ?_
        rotate_left
        · (intro w hSw; (try dsimp only at hSw); go_simp; try rfl)
        try simp only [Act.put, List.setIfInBounds_toArray, List.set_cons_zero, List.set_cons_succ, List.getElem_toArray, List.getElem_cons_zero, List.getElem_cons_succ]
        refine wpAnyH_ready (rs := [7, 9]) (by kernel_rfl) (by simp) ?_
        refine (AllReadyH.cons rfl (fun K hK => ?_) (AllReadyH.cons rfl (fun K hK => ?_) AllReadyH.nil))
        ·
          refine step_text (by rfl) 49 9 _ rfl 5 Try.underlying49 Try.underlying5 Try.underlying9 _ (frm (eF (msC.fs x0))) rfl (HT0.out.below (by assumption)) ?_
          refine hK.out _ _ ?_ (fun hHeld => ?_)
          · (first | exact Below.refl _ _ | exact (Below.refl _ _).drew | assumption | exact below_self (by assumption) (by assumption))
          clear hK K
          try simp only [Act.put, List.setIfInBounds_toArray, List.set_cons_zero, List.set_cons_succ, List.getElem_toArray, List.getElem_cons_zero, List.getElem_cons_succ]
          refine wpAnyH_ready (rs := [9]) (by kernel_rfl) (by simp) ?_
          refine (AllReadyH.cons rfl (fun K hK => ?_) AllReadyH.nil)
          go_simp
          (go_at_call 24; refine (HCP.out _).mono ?_; rintro e y ⟨rfl, hy⟩; have hy := below_self (by assumption) hy)
          refine hK.out _ _ ?_ (fun hHeld => ?_)
          · (first | exact Below.refl _ _ | exact (Below.refl _ _).drew | assumption | exact below_self (by assumption) (by assumption))
          clear hK K
          try simp only [Act.put, List.setIfInBounds_toArray, List.set_cons_zero, List.set_cons_succ, List.getElem_toArray, List.getElem_cons_zero, List.getElem_cons_succ]
          refine wpAnyH_take (i := 10) (v := ?_) rfl (by kernel_rfl) (by kernel_rfl) (by kernel_rfl) (fun _ _ _ h => h) (Or.inl ⟨by rfl, ?_⟩) (by assumption) ?_
          rotate_left
          · (intro w hSw; (try dsimp only at hSw); go_simp; try rfl)
          try simp only [Act.put, List.setIfInBounds_toArray, List.set_cons_zero, List.set_cons_succ, List.getElem_toArray, List.getElem_cons_zero, List.getElem_cons_succ]
          refine wpAnyH_take (i := 11) (v := ?_) rfl (by kernel_rfl) (by kernel_rfl) (by kernel_rfl) (fun _ _ _ h => h) (Or.inl ⟨by rfl, ?_⟩) (by assumption) ?_
          rotate_left
          · (intro w hSw; (try dsimp only at hSw); go_simp; try rfl)
          try simp only [Act.put, List.setIfInBounds_toArray, List.set_cons_zero, List.set_cons_succ, List.getElem_toArray, List.getElem_cons_zero, List.getElem_cons_succ]
          refine wpAnyH_take (i := 12) (v := ?_) rfl (by kernel_rfl) (by kernel_rfl) (by kernel_rfl) (fun _ _ _ h => h) (Or.inl ⟨by rfl, ?_⟩) (by assumption) ?_
          rotate_left
          · (intro w hSw; (try dsimp only at hSw); go_simp; try rfl)
          try simp only [Act.put, List.setIfInBounds_toArray, List.set_cons_zero, List.set_cons_succ, List.getElem_toArray, List.getElem_cons_zero, List.getElem_cons_succ]
          refine wpAnyH_done (by kernel_rfl) ?_ _
          go_wp2_with fail
          go_ret
          exact ⟨by simp, HB.out.trans ((by assumption : Below wA.heap.size wA _).mono HB.out.size)⟩
        ·
          go_simp
          (go_at_call 24; refine (HCP.out _).mono ?_; rintro e y ⟨rfl, hy⟩; have hy := below_self (by assumption) hy)
          refine hK.out _ _ ?_ (fun hHeld => ?_)
          · (first | exact Below.refl _ _ | exact (Below.refl _ _).drew | assumption | exact below_self (by assumption) (by assumption))
          clear hK K
          try simp only [Act.put, List.setIfInBounds_toArray, List.set_cons_zero, List.set_cons_succ, List.getElem_toArray, List.getElem_cons_zero, List.getElem_cons_succ]
          refine wpAnyH_ready (rs := [7]) (by kernel_rfl) (by simp) ?_
          refine (AllReadyH.cons rfl (fun K hK => ?_) AllReadyH.nil)
          refine step_text (by rfl) 49 9 _ rfl 5 Try.underlying49 Try.underlying5 Try.underlying9 _ (frm (eF (msC.fs x0))) rfl (HT0.out.below (by assumption)) ?_
          refine hK.out _ _ ?_ (fun hHeld => ?_)
          · (first | exact Below.refl _ _ | exact (Below.refl _ _).drew | assumption | exact below_self (by assumption) (by assumption))
          clear hK K
          try simp only [Act.put, List.setIfInBounds_toArray, List.set_cons_zero, List.set_cons_succ, List.getElem_toArray, List.getElem_cons_zero, List.getElem_cons_succ]
          refine wpAnyH_take (i := 10) (v := ?_) rfl (by kernel_rfl) (by kernel_rfl) (by kernel_rfl) (fun _ _ _ h => h) (Or.inl ⟨by rfl, ?_⟩) (by assumption) ?_
          rotate_left
          · (intro w hSw; (try dsimp only at hSw); go_simp; try rfl)
          try simp only [Act.put, List.setIfInBounds_toArray, List.set_cons_zero, List.set_cons_succ, List.getElem_toArray, List.getElem_cons_zero, List.getElem_cons_succ]
          refine wpAnyH_take (i := 11) (v := ?_) rfl (by kernel_rfl) (by kernel_rfl) (by kernel_rfl) (fun _ _ _ h => h) (Or.inl ⟨by rfl, ?_⟩) (by assumption) ?_
          rotate_left
          · (intro w hSw; (try dsimp only at hSw); go_simp; try rfl)
          try simp only [Act.put, List.setIfInBounds_toArray, List.set_cons_zero, List.set_cons_succ, List.getElem_toArray, List.getElem_cons_zero, List.getElem_cons_succ]
          refine wpAnyH_take (i := 12) (v := ?_) rfl (by kernel_rfl) (by kernel_rfl) (by kernel_rfl) (fun _ _ _ h => h) (Or.inl ⟨by rfl, ?_⟩) (by assumption) ?_
          rotate_left
          · (intro w hSw; (try dsimp only at hSw); go_simp; try rfl)
          try simp only [Act.put, List.setIfInBounds_toArray, List.set_cons_zero, List.set_cons_succ, List.getElem_toArray, List.getElem_cons_zero, List.getElem_cons_succ]
          refine wpAnyH_done (by kernel_rfl) ?_ _
          go_wp2_with fail
          go_ret
          exact ⟨by simp, HB.out.trans ((by assumption : Below wA.heap.size wA _).mono HB.out.size)⟩
      · obtain ⟨_, he, hb⟩ := (hP.resolve_left (fun h => qm h.1)).resolve_left (fun h => qm h.1)
        rw [he.out]
        clear he hP
        have HQ := Lib.hid qm
        clear qm
        have HX1' := Lib.hid ((hb.block _ (Array.getElem?_eq_some_iff.1 HX1.out).1).trans HX1.out)
        have HX0' := Lib.hid ((hb.block _ (Array.getElem?_eq_some_iff.1 HX0.out).1).trans HX0.out)
        have HB' := Lib.hid (HB.out.trans (hb.mono HB.out.size))
        have HM0' := Lib.hid (HM0.out.on hb)
        have HR1' := Lib.hid (HR1.out.on hb)
        have HT9' := Lib.hid (HT9.out.below hb)
        clear hb HX1 HX0 HB HM0 HR1 HT9
        have HX1 := HX1'
        have HX0 := HX0'
        have HB := HB'
        have HM0 := HM0'
        have HR1 := HR1'
        have HT9 := HT9'
        clear HX1' HX0' HB' HM0' HR1' HT9'
        go_wp2_with (first | refine wpList_load_rowG rfl _ _ rfl (w.heap.size) rfl 46 #[.bool n0, .int .i64 n1, .int .i64 n2, .int .i64 n3, .int .i64 n4, .int .i64 n5, .int .i64 n6, .int .i64 n7, .int .i64 n8, .int .i64 n9, .int .i64 n10, .int .i64 n11, .string n12, .string n13, .int .i64 n14, .int .i64 n15, .int .i64 n16, .int .i64 n17, .slice a18 m18 p18, .int .i64 n19, .slice a20 m20 p20, .slice a21 m21 p21, .slice a22 m22 p22] (0, 0) _ HX1.out Try.underlying46 rfl HI1.out ?_ | refine wpList_load_rowG rfl _ _ rfl (w.heap.size + 1) rfl 44 cs0 (0, 0) _ HX0.out Try.underlying44 rfl HI0.out ?_ | fail)
        refine (ro_msg _ x0 _ HM0.out HZ0.out).mono ?_
        rintro e wA ⟨hb, hq⟩
        obtain ⟨_, he⟩ := hq.resolve_left (fun k => HQ.out k.1)
        rw [he.out]
        clear he hq
        have HX1' := Lib.hid ((hb.block _ (Array.getElem?_eq_some_iff.1 HX1.out).1).trans HX1.out)
        have HX0' := Lib.hid ((hb.block _ (Array.getElem?_eq_some_iff.1 HX0.out).1).trans HX0.out)
        have HB' := Lib.hid (HB.out.trans (hb.mono HB.out.size))
        have HM0' := Lib.hid (HM0.out.on hb)
        have HR1' := Lib.hid (HR1.out.on hb)
        have HT9' := Lib.hid (HT9.out.below hb)
        clear hb HX1 HX0 HB HM0 HR1 HT9
        have HX1 := HX1'
        have HX0 := HX0'
        have HB := HB'
        have HM0 := HM0'
        have HR1 := HR1'
        have HT9 := HT9'
        clear HX1' HX0' HB' HM0' HR1' HT9'
        go_wp2_with fail
        go_ret
        exact ⟨rfl, HB.out⟩
  · rw [he.out]
    clear he HP q
    have HX1' := Lib.hid ((hb.block _ (Array.getElem?_eq_some_iff.1 HX1.out).1).trans HX1.out)
    have HX0' := Lib.hid ((hb.block _ (Array.getElem?_eq_some_iff.1 HX0.out).1).trans HX0.out)
    have HB' := Lib.hid (HB.out.trans (hb.mono HB.out.size))
    have HM0' := Lib.hid (HM0.out.on hb)
    have HR1' := Lib.hid (HR1.out.on hb)
    clear hb HX1 HX0 HB HM0 HR1
    have HX1 := HX1'
    have HX0 := HX0'
    have HB := HB'
    have HM0 := HM0'
    have HR1 := HR1'
    clear HX1' HX0' HB' HM0' HR1'
    go_wp2_with (first | refine wpList_load_rowG rfl _ _ rfl (w.heap.size) rfl 46 #[.bool n0, .int .i64 n1, .int .i64 n2, .int .i64 n3, .int .i64 n4, .int .i64 n5, .int .i64 n6, .int .i64 n7, .int .i64 n8, .int .i64 n9, .int .i64 n10, .int .i64 n11, .string n12, .string n13, .int .i64 n14, .int .i64 n15, .int .i64 n16, .int .i64 n17, .slice a18 m18 p18, .int .i64 n19, .slice a20 m20 p20, .slice a21 m21 p21, .slice a22 m22 p22] (0, 0) _ HX1.out Try.underlying46 rfl HI1.out ?_ | refine wpList_load_rowG rfl _ _ rfl (w.heap.size + 1) rfl 44 cs0 (0, 0) _ HX0.out Try.underlying44 rfl HI0.out ?_ | refine wpList_bytes_g (o := ⟨some 89, _, _, _, _, _⟩) rfl 9 49 _ rfl 5 Try.underlying9 Try.underlying49 Try.underlying5 _ rfl (by omega) ?_ | fail)
    intro v9 w9 hT hz9 hb
    have HT9 := Lib.hid hT
    clear hT hz9
    have HX1' := Lib.hid ((hb.block _ (Array.getElem?_eq_some_iff.1 HX1.out).1).trans HX1.out)
    have HX0' := Lib.hid ((hb.block _ (Array.getElem?_eq_some_iff.1 HX0.out).1).trans HX0.out)
    have HB' := Lib.hid (HB.out.trans (hb.mono HB.out.size))
    have HM0' := Lib.hid (HM0.out.on hb)
    have HR1' := Lib.hid (HR1.out.on hb)
    clear hb HX1 HX0 HB HM0 HR1
    have HX1 := HX1'
    have HX0 := HX0'
    have HB := HB'
    have HM0 := HM0'
    have HR1 := HR1'
    clear HX1' HX0' HB' HM0' HR1'
    go_wp2_with (first | refine wpList_load_rowG rfl _ _ rfl (w.heap.size) rfl 46 #[.bool n0, .int .i64 n1, .int .i64 n2, .int .i64 n3, .int .i64 n4, .int .i64 n5, .int .i64 n6, .int .i64 n7, .int .i64 n8, .int .i64 n9, .int .i64 n10, .int .i64 n11, .string n12, .string n13, .int .i64 n14, .int .i64 n15, .int .i64 n16, .int .i64 n17, .slice a18 m18 p18, .int .i64 n19, .slice a20 m20 p20, .slice a21 m21 p21, .slice a22 m22 p22] (0, 0) _ HX1.out Try.underlying46 rfl HI1.out ?_ | refine wpList_load_rowG rfl _ _ rfl (w.heap.size + 1) rfl 44 cs0 (0, 0) _ HX0.out Try.underlying44 rfl HI0.out ?_ | fail)
    refine (get_any _ (byt s) _ HT9.out (byt_range s) (by rw [byt_length]; have := HS3.out; omega)).mono ?_
    rintro e wg ⟨u, he, hb, hm⟩
    have HM := Lib.hid hm
    clear hm
    rcases HM.out with ⟨qe, hm⟩ | ⟨qe, hu⟩
    · rw [qe] at he
      rw [he.out]
      have HQE := Lib.hid (rcRd_good (byt_range s) qe)
      obtain ⟨csg, hv, hsg⟩ := hm wg (fun _ _ _ => rfl)
      subst hv
      have hone := rc_one hsg
      have HIg : Hid ((Try.prog.info? 46).map (·.size) = some csg.size) := Lib.hid (by rw [rc_size hsg]; kernel_rfl)
      have HZg : Hid (((#[.bool false, .int .i64 0, .int .i64 0, .int .i64 0, .int .i64 0, .int .i64 0, .int .i64 0, .int .i64 0, .int .i64 0, .int .i64 0, .int .i64 0, .int .i64 0, .string ⟨#[]⟩, .string ⟨#[]⟩, .int .i64 0, .int .i64 0, .int .i64 0, .int .i64 0, .slice none 0 0, .int .i64 0, .slice none 0 0, .slice none 0 0, .slice none 0 0] : Array Value)).size = csg.size) := Lib.hid (by rw [rc_size hsg]; rfl)
      have HOg := Lib.hid hone
      have HAg := Lib.hid (bka_new wg 46 (#[.bool false, .int .i64 0, .int .i64 0, .int .i64 0, .int .i64 0, .int .i64 0, .int .i64 0, .int .i64 0, .int .i64 0, .int .i64 0, .int .i64 0, .int .i64 0, .string ⟨#[]⟩, .string ⟨#[]⟩, .int .i64 0, .int .i64 0, .int .i64 0, .int .i64 0, .slice none 0 0, .int .i64 0, .slice none 0 0, .slice none 0 0, .slice none 0 0] : Array Value))
      have HXg := Lib.hid (box_row wg 46 (#[.bool false, .int .i64 0, .int .i64 0, .int .i64 0, .int .i64 0, .int .i64 0, .int .i64 0, .int .i64 0, .int .i64 0, .int .i64 0, .int .i64 0, .int .i64 0, .string ⟨#[]⟩, .string ⟨#[]⟩, .int .i64 0, .int .i64 0, .int .i64 0, .int .i64 0, .slice none 0 0, .int .i64 0, .slice none 0 0, .slice none 0 0, .slice none 0 0] : Array Value) csg)
      have HRg := Lib.hid (hm ((wg.alloc (.cells (#[.bool false, .int .i64 0, .int .i64 0, .int .i64 0, .int .i64 0, .int .i64 0, .int .i64 0, .int .i64 0, .int .i64 0, .int .i64 0, .int .i64 0, .int .i64 0, .string ⟨#[]⟩, .string ⟨#[]⟩, .int .i64 0, .int .i64 0, .int .i64 0, .int .i64 0, .slice none 0 0, .int .i64 0, .slice none 0 0, .slice none 0 0, .slice none 0 0] : Array Value) 46)).setRow wg.heap.size csg) (fun j _ hj => (box_below wg 46 (#[.bool false, .int .i64 0, .int .i64 0, .int .i64 0, .int .i64 0, .int .i64 0, .int .i64 0, .int .i64 0, .int .i64 0, .int .i64 0, .int .i64 0, .int .i64 0, .string ⟨#[]⟩, .string ⟨#[]⟩, .int .i64 0, .int .i64 0, .int .i64 0, .int .i64 0, .slice none 0 0, .int .i64 0, .slice none 0 0, .slice none 0 0, .slice none 0 0] : Array Value) csg).block j hj))
      have hb := hb.trans ((box_below wg 46 (#[.bool false, .int .i64 0, .int .i64 0, .int .i64 0, .int .i64 0, .int .i64 0, .int .i64 0, .int .i64 0, .int .i64 0, .int .i64 0, .int .i64 0, .int .i64 0, .string ⟨#[]⟩, .string ⟨#[]⟩, .int .i64 0, .int .i64 0, .int .i64 0, .int .i64 0, .slice none 0 0, .int .i64 0, .slice none 0 0, .slice none 0 0, .slice none 0 0] : Array Value) csg).mono hb.size)
      clear he HM qe hm hsg hone
      have HX1' := Lib.hid ((hb.block _ (Array.getElem?_eq_some_iff.1 HX1.out).1).trans HX1.out)
      have HX0' := Lib.hid ((hb.block _ (Array.getElem?_eq_some_iff.1 HX0.out).1).trans HX0.out)
      have HB' := Lib.hid (HB.out.trans (hb.mono HB.out.size))
      have HM0' := Lib.hid (HM0.out.on hb)
      have HR1' := Lib.hid (HR1.out.on hb)
      have HT9' := Lib.hid (HT9.out.below hb)
      clear hb HX1 HX0 HB HM0 HR1 HT9
      have HX1 := HX1'
      have HX0 := HX0'
      have HB := HB'
      have HM0 := HM0'
      have HR1 := HR1'
      have HT9 := HT9'
      clear HX1' HX0' HB' HM0' HR1' HT9'
      go_wp2_with (first | refine wpList_store_row rfl 46 _ _ rfl wg.heap.size rfl csg rfl (#[.bool false, .int .i64 0, .int .i64 0, .int .i64 0, .int .i64 0, .int .i64 0, .int .i64 0, .int .i64 0, .int .i64 0, .int .i64 0, .int .i64 0, .int .i64 0, .string ⟨#[]⟩, .string ⟨#[]⟩, .int .i64 0, .int .i64 0, .int .i64 0, .int .i64 0, .slice none 0 0, .int .i64 0, .slice none 0 0, .slice none 0 0, .slice none 0 0] : Array Value) 46 HAg.out HIg.out HZg.out HOg.out ?_ | refine wpList_load_rowG rfl _ _ rfl (w.heap.size) rfl 46 #[.bool n0, .int .i64 n1, .int .i64 n2, .int .i64 n3, .int .i64 n4, .int .i64 n5, .int .i64 n6, .int .i64 n7, .int .i64 n8, .int .i64 n9, .int .i64 n10, .int .i64 n11, .string n12, .string n13, .int .i64 n14, .int .i64 n15, .int .i64 n16, .int .i64 n17, .slice a18 m18 p18, .int .i64 n19, .slice a20 m20 p20, .slice a21 m21 p21, .slice a22 m22 p22] (0, 0) _ HX1.out Try.underlying46 rfl HI1.out ?_ | refine wpList_load_rowG rfl _ _ rfl (w.heap.size + 1) rfl 44 cs0 (0, 0) _ HX0.out Try.underlying44 rfl HI0.out ?_ | refine wpList_load_rowG rfl _ _ rfl (wg.heap.size) rfl 46 csg (0, 0) _ HXg.out Try.underlying46 rfl HIg.out ?_ | fail)
      generalize ((wg.alloc (.cells (#[.bool false, .int .i64 0, .int .i64 0, .int .i64 0, .int .i64 0, .int .i64 0, .int .i64 0, .int .i64 0, .int .i64 0, .int .i64 0, .int .i64 0, .int .i64 0, .string ⟨#[]⟩, .string ⟨#[]⟩, .int .i64 0, .int .i64 0, .int .i64 0, .int .i64 0, .slice none 0 0, .int .i64 0, .slice none 0 0, .slice none 0 0, .slice none 0 0] : Array Value) 46)).setRow wg.heap.size csg) = wS2 at *
      refine (putG _ _ _ HRg.out).mono ?_
      rintro e wp2 hP
      obtain ⟨_, u2, he, ho, hb⟩ := hP.resolve_right (fun k => k.1 HQE.out.1)
      rw [he.out]
      clear he hP
      rw [HQE.out.2] at ho
      obtain ⟨aq, cq, hv⟩ := ho.slice
      subst hv
      have h1 := bt_str (ho.bt (by rw [byt_length]; have := HS3.out; omega))
      rw [txt_byt] at h1
      clear ho
      have HX1' := Lib.hid ((hb.block _ (Array.getElem?_eq_some_iff.1 HX1.out).1).trans HX1.out)
      have HX0' := Lib.hid ((hb.block _ (Array.getElem?_eq_some_iff.1 HX0.out).1).trans HX0.out)
      have HB' := Lib.hid (HB.out.trans (hb.mono HB.out.size))
      have HM0' := Lib.hid (HM0.out.on hb)
      have HR1' := Lib.hid (HR1.out.on hb)
      have HT9' := Lib.hid (HT9.out.below hb)
      have HXg' := Lib.hid ((hb.block _ (Array.getElem?_eq_some_iff.1 HXg.out).1).trans HXg.out)
      have HRg' := Lib.hid (HRg.out.on hb)
      clear hb HX1 HX0 HB HM0 HR1 HT9 HXg HRg
      have HX1 := HX1'
      have HX0 := HX0'
      have HB := HB'
      have HM0 := HM0'
      have HR1 := HR1'
      have HT9 := HT9'
      have HXg := HXg'
      have HRg := HRg'
      clear HX1' HX0' HB' HM0' HR1' HT9' HXg' HRg'
      go_wp2_with (first | refine wpList_load_rowG rfl _ _ rfl (w.heap.size) rfl 46 #[.bool n0, .int .i64 n1, .int .i64 n2, .int .i64 n3, .int .i64 n4, .int .i64 n5, .int .i64 n6, .int .i64 n7, .int .i64 n8, .int .i64 n9, .int .i64 n10, .int .i64 n11, .string n12, .string n13, .int .i64 n14, .int .i64 n15, .int .i64 n16, .int .i64 n17, .slice a18 m18 p18, .int .i64 n19, .slice a20 m20 p20, .slice a21 m21 p21, .slice a22 m22 p22] (0, 0) _ HX1.out Try.underlying46 rfl HI1.out ?_ | refine wpList_load_rowG rfl _ _ rfl (w.heap.size + 1) rfl 44 cs0 (0, 0) _ HX0.out Try.underlying44 rfl HI0.out ?_ | refine wpList_load_rowG rfl _ _ rfl (wg.heap.size) rfl 46 csg (0, 0) _ HXg.out Try.underlying46 rfl HIg.out ?_ | fail)
      refine (frame_any _ x0 _ HM0.out).mono ?_
      rintro e wv hP
      by_cases qm : Oks (msC.fs x0)
      · obtain ⟨_, hl, t0, he, ho, hb⟩ := hP.resolve_right (fun h => h.elim (fun k => k.2.1 (by have := few_len qm (HF0.out (by first | rfl | trivial)); omega)) (fun k => k.1 qm))
        rw [he.out]
        clear he hP
        obtain ⟨ar, cr, hv, _⟩ := ho.row
        subst hv
        have HT0 := Lib.hid ho
        have HQ := Lib.hid qm
        have HLq := Lib.hid hl
        clear ho qm hl
        have HX1' := Lib.hid ((hb.block _ (Array.getElem?_eq_some_iff.1 HX1.out).1).trans HX1.out)
        have HX0' := Lib.hid ((hb.block _ (Array.getElem?_eq_some_iff.1 HX0.out).1).trans HX0.out)
        have HB' := Lib.hid (HB.out.trans (hb.mono HB.out.size))
        have HM0' := Lib.hid (HM0.out.on hb)
        have HR1' := Lib.hid (HR1.out.on hb)
        have HT9' := Lib.hid (HT9.out.below hb)
        have HXg' := Lib.hid ((hb.block _ (Array.getElem?_eq_some_iff.1 HXg.out).1).trans HXg.out)
        have HRg' := Lib.hid (HRg.out.on hb)
        clear hb HX1 HX0 HB HM0 HR1 HT9 HXg HRg
        have HX1 := HX1'
        have HX0 := HX0'
        have HB := HB'
        have HM0 := HM0'
        have HR1 := HR1'
        have HT9 := HT9'
        have HXg := HXg'
        have HRg := HRg'
        clear HX1' HX0' HB' HM0' HR1' HT9' HXg' HRg'
        go_wp2_with (first | refine wpList_load_rowG rfl _ _ rfl (w.heap.size) rfl 46 #[.bool n0, .int .i64 n1, .int .i64 n2, .int .i64 n3, .int .i64 n4, .int .i64 n5, .int .i64 n6, .int .i64 n7, .int .i64 n8, .int .i64 n9, .int .i64 n10, .int .i64 n11, .string n12, .string n13, .int .i64 n14, .int .i64 n15, .int .i64 n16, .int .i64 n17, .slice a18 m18 p18, .int .i64 n19, .slice a20 m20 p20, .slice a21 m21 p21, .slice a22 m22 p22] (0, 0) _ HX1.out Try.underlying46 rfl HI1.out ?_ | refine wpList_load_rowG rfl _ _ rfl (w.heap.size + 1) rfl 44 cs0 (0, 0) _ HX0.out Try.underlying44 rfl HI0.out ?_ | refine wpList_load_rowG rfl _ _ rfl (wg.heap.size) rfl 46 csg (0, 0) _ HXg.out Try.underlying46 rfl HIg.out ?_ | fail)
        refine (ro_msg _ x0 _ HM0.out HZ0.out).mono ?_
        rintro e wA ⟨hb, hq⟩
        obtain ⟨_, he⟩ := hq.resolve_right (fun k => k.1 HQ.out)
        rw [he.out]
        clear he hq
        have HX1' := Lib.hid ((hb.block _ (Array.getElem?_eq_some_iff.1 HX1.out).1).trans HX1.out)
        have HX0' := Lib.hid ((hb.block _ (Array.getElem?_eq_some_iff.1 HX0.out).1).trans HX0.out)
        have HB' := Lib.hid (HB.out.trans (hb.mono HB.out.size))
        have HM0' := Lib.hid (HM0.out.on hb)
        have HR1' := Lib.hid (HR1.out.on hb)
        have HT9' := Lib.hid (HT9.out.below hb)
        have HXg' := Lib.hid ((hb.block _ (Array.getElem?_eq_some_iff.1 HXg.out).1).trans HXg.out)
        have HRg' := Lib.hid (HRg.out.on hb)
        have HT0' := Lib.hid (HT0.out.below hb)
        clear hb HX1 HX0 HB HM0 HR1 HT9 HXg HRg HT0
        have HX1 := HX1'
        have HX0 := HX0'
        have HB := HB'
        have HM0 := HM0'
        have HR1 := HR1'
        have HT9 := HT9'
        have HXg := HXg'
        have HRg := HRg'
        have HT0 := HT0'
        clear HX1' HX0' HB' HM0' HR1' HT9' HXg' HRg' HT0'
        have HCP : Hid (∀ W, Calls Try.prog 24 #[.string (txt (eF (msC.fs x0)))] W fun e w' => e = .returned (.string (txt (frm (eF (msC.fs x0))))) ∧ Below W.heap.size W w') := Lib.hid (fun W => by
          have h := rputC (txt (eF (msC.fs x0))) W (by rw [txt_size]; exact HLq.out)
          rw [byt_txt (eF_byte HQ.out)] at h
          exact h)
        go_upto_region 21 with fail
        refine wp_region_held_drew (S := fun w' => Below wA.heap.size wA w') (by kernel_rfl) ?_ (fun hHeld => ?_)
        · (first | exact Below.refl _ _ | exact (Below.refl _ _).drew | assumption | exact below_self (by assumption) (by assumption))
        refine wpAnyH_take (i := 0) (v := ?_) rfl (by kernel_rfl) (by kernel_rfl) (by kernel_rfl) (fun _ _ _ h => h) (Or.inl ⟨by rfl, ?_⟩) (by assumption) ?_
        rotate_left
        · (intro w hSw; (try dsimp only at hSw); go_simp; try rfl)
        try simp only [Act.put, List.setIfInBounds_toArray, List.set_cons_zero, List.set_cons_succ, List.getElem_toArray, List.getElem_cons_zero, List.getElem_cons_succ]
        refine wpAnyH_take (i := 1) (v := ?_) rfl (by kernel_rfl) (by kernel_rfl) (by kernel_rfl) (fun _ _ _ h => h) (Or.inl ⟨by rfl, ?_⟩) (by assumption) ?_
        rotate_left
        · (intro w hSw; (try dsimp only at hSw); go_simp; try rfl)
        try simp only [Act.put, List.setIfInBounds_toArray, List.set_cons_zero, List.set_cons_succ, List.getElem_toArray, List.getElem_cons_zero, List.getElem_cons_succ]
        refine wpAnyH_take (i := 2) (v := ?_) rfl (by kernel_rfl) (by kernel_rfl) (by kernel_rfl) (fun _ _ _ h => h) (Or.inl ⟨by rfl, ?_⟩) (by assumption) ?_
        rotate_left
        · (intro w hSw; (try dsimp only at hSw); go_simp; try rfl)
        try simp only [Act.put, List.setIfInBounds_toArray, List.set_cons_zero, List.set_cons_succ, List.getElem_toArray, List.getElem_cons_zero, List.getElem_cons_succ]
        refine wpAnyH_take (i := 3) (v := ?_) rfl (by kernel_rfl) (by kernel_rfl) (by kernel_rfl) (fun _ _ _ h => h) (Or.inl ⟨by rfl, ?_⟩) (by assumption) ?_
        rotate_left
        · (intro w hSw; (try dsimp only at hSw); go_simp; try rfl)
        try simp only [Act.put, List.setIfInBounds_toArray, List.set_cons_zero, List.set_cons_succ, List.getElem_toArray, List.getElem_cons_zero, List.getElem_cons_succ]
        refine wpAnyH_take (i := 4) (v := ?_) rfl (by kernel_rfl) (by kernel_rfl) (by kernel_rfl) (fun _ _ _ h => h) (Or.inl ⟨by rfl, ?_⟩) (by assumption) ?_
        rotate_left
        · (intro w hSw; (try dsimp only at hSw); go_simp; try rfl)
        try simp only [Act.put, List.setIfInBounds_toArray, List.set_cons_zero, List.set_cons_succ, List.getElem_toArray, List.getElem_cons_zero, List.getElem_cons_succ]
        refine wpAnyH_take (i := 5) (v := ?_) rfl (by kernel_rfl) (by kernel_rfl) (by kernel_rfl) (fun _ _ _ h => h) (Or.inl ⟨by rfl, ?_⟩) (by assumption) ?_
        rotate_left
        · (intro w hSw; (try dsimp only at hSw); go_simp; try rfl)
        try simp only [Act.put, List.setIfInBounds_toArray, List.set_cons_zero, List.set_cons_succ, List.getElem_toArray, List.getElem_cons_zero, List.getElem_cons_succ]
        refine wpAnyH_take (i := 6) (v := ?_) rfl (by kernel_rfl) (by kernel_rfl) (by kernel_rfl) (fun _ _ _ h => h) (Or.inl ⟨by rfl, ?_⟩) (by assumption) ?_
        rotate_left
        · (intro w hSw; (try dsimp only at hSw); go_simp; try rfl)
        try simp only [Act.put, List.setIfInBounds_toArray, List.set_cons_zero, List.set_cons_succ, List.getElem_toArray, List.getElem_cons_zero, List.getElem_cons_succ]
        refine wpAnyH_take (i := 8) (v := ?_) rfl (by kernel_rfl) (by kernel_rfl) (by kernel_rfl) (fun _ _ _ h => h) (Or.inl ⟨by rfl, ?_⟩) (by assumption) ?_
        rotate_left
        · (intro w hSw; (try dsimp only at hSw); go_simp; try rfl)
        try simp only [Act.put, List.setIfInBounds_toArray, List.set_cons_zero, List.set_cons_succ, List.getElem_toArray, List.getElem_cons_zero, List.getElem_cons_succ]
        refine wpAnyH_ready (rs := [7, 9]) (by kernel_rfl) (by simp) ?_
        refine (AllReadyH.cons rfl (fun K hK => ?_) (AllReadyH.cons rfl (fun K hK => ?_) AllReadyH.nil))
        ·
          refine step_text (by rfl) 49 9 _ rfl 5 Try.underlying49 Try.underlying5 Try.underlying9 _ (frm (eF (msC.fs x0))) rfl (HT0.out.below (by assumption)) ?_
          refine hK.out _ _ ?_ (fun hHeld => ?_)
          · (first | exact Below.refl _ _ | exact (Below.refl _ _).drew | assumption | exact below_self (by assumption) (by assumption))
          clear hK K
          try simp only [Act.put, List.setIfInBounds_toArray, List.set_cons_zero, List.set_cons_succ, List.getElem_toArray, List.getElem_cons_zero, List.getElem_cons_succ]
          refine wpAnyH_ready (rs := [9]) (by kernel_rfl) (by simp) ?_
          refine (AllReadyH.cons rfl (fun K hK => ?_) AllReadyH.nil)
          go_simp
          (go_at_call 24; refine (HCP.out _).mono ?_; rintro e y ⟨rfl, hy⟩; have hy := below_self (by assumption) hy)
          refine hK.out _ _ ?_ (fun hHeld => ?_)
          · (first | exact Below.refl _ _ | exact (Below.refl _ _).drew | assumption | exact below_self (by assumption) (by assumption))
          clear hK K
          try simp only [Act.put, List.setIfInBounds_toArray, List.set_cons_zero, List.set_cons_succ, List.getElem_toArray, List.getElem_cons_zero, List.getElem_cons_succ]
          refine wpAnyH_take (i := 10) (v := ?_) rfl (by kernel_rfl) (by kernel_rfl) (by kernel_rfl) (fun _ _ _ h => h) (Or.inl ⟨by rfl, ?_⟩) (by assumption) ?_
          rotate_left
          · (intro w hSw; (try dsimp only at hSw); go_simp; try rfl)
          try simp only [Act.put, List.setIfInBounds_toArray, List.set_cons_zero, List.set_cons_succ, List.getElem_toArray, List.getElem_cons_zero, List.getElem_cons_succ]
          refine wpAnyH_take (i := 11) (v := ?_) rfl (by kernel_rfl) (by kernel_rfl) (by kernel_rfl) (fun _ _ _ h => h) (Or.inl ⟨by rfl, ?_⟩) (by assumption) ?_
          rotate_left
          · (intro w hSw; (try dsimp only at hSw); go_simp; try rfl)
          try simp only [Act.put, List.setIfInBounds_toArray, List.set_cons_zero, List.set_cons_succ, List.getElem_toArray, List.getElem_cons_zero, List.getElem_cons_succ]
          refine wpAnyH_take (i := 12) (v := ?_) rfl (by kernel_rfl) (by kernel_rfl) (by kernel_rfl) (fun _ _ _ h => h) (Or.inl ⟨by rfl, ?_⟩) (by assumption) ?_
          rotate_left
          · (intro w hSw; (try dsimp only at hSw); go_simp; try rfl)
          try simp only [Act.put, List.setIfInBounds_toArray, List.set_cons_zero, List.set_cons_succ, List.getElem_toArray, List.getElem_cons_zero, List.getElem_cons_succ]
          refine wpAnyH_done (by kernel_rfl) ?_ _
          go_wp2_with fail
          go_ret
          exact ⟨by simp, HB.out.trans ((by assumption : Below wA.heap.size wA _).mono HB.out.size)⟩
        ·
          go_simp
          (go_at_call 24; refine (HCP.out _).mono ?_; rintro e y ⟨rfl, hy⟩; have hy := below_self (by assumption) hy)
          refine hK.out _ _ ?_ (fun hHeld => ?_)
          · (first | exact Below.refl _ _ | exact (Below.refl _ _).drew | assumption | exact below_self (by assumption) (by assumption))
          clear hK K
          try simp only [Act.put, List.setIfInBounds_toArray, List.set_cons_zero, List.set_cons_succ, List.getElem_toArray, List.getElem_cons_zero, List.getElem_cons_succ]
          refine wpAnyH_ready (rs := [7]) (by kernel_rfl) (by simp) ?_
          refine (AllReadyH.cons rfl (fun K hK => ?_) AllReadyH.nil)
          refine step_text (by rfl) 49 9 _ rfl 5 Try.underlying49 Try.underlying5 Try.underlying9 _ (frm (eF (msC.fs x0))) rfl (HT0.out.below (by assumption)) ?_
          refine hK.out _ _ ?_ (fun hHeld => ?_)
          · (first | exact Below.refl _ _ | exact (Below.refl _ _).drew | assumption | exact below_self (by assumption) (by assumption))
          clear hK K
          try simp only [Act.put, List.setIfInBounds_toArray, List.set_cons_zero, List.set_cons_succ, List.getElem_toArray, List.getElem_cons_zero, List.getElem_cons_succ]
          refine wpAnyH_take (i := 10) (v := ?_) rfl (by kernel_rfl) (by kernel_rfl) (by kernel_rfl) (fun _ _ _ h => h) (Or.inl ⟨by rfl, ?_⟩) (by assumption) ?_
          rotate_left
          · (intro w hSw; (try dsimp only at hSw); go_simp; try rfl)
          try simp only [Act.put, List.setIfInBounds_toArray, List.set_cons_zero, List.set_cons_succ, List.getElem_toArray, List.getElem_cons_zero, List.getElem_cons_succ]
          refine wpAnyH_take (i := 11) (v := ?_) rfl (by kernel_rfl) (by kernel_rfl) (by kernel_rfl) (fun _ _ _ h => h) (Or.inl ⟨by rfl, ?_⟩) (by assumption) ?_
          rotate_left
          · (intro w hSw; (try dsimp only at hSw); go_simp; try rfl)
          try simp only [Act.put, List.setIfInBounds_toArray, List.set_cons_zero, List.set_cons_succ, List.getElem_toArray, List.getElem_cons_zero, List.getElem_cons_succ]
          refine wpAnyH_take (i := 12) (v := ?_) rfl (by kernel_rfl) (by kernel_rfl) (by kernel_rfl) (fun _ _ _ h => h) (Or.inl ⟨by rfl, ?_⟩) (by assumption) ?_
          rotate_left
          · (intro w hSw; (try dsimp only at hSw); go_simp; try rfl)
          try simp only [Act.put, List.setIfInBounds_toArray, List.set_cons_zero, List.set_cons_succ, List.getElem_toArray, List.getElem_cons_zero, List.getElem_cons_succ]
          refine wpAnyH_done (by kernel_rfl) ?_ _
          go_wp2_with fail
          go_ret
          exact ⟨by simp, HB.out.trans ((by assumption : Below wA.heap.size wA _).mono HB.out.size)⟩
      · obtain ⟨_, he, hb⟩ := (hP.resolve_left (fun h => qm h.1)).resolve_left (fun h => qm h.1)
        rw [he.out]
        clear he hP
        have HQ := Lib.hid qm
        clear qm
        have HX1' := Lib.hid ((hb.block _ (Array.getElem?_eq_some_iff.1 HX1.out).1).trans HX1.out)
        have HX0' := Lib.hid ((hb.block _ (Array.getElem?_eq_some_iff.1 HX0.out).1).trans HX0.out)
        have HB' := Lib.hid (HB.out.trans (hb.mono HB.out.size))
        have HM0' := Lib.hid (HM0.out.on hb)
        have HR1' := Lib.hid (HR1.out.on hb)
        have HT9' := Lib.hid (HT9.out.below hb)
        have HXg' := Lib.hid ((hb.block _ (Array.getElem?_eq_some_iff.1 HXg.out).1).trans HXg.out)
        have HRg' := Lib.hid (HRg.out.on hb)
        clear hb HX1 HX0 HB HM0 HR1 HT9 HXg HRg
        have HX1 := HX1'
        have HX0 := HX0'
        have HB := HB'
        have HM0 := HM0'
        have HR1 := HR1'
        have HT9 := HT9'
        have HXg := HXg'
        have HRg := HRg'
        clear HX1' HX0' HB' HM0' HR1' HT9' HXg' HRg'
        go_wp2_with (first | refine wpList_load_rowG rfl _ _ rfl (w.heap.size) rfl 46 #[.bool n0, .int .i64 n1, .int .i64 n2, .int .i64 n3, .int .i64 n4, .int .i64 n5, .int .i64 n6, .int .i64 n7, .int .i64 n8, .int .i64 n9, .int .i64 n10, .int .i64 n11, .string n12, .string n13, .int .i64 n14, .int .i64 n15, .int .i64 n16, .int .i64 n17, .slice a18 m18 p18, .int .i64 n19, .slice a20 m20 p20, .slice a21 m21 p21, .slice a22 m22 p22] (0, 0) _ HX1.out Try.underlying46 rfl HI1.out ?_ | refine wpList_load_rowG rfl _ _ rfl (w.heap.size + 1) rfl 44 cs0 (0, 0) _ HX0.out Try.underlying44 rfl HI0.out ?_ | refine wpList_load_rowG rfl _ _ rfl (wg.heap.size) rfl 46 csg (0, 0) _ HXg.out Try.underlying46 rfl HIg.out ?_ | fail)
        refine (ro_msg _ x0 _ HM0.out HZ0.out).mono ?_
        rintro e wA ⟨hb, hq⟩
        obtain ⟨_, he⟩ := hq.resolve_left (fun k => HQ.out k.1)
        rw [he.out]
        clear he hq
        have HX1' := Lib.hid ((hb.block _ (Array.getElem?_eq_some_iff.1 HX1.out).1).trans HX1.out)
        have HX0' := Lib.hid ((hb.block _ (Array.getElem?_eq_some_iff.1 HX0.out).1).trans HX0.out)
        have HB' := Lib.hid (HB.out.trans (hb.mono HB.out.size))
        have HM0' := Lib.hid (HM0.out.on hb)
        have HR1' := Lib.hid (HR1.out.on hb)
        have HT9' := Lib.hid (HT9.out.below hb)
        have HXg' := Lib.hid ((hb.block _ (Array.getElem?_eq_some_iff.1 HXg.out).1).trans HXg.out)
        have HRg' := Lib.hid (HRg.out.on hb)
        clear hb HX1 HX0 HB HM0 HR1 HT9 HXg HRg
        have HX1 := HX1'
        have HX0 := HX0'
        have HB := HB'
        have HM0 := HM0'
        have HR1 := HR1'
        have HT9 := HT9'
        have HXg := HXg'
        have HRg := HRg'
        clear HX1' HX0' HB' HM0' HR1' HT9' HXg' HRg'
        go_wp2_with fail
        go_ret
        exact ⟨rfl, HB.out⟩
    · subst hu
      obtain ⟨er, her⟩ : ∃ er, endE (rcRd (byt s, 0)).2 = er := ⟨_, rfl⟩
      rw [her] at he qe
      rw [he.out]
      have t6 : (er == 0) = false := beq_eq_false_iff_ne.2 qe
      have t7 : (er != 0) = true := by simpa using qe
      clear he HM her qe
      have HAg := Lib.hid (bka_new wg 46 (#[.bool false, .int .i64 0, .int .i64 0, .int .i64 0, .int .i64 0, .int .i64 0, .int .i64 0, .int .i64 0, .int .i64 0, .int .i64 0, .int .i64 0, .int .i64 0, .string ⟨#[]⟩, .string ⟨#[]⟩, .int .i64 0, .int .i64 0, .int .i64 0, .int .i64 0, .slice none 0 0, .int .i64 0, .slice none 0 0, .slice none 0 0, .slice none 0 0] : Array Value))
      have hb := hb.trans ((box_below wg 46 (#[.bool false, .int .i64 0, .int .i64 0, .int .i64 0, .int .i64 0, .int .i64 0, .int .i64 0, .int .i64 0, .int .i64 0, .int .i64 0, .int .i64 0, .int .i64 0, .string ⟨#[]⟩, .string ⟨#[]⟩, .int .i64 0, .int .i64 0, .int .i64 0, .int .i64 0, .slice none 0 0, .int .i64 0, .slice none 0 0, .slice none 0 0, .slice none 0 0] : Array Value) (#[.bool false, .int .i64 0, .int .i64 0, .int .i64 0, .int .i64 0, .int .i64 0, .int .i64 0, .int .i64 0, .int .i64 0, .int .i64 0, .int .i64 0, .int .i64 0, .string ⟨#[]⟩, .string ⟨#[]⟩, .int .i64 0, .int .i64 0, .int .i64 0, .int .i64 0, .slice none 0 0, .int .i64 0, .slice none 0 0, .slice none 0 0, .slice none 0 0] : Array Value)).mono hb.size)
      have HX1' := Lib.hid ((hb.block _ (Array.getElem?_eq_some_iff.1 HX1.out).1).trans HX1.out)
      have HX0' := Lib.hid ((hb.block _ (Array.getElem?_eq_some_iff.1 HX0.out).1).trans HX0.out)
      have HB' := Lib.hid (HB.out.trans (hb.mono HB.out.size))
      have HM0' := Lib.hid (HM0.out.on hb)
      have HR1' := Lib.hid (HR1.out.on hb)
      have HT9' := Lib.hid (HT9.out.below hb)
      clear hb HX1 HX0 HB HM0 HR1 HT9
      have HX1 := HX1'
      have HX0 := HX0'
      have HB := HB'
      have HM0 := HM0'
      have HR1 := HR1'
      have HT9 := HT9'
      clear HX1' HX0' HB' HM0' HR1' HT9'
      go_wp2_with (first | refine wpList_store_row rfl 46 _ _ rfl wg.heap.size rfl (#[.bool false, .int .i64 0, .int .i64 0, .int .i64 0, .int .i64 0, .int .i64 0, .int .i64 0, .int .i64 0, .int .i64 0, .int .i64 0, .int .i64 0, .int .i64 0, .string ⟨#[]⟩, .string ⟨#[]⟩, .int .i64 0, .int .i64 0, .int .i64 0, .int .i64 0, .slice none 0 0, .int .i64 0, .slice none 0 0, .slice none 0 0, .slice none 0 0] : Array Value) rfl (#[.bool false, .int .i64 0, .int .i64 0, .int .i64 0, .int .i64 0, .int .i64 0, .int .i64 0, .int .i64 0, .int .i64 0, .int .i64 0, .int .i64 0, .int .i64 0, .string ⟨#[]⟩, .string ⟨#[]⟩, .int .i64 0, .int .i64 0, .int .i64 0, .int .i64 0, .slice none 0 0, .int .i64 0, .slice none 0 0, .slice none 0 0, .slice none 0 0] : Array Value) 46 HAg.out (by kernel_rfl) rfl (by rw [← Array.all_toList]; rfl) ?_ | refine wpList_load_rowG rfl _ _ rfl (w.heap.size) rfl 46 #[.bool n0, .int .i64 n1, .int .i64 n2, .int .i64 n3, .int .i64 n4, .int .i64 n5, .int .i64 n6, .int .i64 n7, .int .i64 n8, .int .i64 n9, .int .i64 n10, .int .i64 n11, .string n12, .string n13, .int .i64 n14, .int .i64 n15, .int .i64 n16, .int .i64 n17, .slice a18 m18 p18, .int .i64 n19, .slice a20 m20 p20, .slice a21 m21 p21, .slice a22 m22 p22] (0, 0) _ HX1.out Try.underlying46 rfl HI1.out ?_ | refine wpList_load_rowG rfl _ _ rfl (w.heap.size + 1) rfl 44 cs0 (0, 0) _ HX0.out Try.underlying44 rfl HI0.out ?_ | fail)
      generalize ((wg.alloc (.cells (#[.bool false, .int .i64 0, .int .i64 0, .int .i64 0, .int .i64 0, .int .i64 0, .int .i64 0, .int .i64 0, .int .i64 0, .int .i64 0, .int .i64 0, .int .i64 0, .string ⟨#[]⟩, .string ⟨#[]⟩, .int .i64 0, .int .i64 0, .int .i64 0, .int .i64 0, .slice none 0 0, .int .i64 0, .slice none 0 0, .slice none 0 0, .slice none 0 0] : Array Value) 46)).setRow wg.heap.size (#[.bool false, .int .i64 0, .int .i64 0, .int .i64 0, .int .i64 0, .int .i64 0, .int .i64 0, .int .i64 0, .int .i64 0, .int .i64 0, .int .i64 0, .int .i64 0, .string ⟨#[]⟩, .string ⟨#[]⟩, .int .i64 0, .int .i64 0, .int .i64 0, .int .i64 0, .slice none 0 0, .int .i64 0, .slice none 0 0, .slice none 0 0, .slice none 0 0] : Array Value)) = wS at *
      refine (frame_any _ x0 _ HM0.out).mono ?_
      rintro e wv hP
      by_cases qm : Oks (msC.fs x0)
      · obtain ⟨_, hl, t0, he, ho, hb⟩ := hP.resolve_right (fun h => h.elim (fun k => k.2.1 (by have := few_len qm (HF0.out (by first | rfl | trivial)); omega)) (fun k => k.1 qm))
        rw [he.out]
        clear he hP
        obtain ⟨ar, cr, hv, _⟩ := ho.row
        subst hv
        have HT0 := Lib.hid ho
        have HQ := Lib.hid qm
        have HLq := Lib.hid hl
        clear ho qm hl
        have HX1' := Lib.hid ((hb.block _ (Array.getElem?_eq_some_iff.1 HX1.out).1).trans HX1.out)
        have HX0' := Lib.hid ((hb.block _ (Array.getElem?_eq_some_iff.1 HX0.out).1).trans HX0.out)
        have HB' := Lib.hid (HB.out.trans (hb.mono HB.out.size))
        have HM0' := Lib.hid (HM0.out.on hb)
        have HR1' := Lib.hid (HR1.out.on hb)
        have HT9' := Lib.hid (HT9.out.below hb)
        clear hb HX1 HX0 HB HM0 HR1 HT9
        have HX1 := HX1'
        have HX0 := HX0'
        have HB := HB'
        have HM0 := HM0'
        have HR1 := HR1'
        have HT9 := HT9'
        clear HX1' HX0' HB' HM0' HR1' HT9'
        go_wp2_with (first | refine wpList_load_rowG rfl _ _ rfl (w.heap.size) rfl 46 #[.bool n0, .int .i64 n1, .int .i64 n2, .int .i64 n3, .int .i64 n4, .int .i64 n5, .int .i64 n6, .int .i64 n7, .int .i64 n8, .int .i64 n9, .int .i64 n10, .int .i64 n11, .string n12, .string n13, .int .i64 n14, .int .i64 n15, .int .i64 n16, .int .i64 n17, .slice a18 m18 p18, .int .i64 n19, .slice a20 m20 p20, .slice a21 m21 p21, .slice a22 m22 p22] (0, 0) _ HX1.out Try.underlying46 rfl HI1.out ?_ | refine wpList_load_rowG rfl _ _ rfl (w.heap.size + 1) rfl 44 cs0 (0, 0) _ HX0.out Try.underlying44 rfl HI0.out ?_ | fail)
        refine (ro_msg _ x0 _ HM0.out HZ0.out).mono ?_
        rintro e wA ⟨hb, hq⟩
        obtain ⟨_, he⟩ := hq.resolve_right (fun k => k.1 HQ.out)
        rw [he.out]
        clear he hq
        have HX1' := Lib.hid ((hb.block _ (Array.getElem?_eq_some_iff.1 HX1.out).1).trans HX1.out)
        have HX0' := Lib.hid ((hb.block _ (Array.getElem?_eq_some_iff.1 HX0.out).1).trans HX0.out)
        have HB' := Lib.hid (HB.out.trans (hb.mono HB.out.size))
        have HM0' := Lib.hid (HM0.out.on hb)
        have HR1' := Lib.hid (HR1.out.on hb)
        have HT9' := Lib.hid (HT9.out.below hb)
        have HT0' := Lib.hid (HT0.out.below hb)
        clear hb HX1 HX0 HB HM0 HR1 HT9 HT0
        have HX1 := HX1'
        have HX0 := HX0'
        have HB := HB'
        have HM0 := HM0'
        have HR1 := HR1'
        have HT9 := HT9'
        have HT0 := HT0'
        clear HX1' HX0' HB' HM0' HR1' HT9' HT0'
        have HCP : Hid (∀ W, Calls Try.prog 24 #[.string (txt (eF (msC.fs x0)))] W fun e w' => e = .returned (.string (txt (frm (eF (msC.fs x0))))) ∧ Below W.heap.size W w') := Lib.hid (fun W => by
          have h := rputC (txt (eF (msC.fs x0))) W (by rw [txt_size]; exact HLq.out)
          rw [byt_txt (eF_byte HQ.out)] at h
          exact h)
        go_upto_region 21 with fail
        refine wp_region_held_drew (S := fun w' => Below wA.heap.size wA w') (by kernel_rfl) ?_ (fun hHeld => ?_)
        · (first | exact Below.refl _ _ | exact (Below.refl _ _).drew | assumption | exact below_self (by assumption) (by assumption))
        refine wpAnyH_take (i := 0) (v := ?_) rfl (by kernel_rfl) (by kernel_rfl) (by kernel_rfl) (fun _ _ _ h => h) (Or.inl ⟨by rfl, ?_⟩) (by assumption) ?_
        rotate_left
        · (intro w hSw; (try dsimp only at hSw); go_simp; try rfl)
        try simp only [Act.put, List.setIfInBounds_toArray, List.set_cons_zero, List.set_cons_succ, List.getElem_toArray, List.getElem_cons_zero, List.getElem_cons_succ]
        refine wpAnyH_take (i := 1) (v := ?_) rfl (by kernel_rfl) (by kernel_rfl) (by kernel_rfl) (fun _ _ _ h => h) (Or.inl ⟨by rfl, ?_⟩) (by assumption) ?_
        rotate_left
        · (intro w hSw; (try dsimp only at hSw); go_simp; try rfl)
        try simp only [Act.put, List.setIfInBounds_toArray, List.set_cons_zero, List.set_cons_succ, List.getElem_toArray, List.getElem_cons_zero, List.getElem_cons_succ]
        refine wpAnyH_take (i := 2) (v := ?_) rfl (by kernel_rfl) (by kernel_rfl) (by kernel_rfl) (fun _ _ _ h => h) (Or.inl ⟨by rfl, ?_⟩) (by assumption) ?_
        rotate_left
        · (intro w hSw; (try dsimp only at hSw); go_simp; try rfl)
        try simp only [Act.put, List.setIfInBounds_toArray, List.set_cons_zero, List.set_cons_succ, List.getElem_toArray, List.getElem_cons_zero, List.getElem_cons_succ]
        refine wpAnyH_take (i := 3) (v := ?_) rfl (by kernel_rfl) (by kernel_rfl) (by kernel_rfl) (fun _ _ _ h => h) (Or.inl ⟨by rfl, ?_⟩) (by assumption) ?_
        rotate_left
        · (intro w hSw; (try dsimp only at hSw); go_simp; try rfl)
        try simp only [Act.put, List.setIfInBounds_toArray, List.set_cons_zero, List.set_cons_succ, List.getElem_toArray, List.getElem_cons_zero, List.getElem_cons_succ]
        refine wpAnyH_take (i := 4) (v := ?_) rfl (by kernel_rfl) (by kernel_rfl) (by kernel_rfl) (fun _ _ _ h => h) (Or.inl ⟨by rfl, ?_⟩) (by assumption) ?_
        rotate_left
        · (intro w hSw; (try dsimp only at hSw); go_simp; try rfl)
        try simp only [Act.put, List.setIfInBounds_toArray, List.set_cons_zero, List.set_cons_succ, List.getElem_toArray, List.getElem_cons_zero, List.getElem_cons_succ]
        refine wpAnyH_take (i := 5) (v := ?_) rfl (by kernel_rfl) (by kernel_rfl) (by kernel_rfl) (fun _ _ _ h => h) (Or.inl ⟨by rfl, ?_⟩) (by assumption) ?_
        rotate_left
        · (intro w hSw; (try dsimp only at hSw); go_simp; try rfl)
        try simp only [Act.put, List.setIfInBounds_toArray, List.set_cons_zero, List.set_cons_succ, List.getElem_toArray, List.getElem_cons_zero, List.getElem_cons_succ]
        refine wpAnyH_take (i := 6) (v := ?_) rfl (by kernel_rfl) (by kernel_rfl) (by kernel_rfl) (fun _ _ _ h => h) (Or.inl ⟨by rfl, ?_⟩) (by assumption) ?_
        rotate_left
        · (intro w hSw; (try dsimp only at hSw); go_simp; try rfl)
        try simp only [Act.put, List.setIfInBounds_toArray, List.set_cons_zero, List.set_cons_succ, List.getElem_toArray, List.getElem_cons_zero, List.getElem_cons_succ]
        refine wpAnyH_take (i := 8) (v := ?_) rfl (by kernel_rfl) (by kernel_rfl) (by kernel_rfl) (fun _ _ _ h => h) (Or.inl ⟨by rfl, ?_⟩) (by assumption) ?_
        rotate_left
        · (intro w hSw; (try dsimp only at hSw); go_simp; try rfl)
        try simp only [Act.put, List.setIfInBounds_toArray, List.set_cons_zero, List.set_cons_succ, List.getElem_toArray, List.getElem_cons_zero, List.getElem_cons_succ]
        refine wpAnyH_ready (rs := [7, 9]) (by kernel_rfl) (by simp) ?_
        refine (AllReadyH.cons rfl (fun K hK => ?_) (AllReadyH.cons rfl (fun K hK => ?_) AllReadyH.nil))
        ·
          refine step_text (by rfl) 49 9 _ rfl 5 Try.underlying49 Try.underlying5 Try.underlying9 _ (frm (eF (msC.fs x0))) rfl (HT0.out.below (by assumption)) ?_
          refine hK.out _ _ ?_ (fun hHeld => ?_)
          · (first | exact Below.refl _ _ | exact (Below.refl _ _).drew | assumption | exact below_self (by assumption) (by assumption))
          clear hK K
          try simp only [Act.put, List.setIfInBounds_toArray, List.set_cons_zero, List.set_cons_succ, List.getElem_toArray, List.getElem_cons_zero, List.getElem_cons_succ]
          refine wpAnyH_ready (rs := [9]) (by kernel_rfl) (by simp) ?_
          refine (AllReadyH.cons rfl (fun K hK => ?_) AllReadyH.nil)
          go_simp
          (go_at_call 24; refine (HCP.out _).mono ?_; rintro e y ⟨rfl, hy⟩; have hy := below_self (by assumption) hy)
          refine hK.out _ _ ?_ (fun hHeld => ?_)
          · (first | exact Below.refl _ _ | exact (Below.refl _ _).drew | assumption | exact below_self (by assumption) (by assumption))
          clear hK K
          try simp only [Act.put, List.setIfInBounds_toArray, List.set_cons_zero, List.set_cons_succ, List.getElem_toArray, List.getElem_cons_zero, List.getElem_cons_succ]
          refine wpAnyH_take (i := 10) (v := ?_) rfl (by kernel_rfl) (by kernel_rfl) (by kernel_rfl) (fun _ _ _ h => h) (Or.inl ⟨by rfl, ?_⟩) (by assumption) ?_
          rotate_left
          · (intro w hSw; (try dsimp only at hSw); go_simp; try rfl)
          try simp only [Act.put, List.setIfInBounds_toArray, List.set_cons_zero, List.set_cons_succ, List.getElem_toArray, List.getElem_cons_zero, List.getElem_cons_succ]
          refine wpAnyH_take (i := 11) (v := ?_) rfl (by kernel_rfl) (by kernel_rfl) (by kernel_rfl) (fun _ _ _ h => h) (Or.inl ⟨by rfl, ?_⟩) (by assumption) ?_
          rotate_left
          · (intro w hSw; (try dsimp only at hSw); go_simp; try rfl)
          try simp only [Act.put, List.setIfInBounds_toArray, List.set_cons_zero, List.set_cons_succ, List.getElem_toArray, List.getElem_cons_zero, List.getElem_cons_succ]
          refine wpAnyH_take (i := 12) (v := ?_) rfl (by kernel_rfl) (by kernel_rfl) (by kernel_rfl) (fun _ _ _ h => h) (Or.inl ⟨by rfl, ?_⟩) (by assumption) ?_
          rotate_left
          · (intro w hSw; (try dsimp only at hSw); go_simp; try rfl)
          try simp only [Act.put, List.setIfInBounds_toArray, List.set_cons_zero, List.set_cons_succ, List.getElem_toArray, List.getElem_cons_zero, List.getElem_cons_succ]
          refine wpAnyH_done (by kernel_rfl) ?_ _
          go_wp2_with fail
          go_ret
          exact ⟨by simp, HB.out.trans ((by assumption : Below wA.heap.size wA _).mono HB.out.size)⟩
        ·
          go_simp
          (go_at_call 24; refine (HCP.out _).mono ?_; rintro e y ⟨rfl, hy⟩; have hy := below_self (by assumption) hy)
          refine hK.out _ _ ?_ (fun hHeld => ?_)
          · (first | exact Below.refl _ _ | exact (Below.refl _ _).drew | assumption | exact below_self (by assumption) (by assumption))
          clear hK K
          try simp only [Act.put, List.setIfInBounds_toArray, List.set_cons_zero, List.set_cons_succ, List.getElem_toArray, List.getElem_cons_zero, List.getElem_cons_succ]
          refine wpAnyH_ready (rs := [7]) (by kernel_rfl) (by simp) ?_
          refine (AllReadyH.cons rfl (fun K hK => ?_) AllReadyH.nil)
          refine step_text (by rfl) 49 9 _ rfl 5 Try.underlying49 Try.underlying5 Try.underlying9 _ (frm (eF (msC.fs x0))) rfl (HT0.out.below (by assumption)) ?_
          refine hK.out _ _ ?_ (fun hHeld => ?_)
          · (first | exact Below.refl _ _ | exact (Below.refl _ _).drew | assumption | exact below_self (by assumption) (by assumption))
          clear hK K
          try simp only [Act.put, List.setIfInBounds_toArray, List.set_cons_zero, List.set_cons_succ, List.getElem_toArray, List.getElem_cons_zero, List.getElem_cons_succ]
          refine wpAnyH_take (i := 10) (v := ?_) rfl (by kernel_rfl) (by kernel_rfl) (by kernel_rfl) (fun _ _ _ h => h) (Or.inl ⟨by rfl, ?_⟩) (by assumption) ?_
          rotate_left
          · (intro w hSw; (try dsimp only at hSw); go_simp; try rfl)
          try simp only [Act.put, List.setIfInBounds_toArray, List.set_cons_zero, List.set_cons_succ, List.getElem_toArray, List.getElem_cons_zero, List.getElem_cons_succ]
          refine wpAnyH_take (i := 11) (v := ?_) rfl (by kernel_rfl) (by kernel_rfl) (by kernel_rfl) (fun _ _ _ h => h) (Or.inl ⟨by rfl, ?_⟩) (by assumption) ?_
          rotate_left
          · (intro w hSw; (try dsimp only at hSw); go_simp; try rfl)
          try simp only [Act.put, List.setIfInBounds_toArray, List.set_cons_zero, List.set_cons_succ, List.getElem_toArray, List.getElem_cons_zero, List.getElem_cons_succ]
          refine wpAnyH_take (i := 12) (v := ?_) rfl (by kernel_rfl) (by kernel_rfl) (by kernel_rfl) (fun _ _ _ h => h) (Or.inl ⟨by rfl, ?_⟩) (by assumption) ?_
          rotate_left
          · (intro w hSw; (try dsimp only at hSw); go_simp; try rfl)
          try simp only [Act.put, List.setIfInBounds_toArray, List.set_cons_zero, List.set_cons_succ, List.getElem_toArray, List.getElem_cons_zero, List.getElem_cons_succ]
          refine wpAnyH_done (by kernel_rfl) ?_ _
          go_wp2_with fail
          go_ret
          exact ⟨by simp, HB.out.trans ((by assumption : Below wA.heap.size wA _).mono HB.out.size)⟩
      · obtain ⟨_, he, hb⟩ := (hP.resolve_left (fun h => qm h.1)).resolve_left (fun h => qm h.1)
        rw [he.out]
        clear he hP
        have HQ := Lib.hid qm
        clear qm
        have HX1' := Lib.hid ((hb.block _ (Array.getElem?_eq_some_iff.1 HX1.out).1).trans HX1.out)
        have HX0' := Lib.hid ((hb.block _ (Array.getElem?_eq_some_iff.1 HX0.out).1).trans HX0.out)
        have HB' := Lib.hid (HB.out.trans (hb.mono HB.out.size))
        have HM0' := Lib.hid (HM0.out.on hb)
        have HR1' := Lib.hid (HR1.out.on hb)
        have HT9' := Lib.hid (HT9.out.below hb)
        clear hb HX1 HX0 HB HM0 HR1 HT9
        have HX1 := HX1'
        have HX0 := HX0'
        have HB := HB'
        have HM0 := HM0'
        have HR1 := HR1'
        have HT9 := HT9'
        clear HX1' HX0' HB' HM0' HR1' HT9'
        go_wp2_with (first | refine wpList_load_rowG rfl _ _ rfl (w.heap.size) rfl 46 #[.bool n0, .int .i64 n1, .int .i64 n2, .int .i64 n3, .int .i64 n4, .int .i64 n5, .int .i64 n6, .int .i64 n7, .int .i64 n8, .int .i64 n9, .int .i64 n10, .int .i64 n11, .string n12, .string n13, .int .i64 n14, .int .i64 n15, .int .i64 n16, .int .i64 n17, .slice a18 m18 p18, .int .i64 n19, .slice a20 m20 p20, .slice a21 m21 p21, .slice a22 m22 p22] (0, 0) _ HX1.out Try.underlying46 rfl HI1.out ?_ | refine wpList_load_rowG rfl _ _ rfl (w.heap.size + 1) rfl 44 cs0 (0, 0) _ HX0.out Try.underlying44 rfl HI0.out ?_ | fail)
        refine (ro_msg _ x0 _ HM0.out HZ0.out).mono ?_
        rintro e wA ⟨hb, hq⟩
        obtain ⟨_, he⟩ := hq.resolve_left (fun k => HQ.out k.1)
        rw [he.out]
        clear he hq
        have HX1' := Lib.hid ((hb.block _ (Array.getElem?_eq_some_iff.1 HX1.out).1).trans HX1.out)
        have HX0' := Lib.hid ((hb.block _ (Array.getElem?_eq_some_iff.1 HX0.out).1).trans HX0.out)
        have HB' := Lib.hid (HB.out.trans (hb.mono HB.out.size))
        have HM0' := Lib.hid (HM0.out.on hb)
        have HR1' := Lib.hid (HR1.out.on hb)
        have HT9' := Lib.hid (HT9.out.below hb)
        clear hb HX1 HX0 HB HM0 HR1 HT9
        have HX1 := HX1'
        have HX0 := HX0'
        have HB := HB'
        have HM0 := HM0'
        have HR1 := HR1'
        have HT9 := HT9'
        clear HX1' HX0' HB' HM0' HR1' HT9'
        go_wp2_with fail
        go_ret
        exact ⟨rfl, HB.out⟩
end Go.Proofs.Ytllcmapgigfgoaa
