/-
  The walk of AttrValid.
-/
import Derived.Test.YtfngjdcagopapaaAt7
namespace Go.Proofs.Ytfngjdcagopapaa
open Tc (ML)
open Go.RowKit
set_option linter.unusedSimpArgs false
set_option linter.unusedVariables false
set_option maxRecDepth 100000

theorem lcl_nil (id : I3) (c : CM) : lclA [] id c = (1, []) := rfl
set_option maxHeartbeats 8000000 in
theorem valid_law (x1 x2 x3 s1 s2 : Int) (v1 v2 : Value) (l1 l2 : List I3) (w : World) (hm : ML w) (h1 : IK.Rd w v1 l1) (o1 : okL l1) (h2 : IK.Rd w v2 l2) (o2 : okL l2) :
    Calls Try.prog 5 #[.agg #[.int .i64 x1, .int .i64 x2, .int .i64 x3], .agg #[.int .i64 s1, v1], .agg #[.int .i64 s2, v2]] w fun e w' => e = .returned (.bool true) ∧ Below w.heap.size w w' := by
  obtain ⟨a1, c1, e1⟩ := h1.slice
  obtain ⟨a2, c2, e2⟩ := h2.slice
  obtain ⟨N1, hN1⟩ : ∃ N, l1.length = N := ⟨_, rfl⟩
  obtain ⟨N2, hN2⟩ : ∃ N, l2.length = N := ⟨_, rfl⟩
  rw [hN1] at e1
  rw [hN2] at e2
  subst e1 e2
  have H1 := Lib.hid h1
  have H2 := Lib.hid h2
  have L1 := Lib.hid hN1
  have L2 := Lib.hid hN2
  have HM := Lib.hid hm
  have HBo := Lib.hid (al3 w (.cells #[.int .i64 x1, .int .i64 x2, .int .i64 x3] 26) (.cells #[.int .i64 s1, .slice a1 N1 c1] aT) (.cells #[.int .i64 s2, .slice a2 N2 c2] aT))
  have HW := Lib.hid (works_any _ (hm.below HBo.out))
  have HBX : Hid (Bk (((w.alloc (.cells #[.int .i64 x1, .int .i64 x2, .int .i64 x3] 26)).alloc (.cells #[.int .i64 s1, .slice a1 N1 c1] aT)).alloc (.cells #[.int .i64 s2, .slice a2 N2 c2] aT)) w.heap.size 26 [.int .i64 x1, .int .i64 x2, .int .i64 x3]) := Lib.hid (((Bk.newAt rfl _ _).old _).old _)
  have HBP : Hid (Bk (((w.alloc (.cells #[.int .i64 x1, .int .i64 x2, .int .i64 x3] 26)).alloc (.cells #[.int .i64 s1, .slice a1 N1 c1] aT)).alloc (.cells #[.int .i64 s2, .slice a2 N2 c2] aT)) (w.heap.size + 1) aT [.int .i64 s1, .slice a1 N1 c1]) := Lib.hid ((Bk.newAt (by simp) _ _).old _)
  have HBQ : Hid (Bk (((w.alloc (.cells #[.int .i64 x1, .int .i64 x2, .int .i64 x3] 26)).alloc (.cells #[.int .i64 s1, .slice a1 N1 c1] aT)).alloc (.cells #[.int .i64 s2, .slice a2 N2 c2] aT)) (w.heap.size + 1 + 1) aT [.int .i64 s2, .slice a2 N2 c2]) := Lib.hid (Bk.newAt (by simp) _ _)
  clear h1 h2 hN1 hN2 hm
  go_enter Try.func5, Try.ntmps5
  go_wp2_with fail
  refine HW.out.mono ?_
  rintro e w1 ⟨rfl, hb⟩
  replace HBX := Lib.hid (HBX.out.below hb)
  replace HBP := Lib.hid (HBP.out.below hb)
  replace HBQ := Lib.hid (HBQ.out.below hb)
  have HB1 := Lib.hid (HBo.out.trans (hb.mono (by simp; omega)))
  clear hb HBo HW
  have bX := HBX.out
  have dX0 := bX.cell 0
  have dX1 := bX.cell 1
  have dX2 := bX.cell 2
  have bP := HBP.out
  have dP0 := bP.cell 0
  have dP1 := bP.cell 1
  have bQ := HBQ.out
  have dQ0 := bQ.cell 0
  have dQ1 := bQ.cell 1
  simp only [List.getElem?_cons_zero, List.getElem?_cons_succ] at dX0 dX1 dX2 dP0 dP1 dQ0 dQ1
  have zX := bX.lt
  have zP := bP.lt
  have zQ := bQ.lt
  clear bX bP bQ
  by_cases gN1 : 40 < (N1 : Int)
  · have fN1 : decide (40 < (N1 : Int)) = true := decide_eq_true gN1
    have kN1 : decide (40 < N1) = true := decide_eq_true (by omega)
    clear gN1
    go_wp2
    go_ret
    exact ⟨rfl, HB1.out⟩
  have fN1 : decide (40 < (N1 : Int)) = false := decide_eq_false gN1
  have kN1 : decide (40 < N1) = false := decide_eq_false (by omega)
  by_cases gN2 : 40 < (N2 : Int)
  · have fN2 : decide (40 < (N2 : Int)) = true := decide_eq_true gN2
    have kN2 : decide (40 < N2) = true := decide_eq_true (by omega)
    clear gN1 gN2
    go_wp2
    go_ret
    exact ⟨rfl, HB1.out⟩
  have fN2 : decide (40 < (N2 : Int)) = false := decide_eq_false gN2
  have kN2 : decide (40 < N2) = false := decide_eq_false (by omega)
  have M1 : Hid (l1.length ≤ 40) := Lib.hid (by rw [L1.out]; omega)
  have M2 : Hid (l2.length ≤ 40) := Lib.hid (by rw [L2.out]; omega)
  clear gN1 gN2
  go_wp2_with fail
  obtain ⟨V1, hV1⟩ : ∃ V, vldA (x1, x2, x3) (s1, l1) = V := ⟨_, rfl⟩
  have HV1 := Lib.hid hV1
  have hc := avalid_any x1 x2 x3 s1 _ l1 w1 (H1.out.below HB1.out) (by have := M1.out; omega)
  rw [hV1] at hc
  refine hc.mono ?_
  clear hc hV1
  rintro e w2 ⟨rfl, hb⟩
  replace HBX := Lib.hid (HBX.out.below hb)
  replace HBP := Lib.hid (HBP.out.below hb)
  replace HBQ := Lib.hid (HBQ.out.below hb)
  have HB2 := Lib.hid (below_self2 HB1.out hb)
  clear dX0 dX1 dX2 dP0 dP1 dQ0 dQ1 zX zP zQ hb HB1
  have bX := HBX.out
  have dX0 := bX.cell 0
  have dX1 := bX.cell 1
  have dX2 := bX.cell 2
  have bP := HBP.out
  have dP0 := bP.cell 0
  have dP1 := bP.cell 1
  have bQ := HBQ.out
  have dQ0 := bQ.cell 0
  have dQ1 := bQ.cell 1
  simp only [List.getElem?_cons_zero, List.getElem?_cons_succ] at dX0 dX1 dX2 dP0 dP1 dQ0 dQ1
  have zX := bX.lt
  have zP := bP.lt
  have zQ := bQ.lt
  clear bX bP bQ
  cases V1 with
  | false =>
    go_wp2
    go_ret
    exact ⟨rfl, HB2.out⟩
  | true =>
  go_wp2_with fail
  obtain ⟨V2, hV2⟩ : ∃ V, vldA (x1, x2, x3) (s2, l2) = V := ⟨_, rfl⟩
  have HV2 := Lib.hid hV2
  have hc := avalid_any x1 x2 x3 s2 _ l2 w2 (H2.out.below HB2.out) (by have := M2.out; omega)
  rw [hV2] at hc
  refine hc.mono ?_
  clear hc hV2
  rintro e w3 ⟨rfl, hb⟩
  replace HBX := Lib.hid (HBX.out.below hb)
  replace HBP := Lib.hid (HBP.out.below hb)
  replace HBQ := Lib.hid (HBQ.out.below hb)
  have HB3 := Lib.hid (below_self2 HB2.out hb)
  clear dX0 dX1 dX2 dP0 dP1 dQ0 dQ1 zX zP zQ hb HB2
  have bX := HBX.out
  have dX0 := bX.cell 0
  have dX1 := bX.cell 1
  have dX2 := bX.cell 2
  have bP := HBP.out
  have dP0 := bP.cell 0
  have dP1 := bP.cell 1
  have bQ := HBQ.out
  have dQ0 := bQ.cell 0
  have dQ1 := bQ.cell 1
  simp only [List.getElem?_cons_zero, List.getElem?_cons_succ] at dX0 dX1 dX2 dP0 dP1 dQ0 dQ1
  have zX := bX.lt
  have zP := bP.lt
  have zQ := bQ.lt
  clear bX bP bQ
  cases V2 with
  | false =>
    go_wp2
    go_ret
    exact ⟨rfl, HB3.out⟩
  | true =>
  have HMV := Lib.hid (vldA_mrg (x1, x2, x3) (s1, l1) (s2, l2) HV1.out HV2.out (by have := M1.out; have := M2.out; simp only; omega))
  go_wp2_with fail
  refine (merge_any s1 s2 _ _ l1 l2 w3 (H1.out.below HB3.out) o1 (H2.out.below HB3.out) o2 (by have := M1.out; have := M2.out; omega)).mono ?_
  rintro e w4 ⟨vm, he, ho, hb⟩
  have he := he.out
  subst he
  obtain ⟨am, cm, hvm⟩ := ho.slice
  obtain ⟨lm, hlm⟩ : ∃ l, (mrgA (s1, l1) (s2, l2)).2 = l := ⟨_, rfl⟩
  obtain ⟨sm, hsm⟩ : ∃ s, (mrgA (s1, l1) (s2, l2)).1 = s := ⟨_, rfl⟩
  have HMG : Hid (mrgA (s1, l1) (s2, l2) = (sm, lm)) := Lib.hid (Prod.ext hsm hlm)
  rw [hlm] at ho hvm
  obtain ⟨Nm, hNm⟩ : ∃ N, lm.length = N := ⟨_, rfl⟩
  rw [hNm] at hvm
  subst hvm
  rw [hsm]
  have Hm := Lib.hid ho.rd
  have HNm := Lib.hid hNm
  rw [HMG.out] at HMV
  replace HBX := Lib.hid (HBX.out.below hb)
  replace HBP := Lib.hid (HBP.out.below hb)
  replace HBQ := Lib.hid (HBQ.out.below hb)
  have HB4 := Lib.hid (below_self2 HB3.out hb)
  clear dX0 dX1 dX2 dP0 dP1 dQ0 dQ1 zX zP zQ hb HB3 ho hlm hsm hNm
  have bX := HBX.out
  have dX0 := bX.cell 0
  have dX1 := bX.cell 1
  have dX2 := bX.cell 2
  have bP := HBP.out
  have dP0 := bP.cell 0
  have dP1 := bP.cell 1
  have bQ := HBQ.out
  have dQ0 := bQ.cell 0
  have dQ1 := bQ.cell 1
  simp only [List.getElem?_cons_zero, List.getElem?_cons_succ] at dX0 dX1 dX2 dP0 dP1 dQ0 dQ1
  have zX := bX.lt
  have zP := bP.lt
  have zQ := bQ.lt
  clear bX bP bQ
  have HLC := Lib.hid (local_any (.slice none 0 0) [] [] (x1, x2, x3) ⟨0, 0, 0, { data := #[] }, { data := #[] }, 0, 0, 0⟩ (w4.alloc (.cells #[.int .i64 sm, .slice am Nm cm] aT)) ⟨Knd.Rd.nil _, rfl, fun j h => by cases h⟩ (by simp) (HM.out.below (HB4.out.trans ((al1 _ _).mono HB4.out.size))) (fun k hk => by cases hk) (by decide))
  go_wp2_with fail
  refine HLC.out.mono ?_
  rw [lcl_nil]
  rintro e w5 ⟨vn, he, ho, hb⟩
  have he := he.out
  subst he
  obtain ⟨an, cn, hvn⟩ := ho.slice
  have hvn' : vn = .slice an 0 cn := hvn
  subst hvn'
  have hbx : Below w4.heap.size w4 w5 := (al1 _ _).trans (hb.mono (by simp))
  have HBM : Hid (Bk w5 w4.heap.size aT [.int .i64 sm, .slice am Nm cm]) := Lib.hid (Bk.below (Bk.newAt rfl _ _) hb)
  replace HBX := Lib.hid (HBX.out.below hbx)
  replace HBP := Lib.hid (HBP.out.below hbx)
  replace HBQ := Lib.hid (HBQ.out.below hbx)
  have HB5 := Lib.hid (below_self2 HB4.out hbx)
  have Hm5 := Lib.hid (Hm.out.below hbx)
  clear dX0 dX1 dX2 dP0 dP1 dQ0 dQ1 zX zP zQ hb hbx HB4 ho HLC hvn
  have bX := HBX.out
  have dX0 := bX.cell 0
  have dX1 := bX.cell 1
  have dX2 := bX.cell 2
  have bP := HBP.out
  have dP0 := bP.cell 0
  have dP1 := bP.cell 1
  have bQ := HBQ.out
  have dQ0 := bQ.cell 0
  have dQ1 := bQ.cell 1
  have bM := HBM.out
  have dM0 := bM.cell 0
  have dM1 := bM.cell 1
  simp only [List.getElem?_cons_zero, List.getElem?_cons_succ] at dX0 dX1 dX2 dP0 dP1 dQ0 dQ1 dM0 dM1
  have zX := bX.lt
  have zP := bP.lt
  have zQ := bQ.lt
  have zM := bM.lt
  clear bX bP bQ bM
  go_wp2_with fail
  refine (avalid_any x1 x2 x3 sm _ lm (w5.alloc (.cells #[.int .i64 1, .slice an 0 cn] aT)) (Hm5.out.below (al1 _ _)) (by have := HMV.out.2.2; have := M1.out; have := M2.out; omega)).mono ?_
  rw [HMV.out.1]
  rintro e w6 ⟨rfl, hb⟩
  have hbx : Below w5.heap.size w5 w6 := (al1 _ _).trans (hb.mono (by simp))
  have HBN : Hid (Bk w6 w5.heap.size aT [.int .i64 1, .slice an 0 cn]) := Lib.hid (Bk.below (Bk.newAt rfl _ _) hb)
  replace HBX := Lib.hid (HBX.out.below hbx)
  replace HBP := Lib.hid (HBP.out.below hbx)
  replace HBQ := Lib.hid (HBQ.out.below hbx)
  replace HBM := Lib.hid (HBM.out.below hbx)
  have HB6 := Lib.hid (below_self2 HB5.out hbx)
  clear dX0 dX1 dX2 dP0 dP1 dQ0 dQ1 dM0 dM1 zX zP zQ zM hb hbx HB5
  have bX := HBX.out
  have dX0 := bX.cell 0
  have dX1 := bX.cell 1
  have dX2 := bX.cell 2
  have bP := HBP.out
  have dP0 := bP.cell 0
  have dP1 := bP.cell 1
  have bQ := HBQ.out
  have dQ0 := bQ.cell 0
  have dQ1 := bQ.cell 1
  have bM := HBM.out
  have dM0 := bM.cell 0
  have dM1 := bM.cell 1
  have bN := HBN.out
  have dN0 := bN.cell 0
  have dN1 := bN.cell 1
  simp only [List.getElem?_cons_zero, List.getElem?_cons_succ] at dX0 dX1 dX2 dP0 dP1 dQ0 dQ1 dM0 dM1 dN0 dN1
  have zX := bX.lt
  have zP := bP.lt
  have zQ := bQ.lt
  have zM := bM.lt
  have zN := bN.lt
  clear bX bP bQ bM bN
  have q1 : sm = max s1 s2 := by
    have h := HMV.out.2.1
    try simp only at h
    rw [h]
    split <;> omega
  have q2 : (sm == max s1 s2) = true := by simp [q1]
  have q3 : (Nm : Int) ≤ (N1 : Int) + (N2 : Int) := by
    have h := HMV.out.2.2
    try simp only at h
    rw [L1.out, L2.out, HNm.out] at h
    omega
  have q4 : decide ((Nm : Int) ≤ (N1 : Int) + (N2 : Int)) = true := decide_eq_true q3
  have q5 : (N1 : Int) ≤ 40 := by have := M1.out; rw [L1.out] at this; omega
  have q6 : (N2 : Int) ≤ 40 := by have := M2.out; rw [L2.out] at this; omega
  clear q1 q3
  go_wp2
  go_ret
  exact ⟨by first | rfl | simp, HB6.out⟩
end Go.Proofs.Ytfngjdcagopapaa
