/-
  The walk of AttrOrder.
-/
import Derived.Test.YtfngjdcagopapaaAt7
namespace Go.Proofs.Ytfngjdcagopapaa
open Tc (ML)
open Go.RowKit
set_option linter.unusedSimpArgs false
set_option linter.unusedVariables false
set_option maxRecDepth 100000

/-- Merged, and then held against another one. -/
theorem mthen (X : World) (s1 s2 s3 : Int) (v1 v2 v3 : Value) (l1 l2 l3 : List I3) (h1 : IK.Rd X v1 l1) (o1 : okL l1) (h2 : IK.Rd X v2 l2) (o2 : okL l2) (h3 : IK.Rd X v3 l3) (o3 : okL l3) (n12 : l1.length + l2.length ≤ 1000) (n3 : l3.length ≤ 1000) (S : Int) (hS : (mrgA (s1, l1) (s2, l2)).1 = S) (r1 r2 : Bool) (hr1 : sameA (s3, l3) (mrgA (s1, l1) (s2, l2)) = r1) (hr2 : sameA (mrgA (s1, l1) (s2, l2)) (s3, l3) = r2) :
    ∀ W : World, Below X.heap.size X W → Calls Try.prog 7 #[.agg #[.int .i64 s1, v1], .agg #[.int .i64 s2, v2]] W fun e w' => (∃ a n c, e = .returned (.agg #[.int .i64 S, .slice a n c]) ∧
      Hid (Calls Try.prog 9 #[.agg #[.int .i64 s3, v3], .agg #[.int .i64 S, .slice a n c]] w' fun e w'' => e = .returned (.bool r1) ∧ Below w'.heap.size w' w'') ∧
      Hid (Calls Try.prog 9 #[.agg #[.int .i64 S, .slice a n c], .agg #[.int .i64 s3, v3]] w' fun e w'' => e = .returned (.bool r2) ∧ Below w'.heap.size w' w'')) ∧ Below W.heap.size W w' := by
  intro W hW
  subst hS hr1 hr2
  refine (merge_any s1 s2 v1 v2 l1 l2 W (h1.below hW) o1 (h2.below hW) o2 n12).mono ?_
  rintro e w' ⟨v', he, ho, hb⟩
  obtain ⟨a, c, hv⟩ := ho.slice
  have hb' := below_self2 hW hb
  have hlen : (mrgA (s1, l1) (s2, l2)).2.length ≤ 1000 := by
    rw [mrg_eq]
    have := len_clnI (l1 ++ l2)
    rw [List.length_append] at this
    simp only
    omega
  have hok : okL (mrgA (s1, l1) (s2, l2)).2 := by rw [mrg_eq]; exact okL_cln (okL_app o1 o2)
  refine ⟨⟨a, _, c, by rw [he.out, hv], Lib.hid ?_, Lib.hid ?_⟩, hb⟩
  · rw [← hv]; exact asame_any s3 _ v3 v' l3 _ w' (h3.below hb') o3 n3 ho.rd hok hlen
  · rw [← hv]; exact asame_any _ s3 v' v3 _ l3 w' ho.rd hok hlen (h3.below hb') o3 n3
set_option maxHeartbeats 16000000 in
theorem order_law (s1 s2 s3 : Int) (v1 v2 v3 : Value) (l1 l2 l3 : List I3) (x1 x2 x3 : Int) (w : World) (hm : ML w) (h1 : IK.Rd w v1 l1) (o1 : okL l1) (h2 : IK.Rd w v2 l2) (o2 : okL l2) (h3 : IK.Rd w v3 l3) (o3 : okL l3) :
    Calls Try.prog 3 #[.agg #[.int .i64 s1, v1], .agg #[.int .i64 s2, v2], .agg #[.int .i64 s3, v3], .agg #[.int .i64 x1, .int .i64 x2, .int .i64 x3]] w fun e w' => e = .returned (.bool true) ∧ Below w.heap.size w w' := by
  obtain ⟨a1, c1, e1⟩ := h1.slice
  obtain ⟨a2, c2, e2⟩ := h2.slice
  obtain ⟨a3, c3, e3⟩ := h3.slice
  obtain ⟨N1, hN1⟩ : ∃ N, l1.length = N := ⟨_, rfl⟩
  obtain ⟨N2, hN2⟩ : ∃ N, l2.length = N := ⟨_, rfl⟩
  obtain ⟨N3, hN3⟩ : ∃ N, l3.length = N := ⟨_, rfl⟩
  rw [hN1] at e1
  rw [hN2] at e2
  rw [hN3] at e3
  subst e1 e2 e3
  have H1 := Lib.hid h1
  have H2 := Lib.hid h2
  have H3 := Lib.hid h3
  have L1 := Lib.hid hN1
  have L2 := Lib.hid hN2
  have L3 := Lib.hid hN3
  have HBo := Lib.hid (al4 w (.cells #[.int .i64 s1, .slice a1 N1 c1] aT) (.cells #[.int .i64 s2, .slice a2 N2 c2] aT) (.cells #[.int .i64 s3, .slice a3 N3 c3] aT) (.cells #[.int .i64 x1, .int .i64 x2, .int .i64 x3] 26))
  have HW := Lib.hid (works_any _ (hm.below HBo.out))
  have HBP : Hid (Bk ((((w.alloc (.cells #[.int .i64 s1, .slice a1 N1 c1] aT)).alloc (.cells #[.int .i64 s2, .slice a2 N2 c2] aT)).alloc (.cells #[.int .i64 s3, .slice a3 N3 c3] aT)).alloc (.cells #[.int .i64 x1, .int .i64 x2, .int .i64 x3] 26)) w.heap.size aT [.int .i64 s1, .slice a1 N1 c1]) := Lib.hid ((((Bk.newAt rfl _ _).old _).old _).old _)
  have HBQ : Hid (Bk ((((w.alloc (.cells #[.int .i64 s1, .slice a1 N1 c1] aT)).alloc (.cells #[.int .i64 s2, .slice a2 N2 c2] aT)).alloc (.cells #[.int .i64 s3, .slice a3 N3 c3] aT)).alloc (.cells #[.int .i64 x1, .int .i64 x2, .int .i64 x3] 26)) (w.heap.size + 1) aT [.int .i64 s2, .slice a2 N2 c2]) := Lib.hid (((Bk.newAt (by simp) _ _).old _).old _)
  have HBR : Hid (Bk ((((w.alloc (.cells #[.int .i64 s1, .slice a1 N1 c1] aT)).alloc (.cells #[.int .i64 s2, .slice a2 N2 c2] aT)).alloc (.cells #[.int .i64 s3, .slice a3 N3 c3] aT)).alloc (.cells #[.int .i64 x1, .int .i64 x2, .int .i64 x3] 26)) (w.heap.size + 1 + 1) aT [.int .i64 s3, .slice a3 N3 c3]) := Lib.hid ((Bk.newAt (by simp) _ _).old _)
  have HBX : Hid (Bk ((((w.alloc (.cells #[.int .i64 s1, .slice a1 N1 c1] aT)).alloc (.cells #[.int .i64 s2, .slice a2 N2 c2] aT)).alloc (.cells #[.int .i64 s3, .slice a3 N3 c3] aT)).alloc (.cells #[.int .i64 x1, .int .i64 x2, .int .i64 x3] 26)) (w.heap.size + 1 + 1 + 1) 26 [.int .i64 x1, .int .i64 x2, .int .i64 x3]) := Lib.hid (Bk.newAt (by simp) _ _)
  clear h1 h2 h3 hN1 hN2 hN3 hm
  go_enter Try.func3, Try.ntmps3
  go_wp2_with fail
  refine HW.out.mono ?_
  rintro e w1 ⟨rfl, hb⟩
  replace HBP := Lib.hid (HBP.out.below hb)
  replace HBQ := Lib.hid (HBQ.out.below hb)
  replace HBR := Lib.hid (HBR.out.below hb)
  replace HBX := Lib.hid (HBX.out.below hb)
  have HB1 := Lib.hid (HBo.out.trans (hb.mono (by simp; omega)))
  clear hb HBo HW
  have bP := HBP.out
  have dP0 := bP.cell 0
  have dP1 := bP.cell 1
  have bQ := HBQ.out
  have dQ0 := bQ.cell 0
  have dQ1 := bQ.cell 1
  have bR := HBR.out
  have dR0 := bR.cell 0
  have dR1 := bR.cell 1
  have bX := HBX.out
  have dX0 := bX.cell 0
  have dX1 := bX.cell 1
  have dX2 := bX.cell 2
  simp only [List.getElem?_cons_zero, List.getElem?_cons_succ] at dP0 dP1 dQ0 dQ1 dR0 dR1 dX0 dX1 dX2
  have zP := bP.lt
  have zQ := bQ.lt
  have zR := bR.lt
  have zX := bX.lt
  clear bP bQ bR bX
  by_cases gN1 : 40 < (N1 : Int)
  · have fN1 : decide (40 < (N1 : Int)) = true := decide_eq_true gN1
    have kN1 : decide (40 < N1) = true := decide_eq_true (by omega)
    clear gN1
    go_wp2
    go_ret
    exact ⟨rfl, HB1.out⟩
  have fN1 : decide (40 < (N1 : Int)) = false := decide_eq_false gN1
  have kN1 : decide (40 < N1) = false := decide_eq_false (by omega)
  by_cases gN2 : 40 < (N2 : Int)
  · have fN2 : decide (40 < (N2 : Int)) = true := decide_eq_true gN2
    have kN2 : decide (40 < N2) = true := decide_eq_true (by omega)
    clear gN1 gN2
    go_wp2
    go_ret
    exact ⟨rfl, HB1.out⟩
  have fN2 : decide (40 < (N2 : Int)) = false := decide_eq_false gN2
  have kN2 : decide (40 < N2) = false := decide_eq_false (by omega)
  by_cases gN3 : 40 < (N3 : Int)
  · have fN3 : decide (40 < (N3 : Int)) = true := decide_eq_true gN3
    have kN3 : decide (40 < N3) = true := decide_eq_true (by omega)
    clear gN1 gN2 gN3
    go_wp2
    go_ret
    exact ⟨rfl, HB1.out⟩
  have fN3 : decide (40 < (N3 : Int)) = false := decide_eq_false gN3
  have kN3 : decide (40 < N3) = false := decide_eq_false (by omega)
  by_cases gs1 : s1 < 0
  · have fs1 : decide (s1 < 0) = true := decide_eq_true gs1
    skip
    clear gN1 gN2 gN3 gs1
    go_wp2
    go_ret
    exact ⟨rfl, HB1.out⟩
  have fs1 : decide (s1 < 0) = false := decide_eq_false gs1
  skip
  by_cases gs2 : s2 < 0
  · have fs2 : decide (s2 < 0) = true := decide_eq_true gs2
    skip
    clear gN1 gN2 gN3 gs1 gs2
    go_wp2
    go_ret
    exact ⟨rfl, HB1.out⟩
  have fs2 : decide (s2 < 0) = false := decide_eq_false gs2
  skip
  by_cases gs3 : s3 < 0
  · have fs3 : decide (s3 < 0) = true := decide_eq_true gs3
    skip
    clear gN1 gN2 gN3 gs1 gs2 gs3
    go_wp2
    go_ret
    exact ⟨rfl, HB1.out⟩
  have fs3 : decide (s3 < 0) = false := decide_eq_false gs3
  skip
  have M1 : Hid (l1.length ≤ 40) := Lib.hid (by rw [L1.out]; omega)
  have M2 : Hid (l2.length ≤ 40) := Lib.hid (by rw [L2.out]; omega)
  have M3 : Hid (l3.length ≤ 40) := Lib.hid (by rw [L3.out]; omega)
  clear gN1 gN2 gN3 gs1 gs2 gs3
  go_wp2_with fail
  refine (merge_any s1 s2 _ _ l1 l2 w1 (H1.out.below HB1.out) o1 (H2.out.below HB1.out) o2 (by have := M1.out; have := M2.out; omega)).mono ?_
  rintro e w2 ⟨vm, he, ho, hb⟩
  have he := he.out
  subst he
  obtain ⟨am, cm, hvm⟩ := ho.slice
  obtain ⟨lm, hlm⟩ : ∃ l, (mrgA (s1, l1) (s2, l2)).2 = l := ⟨_, rfl⟩
  obtain ⟨sm, hsm⟩ : ∃ s, (mrgA (s1, l1) (s2, l2)).1 = s := ⟨_, rfl⟩
  have HMG : Hid (mrgA (s1, l1) (s2, l2) = (sm, lm)) := Lib.hid (Prod.ext hsm hlm)
  rw [hlm] at ho hvm
  obtain ⟨Nm, hNm⟩ : ∃ N, lm.length = N := ⟨_, rfl⟩
  rw [hNm] at hvm
  subst hvm
  rw [hsm]
  have Mm : Hid (lm.length ≤ 80) := Lib.hid (by
    have h := congrArg Prod.snd HMG.out
    rw [mrg_eq] at h
    have h2 := len_clnI (l1 ++ l2)
    simp only at h
    rw [h, List.length_append] at h2
    have := M1.out
    have := M2.out
    omega)
  have om : okL lm := by
    have h := congrArg Prod.snd HMG.out
    rw [mrg_eq] at h
    simp only at h
    rw [← h]
    exact okL_cln (okL_app o1 o2)
  have Hm := Lib.hid ho.rd
  replace HBP := Lib.hid (HBP.out.below hb)
  replace HBQ := Lib.hid (HBQ.out.below hb)
  replace HBR := Lib.hid (HBR.out.below hb)
  replace HBX := Lib.hid (HBX.out.below hb)
  have HB2 := Lib.hid (below_self2 HB1.out hb)
  clear dP0 dP1 dQ0 dQ1 dR0 dR1 dX0 dX1 dX2 zP zQ zR zX ho hb hlm hsm hNm HB1 fN1 fN2 fN3 fs1 fs2 fs3 kN1 kN2 kN3
  have bP := HBP.out
  have dP0 := bP.cell 0
  have dP1 := bP.cell 1
  have bQ := HBQ.out
  have dQ0 := bQ.cell 0
  have dQ1 := bQ.cell 1
  have bR := HBR.out
  have dR0 := bR.cell 0
  have dR1 := bR.cell 1
  have bX := HBX.out
  have dX0 := bX.cell 0
  have dX1 := bX.cell 1
  have dX2 := bX.cell 2
  simp only [List.getElem?_cons_zero, List.getElem?_cons_succ] at dP0 dP1 dQ0 dQ1 dR0 dR1 dX0 dX1 dX2
  have zP := bP.lt
  have zQ := bQ.lt
  have zR := bR.lt
  have zX := bX.lt
  clear bP bQ bR bX
  go_wp2_with fail
  have HX2 := Lib.hid (al1 w2 (.cells #[.int .i64 sm, .slice am Nm cm] aT))
  obtain ⟨rs, hr⟩ := fold_lit3 (w2.alloc (.cells #[.int .i64 sm, .slice am Nm cm] aT)) (w2.heap.size + 1) (by simp) s3 s2 s1 _ _ _ l3 l2 l1 (H3.out.below (HB2.out.trans (HX2.out.mono HB2.out.size))) o3 (H2.out.below (HB2.out.trans (HX2.out.mono HB2.out.size))) o2 (H1.out.below (HB2.out.trans (HX2.out.mono HB2.out.size))) o1 (by have := M1.out; have := M2.out; have := M3.out; omega)
  have HAL := Lib.hid (all_any _ rs _ _ hr (by simp) (by simp [dpA]; have := M1.out; have := M2.out; have := M3.out; omega))
  clear hr
  refine HAL.out.mono ?_
  rintro e w3 ⟨vn, he, ho, hb⟩
  have he := he.out
  subst he
  obtain ⟨an, cn, hvn⟩ := ho.slice
  obtain ⟨ln, hln⟩ : ∃ l, (allA [(s3, l3), (s2, l2), (s1, l1)]).2 = l := ⟨_, rfl⟩
  obtain ⟨sn, hsn⟩ : ∃ s, (allA [(s3, l3), (s2, l2), (s1, l1)]).1 = s := ⟨_, rfl⟩
  have HAG : Hid (allA [(s3, l3), (s2, l2), (s1, l1)] = (sn, ln)) := Lib.hid (Prod.ext hsn hln)
  rw [hln] at ho hvn
  obtain ⟨Nn, hNn⟩ : ∃ N, ln.length = N := ⟨_, rfl⟩
  rw [hNn] at hvn
  subst hvn
  rw [hsn]
  have Mn : Hid (ln.length ≤ 1000) := Lib.hid (by
    have h := congrArg Prod.snd HAG.out
    rw [all3_eq] at h
    have h2 := len_clnI (l3 ++ (l2 ++ l1))
    simp only at h
    rw [h, List.length_append, List.length_append] at h2
    have := M1.out
    have := M2.out
    have := M3.out
    omega)
  have on : okL ln := by
    have h := congrArg Prod.snd HAG.out
    rw [all3_eq] at h
    simp only at h
    rw [← h]
    exact okL_cln (okL_app o3 (okL_app o2 o1))
  have hbx : Below w2.heap.size w2 w3 := (al2 _ _ _).trans (hb.mono (by simp; omega))
  have HBM : Hid (Bk w3 w2.heap.size aT [.int .i64 sm, .slice am Nm cm]) := Lib.hid (Bk.below ((Bk.newAt rfl _ _).old _) hb)
  replace Hm := Lib.hid (Hm.out.below hbx)
  have Hn := Lib.hid ho.rd
  replace HBP := Lib.hid (HBP.out.below hbx)
  replace HBQ := Lib.hid (HBQ.out.below hbx)
  replace HBR := Lib.hid (HBR.out.below hbx)
  replace HBX := Lib.hid (HBX.out.below hbx)
  have HB3 := Lib.hid (below_self2 HB2.out hbx)
  clear dP0 dP1 dQ0 dQ1 dR0 dR1 dX0 dX1 dX2 zP zQ zR zX ho hb hbx hln hsn hNn HX2 HAL HB2
  have bP := HBP.out
  have dP0 := bP.cell 0
  have dP1 := bP.cell 1
  have bQ := HBQ.out
  have dQ0 := bQ.cell 0
  have dQ1 := bQ.cell 1
  have bR := HBR.out
  have dR0 := bR.cell 0
  have dR1 := bR.cell 1
  have bX := HBX.out
  have dX0 := bX.cell 0
  have dX1 := bX.cell 1
  have dX2 := bX.cell 2
  have bM := HBM.out
  have dM0 := bM.cell 0
  have dM1 := bM.cell 1
  simp only [List.getElem?_cons_zero, List.getElem?_cons_succ] at dP0 dP1 dQ0 dQ1 dR0 dR1 dX0 dX1 dX2 dM0 dM1
  have zP := bP.lt
  have zQ := bQ.lt
  have zR := bR.lt
  have zX := bX.lt
  have zM := bM.lt
  clear bP bQ bR bX bM
  go_wp2_with fail
  have HXB := Lib.hid (al1 w3 (.cells #[.int .i64 sn, .slice an Nn cn] aT))
  have HBN : Hid (Bk (w3.alloc (.cells #[.int .i64 sn, .slice an Nn cn] aT)) w3.heap.size aT [.int .i64 sn, .slice an Nn cn]) := Lib.hid (Bk.newAt rfl _ _)
  have hsz : (w3.alloc (.cells #[.int .i64 sn, .slice an Nn cn] aT)).heap.size = w3.heap.size + 1 := by simp
  generalize w3.alloc (.cells #[.int .i64 sn, .slice an Nn cn] aT) = X at *
  clear dP0 dP1 dQ0 dQ1 dR0 dR1 dX0 dX1 dX2 dM0 dM1 zP zQ zR zX zM
  replace HBP := Lib.hid (HBP.out.below HXB.out)
  replace HBQ := Lib.hid (HBQ.out.below HXB.out)
  replace HBR := Lib.hid (HBR.out.below HXB.out)
  replace HBX := Lib.hid (HBX.out.below HXB.out)
  replace HBM := Lib.hid (HBM.out.below HXB.out)
  have HBx := Lib.hid (HB3.out.trans (HXB.out.mono HB3.out.size))
  replace H1 := Lib.hid (H1.out.below HBx.out)
  replace H2 := Lib.hid (H2.out.below HBx.out)
  replace H3 := Lib.hid (H3.out.below HBx.out)
  replace Hm := Lib.hid (Hm.out.below HXB.out)
  replace Hn := Lib.hid (Hn.out.below HXB.out)
  clear HXB HB3
  have bP := HBP.out
  have dP0 := bP.cell 0
  have dP1 := bP.cell 1
  have bQ := HBQ.out
  have dQ0 := bQ.cell 0
  have dQ1 := bQ.cell 1
  have bR := HBR.out
  have dR0 := bR.cell 0
  have dR1 := bR.cell 1
  have bX := HBX.out
  have dX0 := bX.cell 0
  have dX1 := bX.cell 1
  have dX2 := bX.cell 2
  have bM := HBM.out
  have dM0 := bM.cell 0
  have dM1 := bM.cell 1
  have bN := HBN.out
  have dN0 := bN.cell 0
  have dN1 := bN.cell 1
  simp only [List.getElem?_cons_zero, List.getElem?_cons_succ] at dP0 dP1 dQ0 dQ1 dR0 dR1 dX0 dX1 dX2 dM0 dM1 dN0 dN1
  have zP := bP.lt
  have zQ := bQ.lt
  have zR := bR.lt
  have zX := bX.lt
  have zM := bM.lt
  have zN := bN.lt
  clear bP bQ bR bX bM bN
  have HC : Hid (∀ w' : World, Below X.heap.size X w' → (Below X.heap.size X w' ∧ w'.cell? ⟨w.heap.size, 0, none⟩ = some (.int .i64 s1) ∧ w'.cell? ⟨w.heap.size, 1, none⟩ = some (.slice a1 N1 c1) ∧ w'.cell? ⟨w.heap.size + 1, 0, none⟩ = some (.int .i64 s2) ∧ w'.cell? ⟨w.heap.size + 1, 1, none⟩ = some (.slice a2 N2 c2) ∧ w'.cell? ⟨w.heap.size + 1 + 1, 0, none⟩ = some (.int .i64 s3) ∧ w'.cell? ⟨w.heap.size + 1 + 1, 1, none⟩ = some (.slice a3 N3 c3) ∧ w'.cell? ⟨w.heap.size + 1 + 1 + 1, 0, none⟩ = some (.int .i64 x1) ∧ w'.cell? ⟨w.heap.size + 1 + 1 + 1, 1, none⟩ = some (.int .i64 x2) ∧ w'.cell? ⟨w.heap.size + 1 + 1 + 1, 2, none⟩ = some (.int .i64 x3) ∧ w'.cell? ⟨w2.heap.size, 0, none⟩ = some (.int .i64 sm) ∧ w'.cell? ⟨w2.heap.size, 1, none⟩ = some (.slice am Nm cm) ∧ w'.cell? ⟨w3.heap.size, 0, none⟩ = some (.int .i64 sn) ∧ w'.cell? ⟨w3.heap.size, 1, none⟩ = some (.slice an Nn cn))) := Lib.hid (fun w' hb => ⟨hb, (hb.cell (p := ⟨w.heap.size, 0, none⟩) zP).trans dP0, (hb.cell (p := ⟨w.heap.size, 1, none⟩) zP).trans dP1, (hb.cell (p := ⟨w.heap.size + 1, 0, none⟩) zQ).trans dQ0, (hb.cell (p := ⟨w.heap.size + 1, 1, none⟩) zQ).trans dQ1, (hb.cell (p := ⟨w.heap.size + 1 + 1, 0, none⟩) zR).trans dR0, (hb.cell (p := ⟨w.heap.size + 1 + 1, 1, none⟩) zR).trans dR1, (hb.cell (p := ⟨w.heap.size + 1 + 1 + 1, 0, none⟩) zX).trans dX0, (hb.cell (p := ⟨w.heap.size + 1 + 1 + 1, 1, none⟩) zX).trans dX1, (hb.cell (p := ⟨w.heap.size + 1 + 1 + 1, 2, none⟩) zX).trans dX2, (hb.cell (p := ⟨w2.heap.size, 0, none⟩) zM).trans dM0, (hb.cell (p := ⟨w2.heap.size, 1, none⟩) zM).trans dM1, (hb.cell (p := ⟨w3.heap.size, 0, none⟩) zN).trans dN0, (hb.cell (p := ⟨w3.heap.size, 1, none⟩) zN).trans dN1⟩)
  have CM1 : Hid _ := Lib.hid (mthen X s2 s1 sm _ _ _ l2 l1 lm H2.out o2 H1.out o1 Hm.out om (by have := M1.out; have := M2.out; omega) (by have := Mm.out; omega) sm (by have h := mrg_comm (s1, l1) (s2, l2); rw [sameA_iff] at h; rw [← h.1, HMG.out]) true true (by rw [← HMG.out]; exact mrg_comm _ _) (by rw [← HMG.out]; exact mrg_comm _ _))
  have CM2 : Hid _ := Lib.hid (mthen X sm s3 sn _ _ _ lm l3 ln Hm.out om H3.out o3 Hn.out on (by have := Mm.out; have := M3.out; omega) Mn.out sn (by have h := mrg_all (s1, l1) (s2, l2) (s3, l3); rw [HMG.out, HAG.out, sameA_iff] at h; exact h.1) true true (by have h := mrg_all (s1, l1) (s2, l2) (s3, l3); rw [HMG.out, HAG.out, sameA_iff] at h; rw [sameA_iff]; exact ⟨h.1.symm, fun x => (h.2 x).symm⟩) (by have h := mrg_all (s1, l1) (s2, l2) (s3, l3); rw [HMG.out, HAG.out] at h; exact h))
  have CM3 : Hid _ := Lib.hid (mthen X s1 s1 s1 _ _ _ l1 l1 l1 H1.out o1 H1.out o1 H1.out o1 (by have := M1.out; omega) (by have := M1.out; omega) s1 (by have h := mrg_self (s1, l1); rw [sameA_iff] at h; exact h.1) true true (by have h := mrg_self (s1, l1); rw [sameA_iff] at h ⊢; exact ⟨h.1.symm, fun x => (h.2 x).symm⟩) (mrg_self _))
  have HD : Hid (w.heap.size ≤ X.heap.size) := Lib.hid (Nat.le_of_lt zP)
  clear dP0 dP1 dQ0 dQ1 dR0 dR1 dX0 dX1 dX2 dM0 dM1 dN0 dN1 zQ zR zX zM zN zP hsz
  refine wp_region_held_drew (S := (fun w' => Below X.heap.size X w' ∧ w'.cell? ⟨w.heap.size, 0, none⟩ = some (.int .i64 s1) ∧ w'.cell? ⟨w.heap.size, 1, none⟩ = some (.slice a1 N1 c1) ∧ w'.cell? ⟨w.heap.size + 1, 0, none⟩ = some (.int .i64 s2) ∧ w'.cell? ⟨w.heap.size + 1, 1, none⟩ = some (.slice a2 N2 c2) ∧ w'.cell? ⟨w.heap.size + 1 + 1, 0, none⟩ = some (.int .i64 s3) ∧ w'.cell? ⟨w.heap.size + 1 + 1, 1, none⟩ = some (.slice a3 N3 c3) ∧ w'.cell? ⟨w.heap.size + 1 + 1 + 1, 0, none⟩ = some (.int .i64 x1) ∧ w'.cell? ⟨w.heap.size + 1 + 1 + 1, 1, none⟩ = some (.int .i64 x2) ∧ w'.cell? ⟨w.heap.size + 1 + 1 + 1, 2, none⟩ = some (.int .i64 x3) ∧ w'.cell? ⟨w2.heap.size, 0, none⟩ = some (.int .i64 sm) ∧ w'.cell? ⟨w2.heap.size, 1, none⟩ = some (.slice am Nm cm) ∧ w'.cell? ⟨w3.heap.size, 0, none⟩ = some (.int .i64 sn) ∧ w'.cell? ⟨w3.heap.size, 1, none⟩ = some (.slice an Nn cn))) (by kernel_rfl) ?_ (fun hHeld => ?_)
  · ((first
      | exact HC.out _ hS5
      | exact HC.out _ (Below.alloc hHeld.1 (Below.size hHeld.1) _)
      | exact HC.out _ (Below.drew hHeld.1)
      | exact HC.out _ (Below.refl _ _).drew
      | exact HC.out _ (Below.refl _ _)
      | fail))
  refine wpAnyH_take (i := 0) (v := ?_) rfl (by kernel_rfl) (by kernel_rfl) (by kernel_rfl) (fun _ _ _ h => h) (Or.inl ⟨by rfl, ?_⟩) (by assumption) ?_
  rotate_left
  · (intro w hSw; (try dsimp only at hSw); go_simp; try rfl)
  try simp only [Act.put, List.setIfInBounds_toArray, List.set_cons_zero, List.set_cons_succ, List.getElem_toArray, List.getElem_cons_zero, List.getElem_cons_succ]
  refine wpAnyH_take (i := 1) (v := ?_) rfl (by kernel_rfl) (by kernel_rfl) (by kernel_rfl) (fun _ _ _ h => h) (Or.inl ⟨by rfl, ?_⟩) (by assumption) ?_
  rotate_left
  · (intro w hSw; (try dsimp only at hSw); go_simp; try rfl)
  try simp only [Act.put, List.setIfInBounds_toArray, List.set_cons_zero, List.set_cons_succ, List.getElem_toArray, List.getElem_cons_zero, List.getElem_cons_succ]
  refine wpAnyH_take (i := 2) (v := ?_) rfl (by kernel_rfl) (by kernel_rfl) (by kernel_rfl) (fun _ _ _ h => h) (Or.inl ⟨by rfl, ?_⟩) (by assumption) ?_
  rotate_left
  · (intro w hSw; (try dsimp only at hSw); go_simp; try rfl)
  try simp only [Act.put, List.setIfInBounds_toArray, List.set_cons_zero, List.set_cons_succ, List.getElem_toArray, List.getElem_cons_zero, List.getElem_cons_succ]
  refine wpAnyH_ready (rs := [3]) (by kernel_rfl) (by simp) ?_
  refine (AllReadyH.cons rfl (fun K hK => ?_) AllReadyH.nil)
  go_simp
  (go_at_call 7; refine (CM1.out _ hHeld.1).mono ?_; rintro e w5 ⟨⟨a5, n5, c5, rfl, HSa, HSb⟩, hbw5⟩; have hS5 : Below X.heap.size X w5 := below_self hHeld.1 hbw5)
  refine hK.out _ _ ?_ (fun hHeldN => ?_)
  · ((first
      | exact HC.out _ hS5
      | exact HC.out _ (Below.alloc hHeld.1 (Below.size hHeld.1) _)
      | exact HC.out _ (Below.drew hHeld.1)
      | exact HC.out _ (Below.refl _ _).drew
      | exact HC.out _ (Below.refl _ _)
      | fail))
  clear hK K
  try clear hS5 hbw5
  try clear hPrev
  have hPrev := Lib.hid hHeld.1
  clear hHeld
  have hHeld := hHeldN
  clear hHeldN
  try simp only [Act.put, List.setIfInBounds_toArray, List.set_cons_zero, List.set_cons_succ, List.getElem_toArray, List.getElem_cons_zero, List.getElem_cons_succ]
  refine wpAnyH_ready (rs := [4]) (by kernel_rfl) (by simp) ?_
  refine (AllReadyH.cons rfl (fun K hK => ?_) AllReadyH.nil)
  go_simp
  (go_at_call 9; refine HSa.out.mono ?_; rintro e w5 ⟨rfl, hbw5⟩; have hS5 : Below X.heap.size X w5 := below_self hHeld.1 hbw5; clear HSa HSb)
  refine hK.out _ _ ?_ (fun hHeldN => ?_)
  · ((first
      | exact HC.out _ hS5
      | exact HC.out _ (Below.alloc hHeld.1 (Below.size hHeld.1) _)
      | exact HC.out _ (Below.drew hHeld.1)
      | exact HC.out _ (Below.refl _ _).drew
      | exact HC.out _ (Below.refl _ _)
      | fail))
  clear hK K
  try clear hS5 hbw5
  try clear hPrev
  have hPrev := Lib.hid hHeld.1
  clear hHeld
  have hHeld := hHeldN
  clear hHeldN
  try simp only [Act.put, List.setIfInBounds_toArray, List.set_cons_zero, List.set_cons_succ, List.getElem_toArray, List.getElem_cons_zero, List.getElem_cons_succ]
  refine wpAnyH_take (i := 5) (v := ?_) rfl (by kernel_rfl) (by kernel_rfl) (by kernel_rfl) (fun _ _ _ h => h) (Or.inl ⟨by rfl, ?_⟩) (by assumption) ?_
  rotate_left
  · (intro w hSw; (try dsimp only at hSw); go_simp; try rfl)
  try simp only [Act.put, List.setIfInBounds_toArray, List.set_cons_zero, List.set_cons_succ, List.getElem_toArray, List.getElem_cons_zero, List.getElem_cons_succ]
  refine wpAnyH_take (i := 6) (v := ?_) rfl (by kernel_rfl) (by kernel_rfl) (by kernel_rfl) (fun _ _ _ h => h) (Or.inl ⟨by rfl, ?_⟩) (by assumption) ?_
  rotate_left
  · (intro w hSw; (try dsimp only at hSw); go_simp; try rfl)
  try simp only [Act.put, List.setIfInBounds_toArray, List.set_cons_zero, List.set_cons_succ, List.getElem_toArray, List.getElem_cons_zero, List.getElem_cons_succ]
  refine wpAnyH_take (i := 7) (v := ?_) rfl (by kernel_rfl) (by kernel_rfl) (by kernel_rfl) (fun _ _ _ h => h) (Or.inl ⟨by rfl, ?_⟩) (by assumption) ?_
  rotate_left
  · (intro w hSw; (try dsimp only at hSw); go_simp; try rfl)
  try simp only [Act.put, List.setIfInBounds_toArray, List.set_cons_zero, List.set_cons_succ, List.getElem_toArray, List.getElem_cons_zero, List.getElem_cons_succ]
  refine wpAnyH_take (i := 9) (v := ?_) rfl (by kernel_rfl) (by kernel_rfl) (by kernel_rfl) (fun _ _ _ h => h) (Or.inl ⟨by rfl, ?_⟩) (by assumption) ?_
  rotate_left
  · (intro w hSw; (try dsimp only at hSw); go_simp; try rfl)
  try simp only [Act.put, List.setIfInBounds_toArray, List.set_cons_zero, List.set_cons_succ, List.getElem_toArray, List.getElem_cons_zero, List.getElem_cons_succ]
  refine wpAnyH_ready (rs := [8]) (by kernel_rfl) (by simp) ?_
  refine (AllReadyH.cons rfl (fun K hK => ?_) AllReadyH.nil)
  go_simp
  (go_at_call 7; refine (CM2.out _ hHeld.1).mono ?_; rintro e w5 ⟨⟨a5, n5, c5, rfl, HSa, HSb⟩, hbw5⟩; have hS5 : Below X.heap.size X w5 := below_self hHeld.1 hbw5)
  refine hK.out _ _ ?_ (fun hHeldN => ?_)
  · ((first
      | exact HC.out _ hS5
      | exact HC.out _ (Below.alloc hHeld.1 (Below.size hHeld.1) _)
      | exact HC.out _ (Below.drew hHeld.1)
      | exact HC.out _ (Below.refl _ _).drew
      | exact HC.out _ (Below.refl _ _)
      | fail))
  clear hK K
  try clear hS5 hbw5
  try clear hPrev
  have hPrev := Lib.hid hHeld.1
  clear hHeld
  have hHeld := hHeldN
  clear hHeldN
  try simp only [Act.put, List.setIfInBounds_toArray, List.set_cons_zero, List.set_cons_succ, List.getElem_toArray, List.getElem_cons_zero, List.getElem_cons_succ]
  refine wpAnyH_ready (rs := [10]) (by kernel_rfl) (by simp) ?_
  refine (AllReadyH.cons rfl (fun K hK => ?_) AllReadyH.nil)
  go_simp
  (go_at_call 9; refine HSb.out.mono ?_; rintro e w5 ⟨rfl, hbw5⟩; have hS5 : Below X.heap.size X w5 := below_self hHeld.1 hbw5; clear HSa HSb)
  refine hK.out _ _ ?_ (fun hHeldN => ?_)
  · ((first
      | exact HC.out _ hS5
      | exact HC.out _ (Below.alloc hHeld.1 (Below.size hHeld.1) _)
      | exact HC.out _ (Below.drew hHeld.1)
      | exact HC.out _ (Below.refl _ _).drew
      | exact HC.out _ (Below.refl _ _)
      | fail))
  clear hK K
  try clear hS5 hbw5
  try clear hPrev
  have hPrev := Lib.hid hHeld.1
  clear hHeld
  have hHeld := hHeldN
  clear hHeldN
  try simp only [Act.put, List.setIfInBounds_toArray, List.set_cons_zero, List.set_cons_succ, List.getElem_toArray, List.getElem_cons_zero, List.getElem_cons_succ]
  refine wpAnyH_take (i := 11) (v := ?_) rfl (by kernel_rfl) (by kernel_rfl) (by kernel_rfl) (fun _ _ _ h => h) (Or.inl ⟨by rfl, ?_⟩) (by assumption) ?_
  rotate_left
  · (intro w hSw; (try dsimp only at hSw); go_simp; try rfl)
  try simp only [Act.put, List.setIfInBounds_toArray, List.set_cons_zero, List.set_cons_succ, List.getElem_toArray, List.getElem_cons_zero, List.getElem_cons_succ]
  refine wpAnyH_take (i := 12) (v := ?_) rfl (by kernel_rfl) (by kernel_rfl) (by kernel_rfl) (fun _ _ _ h => h) (Or.inl ⟨by rfl, ?_⟩) (by assumption) ?_
  rotate_left
  · (intro w hSw; (try dsimp only at hSw); go_simp; try rfl)
  try simp only [Act.put, List.setIfInBounds_toArray, List.set_cons_zero, List.set_cons_succ, List.getElem_toArray, List.getElem_cons_zero, List.getElem_cons_succ]
  refine wpAnyH_take (i := 13) (v := ?_) rfl (by kernel_rfl) (by kernel_rfl) (by kernel_rfl) (fun _ _ _ h => h) (Or.inl ⟨by rfl, ?_⟩) (by assumption) ?_
  rotate_left
  · (intro w hSw; (try dsimp only at hSw); go_simp; try rfl)
  try simp only [Act.put, List.setIfInBounds_toArray, List.set_cons_zero, List.set_cons_succ, List.getElem_toArray, List.getElem_cons_zero, List.getElem_cons_succ]
  refine wpAnyH_take (i := 14) (v := ?_) rfl (by kernel_rfl) (by kernel_rfl) (by kernel_rfl) (fun _ _ _ h => h) (Or.inl ⟨by rfl, ?_⟩) (by assumption) ?_
  rotate_left
  · (intro w hSw; (try dsimp only at hSw); go_simp; try rfl)
  try simp only [Act.put, List.setIfInBounds_toArray, List.set_cons_zero, List.set_cons_succ, List.getElem_toArray, List.getElem_cons_zero, List.getElem_cons_succ]
  refine wpAnyH_take (i := 16) (v := ?_) rfl (by kernel_rfl) (by kernel_rfl) (by kernel_rfl) (fun _ _ _ h => h) (Or.inl ⟨by rfl, ?_⟩) (by assumption) ?_
  rotate_left
  · (intro w hSw; (try dsimp only at hSw); go_simp; try rfl)
  try simp only [Act.put, List.setIfInBounds_toArray, List.set_cons_zero, List.set_cons_succ, List.getElem_toArray, List.getElem_cons_zero, List.getElem_cons_succ]
  refine wpAnyH_ready (rs := [15]) (by kernel_rfl) (by simp) ?_
  refine (AllReadyH.cons rfl (fun K hK => ?_) AllReadyH.nil)
  go_simp
  (go_at_call 7; refine (CM3.out _ hHeld.1).mono ?_; rintro e w5 ⟨⟨a5, n5, c5, rfl, HSa, HSb⟩, hbw5⟩; have hS5 : Below X.heap.size X w5 := below_self hHeld.1 hbw5)
  refine hK.out _ _ ?_ (fun hHeldN => ?_)
  · ((first
      | exact HC.out _ hS5
      | exact HC.out _ (Below.alloc hHeld.1 (Below.size hHeld.1) _)
      | exact HC.out _ (Below.drew hHeld.1)
      | exact HC.out _ (Below.refl _ _).drew
      | exact HC.out _ (Below.refl _ _)
      | fail))
  clear hK K
  try clear hS5 hbw5
  try clear hPrev
  have hPrev := Lib.hid hHeld.1
  clear hHeld
  have hHeld := hHeldN
  clear hHeldN
  try simp only [Act.put, List.setIfInBounds_toArray, List.set_cons_zero, List.set_cons_succ, List.getElem_toArray, List.getElem_cons_zero, List.getElem_cons_succ]
  refine wpAnyH_ready (rs := [17]) (by kernel_rfl) (by simp) ?_
  refine (AllReadyH.cons rfl (fun K hK => ?_) AllReadyH.nil)
  go_simp
  (go_at_call 9; refine HSb.out.mono ?_; rintro e w5 ⟨rfl, hbw5⟩; have hS5 : Below X.heap.size X w5 := below_self hHeld.1 hbw5; clear HSa HSb)
  refine hK.out _ _ ?_ (fun hHeldN => ?_)
  · ((first
      | exact HC.out _ hS5
      | exact HC.out _ (Below.alloc hHeld.1 (Below.size hHeld.1) _)
      | exact HC.out _ (Below.drew hHeld.1)
      | exact HC.out _ (Below.refl _ _).drew
      | exact HC.out _ (Below.refl _ _)
      | fail))
  clear hK K
  try clear hS5 hbw5
  try clear hPrev
  have hPrev := Lib.hid hHeld.1
  clear hHeld
  have hHeld := hHeldN
  clear hHeldN
  try simp only [Act.put, List.setIfInBounds_toArray, List.set_cons_zero, List.set_cons_succ, List.getElem_toArray, List.getElem_cons_zero, List.getElem_cons_succ]
  refine wpAnyH_take (i := 18) (v := ?_) rfl (by kernel_rfl) (by kernel_rfl) (by kernel_rfl) (fun _ _ _ h => h) (Or.inl ⟨by rfl, ?_⟩) (by assumption) ?_
  rotate_left
  · (intro w hSw; (try dsimp only at hSw); go_simp; try rfl)
  try simp only [Act.put, List.setIfInBounds_toArray, List.set_cons_zero, List.set_cons_succ, List.getElem_toArray, List.getElem_cons_zero, List.getElem_cons_succ]
  refine wpAnyH_take (i := 19) (v := ?_) rfl (by kernel_rfl) (by kernel_rfl) (by kernel_rfl) (fun _ _ _ h => h) (Or.inl ⟨by rfl, ?_⟩) (by assumption) ?_
  rotate_left
  · (intro w hSw; (try dsimp only at hSw); go_simp; try rfl)
  try simp only [Act.put, List.setIfInBounds_toArray, List.set_cons_zero, List.set_cons_succ, List.getElem_toArray, List.getElem_cons_zero, List.getElem_cons_succ]
  refine wpAnyH_done (by kernel_rfl) ?_ _
  obtain ⟨Y, hY⟩ : ∃ Y, Y = w5 := ⟨_, rfl⟩
  subst hY
  have HBY := Lib.hid hHeld.1
  clear hHeld hPrev HC CM1 CM2 CM3
  try clear hS5
  try clear hbw5
  replace HBP := Lib.hid (HBP.out.below HBY.out)
  replace HBQ := Lib.hid (HBQ.out.below HBY.out)
  replace HBR := Lib.hid (HBR.out.below HBY.out)
  replace HBX := Lib.hid (HBX.out.below HBY.out)
  replace HBM := Lib.hid (HBM.out.below HBY.out)
  replace HBN := Lib.hid (HBN.out.below HBY.out)
  have Hm9 := Lib.hid (Hm.out.below HBY.out)
  have H19 := Lib.hid (H1.out.below HBY.out)
  have H29 := Lib.hid (H2.out.below HBY.out)
  have HBw := Lib.hid (HBx.out.trans (HBY.out.mono HD.out))
  have bP := HBP.out
  have dP0 := bP.cell 0
  have dP1 := bP.cell 1
  have bQ := HBQ.out
  have dQ0 := bQ.cell 0
  have dQ1 := bQ.cell 1
  have bX := HBX.out
  have dX0 := bX.cell 0
  have dX1 := bX.cell 1
  have dX2 := bX.cell 2
  have bM := HBM.out
  have dM0 := bM.cell 0
  have dM1 := bM.cell 1
  simp only [List.getElem?_cons_zero, List.getElem?_cons_succ] at dP0 dP1 dQ0 dQ1 dX0 dX1 dX2 dM0 dM1
  have zP := bP.lt
  have zQ := bQ.lt
  have zX := bX.lt
  have zM := bM.lt
  clear bP bQ bX bM
  have hge := mrg_ge (s1, l1) (s2, l2)
  rw [HMG.out] at hge
  simp only at hge
  have g1 : decide (s1 ≤ sm) = true := decide_eq_true hge.1
  have g2 : decide (s2 ≤ sm) = true := decide_eq_true hge.2
  have hrg := mrg_rgt (s1, l1) (s2, l2)
  have hhs := mrg_has (s1, l1) (s2, l2) (x1, x2, x3)
  rw [HMG.out] at hrg hhs
  simp only at hrg hhs
  have HC : Hid (∀ w' : World, Below Y.heap.size Y w' → (Below Y.heap.size Y w' ∧ w'.cell? ⟨w.heap.size, 0, none⟩ = some (.int .i64 s1) ∧ w'.cell? ⟨w.heap.size, 1, none⟩ = some (.slice a1 N1 c1) ∧ w'.cell? ⟨w.heap.size + 1, 0, none⟩ = some (.int .i64 s2) ∧ w'.cell? ⟨w.heap.size + 1, 1, none⟩ = some (.slice a2 N2 c2) ∧ w'.cell? ⟨w.heap.size + 1 + 1 + 1, 0, none⟩ = some (.int .i64 x1) ∧ w'.cell? ⟨w.heap.size + 1 + 1 + 1, 1, none⟩ = some (.int .i64 x2) ∧ w'.cell? ⟨w.heap.size + 1 + 1 + 1, 2, none⟩ = some (.int .i64 x3) ∧ w'.cell? ⟨w2.heap.size, 0, none⟩ = some (.int .i64 sm) ∧ w'.cell? ⟨w2.heap.size, 1, none⟩ = some (.slice am Nm cm))) := Lib.hid (fun w' hb => ⟨hb, (hb.cell (p := ⟨w.heap.size, 0, none⟩) zP).trans dP0, (hb.cell (p := ⟨w.heap.size, 1, none⟩) zP).trans dP1, (hb.cell (p := ⟨w.heap.size + 1, 0, none⟩) zQ).trans dQ0, (hb.cell (p := ⟨w.heap.size + 1, 1, none⟩) zQ).trans dQ1, (hb.cell (p := ⟨w.heap.size + 1 + 1 + 1, 0, none⟩) zX).trans dX0, (hb.cell (p := ⟨w.heap.size + 1 + 1 + 1, 1, none⟩) zX).trans dX1, (hb.cell (p := ⟨w.heap.size + 1 + 1 + 1, 2, none⟩) zX).trans dX2, (hb.cell (p := ⟨w2.heap.size, 0, none⟩) zM).trans dM0, (hb.cell (p := ⟨w2.heap.size, 1, none⟩) zM).trans dM1⟩)
  have CR : Hid (∀ W : World, Below Y.heap.size Y W → Calls Try.prog 10 #[.slice am Nm cm] W fun e w' => e = .returned (.bool true) ∧ Below W.heap.size W w') := Lib.hid (fun W hW => by
    have h := right_any _ lm W (Hm9.out.below hW) (by have := Mm.out; omega)
    rw [hrg] at h
    exact h)
  obtain ⟨rC0, hC0⟩ : ∃ r, hasI lm (x1, x2, x3) = r := ⟨_, rfl⟩
  have C0 : Hid (∀ W : World, Below Y.heap.size Y W → Calls Try.prog 11 #[.slice am Nm cm, .agg #[.int .i64 x1, .int .i64 x2, .int .i64 x3]] W fun e w' => e = .returned (.bool rC0) ∧ Below W.heap.size W w') := Lib.hid (fun W hW => by
    have h := has_any _ lm x1 x2 x3 W (Hm9.out.below hW) (by have := Mm.out; omega)
    rw [hC0] at h
    exact h)
  obtain ⟨rC1, hC1⟩ : ∃ r, hasI l1 (x1, x2, x3) = r := ⟨_, rfl⟩
  have C1 : Hid (∀ W : World, Below Y.heap.size Y W → Calls Try.prog 11 #[.slice a1 N1 c1, .agg #[.int .i64 x1, .int .i64 x2, .int .i64 x3]] W fun e w' => e = .returned (.bool rC1) ∧ Below W.heap.size W w') := Lib.hid (fun W hW => by
    have h := has_any _ l1 x1 x2 x3 W (H19.out.below hW) (by have := M1.out; omega)
    rw [hC1] at h
    exact h)
  obtain ⟨rC2, hC2⟩ : ∃ r, hasI l2 (x1, x2, x3) = r := ⟨_, rfl⟩
  have C2 : Hid (∀ W : World, Below Y.heap.size Y W → Calls Try.prog 11 #[.slice a2 N2 c2, .agg #[.int .i64 x1, .int .i64 x2, .int .i64 x3]] W fun e w' => e = .returned (.bool rC2) ∧ Below W.heap.size W w') := Lib.hid (fun W hW => by
    have h := has_any _ l2 x1 x2 x3 W (H29.out.below hW) (by have := M2.out; omega)
    rw [hC2] at h
    exact h)
  rw [hC0, hC1, hC2] at hhs
  have HD9 : Hid (w.heap.size ≤ Y.heap.size) := Lib.hid (Nat.le_of_lt zP)
  clear hC0 hC1 hC2 hrg hge dP0 dP1 dQ0 dQ1 dX0 dX1 dX2 dM0 dM1 zP zQ zX zM
  subst hhs
  cases rC1 with
  | true =>
    simp only [Bool.true_or] at C0
    go_wp2_with fail
    refine wp_region_held_drew (S := (fun w' => Below Y.heap.size Y w' ∧ w'.cell? ⟨w.heap.size, 0, none⟩ = some (.int .i64 s1) ∧ w'.cell? ⟨w.heap.size, 1, none⟩ = some (.slice a1 N1 c1) ∧ w'.cell? ⟨w.heap.size + 1, 0, none⟩ = some (.int .i64 s2) ∧ w'.cell? ⟨w.heap.size + 1, 1, none⟩ = some (.slice a2 N2 c2) ∧ w'.cell? ⟨w.heap.size + 1 + 1 + 1, 0, none⟩ = some (.int .i64 x1) ∧ w'.cell? ⟨w.heap.size + 1 + 1 + 1, 1, none⟩ = some (.int .i64 x2) ∧ w'.cell? ⟨w.heap.size + 1 + 1 + 1, 2, none⟩ = some (.int .i64 x3) ∧ w'.cell? ⟨w2.heap.size, 0, none⟩ = some (.int .i64 sm) ∧ w'.cell? ⟨w2.heap.size, 1, none⟩ = some (.slice am Nm cm))) (by kernel_rfl) ?_ (fun hHeld => ?_)
    · ((first
      | exact HC.out _ hS5
      | exact HC.out _ (Below.alloc hHeld.1 (Below.size hHeld.1) _)
      | exact HC.out _ (Below.drew hHeld.1)
      | exact HC.out _ (Below.refl _ _).drew
      | exact HC.out _ (Below.refl _ _)
      | fail))
    refine wpAnyH_take (i := 0) (v := ?_) rfl (by kernel_rfl) (by kernel_rfl) (by kernel_rfl) (fun _ _ _ h => h) (Or.inl ⟨by rfl, ?_⟩) (by assumption) ?_
    rotate_left
    · (intro w hSw; (try dsimp only at hSw); go_simp; try rfl)
    try simp only [Act.put, List.setIfInBounds_toArray, List.set_cons_zero, List.set_cons_succ, List.getElem_toArray, List.getElem_cons_zero, List.getElem_cons_succ]
    refine wpAnyH_take (i := 1) (v := ?_) rfl (by kernel_rfl) (by kernel_rfl) (by kernel_rfl) (fun _ _ _ h => h) (Or.inl ⟨by rfl, ?_⟩) (by assumption) ?_
    rotate_left
    · (intro w hSw; (try dsimp only at hSw); go_simp; try rfl)
    try simp only [Act.put, List.setIfInBounds_toArray, List.set_cons_zero, List.set_cons_succ, List.getElem_toArray, List.getElem_cons_zero, List.getElem_cons_succ]
    refine wpAnyH_take (i := 2) (v := ?_) rfl (by kernel_rfl) (by kernel_rfl) (by kernel_rfl) (fun _ _ _ h => h) (Or.inl ⟨by rfl, ?_⟩) (by assumption) ?_
    rotate_left
    · (intro w hSw; (try dsimp only at hSw); go_simp; try rfl)
    try simp only [Act.put, List.setIfInBounds_toArray, List.set_cons_zero, List.set_cons_succ, List.getElem_toArray, List.getElem_cons_zero, List.getElem_cons_succ]
    refine wpAnyH_take (i := 3) (v := ?_) rfl (by kernel_rfl) (by kernel_rfl) (by kernel_rfl) (fun _ _ _ h => h) (Or.inl ⟨by rfl, ?_⟩) (by assumption) ?_
    rotate_left
    · (intro w hSw; (try dsimp only at hSw); go_simp; try rfl)
    try simp only [Act.put, List.setIfInBounds_toArray, List.set_cons_zero, List.set_cons_succ, List.getElem_toArray, List.getElem_cons_zero, List.getElem_cons_succ]
    refine wpAnyH_take (i := 4) (v := ?_) rfl (by kernel_rfl) (by kernel_rfl) (by kernel_rfl) (fun _ _ _ h => h) (Or.inl ⟨by rfl, ?_⟩) (by assumption) ?_
    rotate_left
    · (intro w hSw; (try dsimp only at hSw); go_simp; try rfl)
    try simp only [Act.put, List.setIfInBounds_toArray, List.set_cons_zero, List.set_cons_succ, List.getElem_toArray, List.getElem_cons_zero, List.getElem_cons_succ]
    refine wpAnyH_take (i := 5) (v := ?_) rfl (by kernel_rfl) (by kernel_rfl) (by kernel_rfl) (fun _ _ _ h => h) (Or.inl ⟨by rfl, ?_⟩) (by assumption) ?_
    rotate_left
    · (intro w hSw; (try dsimp only at hSw); go_simp; try rfl)
    try simp only [Act.put, List.setIfInBounds_toArray, List.set_cons_zero, List.set_cons_succ, List.getElem_toArray, List.getElem_cons_zero, List.getElem_cons_succ]
    refine wpAnyH_take (i := 6) (v := ?_) rfl (by kernel_rfl) (by kernel_rfl) (by kernel_rfl) (fun _ _ _ h => h) (Or.inl ⟨by rfl, ?_⟩) (by assumption) ?_
    rotate_left
    · (intro w hSw; (try dsimp only at hSw); go_simp; try rfl)
    try simp only [Act.put, List.setIfInBounds_toArray, List.set_cons_zero, List.set_cons_succ, List.getElem_toArray, List.getElem_cons_zero, List.getElem_cons_succ]
    refine wpAnyH_take (i := 7) (v := ?_) rfl (by kernel_rfl) (by kernel_rfl) (by kernel_rfl) (fun _ _ _ h => h) (Or.inl ⟨by rfl, ?_⟩) (by assumption) ?_
    rotate_left
    · (intro w hSw; (try dsimp only at hSw); go_simp; try rfl)
    try simp only [Act.put, List.setIfInBounds_toArray, List.set_cons_zero, List.set_cons_succ, List.getElem_toArray, List.getElem_cons_zero, List.getElem_cons_succ]
    refine wpAnyH_take (i := 8) (v := ?_) rfl (by kernel_rfl) (by kernel_rfl) (by kernel_rfl) (fun _ _ _ h => h) (Or.inl ⟨by rfl, ?_⟩) (by assumption) ?_
    rotate_left
    · (intro w hSw; (try dsimp only at hSw); go_simp; try rfl)
    try simp only [Act.put, List.setIfInBounds_toArray, List.set_cons_zero, List.set_cons_succ, List.getElem_toArray, List.getElem_cons_zero, List.getElem_cons_succ]
    refine wpAnyH_take (i := 9) (v := ?_) rfl (by kernel_rfl) (by kernel_rfl) (by kernel_rfl) (fun _ _ _ h => h) (Or.inl ⟨by rfl, ?_⟩) (by assumption) ?_
    rotate_left
    · (intro w hSw; (try dsimp only at hSw); go_simp; try rfl)
    try simp only [Act.put, List.setIfInBounds_toArray, List.set_cons_zero, List.set_cons_succ, List.getElem_toArray, List.getElem_cons_zero, List.getElem_cons_succ]
    refine wpAnyH_take (i := 10) (v := ?_) rfl (by kernel_rfl) (by kernel_rfl) (by kernel_rfl) (fun _ _ _ h => h) (Or.inl ⟨by rfl, ?_⟩) (by assumption) ?_
    rotate_left
    · (intro w hSw; (try dsimp only at hSw); go_simp; try rfl)
    try simp only [Act.put, List.setIfInBounds_toArray, List.set_cons_zero, List.set_cons_succ, List.getElem_toArray, List.getElem_cons_zero, List.getElem_cons_succ]
    refine wpAnyH_take (i := 11) (v := ?_) rfl (by kernel_rfl) (by kernel_rfl) (by kernel_rfl) (fun _ _ _ h => h) (Or.inl ⟨by rfl, ?_⟩) (by assumption) ?_
    rotate_left
    · (intro w hSw; (try dsimp only at hSw); go_simp; try rfl)
    try simp only [Act.put, List.setIfInBounds_toArray, List.set_cons_zero, List.set_cons_succ, List.getElem_toArray, List.getElem_cons_zero, List.getElem_cons_succ]
    refine wpAnyH_take (i := 12) (v := ?_) rfl (by kernel_rfl) (by kernel_rfl) (by kernel_rfl) (fun _ _ _ h => h) (Or.inl ⟨by rfl, ?_⟩) (by assumption) ?_
    rotate_left
    · (intro w hSw; (try dsimp only at hSw); go_simp; try rfl)
    try simp only [Act.put, List.setIfInBounds_toArray, List.set_cons_zero, List.set_cons_succ, List.getElem_toArray, List.getElem_cons_zero, List.getElem_cons_succ]
    refine wpAnyH_take (i := 13) (v := ?_) rfl (by kernel_rfl) (by kernel_rfl) (by kernel_rfl) (fun _ _ _ h => h) (Or.inl ⟨by rfl, ?_⟩) (by assumption) ?_
    rotate_left
    · (intro w hSw; (try dsimp only at hSw); go_simp; try rfl)
    try simp only [Act.put, List.setIfInBounds_toArray, List.set_cons_zero, List.set_cons_succ, List.getElem_toArray, List.getElem_cons_zero, List.getElem_cons_succ]
    refine wpAnyH_take (i := 14) (v := ?_) rfl (by kernel_rfl) (by kernel_rfl) (by kernel_rfl) (fun _ _ _ h => h) (Or.inl ⟨by rfl, ?_⟩) (by assumption) ?_
    rotate_left
    · (intro w hSw; (try dsimp only at hSw); go_simp; try rfl)
    try simp only [Act.put, List.setIfInBounds_toArray, List.set_cons_zero, List.set_cons_succ, List.getElem_toArray, List.getElem_cons_zero, List.getElem_cons_succ]
    refine wpAnyH_take (i := 15) (v := ?_) rfl (by kernel_rfl) (by kernel_rfl) (by kernel_rfl) (fun _ _ _ h => h) (Or.inl ⟨by rfl, ?_⟩) (by assumption) ?_
    rotate_left
    · (intro w hSw; (try dsimp only at hSw); go_simp; try rfl)
    try simp only [Act.put, List.setIfInBounds_toArray, List.set_cons_zero, List.set_cons_succ, List.getElem_toArray, List.getElem_cons_zero, List.getElem_cons_succ]
    refine wpAnyH_take (i := 16) (v := ?_) rfl (by kernel_rfl) (by kernel_rfl) (by kernel_rfl) (fun _ _ _ h => h) (Or.inl ⟨by rfl, ?_⟩) (by assumption) ?_
    rotate_left
    · (intro w hSw; (try dsimp only at hSw); go_simp; try rfl)
    try simp only [Act.put, List.setIfInBounds_toArray, List.set_cons_zero, List.set_cons_succ, List.getElem_toArray, List.getElem_cons_zero, List.getElem_cons_succ]
    refine wpAnyH_take (i := 17) (v := ?_) rfl (by kernel_rfl) (by kernel_rfl) (by kernel_rfl) (fun _ _ _ h => h) (Or.inl ⟨by rfl, ?_⟩) (by assumption) ?_
    rotate_left
    · (intro w hSw; (try dsimp only at hSw); go_simp; try rfl)
    try simp only [Act.put, List.setIfInBounds_toArray, List.set_cons_zero, List.set_cons_succ, List.getElem_toArray, List.getElem_cons_zero, List.getElem_cons_succ]
    refine wpAnyH_take (i := 18) (v := ?_) rfl (by kernel_rfl) (by kernel_rfl) (by kernel_rfl) (fun _ _ _ h => h) (Or.inl ⟨by rfl, ?_⟩) (by assumption) ?_
    rotate_left
    · (intro w hSw; (try dsimp only at hSw); go_simp; try rfl)
    try simp only [Act.put, List.setIfInBounds_toArray, List.set_cons_zero, List.set_cons_succ, List.getElem_toArray, List.getElem_cons_zero, List.getElem_cons_succ]
    refine wpAnyH_take (i := 19) (v := ?_) rfl (by kernel_rfl) (by kernel_rfl) (by kernel_rfl) (fun _ _ _ h => h) (Or.inl ⟨by rfl, ?_⟩) (by assumption) ?_
    rotate_left
    · (intro w hSw; (try dsimp only at hSw); go_simp; try rfl)
    try simp only [Act.put, List.setIfInBounds_toArray, List.set_cons_zero, List.set_cons_succ, List.getElem_toArray, List.getElem_cons_zero, List.getElem_cons_succ]
    refine wpAnyH_take (i := 20) (v := ?_) rfl (by kernel_rfl) (by kernel_rfl) (by kernel_rfl) (fun _ _ _ h => h) (Or.inl ⟨by rfl, ?_⟩) (by assumption) ?_
    rotate_left
    · (intro w hSw; (try dsimp only at hSw); go_simp; try rfl)
    try simp only [Act.put, List.setIfInBounds_toArray, List.set_cons_zero, List.set_cons_succ, List.getElem_toArray, List.getElem_cons_zero, List.getElem_cons_succ]
    refine wpAnyH_ready (rs := [21]) (by kernel_rfl) (by simp) ?_
    refine (AllReadyH.cons rfl (fun K hK => ?_) AllReadyH.nil)
    go_simp
    (go_at_call 10; refine (CR.out _ hHeld.1).mono ?_; rintro e w5 ⟨rfl, hbw5⟩; have hS5 : Below Y.heap.size Y w5 := below_self hHeld.1 hbw5)
    refine hK.out _ _ ?_ (fun hHeldN => ?_)
    · ((first
      | exact HC.out _ hS5
      | exact HC.out _ (Below.alloc hHeld.1 (Below.size hHeld.1) _)
      | exact HC.out _ (Below.drew hHeld.1)
      | exact HC.out _ (Below.refl _ _).drew
      | exact HC.out _ (Below.refl _ _)
      | fail))
    clear hK K
    try clear hS5 hbw5
    try clear hPrev
    have hPrev := Lib.hid hHeld.1
    clear hHeld
    have hHeld := hHeldN
    clear hHeldN
    try simp only [Act.put, List.setIfInBounds_toArray, List.set_cons_zero, List.set_cons_succ, List.getElem_toArray, List.getElem_cons_zero, List.getElem_cons_succ]
    refine wpAnyH_take (i := 22) (v := ?_) rfl (by kernel_rfl) (by kernel_rfl) (by kernel_rfl) (fun _ _ _ h => h) (Or.inl ⟨by rfl, ?_⟩) (by assumption) ?_
    rotate_left
    · (intro w hSw; (try dsimp only at hSw); go_simp; try rfl)
    try simp only [Act.put, List.setIfInBounds_toArray, List.set_cons_zero, List.set_cons_succ, List.getElem_toArray, List.getElem_cons_zero, List.getElem_cons_succ]
    refine wpAnyH_take (i := 23) (v := ?_) rfl (by kernel_rfl) (by kernel_rfl) (by kernel_rfl) (fun _ _ _ h => h) (Or.inl ⟨by rfl, ?_⟩) (by assumption) ?_
    rotate_left
    · (intro w hSw; (try dsimp only at hSw); go_simp; try rfl)
    try simp only [Act.put, List.setIfInBounds_toArray, List.set_cons_zero, List.set_cons_succ, List.getElem_toArray, List.getElem_cons_zero, List.getElem_cons_succ]
    refine wpAnyH_take (i := 24) (v := ?_) rfl (by kernel_rfl) (by kernel_rfl) (by kernel_rfl) (fun _ _ _ h => h) (Or.inl ⟨by rfl, ?_⟩) (by assumption) ?_
    rotate_left
    · (intro w hSw; (try dsimp only at hSw); go_simp; try rfl)
    try simp only [Act.put, List.setIfInBounds_toArray, List.set_cons_zero, List.set_cons_succ, List.getElem_toArray, List.getElem_cons_zero, List.getElem_cons_succ]
    refine wpAnyH_take (i := 25) (v := ?_) rfl (by kernel_rfl) (by kernel_rfl) (by kernel_rfl) (fun _ _ _ h => h) (Or.inl ⟨by rfl, ?_⟩) (by assumption) ?_
    rotate_left
    · (intro w hSw; (try dsimp only at hSw); go_simp; try rfl)
    try simp only [Act.put, List.setIfInBounds_toArray, List.set_cons_zero, List.set_cons_succ, List.getElem_toArray, List.getElem_cons_zero, List.getElem_cons_succ]
    refine wpAnyH_take (i := 26) (v := ?_) rfl (by kernel_rfl) (by kernel_rfl) (by kernel_rfl) (fun _ _ _ h => h) (Or.inl ⟨by rfl, ?_⟩) (by assumption) ?_
    rotate_left
    · (intro w hSw; (try dsimp only at hSw); go_simp; try rfl)
    try simp only [Act.put, List.setIfInBounds_toArray, List.set_cons_zero, List.set_cons_succ, List.getElem_toArray, List.getElem_cons_zero, List.getElem_cons_succ]
    refine wpAnyH_take (i := 28) (v := ?_) rfl (by kernel_rfl) (by kernel_rfl) (by kernel_rfl) (fun _ _ _ h => h) (Or.inl ⟨by rfl, ?_⟩) (by assumption) ?_
    rotate_left
    · (intro w hSw; (try dsimp only at hSw); go_simp; try rfl)
    try simp only [Act.put, List.setIfInBounds_toArray, List.set_cons_zero, List.set_cons_succ, List.getElem_toArray, List.getElem_cons_zero, List.getElem_cons_succ]
    refine wpAnyH_take (i := 29) (v := ?_) rfl (by kernel_rfl) (by kernel_rfl) (by kernel_rfl) (fun _ _ _ h => h) (Or.inl ⟨by rfl, ?_⟩) (by assumption) ?_
    rotate_left
    · (intro w hSw; (try dsimp only at hSw); go_simp; try rfl)
    try simp only [Act.put, List.setIfInBounds_toArray, List.set_cons_zero, List.set_cons_succ, List.getElem_toArray, List.getElem_cons_zero, List.getElem_cons_succ]
    refine wpAnyH_take (i := 30) (v := ?_) rfl (by kernel_rfl) (by kernel_rfl) (by kernel_rfl) (fun _ _ _ h => h) (Or.inl ⟨by rfl, ?_⟩) (by assumption) ?_
    rotate_left
    · (intro w hSw; (try dsimp only at hSw); go_simp; try rfl)
    try simp only [Act.put, List.setIfInBounds_toArray, List.set_cons_zero, List.set_cons_succ, List.getElem_toArray, List.getElem_cons_zero, List.getElem_cons_succ]
    refine wpAnyH_ready (rs := [27]) (by kernel_rfl) (by simp) ?_
    refine (AllReadyH.cons rfl (fun K hK => ?_) AllReadyH.nil)
    go_simp
    (go_at_call 11; refine (C0.out _ hHeld.1).mono ?_; rintro e w5 ⟨rfl, hbw5⟩; have hS5 : Below Y.heap.size Y w5 := below_self hHeld.1 hbw5)
    refine hK.out _ _ ?_ (fun hHeldN => ?_)
    · ((first
      | exact HC.out _ hS5
      | exact HC.out _ (Below.alloc hHeld.1 (Below.size hHeld.1) _)
      | exact HC.out _ (Below.drew hHeld.1)
      | exact HC.out _ (Below.refl _ _).drew
      | exact HC.out _ (Below.refl _ _)
      | fail))
    clear hK K
    try clear hS5 hbw5
    try clear hPrev
    have hPrev := Lib.hid hHeld.1
    clear hHeld
    have hHeld := hHeldN
    clear hHeldN
    try simp only [Act.put, List.setIfInBounds_toArray, List.set_cons_zero, List.set_cons_succ, List.getElem_toArray, List.getElem_cons_zero, List.getElem_cons_succ]
    refine wpAnyH_ready (rs := [31]) (by kernel_rfl) (by simp) ?_
    refine (AllReadyH.cons rfl (fun K hK => ?_) AllReadyH.nil)
    go_simp
    (go_at_call 11; refine (C1.out _ hHeld.1).mono ?_; rintro e w5 ⟨rfl, hbw5⟩; have hS5 : Below Y.heap.size Y w5 := below_self hHeld.1 hbw5)
    refine hK.out _ _ ?_ (fun hHeldN => ?_)
    · ((first
      | exact HC.out _ hS5
      | exact HC.out _ (Below.alloc hHeld.1 (Below.size hHeld.1) _)
      | exact HC.out _ (Below.drew hHeld.1)
      | exact HC.out _ (Below.refl _ _).drew
      | exact HC.out _ (Below.refl _ _)
      | fail))
    clear hK K
    try clear hS5 hbw5
    try clear hPrev
    have hPrev := Lib.hid hHeld.1
    clear hHeld
    have hHeld := hHeldN
    clear hHeldN
    try simp only [Act.put, List.setIfInBounds_toArray, List.set_cons_zero, List.set_cons_succ, List.getElem_toArray, List.getElem_cons_zero, List.getElem_cons_succ]
    refine wpAnyH_take (i := 32) (v := ?_) rfl (by kernel_rfl) (by kernel_rfl) (by kernel_rfl) (fun _ _ _ h => h) (Or.inl ⟨by rfl, ?_⟩) (by assumption) ?_
    rotate_left
    · (intro w hSw; (try dsimp only at hSw); go_simp; try rfl)
    try simp only [Act.put, List.setIfInBounds_toArray, List.set_cons_zero, List.set_cons_succ, List.getElem_toArray, List.getElem_cons_zero, List.getElem_cons_succ]
    refine wpAnyH_take (i := 33) (v := undef) rfl (by kernel_rfl) (by kernel_rfl) (by kernel_rfl) (fun _ _ _ h => h) (Or.inr ⟨by rfl, rfl⟩) (by assumption) ?_
    try simp only [Act.put, List.setIfInBounds_toArray, List.set_cons_zero, List.set_cons_succ, List.getElem_toArray, List.getElem_cons_zero, List.getElem_cons_succ]
    refine wpAnyH_take (i := 34) (v := undef) rfl (by kernel_rfl) (by kernel_rfl) (by kernel_rfl) (fun _ _ _ h => h) (Or.inr ⟨by rfl, rfl⟩) (by assumption) ?_
    try simp only [Act.put, List.setIfInBounds_toArray, List.set_cons_zero, List.set_cons_succ, List.getElem_toArray, List.getElem_cons_zero, List.getElem_cons_succ]
    refine wpAnyH_take (i := 35) (v := undef) rfl (by kernel_rfl) (by kernel_rfl) (by kernel_rfl) (fun _ _ _ h => h) (Or.inr ⟨by rfl, rfl⟩) (by assumption) ?_
    try simp only [Act.put, List.setIfInBounds_toArray, List.set_cons_zero, List.set_cons_succ, List.getElem_toArray, List.getElem_cons_zero, List.getElem_cons_succ]
    refine wpAnyH_take (i := 36) (v := undef) rfl (by kernel_rfl) (by kernel_rfl) (by kernel_rfl) (fun _ _ _ h => h) (Or.inr ⟨by rfl, rfl⟩) (by assumption) ?_
    try simp only [Act.put, List.setIfInBounds_toArray, List.set_cons_zero, List.set_cons_succ, List.getElem_toArray, List.getElem_cons_zero, List.getElem_cons_succ]
    refine wpAnyH_take (i := 37) (v := ?_) rfl (by kernel_rfl) (by kernel_rfl) (by kernel_rfl) (fun _ _ _ h => h) (Or.inl ⟨by rfl, ?_⟩) (by assumption) ?_
    rotate_left
    · (intro w hSw; (try dsimp only at hSw); go_simp; try rfl)
    try simp only [Act.put, List.setIfInBounds_toArray, List.set_cons_zero, List.set_cons_succ, List.getElem_toArray, List.getElem_cons_zero, List.getElem_cons_succ]
    refine wpAnyH_take (i := 38) (v := ?_) rfl (by kernel_rfl) (by kernel_rfl) (by kernel_rfl) (fun _ _ _ h => h) (Or.inl ⟨by rfl, ?_⟩) (by assumption) ?_
    rotate_left
    · (intro w hSw; (try dsimp only at hSw); go_simp; try rfl)
    try simp only [Act.put, List.setIfInBounds_toArray, List.set_cons_zero, List.set_cons_succ, List.getElem_toArray, List.getElem_cons_zero, List.getElem_cons_succ]
    refine wpAnyH_take (i := 39) (v := ?_) rfl (by kernel_rfl) (by kernel_rfl) (by kernel_rfl) (fun _ _ _ h => h) (Or.inl ⟨by rfl, ?_⟩) (by assumption) ?_
    rotate_left
    · (intro w hSw; (try dsimp only at hSw); go_simp; try rfl)
    try simp only [Act.put, List.setIfInBounds_toArray, List.set_cons_zero, List.set_cons_succ, List.getElem_toArray, List.getElem_cons_zero, List.getElem_cons_succ]
    refine wpAnyH_take (i := 40) (v := ?_) rfl (by kernel_rfl) (by kernel_rfl) (by kernel_rfl) (fun _ _ _ h => h) (Or.inl ⟨by rfl, ?_⟩) (by assumption) ?_
    rotate_left
    · (intro w hSw; (try dsimp only at hSw); go_simp; try rfl)
    try simp only [Act.put, List.setIfInBounds_toArray, List.set_cons_zero, List.set_cons_succ, List.getElem_toArray, List.getElem_cons_zero, List.getElem_cons_succ]
    refine wpAnyH_done (by kernel_rfl) ?_ _
    have HEND := Lib.hid hHeld.1
    clear hHeld
    go_wp2
    go_ret
    exact ⟨by first | rfl | simp, HBw.out.trans (HEND.out.mono HD9.out)⟩
  | false =>
    simp only [Bool.false_or] at C0
    have e2 : (rC2 == rC2) = true := by cases rC2 <;> rfl
    go_wp2_with fail
    refine wp_region_held_drew (S := (fun w' => Below Y.heap.size Y w' ∧ w'.cell? ⟨w.heap.size, 0, none⟩ = some (.int .i64 s1) ∧ w'.cell? ⟨w.heap.size, 1, none⟩ = some (.slice a1 N1 c1) ∧ w'.cell? ⟨w.heap.size + 1, 0, none⟩ = some (.int .i64 s2) ∧ w'.cell? ⟨w.heap.size + 1, 1, none⟩ = some (.slice a2 N2 c2) ∧ w'.cell? ⟨w.heap.size + 1 + 1 + 1, 0, none⟩ = some (.int .i64 x1) ∧ w'.cell? ⟨w.heap.size + 1 + 1 + 1, 1, none⟩ = some (.int .i64 x2) ∧ w'.cell? ⟨w.heap.size + 1 + 1 + 1, 2, none⟩ = some (.int .i64 x3) ∧ w'.cell? ⟨w2.heap.size, 0, none⟩ = some (.int .i64 sm) ∧ w'.cell? ⟨w2.heap.size, 1, none⟩ = some (.slice am Nm cm))) (by kernel_rfl) ?_ (fun hHeld => ?_)
    · ((first
      | exact HC.out _ hS5
      | exact HC.out _ (Below.alloc hHeld.1 (Below.size hHeld.1) _)
      | exact HC.out _ (Below.drew hHeld.1)
      | exact HC.out _ (Below.refl _ _).drew
      | exact HC.out _ (Below.refl _ _)
      | fail))
    refine wpAnyH_take (i := 0) (v := ?_) rfl (by kernel_rfl) (by kernel_rfl) (by kernel_rfl) (fun _ _ _ h => h) (Or.inl ⟨by rfl, ?_⟩) (by assumption) ?_
    rotate_left
    · (intro w hSw; (try dsimp only at hSw); go_simp; try rfl)
    try simp only [Act.put, List.setIfInBounds_toArray, List.set_cons_zero, List.set_cons_succ, List.getElem_toArray, List.getElem_cons_zero, List.getElem_cons_succ]
    refine wpAnyH_take (i := 1) (v := ?_) rfl (by kernel_rfl) (by kernel_rfl) (by kernel_rfl) (fun _ _ _ h => h) (Or.inl ⟨by rfl, ?_⟩) (by assumption) ?_
    rotate_left
    · (intro w hSw; (try dsimp only at hSw); go_simp; try rfl)
    try simp only [Act.put, List.setIfInBounds_toArray, List.set_cons_zero, List.set_cons_succ, List.getElem_toArray, List.getElem_cons_zero, List.getElem_cons_succ]
    refine wpAnyH_take (i := 2) (v := ?_) rfl (by kernel_rfl) (by kernel_rfl) (by kernel_rfl) (fun _ _ _ h => h) (Or.inl ⟨by rfl, ?_⟩) (by assumption) ?_
    rotate_left
    · (intro w hSw; (try dsimp only at hSw); go_simp; try rfl)
    try simp only [Act.put, List.setIfInBounds_toArray, List.set_cons_zero, List.set_cons_succ, List.getElem_toArray, List.getElem_cons_zero, List.getElem_cons_succ]
    refine wpAnyH_take (i := 3) (v := ?_) rfl (by kernel_rfl) (by kernel_rfl) (by kernel_rfl) (fun _ _ _ h => h) (Or.inl ⟨by rfl, ?_⟩) (by assumption) ?_
    rotate_left
    · (intro w hSw; (try dsimp only at hSw); go_simp; try rfl)
    try simp only [Act.put, List.setIfInBounds_toArray, List.set_cons_zero, List.set_cons_succ, List.getElem_toArray, List.getElem_cons_zero, List.getElem_cons_succ]
    refine wpAnyH_take (i := 4) (v := ?_) rfl (by kernel_rfl) (by kernel_rfl) (by kernel_rfl) (fun _ _ _ h => h) (Or.inl ⟨by rfl, ?_⟩) (by assumption) ?_
    rotate_left
    · (intro w hSw; (try dsimp only at hSw); go_simp; try rfl)
    try simp only [Act.put, List.setIfInBounds_toArray, List.set_cons_zero, List.set_cons_succ, List.getElem_toArray, List.getElem_cons_zero, List.getElem_cons_succ]
    refine wpAnyH_take (i := 5) (v := ?_) rfl (by kernel_rfl) (by kernel_rfl) (by kernel_rfl) (fun _ _ _ h => h) (Or.inl ⟨by rfl, ?_⟩) (by assumption) ?_
    rotate_left
    · (intro w hSw; (try dsimp only at hSw); go_simp; try rfl)
    try simp only [Act.put, List.setIfInBounds_toArray, List.set_cons_zero, List.set_cons_succ, List.getElem_toArray, List.getElem_cons_zero, List.getElem_cons_succ]
    refine wpAnyH_take (i := 6) (v := ?_) rfl (by kernel_rfl) (by kernel_rfl) (by kernel_rfl) (fun _ _ _ h => h) (Or.inl ⟨by rfl, ?_⟩) (by assumption) ?_
    rotate_left
    · (intro w hSw; (try dsimp only at hSw); go_simp; try rfl)
    try simp only [Act.put, List.setIfInBounds_toArray, List.set_cons_zero, List.set_cons_succ, List.getElem_toArray, List.getElem_cons_zero, List.getElem_cons_succ]
    refine wpAnyH_take (i := 7) (v := ?_) rfl (by kernel_rfl) (by kernel_rfl) (by kernel_rfl) (fun _ _ _ h => h) (Or.inl ⟨by rfl, ?_⟩) (by assumption) ?_
    rotate_left
    · (intro w hSw; (try dsimp only at hSw); go_simp; try rfl)
    try simp only [Act.put, List.setIfInBounds_toArray, List.set_cons_zero, List.set_cons_succ, List.getElem_toArray, List.getElem_cons_zero, List.getElem_cons_succ]
    refine wpAnyH_take (i := 8) (v := ?_) rfl (by kernel_rfl) (by kernel_rfl) (by kernel_rfl) (fun _ _ _ h => h) (Or.inl ⟨by rfl, ?_⟩) (by assumption) ?_
    rotate_left
    · (intro w hSw; (try dsimp only at hSw); go_simp; try rfl)
    try simp only [Act.put, List.setIfInBounds_toArray, List.set_cons_zero, List.set_cons_succ, List.getElem_toArray, List.getElem_cons_zero, List.getElem_cons_succ]
    refine wpAnyH_take (i := 9) (v := ?_) rfl (by kernel_rfl) (by kernel_rfl) (by kernel_rfl) (fun _ _ _ h => h) (Or.inl ⟨by rfl, ?_⟩) (by assumption) ?_
    rotate_left
    · (intro w hSw; (try dsimp only at hSw); go_simp; try rfl)
    try simp only [Act.put, List.setIfInBounds_toArray, List.set_cons_zero, List.set_cons_succ, List.getElem_toArray, List.getElem_cons_zero, List.getElem_cons_succ]
    refine wpAnyH_take (i := 10) (v := ?_) rfl (by kernel_rfl) (by kernel_rfl) (by kernel_rfl) (fun _ _ _ h => h) (Or.inl ⟨by rfl, ?_⟩) (by assumption) ?_
    rotate_left
    · (intro w hSw; (try dsimp only at hSw); go_simp; try rfl)
    try simp only [Act.put, List.setIfInBounds_toArray, List.set_cons_zero, List.set_cons_succ, List.getElem_toArray, List.getElem_cons_zero, List.getElem_cons_succ]
    refine wpAnyH_take (i := 11) (v := ?_) rfl (by kernel_rfl) (by kernel_rfl) (by kernel_rfl) (fun _ _ _ h => h) (Or.inl ⟨by rfl, ?_⟩) (by assumption) ?_
    rotate_left
    · (intro w hSw; (try dsimp only at hSw); go_simp; try rfl)
    try simp only [Act.put, List.setIfInBounds_toArray, List.set_cons_zero, List.set_cons_succ, List.getElem_toArray, List.getElem_cons_zero, List.getElem_cons_succ]
    refine wpAnyH_take (i := 12) (v := ?_) rfl (by kernel_rfl) (by kernel_rfl) (by kernel_rfl) (fun _ _ _ h => h) (Or.inl ⟨by rfl, ?_⟩) (by assumption) ?_
    rotate_left
    · (intro w hSw; (try dsimp only at hSw); go_simp; try rfl)
    try simp only [Act.put, List.setIfInBounds_toArray, List.set_cons_zero, List.set_cons_succ, List.getElem_toArray, List.getElem_cons_zero, List.getElem_cons_succ]
    refine wpAnyH_take (i := 13) (v := ?_) rfl (by kernel_rfl) (by kernel_rfl) (by kernel_rfl) (fun _ _ _ h => h) (Or.inl ⟨by rfl, ?_⟩) (by assumption) ?_
    rotate_left
    · (intro w hSw; (try dsimp only at hSw); go_simp; try rfl)
    try simp only [Act.put, List.setIfInBounds_toArray, List.set_cons_zero, List.set_cons_succ, List.getElem_toArray, List.getElem_cons_zero, List.getElem_cons_succ]
    refine wpAnyH_take (i := 14) (v := ?_) rfl (by kernel_rfl) (by kernel_rfl) (by kernel_rfl) (fun _ _ _ h => h) (Or.inl ⟨by rfl, ?_⟩) (by assumption) ?_
    rotate_left
    · (intro w hSw; (try dsimp only at hSw); go_simp; try rfl)
    try simp only [Act.put, List.setIfInBounds_toArray, List.set_cons_zero, List.set_cons_succ, List.getElem_toArray, List.getElem_cons_zero, List.getElem_cons_succ]
    refine wpAnyH_take (i := 15) (v := ?_) rfl (by kernel_rfl) (by kernel_rfl) (by kernel_rfl) (fun _ _ _ h => h) (Or.inl ⟨by rfl, ?_⟩) (by assumption) ?_
    rotate_left
    · (intro w hSw; (try dsimp only at hSw); go_simp; try rfl)
    try simp only [Act.put, List.setIfInBounds_toArray, List.set_cons_zero, List.set_cons_succ, List.getElem_toArray, List.getElem_cons_zero, List.getElem_cons_succ]
    refine wpAnyH_take (i := 16) (v := ?_) rfl (by kernel_rfl) (by kernel_rfl) (by kernel_rfl) (fun _ _ _ h => h) (Or.inl ⟨by rfl, ?_⟩) (by assumption) ?_
    rotate_left
    · (intro w hSw; (try dsimp only at hSw); go_simp; try rfl)
    try simp only [Act.put, List.setIfInBounds_toArray, List.set_cons_zero, List.set_cons_succ, List.getElem_toArray, List.getElem_cons_zero, List.getElem_cons_succ]
    refine wpAnyH_take (i := 17) (v := ?_) rfl (by kernel_rfl) (by kernel_rfl) (by kernel_rfl) (fun _ _ _ h => h) (Or.inl ⟨by rfl, ?_⟩) (by assumption) ?_
    rotate_left
    · (intro w hSw; (try dsimp only at hSw); go_simp; try rfl)
    try simp only [Act.put, List.setIfInBounds_toArray, List.set_cons_zero, List.set_cons_succ, List.getElem_toArray, List.getElem_cons_zero, List.getElem_cons_succ]
    refine wpAnyH_take (i := 18) (v := ?_) rfl (by kernel_rfl) (by kernel_rfl) (by kernel_rfl) (fun _ _ _ h => h) (Or.inl ⟨by rfl, ?_⟩) (by assumption) ?_
    rotate_left
    · (intro w hSw; (try dsimp only at hSw); go_simp; try rfl)
    try simp only [Act.put, List.setIfInBounds_toArray, List.set_cons_zero, List.set_cons_succ, List.getElem_toArray, List.getElem_cons_zero, List.getElem_cons_succ]
    refine wpAnyH_take (i := 19) (v := ?_) rfl (by kernel_rfl) (by kernel_rfl) (by kernel_rfl) (fun _ _ _ h => h) (Or.inl ⟨by rfl, ?_⟩) (by assumption) ?_
    rotate_left
    · (intro w hSw; (try dsimp only at hSw); go_simp; try rfl)
    try simp only [Act.put, List.setIfInBounds_toArray, List.set_cons_zero, List.set_cons_succ, List.getElem_toArray, List.getElem_cons_zero, List.getElem_cons_succ]
    refine wpAnyH_take (i := 20) (v := ?_) rfl (by kernel_rfl) (by kernel_rfl) (by kernel_rfl) (fun _ _ _ h => h) (Or.inl ⟨by rfl, ?_⟩) (by assumption) ?_
    rotate_left
    · (intro w hSw; (try dsimp only at hSw); go_simp; try rfl)
    try simp only [Act.put, List.setIfInBounds_toArray, List.set_cons_zero, List.set_cons_succ, List.getElem_toArray, List.getElem_cons_zero, List.getElem_cons_succ]
    refine wpAnyH_ready (rs := [21]) (by kernel_rfl) (by simp) ?_
    refine (AllReadyH.cons rfl (fun K hK => ?_) AllReadyH.nil)
    go_simp
    (go_at_call 10; refine (CR.out _ hHeld.1).mono ?_; rintro e w5 ⟨rfl, hbw5⟩; have hS5 : Below Y.heap.size Y w5 := below_self hHeld.1 hbw5)
    refine hK.out _ _ ?_ (fun hHeldN => ?_)
    · ((first
      | exact HC.out _ hS5
      | exact HC.out _ (Below.alloc hHeld.1 (Below.size hHeld.1) _)
      | exact HC.out _ (Below.drew hHeld.1)
      | exact HC.out _ (Below.refl _ _).drew
      | exact HC.out _ (Below.refl _ _)
      | fail))
    clear hK K
    try clear hS5 hbw5
    try clear hPrev
    have hPrev := Lib.hid hHeld.1
    clear hHeld
    have hHeld := hHeldN
    clear hHeldN
    try simp only [Act.put, List.setIfInBounds_toArray, List.set_cons_zero, List.set_cons_succ, List.getElem_toArray, List.getElem_cons_zero, List.getElem_cons_succ]
    refine wpAnyH_take (i := 22) (v := ?_) rfl (by kernel_rfl) (by kernel_rfl) (by kernel_rfl) (fun _ _ _ h => h) (Or.inl ⟨by rfl, ?_⟩) (by assumption) ?_
    rotate_left
    · (intro w hSw; (try dsimp only at hSw); go_simp; try rfl)
    try simp only [Act.put, List.setIfInBounds_toArray, List.set_cons_zero, List.set_cons_succ, List.getElem_toArray, List.getElem_cons_zero, List.getElem_cons_succ]
    refine wpAnyH_take (i := 23) (v := ?_) rfl (by kernel_rfl) (by kernel_rfl) (by kernel_rfl) (fun _ _ _ h => h) (Or.inl ⟨by rfl, ?_⟩) (by assumption) ?_
    rotate_left
    · (intro w hSw; (try dsimp only at hSw); go_simp; try rfl)
    try simp only [Act.put, List.setIfInBounds_toArray, List.set_cons_zero, List.set_cons_succ, List.getElem_toArray, List.getElem_cons_zero, List.getElem_cons_succ]
    refine wpAnyH_take (i := 24) (v := ?_) rfl (by kernel_rfl) (by kernel_rfl) (by kernel_rfl) (fun _ _ _ h => h) (Or.inl ⟨by rfl, ?_⟩) (by assumption) ?_
    rotate_left
    · (intro w hSw; (try dsimp only at hSw); go_simp; try rfl)
    try simp only [Act.put, List.setIfInBounds_toArray, List.set_cons_zero, List.set_cons_succ, List.getElem_toArray, List.getElem_cons_zero, List.getElem_cons_succ]
    refine wpAnyH_take (i := 25) (v := ?_) rfl (by kernel_rfl) (by kernel_rfl) (by kernel_rfl) (fun _ _ _ h => h) (Or.inl ⟨by rfl, ?_⟩) (by assumption) ?_
    rotate_left
    · (intro w hSw; (try dsimp only at hSw); go_simp; try rfl)
    try simp only [Act.put, List.setIfInBounds_toArray, List.set_cons_zero, List.set_cons_succ, List.getElem_toArray, List.getElem_cons_zero, List.getElem_cons_succ]
    refine wpAnyH_take (i := 26) (v := ?_) rfl (by kernel_rfl) (by kernel_rfl) (by kernel_rfl) (fun _ _ _ h => h) (Or.inl ⟨by rfl, ?_⟩) (by assumption) ?_
    rotate_left
    · (intro w hSw; (try dsimp only at hSw); go_simp; try rfl)
    try simp only [Act.put, List.setIfInBounds_toArray, List.set_cons_zero, List.set_cons_succ, List.getElem_toArray, List.getElem_cons_zero, List.getElem_cons_succ]
    refine wpAnyH_take (i := 28) (v := ?_) rfl (by kernel_rfl) (by kernel_rfl) (by kernel_rfl) (fun _ _ _ h => h) (Or.inl ⟨by rfl, ?_⟩) (by assumption) ?_
    rotate_left
    · (intro w hSw; (try dsimp only at hSw); go_simp; try rfl)
    try simp only [Act.put, List.setIfInBounds_toArray, List.set_cons_zero, List.set_cons_succ, List.getElem_toArray, List.getElem_cons_zero, List.getElem_cons_succ]
    refine wpAnyH_take (i := 29) (v := ?_) rfl (by kernel_rfl) (by kernel_rfl) (by kernel_rfl) (fun _ _ _ h => h) (Or.inl ⟨by rfl, ?_⟩) (by assumption) ?_
    rotate_left
    · (intro w hSw; (try dsimp only at hSw); go_simp; try rfl)
    try simp only [Act.put, List.setIfInBounds_toArray, List.set_cons_zero, List.set_cons_succ, List.getElem_toArray, List.getElem_cons_zero, List.getElem_cons_succ]
    refine wpAnyH_take (i := 30) (v := ?_) rfl (by kernel_rfl) (by kernel_rfl) (by kernel_rfl) (fun _ _ _ h => h) (Or.inl ⟨by rfl, ?_⟩) (by assumption) ?_
    rotate_left
    · (intro w hSw; (try dsimp only at hSw); go_simp; try rfl)
    try simp only [Act.put, List.setIfInBounds_toArray, List.set_cons_zero, List.set_cons_succ, List.getElem_toArray, List.getElem_cons_zero, List.getElem_cons_succ]
    refine wpAnyH_ready (rs := [27]) (by kernel_rfl) (by simp) ?_
    refine (AllReadyH.cons rfl (fun K hK => ?_) AllReadyH.nil)
    go_simp
    (go_at_call 11; refine (C0.out _ hHeld.1).mono ?_; rintro e w5 ⟨rfl, hbw5⟩; have hS5 : Below Y.heap.size Y w5 := below_self hHeld.1 hbw5)
    refine hK.out _ _ ?_ (fun hHeldN => ?_)
    · ((first
      | exact HC.out _ hS5
      | exact HC.out _ (Below.alloc hHeld.1 (Below.size hHeld.1) _)
      | exact HC.out _ (Below.drew hHeld.1)
      | exact HC.out _ (Below.refl _ _).drew
      | exact HC.out _ (Below.refl _ _)
      | fail))
    clear hK K
    try clear hS5 hbw5
    try clear hPrev
    have hPrev := Lib.hid hHeld.1
    clear hHeld
    have hHeld := hHeldN
    clear hHeldN
    try simp only [Act.put, List.setIfInBounds_toArray, List.set_cons_zero, List.set_cons_succ, List.getElem_toArray, List.getElem_cons_zero, List.getElem_cons_succ]
    refine wpAnyH_ready (rs := [31]) (by kernel_rfl) (by simp) ?_
    refine (AllReadyH.cons rfl (fun K hK => ?_) AllReadyH.nil)
    go_simp
    (go_at_call 11; refine (C1.out _ hHeld.1).mono ?_; rintro e w5 ⟨rfl, hbw5⟩; have hS5 : Below Y.heap.size Y w5 := below_self hHeld.1 hbw5)
    refine hK.out _ _ ?_ (fun hHeldN => ?_)
    · ((first
      | exact HC.out _ hS5
      | exact HC.out _ (Below.alloc hHeld.1 (Below.size hHeld.1) _)
      | exact HC.out _ (Below.drew hHeld.1)
      | exact HC.out _ (Below.refl _ _).drew
      | exact HC.out _ (Below.refl _ _)
      | fail))
    clear hK K
    try clear hS5 hbw5
    try clear hPrev
    have hPrev := Lib.hid hHeld.1
    clear hHeld
    have hHeld := hHeldN
    clear hHeldN
    try simp only [Act.put, List.setIfInBounds_toArray, List.set_cons_zero, List.set_cons_succ, List.getElem_toArray, List.getElem_cons_zero, List.getElem_cons_succ]
    refine wpAnyH_take (i := 32) (v := ?_) rfl (by kernel_rfl) (by kernel_rfl) (by kernel_rfl) (fun _ _ _ h => h) (Or.inl ⟨by rfl, ?_⟩) (by assumption) ?_
    rotate_left
    · (intro w hSw; (try dsimp only at hSw); go_simp; try rfl)
    try simp only [Act.put, List.setIfInBounds_toArray, List.set_cons_zero, List.set_cons_succ, List.getElem_toArray, List.getElem_cons_zero, List.getElem_cons_succ]
    refine wpAnyH_take (i := 33) (v := ?_) rfl (by kernel_rfl) (by kernel_rfl) (by kernel_rfl) (fun _ _ _ h => h) (Or.inl ⟨by rfl, ?_⟩) (by assumption) ?_
    rotate_left
    · (intro w hSw; (try dsimp only at hSw); go_simp; try rfl)
    try simp only [Act.put, List.setIfInBounds_toArray, List.set_cons_zero, List.set_cons_succ, List.getElem_toArray, List.getElem_cons_zero, List.getElem_cons_succ]
    refine wpAnyH_take (i := 34) (v := ?_) rfl (by kernel_rfl) (by kernel_rfl) (by kernel_rfl) (fun _ _ _ h => h) (Or.inl ⟨by rfl, ?_⟩) (by assumption) ?_
    rotate_left
    · (intro w hSw; (try dsimp only at hSw); go_simp; try rfl)
    try simp only [Act.put, List.setIfInBounds_toArray, List.set_cons_zero, List.set_cons_succ, List.getElem_toArray, List.getElem_cons_zero, List.getElem_cons_succ]
    refine wpAnyH_take (i := 35) (v := ?_) rfl (by kernel_rfl) (by kernel_rfl) (by kernel_rfl) (fun _ _ _ h => h) (Or.inl ⟨by rfl, ?_⟩) (by assumption) ?_
    rotate_left
    · (intro w hSw; (try dsimp only at hSw); go_simp; try rfl)
    try simp only [Act.put, List.setIfInBounds_toArray, List.set_cons_zero, List.set_cons_succ, List.getElem_toArray, List.getElem_cons_zero, List.getElem_cons_succ]
    refine wpAnyH_ready (rs := [36]) (by kernel_rfl) (by simp) ?_
    refine (AllReadyH.cons rfl (fun K hK => ?_) AllReadyH.nil)
    go_simp
    (go_at_call 11; refine (C2.out _ hHeld.1).mono ?_; rintro e w5 ⟨rfl, hbw5⟩; have hS5 : Below Y.heap.size Y w5 := below_self hHeld.1 hbw5)
    refine hK.out _ _ ?_ (fun hHeldN => ?_)
    · ((first
      | exact HC.out _ hS5
      | exact HC.out _ (Below.alloc hHeld.1 (Below.size hHeld.1) _)
      | exact HC.out _ (Below.drew hHeld.1)
      | exact HC.out _ (Below.refl _ _).drew
      | exact HC.out _ (Below.refl _ _)
      | fail))
    clear hK K
    try clear hS5 hbw5
    try clear hPrev
    have hPrev := Lib.hid hHeld.1
    clear hHeld
    have hHeld := hHeldN
    clear hHeldN
    try simp only [Act.put, List.setIfInBounds_toArray, List.set_cons_zero, List.set_cons_succ, List.getElem_toArray, List.getElem_cons_zero, List.getElem_cons_succ]
    refine wpAnyH_take (i := 37) (v := ?_) rfl (by kernel_rfl) (by kernel_rfl) (by kernel_rfl) (fun _ _ _ h => h) (Or.inl ⟨by rfl, ?_⟩) (by assumption) ?_
    rotate_left
    · (intro w hSw; (try dsimp only at hSw); go_simp; try rfl)
    try simp only [Act.put, List.setIfInBounds_toArray, List.set_cons_zero, List.set_cons_succ, List.getElem_toArray, List.getElem_cons_zero, List.getElem_cons_succ]
    refine wpAnyH_take (i := 38) (v := ?_) rfl (by kernel_rfl) (by kernel_rfl) (by kernel_rfl) (fun _ _ _ h => h) (Or.inl ⟨by rfl, ?_⟩) (by assumption) ?_
    rotate_left
    · (intro w hSw; (try dsimp only at hSw); go_simp; try rfl)
    try simp only [Act.put, List.setIfInBounds_toArray, List.set_cons_zero, List.set_cons_succ, List.getElem_toArray, List.getElem_cons_zero, List.getElem_cons_succ]
    refine wpAnyH_take (i := 39) (v := ?_) rfl (by kernel_rfl) (by kernel_rfl) (by kernel_rfl) (fun _ _ _ h => h) (Or.inl ⟨by rfl, ?_⟩) (by assumption) ?_
    rotate_left
    · (intro w hSw; (try dsimp only at hSw); go_simp; try rfl)
    try simp only [Act.put, List.setIfInBounds_toArray, List.set_cons_zero, List.set_cons_succ, List.getElem_toArray, List.getElem_cons_zero, List.getElem_cons_succ]
    refine wpAnyH_take (i := 40) (v := ?_) rfl (by kernel_rfl) (by kernel_rfl) (by kernel_rfl) (fun _ _ _ h => h) (Or.inl ⟨by rfl, ?_⟩) (by assumption) ?_
    rotate_left
    · (intro w hSw; (try dsimp only at hSw); go_simp; try rfl)
    try simp only [Act.put, List.setIfInBounds_toArray, List.set_cons_zero, List.set_cons_succ, List.getElem_toArray, List.getElem_cons_zero, List.getElem_cons_succ]
    refine wpAnyH_done (by kernel_rfl) ?_ _
    have HEND := Lib.hid hHeld.1
    clear hHeld
    go_wp2
    go_ret
    exact ⟨by first | rfl | simp, HBw.out.trans (HEND.out.mono HD9.out)⟩
end Go.Proofs.Ytfngjdcagopapaa
