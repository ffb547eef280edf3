/-
  The walk of AttrLocal.
-/
import Derived.Test.YtfngjdcagopapaaGreatAtE
namespace Go.Proofs.YtfngjdcagopapaaGreat
open Tc (ML)
open Go.RowKit
set_option linter.unusedSimpArgs false
set_option linter.unusedVariables false
set_option maxRecDepth 100000

theorem lcl_len (l : List Kn) (id : I3) (c : CM) : (lclA l id c).2.length ≤ l.length := by
  unfold lclA
  simp only
  have h1 := len_clnI ((l.filter (matK id c)).map (·.id))
  rw [List.length_map] at h1
  exact Nat.le_trans h1 (List.length_filter_le _ _)
set_option maxHeartbeats 16000000 in
theorem local_law (v0 : Value) (rs : List (Cls 13)) (l : List Kn) (i1 i2 i3 : Int) (c : CM) (s : Int) (u : Value) (la0 : List I3) (w : World) (hm : ML w) (h : RowIs KnK knS w v0 rs l) (hu : IK.Rd w u la0) :
    Calls Tryz.prog 3 #[v0, .agg #[.int .i64 i1, .int .i64 i2, .int .i64 i3], cmV c, .agg #[.int .i64 s, u]] w fun e w' => e = .returned (.bool true) ∧ Below w.heap.size w w' := by
  obtain ⟨a0, c0, e0⟩ := h.rd.slice
  have hmx := h.rd.len
  subst e0
  obtain ⟨N, hN⟩ : ∃ N, rs.length = N := ⟨_, rfl⟩
  rw [hN] at h hmx ⊢
  have HN := Lib.hid hN
  have HLN : Hid (l.length = N) := Lib.hid (by rw [← h.len]; exact hN)
  have H := Lib.hid h
  have HM := Lib.hid hm
  have hnm : (N : Int) ≤ 9223372036854775807 := by unfold maxLen at hmx; omega
  obtain ⟨aa, ca, eu⟩ := hu.slice
  have hmxv := hu.len
  obtain ⟨na, hna⟩ : ∃ n, la0.length = n := ⟨_, rfl⟩
  rw [hna] at eu hmxv
  subst eu
  have HNA0 := Lib.hid hna
  have HU := Lib.hid hu
  have hnmv : (na : Int) ≤ 9223372036854775807 := by unfold maxLen at hmxv; omega
  have HBo := Lib.hid (al3 w (.cells #[.int .i64 i1, .int .i64 i2, .int .i64 i3] 24) (.cells #[.int .i64 c.cl, .int .i64 c.sq, .int .i64 c.op, .string c.pa, .string c.va, .int .i64 c.ver, .int .i64 c.a, .int .i64 c.b] 27) (.cells #[.int .i64 s, .slice aa na ca] aT))
  have HW := Lib.hid (works_any _ (hm.below HBo.out))
  have HBI : Hid (Bk (((w.alloc (.cells #[.int .i64 i1, .int .i64 i2, .int .i64 i3] 24)).alloc (.cells #[.int .i64 c.cl, .int .i64 c.sq, .int .i64 c.op, .string c.pa, .string c.va, .int .i64 c.ver, .int .i64 c.a, .int .i64 c.b] 27)).alloc (.cells #[.int .i64 s, .slice aa na ca] aT)) w.heap.size 24 [.int .i64 i1, .int .i64 i2, .int .i64 i3]) := Lib.hid (((Bk.newAt rfl _ _).old _).old _)
  have HBC : Hid (Bk (((w.alloc (.cells #[.int .i64 i1, .int .i64 i2, .int .i64 i3] 24)).alloc (.cells #[.int .i64 c.cl, .int .i64 c.sq, .int .i64 c.op, .string c.pa, .string c.va, .int .i64 c.ver, .int .i64 c.a, .int .i64 c.b] 27)).alloc (.cells #[.int .i64 s, .slice aa na ca] aT)) (w.heap.size + 1) 27 [.int .i64 c.cl, .int .i64 c.sq, .int .i64 c.op, .string c.pa, .string c.va, .int .i64 c.ver, .int .i64 c.a, .int .i64 c.b]) := Lib.hid ((Bk.newAt (by simp) _ _).old _)
  have HBA : Hid (Bk (((w.alloc (.cells #[.int .i64 i1, .int .i64 i2, .int .i64 i3] 24)).alloc (.cells #[.int .i64 c.cl, .int .i64 c.sq, .int .i64 c.op, .string c.pa, .string c.va, .int .i64 c.ver, .int .i64 c.a, .int .i64 c.b] 27)).alloc (.cells #[.int .i64 s, .slice aa na ca] aT)) (w.heap.size + 1 + 1) aT [.int .i64 s, .slice aa na ca]) := Lib.hid (Bk.newAt (by simp) _ _)
  clear h hN hm hu hna hmx hmxv
  go_enter Tryz.func3, Tryz.ntmps3
  go_wp2_with fail
  refine HW.out.mono ?_
  rintro e w1 ⟨rfl, hb⟩
  replace HBI := Lib.hid (HBI.out.below hb)
  replace HBC := Lib.hid (HBC.out.below hb)
  replace HBA := Lib.hid (HBA.out.below hb)
  have HB1 := Lib.hid (HBo.out.trans (hb.mono (by simp; omega)))
  clear hb HBo HW
  have bI := HBI.out
  have yI0 := bI.cell 0
  have yI1 := bI.cell 1
  have yI2 := bI.cell 2
  have bC := HBC.out
  have yC0 := bC.cell 0
  have yC1 := bC.cell 1
  have yC2 := bC.cell 2
  have yC3 := bC.cell 3
  have yC4 := bC.cell 4
  have yC5 := bC.cell 5
  have yC6 := bC.cell 6
  have yC7 := bC.cell 7
  have bA := HBA.out
  have yA0 := bA.cell 0
  have yA1 := bA.cell 1
  simp only [List.getElem?_cons_zero, List.getElem?_cons_succ] at yI0 yI1 yI2 yC0 yC1 yC2 yC3 yC4 yC5 yC6 yC7 yA0 yA1
  have zI := bI.lt
  have zC := bC.lt
  have zA := bA.lt
  clear bI bC bA
  go_wp2_with fail
  refine (few_any _ rs l w1 (H.out.on HB1.out)).mono ?_
  rintro e w2 ⟨R1, he, hR1, hb⟩
  have he := he.out
  subst he
  have HR1 := Lib.hid hR1
  replace HBI := Lib.hid (HBI.out.below hb)
  replace HBC := Lib.hid (HBC.out.below hb)
  replace HBA := Lib.hid (HBA.out.below hb)
  have HB2 := Lib.hid (below_self2 HB1.out hb)
  clear yI0 yI1 yI2 yC0 yC1 yC2 yC3 yC4 yC5 yC6 yC7 yA0 yA1 zI zC zA hb HB1 hR1
  have bI := HBI.out
  have yI0 := bI.cell 0
  have yI1 := bI.cell 1
  have yI2 := bI.cell 2
  have bC := HBC.out
  have yC0 := bC.cell 0
  have yC1 := bC.cell 1
  have yC2 := bC.cell 2
  have yC3 := bC.cell 3
  have yC4 := bC.cell 4
  have yC5 := bC.cell 5
  have yC6 := bC.cell 6
  have yC7 := bC.cell 7
  have bA := HBA.out
  have yA0 := bA.cell 0
  have yA1 := bA.cell 1
  simp only [List.getElem?_cons_zero, List.getElem?_cons_succ] at yI0 yI1 yI2 yC0 yC1 yC2 yC3 yC4 yC5 yC6 yC7 yA0 yA1
  have zI := bI.lt
  have zC := bC.lt
  have zA := bA.lt
  clear bI bC bA
  cases R1 with
  | false =>
    go_wp2
    go_ret
    exact ⟨rfl, HB2.out⟩
  | true =>
  obtain ⟨Ro, hRo⟩ : ∃ R, ovr1 c.pa c.va = R := ⟨_, rfl⟩
  have HRo := Lib.hid hRo
  go_wp2_with fail
  have B1 := Bk.newAt (w := w2) rfl 27 [.int .i64 c.cl, .int .i64 c.sq, .int .i64 c.op, .string c.pa, .string c.va, .int .i64 c.ver, .int .i64 c.a, .int .i64 c.b]
  have hov := over1_any w2.heap.size c.pa c.va (w2.alloc (.cells #[.int .i64 c.cl, .int .i64 c.sq, .int .i64 c.op, .string c.pa, .string c.va, .int .i64 c.ver, .int .i64 c.a, .int .i64 c.b] 27)) (B1.cell 3) (B1.cell 4)
  rw [hRo] at hov
  refine hov.mono ?_
  clear hov B1 hRo
  rintro e w4 ⟨rfl, hw4⟩
  have HX4 : Hid (Below w2.heap.size w2 w4) := Lib.hid (by rw [← hw4]; exact al1 _ _)
  clear hw4
  replace HBI := Lib.hid (HBI.out.below HX4.out)
  replace HBC := Lib.hid (HBC.out.below HX4.out)
  replace HBA := Lib.hid (HBA.out.below HX4.out)
  have HB4 := Lib.hid (below_self2 HB2.out HX4.out)
  clear yI0 yI1 yI2 yC0 yC1 yC2 yC3 yC4 yC5 yC6 yC7 yA0 yA1 zI zC zA HX4 HB2
  have bI := HBI.out
  have yI0 := bI.cell 0
  have yI1 := bI.cell 1
  have yI2 := bI.cell 2
  have bC := HBC.out
  have yC0 := bC.cell 0
  have yC1 := bC.cell 1
  have yC2 := bC.cell 2
  have yC3 := bC.cell 3
  have yC4 := bC.cell 4
  have yC5 := bC.cell 5
  have yC6 := bC.cell 6
  have yC7 := bC.cell 7
  have bA := HBA.out
  have yA0 := bA.cell 0
  have yA1 := bA.cell 1
  simp only [List.getElem?_cons_zero, List.getElem?_cons_succ] at yI0 yI1 yI2 yC0 yC1 yC2 yC3 yC4 yC5 yC6 yC7 yA0 yA1
  have zI := bI.lt
  have zC := bC.lt
  have zA := bA.lt
  clear bI bC bA
  cases Ro with
  | true =>
    go_wp2
    go_ret
    exact ⟨rfl, HB4.out⟩
  | false =>
  by_cases y1 : 2000 < (na : Int)
  · have f1 : decide (2000 < (na : Int)) = true := decide_eq_true y1
    have f2 : decide (2000 < na) = true := decide_eq_true (by omega)
    go_wp2
    go_ret
    exact ⟨rfl, HB4.out⟩
  have f1 : decide (2000 < (na : Int)) = false := decide_eq_false y1
  have f2 : decide (2000 < na) = false := decide_eq_false (by omega)
  have HF1 := Lib.hid (HR1.out (by first | rfl | trivial))
  have HNl : Hid (l.length ≤ 40) := Lib.hid HF1.out.1
  have HSZ : Hid (∀ q ∈ l, q.cm.pa.size ≤ 1000 ∧ q.a.1 ≤ 1125899906842624) := Lib.hid (fun q hq => by have h1 := HF1.out.2 q hq; exact ⟨by omega, h1.2.2.2⟩)
  have HPc : Hid (c.pa.size ≤ 1000) := Lib.hid (by have h := HRo.out; unfold ovr1 at h; simp at h; omega)
  have HNu : Hid (la0.length ≤ 2000) := Lib.hid (by rw [HNA0.out]; omega)
  clear HR1 HRo y1
  go_wp2_with fail
  clear f1 f2
  obtain ⟨lb, hlb⟩ : ∃ x, (lclA l (i1, i2, i3) c).2 = x := ⟨_, rfl⟩
  obtain ⟨sb, hsb⟩ : ∃ x, (lclA l (i1, i2, i3) c).1 = x := ⟨_, rfl⟩
  have HLC : Hid (lclA l (i1, i2, i3) c = (sb, lb)) := Lib.hid (Prod.ext hsb hlb)
  obtain ⟨nb, hnb⟩ : ∃ n, lb.length = n := ⟨_, rfl⟩
  have HNB := Lib.hid hnb
  have HLB : Hid (lb.length ≤ 1000) := Lib.hid (by
    have h1 := lcl_len l (i1, i2, i3) c
    rw [HLC.out] at h1
    have := HNl.out
    simp only at h1
    omega)
  clear hlb hsb hnb
  have HC : Hid (∀ w' : World, Below w4.heap.size w4 w' → (Below w4.heap.size w4 w' ∧ w'.cell? ⟨w.heap.size, 0, none⟩ = some (.int .i64 i1) ∧ w'.cell? ⟨w.heap.size, 1, none⟩ = some (.int .i64 i2) ∧ w'.cell? ⟨w.heap.size, 2, none⟩ = some (.int .i64 i3) ∧ w'.cell? ⟨w.heap.size + 1, 0, none⟩ = some (.int .i64 c.cl) ∧ w'.cell? ⟨w.heap.size + 1, 1, none⟩ = some (.int .i64 c.sq) ∧ w'.cell? ⟨w.heap.size + 1, 2, none⟩ = some (.int .i64 c.op) ∧ w'.cell? ⟨w.heap.size + 1, 3, none⟩ = some (.string c.pa) ∧ w'.cell? ⟨w.heap.size + 1, 4, none⟩ = some (.string c.va) ∧ w'.cell? ⟨w.heap.size + 1, 5, none⟩ = some (.int .i64 c.ver) ∧ w'.cell? ⟨w.heap.size + 1, 6, none⟩ = some (.int .i64 c.a) ∧ w'.cell? ⟨w.heap.size + 1, 7, none⟩ = some (.int .i64 c.b) ∧ w'.cell? ⟨w.heap.size + 1 + 1, 0, none⟩ = some (.int .i64 s) ∧ w'.cell? ⟨w.heap.size + 1 + 1, 1, none⟩ = some (.slice aa na ca))) := Lib.hid (fun w' hb => ⟨hb, (hb.cell (p := ⟨w.heap.size, 0, none⟩) zI).trans yI0, (hb.cell (p := ⟨w.heap.size, 1, none⟩) zI).trans yI1, (hb.cell (p := ⟨w.heap.size, 2, none⟩) zI).trans yI2, (hb.cell (p := ⟨w.heap.size + 1, 0, none⟩) zC).trans yC0, (hb.cell (p := ⟨w.heap.size + 1, 1, none⟩) zC).trans yC1, (hb.cell (p := ⟨w.heap.size + 1, 2, none⟩) zC).trans yC2, (hb.cell (p := ⟨w.heap.size + 1, 3, none⟩) zC).trans yC3, (hb.cell (p := ⟨w.heap.size + 1, 4, none⟩) zC).trans yC4, (hb.cell (p := ⟨w.heap.size + 1, 5, none⟩) zC).trans yC5, (hb.cell (p := ⟨w.heap.size + 1, 6, none⟩) zC).trans yC6, (hb.cell (p := ⟨w.heap.size + 1, 7, none⟩) zC).trans yC7, (hb.cell (p := ⟨w.heap.size + 1 + 1, 0, none⟩) zA).trans yA0, (hb.cell (p := ⟨w.heap.size + 1 + 1, 1, none⟩) zA).trans yA1⟩)
  have CLo : Hid (∀ W : World, Below w4.heap.size w4 W → Calls Tryz.prog 8 #[.slice a0 N c0, .agg #[.int .i64 i1, .int .i64 i2, .int .i64 i3], .agg #[.int .i64 c.cl, .int .i64 c.sq, .int .i64 c.op, .string c.pa, .string c.va, .int .i64 c.ver, .int .i64 c.a, .int .i64 c.b]] W (AttP (sb, lb) W)) := Lib.hid (fun W hW => by
    have h := local_any (.slice a0 N c0) rs l (i1, i2, i3) c W (H.out.on (below_self2 HB4.out hW)) (by have := HNl.out; omega) (HM.out.below (below_self2 HB4.out hW)) HSZ.out HPc.out
    rw [HLC.out] at h
    exact h)
  have COf : Hid (∀ W : World, Below w4.heap.size w4 W → Calls Tryz.prog 10 #[.slice a0 N c0] W (OfP l W)) := Lib.hid (fun W hW => of_any (.slice a0 N c0) rs l W (H.out.on (below_self2 HB4.out hW)) (by have := HNl.out; omega))
  have CRl : Hid (∀ (W : World) (v : Value) (rs2 : List (Cls 13)), RowIs KrK knS W v rs2 l → Calls Tryz.prog 9 #[v, .agg #[.int .i64 i1, .int .i64 i2, .int .i64 i3], .agg #[.int .i64 c.cl, .int .i64 c.sq, .int .i64 c.op, .string c.pa, .string c.va, .int .i64 c.ver, .int .i64 c.a, .int .i64 c.b]] W (AttP (sb, lb) W)) := Lib.hid (fun W v rs2 hr => by
    have h := rlocal_any v rs2 l i1 i2 i3 c W hr (by have := HNl.out; omega) HSZ.out HPc.out
    rw [HLC.out] at h
    exact h)
  have CSm : Hid (∀ (W : World) (v1 v2 : Value), IK.Rd W v1 lb → IK.Rd W v2 lb → Calls Tryz.prog 7 #[.agg #[.int .i64 sb, v1], .agg #[.int .i64 sb, v2]] W fun e w' => e = .returned (.bool true) ∧ Below W.heap.size W w') := Lib.hid (fun W v1 v2 h1 h2 => by
    have h := lsame_any sb sb v1 v2 lb lb W h1 HLB.out h2 HLB.out
    rw [show (decide (sb = sb) && decide (lb = lb)) = true from by simp] at h
    exact h)
  have hD4 : w.heap.size ≤ w4.heap.size := HB4.out.size
  clear yI0 yI1 yI2 yC0 yC1 yC2 yC3 yC4 yC5 yC6 yC7 yA0 yA1 zI zC zA
  refine wp_region_held_drew (S := (fun w' => Below w4.heap.size w4 w' ∧ w'.cell? ⟨w.heap.size, 0, none⟩ = some (.int .i64 i1) ∧ w'.cell? ⟨w.heap.size, 1, none⟩ = some (.int .i64 i2) ∧ w'.cell? ⟨w.heap.size, 2, none⟩ = some (.int .i64 i3) ∧ w'.cell? ⟨w.heap.size + 1, 0, none⟩ = some (.int .i64 c.cl) ∧ w'.cell? ⟨w.heap.size + 1, 1, none⟩ = some (.int .i64 c.sq) ∧ w'.cell? ⟨w.heap.size + 1, 2, none⟩ = some (.int .i64 c.op) ∧ w'.cell? ⟨w.heap.size + 1, 3, none⟩ = some (.string c.pa) ∧ w'.cell? ⟨w.heap.size + 1, 4, none⟩ = some (.string c.va) ∧ w'.cell? ⟨w.heap.size + 1, 5, none⟩ = some (.int .i64 c.ver) ∧ w'.cell? ⟨w.heap.size + 1, 6, none⟩ = some (.int .i64 c.a) ∧ w'.cell? ⟨w.heap.size + 1, 7, none⟩ = some (.int .i64 c.b) ∧ w'.cell? ⟨w.heap.size + 1 + 1, 0, none⟩ = some (.int .i64 s) ∧ w'.cell? ⟨w.heap.size + 1 + 1, 1, none⟩ = some (.slice aa na ca))) (by kernel_rfl) ?_ (fun hHeld => ?_)
  · ((first
      | exact HC.out _ hS5
      | exact HC.out _ (Below.alloc hHeld.1 (Below.size hHeld.1) _)
      | exact HC.out _ (Below.drew hHeld.1)
      | exact HC.out _ (Below.refl _ _).drew
      | exact HC.out _ (Below.refl _ _)
      | fail))
  refine wpAnyH_take (i := 0) (v := ?_) rfl (by kernel_rfl) (by kernel_rfl) (by kernel_rfl) (fun _ _ _ h => h) (Or.inl ⟨by rfl, ?_⟩) (by assumption) ?_
  rotate_left
  · (intro w hSw; (try dsimp only at hSw); go_simp; try rfl)
  try simp only [Act.put, List.setIfInBounds_toArray, List.set_cons_zero, List.set_cons_succ, List.getElem_toArray, List.getElem_cons_zero, List.getElem_cons_succ]
  refine wpAnyH_take (i := 1) (v := ?_) rfl (by kernel_rfl) (by kernel_rfl) (by kernel_rfl) (fun _ _ _ h => h) (Or.inl ⟨by rfl, ?_⟩) (by assumption) ?_
  rotate_left
  · (intro w hSw; (try dsimp only at hSw); go_simp; try rfl)
  try simp only [Act.put, List.setIfInBounds_toArray, List.set_cons_zero, List.set_cons_succ, List.getElem_toArray, List.getElem_cons_zero, List.getElem_cons_succ]
  refine wpAnyH_take (i := 2) (v := ?_) rfl (by kernel_rfl) (by kernel_rfl) (by kernel_rfl) (fun _ _ _ h => h) (Or.inl ⟨by rfl, ?_⟩) (by assumption) ?_
  rotate_left
  · (intro w hSw; (try dsimp only at hSw); go_simp; try rfl)
  try simp only [Act.put, List.setIfInBounds_toArray, List.set_cons_zero, List.set_cons_succ, List.getElem_toArray, List.getElem_cons_zero, List.getElem_cons_succ]
  refine wpAnyH_take (i := 4) (v := ?_) rfl (by kernel_rfl) (by kernel_rfl) (by kernel_rfl) (fun _ _ _ h => h) (Or.inl ⟨by rfl, ?_⟩) (by assumption) ?_
  rotate_left
  · (intro w hSw; (try dsimp only at hSw); go_simp; try rfl)
  try simp only [Act.put, List.setIfInBounds_toArray, List.set_cons_zero, List.set_cons_succ, List.getElem_toArray, List.getElem_cons_zero, List.getElem_cons_succ]
  refine wpAnyH_take (i := 6) (v := ?_) rfl (by kernel_rfl) (by kernel_rfl) (by kernel_rfl) (fun _ _ _ h => h) (Or.inl ⟨by rfl, ?_⟩) (by assumption) ?_
  rotate_left
  · (intro w hSw; (try dsimp only at hSw); go_simp; try rfl)
  try simp only [Act.put, List.setIfInBounds_toArray, List.set_cons_zero, List.set_cons_succ, List.getElem_toArray, List.getElem_cons_zero, List.getElem_cons_succ]
  refine wpAnyH_take (i := 7) (v := ?_) rfl (by kernel_rfl) (by kernel_rfl) (by kernel_rfl) (fun _ _ _ h => h) (Or.inl ⟨by rfl, ?_⟩) (by assumption) ?_
  rotate_left
  · (intro w hSw; (try dsimp only at hSw); go_simp; try rfl)
  try simp only [Act.put, List.setIfInBounds_toArray, List.set_cons_zero, List.set_cons_succ, List.getElem_toArray, List.getElem_cons_zero, List.getElem_cons_succ]
  refine wpAnyH_ready (rs := [3]) (by kernel_rfl) (by simp) ?_
  refine (AllReadyH.cons rfl (fun K hK => ?_) AllReadyH.nil)
  go_simp
  (go_at_call 8; refine (CLo.out _ hHeld.1).mono ?_; rintro e w5 ⟨v5, he5, ho5, hbw5⟩; have he5 := he5.out; subst he5; simp only at ho5; obtain ⟨a5, c5, hv5⟩ := ho5.slice; rw [HNB.out] at hv5; subst hv5; have HRa := Lib.hid ho5.rd; clear ho5; have hS5 : Below w4.heap.size w4 w5 := below_self hHeld.1 hbw5)
  refine hK.out _ _ ?_ (fun hHeldN => ?_)
  · ((first
      | exact HC.out _ hS5
      | exact HC.out _ (Below.alloc hHeld.1 (Below.size hHeld.1) _)
      | exact HC.out _ (Below.drew hHeld.1)
      | exact HC.out _ (Below.refl _ _).drew
      | exact HC.out _ (Below.refl _ _)
      | fail))
  clear hK K
  try clear hS5 hbw5
  try clear hPrev
  have hPrev := Lib.hid hHeld.1
  clear hHeld
  have hHeld := hHeldN
  clear hHeldN
  try simp only [Act.put, List.setIfInBounds_toArray, List.set_cons_zero, List.set_cons_succ, List.getElem_toArray, List.getElem_cons_zero, List.getElem_cons_succ]
  refine wpAnyH_ready (rs := [5]) (by kernel_rfl) (by simp) ?_
  refine (AllReadyH.cons rfl (fun K hK => ?_) AllReadyH.nil)
  go_simp
  (go_at_call 10; refine (COf.out _ hHeld.1).mono ?_; rintro e w6 ⟨v6, rs6, he6, hr6, hbw5⟩; have he6 := he6.out; subst he6; have HRW := Lib.hid hr6; obtain ⟨a6, c6, hv6⟩ := hr6.rd.slice; obtain ⟨n6, hn6⟩ : ∃ n, rs6.length = n := ⟨_, rfl⟩; rw [hn6] at hv6; subst hv6; replace HRa := Lib.hid (HRa.out.below hbw5); clear hr6 hn6; have hS5 : Below w4.heap.size w4 w6 := below_self hHeld.1 hbw5)
  refine hK.out _ _ ?_ (fun hHeldN => ?_)
  · ((first
      | exact HC.out _ hS5
      | exact HC.out _ (Below.alloc hHeld.1 (Below.size hHeld.1) _)
      | exact HC.out _ (Below.drew hHeld.1)
      | exact HC.out _ (Below.refl _ _).drew
      | exact HC.out _ (Below.refl _ _)
      | fail))
  clear hK K
  try clear hS5 hbw5
  try clear hPrev
  have hPrev := Lib.hid hHeld.1
  clear hHeld
  have hHeld := hHeldN
  clear hHeldN
  try simp only [Act.put, List.setIfInBounds_toArray, List.set_cons_zero, List.set_cons_succ, List.getElem_toArray, List.getElem_cons_zero, List.getElem_cons_succ]
  refine wpAnyH_ready (rs := [8]) (by kernel_rfl) (by simp) ?_
  refine (AllReadyH.cons rfl (fun K hK => ?_) AllReadyH.nil)
  go_simp
  (go_at_call 9; refine (CRl.out _ _ rs6 HRW.out).mono ?_; rintro e w5 ⟨v5, he5, ho5, hbw5⟩; replace HRa := Lib.hid (HRa.out.below hbw5); have he5 := he5.out; subst he5; simp only at ho5; obtain ⟨a5, c5, hv5⟩ := ho5.slice; rw [HNB.out] at hv5; subst hv5; have HRb := Lib.hid ho5.rd; clear ho5; have hS5 : Below w4.heap.size w4 w5 := below_self hHeld.1 hbw5)
  refine hK.out _ _ ?_ (fun hHeldN => ?_)
  · ((first
      | exact HC.out _ hS5
      | exact HC.out _ (Below.alloc hHeld.1 (Below.size hHeld.1) _)
      | exact HC.out _ (Below.drew hHeld.1)
      | exact HC.out _ (Below.refl _ _).drew
      | exact HC.out _ (Below.refl _ _)
      | fail))
  clear hK K
  try clear hS5 hbw5
  try clear hPrev
  have hPrev := Lib.hid hHeld.1
  clear hHeld
  have hHeld := hHeldN
  clear hHeldN
  try simp only [Act.put, List.setIfInBounds_toArray, List.set_cons_zero, List.set_cons_succ, List.getElem_toArray, List.getElem_cons_zero, List.getElem_cons_succ]
  refine wpAnyH_ready (rs := [9]) (by kernel_rfl) (by simp) ?_
  refine (AllReadyH.cons rfl (fun K hK => ?_) AllReadyH.nil)
  go_simp
  (go_at_call 7; refine (CSm.out _ _ _ HRa.out HRb.out).mono ?_; rintro e w7 ⟨rfl, hbw5⟩; have hS5 : Below w4.heap.size w4 w7 := below_self hHeld.1 hbw5)
  refine hK.out _ _ ?_ (fun hHeldN => ?_)
  · ((first
      | exact HC.out _ hS5
      | exact HC.out _ (Below.alloc hHeld.1 (Below.size hHeld.1) _)
      | exact HC.out _ (Below.drew hHeld.1)
      | exact HC.out _ (Below.refl _ _).drew
      | exact HC.out _ (Below.refl _ _)
      | fail))
  clear hK K
  try clear hS5 hbw5
  try clear hPrev
  have hPrev := Lib.hid hHeld.1
  clear hHeld
  have hHeld := hHeldN
  clear hHeldN
  try simp only [Act.put, List.setIfInBounds_toArray, List.set_cons_zero, List.set_cons_succ, List.getElem_toArray, List.getElem_cons_zero, List.getElem_cons_succ]
  refine wpAnyH_take (i := 10) (v := ?_) rfl (by kernel_rfl) (by kernel_rfl) (by kernel_rfl) (fun _ _ _ h => h) (Or.inl ⟨by rfl, ?_⟩) (by assumption) ?_
  rotate_left
  · (intro w hSw; (try dsimp only at hSw); go_simp; try rfl)
  try simp only [Act.put, List.setIfInBounds_toArray, List.set_cons_zero, List.set_cons_succ, List.getElem_toArray, List.getElem_cons_zero, List.getElem_cons_succ]
  refine wpAnyH_done (by kernel_rfl) ?_ _
  have HBE := Lib.hid hHeld.1
  clear hHeld hPrev HC CLo COf CRl CSm HRa HRb HRW
  try clear hS5
  try clear hbw5
  have HBI7 := Lib.hid (HBI.out.below HBE.out)
  have HBC7 := Lib.hid (HBC.out.below HBE.out)
  have HBA7 := Lib.hid (HBA.out.below HBE.out)
  clear HBI HBC HBA
  have bI7 := HBI7.out
  have yI70 := bI7.cell 0
  have yI71 := bI7.cell 1
  have yI72 := bI7.cell 2
  have bA7 := HBA7.out
  have yA70 := bA7.cell 0
  have yA71 := bA7.cell 1
  simp only [List.getElem?_cons_zero, List.getElem?_cons_succ] at yI70 yI71 yI72 yA70 yA71
  have zI7 := bI7.lt
  have zA7 := bA7.lt
  clear bI7 bA7
  have HC : Hid (∀ w' : World, Below w7.heap.size w7 w' → (Below w7.heap.size w7 w' ∧ w'.cell? ⟨w.heap.size, 0, none⟩ = some (.int .i64 i1) ∧ w'.cell? ⟨w.heap.size, 1, none⟩ = some (.int .i64 i2) ∧ w'.cell? ⟨w.heap.size, 2, none⟩ = some (.int .i64 i3) ∧ w'.cell? ⟨w.heap.size + 1 + 1, 0, none⟩ = some (.int .i64 s) ∧ w'.cell? ⟨w.heap.size + 1 + 1, 1, none⟩ = some (.slice aa na ca))) := Lib.hid (fun w' hb => ⟨hb, (hb.cell (p := ⟨w.heap.size, 0, none⟩) zI7).trans yI70, (hb.cell (p := ⟨w.heap.size, 1, none⟩) zI7).trans yI71, (hb.cell (p := ⟨w.heap.size, 2, none⟩) zI7).trans yI72, (hb.cell (p := ⟨w.heap.size + 1 + 1, 0, none⟩) zA7).trans yA70, (hb.cell (p := ⟨w.heap.size + 1 + 1, 1, none⟩) zA7).trans yA71⟩)
  have HBT := Lib.hid (below_self2 HB4.out HBE.out)
  obtain ⟨V, hV⟩ : ∃ V, vldA (i1, i2, i3) (s, la0) = V := ⟨_, rfl⟩
  have CV : Hid (∀ W : World, Below w7.heap.size w7 W → Calls Tryz.prog 11 #[.agg #[.int .i64 i1, .int .i64 i2, .int .i64 i3], .agg #[.int .i64 s, .slice aa na ca]] W fun e w' => e = .returned (.bool V) ∧ Below W.heap.size W w') := Lib.hid (fun W hW => by
    have h := avalid_any i1 i2 i3 s _ la0 W (HU.out.below (below_self2 HBT.out hW)) (by have := HNu.out; omega)
    rw [hV] at h
    exact h)
  have CR : Hid (∀ W : World, Below w7.heap.size w7 W → Calls Tryz.prog 12 #[.agg #[.int .i64 i1, .int .i64 i2, .int .i64 i3], .agg #[.int .i64 s, .slice aa na ca]] W fun e w' => e = .returned (.bool V) ∧ Below W.heap.size W w') := Lib.hid (fun W hW => by
    have h := rvalid11_any i1 i2 i3 s _ la0 W (HU.out.below (below_self2 HBT.out hW)) (by have := HNu.out; omega)
    rw [hV] at h
    exact h)
  have eV : (V == V) = true := by cases V <;> rfl
  have hD7 : w.heap.size ≤ w7.heap.size := HBT.out.size
  clear hV yI70 yI71 yI72 yA70 yA71 zI7 zA7
  go_wp2_with fail
  refine wp_region_held_drew (S := (fun w' => Below w7.heap.size w7 w' ∧ w'.cell? ⟨w.heap.size, 0, none⟩ = some (.int .i64 i1) ∧ w'.cell? ⟨w.heap.size, 1, none⟩ = some (.int .i64 i2) ∧ w'.cell? ⟨w.heap.size, 2, none⟩ = some (.int .i64 i3) ∧ w'.cell? ⟨w.heap.size + 1 + 1, 0, none⟩ = some (.int .i64 s) ∧ w'.cell? ⟨w.heap.size + 1 + 1, 1, none⟩ = some (.slice aa na ca))) (by kernel_rfl) ?_ (fun hHeld => ?_)
  · ((first
      | exact HC.out _ hS5
      | exact HC.out _ (Below.alloc hHeld.1 (Below.size hHeld.1) _)
      | exact HC.out _ (Below.drew hHeld.1)
      | exact HC.out _ (Below.refl _ _).drew
      | exact HC.out _ (Below.refl _ _)
      | fail))
  refine wpAnyH_take (i := 0) (v := ?_) rfl (by kernel_rfl) (by kernel_rfl) (by kernel_rfl) (fun _ _ _ h => h) (Or.inl ⟨by rfl, ?_⟩) (by assumption) ?_
  rotate_left
  · (intro w hSw; (try dsimp only at hSw); go_simp; try rfl)
  try simp only [Act.put, List.setIfInBounds_toArray, List.set_cons_zero, List.set_cons_succ, List.getElem_toArray, List.getElem_cons_zero, List.getElem_cons_succ]
  refine wpAnyH_take (i := 1) (v := ?_) rfl (by kernel_rfl) (by kernel_rfl) (by kernel_rfl) (fun _ _ _ h => h) (Or.inl ⟨by rfl, ?_⟩) (by assumption) ?_
  rotate_left
  · (intro w hSw; (try dsimp only at hSw); go_simp; try rfl)
  try simp only [Act.put, List.setIfInBounds_toArray, List.set_cons_zero, List.set_cons_succ, List.getElem_toArray, List.getElem_cons_zero, List.getElem_cons_succ]
  refine wpAnyH_take (i := 2) (v := ?_) rfl (by kernel_rfl) (by kernel_rfl) (by kernel_rfl) (fun _ _ _ h => h) (Or.inl ⟨by rfl, ?_⟩) (by assumption) ?_
  rotate_left
  · (intro w hSw; (try dsimp only at hSw); go_simp; try rfl)
  try simp only [Act.put, List.setIfInBounds_toArray, List.set_cons_zero, List.set_cons_succ, List.getElem_toArray, List.getElem_cons_zero, List.getElem_cons_succ]
  refine wpAnyH_take (i := 3) (v := ?_) rfl (by kernel_rfl) (by kernel_rfl) (by kernel_rfl) (fun _ _ _ h => h) (Or.inl ⟨by rfl, ?_⟩) (by assumption) ?_
  rotate_left
  · (intro w hSw; (try dsimp only at hSw); go_simp; try rfl)
  try simp only [Act.put, List.setIfInBounds_toArray, List.set_cons_zero, List.set_cons_succ, List.getElem_toArray, List.getElem_cons_zero, List.getElem_cons_succ]
  refine wpAnyH_take (i := 4) (v := ?_) rfl (by kernel_rfl) (by kernel_rfl) (by kernel_rfl) (fun _ _ _ h => h) (Or.inl ⟨by rfl, ?_⟩) (by assumption) ?_
  rotate_left
  · (intro w hSw; (try dsimp only at hSw); go_simp; try rfl)
  try simp only [Act.put, List.setIfInBounds_toArray, List.set_cons_zero, List.set_cons_succ, List.getElem_toArray, List.getElem_cons_zero, List.getElem_cons_succ]
  refine wpAnyH_take (i := 5) (v := ?_) rfl (by kernel_rfl) (by kernel_rfl) (by kernel_rfl) (fun _ _ _ h => h) (Or.inl ⟨by rfl, ?_⟩) (by assumption) ?_
  rotate_left
  · (intro w hSw; (try dsimp only at hSw); go_simp; try rfl)
  try simp only [Act.put, List.setIfInBounds_toArray, List.set_cons_zero, List.set_cons_succ, List.getElem_toArray, List.getElem_cons_zero, List.getElem_cons_succ]
  refine wpAnyH_take (i := 6) (v := ?_) rfl (by kernel_rfl) (by kernel_rfl) (by kernel_rfl) (fun _ _ _ h => h) (Or.inl ⟨by rfl, ?_⟩) (by assumption) ?_
  rotate_left
  · (intro w hSw; (try dsimp only at hSw); go_simp; try rfl)
  try simp only [Act.put, List.setIfInBounds_toArray, List.set_cons_zero, List.set_cons_succ, List.getElem_toArray, List.getElem_cons_zero, List.getElem_cons_succ]
  refine wpAnyH_take (i := 8) (v := ?_) rfl (by kernel_rfl) (by kernel_rfl) (by kernel_rfl) (fun _ _ _ h => h) (Or.inl ⟨by rfl, ?_⟩) (by assumption) ?_
  rotate_left
  · (intro w hSw; (try dsimp only at hSw); go_simp; try rfl)
  try simp only [Act.put, List.setIfInBounds_toArray, List.set_cons_zero, List.set_cons_succ, List.getElem_toArray, List.getElem_cons_zero, List.getElem_cons_succ]
  refine wpAnyH_take (i := 9) (v := ?_) rfl (by kernel_rfl) (by kernel_rfl) (by kernel_rfl) (fun _ _ _ h => h) (Or.inl ⟨by rfl, ?_⟩) (by assumption) ?_
  rotate_left
  · (intro w hSw; (try dsimp only at hSw); go_simp; try rfl)
  try simp only [Act.put, List.setIfInBounds_toArray, List.set_cons_zero, List.set_cons_succ, List.getElem_toArray, List.getElem_cons_zero, List.getElem_cons_succ]
  refine wpAnyH_ready (rs := [7]) (by kernel_rfl) (by simp) ?_
  refine (AllReadyH.cons rfl (fun K hK => ?_) AllReadyH.nil)
  go_simp
  (go_at_call 11; refine (CV.out _ hHeld.1).mono ?_; rintro e w5 ⟨rfl, hbw5⟩; have hS5 : Below w7.heap.size w7 w5 := below_self hHeld.1 hbw5)
  refine hK.out _ _ ?_ (fun hHeldN => ?_)
  · ((first
      | exact HC.out _ hS5
      | exact HC.out _ (Below.alloc hHeld.1 (Below.size hHeld.1) _)
      | exact HC.out _ (Below.drew hHeld.1)
      | exact HC.out _ (Below.refl _ _).drew
      | exact HC.out _ (Below.refl _ _)
      | fail))
  clear hK K
  try clear hS5 hbw5
  try clear hPrev
  have hPrev := Lib.hid hHeld.1
  clear hHeld
  have hHeld := hHeldN
  clear hHeldN
  try simp only [Act.put, List.setIfInBounds_toArray, List.set_cons_zero, List.set_cons_succ, List.getElem_toArray, List.getElem_cons_zero, List.getElem_cons_succ]
  refine wpAnyH_ready (rs := [10]) (by kernel_rfl) (by simp) ?_
  refine (AllReadyH.cons rfl (fun K hK => ?_) AllReadyH.nil)
  go_simp
  (go_at_call 12; refine (CR.out _ hHeld.1).mono ?_; rintro e w5 ⟨rfl, hbw5⟩; have hS5 : Below w7.heap.size w7 w5 := below_self hHeld.1 hbw5)
  refine hK.out _ _ ?_ (fun hHeldN => ?_)
  · ((first
      | exact HC.out _ hS5
      | exact HC.out _ (Below.alloc hHeld.1 (Below.size hHeld.1) _)
      | exact HC.out _ (Below.drew hHeld.1)
      | exact HC.out _ (Below.refl _ _).drew
      | exact HC.out _ (Below.refl _ _)
      | fail))
  clear hK K
  try clear hS5 hbw5
  try clear hPrev
  have hPrev := Lib.hid hHeld.1
  clear hHeld
  have hHeld := hHeldN
  clear hHeldN
  try simp only [Act.put, List.setIfInBounds_toArray, List.set_cons_zero, List.set_cons_succ, List.getElem_toArray, List.getElem_cons_zero, List.getElem_cons_succ]
  refine wpAnyH_take (i := 11) (v := ?_) rfl (by kernel_rfl) (by kernel_rfl) (by kernel_rfl) (fun _ _ _ h => h) (Or.inl ⟨by rfl, ?_⟩) (by assumption) ?_
  rotate_left
  · (intro w hSw; (try dsimp only at hSw); go_simp; try rfl)
  try simp only [Act.put, List.setIfInBounds_toArray, List.set_cons_zero, List.set_cons_succ, List.getElem_toArray, List.getElem_cons_zero, List.getElem_cons_succ]
  refine wpAnyH_take (i := 12) (v := ?_) rfl (by kernel_rfl) (by kernel_rfl) (by kernel_rfl) (fun _ _ _ h => h) (Or.inl ⟨by rfl, ?_⟩) (by assumption) ?_
  rotate_left
  · (intro w hSw; (try dsimp only at hSw); go_simp; try rfl)
  try simp only [Act.put, List.setIfInBounds_toArray, List.set_cons_zero, List.set_cons_succ, List.getElem_toArray, List.getElem_cons_zero, List.getElem_cons_succ]
  refine wpAnyH_take (i := 13) (v := ?_) rfl (by kernel_rfl) (by kernel_rfl) (by kernel_rfl) (fun _ _ _ h => h) (Or.inl ⟨by rfl, ?_⟩) (by assumption) ?_
  rotate_left
  · (intro w hSw; (try dsimp only at hSw); go_simp; try rfl)
  try simp only [Act.put, List.setIfInBounds_toArray, List.set_cons_zero, List.set_cons_succ, List.getElem_toArray, List.getElem_cons_zero, List.getElem_cons_succ]
  refine wpAnyH_done (by kernel_rfl) ?_ _
  have HEND := Lib.hid hHeld.1
  clear hHeld
  go_wp2
  go_ret
  exact ⟨by first | rfl | simp, HBT.out.trans (HEND.out.mono hD7)⟩
end Go.Proofs.YtfngjdcagopapaaGreat
