/-
  Leads: a greater ballot beats a lead, a lesser one does not: the law's walk.
-/
import Derived.Test.YtplplehfkfjhnaaLdXm
import Derived.Test.YtplplehfkfjhnaaLdBv
namespace Go.Proofs.Ytplplehfkfjhnaa
open Go.RowKit
open Bb (quoN thN allB)
set_option linter.unusedSimpArgs false
set_option linter.unusedVariables false
set_option maxRecDepth 100000

set_option maxHeartbeats 16000000 in
theorem beaten_lawTF (ep : Int) (ao : Option Addr) (co : Nat) (zs : List Int) (x : Mg) (v : Value) (b1 b2 fr : Int) (W : World) (hr : It W (.slice ao zs.length co) zs) (hm : MsgIs W v x) (hless0 : Bb.lessB x.bal.1 x.bal.2 b1 b2 = true) (hhas0 : inB fr zs = false) :
    Calls Try.prog 5 #[.agg #[.int .i64 ep, .slice ao zs.length co], v, .agg #[.int .i64 b1, .int .i64 b2], .int .i64 fr] W fun e w' => e = .returned (.bool true) ∧ Below W.heap.size W w' := by
  have HMI := Lib.hid hm
  have HMV := Lib.hid hm.mgv
  obtain ⟨ua, uc, a1, d1, c1, a2, d2, c2, a3, d3, c3, rfl, hrd, hok⟩ := hm.mgv
  obtain ⟨n0, n1, n2, ⟨n3, n4, n5⟩, ⟨n6, n7⟩, ⟨n8, ⟨n9, n10⟩, ⟨n11, n12⟩, ⟨n13, n14, n15, n16, n17, n18, n19, n20⟩, n21, dl⟩, sn0⟩ := x
  obtain ⟨n23, sn1⟩ : ∃ q, sn0.1.1 = q := ⟨_, rfl⟩
  obtain ⟨M, hM⟩ : ∃ M, dl.length = M := ⟨_, rfl⟩
  have HMl := Lib.hid hM
  simp only at hrd hok
  simp only [msE, inE, snV, hM, sn1, List.cons_append, List.nil_append] at hrd HMI HMV ⊢
  clear hM sn1 hm
  obtain ⟨N, hN⟩ : ∃ N, zs.length = N := ⟨_, rfl⟩
  have hN63 := hr.len
  rw [hN] at hN63 ⊢
  obtain ⟨X0, hX0⟩ : ∃ X0, ((W.alloc (.cells #[.int .i64 ep, .slice ao N co] 24)).alloc (.cells #[.int .i64 n0, .int .i64 n1, .int .i64 n2, .int .i64 n3, .int .i64 n4, .int .i64 n5, .int .i64 n6, .int .i64 n7, .int .i64 n8, .int .i64 n9, .int .i64 n10, .int .i64 n11, .int .i64 n12, .int .i64 n13, .int .i64 n14, .int .i64 n15, .string n16, .string n17, .int .i64 n18, .int .i64 n19, .int .i64 n20, .int .i64 n21, .slice ua M uc, .int .i64 n23, .slice a1 d1 c1, .slice a2 d2 c2, .slice a3 d3 c3] 44)).alloc (.cells #[.int .i64 b1, .int .i64 b2] 29) = X0 := ⟨_, rfl⟩
  have HC0 : Hid (Bk X0 W.heap.size 24 [.int .i64 ep, .slice ao N co]) := Lib.hid (by rw [← hX0]; exact ((Bk.newAt rfl _ [.int .i64 ep, .slice ao N co]).old _).old _)
  have HM0 : Hid (Bk X0 (W.heap.size + 1) 44 [.int .i64 n0, .int .i64 n1, .int .i64 n2, .int .i64 n3, .int .i64 n4, .int .i64 n5, .int .i64 n6, .int .i64 n7, .int .i64 n8, .int .i64 n9, .int .i64 n10, .int .i64 n11, .int .i64 n12, .int .i64 n13, .int .i64 n14, .int .i64 n15, .string n16, .string n17, .int .i64 n18, .int .i64 n19, .int .i64 n20, .int .i64 n21, .slice ua M uc, .int .i64 n23, .slice a1 d1 c1, .slice a2 d2 c2, .slice a3 d3 c3]) := Lib.hid (by rw [← hX0]; exact (Bk.newAt (by simp) _ [.int .i64 n0, .int .i64 n1, .int .i64 n2, .int .i64 n3, .int .i64 n4, .int .i64 n5, .int .i64 n6, .int .i64 n7, .int .i64 n8, .int .i64 n9, .int .i64 n10, .int .i64 n11, .int .i64 n12, .int .i64 n13, .int .i64 n14, .int .i64 n15, .string n16, .string n17, .int .i64 n18, .int .i64 n19, .int .i64 n20, .int .i64 n21, .slice ua M uc, .int .i64 n23, .slice a1 d1 c1, .slice a2 d2 c2, .slice a3 d3 c3]).old _)
  have HB0 : Hid (Bk X0 (W.heap.size + 1 + 1) 29 [.int .i64 b1, .int .i64 b2]) := Lib.hid (by rw [← hX0]; exact Bk.newAt (by simp) _ [.int .i64 b1, .int .i64 b2])
  have HW0 : Hid (Below W.heap.size W X0) := Lib.hid (by rw [← hX0]; exact (((Below.refl _ _).alloc (Nat.le_refl _) _).alloc (by simp) _).alloc (by simp; omega) _)
  have HIt := Lib.hid (hr.below HW0.out)
  have HRow : Hid (IRow X0 ao zs) := Lib.hid (by
    obtain ⟨a, c, e, h1, h2⟩ := HIt.out.row
    injection e with e1 e2 e3
    subst e1
    exact h1)
  have HMI0 := Lib.hid (HMI.out.on HW0.out)
  have HWk := Lib.hid (works_any X0)
  have HN' := Lib.hid hN
  have HTk : Hid (∀ w, It w (.slice ao zs.length co) zs → zs.length ≤ 1000 → Calls Try.prog 10 #[.agg #[.int .i64 ep, .slice ao N co], .int .i64 n1, .agg #[.int .i64 n3, .int .i64 n4, .int .i64 n5], .agg #[.int .i64 n6, .int .i64 n7]] w (LdP (tkL ep zs n1 (n3, n4, n5) (n6, n7)) w)) := Lib.hid fun w h1 h2 => by
    have h := take_any ep ao co zs n1 n3 n4 n5 n6 n7 w h1 h2
    rw [hN] at h
    exact h
  have HHs : Hid (∀ w, IRow w ao zs → Calls Try.prog 14 #[.agg #[.int .i64 ep, .slice ao N co], .int .i64 fr] w fun e w' => e = .returned (.bool (inB fr zs)) ∧ Below w.heap.size w w') := Lib.hid fun w h1 => by
    have h := rcHas_any ep fr ao co zs w h1
    rw [hN] at h
    exact h
  clear hr hrd hok HMV HMI
  go_enter Try.func5, Try.ntmps5
  go_wp2_with fail
  try rw [hX0]
  refine HWk.out.mono ?_
  rintro e w1 ⟨rfl, hb⟩
  have HX := Lib.hid hb
  clear hX0 HWk hb
  have cc0 := (HC0.out.below HX.out).cell 0
  have cc1 := (HC0.out.below HX.out).cell 1
  have bb0 := (HB0.out.below HX.out).cell 0
  have bb1 := (HB0.out.below HX.out).cell 1
  simp only [List.getElem?_cons_zero, List.getElem?_cons_succ] at cc0 cc1 bb0 bb1
  by_cases q1 : (40 : Int) < (N : Int)
  · have dq1 : decide ((40 : Int) < (N : Int)) = true := decide_eq_true q1
    have dq1n : decide (40 < N) = true := decide_eq_true (by omega)
    go_wp2
    go_ret
    exact ⟨rfl, HW0.out.trans (HX.out.mono HW0.out.size)⟩
  have dq1 : decide ((40 : Int) < (N : Int)) = false := decide_eq_false q1
  have dq1n : decide (40 < N) = false := decide_eq_false (by omega)
  have HN : Hid (zs.length ≤ 40) := Lib.hid (by rw [HN'.out]; omega)
  clear hN
  go_wp2_with fail
  refine (Bb.valid_any b1 b2 w1).mono ?_
  rintro e w2 ⟨rfl, hb⟩
  have HX' := Lib.hid (HX.out.trans (hb.mono HX.out.size))
  clear hb HX
  have HX := HX'
  clear HX'
  clear cc0 cc1 bb0 bb1
  have y1 := (HM0.out.below HX.out).cell 1
  have y3 := (HM0.out.below HX.out).cell 3
  have y4 := (HM0.out.below HX.out).cell 4
  have y5 := (HM0.out.below HX.out).cell 5
  have y6 := (HM0.out.below HX.out).cell 6
  have y7 := (HM0.out.below HX.out).cell 7
  simp only [List.getElem?_cons_zero, List.getElem?_cons_succ] at y1 y3 y4 y5 y6 y7
  cases v1 : Bb.vaB b1 b2 with
  | false =>
    go_wp2
    go_ret
    exact ⟨rfl, HW0.out.trans (HX.out.mono HW0.out.size)⟩
  | true =>
  go_wp2_with fail
  refine (Bb.valid_any n6 n7 w2).mono ?_
  rintro e w3 ⟨rfl, hb⟩
  have HX' := Lib.hid (HX.out.trans (hb.mono HX.out.size))
  clear hb HX
  have HX := HX'
  clear HX'
  clear y1 y3 y4 y5 y6 y7
  cases v2 : Bb.vaB n6 n7 with
  | false =>
    go_wp2
    go_ret
    exact ⟨rfl, HW0.out.trans (HX.out.mono HW0.out.size)⟩
  | true =>
  have HM3 := Lib.hid (HM0.out.below HX.out)
  go_wp2_with (first
    | refine wpList_load_rowG rfl _ _ rfl (W.heap.size + 1) rfl 44 _ (0, 0) _ HM3.out Try.underlying44 rfl infoMs ?_
    | fail)
  refine (small_any (HMI0.out.on HX.out)).mono ?_
  rintro e w4 ⟨R, he, hR, hb⟩
  rw [he.out]
  have HX' := Lib.hid (HX.out.trans (hb.mono HX.out.size))
  clear hb HX
  have HX := HX'
  clear HX'
  clear he HM3 hR
  cases R with
  | false =>
    go_wp2
    go_ret
    exact ⟨rfl, HW0.out.trans (HX.out.mono HW0.out.size)⟩
  | true =>
  have y1 := (HM0.out.below HX.out).cell 1
  have y3 := (HM0.out.below HX.out).cell 3
  have y4 := (HM0.out.below HX.out).cell 4
  have y5 := (HM0.out.below HX.out).cell 5
  have y6 := (HM0.out.below HX.out).cell 6
  have y7 := (HM0.out.below HX.out).cell 7
  have bb0 := (HB0.out.below HX.out).cell 0
  have bb1 := (HB0.out.below HX.out).cell 1
  have cc0 := (HC0.out.below HX.out).cell 0
  have cc1 := (HC0.out.below HX.out).cell 1
  simp only [List.getElem?_cons_zero, List.getElem?_cons_succ] at y1 y3 y4 y5 y6 y7 bb0 bb1 cc0 cc1
  go_wp2_with fail
  refine (HTk.out w4 (HIt.out.below HX.out) (Nat.le_trans HN.out (by omega))).mono ?_
  rintro e w5 ⟨g, he, hl, hb⟩
  rw [he.out]
  obtain ⟨B, hB⟩ : ∃ B, w4.heap.size = B := ⟨_, rfl⟩
  have hXB : X0.heap.size ≤ B := hB ▸ HX.out.size
  have HL : Hid (LdAt w5 B g (tkL ep zs n1 (n3, n4, n5) (n6, n7))) := Lib.hid (hB ▸ hl)
  have HX' := Lib.hid (HX.out.trans (hb.mono HX.out.size))
  clear hb HX
  have HX := HX'
  clear HX'
  clear he hl hB y1 y3 y4 y5 y6 y7 bb0 bb1 cc0 cc1
  have y1 := (HM0.out.below HX.out).cell 1
  have y3 := (HM0.out.below HX.out).cell 3
  have y4 := (HM0.out.below HX.out).cell 4
  have y5 := (HM0.out.below HX.out).cell 5
  have y6 := (HM0.out.below HX.out).cell 6
  have y7 := (HM0.out.below HX.out).cell 7
  have bb0 := (HB0.out.below HX.out).cell 0
  have bb1 := (HB0.out.below HX.out).cell 1
  simp only [List.getElem?_cons_zero, List.getElem?_cons_succ] at y1 y3 y4 y5 y6 y7 bb0 bb1
  go_wp2_with fail
  clear y1 y3 y4 y5 y6 y7 bb0 bb1
  have hless : Bb.lessB n6 n7 b1 b2 = true := hless0
  have hhas : inB fr zs = false := hhas0
  clear hless0 hhas0
  refine (no_hear (fr := fr) (b := (b1, b2)) HL.out HN.out false (by rw [hhas, hless]; rfl)).mono ?_
  rintro e w6 ⟨he, hl, hb, hk⟩
  rw [he.out]
  have HL6 : Hid (LdAt w6 B g (tkL ep zs n1 (n3, n4, n5) (n6, n7))) := Lib.hid hl
  have HX' := Lib.hid (HX.out.trans (hb.mono hXB))
  clear he hl hb hk HX HL
  have HX := HX'
  clear HX'
  have y1 := (HM0.out.below HX.out).cell 1
  have y3 := (HM0.out.below HX.out).cell 3
  have y4 := (HM0.out.below HX.out).cell 4
  have y5 := (HM0.out.below HX.out).cell 5
  have y6 := (HM0.out.below HX.out).cell 6
  have y7 := (HM0.out.below HX.out).cell 7
  have bb0 := (HB0.out.below HX.out).cell 0
  have bb1 := (HB0.out.below HX.out).cell 1
  have cc0 := (HC0.out.below HX.out).cell 0
  have cc1 := (HC0.out.below HX.out).cell 1
  simp only [List.getElem?_cons_zero, List.getElem?_cons_succ] at y1 y3 y4 y5 y6 y7 bb0 bb1 cc0 cc1
  go_wp2_with fail
  refine (Bb.less_any n6 n7 b1 b2 w6).mono ?_
  rintro e w7 ⟨rfl, hb⟩
  rw [hless]
  have HL7 := Lib.hid (HL6.out.below hb)
  have HX' := Lib.hid (HX.out.trans (hb.mono HX.out.size))
  clear hb HX
  have HX := HX'
  clear HX'
  clear y1 y3 y4 y5 y6 y7 bb0 bb1 cc0 cc1 HL6
  have cc0 := (HC0.out.below HX.out).cell 0
  have cc1 := (HC0.out.below HX.out).cell 1
  simp only [List.getElem?_cons_zero, List.getElem?_cons_succ] at cc0 cc1
  go_wp2_with fail
  refine (HHs.out w7 (HRow.out.below HX.out)).mono ?_
  rintro e w8 ⟨rfl, hb⟩
  rw [hhas]
  have HL8 := Lib.hid (HL7.out.below hb)
  have HX' := Lib.hid (HX.out.trans (hb.mono HX.out.size))
  clear hb HX
  have HX := HX'
  clear HX'
  clear cc0 cc1 HL7
  go_wp2_with fail
  refine (phase_any HL8.out).mono ?_
  rintro e _ ⟨rfl, rfl⟩
  rw [show ((tkL ep zs n1 (n3, n4, n5) (n6, n7))).ph = 2 from rfl]
  obtain ⟨X, hX⟩ : ∃ X, w8 = X := ⟨_, rfl⟩
  rw [hX]
  rw [hX] at HL8 HX
  go_wp2_with fail
  have HC : Hid (∀ w' : World, Below X.heap.size X w' → Below X.heap.size X w' ∧ w'.cell? ⟨W.heap.size + 1, 1, none⟩ = some (.int .i64 n1) ∧ w'.cell? ⟨W.heap.size + 1, 6, none⟩ = some (.int .i64 n6) ∧ w'.cell? ⟨W.heap.size + 1, 7, none⟩ = some (.int .i64 n7)) := Lib.hid fun w' hb => by
    have q1 := (HM0.out.below HX.out).below hb
    exact ⟨hb, q1.cell 1, q1.cell 6, q1.cell 7⟩
  have HVx := Lib.hid v1
  have HVy := Lib.hid v2
  have HLs := Lib.hid hless
  clear v1 v2 hless hhas
  obtain ⟨y, hy⟩ : ∃ y : Int, n6 + 1 = y := ⟨_, rfl⟩
  have hw : wrap64 (n6 + 1) = y := by
    have h := HVy.out
    unfold Bb.vaB at h
    simp only [Bool.and_eq_true, decide_eq_true_iff] at h
    unfold wrap64; omega
  have HY1 : Hid (Bb.lessB n6 n7 y n1 = true) := Lib.hid (by
    skip
    skip
    skip
    unfold Bb.lessB
    simp only [Bool.or_eq_true, Bool.and_eq_true, decide_eq_true_iff]
    omega)
  have HY2 : Hid (Bb.lessB n6 n7 y n1 = true) := Lib.hid (by
    unfold Bb.lessB
    simp only [Bool.or_eq_true, Bool.and_eq_true, decide_eq_true_iff]
    omega)
  have HBa : Hid (∀ W : World, Below X.heap.size X W → Calls Try.prog 25 #[gP g] W fun e w' => e = .returned (.agg #[.int .i64 n6, .int .i64 n7]) ∧ Below W.heap.size W w') := Lib.hid fun W hw => ballot_any (HL8.out.below hw)
  have HMo : Hid (∀ W : World, Below X.heap.size X W → Calls Try.prog 24 #[.agg #[.int .i64 n6, .int .i64 n7], .agg #[.int .i64 n6, .int .i64 n7]] W fun e w' => e = .returned (.agg #[.int .i64 n6, .int .i64 n7]) ∧ Below W.heap.size W w') := Lib.hid fun W _ => by
    have h := Bb.most_any n6 n7 n6 n7 W
    have e1 : Bb.mo1 n6 n7 n6 n7 = n6 := by unfold Bb.mo1; split <;> rfl
    have e2 : Bb.mo2 n6 n7 n6 n7 = n7 := by unfold Bb.mo2; split <;> rfl
    rw [e1, e2] at h
    exact h
  have HNx : Hid (∀ W : World, Below X.heap.size X W → Calls Try.prog 23 #[.agg #[.int .i64 n6, .int .i64 n7], .int .i64 n1] W fun e w' => e = .returned (.agg #[.int .i64 y, .int .i64 n1]) ∧ Below W.heap.size W w') := Lib.hid fun W _ => by
    have h := Bb.next_any n6 n7 n1 W
    rw [hw] at h
    exact h
  have HOkM : Hid (LOk (tkL ep zs n1 (n3, n4, n5) (n6, n7))) := Lib.hid (tkL_ok _ _ _ _ _ HN.out)
  clear hy hw
  refine wp_region_held_drew (S := (fun w' => Below X.heap.size X w' ∧ w'.cell? ⟨W.heap.size + 1, 1, none⟩ = some (.int .i64 n1) ∧ w'.cell? ⟨W.heap.size + 1, 6, none⟩ = some (.int .i64 n6) ∧ w'.cell? ⟨W.heap.size + 1, 7, none⟩ = some (.int .i64 n7))) (by kernel_rfl) ?_ (fun hHeld => ?_)
  · (first
    | exact HC.out _ hs9
    | exact HC.out _ hs7
    | exact HC.out _ hsb
    | exact HC.out _ hs4
    | exact HC.out _ hs3
    | exact HC.out _ (Below.refl _ _).drew
    | exact HC.out _ (Below.refl _ _)
    | fail)
  refine wpAnyH_take (i := 0) (v := ?_) rfl (by kernel_rfl) (by kernel_rfl) (by kernel_rfl) (fun _ _ _ h => h) (Or.inl ⟨by rfl, ?_⟩) (by assumption) ?_
  rotate_left
  · (intro w hSw; (try dsimp only at hSw); go_simp; try rfl)
  try simp only [Act.put, List.setIfInBounds_toArray, List.set_cons_zero, List.set_cons_succ, List.getElem_toArray, List.getElem_cons_zero, List.getElem_cons_succ]
  refine wpAnyH_take (i := 1) (v := ?_) rfl (by kernel_rfl) (by kernel_rfl) (by kernel_rfl) (fun _ _ _ h => h) (Or.inl ⟨by rfl, ?_⟩) (by assumption) ?_
  rotate_left
  · (intro w hSw; (try dsimp only at hSw); go_simp; try rfl)
  try simp only [Act.put, List.setIfInBounds_toArray, List.set_cons_zero, List.set_cons_succ, List.getElem_toArray, List.getElem_cons_zero, List.getElem_cons_succ]
  refine wpAnyH_take (i := 2) (v := ?_) rfl (by kernel_rfl) (by kernel_rfl) (by kernel_rfl) (fun _ _ _ h => h) (Or.inl ⟨by rfl, ?_⟩) (by assumption) ?_
  rotate_left
  · (intro w hSw; (try dsimp only at hSw); go_simp; try rfl)
  try simp only [Act.put, List.setIfInBounds_toArray, List.set_cons_zero, List.set_cons_succ, List.getElem_toArray, List.getElem_cons_zero, List.getElem_cons_succ]
  refine wpAnyH_take (i := 5) (v := ?_) rfl (by kernel_rfl) (by kernel_rfl) (by kernel_rfl) (fun _ _ _ h => h) (Or.inl ⟨by rfl, ?_⟩) (by assumption) ?_
  rotate_left
  · (intro w hSw; (try dsimp only at hSw); go_simp; try rfl)
  try simp only [Act.put, List.setIfInBounds_toArray, List.set_cons_zero, List.set_cons_succ, List.getElem_toArray, List.getElem_cons_zero, List.getElem_cons_succ]
  refine wpAnyH_take (i := 6) (v := ?_) rfl (by kernel_rfl) (by kernel_rfl) (by kernel_rfl) (fun _ _ _ h => h) (Or.inl ⟨by rfl, ?_⟩) (by assumption) ?_
  rotate_left
  · (intro w hSw; (try dsimp only at hSw); go_simp; try rfl)
  try simp only [Act.put, List.setIfInBounds_toArray, List.set_cons_zero, List.set_cons_succ, List.getElem_toArray, List.getElem_cons_zero, List.getElem_cons_succ]
  refine wpAnyH_ready (rs := [3, 8]) (by kernel_rfl) (by simp) ?_
  refine (AllReadyH.cons rfl (fun K hK => ?_) (AllReadyH.cons rfl (fun K hK => ?_) AllReadyH.nil))
  ·
    go_simp
    (go_at_call 25; refine (HBa.out _ hHeld.1).mono ?_; rintro e w3 ⟨rfl, hb3⟩; have hs3 : Below X.heap.size X w3 := below_self hHeld.1 hb3; try (replace hbx := hbx.below hb3))
    refine hK.out _ _ ?_ (fun hHeld => ?_)
    · (first
    | exact HC.out _ hs9
    | exact HC.out _ hs7
    | exact HC.out _ hsb
    | exact HC.out _ hs4
    | exact HC.out _ hs3
    | exact HC.out _ (Below.refl _ _).drew
    | exact HC.out _ (Below.refl _ _)
    | fail)
    clear hK K
    try simp only [Act.put, List.setIfInBounds_toArray, List.set_cons_zero, List.set_cons_succ, List.getElem_toArray, List.getElem_cons_zero, List.getElem_cons_succ]
    refine wpAnyH_ready (rs := [4, 8]) (by kernel_rfl) (by simp) ?_
    refine (AllReadyH.cons rfl (fun K hK => ?_) (AllReadyH.cons rfl (fun K hK => ?_) AllReadyH.nil))
    ·
      go_simp
      (go_at_call 24; refine (HMo.out _ hHeld.1).mono ?_; rintro e w4 ⟨rfl, hb4⟩; have hs4 : Below X.heap.size X w4 := below_self hHeld.1 hb4; try (replace hbx := hbx.below hb4))
      refine hK.out _ _ ?_ (fun hHeld => ?_)
      · (first
    | exact HC.out _ hs9
    | exact HC.out _ hs7
    | exact HC.out _ hsb
    | exact HC.out _ hs4
    | exact HC.out _ hs3
    | exact HC.out _ (Below.refl _ _).drew
    | exact HC.out _ (Below.refl _ _)
    | fail)
      clear hK K
      try simp only [Act.put, List.setIfInBounds_toArray, List.set_cons_zero, List.set_cons_succ, List.getElem_toArray, List.getElem_cons_zero, List.getElem_cons_succ]
      refine wpAnyH_ready (rs := [7, 8]) (by kernel_rfl) (by simp) ?_
      refine (AllReadyH.cons rfl (fun K hK => ?_) (AllReadyH.cons rfl (fun K hK => ?_) AllReadyH.nil))
      ·
        go_simp
        (go_at_call 23; refine (HNx.out _ hHeld.1).mono ?_; rintro e w7 ⟨rfl, hb7⟩; have hs7 : Below X.heap.size X w7 := below_self hHeld.1 hb7; try (replace hbx := hbx.below hb7))
        refine hK.out _ _ ?_ (fun hHeld => ?_)
        · (first
    | exact HC.out _ hs9
    | exact HC.out _ hs7
    | exact HC.out _ hsb
    | exact HC.out _ hs4
    | exact HC.out _ hs3
    | exact HC.out _ (Below.refl _ _).drew
    | exact HC.out _ (Below.refl _ _)
    | fail)
        clear hK K
        try simp only [Act.put, List.setIfInBounds_toArray, List.set_cons_zero, List.set_cons_succ, List.getElem_toArray, List.getElem_cons_zero, List.getElem_cons_succ]
        refine wpAnyH_ready (rs := [8]) (by kernel_rfl) (by simp) ?_
        refine (AllReadyH.cons rfl (fun K hK => ?_) AllReadyH.nil)
        refine step_allocBal rfl rfl (fun p wb hbx hbb hpp => ?_)
        have hsb : Below X.heap.size X wb := hHeld.1.trans (hbb.mono (Below.size hHeld.1))
        have hpX : X.heap.size ≤ p := Nat.le_trans (Below.size hHeld.1) hpp
        refine hK.out _ _ ?_ (fun hHeld => ?_)
        · (first
    | exact HC.out _ hs9
    | exact HC.out _ hs7
    | exact HC.out _ hsb
    | exact HC.out _ hs4
    | exact HC.out _ hs3
    | exact HC.out _ (Below.refl _ _).drew
    | exact HC.out _ (Below.refl _ _)
    | fail)
        clear hK K
        try simp only [Act.put, List.setIfInBounds_toArray, List.set_cons_zero, List.set_cons_succ, List.getElem_toArray, List.getElem_cons_zero, List.getElem_cons_succ]
        refine wpAnyH_ready (rs := [9]) (by kernel_rfl) (by simp) ?_
        refine (AllReadyH.cons rfl (fun K hK => ?_) AllReadyH.nil)
        refine step_storeBal rfl _ _ rfl p rfl (.int .i64 y) (.int .i64 n1) rfl rfl rfl hbx (fun Z hbz hbelz => ?_)
        have hs9 : Below X.heap.size X Z := hHeld.1.trans (hbelz.mono hpX)
        refine hK.out _ _ ?_ (fun hHeld => ?_)
        · (first
    | exact HC.out _ hs9
    | exact HC.out _ hs7
    | exact HC.out _ hsb
    | exact HC.out _ hs4
    | exact HC.out _ hs3
    | exact HC.out _ (Below.refl _ _).drew
    | exact HC.out _ (Below.refl _ _)
    | fail)
        clear hK K
        try simp only [Act.put, List.setIfInBounds_toArray, List.set_cons_zero, List.set_cons_succ, List.getElem_toArray, List.getElem_cons_zero, List.getElem_cons_succ]
        refine wpAnyH_done (by kernel_rfl) ?_ _
        have HLz := Lib.hid (HL8.out.below hs9)
        have HL1 : Hid (∀ W : World, Below Z.heap.size Z W → Calls Try.prog 22 #[.agg #[.int .i64 n6, .int .i64 n7], .agg #[.int .i64 y, .int .i64 n1]] W fun e w' => e = .returned (.bool true) ∧ Below W.heap.size W w') := Lib.hid fun W _ => by
          have h := Bb.less_any n6 n7 y n1 W
          rw [HY1.out] at h
          exact h
        have HCz : Hid (∀ w' : World, Below Z.heap.size Z w' → Below Z.heap.size Z w' ∧ w'.cell? ⟨W.heap.size + 1, 6, none⟩ = some (.int .i64 n6) ∧ w'.cell? ⟨W.heap.size + 1, 7, none⟩ = some (.int .i64 n7) ∧ w'.cell? ⟨W.heap.size + 1 + 1, 0, none⟩ = some (.int .i64 b1) ∧ w'.cell? ⟨W.heap.size + 1 + 1, 1, none⟩ = some (.int .i64 b2) ∧ w'.cell? ⟨p, 0, none⟩ = some (.int .i64 y) ∧ w'.cell? ⟨p, 1, none⟩ = some (.int .i64 n1)) := Lib.hid fun w' hb => by
          have hX0Z := HX.out.trans (hs9.mono HX.out.size)
          have q1 := (HM0.out.below hX0Z).below hb
          have q2 := (HB0.out.below hX0Z).below hb
          have q3 := hbz.below hb
          exact ⟨hb, q1.cell 6, q1.cell 7, q2.cell 0, q2.cell 1, q3.cell 0, q3.cell 1⟩
        go_wp2_with fail
        refine wp_region_held_drew (S := (fun w' => Below Z.heap.size Z w' ∧ w'.cell? ⟨W.heap.size + 1, 6, none⟩ = some (.int .i64 n6) ∧ w'.cell? ⟨W.heap.size + 1, 7, none⟩ = some (.int .i64 n7) ∧ w'.cell? ⟨W.heap.size + 1 + 1, 0, none⟩ = some (.int .i64 b1) ∧ w'.cell? ⟨W.heap.size + 1 + 1, 1, none⟩ = some (.int .i64 b2) ∧ w'.cell? ⟨p, 0, none⟩ = some (.int .i64 y) ∧ w'.cell? ⟨p, 1, none⟩ = some (.int .i64 n1))) (by kernel_rfl) ?_ (fun hHeld => ?_)
        · (first
          | exact HCz.out _ hsd
          | exact HCz.out _ hsc
          | exact HCz.out _ hsb2
          | exact HCz.out _ hsa
          | exact HCz.out _ (Below.refl _ _).drew
          | exact HCz.out _ (Below.refl _ _)
          | fail)
        refine wpAnyH_take (i := 0) (v := ?_) rfl (by kernel_rfl) (by kernel_rfl) (by kernel_rfl) (fun _ _ _ h => h) (Or.inl ⟨by rfl, ?_⟩) (by assumption) ?_
        rotate_left
        · (intro w hSw; (try dsimp only at hSw); go_simp; try rfl)
        try simp only [Act.put, List.setIfInBounds_toArray, List.set_cons_zero, List.set_cons_succ, List.getElem_toArray, List.getElem_cons_zero, List.getElem_cons_succ]
        refine wpAnyH_take (i := 1) (v := ?_) rfl (by kernel_rfl) (by kernel_rfl) (by kernel_rfl) (fun _ _ _ h => h) (Or.inl ⟨by rfl, ?_⟩) (by assumption) ?_
        rotate_left
        · (intro w hSw; (try dsimp only at hSw); go_simp; try rfl)
        try simp only [Act.put, List.setIfInBounds_toArray, List.set_cons_zero, List.set_cons_succ, List.getElem_toArray, List.getElem_cons_zero, List.getElem_cons_succ]
        refine wpAnyH_take (i := 2) (v := ?_) rfl (by kernel_rfl) (by kernel_rfl) (by kernel_rfl) (fun _ _ _ h => h) (Or.inl ⟨by rfl, ?_⟩) (by assumption) ?_
        rotate_left
        · (intro w hSw; (try dsimp only at hSw); go_simp; try rfl)
        try simp only [Act.put, List.setIfInBounds_toArray, List.set_cons_zero, List.set_cons_succ, List.getElem_toArray, List.getElem_cons_zero, List.getElem_cons_succ]
        refine wpAnyH_take (i := 3) (v := ?_) rfl (by kernel_rfl) (by kernel_rfl) (by kernel_rfl) (fun _ _ _ h => h) (Or.inl ⟨by rfl, ?_⟩) (by assumption) ?_
        rotate_left
        · (intro w hSw; (try dsimp only at hSw); go_simp; try rfl)
        try simp only [Act.put, List.setIfInBounds_toArray, List.set_cons_zero, List.set_cons_succ, List.getElem_toArray, List.getElem_cons_zero, List.getElem_cons_succ]
        refine wpAnyH_take (i := 4) (v := ?_) rfl (by kernel_rfl) (by kernel_rfl) (by kernel_rfl) (fun _ _ _ h => h) (Or.inl ⟨by rfl, ?_⟩) (by assumption) ?_
        rotate_left
        · (intro w hSw; (try dsimp only at hSw); go_simp; try rfl)
        try simp only [Act.put, List.setIfInBounds_toArray, List.set_cons_zero, List.set_cons_succ, List.getElem_toArray, List.getElem_cons_zero, List.getElem_cons_succ]
        refine wpAnyH_ready (rs := [5]) (by kernel_rfl) (by simp) ?_
        refine (AllReadyH.cons rfl (fun K hK => ?_) AllReadyH.nil)
        go_simp
        (go_at_call 22; refine (HL1.out _ hHeld.1).mono ?_; rintro e wa ⟨rfl, hba⟩; have hsa : Below Z.heap.size Z wa := below_self hHeld.1 hba)
        refine hK.out _ _ ?_ (fun hHeld => ?_)
        · (first
          | exact HCz.out _ hsd
          | exact HCz.out _ hsc
          | exact HCz.out _ hsb2
          | exact HCz.out _ hsa
          | exact HCz.out _ (Below.refl _ _).drew
          | exact HCz.out _ (Below.refl _ _)
          | fail)
        clear hK K
        try simp only [Act.put, List.setIfInBounds_toArray, List.set_cons_zero, List.set_cons_succ, List.getElem_toArray, List.getElem_cons_zero, List.getElem_cons_succ]
        refine wpAnyH_take (i := 6) (v := ?_) rfl (by kernel_rfl) (by kernel_rfl) (by kernel_rfl) (fun _ _ _ h => h) (Or.inl ⟨by rfl, ?_⟩) (by assumption) ?_
        rotate_left
        · (intro w hSw; (try dsimp only at hSw); go_simp; try rfl)
        try simp only [Act.put, List.setIfInBounds_toArray, List.set_cons_zero, List.set_cons_succ, List.getElem_toArray, List.getElem_cons_zero, List.getElem_cons_succ]
        refine wpAnyH_take (i := 7) (v := ?_) rfl (by kernel_rfl) (by kernel_rfl) (by kernel_rfl) (fun _ _ _ h => h) (Or.inl ⟨by rfl, ?_⟩) (by assumption) ?_
        rotate_left
        · (intro w hSw; (try dsimp only at hSw); go_simp; try rfl)
        try simp only [Act.put, List.setIfInBounds_toArray, List.set_cons_zero, List.set_cons_succ, List.getElem_toArray, List.getElem_cons_zero, List.getElem_cons_succ]
        refine wpAnyH_take (i := 8) (v := ?_) rfl (by kernel_rfl) (by kernel_rfl) (by kernel_rfl) (fun _ _ _ h => h) (Or.inl ⟨by rfl, ?_⟩) (by assumption) ?_
        rotate_left
        · (intro w hSw; (try dsimp only at hSw); go_simp; try rfl)
        try simp only [Act.put, List.setIfInBounds_toArray, List.set_cons_zero, List.set_cons_succ, List.getElem_toArray, List.getElem_cons_zero, List.getElem_cons_succ]
        refine wpAnyH_take (i := 9) (v := ?_) rfl (by kernel_rfl) (by kernel_rfl) (by kernel_rfl) (fun _ _ _ h => h) (Or.inl ⟨by rfl, ?_⟩) (by assumption) ?_
        rotate_left
        · (intro w hSw; (try dsimp only at hSw); go_simp; try rfl)
        try simp only [Act.put, List.setIfInBounds_toArray, List.set_cons_zero, List.set_cons_succ, List.getElem_toArray, List.getElem_cons_zero, List.getElem_cons_succ]
        refine wpAnyH_take (i := 10) (v := ?_) rfl (by kernel_rfl) (by kernel_rfl) (by kernel_rfl) (fun _ _ _ h => h) (Or.inl ⟨by rfl, ?_⟩) (by assumption) ?_
        rotate_left
        · (intro w hSw; (try dsimp only at hSw); go_simp; try rfl)
        try simp only [Act.put, List.setIfInBounds_toArray, List.set_cons_zero, List.set_cons_succ, List.getElem_toArray, List.getElem_cons_zero, List.getElem_cons_succ]
        refine wpAnyH_take (i := 11) (v := undef) rfl (by kernel_rfl) (by kernel_rfl) (by kernel_rfl) (fun _ _ _ h => h) (Or.inr ⟨by rfl, rfl⟩) (by assumption) ?_
        try simp only [Act.put, List.setIfInBounds_toArray, List.set_cons_zero, List.set_cons_succ, List.getElem_toArray, List.getElem_cons_zero, List.getElem_cons_succ]
        refine wpAnyH_take (i := 12) (v := undef) rfl (by kernel_rfl) (by kernel_rfl) (by kernel_rfl) (fun _ _ _ h => h) (Or.inr ⟨by rfl, rfl⟩) (by assumption) ?_
        try simp only [Act.put, List.setIfInBounds_toArray, List.set_cons_zero, List.set_cons_succ, List.getElem_toArray, List.getElem_cons_zero, List.getElem_cons_succ]
        refine wpAnyH_take (i := 13) (v := undef) rfl (by kernel_rfl) (by kernel_rfl) (by kernel_rfl) (fun _ _ _ h => h) (Or.inr ⟨by rfl, rfl⟩) (by assumption) ?_
        try simp only [Act.put, List.setIfInBounds_toArray, List.set_cons_zero, List.set_cons_succ, List.getElem_toArray, List.getElem_cons_zero, List.getElem_cons_succ]
        refine wpAnyH_take (i := 14) (v := undef) rfl (by kernel_rfl) (by kernel_rfl) (by kernel_rfl) (fun _ _ _ h => h) (Or.inr ⟨by rfl, rfl⟩) (by assumption) ?_
        try simp only [Act.put, List.setIfInBounds_toArray, List.set_cons_zero, List.set_cons_succ, List.getElem_toArray, List.getElem_cons_zero, List.getElem_cons_succ]
        refine wpAnyH_take (i := 15) (v := undef) rfl (by kernel_rfl) (by kernel_rfl) (by kernel_rfl) (fun _ _ _ h => h) (Or.inr ⟨by rfl, rfl⟩) (by assumption) ?_
        try simp only [Act.put, List.setIfInBounds_toArray, List.set_cons_zero, List.set_cons_succ, List.getElem_toArray, List.getElem_cons_zero, List.getElem_cons_succ]
        refine wpAnyH_take (i := 16) (v := undef) rfl (by kernel_rfl) (by kernel_rfl) (by kernel_rfl) (fun _ _ _ h => h) (Or.inr ⟨by rfl, rfl⟩) (by assumption) ?_
        try simp only [Act.put, List.setIfInBounds_toArray, List.set_cons_zero, List.set_cons_succ, List.getElem_toArray, List.getElem_cons_zero, List.getElem_cons_succ]
        refine wpAnyH_take (i := 17) (v := undef) rfl (by kernel_rfl) (by kernel_rfl) (by kernel_rfl) (fun _ _ _ h => h) (Or.inr ⟨by rfl, rfl⟩) (by assumption) ?_
        try simp only [Act.put, List.setIfInBounds_toArray, List.set_cons_zero, List.set_cons_succ, List.getElem_toArray, List.getElem_cons_zero, List.getElem_cons_succ]
        refine wpAnyH_take (i := 18) (v := undef) rfl (by kernel_rfl) (by kernel_rfl) (by kernel_rfl) (fun _ _ _ h => h) (Or.inr ⟨by rfl, rfl⟩) (by assumption) ?_
        try simp only [Act.put, List.setIfInBounds_toArray, List.set_cons_zero, List.set_cons_succ, List.getElem_toArray, List.getElem_cons_zero, List.getElem_cons_succ]
        refine wpAnyH_take (i := 19) (v := undef) rfl (by kernel_rfl) (by kernel_rfl) (by kernel_rfl) (fun _ _ _ h => h) (Or.inr ⟨by rfl, rfl⟩) (by assumption) ?_
        try simp only [Act.put, List.setIfInBounds_toArray, List.set_cons_zero, List.set_cons_succ, List.getElem_toArray, List.getElem_cons_zero, List.getElem_cons_succ]
        refine wpAnyH_take (i := 20) (v := undef) rfl (by kernel_rfl) (by kernel_rfl) (by kernel_rfl) (fun _ _ _ h => h) (Or.inr ⟨by rfl, rfl⟩) (by assumption) ?_
        try simp only [Act.put, List.setIfInBounds_toArray, List.set_cons_zero, List.set_cons_succ, List.getElem_toArray, List.getElem_cons_zero, List.getElem_cons_succ]
        refine wpAnyH_take (i := 21) (v := undef) rfl (by kernel_rfl) (by kernel_rfl) (by kernel_rfl) (fun _ _ _ h => h) (Or.inr ⟨by rfl, rfl⟩) (by assumption) ?_
        try simp only [Act.put, List.setIfInBounds_toArray, List.set_cons_zero, List.set_cons_succ, List.getElem_toArray, List.getElem_cons_zero, List.getElem_cons_succ]
        refine wpAnyH_take (i := 22) (v := undef) rfl (by kernel_rfl) (by kernel_rfl) (by kernel_rfl) (fun _ _ _ h => h) (Or.inr ⟨by rfl, rfl⟩) (by assumption) ?_
        try simp only [Act.put, List.setIfInBounds_toArray, List.set_cons_zero, List.set_cons_succ, List.getElem_toArray, List.getElem_cons_zero, List.getElem_cons_succ]
        refine wpAnyH_take (i := 23) (v := undef) rfl (by kernel_rfl) (by kernel_rfl) (by kernel_rfl) (fun _ _ _ h => h) (Or.inr ⟨by rfl, rfl⟩) (by assumption) ?_
        try simp only [Act.put, List.setIfInBounds_toArray, List.set_cons_zero, List.set_cons_succ, List.getElem_toArray, List.getElem_cons_zero, List.getElem_cons_succ]
        refine wpAnyH_take (i := 24) (v := undef) rfl (by kernel_rfl) (by kernel_rfl) (by kernel_rfl) (fun _ _ _ h => h) (Or.inr ⟨by rfl, rfl⟩) (by assumption) ?_
        try simp only [Act.put, List.setIfInBounds_toArray, List.set_cons_zero, List.set_cons_succ, List.getElem_toArray, List.getElem_cons_zero, List.getElem_cons_succ]
        refine wpAnyH_take (i := 25) (v := undef) rfl (by kernel_rfl) (by kernel_rfl) (by kernel_rfl) (fun _ _ _ h => h) (Or.inr ⟨by rfl, rfl⟩) (by assumption) ?_
        try simp only [Act.put, List.setIfInBounds_toArray, List.set_cons_zero, List.set_cons_succ, List.getElem_toArray, List.getElem_cons_zero, List.getElem_cons_succ]
        refine wpAnyH_take (i := 26) (v := ?_) rfl (by kernel_rfl) (by kernel_rfl) (by kernel_rfl) (fun _ _ _ h => h) (Or.inl ⟨by rfl, ?_⟩) (by assumption) ?_
        rotate_left
        · (intro w hSw; (try dsimp only at hSw); go_simp; try rfl)
        try simp only [Act.put, List.setIfInBounds_toArray, List.set_cons_zero, List.set_cons_succ, List.getElem_toArray, List.getElem_cons_zero, List.getElem_cons_succ]
        refine wpAnyH_take (i := 27) (v := ?_) rfl (by kernel_rfl) (by kernel_rfl) (by kernel_rfl) (fun _ _ _ h => h) (Or.inl ⟨by rfl, ?_⟩) (by assumption) ?_
        rotate_left
        · (intro w hSw; (try dsimp only at hSw); go_simp; try rfl)
        try simp only [Act.put, List.setIfInBounds_toArray, List.set_cons_zero, List.set_cons_succ, List.getElem_toArray, List.getElem_cons_zero, List.getElem_cons_succ]
        refine wpAnyH_take (i := 28) (v := ?_) rfl (by kernel_rfl) (by kernel_rfl) (by kernel_rfl) (fun _ _ _ h => h) (Or.inl ⟨by rfl, ?_⟩) (by assumption) ?_
        rotate_left
        · (intro w hSw; (try dsimp only at hSw); go_simp; try rfl)
        try simp only [Act.put, List.setIfInBounds_toArray, List.set_cons_zero, List.set_cons_succ, List.getElem_toArray, List.getElem_cons_zero, List.getElem_cons_succ]
        refine wpAnyH_done (by kernel_rfl) ?_ _
        have HF := Lib.hid (HW0.out.trans ((HX.out.trans ((hs9.trans (hsa.mono hs9.size)).mono HX.out.size)).mono HW0.out.size))
        clear HC HCz
        go_wp2
        go_ret
        exact ⟨rfl, HF.out⟩
      ·
        refine step_allocBal rfl rfl (fun p wb hbx hbb hpp => ?_)
        have hsb : Below X.heap.size X wb := hHeld.1.trans (hbb.mono (Below.size hHeld.1))
        have hpX : X.heap.size ≤ p := Nat.le_trans (Below.size hHeld.1) hpp
        refine hK.out _ _ ?_ (fun hHeld => ?_)
        · (first
    | exact HC.out _ hs9
    | exact HC.out _ hs7
    | exact HC.out _ hsb
    | exact HC.out _ hs4
    | exact HC.out _ hs3
    | exact HC.out _ (Below.refl _ _).drew
    | exact HC.out _ (Below.refl _ _)
    | fail)
        clear hK K
        try simp only [Act.put, List.setIfInBounds_toArray, List.set_cons_zero, List.set_cons_succ, List.getElem_toArray, List.getElem_cons_zero, List.getElem_cons_succ]
        refine wpAnyH_ready (rs := [7]) (by kernel_rfl) (by simp) ?_
        refine (AllReadyH.cons rfl (fun K hK => ?_) AllReadyH.nil)
        go_simp
        (go_at_call 23; refine (HNx.out _ hHeld.1).mono ?_; rintro e w7 ⟨rfl, hb7⟩; have hs7 : Below X.heap.size X w7 := below_self hHeld.1 hb7; try (replace hbx := hbx.below hb7))
        refine hK.out _ _ ?_ (fun hHeld => ?_)
        · (first
    | exact HC.out _ hs9
    | exact HC.out _ hs7
    | exact HC.out _ hsb
    | exact HC.out _ hs4
    | exact HC.out _ hs3
    | exact HC.out _ (Below.refl _ _).drew
    | exact HC.out _ (Below.refl _ _)
    | fail)
        clear hK K
        try simp only [Act.put, List.setIfInBounds_toArray, List.set_cons_zero, List.set_cons_succ, List.getElem_toArray, List.getElem_cons_zero, List.getElem_cons_succ]
        refine wpAnyH_ready (rs := [9]) (by kernel_rfl) (by simp) ?_
        refine (AllReadyH.cons rfl (fun K hK => ?_) AllReadyH.nil)
        refine step_storeBal rfl _ _ rfl p rfl (.int .i64 y) (.int .i64 n1) rfl rfl rfl hbx (fun Z hbz hbelz => ?_)
        have hs9 : Below X.heap.size X Z := hHeld.1.trans (hbelz.mono hpX)
        refine hK.out _ _ ?_ (fun hHeld => ?_)
        · (first
    | exact HC.out _ hs9
    | exact HC.out _ hs7
    | exact HC.out _ hsb
    | exact HC.out _ hs4
    | exact HC.out _ hs3
    | exact HC.out _ (Below.refl _ _).drew
    | exact HC.out _ (Below.refl _ _)
    | fail)
        clear hK K
        try simp only [Act.put, List.setIfInBounds_toArray, List.set_cons_zero, List.set_cons_succ, List.getElem_toArray, List.getElem_cons_zero, List.getElem_cons_succ]
        refine wpAnyH_done (by kernel_rfl) ?_ _
        have HLz := Lib.hid (HL8.out.below hs9)
        have HL1 : Hid (∀ W : World, Below Z.heap.size Z W → Calls Try.prog 22 #[.agg #[.int .i64 n6, .int .i64 n7], .agg #[.int .i64 y, .int .i64 n1]] W fun e w' => e = .returned (.bool true) ∧ Below W.heap.size W w') := Lib.hid fun W _ => by
          have h := Bb.less_any n6 n7 y n1 W
          rw [HY1.out] at h
          exact h
        have HCz : Hid (∀ w' : World, Below Z.heap.size Z w' → Below Z.heap.size Z w' ∧ w'.cell? ⟨W.heap.size + 1, 6, none⟩ = some (.int .i64 n6) ∧ w'.cell? ⟨W.heap.size + 1, 7, none⟩ = some (.int .i64 n7) ∧ w'.cell? ⟨W.heap.size + 1 + 1, 0, none⟩ = some (.int .i64 b1) ∧ w'.cell? ⟨W.heap.size + 1 + 1, 1, none⟩ = some (.int .i64 b2) ∧ w'.cell? ⟨p, 0, none⟩ = some (.int .i64 y) ∧ w'.cell? ⟨p, 1, none⟩ = some (.int .i64 n1)) := Lib.hid fun w' hb => by
          have hX0Z := HX.out.trans (hs9.mono HX.out.size)
          have q1 := (HM0.out.below hX0Z).below hb
          have q2 := (HB0.out.below hX0Z).below hb
          have q3 := hbz.below hb
          exact ⟨hb, q1.cell 6, q1.cell 7, q2.cell 0, q2.cell 1, q3.cell 0, q3.cell 1⟩
        go_wp2_with fail
        refine wp_region_held_drew (S := (fun w' => Below Z.heap.size Z w' ∧ w'.cell? ⟨W.heap.size + 1, 6, none⟩ = some (.int .i64 n6) ∧ w'.cell? ⟨W.heap.size + 1, 7, none⟩ = some (.int .i64 n7) ∧ w'.cell? ⟨W.heap.size + 1 + 1, 0, none⟩ = some (.int .i64 b1) ∧ w'.cell? ⟨W.heap.size + 1 + 1, 1, none⟩ = some (.int .i64 b2) ∧ w'.cell? ⟨p, 0, none⟩ = some (.int .i64 y) ∧ w'.cell? ⟨p, 1, none⟩ = some (.int .i64 n1))) (by kernel_rfl) ?_ (fun hHeld => ?_)
        · (first
          | exact HCz.out _ hsd
          | exact HCz.out _ hsc
          | exact HCz.out _ hsb2
          | exact HCz.out _ hsa
          | exact HCz.out _ (Below.refl _ _).drew
          | exact HCz.out _ (Below.refl _ _)
          | fail)
        refine wpAnyH_take (i := 0) (v := ?_) rfl (by kernel_rfl) (by kernel_rfl) (by kernel_rfl) (fun _ _ _ h => h) (Or.inl ⟨by rfl, ?_⟩) (by assumption) ?_
        rotate_left
        · (intro w hSw; (try dsimp only at hSw); go_simp; try rfl)
        try simp only [Act.put, List.setIfInBounds_toArray, List.set_cons_zero, List.set_cons_succ, List.getElem_toArray, List.getElem_cons_zero, List.getElem_cons_succ]
        refine wpAnyH_take (i := 1) (v := ?_) rfl (by kernel_rfl) (by kernel_rfl) (by kernel_rfl) (fun _ _ _ h => h) (Or.inl ⟨by rfl, ?_⟩) (by assumption) ?_
        rotate_left
        · (intro w hSw; (try dsimp only at hSw); go_simp; try rfl)
        try simp only [Act.put, List.setIfInBounds_toArray, List.set_cons_zero, List.set_cons_succ, List.getElem_toArray, List.getElem_cons_zero, List.getElem_cons_succ]
        refine wpAnyH_take (i := 2) (v := ?_) rfl (by kernel_rfl) (by kernel_rfl) (by kernel_rfl) (fun _ _ _ h => h) (Or.inl ⟨by rfl, ?_⟩) (by assumption) ?_
        rotate_left
        · (intro w hSw; (try dsimp only at hSw); go_simp; try rfl)
        try simp only [Act.put, List.setIfInBounds_toArray, List.set_cons_zero, List.set_cons_succ, List.getElem_toArray, List.getElem_cons_zero, List.getElem_cons_succ]
        refine wpAnyH_take (i := 3) (v := ?_) rfl (by kernel_rfl) (by kernel_rfl) (by kernel_rfl) (fun _ _ _ h => h) (Or.inl ⟨by rfl, ?_⟩) (by assumption) ?_
        rotate_left
        · (intro w hSw; (try dsimp only at hSw); go_simp; try rfl)
        try simp only [Act.put, List.setIfInBounds_toArray, List.set_cons_zero, List.set_cons_succ, List.getElem_toArray, List.getElem_cons_zero, List.getElem_cons_succ]
        refine wpAnyH_take (i := 4) (v := ?_) rfl (by kernel_rfl) (by kernel_rfl) (by kernel_rfl) (fun _ _ _ h => h) (Or.inl ⟨by rfl, ?_⟩) (by assumption) ?_
        rotate_left
        · (intro w hSw; (try dsimp only at hSw); go_simp; try rfl)
        try simp only [Act.put, List.setIfInBounds_toArray, List.set_cons_zero, List.set_cons_succ, List.getElem_toArray, List.getElem_cons_zero, List.getElem_cons_succ]
        refine wpAnyH_ready (rs := [5]) (by kernel_rfl) (by simp) ?_
        refine (AllReadyH.cons rfl (fun K hK => ?_) AllReadyH.nil)
        go_simp
        (go_at_call 22; refine (HL1.out _ hHeld.1).mono ?_; rintro e wa ⟨rfl, hba⟩; have hsa : Below Z.heap.size Z wa := below_self hHeld.1 hba)
        refine hK.out _ _ ?_ (fun hHeld => ?_)
        · (first
          | exact HCz.out _ hsd
          | exact HCz.out _ hsc
          | exact HCz.out _ hsb2
          | exact HCz.out _ hsa
          | exact HCz.out _ (Below.refl _ _).drew
          | exact HCz.out _ (Below.refl _ _)
          | fail)
        clear hK K
        try simp only [Act.put, List.setIfInBounds_toArray, List.set_cons_zero, List.set_cons_succ, List.getElem_toArray, List.getElem_cons_zero, List.getElem_cons_succ]
        refine wpAnyH_take (i := 6) (v := ?_) rfl (by kernel_rfl) (by kernel_rfl) (by kernel_rfl) (fun _ _ _ h => h) (Or.inl ⟨by rfl, ?_⟩) (by assumption) ?_
        rotate_left
        · (intro w hSw; (try dsimp only at hSw); go_simp; try rfl)
        try simp only [Act.put, List.setIfInBounds_toArray, List.set_cons_zero, List.set_cons_succ, List.getElem_toArray, List.getElem_cons_zero, List.getElem_cons_succ]
        refine wpAnyH_take (i := 7) (v := ?_) rfl (by kernel_rfl) (by kernel_rfl) (by kernel_rfl) (fun _ _ _ h => h) (Or.inl ⟨by rfl, ?_⟩) (by assumption) ?_
        rotate_left
        · (intro w hSw; (try dsimp only at hSw); go_simp; try rfl)
        try simp only [Act.put, List.setIfInBounds_toArray, List.set_cons_zero, List.set_cons_succ, List.getElem_toArray, List.getElem_cons_zero, List.getElem_cons_succ]
        refine wpAnyH_take (i := 8) (v := ?_) rfl (by kernel_rfl) (by kernel_rfl) (by kernel_rfl) (fun _ _ _ h => h) (Or.inl ⟨by rfl, ?_⟩) (by assumption) ?_
        rotate_left
        · (intro w hSw; (try dsimp only at hSw); go_simp; try rfl)
        try simp only [Act.put, List.setIfInBounds_toArray, List.set_cons_zero, List.set_cons_succ, List.getElem_toArray, List.getElem_cons_zero, List.getElem_cons_succ]
        refine wpAnyH_take (i := 9) (v := ?_) rfl (by kernel_rfl) (by kernel_rfl) (by kernel_rfl) (fun _ _ _ h => h) (Or.inl ⟨by rfl, ?_⟩) (by assumption) ?_
        rotate_left
        · (intro w hSw; (try dsimp only at hSw); go_simp; try rfl)
        try simp only [Act.put, List.setIfInBounds_toArray, List.set_cons_zero, List.set_cons_succ, List.getElem_toArray, List.getElem_cons_zero, List.getElem_cons_succ]
        refine wpAnyH_take (i := 10) (v := ?_) rfl (by kernel_rfl) (by kernel_rfl) (by kernel_rfl) (fun _ _ _ h => h) (Or.inl ⟨by rfl, ?_⟩) (by assumption) ?_
        rotate_left
        · (intro w hSw; (try dsimp only at hSw); go_simp; try rfl)
        try simp only [Act.put, List.setIfInBounds_toArray, List.set_cons_zero, List.set_cons_succ, List.getElem_toArray, List.getElem_cons_zero, List.getElem_cons_succ]
        refine wpAnyH_take (i := 11) (v := undef) rfl (by kernel_rfl) (by kernel_rfl) (by kernel_rfl) (fun _ _ _ h => h) (Or.inr ⟨by rfl, rfl⟩) (by assumption) ?_
        try simp only [Act.put, List.setIfInBounds_toArray, List.set_cons_zero, List.set_cons_succ, List.getElem_toArray, List.getElem_cons_zero, List.getElem_cons_succ]
        refine wpAnyH_take (i := 12) (v := undef) rfl (by kernel_rfl) (by kernel_rfl) (by kernel_rfl) (fun _ _ _ h => h) (Or.inr ⟨by rfl, rfl⟩) (by assumption) ?_
        try simp only [Act.put, List.setIfInBounds_toArray, List.set_cons_zero, List.set_cons_succ, List.getElem_toArray, List.getElem_cons_zero, List.getElem_cons_succ]
        refine wpAnyH_take (i := 13) (v := undef) rfl (by kernel_rfl) (by kernel_rfl) (by kernel_rfl) (fun _ _ _ h => h) (Or.inr ⟨by rfl, rfl⟩) (by assumption) ?_
        try simp only [Act.put, List.setIfInBounds_toArray, List.set_cons_zero, List.set_cons_succ, List.getElem_toArray, List.getElem_cons_zero, List.getElem_cons_succ]
        refine wpAnyH_take (i := 14) (v := undef) rfl (by kernel_rfl) (by kernel_rfl) (by kernel_rfl) (fun _ _ _ h => h) (Or.inr ⟨by rfl, rfl⟩) (by assumption) ?_
        try simp only [Act.put, List.setIfInBounds_toArray, List.set_cons_zero, List.set_cons_succ, List.getElem_toArray, List.getElem_cons_zero, List.getElem_cons_succ]
        refine wpAnyH_take (i := 15) (v := undef) rfl (by kernel_rfl) (by kernel_rfl) (by kernel_rfl) (fun _ _ _ h => h) (Or.inr ⟨by rfl, rfl⟩) (by assumption) ?_
        try simp only [Act.put, List.setIfInBounds_toArray, List.set_cons_zero, List.set_cons_succ, List.getElem_toArray, List.getElem_cons_zero, List.getElem_cons_succ]
        refine wpAnyH_take (i := 16) (v := undef) rfl (by kernel_rfl) (by kernel_rfl) (by kernel_rfl) (fun _ _ _ h => h) (Or.inr ⟨by rfl, rfl⟩) (by assumption) ?_
        try simp only [Act.put, List.setIfInBounds_toArray, List.set_cons_zero, List.set_cons_succ, List.getElem_toArray, List.getElem_cons_zero, List.getElem_cons_succ]
        refine wpAnyH_take (i := 17) (v := undef) rfl (by kernel_rfl) (by kernel_rfl) (by kernel_rfl) (fun _ _ _ h => h) (Or.inr ⟨by rfl, rfl⟩) (by assumption) ?_
        try simp only [Act.put, List.setIfInBounds_toArray, List.set_cons_zero, List.set_cons_succ, List.getElem_toArray, List.getElem_cons_zero, List.getElem_cons_succ]
        refine wpAnyH_take (i := 18) (v := undef) rfl (by kernel_rfl) (by kernel_rfl) (by kernel_rfl) (fun _ _ _ h => h) (Or.inr ⟨by rfl, rfl⟩) (by assumption) ?_
        try simp only [Act.put, List.setIfInBounds_toArray, List.set_cons_zero, List.set_cons_succ, List.getElem_toArray, List.getElem_cons_zero, List.getElem_cons_succ]
        refine wpAnyH_take (i := 19) (v := undef) rfl (by kernel_rfl) (by kernel_rfl) (by kernel_rfl) (fun _ _ _ h => h) (Or.inr ⟨by rfl, rfl⟩) (by assumption) ?_
        try simp only [Act.put, List.setIfInBounds_toArray, List.set_cons_zero, List.set_cons_succ, List.getElem_toArray, List.getElem_cons_zero, List.getElem_cons_succ]
        refine wpAnyH_take (i := 20) (v := undef) rfl (by kernel_rfl) (by kernel_rfl) (by kernel_rfl) (fun _ _ _ h => h) (Or.inr ⟨by rfl, rfl⟩) (by assumption) ?_
        try simp only [Act.put, List.setIfInBounds_toArray, List.set_cons_zero, List.set_cons_succ, List.getElem_toArray, List.getElem_cons_zero, List.getElem_cons_succ]
        refine wpAnyH_take (i := 21) (v := undef) rfl (by kernel_rfl) (by kernel_rfl) (by kernel_rfl) (fun _ _ _ h => h) (Or.inr ⟨by rfl, rfl⟩) (by assumption) ?_
        try simp only [Act.put, List.setIfInBounds_toArray, List.set_cons_zero, List.set_cons_succ, List.getElem_toArray, List.getElem_cons_zero, List.getElem_cons_succ]
        refine wpAnyH_take (i := 22) (v := undef) rfl (by kernel_rfl) (by kernel_rfl) (by kernel_rfl) (fun _ _ _ h => h) (Or.inr ⟨by rfl, rfl⟩) (by assumption) ?_
        try simp only [Act.put, List.setIfInBounds_toArray, List.set_cons_zero, List.set_cons_succ, List.getElem_toArray, List.getElem_cons_zero, List.getElem_cons_succ]
        refine wpAnyH_take (i := 23) (v := undef) rfl (by kernel_rfl) (by kernel_rfl) (by kernel_rfl) (fun _ _ _ h => h) (Or.inr ⟨by rfl, rfl⟩) (by assumption) ?_
        try simp only [Act.put, List.setIfInBounds_toArray, List.set_cons_zero, List.set_cons_succ, List.getElem_toArray, List.getElem_cons_zero, List.getElem_cons_succ]
        refine wpAnyH_take (i := 24) (v := undef) rfl (by kernel_rfl) (by kernel_rfl) (by kernel_rfl) (fun _ _ _ h => h) (Or.inr ⟨by rfl, rfl⟩) (by assumption) ?_
        try simp only [Act.put, List.setIfInBounds_toArray, List.set_cons_zero, List.set_cons_succ, List.getElem_toArray, List.getElem_cons_zero, List.getElem_cons_succ]
        refine wpAnyH_take (i := 25) (v := undef) rfl (by kernel_rfl) (by kernel_rfl) (by kernel_rfl) (fun _ _ _ h => h) (Or.inr ⟨by rfl, rfl⟩) (by assumption) ?_
        try simp only [Act.put, List.setIfInBounds_toArray, List.set_cons_zero, List.set_cons_succ, List.getElem_toArray, List.getElem_cons_zero, List.getElem_cons_succ]
        refine wpAnyH_take (i := 26) (v := ?_) rfl (by kernel_rfl) (by kernel_rfl) (by kernel_rfl) (fun _ _ _ h => h) (Or.inl ⟨by rfl, ?_⟩) (by assumption) ?_
        rotate_left
        · (intro w hSw; (try dsimp only at hSw); go_simp; try rfl)
        try simp only [Act.put, List.setIfInBounds_toArray, List.set_cons_zero, List.set_cons_succ, List.getElem_toArray, List.getElem_cons_zero, List.getElem_cons_succ]
        refine wpAnyH_take (i := 27) (v := ?_) rfl (by kernel_rfl) (by kernel_rfl) (by kernel_rfl) (fun _ _ _ h => h) (Or.inl ⟨by rfl, ?_⟩) (by assumption) ?_
        rotate_left
        · (intro w hSw; (try dsimp only at hSw); go_simp; try rfl)
        try simp only [Act.put, List.setIfInBounds_toArray, List.set_cons_zero, List.set_cons_succ, List.getElem_toArray, List.getElem_cons_zero, List.getElem_cons_succ]
        refine wpAnyH_take (i := 28) (v := ?_) rfl (by kernel_rfl) (by kernel_rfl) (by kernel_rfl) (fun _ _ _ h => h) (Or.inl ⟨by rfl, ?_⟩) (by assumption) ?_
        rotate_left
        · (intro w hSw; (try dsimp only at hSw); go_simp; try rfl)
        try simp only [Act.put, List.setIfInBounds_toArray, List.set_cons_zero, List.set_cons_succ, List.getElem_toArray, List.getElem_cons_zero, List.getElem_cons_succ]
        refine wpAnyH_done (by kernel_rfl) ?_ _
        have HF := Lib.hid (HW0.out.trans ((HX.out.trans ((hs9.trans (hsa.mono hs9.size)).mono HX.out.size)).mono HW0.out.size))
        clear HC HCz
        go_wp2
        go_ret
        exact ⟨rfl, HF.out⟩
    ·
      refine step_allocBal rfl rfl (fun p wb hbx hbb hpp => ?_)
      have hsb : Below X.heap.size X wb := hHeld.1.trans (hbb.mono (Below.size hHeld.1))
      have hpX : X.heap.size ≤ p := Nat.le_trans (Below.size hHeld.1) hpp
      refine hK.out _ _ ?_ (fun hHeld => ?_)
      · (first
    | exact HC.out _ hs9
    | exact HC.out _ hs7
    | exact HC.out _ hsb
    | exact HC.out _ hs4
    | exact HC.out _ hs3
    | exact HC.out _ (Below.refl _ _).drew
    | exact HC.out _ (Below.refl _ _)
    | fail)
      clear hK K
      try simp only [Act.put, List.setIfInBounds_toArray, List.set_cons_zero, List.set_cons_succ, List.getElem_toArray, List.getElem_cons_zero, List.getElem_cons_succ]
      refine wpAnyH_ready (rs := [4]) (by kernel_rfl) (by simp) ?_
      refine (AllReadyH.cons rfl (fun K hK => ?_) AllReadyH.nil)
      go_simp
      (go_at_call 24; refine (HMo.out _ hHeld.1).mono ?_; rintro e w4 ⟨rfl, hb4⟩; have hs4 : Below X.heap.size X w4 := below_self hHeld.1 hb4; try (replace hbx := hbx.below hb4))
      refine hK.out _ _ ?_ (fun hHeld => ?_)
      · (first
    | exact HC.out _ hs9
    | exact HC.out _ hs7
    | exact HC.out _ hsb
    | exact HC.out _ hs4
    | exact HC.out _ hs3
    | exact HC.out _ (Below.refl _ _).drew
    | exact HC.out _ (Below.refl _ _)
    | fail)
      clear hK K
      try simp only [Act.put, List.setIfInBounds_toArray, List.set_cons_zero, List.set_cons_succ, List.getElem_toArray, List.getElem_cons_zero, List.getElem_cons_succ]
      refine wpAnyH_ready (rs := [7]) (by kernel_rfl) (by simp) ?_
      refine (AllReadyH.cons rfl (fun K hK => ?_) AllReadyH.nil)
      go_simp
      (go_at_call 23; refine (HNx.out _ hHeld.1).mono ?_; rintro e w7 ⟨rfl, hb7⟩; have hs7 : Below X.heap.size X w7 := below_self hHeld.1 hb7; try (replace hbx := hbx.below hb7))
      refine hK.out _ _ ?_ (fun hHeld => ?_)
      · (first
    | exact HC.out _ hs9
    | exact HC.out _ hs7
    | exact HC.out _ hsb
    | exact HC.out _ hs4
    | exact HC.out _ hs3
    | exact HC.out _ (Below.refl _ _).drew
    | exact HC.out _ (Below.refl _ _)
    | fail)
      clear hK K
      try simp only [Act.put, List.setIfInBounds_toArray, List.set_cons_zero, List.set_cons_succ, List.getElem_toArray, List.getElem_cons_zero, List.getElem_cons_succ]
      refine wpAnyH_ready (rs := [9]) (by kernel_rfl) (by simp) ?_
      refine (AllReadyH.cons rfl (fun K hK => ?_) AllReadyH.nil)
      refine step_storeBal rfl _ _ rfl p rfl (.int .i64 y) (.int .i64 n1) rfl rfl rfl hbx (fun Z hbz hbelz => ?_)
      have hs9 : Below X.heap.size X Z := hHeld.1.trans (hbelz.mono hpX)
      refine hK.out _ _ ?_ (fun hHeld => ?_)
      · (first
    | exact HC.out _ hs9
    | exact HC.out _ hs7
    | exact HC.out _ hsb
    | exact HC.out _ hs4
    | exact HC.out _ hs3
    | exact HC.out _ (Below.refl _ _).drew
    | exact HC.out _ (Below.refl _ _)
    | fail)
      clear hK K
      try simp only [Act.put, List.setIfInBounds_toArray, List.set_cons_zero, List.set_cons_succ, List.getElem_toArray, List.getElem_cons_zero, List.getElem_cons_succ]
      refine wpAnyH_done (by kernel_rfl) ?_ _
      have HLz := Lib.hid (HL8.out.below hs9)
      have HL1 : Hid (∀ W : World, Below Z.heap.size Z W → Calls Try.prog 22 #[.agg #[.int .i64 n6, .int .i64 n7], .agg #[.int .i64 y, .int .i64 n1]] W fun e w' => e = .returned (.bool true) ∧ Below W.heap.size W w') := Lib.hid fun W _ => by
        have h := Bb.less_any n6 n7 y n1 W
        rw [HY1.out] at h
        exact h
      have HCz : Hid (∀ w' : World, Below Z.heap.size Z w' → Below Z.heap.size Z w' ∧ w'.cell? ⟨W.heap.size + 1, 6, none⟩ = some (.int .i64 n6) ∧ w'.cell? ⟨W.heap.size + 1, 7, none⟩ = some (.int .i64 n7) ∧ w'.cell? ⟨W.heap.size + 1 + 1, 0, none⟩ = some (.int .i64 b1) ∧ w'.cell? ⟨W.heap.size + 1 + 1, 1, none⟩ = some (.int .i64 b2) ∧ w'.cell? ⟨p, 0, none⟩ = some (.int .i64 y) ∧ w'.cell? ⟨p, 1, none⟩ = some (.int .i64 n1)) := Lib.hid fun w' hb => by
        have hX0Z := HX.out.trans (hs9.mono HX.out.size)
        have q1 := (HM0.out.below hX0Z).below hb
        have q2 := (HB0.out.below hX0Z).below hb
        have q3 := hbz.below hb
        exact ⟨hb, q1.cell 6, q1.cell 7, q2.cell 0, q2.cell 1, q3.cell 0, q3.cell 1⟩
      go_wp2_with fail
      refine wp_region_held_drew (S := (fun w' => Below Z.heap.size Z w' ∧ w'.cell? ⟨W.heap.size + 1, 6, none⟩ = some (.int .i64 n6) ∧ w'.cell? ⟨W.heap.size + 1, 7, none⟩ = some (.int .i64 n7) ∧ w'.cell? ⟨W.heap.size + 1 + 1, 0, none⟩ = some (.int .i64 b1) ∧ w'.cell? ⟨W.heap.size + 1 + 1, 1, none⟩ = some (.int .i64 b2) ∧ w'.cell? ⟨p, 0, none⟩ = some (.int .i64 y) ∧ w'.cell? ⟨p, 1, none⟩ = some (.int .i64 n1))) (by kernel_rfl) ?_ (fun hHeld => ?_)
      · (first
        | exact HCz.out _ hsd
        | exact HCz.out _ hsc
        | exact HCz.out _ hsb2
        | exact HCz.out _ hsa
        | exact HCz.out _ (Below.refl _ _).drew
        | exact HCz.out _ (Below.refl _ _)
        | fail)
      refine wpAnyH_take (i := 0) (v := ?_) rfl (by kernel_rfl) (by kernel_rfl) (by kernel_rfl) (fun _ _ _ h => h) (Or.inl ⟨by rfl, ?_⟩) (by assumption) ?_
      rotate_left
      · (intro w hSw; (try dsimp only at hSw); go_simp; try rfl)
      try simp only [Act.put, List.setIfInBounds_toArray, List.set_cons_zero, List.set_cons_succ, List.getElem_toArray, List.getElem_cons_zero, List.getElem_cons_succ]
      refine wpAnyH_take (i := 1) (v := ?_) rfl (by kernel_rfl) (by kernel_rfl) (by kernel_rfl) (fun _ _ _ h => h) (Or.inl ⟨by rfl, ?_⟩) (by assumption) ?_
      rotate_left
      · (intro w hSw; (try dsimp only at hSw); go_simp; try rfl)
      try simp only [Act.put, List.setIfInBounds_toArray, List.set_cons_zero, List.set_cons_succ, List.getElem_toArray, List.getElem_cons_zero, List.getElem_cons_succ]
      refine wpAnyH_take (i := 2) (v := ?_) rfl (by kernel_rfl) (by kernel_rfl) (by kernel_rfl) (fun _ _ _ h => h) (Or.inl ⟨by rfl, ?_⟩) (by assumption) ?_
      rotate_left
      · (intro w hSw; (try dsimp only at hSw); go_simp; try rfl)
      try simp only [Act.put, List.setIfInBounds_toArray, List.set_cons_zero, List.set_cons_succ, List.getElem_toArray, List.getElem_cons_zero, List.getElem_cons_succ]
      refine wpAnyH_take (i := 3) (v := ?_) rfl (by kernel_rfl) (by kernel_rfl) (by kernel_rfl) (fun _ _ _ h => h) (Or.inl ⟨by rfl, ?_⟩) (by assumption) ?_
      rotate_left
      · (intro w hSw; (try dsimp only at hSw); go_simp; try rfl)
      try simp only [Act.put, List.setIfInBounds_toArray, List.set_cons_zero, List.set_cons_succ, List.getElem_toArray, List.getElem_cons_zero, List.getElem_cons_succ]
      refine wpAnyH_take (i := 4) (v := ?_) rfl (by kernel_rfl) (by kernel_rfl) (by kernel_rfl) (fun _ _ _ h => h) (Or.inl ⟨by rfl, ?_⟩) (by assumption) ?_
      rotate_left
      · (intro w hSw; (try dsimp only at hSw); go_simp; try rfl)
      try simp only [Act.put, List.setIfInBounds_toArray, List.set_cons_zero, List.set_cons_succ, List.getElem_toArray, List.getElem_cons_zero, List.getElem_cons_succ]
      refine wpAnyH_ready (rs := [5]) (by kernel_rfl) (by simp) ?_
      refine (AllReadyH.cons rfl (fun K hK => ?_) AllReadyH.nil)
      go_simp
      (go_at_call 22; refine (HL1.out _ hHeld.1).mono ?_; rintro e wa ⟨rfl, hba⟩; have hsa : Below Z.heap.size Z wa := below_self hHeld.1 hba)
      refine hK.out _ _ ?_ (fun hHeld => ?_)
      · (first
        | exact HCz.out _ hsd
        | exact HCz.out _ hsc
        | exact HCz.out _ hsb2
        | exact HCz.out _ hsa
        | exact HCz.out _ (Below.refl _ _).drew
        | exact HCz.out _ (Below.refl _ _)
        | fail)
      clear hK K
      try simp only [Act.put, List.setIfInBounds_toArray, List.set_cons_zero, List.set_cons_succ, List.getElem_toArray, List.getElem_cons_zero, List.getElem_cons_succ]
      refine wpAnyH_take (i := 6) (v := ?_) rfl (by kernel_rfl) (by kernel_rfl) (by kernel_rfl) (fun _ _ _ h => h) (Or.inl ⟨by rfl, ?_⟩) (by assumption) ?_
      rotate_left
      · (intro w hSw; (try dsimp only at hSw); go_simp; try rfl)
      try simp only [Act.put, List.setIfInBounds_toArray, List.set_cons_zero, List.set_cons_succ, List.getElem_toArray, List.getElem_cons_zero, List.getElem_cons_succ]
      refine wpAnyH_take (i := 7) (v := ?_) rfl (by kernel_rfl) (by kernel_rfl) (by kernel_rfl) (fun _ _ _ h => h) (Or.inl ⟨by rfl, ?_⟩) (by assumption) ?_
      rotate_left
      · (intro w hSw; (try dsimp only at hSw); go_simp; try rfl)
      try simp only [Act.put, List.setIfInBounds_toArray, List.set_cons_zero, List.set_cons_succ, List.getElem_toArray, List.getElem_cons_zero, List.getElem_cons_succ]
      refine wpAnyH_take (i := 8) (v := ?_) rfl (by kernel_rfl) (by kernel_rfl) (by kernel_rfl) (fun _ _ _ h => h) (Or.inl ⟨by rfl, ?_⟩) (by assumption) ?_
      rotate_left
      · (intro w hSw; (try dsimp only at hSw); go_simp; try rfl)
      try simp only [Act.put, List.setIfInBounds_toArray, List.set_cons_zero, List.set_cons_succ, List.getElem_toArray, List.getElem_cons_zero, List.getElem_cons_succ]
      refine wpAnyH_take (i := 9) (v := ?_) rfl (by kernel_rfl) (by kernel_rfl) (by kernel_rfl) (fun _ _ _ h => h) (Or.inl ⟨by rfl, ?_⟩) (by assumption) ?_
      rotate_left
      · (intro w hSw; (try dsimp only at hSw); go_simp; try rfl)
      try simp only [Act.put, List.setIfInBounds_toArray, List.set_cons_zero, List.set_cons_succ, List.getElem_toArray, List.getElem_cons_zero, List.getElem_cons_succ]
      refine wpAnyH_take (i := 10) (v := ?_) rfl (by kernel_rfl) (by kernel_rfl) (by kernel_rfl) (fun _ _ _ h => h) (Or.inl ⟨by rfl, ?_⟩) (by assumption) ?_
      rotate_left
      · (intro w hSw; (try dsimp only at hSw); go_simp; try rfl)
      try simp only [Act.put, List.setIfInBounds_toArray, List.set_cons_zero, List.set_cons_succ, List.getElem_toArray, List.getElem_cons_zero, List.getElem_cons_succ]
      refine wpAnyH_take (i := 11) (v := undef) rfl (by kernel_rfl) (by kernel_rfl) (by kernel_rfl) (fun _ _ _ h => h) (Or.inr ⟨by rfl, rfl⟩) (by assumption) ?_
      try simp only [Act.put, List.setIfInBounds_toArray, List.set_cons_zero, List.set_cons_succ, List.getElem_toArray, List.getElem_cons_zero, List.getElem_cons_succ]
      refine wpAnyH_take (i := 12) (v := undef) rfl (by kernel_rfl) (by kernel_rfl) (by kernel_rfl) (fun _ _ _ h => h) (Or.inr ⟨by rfl, rfl⟩) (by assumption) ?_
      try simp only [Act.put, List.setIfInBounds_toArray, List.set_cons_zero, List.set_cons_succ, List.getElem_toArray, List.getElem_cons_zero, List.getElem_cons_succ]
      refine wpAnyH_take (i := 13) (v := undef) rfl (by kernel_rfl) (by kernel_rfl) (by kernel_rfl) (fun _ _ _ h => h) (Or.inr ⟨by rfl, rfl⟩) (by assumption) ?_
      try simp only [Act.put, List.setIfInBounds_toArray, List.set_cons_zero, List.set_cons_succ, List.getElem_toArray, List.getElem_cons_zero, List.getElem_cons_succ]
      refine wpAnyH_take (i := 14) (v := undef) rfl (by kernel_rfl) (by kernel_rfl) (by kernel_rfl) (fun _ _ _ h => h) (Or.inr ⟨by rfl, rfl⟩) (by assumption) ?_
      try simp only [Act.put, List.setIfInBounds_toArray, List.set_cons_zero, List.set_cons_succ, List.getElem_toArray, List.getElem_cons_zero, List.getElem_cons_succ]
      refine wpAnyH_take (i := 15) (v := undef) rfl (by kernel_rfl) (by kernel_rfl) (by kernel_rfl) (fun _ _ _ h => h) (Or.inr ⟨by rfl, rfl⟩) (by assumption) ?_
      try simp only [Act.put, List.setIfInBounds_toArray, List.set_cons_zero, List.set_cons_succ, List.getElem_toArray, List.getElem_cons_zero, List.getElem_cons_succ]
      refine wpAnyH_take (i := 16) (v := undef) rfl (by kernel_rfl) (by kernel_rfl) (by kernel_rfl) (fun _ _ _ h => h) (Or.inr ⟨by rfl, rfl⟩) (by assumption) ?_
      try simp only [Act.put, List.setIfInBounds_toArray, List.set_cons_zero, List.set_cons_succ, List.getElem_toArray, List.getElem_cons_zero, List.getElem_cons_succ]
      refine wpAnyH_take (i := 17) (v := undef) rfl (by kernel_rfl) (by kernel_rfl) (by kernel_rfl) (fun _ _ _ h => h) (Or.inr ⟨by rfl, rfl⟩) (by assumption) ?_
      try simp only [Act.put, List.setIfInBounds_toArray, List.set_cons_zero, List.set_cons_succ, List.getElem_toArray, List.getElem_cons_zero, List.getElem_cons_succ]
      refine wpAnyH_take (i := 18) (v := undef) rfl (by kernel_rfl) (by kernel_rfl) (by kernel_rfl) (fun _ _ _ h => h) (Or.inr ⟨by rfl, rfl⟩) (by assumption) ?_
      try simp only [Act.put, List.setIfInBounds_toArray, List.set_cons_zero, List.set_cons_succ, List.getElem_toArray, List.getElem_cons_zero, List.getElem_cons_succ]
      refine wpAnyH_take (i := 19) (v := undef) rfl (by kernel_rfl) (by kernel_rfl) (by kernel_rfl) (fun _ _ _ h => h) (Or.inr ⟨by rfl, rfl⟩) (by assumption) ?_
      try simp only [Act.put, List.setIfInBounds_toArray, List.set_cons_zero, List.set_cons_succ, List.getElem_toArray, List.getElem_cons_zero, List.getElem_cons_succ]
      refine wpAnyH_take (i := 20) (v := undef) rfl (by kernel_rfl) (by kernel_rfl) (by kernel_rfl) (fun _ _ _ h => h) (Or.inr ⟨by rfl, rfl⟩) (by assumption) ?_
      try simp only [Act.put, List.setIfInBounds_toArray, List.set_cons_zero, List.set_cons_succ, List.getElem_toArray, List.getElem_cons_zero, List.getElem_cons_succ]
      refine wpAnyH_take (i := 21) (v := undef) rfl (by kernel_rfl) (by kernel_rfl) (by kernel_rfl) (fun _ _ _ h => h) (Or.inr ⟨by rfl, rfl⟩) (by assumption) ?_
      try simp only [Act.put, List.setIfInBounds_toArray, List.set_cons_zero, List.set_cons_succ, List.getElem_toArray, List.getElem_cons_zero, List.getElem_cons_succ]
      refine wpAnyH_take (i := 22) (v := undef) rfl (by kernel_rfl) (by kernel_rfl) (by kernel_rfl) (fun _ _ _ h => h) (Or.inr ⟨by rfl, rfl⟩) (by assumption) ?_
      try simp only [Act.put, List.setIfInBounds_toArray, List.set_cons_zero, List.set_cons_succ, List.getElem_toArray, List.getElem_cons_zero, List.getElem_cons_succ]
      refine wpAnyH_take (i := 23) (v := undef) rfl (by kernel_rfl) (by kernel_rfl) (by kernel_rfl) (fun _ _ _ h => h) (Or.inr ⟨by rfl, rfl⟩) (by assumption) ?_
      try simp only [Act.put, List.setIfInBounds_toArray, List.set_cons_zero, List.set_cons_succ, List.getElem_toArray, List.getElem_cons_zero, List.getElem_cons_succ]
      refine wpAnyH_take (i := 24) (v := undef) rfl (by kernel_rfl) (by kernel_rfl) (by kernel_rfl) (fun _ _ _ h => h) (Or.inr ⟨by rfl, rfl⟩) (by assumption) ?_
      try simp only [Act.put, List.setIfInBounds_toArray, List.set_cons_zero, List.set_cons_succ, List.getElem_toArray, List.getElem_cons_zero, List.getElem_cons_succ]
      refine wpAnyH_take (i := 25) (v := undef) rfl (by kernel_rfl) (by kernel_rfl) (by kernel_rfl) (fun _ _ _ h => h) (Or.inr ⟨by rfl, rfl⟩) (by assumption) ?_
      try simp only [Act.put, List.setIfInBounds_toArray, List.set_cons_zero, List.set_cons_succ, List.getElem_toArray, List.getElem_cons_zero, List.getElem_cons_succ]
      refine wpAnyH_take (i := 26) (v := ?_) rfl (by kernel_rfl) (by kernel_rfl) (by kernel_rfl) (fun _ _ _ h => h) (Or.inl ⟨by rfl, ?_⟩) (by assumption) ?_
      rotate_left
      · (intro w hSw; (try dsimp only at hSw); go_simp; try rfl)
      try simp only [Act.put, List.setIfInBounds_toArray, List.set_cons_zero, List.set_cons_succ, List.getElem_toArray, List.getElem_cons_zero, List.getElem_cons_succ]
      refine wpAnyH_take (i := 27) (v := ?_) rfl (by kernel_rfl) (by kernel_rfl) (by kernel_rfl) (fun _ _ _ h => h) (Or.inl ⟨by rfl, ?_⟩) (by assumption) ?_
      rotate_left
      · (intro w hSw; (try dsimp only at hSw); go_simp; try rfl)
      try simp only [Act.put, List.setIfInBounds_toArray, List.set_cons_zero, List.set_cons_succ, List.getElem_toArray, List.getElem_cons_zero, List.getElem_cons_succ]
      refine wpAnyH_take (i := 28) (v := ?_) rfl (by kernel_rfl) (by kernel_rfl) (by kernel_rfl) (fun _ _ _ h => h) (Or.inl ⟨by rfl, ?_⟩) (by assumption) ?_
      rotate_left
      · (intro w hSw; (try dsimp only at hSw); go_simp; try rfl)
      try simp only [Act.put, List.setIfInBounds_toArray, List.set_cons_zero, List.set_cons_succ, List.getElem_toArray, List.getElem_cons_zero, List.getElem_cons_succ]
      refine wpAnyH_done (by kernel_rfl) ?_ _
      have HF := Lib.hid (HW0.out.trans ((HX.out.trans ((hs9.trans (hsa.mono hs9.size)).mono HX.out.size)).mono HW0.out.size))
      clear HC HCz
      go_wp2
      go_ret
      exact ⟨rfl, HF.out⟩
  ·
    refine step_allocBal rfl rfl (fun p wb hbx hbb hpp => ?_)
    have hsb : Below X.heap.size X wb := hHeld.1.trans (hbb.mono (Below.size hHeld.1))
    have hpX : X.heap.size ≤ p := Nat.le_trans (Below.size hHeld.1) hpp
    refine hK.out _ _ ?_ (fun hHeld => ?_)
    · (first
    | exact HC.out _ hs9
    | exact HC.out _ hs7
    | exact HC.out _ hsb
    | exact HC.out _ hs4
    | exact HC.out _ hs3
    | exact HC.out _ (Below.refl _ _).drew
    | exact HC.out _ (Below.refl _ _)
    | fail)
    clear hK K
    try simp only [Act.put, List.setIfInBounds_toArray, List.set_cons_zero, List.set_cons_succ, List.getElem_toArray, List.getElem_cons_zero, List.getElem_cons_succ]
    refine wpAnyH_ready (rs := [3]) (by kernel_rfl) (by simp) ?_
    refine (AllReadyH.cons rfl (fun K hK => ?_) AllReadyH.nil)
    go_simp
    (go_at_call 25; refine (HBa.out _ hHeld.1).mono ?_; rintro e w3 ⟨rfl, hb3⟩; have hs3 : Below X.heap.size X w3 := below_self hHeld.1 hb3; try (replace hbx := hbx.below hb3))
    refine hK.out _ _ ?_ (fun hHeld => ?_)
    · (first
    | exact HC.out _ hs9
    | exact HC.out _ hs7
    | exact HC.out _ hsb
    | exact HC.out _ hs4
    | exact HC.out _ hs3
    | exact HC.out _ (Below.refl _ _).drew
    | exact HC.out _ (Below.refl _ _)
    | fail)
    clear hK K
    try simp only [Act.put, List.setIfInBounds_toArray, List.set_cons_zero, List.set_cons_succ, List.getElem_toArray, List.getElem_cons_zero, List.getElem_cons_succ]
    refine wpAnyH_ready (rs := [4]) (by kernel_rfl) (by simp) ?_
    refine (AllReadyH.cons rfl (fun K hK => ?_) AllReadyH.nil)
    go_simp
    (go_at_call 24; refine (HMo.out _ hHeld.1).mono ?_; rintro e w4 ⟨rfl, hb4⟩; have hs4 : Below X.heap.size X w4 := below_self hHeld.1 hb4; try (replace hbx := hbx.below hb4))
    refine hK.out _ _ ?_ (fun hHeld => ?_)
    · (first
    | exact HC.out _ hs9
    | exact HC.out _ hs7
    | exact HC.out _ hsb
    | exact HC.out _ hs4
    | exact HC.out _ hs3
    | exact HC.out _ (Below.refl _ _).drew
    | exact HC.out _ (Below.refl _ _)
    | fail)
    clear hK K
    try simp only [Act.put, List.setIfInBounds_toArray, List.set_cons_zero, List.set_cons_succ, List.getElem_toArray, List.getElem_cons_zero, List.getElem_cons_succ]
    refine wpAnyH_ready (rs := [7]) (by kernel_rfl) (by simp) ?_
    refine (AllReadyH.cons rfl (fun K hK => ?_) AllReadyH.nil)
    go_simp
    (go_at_call 23; refine (HNx.out _ hHeld.1).mono ?_; rintro e w7 ⟨rfl, hb7⟩; have hs7 : Below X.heap.size X w7 := below_self hHeld.1 hb7; try (replace hbx := hbx.below hb7))
    refine hK.out _ _ ?_ (fun hHeld => ?_)
    · (first
    | exact HC.out _ hs9
    | exact HC.out _ hs7
    | exact HC.out _ hsb
    | exact HC.out _ hs4
    | exact HC.out _ hs3
    | exact HC.out _ (Below.refl _ _).drew
    | exact HC.out _ (Below.refl _ _)
    | fail)
    clear hK K
    try simp only [Act.put, List.setIfInBounds_toArray, List.set_cons_zero, List.set_cons_succ, List.getElem_toArray, List.getElem_cons_zero, List.getElem_cons_succ]
    refine wpAnyH_ready (rs := [9]) (by kernel_rfl) (by simp) ?_
    refine (AllReadyH.cons rfl (fun K hK => ?_) AllReadyH.nil)
    refine step_storeBal rfl _ _ rfl p rfl (.int .i64 y) (.int .i64 n1) rfl rfl rfl hbx (fun Z hbz hbelz => ?_)
    have hs9 : Below X.heap.size X Z := hHeld.1.trans (hbelz.mono hpX)
    refine hK.out _ _ ?_ (fun hHeld => ?_)
    · (first
    | exact HC.out _ hs9
    | exact HC.out _ hs7
    | exact HC.out _ hsb
    | exact HC.out _ hs4
    | exact HC.out _ hs3
    | exact HC.out _ (Below.refl _ _).drew
    | exact HC.out _ (Below.refl _ _)
    | fail)
    clear hK K
    try simp only [Act.put, List.setIfInBounds_toArray, List.set_cons_zero, List.set_cons_succ, List.getElem_toArray, List.getElem_cons_zero, List.getElem_cons_succ]
    refine wpAnyH_done (by kernel_rfl) ?_ _
    have HLz := Lib.hid (HL8.out.below hs9)
    have HL1 : Hid (∀ W : World, Below Z.heap.size Z W → Calls Try.prog 22 #[.agg #[.int .i64 n6, .int .i64 n7], .agg #[.int .i64 y, .int .i64 n1]] W fun e w' => e = .returned (.bool true) ∧ Below W.heap.size W w') := Lib.hid fun W _ => by
      have h := Bb.less_any n6 n7 y n1 W
      rw [HY1.out] at h
      exact h
    have HCz : Hid (∀ w' : World, Below Z.heap.size Z w' → Below Z.heap.size Z w' ∧ w'.cell? ⟨W.heap.size + 1, 6, none⟩ = some (.int .i64 n6) ∧ w'.cell? ⟨W.heap.size + 1, 7, none⟩ = some (.int .i64 n7) ∧ w'.cell? ⟨W.heap.size + 1 + 1, 0, none⟩ = some (.int .i64 b1) ∧ w'.cell? ⟨W.heap.size + 1 + 1, 1, none⟩ = some (.int .i64 b2) ∧ w'.cell? ⟨p, 0, none⟩ = some (.int .i64 y) ∧ w'.cell? ⟨p, 1, none⟩ = some (.int .i64 n1)) := Lib.hid fun w' hb => by
      have hX0Z := HX.out.trans (hs9.mono HX.out.size)
      have q1 := (HM0.out.below hX0Z).below hb
      have q2 := (HB0.out.below hX0Z).below hb
      have q3 := hbz.below hb
      exact ⟨hb, q1.cell 6, q1.cell 7, q2.cell 0, q2.cell 1, q3.cell 0, q3.cell 1⟩
    go_wp2_with fail
    refine wp_region_held_drew (S := (fun w' => Below Z.heap.size Z w' ∧ w'.cell? ⟨W.heap.size + 1, 6, none⟩ = some (.int .i64 n6) ∧ w'.cell? ⟨W.heap.size + 1, 7, none⟩ = some (.int .i64 n7) ∧ w'.cell? ⟨W.heap.size + 1 + 1, 0, none⟩ = some (.int .i64 b1) ∧ w'.cell? ⟨W.heap.size + 1 + 1, 1, none⟩ = some (.int .i64 b2) ∧ w'.cell? ⟨p, 0, none⟩ = some (.int .i64 y) ∧ w'.cell? ⟨p, 1, none⟩ = some (.int .i64 n1))) (by kernel_rfl) ?_ (fun hHeld => ?_)
    · (first
      | exact HCz.out _ hsd
      | exact HCz.out _ hsc
      | exact HCz.out _ hsb2
      | exact HCz.out _ hsa
      | exact HCz.out _ (Below.refl _ _).drew
      | exact HCz.out _ (Below.refl _ _)
      | fail)
    refine wpAnyH_take (i := 0) (v := ?_) rfl (by kernel_rfl) (by kernel_rfl) (by kernel_rfl) (fun _ _ _ h => h) (Or.inl ⟨by rfl, ?_⟩) (by assumption) ?_
    rotate_left
    · (intro w hSw; (try dsimp only at hSw); go_simp; try rfl)
    try simp only [Act.put, List.setIfInBounds_toArray, List.set_cons_zero, List.set_cons_succ, List.getElem_toArray, List.getElem_cons_zero, List.getElem_cons_succ]
    refine wpAnyH_take (i := 1) (v := ?_) rfl (by kernel_rfl) (by kernel_rfl) (by kernel_rfl) (fun _ _ _ h => h) (Or.inl ⟨by rfl, ?_⟩) (by assumption) ?_
    rotate_left
    · (intro w hSw; (try dsimp only at hSw); go_simp; try rfl)
    try simp only [Act.put, List.setIfInBounds_toArray, List.set_cons_zero, List.set_cons_succ, List.getElem_toArray, List.getElem_cons_zero, List.getElem_cons_succ]
    refine wpAnyH_take (i := 2) (v := ?_) rfl (by kernel_rfl) (by kernel_rfl) (by kernel_rfl) (fun _ _ _ h => h) (Or.inl ⟨by rfl, ?_⟩) (by assumption) ?_
    rotate_left
    · (intro w hSw; (try dsimp only at hSw); go_simp; try rfl)
    try simp only [Act.put, List.setIfInBounds_toArray, List.set_cons_zero, List.set_cons_succ, List.getElem_toArray, List.getElem_cons_zero, List.getElem_cons_succ]
    refine wpAnyH_take (i := 3) (v := ?_) rfl (by kernel_rfl) (by kernel_rfl) (by kernel_rfl) (fun _ _ _ h => h) (Or.inl ⟨by rfl, ?_⟩) (by assumption) ?_
    rotate_left
    · (intro w hSw; (try dsimp only at hSw); go_simp; try rfl)
    try simp only [Act.put, List.setIfInBounds_toArray, List.set_cons_zero, List.set_cons_succ, List.getElem_toArray, List.getElem_cons_zero, List.getElem_cons_succ]
    refine wpAnyH_take (i := 4) (v := ?_) rfl (by kernel_rfl) (by kernel_rfl) (by kernel_rfl) (fun _ _ _ h => h) (Or.inl ⟨by rfl, ?_⟩) (by assumption) ?_
    rotate_left
    · (intro w hSw; (try dsimp only at hSw); go_simp; try rfl)
    try simp only [Act.put, List.setIfInBounds_toArray, List.set_cons_zero, List.set_cons_succ, List.getElem_toArray, List.getElem_cons_zero, List.getElem_cons_succ]
    refine wpAnyH_ready (rs := [5]) (by kernel_rfl) (by simp) ?_
    refine (AllReadyH.cons rfl (fun K hK => ?_) AllReadyH.nil)
    go_simp
    (go_at_call 22; refine (HL1.out _ hHeld.1).mono ?_; rintro e wa ⟨rfl, hba⟩; have hsa : Below Z.heap.size Z wa := below_self hHeld.1 hba)
    refine hK.out _ _ ?_ (fun hHeld => ?_)
    · (first
      | exact HCz.out _ hsd
      | exact HCz.out _ hsc
      | exact HCz.out _ hsb2
      | exact HCz.out _ hsa
      | exact HCz.out _ (Below.refl _ _).drew
      | exact HCz.out _ (Below.refl _ _)
      | fail)
    clear hK K
    try simp only [Act.put, List.setIfInBounds_toArray, List.set_cons_zero, List.set_cons_succ, List.getElem_toArray, List.getElem_cons_zero, List.getElem_cons_succ]
    refine wpAnyH_take (i := 6) (v := ?_) rfl (by kernel_rfl) (by kernel_rfl) (by kernel_rfl) (fun _ _ _ h => h) (Or.inl ⟨by rfl, ?_⟩) (by assumption) ?_
    rotate_left
    · (intro w hSw; (try dsimp only at hSw); go_simp; try rfl)
    try simp only [Act.put, List.setIfInBounds_toArray, List.set_cons_zero, List.set_cons_succ, List.getElem_toArray, List.getElem_cons_zero, List.getElem_cons_succ]
    refine wpAnyH_take (i := 7) (v := ?_) rfl (by kernel_rfl) (by kernel_rfl) (by kernel_rfl) (fun _ _ _ h => h) (Or.inl ⟨by rfl, ?_⟩) (by assumption) ?_
    rotate_left
    · (intro w hSw; (try dsimp only at hSw); go_simp; try rfl)
    try simp only [Act.put, List.setIfInBounds_toArray, List.set_cons_zero, List.set_cons_succ, List.getElem_toArray, List.getElem_cons_zero, List.getElem_cons_succ]
    refine wpAnyH_take (i := 8) (v := ?_) rfl (by kernel_rfl) (by kernel_rfl) (by kernel_rfl) (fun _ _ _ h => h) (Or.inl ⟨by rfl, ?_⟩) (by assumption) ?_
    rotate_left
    · (intro w hSw; (try dsimp only at hSw); go_simp; try rfl)
    try simp only [Act.put, List.setIfInBounds_toArray, List.set_cons_zero, List.set_cons_succ, List.getElem_toArray, List.getElem_cons_zero, List.getElem_cons_succ]
    refine wpAnyH_take (i := 9) (v := ?_) rfl (by kernel_rfl) (by kernel_rfl) (by kernel_rfl) (fun _ _ _ h => h) (Or.inl ⟨by rfl, ?_⟩) (by assumption) ?_
    rotate_left
    · (intro w hSw; (try dsimp only at hSw); go_simp; try rfl)
    try simp only [Act.put, List.setIfInBounds_toArray, List.set_cons_zero, List.set_cons_succ, List.getElem_toArray, List.getElem_cons_zero, List.getElem_cons_succ]
    refine wpAnyH_take (i := 10) (v := ?_) rfl (by kernel_rfl) (by kernel_rfl) (by kernel_rfl) (fun _ _ _ h => h) (Or.inl ⟨by rfl, ?_⟩) (by assumption) ?_
    rotate_left
    · (intro w hSw; (try dsimp only at hSw); go_simp; try rfl)
    try simp only [Act.put, List.setIfInBounds_toArray, List.set_cons_zero, List.set_cons_succ, List.getElem_toArray, List.getElem_cons_zero, List.getElem_cons_succ]
    refine wpAnyH_take (i := 11) (v := undef) rfl (by kernel_rfl) (by kernel_rfl) (by kernel_rfl) (fun _ _ _ h => h) (Or.inr ⟨by rfl, rfl⟩) (by assumption) ?_
    try simp only [Act.put, List.setIfInBounds_toArray, List.set_cons_zero, List.set_cons_succ, List.getElem_toArray, List.getElem_cons_zero, List.getElem_cons_succ]
    refine wpAnyH_take (i := 12) (v := undef) rfl (by kernel_rfl) (by kernel_rfl) (by kernel_rfl) (fun _ _ _ h => h) (Or.inr ⟨by rfl, rfl⟩) (by assumption) ?_
    try simp only [Act.put, List.setIfInBounds_toArray, List.set_cons_zero, List.set_cons_succ, List.getElem_toArray, List.getElem_cons_zero, List.getElem_cons_succ]
    refine wpAnyH_take (i := 13) (v := undef) rfl (by kernel_rfl) (by kernel_rfl) (by kernel_rfl) (fun _ _ _ h => h) (Or.inr ⟨by rfl, rfl⟩) (by assumption) ?_
    try simp only [Act.put, List.setIfInBounds_toArray, List.set_cons_zero, List.set_cons_succ, List.getElem_toArray, List.getElem_cons_zero, List.getElem_cons_succ]
    refine wpAnyH_take (i := 14) (v := undef) rfl (by kernel_rfl) (by kernel_rfl) (by kernel_rfl) (fun _ _ _ h => h) (Or.inr ⟨by rfl, rfl⟩) (by assumption) ?_
    try simp only [Act.put, List.setIfInBounds_toArray, List.set_cons_zero, List.set_cons_succ, List.getElem_toArray, List.getElem_cons_zero, List.getElem_cons_succ]
    refine wpAnyH_take (i := 15) (v := undef) rfl (by kernel_rfl) (by kernel_rfl) (by kernel_rfl) (fun _ _ _ h => h) (Or.inr ⟨by rfl, rfl⟩) (by assumption) ?_
    try simp only [Act.put, List.setIfInBounds_toArray, List.set_cons_zero, List.set_cons_succ, List.getElem_toArray, List.getElem_cons_zero, List.getElem_cons_succ]
    refine wpAnyH_take (i := 16) (v := undef) rfl (by kernel_rfl) (by kernel_rfl) (by kernel_rfl) (fun _ _ _ h => h) (Or.inr ⟨by rfl, rfl⟩) (by assumption) ?_
    try simp only [Act.put, List.setIfInBounds_toArray, List.set_cons_zero, List.set_cons_succ, List.getElem_toArray, List.getElem_cons_zero, List.getElem_cons_succ]
    refine wpAnyH_take (i := 17) (v := undef) rfl (by kernel_rfl) (by kernel_rfl) (by kernel_rfl) (fun _ _ _ h => h) (Or.inr ⟨by rfl, rfl⟩) (by assumption) ?_
    try simp only [Act.put, List.setIfInBounds_toArray, List.set_cons_zero, List.set_cons_succ, List.getElem_toArray, List.getElem_cons_zero, List.getElem_cons_succ]
    refine wpAnyH_take (i := 18) (v := undef) rfl (by kernel_rfl) (by kernel_rfl) (by kernel_rfl) (fun _ _ _ h => h) (Or.inr ⟨by rfl, rfl⟩) (by assumption) ?_
    try simp only [Act.put, List.setIfInBounds_toArray, List.set_cons_zero, List.set_cons_succ, List.getElem_toArray, List.getElem_cons_zero, List.getElem_cons_succ]
    refine wpAnyH_take (i := 19) (v := undef) rfl (by kernel_rfl) (by kernel_rfl) (by kernel_rfl) (fun _ _ _ h => h) (Or.inr ⟨by rfl, rfl⟩) (by assumption) ?_
    try simp only [Act.put, List.setIfInBounds_toArray, List.set_cons_zero, List.set_cons_succ, List.getElem_toArray, List.getElem_cons_zero, List.getElem_cons_succ]
    refine wpAnyH_take (i := 20) (v := undef) rfl (by kernel_rfl) (by kernel_rfl) (by kernel_rfl) (fun _ _ _ h => h) (Or.inr ⟨by rfl, rfl⟩) (by assumption) ?_
    try simp only [Act.put, List.setIfInBounds_toArray, List.set_cons_zero, List.set_cons_succ, List.getElem_toArray, List.getElem_cons_zero, List.getElem_cons_succ]
    refine wpAnyH_take (i := 21) (v := undef) rfl (by kernel_rfl) (by kernel_rfl) (by kernel_rfl) (fun _ _ _ h => h) (Or.inr ⟨by rfl, rfl⟩) (by assumption) ?_
    try simp only [Act.put, List.setIfInBounds_toArray, List.set_cons_zero, List.set_cons_succ, List.getElem_toArray, List.getElem_cons_zero, List.getElem_cons_succ]
    refine wpAnyH_take (i := 22) (v := undef) rfl (by kernel_rfl) (by kernel_rfl) (by kernel_rfl) (fun _ _ _ h => h) (Or.inr ⟨by rfl, rfl⟩) (by assumption) ?_
    try simp only [Act.put, List.setIfInBounds_toArray, List.set_cons_zero, List.set_cons_succ, List.getElem_toArray, List.getElem_cons_zero, List.getElem_cons_succ]
    refine wpAnyH_take (i := 23) (v := undef) rfl (by kernel_rfl) (by kernel_rfl) (by kernel_rfl) (fun _ _ _ h => h) (Or.inr ⟨by rfl, rfl⟩) (by assumption) ?_
    try simp only [Act.put, List.setIfInBounds_toArray, List.set_cons_zero, List.set_cons_succ, List.getElem_toArray, List.getElem_cons_zero, List.getElem_cons_succ]
    refine wpAnyH_take (i := 24) (v := undef) rfl (by kernel_rfl) (by kernel_rfl) (by kernel_rfl) (fun _ _ _ h => h) (Or.inr ⟨by rfl, rfl⟩) (by assumption) ?_
    try simp only [Act.put, List.setIfInBounds_toArray, List.set_cons_zero, List.set_cons_succ, List.getElem_toArray, List.getElem_cons_zero, List.getElem_cons_succ]
    refine wpAnyH_take (i := 25) (v := undef) rfl (by kernel_rfl) (by kernel_rfl) (by kernel_rfl) (fun _ _ _ h => h) (Or.inr ⟨by rfl, rfl⟩) (by assumption) ?_
    try simp only [Act.put, List.setIfInBounds_toArray, List.set_cons_zero, List.set_cons_succ, List.getElem_toArray, List.getElem_cons_zero, List.getElem_cons_succ]
    refine wpAnyH_take (i := 26) (v := ?_) rfl (by kernel_rfl) (by kernel_rfl) (by kernel_rfl) (fun _ _ _ h => h) (Or.inl ⟨by rfl, ?_⟩) (by assumption) ?_
    rotate_left
    · (intro w hSw; (try dsimp only at hSw); go_simp; try rfl)
    try simp only [Act.put, List.setIfInBounds_toArray, List.set_cons_zero, List.set_cons_succ, List.getElem_toArray, List.getElem_cons_zero, List.getElem_cons_succ]
    refine wpAnyH_take (i := 27) (v := ?_) rfl (by kernel_rfl) (by kernel_rfl) (by kernel_rfl) (fun _ _ _ h => h) (Or.inl ⟨by rfl, ?_⟩) (by assumption) ?_
    rotate_left
    · (intro w hSw; (try dsimp only at hSw); go_simp; try rfl)
    try simp only [Act.put, List.setIfInBounds_toArray, List.set_cons_zero, List.set_cons_succ, List.getElem_toArray, List.getElem_cons_zero, List.getElem_cons_succ]
    refine wpAnyH_take (i := 28) (v := ?_) rfl (by kernel_rfl) (by kernel_rfl) (by kernel_rfl) (fun _ _ _ h => h) (Or.inl ⟨by rfl, ?_⟩) (by assumption) ?_
    rotate_left
    · (intro w hSw; (try dsimp only at hSw); go_simp; try rfl)
    try simp only [Act.put, List.setIfInBounds_toArray, List.set_cons_zero, List.set_cons_succ, List.getElem_toArray, List.getElem_cons_zero, List.getElem_cons_succ]
    refine wpAnyH_done (by kernel_rfl) ?_ _
    have HF := Lib.hid (HW0.out.trans ((HX.out.trans ((hs9.trans (hsa.mono hs9.size)).mono HX.out.size)).mono HW0.out.size))
    clear HC HCz
    go_wp2
    go_ret
    exact ⟨rfl, HF.out⟩
end Go.Proofs.Ytplplehfkfjhnaa
