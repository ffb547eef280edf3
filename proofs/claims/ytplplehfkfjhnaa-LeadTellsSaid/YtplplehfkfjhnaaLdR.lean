/-
  Leads: Hear, what answers an asking to accept.
-/
import Derived.Test.YtplplehfkfjhnaaLdQ
namespace Go.Proofs.Ytplplehfkfjhnaa
open Go.RowKit
open Bb (quoN thN allB)
set_option linter.unusedSimpArgs false
set_option linter.unusedVariables false
set_option maxRecDepth 100000

set_option maxHeartbeats 16000000 in
theorem hear_accN {W0 w : World} {B g : Nat} {L : LSt} {x : Mg} {v : Value} (h : LdAt w B g L) (ho : LOk L) (hm : MgV W0 v x) (hW0 : W0.heap.size ≤ B) (hbw : Below W0.heap.size W0 w) (hdl : x.ins.at'.2.length ≤ 60) (hp : passL L x = true) (hkd : x.kind = 3) (hf : fitL L x 1 = false) :
    Calls Try.prog 13 #[gP g, v] w (HeP (L) L B g w) := by
  have HMg0 := Lib.hid hm
  obtain ⟨ua, uc, a1, d1, c1, a2, d2, c2, a3, d3, c3, rfl, hrd, hok⟩ := hm
  obtain ⟨n0, n1, n2, ⟨n3, n4, n5⟩, ⟨n6, n7⟩, ⟨n8, ⟨n9, n10⟩, ⟨n11, n12⟩, ⟨n13, n14, n15, n16, n17, n18, n19, n20⟩, n21, dl⟩, sn0⟩ := x
  obtain ⟨n23, sn1⟩ : ∃ q, sn0.1.1 = q := ⟨_, rfl⟩
  have HLa := Lib.hid h
  have HOk := Lib.hid ho
  obtain ⟨Bw, vn, vd, vw, vh, h⟩ := h
  simp only at hrd hok hdl hp hkd hf
  obtain ⟨M, hM⟩ : ∃ M, dl.length = M := ⟨_, rfl⟩
  subst hkd
  have HMl := Lib.hid hM
  have HRD := Lib.hid hrd
  have HOKD := Lib.hid hok
  simp only [msE, inE, snV, hM, sn1, List.cons_append, List.nil_append] at hrd HMg0 ⊢
  obtain ⟨an, cn, en, rn⟩ := h.irow ho
  obtain ⟨nn, hnn⟩ : ∃ nn, L.ns.length = nn := ⟨_, rfl⟩
  rw [hnn] at en
  subst en
  obtain ⟨X, hX⟩ : ∃ X, w.alloc (.cells #[.int .i64 3, .int .i64 n1, .int .i64 n2, .int .i64 n3, .int .i64 n4, .int .i64 n5, .int .i64 n6, .int .i64 n7, .int .i64 n8, .int .i64 n9, .int .i64 n10, .int .i64 n11, .int .i64 n12, .int .i64 n13, .int .i64 n14, .int .i64 n15, .string n16, .string n17, .int .i64 n18, .int .i64 n19, .int .i64 n20, .int .i64 n21, .slice ua M uc, .int .i64 n23, .slice a1 d1 c1, .slice a2 d2 c2, .slice a3 d3 c3] 44) = X := ⟨_, rfl⟩
  have hB : Below w.heap.size w X := by rw [← hX]; exact (Below.refl _ _).alloc (Nat.le_refl _) _
  have bm : Bk X w.heap.size 44 [.int .i64 3, .int .i64 n1, .int .i64 n2, .int .i64 n3, .int .i64 n4, .int .i64 n5, .int .i64 n6, .int .i64 n7, .int .i64 n8, .int .i64 n9, .int .i64 n10, .int .i64 n11, .int .i64 n12, .int .i64 n13, .int .i64 n14, .int .i64 n15, .string n16, .string n17, .int .i64 n18, .int .i64 n19, .int .i64 n20, .int .i64 n21, .slice ua M uc, .int .i64 n23, .slice a1 d1 c1, .slice a2 d2 c2, .slice a3 d3 c3] := by rw [← hX]; exact Bk.new w _ _
  have HBX := Lib.hid hB
  have HV0 := Lib.hid (h.below hB)
  have HL0 := Lib.hid (HLa.out.below hB)
  have HM := Lib.hid bm
  have hgX := HV0.out.bk.lt
  have hNX := bm.lt
  have c11 := HV0.out.cell 11
  simp only [ldE, List.getElem?_cons_zero, List.getElem?_cons_succ] at c11
  have HLo : Hid (B ≤ w.heap.size) := Lib.hid (Nat.le_trans h.lo (Nat.le_of_lt h.bk.lt))
  have HC : Hid (∀ w' : World, Below X.heap.size X w' → w'.cell? ⟨g, 3, none⟩ = some (.int .i64 L.id.1) ∧ w'.cell? ⟨g, 4, none⟩ = some (.int .i64 L.id.2.1) ∧ w'.cell? ⟨g, 5, none⟩ = some (.int .i64 L.id.2.2) ∧ w'.cell? ⟨g, 0, none⟩ = some (.int .i64 L.ep) ∧ w'.cell? ⟨g, 1, none⟩ = some (.slice an nn cn) ∧ w'.cell? ⟨w.heap.size, 1, none⟩ = some (.int .i64 n1) ∧ w'.cell? ⟨w.heap.size, 3, none⟩ = some (.int .i64 n3) ∧ w'.cell? ⟨w.heap.size, 4, none⟩ = some (.int .i64 n4) ∧ w'.cell? ⟨w.heap.size, 5, none⟩ = some (.int .i64 n5) ∧ Below X.heap.size X w') := Lib.hid fun w' hb => by
    have q := HV0.out.below hb
    have q2 := HM.out.below hb
    exact ⟨q.cell 3, q.cell 4, q.cell 5, q.cell 0, q.cell 1, q2.cell 1, q2.cell 3, q2.cell 4, q2.cell 5, hb⟩
  have HOV : Hid (∀ W : World, Below X.heap.size X W → Calls Try.prog 29 #[gP g] W fun e w' => e = .returned (.bool (overL L)) ∧ W = w') := Lib.hid fun W hb => lover_any (HL0.out.below hb)
  have HHS : Hid (∀ W : World, Below X.heap.size X W → Calls Try.prog 31 #[.agg #[.int .i64 L.ep, .slice an nn cn], .int .i64 n1] W fun e w' => e = .returned (.bool (inB n1 L.ns)) ∧ Below W.heap.size W w') := Lib.hid fun W hb => by
    have := Cc.has_any L.ep n1 an cn L.ns W ((rn.below hB).below hb)
    rw [hnn] at this
    exact this
  obtain ⟨he, hgd⟩ := neI_run n3 n4 n5 L.id.1 L.id.2.1 L.id.2.2
  clear hB bm h ho hrd hok hM rn hnn HLa
  unfold passL at hp
  simp only [Bool.and_eq_true, Bool.not_eq_true', decide_eq_true_eq] at hp
  obtain ⟨q1, q2, q3⟩ := hp
  have q2 : decide (((n3, n4, n5) : I3) = (L.id.1, L.id.2.1, L.id.2.2)) = true := decide_eq_true q2
  rw [q1] at HOV
  rw [q2] at he
  rw [q3] at HHS
  have HFT := Lib.hid hf
  clear hf
  have HFR : Hid (n1 ∈ L.ns) := Lib.hid (by unfold inB at q3; exact of_decide_eq_true q3)
  have HW0 := Lib.hid hW0
  have HBW := Lib.hid hbw
  have HDL0 := Lib.hid hdl
  clear q1 q2 q3 hW0 hbw hdl
  go_enter Try.func13, Try.ntmps13
  go_wp2_with fail
  try rw [hX]
  clear hX
  refine wp_region_held_drew (S := (fun w' => w'.cell? ⟨g, 3, none⟩ = some (.int .i64 L.id.1) ∧ w'.cell? ⟨g, 4, none⟩ = some (.int .i64 L.id.2.1) ∧ w'.cell? ⟨g, 5, none⟩ = some (.int .i64 L.id.2.2) ∧ w'.cell? ⟨g, 0, none⟩ = some (.int .i64 L.ep) ∧ w'.cell? ⟨g, 1, none⟩ = some (.slice an nn cn) ∧ w'.cell? ⟨w.heap.size, 1, none⟩ = some (.int .i64 n1) ∧ w'.cell? ⟨w.heap.size, 3, none⟩ = some (.int .i64 n3) ∧ w'.cell? ⟨w.heap.size, 4, none⟩ = some (.int .i64 n4) ∧ w'.cell? ⟨w.heap.size, 5, none⟩ = some (.int .i64 n5) ∧ Below X.heap.size X w')) (by kernel_rfl) ?_ (fun hHeld => ?_)
  · ((first
  | exact HC.out _ (Below.refl _ _)
  | exact HC.out _ (Below.refl _ _).drew
  | exact HC.out _ hw3
  | (go_split_ands; exact HC.out _ (by assumption))
  | fail))
  refine wpAnyH_take (i := 0) (v := ?_) rfl (by kernel_rfl) (by kernel_rfl) (by kernel_rfl) (fun _ _ _ h => h) (Or.inl ⟨by rfl, ?_⟩) (by assumption) ?_
  rotate_left
  · (intro w hSw; (try dsimp only at hSw); go_simp; try rfl)
  try simp only [Act.put, List.setIfInBounds_toArray, List.set_cons_zero, List.set_cons_succ, List.getElem_toArray, List.getElem_cons_zero, List.getElem_cons_succ]
  refine wpAnyH_ready (rs := [1]) (by kernel_rfl) (by simp) ?_
  refine (AllReadyH.cons rfl (fun K hK => ?_) AllReadyH.nil)
  go_simp
  (go_at_call 29; go_split_ands; refine (HOV.out _ (by assumption)).mono ?_; rintro e w2 ⟨rfl, rfl⟩)
  refine hK.out _ _ ?_ (fun hHeld => ?_)
  · ((first
  | exact HC.out _ (Below.refl _ _)
  | exact HC.out _ (Below.refl _ _).drew
  | exact HC.out _ hw3
  | (go_split_ands; exact HC.out _ (by assumption))
  | fail))
  clear hK K
  try simp only [Act.put, List.setIfInBounds_toArray, List.set_cons_zero, List.set_cons_succ, List.getElem_toArray, List.getElem_cons_zero, List.getElem_cons_succ]
  refine wpAnyH_take (i := 2) (v := ?_) rfl (by kernel_rfl) (by kernel_rfl) (by kernel_rfl) (fun _ _ _ h => h) (Or.inl ⟨by rfl, ?_⟩) (by assumption) ?_
  rotate_left
  · (intro w hSw; (try dsimp only at hSw); go_simp; try rfl)
  try simp only [Act.put, List.setIfInBounds_toArray, List.set_cons_zero, List.set_cons_succ, List.getElem_toArray, List.getElem_cons_zero, List.getElem_cons_succ]
  refine wpAnyH_take (i := 3) (v := ?_) rfl (by kernel_rfl) (by kernel_rfl) (by kernel_rfl) (fun _ _ _ h => h) (Or.inl ⟨by rfl, ?_⟩) (by assumption) ?_
  rotate_left
  · (intro w hSw; (try dsimp only at hSw); go_simp; try rfl)
  try simp only [Act.put, List.setIfInBounds_toArray, List.set_cons_zero, List.set_cons_succ, List.getElem_toArray, List.getElem_cons_zero, List.getElem_cons_succ]
  refine wpAnyH_take (i := 4) (v := ?_) rfl (by kernel_rfl) (by kernel_rfl) (by kernel_rfl) (fun _ _ _ h => h) (Or.inl ⟨by rfl, ?_⟩) (by assumption) ?_
  rotate_left
  · (intro w hSw; (try dsimp only at hSw); go_simp; try rfl)
  try simp only [Act.put, List.setIfInBounds_toArray, List.set_cons_zero, List.set_cons_succ, List.getElem_toArray, List.getElem_cons_zero, List.getElem_cons_succ]
  refine wpAnyH_take (i := 5) (v := ?_) rfl (by kernel_rfl) (by kernel_rfl) (by kernel_rfl) (fun _ _ _ h => h) (Or.inl ⟨by rfl, ?_⟩) (by assumption) ?_
  rotate_left
  · (intro w hSw; (try dsimp only at hSw); go_simp; try rfl)
  try simp only [Act.put, List.setIfInBounds_toArray, List.set_cons_zero, List.set_cons_succ, List.getElem_toArray, List.getElem_cons_zero, List.getElem_cons_succ]
  refine wpAnyH_take (i := 6) (v := ?_) rfl (by kernel_rfl) (by kernel_rfl) (by kernel_rfl) (fun _ _ _ h => h) (Or.inl ⟨by rfl, ?_⟩) (by assumption) ?_
  rotate_left
  · (intro w hSw; (try dsimp only at hSw); go_simp; try rfl)
  try simp only [Act.put, List.setIfInBounds_toArray, List.set_cons_zero, List.set_cons_succ, List.getElem_toArray, List.getElem_cons_zero, List.getElem_cons_succ]
  refine wpAnyH_take (i := 7) (v := ?_) rfl (by kernel_rfl) (by kernel_rfl) (by kernel_rfl) (fun _ _ _ h => h) (Or.inl ⟨by rfl, ?_⟩) (by assumption) ?_
  rotate_left
  · (intro w hSw; (try dsimp only at hSw); go_simp; try rfl)
  try simp only [Act.put, List.setIfInBounds_toArray, List.set_cons_zero, List.set_cons_succ, List.getElem_toArray, List.getElem_cons_zero, List.getElem_cons_succ]
  refine wpAnyH_take (i := 8) (v := ?_) rfl (by kernel_rfl) (by kernel_rfl) (by kernel_rfl) (fun _ _ _ h => h) (Or.inl ⟨by rfl, ?_⟩) (by assumption) ?_
  rotate_left
  · (intro w hSw; (try dsimp only at hSw); go_simp; try rfl)
  try simp only [Act.put, List.setIfInBounds_toArray, List.set_cons_zero, List.set_cons_succ, List.getElem_toArray, List.getElem_cons_zero, List.getElem_cons_succ]
  refine wpAnyH_take (i := 9) (v := ?_) rfl (by kernel_rfl) (by kernel_rfl) (by kernel_rfl) (fun _ _ _ h => h) (Or.inl ⟨by rfl, ?_⟩) (by assumption) ?_
  rotate_left
  · (intro w hSw; (try dsimp only at hSw); go_simp; try rfl)
  try simp only [Act.put, List.setIfInBounds_toArray, List.set_cons_zero, List.set_cons_succ, List.getElem_toArray, List.getElem_cons_zero, List.getElem_cons_succ]
  refine wpAnyH_take (i := 10) (v := ?_) rfl (by kernel_rfl) (by kernel_rfl) (by kernel_rfl) (fun _ _ _ h => h) (Or.inl ⟨by rfl, ?_⟩) (by assumption) ?_
  rotate_left
  · (intro w hSw; (try dsimp only at hSw); go_simp; try rfl)
  try simp only [Act.put, List.setIfInBounds_toArray, List.set_cons_zero, List.set_cons_succ, List.getElem_toArray, List.getElem_cons_zero, List.getElem_cons_succ]
  refine wpAnyH_take (i := 11) (v := ?_) rfl (by kernel_rfl) (by kernel_rfl) (by kernel_rfl) (fun _ _ _ h => h) (Or.inl ⟨by rfl, ?_⟩) (by assumption) ?_
  rotate_left
  · (intro w hSw; (try dsimp only at hSw); go_simp; try rfl)
  try simp only [Act.put, List.setIfInBounds_toArray, List.set_cons_zero, List.set_cons_succ, List.getElem_toArray, List.getElem_cons_zero, List.getElem_cons_succ]
  refine wpAnyH_take (i := 12) (v := ?_) rfl (by kernel_rfl) (by kernel_rfl) (by kernel_rfl) (fun _ _ _ h => h) (Or.inl ⟨by rfl, ?_⟩) (by assumption) ?_
  rotate_left
  · (intro w hSw; (try dsimp only at hSw); go_simp; try rfl)
  try simp only [Act.put, List.setIfInBounds_toArray, List.set_cons_zero, List.set_cons_succ, List.getElem_toArray, List.getElem_cons_zero, List.getElem_cons_succ]
  refine wpAnyH_take (i := 13) (v := ?_) rfl (by kernel_rfl) (by kernel_rfl) (by kernel_rfl) (fun _ _ _ h => h) (Or.inl ⟨by rfl, ?_⟩) (by assumption) ?_
  rotate_left
  · (intro w hSw; (try dsimp only at hSw); go_simp; try rfl)
  try simp only [Act.put, List.setIfInBounds_toArray, List.set_cons_zero, List.set_cons_succ, List.getElem_toArray, List.getElem_cons_zero, List.getElem_cons_succ]
  refine wpAnyH_take (i := 14) (v := ?_) rfl (by kernel_rfl) (by kernel_rfl) (by kernel_rfl) (fun _ _ _ h => h) (Or.inl ⟨by rfl, ?_⟩) (by assumption) ?_
  rotate_left
  · (intro w hSw; (try dsimp only at hSw); go_simp; try rfl)
  try simp only [Act.put, List.setIfInBounds_toArray, List.set_cons_zero, List.set_cons_succ, List.getElem_toArray, List.getElem_cons_zero, List.getElem_cons_succ]
  refine wpAnyH_take (i := 15) (v := ?_) rfl (by kernel_rfl) (by kernel_rfl) (by kernel_rfl) (fun _ _ _ h => h) (Or.inl ⟨by rfl, ?_⟩) (by assumption) ?_
  rotate_left
  · (intro w hSw; (try dsimp only at hSw); go_simp; try rfl)
  try simp only [Act.put, List.setIfInBounds_toArray, List.set_cons_zero, List.set_cons_succ, List.getElem_toArray, List.getElem_cons_zero, List.getElem_cons_succ]
  refine wpAnyH_take (i := 16) (v := ?_) rfl (by kernel_rfl) (by kernel_rfl) (by kernel_rfl) (fun _ _ _ h => h) (Or.inl ⟨by rfl, ?_⟩) (by assumption) ?_
  rotate_left
  · (intro w hSw; (try dsimp only at hSw); go_simp; try rfl)
  try simp only [Act.put, List.setIfInBounds_toArray, List.set_cons_zero, List.set_cons_succ, List.getElem_toArray, List.getElem_cons_zero, List.getElem_cons_succ]
  refine wpAnyH_take (i := 17) (v := ?_) rfl (by kernel_rfl) (by kernel_rfl) (by kernel_rfl) (fun _ _ _ h => h) (Or.inl ⟨by rfl, ?_⟩) (by assumption) ?_
  rotate_left
  · (intro w hSw; (try dsimp only at hSw); go_simp; try rfl)
  try simp only [Act.put, List.setIfInBounds_toArray, List.set_cons_zero, List.set_cons_succ, List.getElem_toArray, List.getElem_cons_zero, List.getElem_cons_succ]
  refine wpAnyH_ready (rs := [18]) (by kernel_rfl) (by simp) ?_
  refine (AllReadyH.cons rfl (fun K hK => ?_) AllReadyH.nil)
  go_simp
  (go_at_call 31; go_split_ands; refine (HHS.out _ (by assumption)).mono ?_; rintro e w3 ⟨rfl, hb3⟩; have hw3 : Below X.heap.size X w3 := below_self (by assumption) hb3)
  refine hK.out _ _ ?_ (fun hHeld => ?_)
  · ((first
  | exact HC.out _ (Below.refl _ _)
  | exact HC.out _ (Below.refl _ _).drew
  | exact HC.out _ hw3
  | (go_split_ands; exact HC.out _ (by assumption))
  | fail))
  clear hK K
  try simp only [Act.put, List.setIfInBounds_toArray, List.set_cons_zero, List.set_cons_succ, List.getElem_toArray, List.getElem_cons_zero, List.getElem_cons_succ]
  refine wpAnyH_take (i := 19) (v := ?_) rfl (by kernel_rfl) (by kernel_rfl) (by kernel_rfl) (fun _ _ _ h => h) (Or.inl ⟨by rfl, ?_⟩) (by assumption) ?_
  rotate_left
  · (intro w hSw; (try dsimp only at hSw); go_simp; try rfl)
  try simp only [Act.put, List.setIfInBounds_toArray, List.set_cons_zero, List.set_cons_succ, List.getElem_toArray, List.getElem_cons_zero, List.getElem_cons_succ]
  refine wpAnyH_take (i := 20) (v := ?_) rfl (by kernel_rfl) (by kernel_rfl) (by kernel_rfl) (fun _ _ _ h => h) (Or.inl ⟨by rfl, ?_⟩) (by assumption) ?_
  rotate_left
  · (intro w hSw; (try dsimp only at hSw); go_simp; try rfl)
  try simp only [Act.put, List.setIfInBounds_toArray, List.set_cons_zero, List.set_cons_succ, List.getElem_toArray, List.getElem_cons_zero, List.getElem_cons_succ]
  refine wpAnyH_done (by kernel_rfl) ?_ _
  have HL3 := Lib.hid (HL0.out.below hw3)
  have HB3 : Hid (Below B w w3) := Lib.hid ((HBX.out.trans (hw3.mono HBX.out.size)).mono HLo.out)
  have HK3 : Hid (Kt w w3) := Lib.hid (Kt.below (HBX.out.trans (hw3.mono HBX.out.size)))
  have HM3 : Hid (Bk w3 w.heap.size 44 [.int .i64 3, .int .i64 n1, .int .i64 n2, .int .i64 n3, .int .i64 n4, .int .i64 n5, .int .i64 n6, .int .i64 n7, .int .i64 n8, .int .i64 n9, .int .i64 n10, .int .i64 n11, .int .i64 n12, .int .i64 n13, .int .i64 n14, .int .i64 n15, .string n16, .string n17, .int .i64 n18, .int .i64 n19, .int .i64 n20, .int .i64 n21, .slice ua M uc, .int .i64 n23, .slice a1 d1 c1, .slice a2 d2 c2, .slice a3 d3 c3]) := Lib.hid (HM.out.below hw3)
  have HV3 := Lib.hid (HV0.out.below hw3)
  have m0 := HM3.out.cell 0
  simp only [List.getElem?_cons_zero] at m0
  have hN3 := HM3.out.lt
  have hg3 := HV3.out.bk.lt
  clear HC HOV HHS hw3 hb3 HL0 HBX HM HV0 hgX hNX c11 he hgd
  have HRW := Lib.hid (HBW.out.trans (HB3.out.mono HW0.out))
  have HMI3 : Hid ((Try.prog.info? 44).map (·.size) = some 27) := Lib.hid (by kernel_rfl)
  have HL3x : Hid (B ≤ w3.heap.size) := Lib.hid (Nat.le_trans HL3.out.lt.2 (Nat.le_of_lt HL3.out.lt.1))
  have HNO := Lib.hid (hears_no HL3.out HOk.out (MgV.below HMg0.out HRW.out) HDL0.out 1 HFT.out)
  go_wp2_with (first | refine wpList_load_rowG rfl _ _ rfl w.heap.size rfl 44 _ (0, 0) _ HM3.out Try.underlying44 rfl HMI3.out ?_ | fail)
  refine HNO.out.mono ?_
  rintro e w4 ⟨rfl, hb4⟩
  have HL6 := Lib.hid (HL3.out.below hb4)
  have HB6 := Lib.hid (HB3.out.trans (hb4.mono HL3x.out))
  have HK6 := Lib.hid (HK3.out.trans (Kt.below hb4))
  clear hb4 HV3 HM3 m0 HNO
  obtain ⟨Bw9, vn9, vd9, vw9, vh9, hV9⟩ := HL6.out
  have k11 := hV9.cell 11
  simp only [ldE, List.getElem?_cons_zero, List.getElem?_cons_succ] at k11
  have hg9 := hV9.bk.lt
  clear hV9
  go_wp2
  go_ret
  exact ⟨Lib.hid (by simp), HL6.out, HB6.out, HK6.out⟩
set_option maxHeartbeats 16000000 in
theorem hear_accY {W0 w : World} {B g : Nat} {L : LSt} {x : Mg} {v : Value} (h : LdAt w B g L) (ho : LOk L) (hm : MgV W0 v x) (hW0 : W0.heap.size ≤ B) (hbw : Below W0.heap.size W0 w) (hdl : x.ins.at'.2.length ≤ 60) (hp : passL L x = true) (hkd : x.kind = 3) (hf : fitL L x 1 = true) (hq : enoL (addL L x) = true) :
    Calls Try.prog 13 #[gP g, v] w (HeP (entL (addL L x) 3 L.cm L.at') L B g w) := by
  have HMg0 := Lib.hid hm
  obtain ⟨ua, uc, a1, d1, c1, a2, d2, c2, a3, d3, c3, rfl, hrd, hok⟩ := hm
  obtain ⟨n0, n1, n2, ⟨n3, n4, n5⟩, ⟨n6, n7⟩, ⟨n8, ⟨n9, n10⟩, ⟨n11, n12⟩, ⟨n13, n14, n15, n16, n17, n18, n19, n20⟩, n21, dl⟩, sn0⟩ := x
  obtain ⟨n23, sn1⟩ : ∃ q, sn0.1.1 = q := ⟨_, rfl⟩
  have HLa := Lib.hid h
  have HOk := Lib.hid ho
  obtain ⟨Bw, vn, vd, vw, vh, h⟩ := h
  simp only at hrd hok hdl hp hkd hf hq
  obtain ⟨M, hM⟩ : ∃ M, dl.length = M := ⟨_, rfl⟩
  subst hkd
  have HMl := Lib.hid hM
  have HRD := Lib.hid hrd
  have HOKD := Lib.hid hok
  simp only [msE, inE, snV, hM, sn1, List.cons_append, List.nil_append] at hrd HMg0 ⊢
  obtain ⟨an, cn, en, rn⟩ := h.irow ho
  obtain ⟨nn, hnn⟩ : ∃ nn, L.ns.length = nn := ⟨_, rfl⟩
  rw [hnn] at en
  subst en
  obtain ⟨X, hX⟩ : ∃ X, w.alloc (.cells #[.int .i64 3, .int .i64 n1, .int .i64 n2, .int .i64 n3, .int .i64 n4, .int .i64 n5, .int .i64 n6, .int .i64 n7, .int .i64 n8, .int .i64 n9, .int .i64 n10, .int .i64 n11, .int .i64 n12, .int .i64 n13, .int .i64 n14, .int .i64 n15, .string n16, .string n17, .int .i64 n18, .int .i64 n19, .int .i64 n20, .int .i64 n21, .slice ua M uc, .int .i64 n23, .slice a1 d1 c1, .slice a2 d2 c2, .slice a3 d3 c3] 44) = X := ⟨_, rfl⟩
  have hB : Below w.heap.size w X := by rw [← hX]; exact (Below.refl _ _).alloc (Nat.le_refl _) _
  have bm : Bk X w.heap.size 44 [.int .i64 3, .int .i64 n1, .int .i64 n2, .int .i64 n3, .int .i64 n4, .int .i64 n5, .int .i64 n6, .int .i64 n7, .int .i64 n8, .int .i64 n9, .int .i64 n10, .int .i64 n11, .int .i64 n12, .int .i64 n13, .int .i64 n14, .int .i64 n15, .string n16, .string n17, .int .i64 n18, .int .i64 n19, .int .i64 n20, .int .i64 n21, .slice ua M uc, .int .i64 n23, .slice a1 d1 c1, .slice a2 d2 c2, .slice a3 d3 c3] := by rw [← hX]; exact Bk.new w _ _
  have HBX := Lib.hid hB
  have HV0 := Lib.hid (h.below hB)
  have HL0 := Lib.hid (HLa.out.below hB)
  have HM := Lib.hid bm
  have hgX := HV0.out.bk.lt
  have hNX := bm.lt
  have c11 := HV0.out.cell 11
  simp only [ldE, List.getElem?_cons_zero, List.getElem?_cons_succ] at c11
  have HLo : Hid (B ≤ w.heap.size) := Lib.hid (Nat.le_trans h.lo (Nat.le_of_lt h.bk.lt))
  have HC : Hid (∀ w' : World, Below X.heap.size X w' → w'.cell? ⟨g, 3, none⟩ = some (.int .i64 L.id.1) ∧ w'.cell? ⟨g, 4, none⟩ = some (.int .i64 L.id.2.1) ∧ w'.cell? ⟨g, 5, none⟩ = some (.int .i64 L.id.2.2) ∧ w'.cell? ⟨g, 0, none⟩ = some (.int .i64 L.ep) ∧ w'.cell? ⟨g, 1, none⟩ = some (.slice an nn cn) ∧ w'.cell? ⟨w.heap.size, 1, none⟩ = some (.int .i64 n1) ∧ w'.cell? ⟨w.heap.size, 3, none⟩ = some (.int .i64 n3) ∧ w'.cell? ⟨w.heap.size, 4, none⟩ = some (.int .i64 n4) ∧ w'.cell? ⟨w.heap.size, 5, none⟩ = some (.int .i64 n5) ∧ Below X.heap.size X w') := Lib.hid fun w' hb => by
    have q := HV0.out.below hb
    have q2 := HM.out.below hb
    exact ⟨q.cell 3, q.cell 4, q.cell 5, q.cell 0, q.cell 1, q2.cell 1, q2.cell 3, q2.cell 4, q2.cell 5, hb⟩
  have HOV : Hid (∀ W : World, Below X.heap.size X W → Calls Try.prog 29 #[gP g] W fun e w' => e = .returned (.bool (overL L)) ∧ W = w') := Lib.hid fun W hb => lover_any (HL0.out.below hb)
  have HHS : Hid (∀ W : World, Below X.heap.size X W → Calls Try.prog 31 #[.agg #[.int .i64 L.ep, .slice an nn cn], .int .i64 n1] W fun e w' => e = .returned (.bool (inB n1 L.ns)) ∧ Below W.heap.size W w') := Lib.hid fun W hb => by
    have := Cc.has_any L.ep n1 an cn L.ns W ((rn.below hB).below hb)
    rw [hnn] at this
    exact this
  obtain ⟨he, hgd⟩ := neI_run n3 n4 n5 L.id.1 L.id.2.1 L.id.2.2
  clear hB bm h ho hrd hok hM rn hnn HLa
  unfold passL at hp
  simp only [Bool.and_eq_true, Bool.not_eq_true', decide_eq_true_eq] at hp
  obtain ⟨q1, q2, q3⟩ := hp
  have q2 : decide (((n3, n4, n5) : I3) = (L.id.1, L.id.2.1, L.id.2.2)) = true := decide_eq_true q2
  rw [q1] at HOV
  rw [q2] at he
  rw [q3] at HHS
  have HFT := Lib.hid hf
  have HQ0 := Lib.hid hq
  clear hf hq
  have HFR : Hid (n1 ∈ L.ns) := Lib.hid (by unfold inB at q3; exact of_decide_eq_true q3)
  have HW0 := Lib.hid hW0
  have HBW := Lib.hid hbw
  have HDL0 := Lib.hid hdl
  clear q1 q2 q3 hW0 hbw hdl
  go_enter Try.func13, Try.ntmps13
  go_wp2_with fail
  try rw [hX]
  clear hX
  refine wp_region_held_drew (S := (fun w' => w'.cell? ⟨g, 3, none⟩ = some (.int .i64 L.id.1) ∧ w'.cell? ⟨g, 4, none⟩ = some (.int .i64 L.id.2.1) ∧ w'.cell? ⟨g, 5, none⟩ = some (.int .i64 L.id.2.2) ∧ w'.cell? ⟨g, 0, none⟩ = some (.int .i64 L.ep) ∧ w'.cell? ⟨g, 1, none⟩ = some (.slice an nn cn) ∧ w'.cell? ⟨w.heap.size, 1, none⟩ = some (.int .i64 n1) ∧ w'.cell? ⟨w.heap.size, 3, none⟩ = some (.int .i64 n3) ∧ w'.cell? ⟨w.heap.size, 4, none⟩ = some (.int .i64 n4) ∧ w'.cell? ⟨w.heap.size, 5, none⟩ = some (.int .i64 n5) ∧ Below X.heap.size X w')) (by kernel_rfl) ?_ (fun hHeld => ?_)
  · ((first
  | exact HC.out _ (Below.refl _ _)
  | exact HC.out _ (Below.refl _ _).drew
  | exact HC.out _ hw3
  | (go_split_ands; exact HC.out _ (by assumption))
  | fail))
  refine wpAnyH_take (i := 0) (v := ?_) rfl (by kernel_rfl) (by kernel_rfl) (by kernel_rfl) (fun _ _ _ h => h) (Or.inl ⟨by rfl, ?_⟩) (by assumption) ?_
  rotate_left
  · (intro w hSw; (try dsimp only at hSw); go_simp; try rfl)
  try simp only [Act.put, List.setIfInBounds_toArray, List.set_cons_zero, List.set_cons_succ, List.getElem_toArray, List.getElem_cons_zero, List.getElem_cons_succ]
  refine wpAnyH_ready (rs := [1]) (by kernel_rfl) (by simp) ?_
  refine (AllReadyH.cons rfl (fun K hK => ?_) AllReadyH.nil)
  go_simp
  (go_at_call 29; go_split_ands; refine (HOV.out _ (by assumption)).mono ?_; rintro e w2 ⟨rfl, rfl⟩)
  refine hK.out _ _ ?_ (fun hHeld => ?_)
  · ((first
  | exact HC.out _ (Below.refl _ _)
  | exact HC.out _ (Below.refl _ _).drew
  | exact HC.out _ hw3
  | (go_split_ands; exact HC.out _ (by assumption))
  | fail))
  clear hK K
  try simp only [Act.put, List.setIfInBounds_toArray, List.set_cons_zero, List.set_cons_succ, List.getElem_toArray, List.getElem_cons_zero, List.getElem_cons_succ]
  refine wpAnyH_take (i := 2) (v := ?_) rfl (by kernel_rfl) (by kernel_rfl) (by kernel_rfl) (fun _ _ _ h => h) (Or.inl ⟨by rfl, ?_⟩) (by assumption) ?_
  rotate_left
  · (intro w hSw; (try dsimp only at hSw); go_simp; try rfl)
  try simp only [Act.put, List.setIfInBounds_toArray, List.set_cons_zero, List.set_cons_succ, List.getElem_toArray, List.getElem_cons_zero, List.getElem_cons_succ]
  refine wpAnyH_take (i := 3) (v := ?_) rfl (by kernel_rfl) (by kernel_rfl) (by kernel_rfl) (fun _ _ _ h => h) (Or.inl ⟨by rfl, ?_⟩) (by assumption) ?_
  rotate_left
  · (intro w hSw; (try dsimp only at hSw); go_simp; try rfl)
  try simp only [Act.put, List.setIfInBounds_toArray, List.set_cons_zero, List.set_cons_succ, List.getElem_toArray, List.getElem_cons_zero, List.getElem_cons_succ]
  refine wpAnyH_take (i := 4) (v := ?_) rfl (by kernel_rfl) (by kernel_rfl) (by kernel_rfl) (fun _ _ _ h => h) (Or.inl ⟨by rfl, ?_⟩) (by assumption) ?_
  rotate_left
  · (intro w hSw; (try dsimp only at hSw); go_simp; try rfl)
  try simp only [Act.put, List.setIfInBounds_toArray, List.set_cons_zero, List.set_cons_succ, List.getElem_toArray, List.getElem_cons_zero, List.getElem_cons_succ]
  refine wpAnyH_take (i := 5) (v := ?_) rfl (by kernel_rfl) (by kernel_rfl) (by kernel_rfl) (fun _ _ _ h => h) (Or.inl ⟨by rfl, ?_⟩) (by assumption) ?_
  rotate_left
  · (intro w hSw; (try dsimp only at hSw); go_simp; try rfl)
  try simp only [Act.put, List.setIfInBounds_toArray, List.set_cons_zero, List.set_cons_succ, List.getElem_toArray, List.getElem_cons_zero, List.getElem_cons_succ]
  refine wpAnyH_take (i := 6) (v := ?_) rfl (by kernel_rfl) (by kernel_rfl) (by kernel_rfl) (fun _ _ _ h => h) (Or.inl ⟨by rfl, ?_⟩) (by assumption) ?_
  rotate_left
  · (intro w hSw; (try dsimp only at hSw); go_simp; try rfl)
  try simp only [Act.put, List.setIfInBounds_toArray, List.set_cons_zero, List.set_cons_succ, List.getElem_toArray, List.getElem_cons_zero, List.getElem_cons_succ]
  refine wpAnyH_take (i := 7) (v := ?_) rfl (by kernel_rfl) (by kernel_rfl) (by kernel_rfl) (fun _ _ _ h => h) (Or.inl ⟨by rfl, ?_⟩) (by assumption) ?_
  rotate_left
  · (intro w hSw; (try dsimp only at hSw); go_simp; try rfl)
  try simp only [Act.put, List.setIfInBounds_toArray, List.set_cons_zero, List.set_cons_succ, List.getElem_toArray, List.getElem_cons_zero, List.getElem_cons_succ]
  refine wpAnyH_take (i := 8) (v := ?_) rfl (by kernel_rfl) (by kernel_rfl) (by kernel_rfl) (fun _ _ _ h => h) (Or.inl ⟨by rfl, ?_⟩) (by assumption) ?_
  rotate_left
  · (intro w hSw; (try dsimp only at hSw); go_simp; try rfl)
  try simp only [Act.put, List.setIfInBounds_toArray, List.set_cons_zero, List.set_cons_succ, List.getElem_toArray, List.getElem_cons_zero, List.getElem_cons_succ]
  refine wpAnyH_take (i := 9) (v := ?_) rfl (by kernel_rfl) (by kernel_rfl) (by kernel_rfl) (fun _ _ _ h => h) (Or.inl ⟨by rfl, ?_⟩) (by assumption) ?_
  rotate_left
  · (intro w hSw; (try dsimp only at hSw); go_simp; try rfl)
  try simp only [Act.put, List.setIfInBounds_toArray, List.set_cons_zero, List.set_cons_succ, List.getElem_toArray, List.getElem_cons_zero, List.getElem_cons_succ]
  refine wpAnyH_take (i := 10) (v := ?_) rfl (by kernel_rfl) (by kernel_rfl) (by kernel_rfl) (fun _ _ _ h => h) (Or.inl ⟨by rfl, ?_⟩) (by assumption) ?_
  rotate_left
  · (intro w hSw; (try dsimp only at hSw); go_simp; try rfl)
  try simp only [Act.put, List.setIfInBounds_toArray, List.set_cons_zero, List.set_cons_succ, List.getElem_toArray, List.getElem_cons_zero, List.getElem_cons_succ]
  refine wpAnyH_take (i := 11) (v := ?_) rfl (by kernel_rfl) (by kernel_rfl) (by kernel_rfl) (fun _ _ _ h => h) (Or.inl ⟨by rfl, ?_⟩) (by assumption) ?_
  rotate_left
  · (intro w hSw; (try dsimp only at hSw); go_simp; try rfl)
  try simp only [Act.put, List.setIfInBounds_toArray, List.set_cons_zero, List.set_cons_succ, List.getElem_toArray, List.getElem_cons_zero, List.getElem_cons_succ]
  refine wpAnyH_take (i := 12) (v := ?_) rfl (by kernel_rfl) (by kernel_rfl) (by kernel_rfl) (fun _ _ _ h => h) (Or.inl ⟨by rfl, ?_⟩) (by assumption) ?_
  rotate_left
  · (intro w hSw; (try dsimp only at hSw); go_simp; try rfl)
  try simp only [Act.put, List.setIfInBounds_toArray, List.set_cons_zero, List.set_cons_succ, List.getElem_toArray, List.getElem_cons_zero, List.getElem_cons_succ]
  refine wpAnyH_take (i := 13) (v := ?_) rfl (by kernel_rfl) (by kernel_rfl) (by kernel_rfl) (fun _ _ _ h => h) (Or.inl ⟨by rfl, ?_⟩) (by assumption) ?_
  rotate_left
  · (intro w hSw; (try dsimp only at hSw); go_simp; try rfl)
  try simp only [Act.put, List.setIfInBounds_toArray, List.set_cons_zero, List.set_cons_succ, List.getElem_toArray, List.getElem_cons_zero, List.getElem_cons_succ]
  refine wpAnyH_take (i := 14) (v := ?_) rfl (by kernel_rfl) (by kernel_rfl) (by kernel_rfl) (fun _ _ _ h => h) (Or.inl ⟨by rfl, ?_⟩) (by assumption) ?_
  rotate_left
  · (intro w hSw; (try dsimp only at hSw); go_simp; try rfl)
  try simp only [Act.put, List.setIfInBounds_toArray, List.set_cons_zero, List.set_cons_succ, List.getElem_toArray, List.getElem_cons_zero, List.getElem_cons_succ]
  refine wpAnyH_take (i := 15) (v := ?_) rfl (by kernel_rfl) (by kernel_rfl) (by kernel_rfl) (fun _ _ _ h => h) (Or.inl ⟨by rfl, ?_⟩) (by assumption) ?_
  rotate_left
  · (intro w hSw; (try dsimp only at hSw); go_simp; try rfl)
  try simp only [Act.put, List.setIfInBounds_toArray, List.set_cons_zero, List.set_cons_succ, List.getElem_toArray, List.getElem_cons_zero, List.getElem_cons_succ]
  refine wpAnyH_take (i := 16) (v := ?_) rfl (by kernel_rfl) (by kernel_rfl) (by kernel_rfl) (fun _ _ _ h => h) (Or.inl ⟨by rfl, ?_⟩) (by assumption) ?_
  rotate_left
  · (intro w hSw; (try dsimp only at hSw); go_simp; try rfl)
  try simp only [Act.put, List.setIfInBounds_toArray, List.set_cons_zero, List.set_cons_succ, List.getElem_toArray, List.getElem_cons_zero, List.getElem_cons_succ]
  refine wpAnyH_take (i := 17) (v := ?_) rfl (by kernel_rfl) (by kernel_rfl) (by kernel_rfl) (fun _ _ _ h => h) (Or.inl ⟨by rfl, ?_⟩) (by assumption) ?_
  rotate_left
  · (intro w hSw; (try dsimp only at hSw); go_simp; try rfl)
  try simp only [Act.put, List.setIfInBounds_toArray, List.set_cons_zero, List.set_cons_succ, List.getElem_toArray, List.getElem_cons_zero, List.getElem_cons_succ]
  refine wpAnyH_ready (rs := [18]) (by kernel_rfl) (by simp) ?_
  refine (AllReadyH.cons rfl (fun K hK => ?_) AllReadyH.nil)
  go_simp
  (go_at_call 31; go_split_ands; refine (HHS.out _ (by assumption)).mono ?_; rintro e w3 ⟨rfl, hb3⟩; have hw3 : Below X.heap.size X w3 := below_self (by assumption) hb3)
  refine hK.out _ _ ?_ (fun hHeld => ?_)
  · ((first
  | exact HC.out _ (Below.refl _ _)
  | exact HC.out _ (Below.refl _ _).drew
  | exact HC.out _ hw3
  | (go_split_ands; exact HC.out _ (by assumption))
  | fail))
  clear hK K
  try simp only [Act.put, List.setIfInBounds_toArray, List.set_cons_zero, List.set_cons_succ, List.getElem_toArray, List.getElem_cons_zero, List.getElem_cons_succ]
  refine wpAnyH_take (i := 19) (v := ?_) rfl (by kernel_rfl) (by kernel_rfl) (by kernel_rfl) (fun _ _ _ h => h) (Or.inl ⟨by rfl, ?_⟩) (by assumption) ?_
  rotate_left
  · (intro w hSw; (try dsimp only at hSw); go_simp; try rfl)
  try simp only [Act.put, List.setIfInBounds_toArray, List.set_cons_zero, List.set_cons_succ, List.getElem_toArray, List.getElem_cons_zero, List.getElem_cons_succ]
  refine wpAnyH_take (i := 20) (v := ?_) rfl (by kernel_rfl) (by kernel_rfl) (by kernel_rfl) (fun _ _ _ h => h) (Or.inl ⟨by rfl, ?_⟩) (by assumption) ?_
  rotate_left
  · (intro w hSw; (try dsimp only at hSw); go_simp; try rfl)
  try simp only [Act.put, List.setIfInBounds_toArray, List.set_cons_zero, List.set_cons_succ, List.getElem_toArray, List.getElem_cons_zero, List.getElem_cons_succ]
  refine wpAnyH_done (by kernel_rfl) ?_ _
  have HL3 := Lib.hid (HL0.out.below hw3)
  have HB3 : Hid (Below B w w3) := Lib.hid ((HBX.out.trans (hw3.mono HBX.out.size)).mono HLo.out)
  have HK3 : Hid (Kt w w3) := Lib.hid (Kt.below (HBX.out.trans (hw3.mono HBX.out.size)))
  have HM3 : Hid (Bk w3 w.heap.size 44 [.int .i64 3, .int .i64 n1, .int .i64 n2, .int .i64 n3, .int .i64 n4, .int .i64 n5, .int .i64 n6, .int .i64 n7, .int .i64 n8, .int .i64 n9, .int .i64 n10, .int .i64 n11, .int .i64 n12, .int .i64 n13, .int .i64 n14, .int .i64 n15, .string n16, .string n17, .int .i64 n18, .int .i64 n19, .int .i64 n20, .int .i64 n21, .slice ua M uc, .int .i64 n23, .slice a1 d1 c1, .slice a2 d2 c2, .slice a3 d3 c3]) := Lib.hid (HM.out.below hw3)
  have HV3 := Lib.hid (HV0.out.below hw3)
  have m0 := HM3.out.cell 0
  simp only [List.getElem?_cons_zero] at m0
  have hN3 := HM3.out.lt
  have hg3 := HV3.out.bk.lt
  clear HC HOV HHS hw3 hb3 HL0 HBX HM HV0 hgX hNX c11 he hgd
  have HRW := Lib.hid (HBW.out.trans (HB3.out.mono HW0.out))
  have HMI3 : Hid ((Try.prog.info? 44).map (·.size) = some 27) := Lib.hid (by kernel_rfl)
  have HL3x : Hid (B ≤ w3.heap.size) := Lib.hid (Nat.le_trans HL3.out.lt.2 (Nat.le_of_lt HL3.out.lt.1))
  have HYE := Lib.hid (hears_yes HL3.out HOk.out HMg0.out HW0.out HRW.out HDL0.out 1 HFT.out)
  have HO4 : Hid (LOk (addL L ⟨3, n1, n2, (n3, n4, n5), (n6, n7), ⟨n8, (n9, n10), (n11, n12), ⟨n13, n14, n15, n16, n17, n18, n19, n20⟩, n21, dl⟩, sn0⟩)) := Lib.hid (HOk.out.add HFT.out HFR.out HDL0.out)
  obtain ⟨L4, hL4e⟩ : ∃ L4, addL L ⟨3, n1, n2, (n3, n4, n5), (n6, n7), ⟨n8, (n9, n10), (n11, n12), ⟨n13, n14, n15, n16, n17, n18, n19, n20⟩, n21, dl⟩, sn0⟩ = L4 := ⟨_, rfl⟩
  rw [hL4e] at HYE HO4
  have HL4E := Lib.hid hL4e
  have HQ : Hid (enoL L4 = true) := Lib.hid (by rw [← hL4e]; exact HQ0.out)
  clear hL4e
  go_wp2_with (first | refine wpList_load_rowG rfl _ _ rfl w.heap.size rfl 44 _ (0, 0) _ HM3.out Try.underlying44 rfl HMI3.out ?_ | fail)
  refine HYE.out.mono ?_
  rintro e w4 ⟨he4, hL4, hb4, hk4⟩
  rw [he4.out]
  have HL4 := Lib.hid hL4
  have HB4 := Lib.hid (HB3.out.trans hb4)
  have HK4 := Lib.hid (HK3.out.trans hk4)
  clear he4 hL4 hb4 hk4 HV3 HM3 m0 HYE
  have HEN := Lib.hid (leno_any HL4.out HO4.out)
  rw [HQ.out] at HEN
  go_wp2_with fail
  refine HEN.out.mono ?_
  rintro e w5 ⟨rfl, hb5⟩
  have HB5 := Lib.hid hb5
  clear hb5
  have HLw := Lib.hid (HL4.out.below HB5.out)
  have HBw := Lib.hid (HB4.out.trans (HB5.out.mono (Nat.le_trans HL4.out.lt.2 (Nat.le_of_lt HL4.out.lt.1))))
  have HKw := Lib.hid (HK4.out.trans (Kt.below HB5.out))
  clear HEN HL4 HB4 HB5
  go_wp2_with fail
  obtain ⟨Bw5, vn5, vd5, vw5, vh5, hV5⟩ := HLw.out
  have HVw := Lib.hid hV5
  have HDL := Lib.hid (Nat.le_trans HO4.out.dl (show 3000 ≤ 100000 by omega))
  clear hV5
  have HVd := Lib.hid (HVw.out.below (Below.refl (w5).heap.size w5).drew)
  have HLd := Lib.hid (HLw.out.below (Below.refl (w5).heap.size w5).drew)
  have HBd := Lib.hid (Below.drewB HBw.out)
  have hgd2 := HVd.out.bk.lt
  have d12 := HVd.out.cell 12
  have d13 := HVd.out.cell 13
  have d14 := HVd.out.cell 14
  have d15 := HVd.out.cell 15
  have d16 := HVd.out.cell 16
  have d17 := HVd.out.cell 17
  have d18 := HVd.out.cell 18
  have d19 := HVd.out.cell 19
  have d20 := HVd.out.cell 20
  have d21 := HVd.out.cell 21
  simp only [ldE, List.getElem?_cons_zero, List.getElem?_cons_succ] at d12 d13 d14 d15 d16 d17 d18 d19 d20 d21
  have HKd := Lib.hid (HKw.out.trans (Kt.below (Below.refl (w5).heap.size w5).drew))
  clear HVw HLw HBw HKw
  refine wp_region_held_drew (S := (fun _ => True)) (by kernel_rfl) ?_ (fun hHeld => ?_)
  · (trivial)
  refine wpAnyH_take (i := 0) (v := ?_) rfl (by kernel_rfl) (by kernel_rfl) (by kernel_rfl) (fun _ _ _ h => h) (Or.inl ⟨by rfl, ?_⟩) (by assumption) ?_
  rotate_left
  · (intro w hSw; (try dsimp only at hSw); go_simp; try rfl)
  try simp only [Act.put, List.setIfInBounds_toArray, List.set_cons_zero, List.set_cons_succ, List.getElem_toArray, List.getElem_cons_zero, List.getElem_cons_succ]
  refine wpAnyH_take (i := 1) (v := ?_) rfl (by kernel_rfl) (by kernel_rfl) (by kernel_rfl) (fun _ _ _ h => h) (Or.inl ⟨by rfl, ?_⟩) (by assumption) ?_
  rotate_left
  · (intro w hSw; (try dsimp only at hSw); go_simp; try rfl)
  try simp only [Act.put, List.setIfInBounds_toArray, List.set_cons_zero, List.set_cons_succ, List.getElem_toArray, List.getElem_cons_zero, List.getElem_cons_succ]
  refine wpAnyH_take (i := 2) (v := ?_) rfl (by kernel_rfl) (by kernel_rfl) (by kernel_rfl) (fun _ _ _ h => h) (Or.inl ⟨by rfl, ?_⟩) (by assumption) ?_
  rotate_left
  · (intro w hSw; (try dsimp only at hSw); go_simp; try rfl)
  try simp only [Act.put, List.setIfInBounds_toArray, List.set_cons_zero, List.set_cons_succ, List.getElem_toArray, List.getElem_cons_zero, List.getElem_cons_succ]
  refine wpAnyH_take (i := 3) (v := ?_) rfl (by kernel_rfl) (by kernel_rfl) (by kernel_rfl) (fun _ _ _ h => h) (Or.inl ⟨by rfl, ?_⟩) (by assumption) ?_
  rotate_left
  · (intro w hSw; (try dsimp only at hSw); go_simp; try rfl)
  try simp only [Act.put, List.setIfInBounds_toArray, List.set_cons_zero, List.set_cons_succ, List.getElem_toArray, List.getElem_cons_zero, List.getElem_cons_succ]
  refine wpAnyH_take (i := 5) (v := ?_) rfl (by kernel_rfl) (by kernel_rfl) (by kernel_rfl) (fun _ _ _ h => h) (Or.inl ⟨by rfl, ?_⟩) (by assumption) ?_
  rotate_left
  · (intro w hSw; (try dsimp only at hSw); go_simp; try rfl)
  try simp only [Act.put, List.setIfInBounds_toArray, List.set_cons_zero, List.set_cons_succ, List.getElem_toArray, List.getElem_cons_zero, List.getElem_cons_succ]
  refine wpAnyH_take (i := 6) (v := ?_) rfl (by kernel_rfl) (by kernel_rfl) (by kernel_rfl) (fun _ _ _ h => h) (Or.inl ⟨by rfl, ?_⟩) (by assumption) ?_
  rotate_left
  · (intro w hSw; (try dsimp only at hSw); go_simp; try rfl)
  try simp only [Act.put, List.setIfInBounds_toArray, List.set_cons_zero, List.set_cons_succ, List.getElem_toArray, List.getElem_cons_zero, List.getElem_cons_succ]
  refine wpAnyH_take (i := 7) (v := ?_) rfl (by kernel_rfl) (by kernel_rfl) (by kernel_rfl) (fun _ _ _ h => h) (Or.inl ⟨by rfl, ?_⟩) (by assumption) ?_
  rotate_left
  · (intro w hSw; (try dsimp only at hSw); go_simp; try rfl)
  try simp only [Act.put, List.setIfInBounds_toArray, List.set_cons_zero, List.set_cons_succ, List.getElem_toArray, List.getElem_cons_zero, List.getElem_cons_succ]
  refine wpAnyH_ready (rs := [4, 8]) (by kernel_rfl) (by simp) ?_
  refine (AllReadyH.cons rfl (fun K hK => ?_) (AllReadyH.cons rfl (fun K hK => ?_) AllReadyH.nil))
  ·
    go_simp
    refine hK.out _ _ ?_ (fun hHeld => ?_)
    · (trivial)
    clear hK K
    try simp only [Act.put, List.setIfInBounds_toArray, List.set_cons_zero, List.set_cons_succ, List.getElem_toArray, List.getElem_cons_zero, List.getElem_cons_succ]
    refine wpAnyH_ready (rs := [8]) (by kernel_rfl) (by simp) ?_
    refine (AllReadyH.cons rfl (fun K hK => ?_) AllReadyH.nil)
    go_simp
    refine hK.out _ _ ?_ (fun hHeld => ?_)
    · (trivial)
    clear hK K
    try simp only [Act.put, List.setIfInBounds_toArray, List.set_cons_zero, List.set_cons_succ, List.getElem_toArray, List.getElem_cons_zero, List.getElem_cons_succ]
    refine wpAnyH_ready (rs := [9]) (by kernel_rfl) (by simp) ?_
    refine (AllReadyH.cons rfl (fun K hK => ?_) AllReadyH.nil)
    go_simp
    (go_at_call 32; refine (enter_any HLd.out 3 (L4).cm (L4).at'.1 _ (L4).at'.2 HVd.out.deps.rd HVd.out.ok HDL.out).mono ?_; rintro e w6 ⟨he, hL6, hb6, hs6⟩; have he := he.out; subst he)
    refine hK.out _ _ ?_ (fun hHeld => ?_)
    · (trivial)
    clear hK K
    try simp only [Act.put, List.setIfInBounds_toArray, List.set_cons_zero, List.set_cons_succ, List.getElem_toArray, List.getElem_cons_zero, List.getElem_cons_succ]
    refine wpAnyH_done (by kernel_rfl) ?_ _
    have HL6 := Lib.hid hL6
    have HB6 := Lib.hid (HBd.out.trans hb6)
    have HK6 := Lib.hid (HKd.out.trans (Kt.ent hs6 HLd.out))
    clear HVd HLd hL6 hb6 hs6
    obtain ⟨Bw9, vn9, vd9, vw9, vh9, hV9⟩ := HL6.out
    have k11 := hV9.cell 11
    simp only [ldE, entL, List.getElem?_cons_zero, List.getElem?_cons_succ] at k11
    have hg9 := hV9.bk.lt
    clear hV9
    go_wp2
    go_ret
    refine ⟨rfl, ?_, HB6.out, HK6.out⟩
    have q := HL6.out
    rw [← HL4E.out] at q
    exact q
  ·
    go_simp
    refine hK.out _ _ ?_ (fun hHeld => ?_)
    · (trivial)
    clear hK K
    try simp only [Act.put, List.setIfInBounds_toArray, List.set_cons_zero, List.set_cons_succ, List.getElem_toArray, List.getElem_cons_zero, List.getElem_cons_succ]
    refine wpAnyH_ready (rs := [4]) (by kernel_rfl) (by simp) ?_
    refine (AllReadyH.cons rfl (fun K hK => ?_) AllReadyH.nil)
    go_simp
    refine hK.out _ _ ?_ (fun hHeld => ?_)
    · (trivial)
    clear hK K
    try simp only [Act.put, List.setIfInBounds_toArray, List.set_cons_zero, List.set_cons_succ, List.getElem_toArray, List.getElem_cons_zero, List.getElem_cons_succ]
    refine wpAnyH_ready (rs := [9]) (by kernel_rfl) (by simp) ?_
    refine (AllReadyH.cons rfl (fun K hK => ?_) AllReadyH.nil)
    go_simp
    (go_at_call 32; refine (enter_any HLd.out 3 (L4).cm (L4).at'.1 _ (L4).at'.2 HVd.out.deps.rd HVd.out.ok HDL.out).mono ?_; rintro e w6 ⟨he, hL6, hb6, hs6⟩; have he := he.out; subst he)
    refine hK.out _ _ ?_ (fun hHeld => ?_)
    · (trivial)
    clear hK K
    try simp only [Act.put, List.setIfInBounds_toArray, List.set_cons_zero, List.set_cons_succ, List.getElem_toArray, List.getElem_cons_zero, List.getElem_cons_succ]
    refine wpAnyH_done (by kernel_rfl) ?_ _
    have HL6 := Lib.hid hL6
    have HB6 := Lib.hid (HBd.out.trans hb6)
    have HK6 := Lib.hid (HKd.out.trans (Kt.ent hs6 HLd.out))
    clear HVd HLd hL6 hb6 hs6
    obtain ⟨Bw9, vn9, vd9, vw9, vh9, hV9⟩ := HL6.out
    have k11 := hV9.cell 11
    simp only [ldE, entL, List.getElem?_cons_zero, List.getElem?_cons_succ] at k11
    have hg9 := hV9.bk.lt
    clear hV9
    go_wp2
    go_ret
    refine ⟨rfl, ?_, HB6.out, HK6.out⟩
    have q := HL6.out
    rw [← HL4E.out] at q
    exact q
set_option maxHeartbeats 16000000 in
theorem hear_accQ {W0 w : World} {B g : Nat} {L : LSt} {x : Mg} {v : Value} (h : LdAt w B g L) (ho : LOk L) (hm : MgV W0 v x) (hW0 : W0.heap.size ≤ B) (hbw : Below W0.heap.size W0 w) (hdl : x.ins.at'.2.length ≤ 60) (hp : passL L x = true) (hkd : x.kind = 3) (hf : fitL L x 1 = true) (hq : enoL (addL L x) = false) :
    Calls Try.prog 13 #[gP g, v] w (HeP (addL L x) L B g w) := by
  have HMg0 := Lib.hid hm
  obtain ⟨ua, uc, a1, d1, c1, a2, d2, c2, a3, d3, c3, rfl, hrd, hok⟩ := hm
  obtain ⟨n0, n1, n2, ⟨n3, n4, n5⟩, ⟨n6, n7⟩, ⟨n8, ⟨n9, n10⟩, ⟨n11, n12⟩, ⟨n13, n14, n15, n16, n17, n18, n19, n20⟩, n21, dl⟩, sn0⟩ := x
  obtain ⟨n23, sn1⟩ : ∃ q, sn0.1.1 = q := ⟨_, rfl⟩
  have HLa := Lib.hid h
  have HOk := Lib.hid ho
  obtain ⟨Bw, vn, vd, vw, vh, h⟩ := h
  simp only at hrd hok hdl hp hkd hf hq
  obtain ⟨M, hM⟩ : ∃ M, dl.length = M := ⟨_, rfl⟩
  subst hkd
  have HMl := Lib.hid hM
  have HRD := Lib.hid hrd
  have HOKD := Lib.hid hok
  simp only [msE, inE, snV, hM, sn1, List.cons_append, List.nil_append] at hrd HMg0 ⊢
  obtain ⟨an, cn, en, rn⟩ := h.irow ho
  obtain ⟨nn, hnn⟩ : ∃ nn, L.ns.length = nn := ⟨_, rfl⟩
  rw [hnn] at en
  subst en
  obtain ⟨X, hX⟩ : ∃ X, w.alloc (.cells #[.int .i64 3, .int .i64 n1, .int .i64 n2, .int .i64 n3, .int .i64 n4, .int .i64 n5, .int .i64 n6, .int .i64 n7, .int .i64 n8, .int .i64 n9, .int .i64 n10, .int .i64 n11, .int .i64 n12, .int .i64 n13, .int .i64 n14, .int .i64 n15, .string n16, .string n17, .int .i64 n18, .int .i64 n19, .int .i64 n20, .int .i64 n21, .slice ua M uc, .int .i64 n23, .slice a1 d1 c1, .slice a2 d2 c2, .slice a3 d3 c3] 44) = X := ⟨_, rfl⟩
  have hB : Below w.heap.size w X := by rw [← hX]; exact (Below.refl _ _).alloc (Nat.le_refl _) _
  have bm : Bk X w.heap.size 44 [.int .i64 3, .int .i64 n1, .int .i64 n2, .int .i64 n3, .int .i64 n4, .int .i64 n5, .int .i64 n6, .int .i64 n7, .int .i64 n8, .int .i64 n9, .int .i64 n10, .int .i64 n11, .int .i64 n12, .int .i64 n13, .int .i64 n14, .int .i64 n15, .string n16, .string n17, .int .i64 n18, .int .i64 n19, .int .i64 n20, .int .i64 n21, .slice ua M uc, .int .i64 n23, .slice a1 d1 c1, .slice a2 d2 c2, .slice a3 d3 c3] := by rw [← hX]; exact Bk.new w _ _
  have HBX := Lib.hid hB
  have HV0 := Lib.hid (h.below hB)
  have HL0 := Lib.hid (HLa.out.below hB)
  have HM := Lib.hid bm
  have hgX := HV0.out.bk.lt
  have hNX := bm.lt
  have c11 := HV0.out.cell 11
  simp only [ldE, List.getElem?_cons_zero, List.getElem?_cons_succ] at c11
  have HLo : Hid (B ≤ w.heap.size) := Lib.hid (Nat.le_trans h.lo (Nat.le_of_lt h.bk.lt))
  have HC : Hid (∀ w' : World, Below X.heap.size X w' → w'.cell? ⟨g, 3, none⟩ = some (.int .i64 L.id.1) ∧ w'.cell? ⟨g, 4, none⟩ = some (.int .i64 L.id.2.1) ∧ w'.cell? ⟨g, 5, none⟩ = some (.int .i64 L.id.2.2) ∧ w'.cell? ⟨g, 0, none⟩ = some (.int .i64 L.ep) ∧ w'.cell? ⟨g, 1, none⟩ = some (.slice an nn cn) ∧ w'.cell? ⟨w.heap.size, 1, none⟩ = some (.int .i64 n1) ∧ w'.cell? ⟨w.heap.size, 3, none⟩ = some (.int .i64 n3) ∧ w'.cell? ⟨w.heap.size, 4, none⟩ = some (.int .i64 n4) ∧ w'.cell? ⟨w.heap.size, 5, none⟩ = some (.int .i64 n5) ∧ Below X.heap.size X w') := Lib.hid fun w' hb => by
    have q := HV0.out.below hb
    have q2 := HM.out.below hb
    exact ⟨q.cell 3, q.cell 4, q.cell 5, q.cell 0, q.cell 1, q2.cell 1, q2.cell 3, q2.cell 4, q2.cell 5, hb⟩
  have HOV : Hid (∀ W : World, Below X.heap.size X W → Calls Try.prog 29 #[gP g] W fun e w' => e = .returned (.bool (overL L)) ∧ W = w') := Lib.hid fun W hb => lover_any (HL0.out.below hb)
  have HHS : Hid (∀ W : World, Below X.heap.size X W → Calls Try.prog 31 #[.agg #[.int .i64 L.ep, .slice an nn cn], .int .i64 n1] W fun e w' => e = .returned (.bool (inB n1 L.ns)) ∧ Below W.heap.size W w') := Lib.hid fun W hb => by
    have := Cc.has_any L.ep n1 an cn L.ns W ((rn.below hB).below hb)
    rw [hnn] at this
    exact this
  obtain ⟨he, hgd⟩ := neI_run n3 n4 n5 L.id.1 L.id.2.1 L.id.2.2
  clear hB bm h ho hrd hok hM rn hnn HLa
  unfold passL at hp
  simp only [Bool.and_eq_true, Bool.not_eq_true', decide_eq_true_eq] at hp
  obtain ⟨q1, q2, q3⟩ := hp
  have q2 : decide (((n3, n4, n5) : I3) = (L.id.1, L.id.2.1, L.id.2.2)) = true := decide_eq_true q2
  rw [q1] at HOV
  rw [q2] at he
  rw [q3] at HHS
  have HFT := Lib.hid hf
  have HQ0 := Lib.hid hq
  clear hf hq
  have HFR : Hid (n1 ∈ L.ns) := Lib.hid (by unfold inB at q3; exact of_decide_eq_true q3)
  have HW0 := Lib.hid hW0
  have HBW := Lib.hid hbw
  have HDL0 := Lib.hid hdl
  clear q1 q2 q3 hW0 hbw hdl
  go_enter Try.func13, Try.ntmps13
  go_wp2_with fail
  try rw [hX]
  clear hX
  refine wp_region_held_drew (S := (fun w' => w'.cell? ⟨g, 3, none⟩ = some (.int .i64 L.id.1) ∧ w'.cell? ⟨g, 4, none⟩ = some (.int .i64 L.id.2.1) ∧ w'.cell? ⟨g, 5, none⟩ = some (.int .i64 L.id.2.2) ∧ w'.cell? ⟨g, 0, none⟩ = some (.int .i64 L.ep) ∧ w'.cell? ⟨g, 1, none⟩ = some (.slice an nn cn) ∧ w'.cell? ⟨w.heap.size, 1, none⟩ = some (.int .i64 n1) ∧ w'.cell? ⟨w.heap.size, 3, none⟩ = some (.int .i64 n3) ∧ w'.cell? ⟨w.heap.size, 4, none⟩ = some (.int .i64 n4) ∧ w'.cell? ⟨w.heap.size, 5, none⟩ = some (.int .i64 n5) ∧ Below X.heap.size X w')) (by kernel_rfl) ?_ (fun hHeld => ?_)
  · ((first
  | exact HC.out _ (Below.refl _ _)
  | exact HC.out _ (Below.refl _ _).drew
  | exact HC.out _ hw3
  | (go_split_ands; exact HC.out _ (by assumption))
  | fail))
  refine wpAnyH_take (i := 0) (v := ?_) rfl (by kernel_rfl) (by kernel_rfl) (by kernel_rfl) (fun _ _ _ h => h) (Or.inl ⟨by rfl, ?_⟩) (by assumption) ?_
  rotate_left
  · (intro w hSw; (try dsimp only at hSw); go_simp; try rfl)
  try simp only [Act.put, List.setIfInBounds_toArray, List.set_cons_zero, List.set_cons_succ, List.getElem_toArray, List.getElem_cons_zero, List.getElem_cons_succ]
  refine wpAnyH_ready (rs := [1]) (by kernel_rfl) (by simp) ?_
  refine (AllReadyH.cons rfl (fun K hK => ?_) AllReadyH.nil)
  go_simp
  (go_at_call 29; go_split_ands; refine (HOV.out _ (by assumption)).mono ?_; rintro e w2 ⟨rfl, rfl⟩)
  refine hK.out _ _ ?_ (fun hHeld => ?_)
  · ((first
  | exact HC.out _ (Below.refl _ _)
  | exact HC.out _ (Below.refl _ _).drew
  | exact HC.out _ hw3
  | (go_split_ands; exact HC.out _ (by assumption))
  | fail))
  clear hK K
  try simp only [Act.put, List.setIfInBounds_toArray, List.set_cons_zero, List.set_cons_succ, List.getElem_toArray, List.getElem_cons_zero, List.getElem_cons_succ]
  refine wpAnyH_take (i := 2) (v := ?_) rfl (by kernel_rfl) (by kernel_rfl) (by kernel_rfl) (fun _ _ _ h => h) (Or.inl ⟨by rfl, ?_⟩) (by assumption) ?_
  rotate_left
  · (intro w hSw; (try dsimp only at hSw); go_simp; try rfl)
  try simp only [Act.put, List.setIfInBounds_toArray, List.set_cons_zero, List.set_cons_succ, List.getElem_toArray, List.getElem_cons_zero, List.getElem_cons_succ]
  refine wpAnyH_take (i := 3) (v := ?_) rfl (by kernel_rfl) (by kernel_rfl) (by kernel_rfl) (fun _ _ _ h => h) (Or.inl ⟨by rfl, ?_⟩) (by assumption) ?_
  rotate_left
  · (intro w hSw; (try dsimp only at hSw); go_simp; try rfl)
  try simp only [Act.put, List.setIfInBounds_toArray, List.set_cons_zero, List.set_cons_succ, List.getElem_toArray, List.getElem_cons_zero, List.getElem_cons_succ]
  refine wpAnyH_take (i := 4) (v := ?_) rfl (by kernel_rfl) (by kernel_rfl) (by kernel_rfl) (fun _ _ _ h => h) (Or.inl ⟨by rfl, ?_⟩) (by assumption) ?_
  rotate_left
  · (intro w hSw; (try dsimp only at hSw); go_simp; try rfl)
  try simp only [Act.put, List.setIfInBounds_toArray, List.set_cons_zero, List.set_cons_succ, List.getElem_toArray, List.getElem_cons_zero, List.getElem_cons_succ]
  refine wpAnyH_take (i := 5) (v := ?_) rfl (by kernel_rfl) (by kernel_rfl) (by kernel_rfl) (fun _ _ _ h => h) (Or.inl ⟨by rfl, ?_⟩) (by assumption) ?_
  rotate_left
  · (intro w hSw; (try dsimp only at hSw); go_simp; try rfl)
  try simp only [Act.put, List.setIfInBounds_toArray, List.set_cons_zero, List.set_cons_succ, List.getElem_toArray, List.getElem_cons_zero, List.getElem_cons_succ]
  refine wpAnyH_take (i := 6) (v := ?_) rfl (by kernel_rfl) (by kernel_rfl) (by kernel_rfl) (fun _ _ _ h => h) (Or.inl ⟨by rfl, ?_⟩) (by assumption) ?_
  rotate_left
  · (intro w hSw; (try dsimp only at hSw); go_simp; try rfl)
  try simp only [Act.put, List.setIfInBounds_toArray, List.set_cons_zero, List.set_cons_succ, List.getElem_toArray, List.getElem_cons_zero, List.getElem_cons_succ]
  refine wpAnyH_take (i := 7) (v := ?_) rfl (by kernel_rfl) (by kernel_rfl) (by kernel_rfl) (fun _ _ _ h => h) (Or.inl ⟨by rfl, ?_⟩) (by assumption) ?_
  rotate_left
  · (intro w hSw; (try dsimp only at hSw); go_simp; try rfl)
  try simp only [Act.put, List.setIfInBounds_toArray, List.set_cons_zero, List.set_cons_succ, List.getElem_toArray, List.getElem_cons_zero, List.getElem_cons_succ]
  refine wpAnyH_take (i := 8) (v := ?_) rfl (by kernel_rfl) (by kernel_rfl) (by kernel_rfl) (fun _ _ _ h => h) (Or.inl ⟨by rfl, ?_⟩) (by assumption) ?_
  rotate_left
  · (intro w hSw; (try dsimp only at hSw); go_simp; try rfl)
  try simp only [Act.put, List.setIfInBounds_toArray, List.set_cons_zero, List.set_cons_succ, List.getElem_toArray, List.getElem_cons_zero, List.getElem_cons_succ]
  refine wpAnyH_take (i := 9) (v := ?_) rfl (by kernel_rfl) (by kernel_rfl) (by kernel_rfl) (fun _ _ _ h => h) (Or.inl ⟨by rfl, ?_⟩) (by assumption) ?_
  rotate_left
  · (intro w hSw; (try dsimp only at hSw); go_simp; try rfl)
  try simp only [Act.put, List.setIfInBounds_toArray, List.set_cons_zero, List.set_cons_succ, List.getElem_toArray, List.getElem_cons_zero, List.getElem_cons_succ]
  refine wpAnyH_take (i := 10) (v := ?_) rfl (by kernel_rfl) (by kernel_rfl) (by kernel_rfl) (fun _ _ _ h => h) (Or.inl ⟨by rfl, ?_⟩) (by assumption) ?_
  rotate_left
  · (intro w hSw; (try dsimp only at hSw); go_simp; try rfl)
  try simp only [Act.put, List.setIfInBounds_toArray, List.set_cons_zero, List.set_cons_succ, List.getElem_toArray, List.getElem_cons_zero, List.getElem_cons_succ]
  refine wpAnyH_take (i := 11) (v := ?_) rfl (by kernel_rfl) (by kernel_rfl) (by kernel_rfl) (fun _ _ _ h => h) (Or.inl ⟨by rfl, ?_⟩) (by assumption) ?_
  rotate_left
  · (intro w hSw; (try dsimp only at hSw); go_simp; try rfl)
  try simp only [Act.put, List.setIfInBounds_toArray, List.set_cons_zero, List.set_cons_succ, List.getElem_toArray, List.getElem_cons_zero, List.getElem_cons_succ]
  refine wpAnyH_take (i := 12) (v := ?_) rfl (by kernel_rfl) (by kernel_rfl) (by kernel_rfl) (fun _ _ _ h => h) (Or.inl ⟨by rfl, ?_⟩) (by assumption) ?_
  rotate_left
  · (intro w hSw; (try dsimp only at hSw); go_simp; try rfl)
  try simp only [Act.put, List.setIfInBounds_toArray, List.set_cons_zero, List.set_cons_succ, List.getElem_toArray, List.getElem_cons_zero, List.getElem_cons_succ]
  refine wpAnyH_take (i := 13) (v := ?_) rfl (by kernel_rfl) (by kernel_rfl) (by kernel_rfl) (fun _ _ _ h => h) (Or.inl ⟨by rfl, ?_⟩) (by assumption) ?_
  rotate_left
  · (intro w hSw; (try dsimp only at hSw); go_simp; try rfl)
  try simp only [Act.put, List.setIfInBounds_toArray, List.set_cons_zero, List.set_cons_succ, List.getElem_toArray, List.getElem_cons_zero, List.getElem_cons_succ]
  refine wpAnyH_take (i := 14) (v := ?_) rfl (by kernel_rfl) (by kernel_rfl) (by kernel_rfl) (fun _ _ _ h => h) (Or.inl ⟨by rfl, ?_⟩) (by assumption) ?_
  rotate_left
  · (intro w hSw; (try dsimp only at hSw); go_simp; try rfl)
  try simp only [Act.put, List.setIfInBounds_toArray, List.set_cons_zero, List.set_cons_succ, List.getElem_toArray, List.getElem_cons_zero, List.getElem_cons_succ]
  refine wpAnyH_take (i := 15) (v := ?_) rfl (by kernel_rfl) (by kernel_rfl) (by kernel_rfl) (fun _ _ _ h => h) (Or.inl ⟨by rfl, ?_⟩) (by assumption) ?_
  rotate_left
  · (intro w hSw; (try dsimp only at hSw); go_simp; try rfl)
  try simp only [Act.put, List.setIfInBounds_toArray, List.set_cons_zero, List.set_cons_succ, List.getElem_toArray, List.getElem_cons_zero, List.getElem_cons_succ]
  refine wpAnyH_take (i := 16) (v := ?_) rfl (by kernel_rfl) (by kernel_rfl) (by kernel_rfl) (fun _ _ _ h => h) (Or.inl ⟨by rfl, ?_⟩) (by assumption) ?_
  rotate_left
  · (intro w hSw; (try dsimp only at hSw); go_simp; try rfl)
  try simp only [Act.put, List.setIfInBounds_toArray, List.set_cons_zero, List.set_cons_succ, List.getElem_toArray, List.getElem_cons_zero, List.getElem_cons_succ]
  refine wpAnyH_take (i := 17) (v := ?_) rfl (by kernel_rfl) (by kernel_rfl) (by kernel_rfl) (fun _ _ _ h => h) (Or.inl ⟨by rfl, ?_⟩) (by assumption) ?_
  rotate_left
  · (intro w hSw; (try dsimp only at hSw); go_simp; try rfl)
  try simp only [Act.put, List.setIfInBounds_toArray, List.set_cons_zero, List.set_cons_succ, List.getElem_toArray, List.getElem_cons_zero, List.getElem_cons_succ]
  refine wpAnyH_ready (rs := [18]) (by kernel_rfl) (by simp) ?_
  refine (AllReadyH.cons rfl (fun K hK => ?_) AllReadyH.nil)
  go_simp
  (go_at_call 31; go_split_ands; refine (HHS.out _ (by assumption)).mono ?_; rintro e w3 ⟨rfl, hb3⟩; have hw3 : Below X.heap.size X w3 := below_self (by assumption) hb3)
  refine hK.out _ _ ?_ (fun hHeld => ?_)
  · ((first
  | exact HC.out _ (Below.refl _ _)
  | exact HC.out _ (Below.refl _ _).drew
  | exact HC.out _ hw3
  | (go_split_ands; exact HC.out _ (by assumption))
  | fail))
  clear hK K
  try simp only [Act.put, List.setIfInBounds_toArray, List.set_cons_zero, List.set_cons_succ, List.getElem_toArray, List.getElem_cons_zero, List.getElem_cons_succ]
  refine wpAnyH_take (i := 19) (v := ?_) rfl (by kernel_rfl) (by kernel_rfl) (by kernel_rfl) (fun _ _ _ h => h) (Or.inl ⟨by rfl, ?_⟩) (by assumption) ?_
  rotate_left
  · (intro w hSw; (try dsimp only at hSw); go_simp; try rfl)
  try simp only [Act.put, List.setIfInBounds_toArray, List.set_cons_zero, List.set_cons_succ, List.getElem_toArray, List.getElem_cons_zero, List.getElem_cons_succ]
  refine wpAnyH_take (i := 20) (v := ?_) rfl (by kernel_rfl) (by kernel_rfl) (by kernel_rfl) (fun _ _ _ h => h) (Or.inl ⟨by rfl, ?_⟩) (by assumption) ?_
  rotate_left
  · (intro w hSw; (try dsimp only at hSw); go_simp; try rfl)
  try simp only [Act.put, List.setIfInBounds_toArray, List.set_cons_zero, List.set_cons_succ, List.getElem_toArray, List.getElem_cons_zero, List.getElem_cons_succ]
  refine wpAnyH_done (by kernel_rfl) ?_ _
  have HL3 := Lib.hid (HL0.out.below hw3)
  have HB3 : Hid (Below B w w3) := Lib.hid ((HBX.out.trans (hw3.mono HBX.out.size)).mono HLo.out)
  have HK3 : Hid (Kt w w3) := Lib.hid (Kt.below (HBX.out.trans (hw3.mono HBX.out.size)))
  have HM3 : Hid (Bk w3 w.heap.size 44 [.int .i64 3, .int .i64 n1, .int .i64 n2, .int .i64 n3, .int .i64 n4, .int .i64 n5, .int .i64 n6, .int .i64 n7, .int .i64 n8, .int .i64 n9, .int .i64 n10, .int .i64 n11, .int .i64 n12, .int .i64 n13, .int .i64 n14, .int .i64 n15, .string n16, .string n17, .int .i64 n18, .int .i64 n19, .int .i64 n20, .int .i64 n21, .slice ua M uc, .int .i64 n23, .slice a1 d1 c1, .slice a2 d2 c2, .slice a3 d3 c3]) := Lib.hid (HM.out.below hw3)
  have HV3 := Lib.hid (HV0.out.below hw3)
  have m0 := HM3.out.cell 0
  simp only [List.getElem?_cons_zero] at m0
  have hN3 := HM3.out.lt
  have hg3 := HV3.out.bk.lt
  clear HC HOV HHS hw3 hb3 HL0 HBX HM HV0 hgX hNX c11 he hgd
  have HRW := Lib.hid (HBW.out.trans (HB3.out.mono HW0.out))
  have HMI3 : Hid ((Try.prog.info? 44).map (·.size) = some 27) := Lib.hid (by kernel_rfl)
  have HL3x : Hid (B ≤ w3.heap.size) := Lib.hid (Nat.le_trans HL3.out.lt.2 (Nat.le_of_lt HL3.out.lt.1))
  have HYE := Lib.hid (hears_yes HL3.out HOk.out HMg0.out HW0.out HRW.out HDL0.out 1 HFT.out)
  have HO4 : Hid (LOk (addL L ⟨3, n1, n2, (n3, n4, n5), (n6, n7), ⟨n8, (n9, n10), (n11, n12), ⟨n13, n14, n15, n16, n17, n18, n19, n20⟩, n21, dl⟩, sn0⟩)) := Lib.hid (HOk.out.add HFT.out HFR.out HDL0.out)
  obtain ⟨L4, hL4e⟩ : ∃ L4, addL L ⟨3, n1, n2, (n3, n4, n5), (n6, n7), ⟨n8, (n9, n10), (n11, n12), ⟨n13, n14, n15, n16, n17, n18, n19, n20⟩, n21, dl⟩, sn0⟩ = L4 := ⟨_, rfl⟩
  rw [hL4e] at HYE HO4
  have HL4E := Lib.hid hL4e
  have HQ : Hid (enoL L4 = false) := Lib.hid (by rw [← hL4e]; exact HQ0.out)
  clear hL4e
  go_wp2_with (first | refine wpList_load_rowG rfl _ _ rfl w.heap.size rfl 44 _ (0, 0) _ HM3.out Try.underlying44 rfl HMI3.out ?_ | fail)
  refine HYE.out.mono ?_
  rintro e w4 ⟨he4, hL4, hb4, hk4⟩
  rw [he4.out]
  have HL4 := Lib.hid hL4
  have HB4 := Lib.hid (HB3.out.trans hb4)
  have HK4 := Lib.hid (HK3.out.trans hk4)
  clear he4 hL4 hb4 hk4 HV3 HM3 m0 HYE
  have HEN := Lib.hid (leno_any HL4.out HO4.out)
  rw [HQ.out] at HEN
  go_wp2_with fail
  refine HEN.out.mono ?_
  rintro e w5 ⟨rfl, hb5⟩
  have HB5 := Lib.hid hb5
  clear hb5
  have HLw := Lib.hid (HL4.out.below HB5.out)
  have HBw := Lib.hid (HB4.out.trans (HB5.out.mono (Nat.le_trans HL4.out.lt.2 (Nat.le_of_lt HL4.out.lt.1))))
  have HKw := Lib.hid (HK4.out.trans (Kt.below HB5.out))
  clear HEN HL4 HB4 HB5
  have HL6 := Lib.hid (by have q := HLw.out; rw [← HL4E.out] at q; exact q)
  have HB6 := HBw
  have HK6 := HKw
  clear HLw
  obtain ⟨Bw9, vn9, vd9, vw9, vh9, hV9⟩ := HL6.out
  have k11 := hV9.cell 11
  simp only [ldE, List.getElem?_cons_zero, List.getElem?_cons_succ] at k11
  have hg9 := hV9.bk.lt
  clear hV9
  go_wp2
  go_ret
  exact ⟨Lib.hid (by simp [addL]), HL6.out, HB6.out, HK6.out⟩
end Go.Proofs.Ytplplehfkfjhnaa
