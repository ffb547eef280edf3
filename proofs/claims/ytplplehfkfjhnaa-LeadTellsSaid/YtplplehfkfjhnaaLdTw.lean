/-
  Texts put together: LdTc, LdTi, LdTl.
-/
import Derived.Test.YtplplehfkfjhnaaLdTz
import Derived.Test.YtplplehfkfjhnaaLdR
import Derived.Test.YtplplehfkfjhnaaLdS
import Derived.Test.YtplplehfkfjhnaaLdT
import Derived.Test.YtplplehfkfjhnaaLdU
import Derived.Test.YtplplehfkfjhnaaLdXm
import Derived.Test.YtplplehfkfjhnaaLdBv
namespace Go.Proofs.Ytplplehfkfjhnaa
open Go.RowKit
open Bb (quoN thN allB)
set_option linter.unusedSimpArgs false
set_option linter.unusedVariables false
set_option maxRecDepth 100000

def AhP (L : LSt) (x : Mg) (B g : Nat) (w : World) (e : Ending) (w' : World) : Prop := ∃ (p : Int) (cm : CM) (a : At), (p = 0 ∨ p = 1) ∧ a.2.length ≤ 60 ∧ HeP (entL (addL L x) p cm a) L B g w e w'
set_option maxHeartbeats 16000000 in
theorem hear_prepV {W0 w : World} {B g : Nat} {L : LSt} {x : Mg} {v : Value} (h : LdAt w B g L) (ho : LOk L) (hm : MgV W0 v x) (hW0 : W0.heap.size ≤ B) (hbw : Below W0.heap.size W0 w) (hdl : x.ins.at'.2.length ≤ 60) (hp : passL L x = true) (hkd : x.kind = 6) (hf : fitL L x 2 = true) (hq : enoL (addL L x) = true) :
    Calls Try.prog 13 #[gP g, v] w (AhP L x B g w) := by
  have HMg0 := Lib.hid hm
  obtain ⟨ua, uc, a1, d1, c1, a2, d2, c2, a3, d3, c3, rfl, hrd, hok⟩ := hm
  obtain ⟨n0, n1, n2, ⟨n3, n4, n5⟩, ⟨n6, n7⟩, ⟨n8, ⟨n9, n10⟩, ⟨n11, n12⟩, ⟨n13, n14, n15, n16, n17, n18, n19, n20⟩, n21, dl⟩, sn0⟩ := x
  obtain ⟨n23, sn1⟩ : ∃ q, sn0.1.1 = q := ⟨_, rfl⟩
  have HLa := Lib.hid h
  have HOk := Lib.hid ho
  obtain ⟨Bw, vn, vd, vw, vh, h⟩ := h
  simp only at hrd hok hdl hp hkd hf hq
  obtain ⟨M, hM⟩ : ∃ M, dl.length = M := ⟨_, rfl⟩
  subst hkd
  have HMl := Lib.hid hM
  have HRD := Lib.hid hrd
  have HOKD := Lib.hid hok
  simp only [msE, inE, snV, hM, sn1, List.cons_append, List.nil_append] at hrd HMg0 ⊢
  obtain ⟨an, cn, en, rn⟩ := h.irow ho
  obtain ⟨nn, hnn⟩ : ∃ nn, L.ns.length = nn := ⟨_, rfl⟩
  rw [hnn] at en
  subst en
  obtain ⟨X, hX⟩ : ∃ X, w.alloc (.cells #[.int .i64 6, .int .i64 n1, .int .i64 n2, .int .i64 n3, .int .i64 n4, .int .i64 n5, .int .i64 n6, .int .i64 n7, .int .i64 n8, .int .i64 n9, .int .i64 n10, .int .i64 n11, .int .i64 n12, .int .i64 n13, .int .i64 n14, .int .i64 n15, .string n16, .string n17, .int .i64 n18, .int .i64 n19, .int .i64 n20, .int .i64 n21, .slice ua M uc, .int .i64 n23, .slice a1 d1 c1, .slice a2 d2 c2, .slice a3 d3 c3] 44) = X := ⟨_, rfl⟩
  have hB : Below w.heap.size w X := by rw [← hX]; exact (Below.refl _ _).alloc (Nat.le_refl _) _
  have bm : Bk X w.heap.size 44 [.int .i64 6, .int .i64 n1, .int .i64 n2, .int .i64 n3, .int .i64 n4, .int .i64 n5, .int .i64 n6, .int .i64 n7, .int .i64 n8, .int .i64 n9, .int .i64 n10, .int .i64 n11, .int .i64 n12, .int .i64 n13, .int .i64 n14, .int .i64 n15, .string n16, .string n17, .int .i64 n18, .int .i64 n19, .int .i64 n20, .int .i64 n21, .slice ua M uc, .int .i64 n23, .slice a1 d1 c1, .slice a2 d2 c2, .slice a3 d3 c3] := by rw [← hX]; exact Bk.new w _ _
  have HBX := Lib.hid hB
  have HV0 := Lib.hid (h.below hB)
  have HL0 := Lib.hid (HLa.out.below hB)
  have HM := Lib.hid bm
  have hgX := HV0.out.bk.lt
  have hNX := bm.lt
  have c11 := HV0.out.cell 11
  simp only [ldE, List.getElem?_cons_zero, List.getElem?_cons_succ] at c11
  have HLo : Hid (B ≤ w.heap.size) := Lib.hid (Nat.le_trans h.lo (Nat.le_of_lt h.bk.lt))
  have HC : Hid (∀ w' : World, Below X.heap.size X w' → w'.cell? ⟨g, 3, none⟩ = some (.int .i64 L.id.1) ∧ w'.cell? ⟨g, 4, none⟩ = some (.int .i64 L.id.2.1) ∧ w'.cell? ⟨g, 5, none⟩ = some (.int .i64 L.id.2.2) ∧ w'.cell? ⟨g, 0, none⟩ = some (.int .i64 L.ep) ∧ w'.cell? ⟨g, 1, none⟩ = some (.slice an nn cn) ∧ w'.cell? ⟨w.heap.size, 1, none⟩ = some (.int .i64 n1) ∧ w'.cell? ⟨w.heap.size, 3, none⟩ = some (.int .i64 n3) ∧ w'.cell? ⟨w.heap.size, 4, none⟩ = some (.int .i64 n4) ∧ w'.cell? ⟨w.heap.size, 5, none⟩ = some (.int .i64 n5) ∧ Below X.heap.size X w') := Lib.hid fun w' hb => by
    have q := HV0.out.below hb
    have q2 := HM.out.below hb
    exact ⟨q.cell 3, q.cell 4, q.cell 5, q.cell 0, q.cell 1, q2.cell 1, q2.cell 3, q2.cell 4, q2.cell 5, hb⟩
  have HOV : Hid (∀ W : World, Below X.heap.size X W → Calls Try.prog 29 #[gP g] W fun e w' => e = .returned (.bool (overL L)) ∧ W = w') := Lib.hid fun W hb => lover_any (HL0.out.below hb)
  have HHS : Hid (∀ W : World, Below X.heap.size X W → Calls Try.prog 31 #[.agg #[.int .i64 L.ep, .slice an nn cn], .int .i64 n1] W fun e w' => e = .returned (.bool (inB n1 L.ns)) ∧ Below W.heap.size W w') := Lib.hid fun W hb => by
    have := Cc.has_any L.ep n1 an cn L.ns W ((rn.below hB).below hb)
    rw [hnn] at this
    exact this
  obtain ⟨he, hgd⟩ := neI_run n3 n4 n5 L.id.1 L.id.2.1 L.id.2.2
  clear hB bm h ho hrd hok hM rn hnn HLa
  unfold passL at hp
  simp only [Bool.and_eq_true, Bool.not_eq_true', decide_eq_true_eq] at hp
  obtain ⟨q1, q2, q3⟩ := hp
  have q2 : decide (((n3, n4, n5) : I3) = (L.id.1, L.id.2.1, L.id.2.2)) = true := decide_eq_true q2
  rw [q1] at HOV
  rw [q2] at he
  rw [q3] at HHS
  have HFT := Lib.hid hf
  have HQ0 := Lib.hid hq
  clear hf hq
  have HFR : Hid (n1 ∈ L.ns) := Lib.hid (by unfold inB at q3; exact of_decide_eq_true q3)
  have HW0 := Lib.hid hW0
  have HBW := Lib.hid hbw
  have HDL0 := Lib.hid hdl
  clear q1 q2 q3 hW0 hbw hdl
  go_enter Try.func13, Try.ntmps13
  go_wp2_with fail
  try rw [hX]
  clear hX
  refine wp_region_held_drew (S := (fun w' => w'.cell? ⟨g, 3, none⟩ = some (.int .i64 L.id.1) ∧ w'.cell? ⟨g, 4, none⟩ = some (.int .i64 L.id.2.1) ∧ w'.cell? ⟨g, 5, none⟩ = some (.int .i64 L.id.2.2) ∧ w'.cell? ⟨g, 0, none⟩ = some (.int .i64 L.ep) ∧ w'.cell? ⟨g, 1, none⟩ = some (.slice an nn cn) ∧ w'.cell? ⟨w.heap.size, 1, none⟩ = some (.int .i64 n1) ∧ w'.cell? ⟨w.heap.size, 3, none⟩ = some (.int .i64 n3) ∧ w'.cell? ⟨w.heap.size, 4, none⟩ = some (.int .i64 n4) ∧ w'.cell? ⟨w.heap.size, 5, none⟩ = some (.int .i64 n5) ∧ Below X.heap.size X w')) (by kernel_rfl) ?_ (fun hHeld => ?_)
  · ((first
  | exact HC.out _ (Below.refl _ _)
  | exact HC.out _ (Below.refl _ _).drew
  | exact HC.out _ hw3
  | (go_split_ands; exact HC.out _ (by assumption))
  | fail))
  refine wpAnyH_take (i := 0) (v := ?_) rfl (by kernel_rfl) (by kernel_rfl) (by kernel_rfl) (fun _ _ _ h => h) (Or.inl ⟨by rfl, ?_⟩) (by assumption) ?_
  rotate_left
  · (intro w hSw; (try dsimp only at hSw); go_simp; try rfl)
  try simp only [Act.put, List.setIfInBounds_toArray, List.set_cons_zero, List.set_cons_succ, List.getElem_toArray, List.getElem_cons_zero, List.getElem_cons_succ]
  refine wpAnyH_ready (rs := [1]) (by kernel_rfl) (by simp) ?_
  refine (AllReadyH.cons rfl (fun K hK => ?_) AllReadyH.nil)
  go_simp
  (go_at_call 29; go_split_ands; refine (HOV.out _ (by assumption)).mono ?_; rintro e w2 ⟨rfl, rfl⟩)
  refine hK.out _ _ ?_ (fun hHeld => ?_)
  · ((first
  | exact HC.out _ (Below.refl _ _)
  | exact HC.out _ (Below.refl _ _).drew
  | exact HC.out _ hw3
  | (go_split_ands; exact HC.out _ (by assumption))
  | fail))
  clear hK K
  try simp only [Act.put, List.setIfInBounds_toArray, List.set_cons_zero, List.set_cons_succ, List.getElem_toArray, List.getElem_cons_zero, List.getElem_cons_succ]
  refine wpAnyH_take (i := 2) (v := ?_) rfl (by kernel_rfl) (by kernel_rfl) (by kernel_rfl) (fun _ _ _ h => h) (Or.inl ⟨by rfl, ?_⟩) (by assumption) ?_
  rotate_left
  · (intro w hSw; (try dsimp only at hSw); go_simp; try rfl)
  try simp only [Act.put, List.setIfInBounds_toArray, List.set_cons_zero, List.set_cons_succ, List.getElem_toArray, List.getElem_cons_zero, List.getElem_cons_succ]
  refine wpAnyH_take (i := 3) (v := ?_) rfl (by kernel_rfl) (by kernel_rfl) (by kernel_rfl) (fun _ _ _ h => h) (Or.inl ⟨by rfl, ?_⟩) (by assumption) ?_
  rotate_left
  · (intro w hSw; (try dsimp only at hSw); go_simp; try rfl)
  try simp only [Act.put, List.setIfInBounds_toArray, List.set_cons_zero, List.set_cons_succ, List.getElem_toArray, List.getElem_cons_zero, List.getElem_cons_succ]
  refine wpAnyH_take (i := 4) (v := ?_) rfl (by kernel_rfl) (by kernel_rfl) (by kernel_rfl) (fun _ _ _ h => h) (Or.inl ⟨by rfl, ?_⟩) (by assumption) ?_
  rotate_left
  · (intro w hSw; (try dsimp only at hSw); go_simp; try rfl)
  try simp only [Act.put, List.setIfInBounds_toArray, List.set_cons_zero, List.set_cons_succ, List.getElem_toArray, List.getElem_cons_zero, List.getElem_cons_succ]
  refine wpAnyH_take (i := 5) (v := ?_) rfl (by kernel_rfl) (by kernel_rfl) (by kernel_rfl) (fun _ _ _ h => h) (Or.inl ⟨by rfl, ?_⟩) (by assumption) ?_
  rotate_left
  · (intro w hSw; (try dsimp only at hSw); go_simp; try rfl)
  try simp only [Act.put, List.setIfInBounds_toArray, List.set_cons_zero, List.set_cons_succ, List.getElem_toArray, List.getElem_cons_zero, List.getElem_cons_succ]
  refine wpAnyH_take (i := 6) (v := ?_) rfl (by kernel_rfl) (by kernel_rfl) (by kernel_rfl) (fun _ _ _ h => h) (Or.inl ⟨by rfl, ?_⟩) (by assumption) ?_
  rotate_left
  · (intro w hSw; (try dsimp only at hSw); go_simp; try rfl)
  try simp only [Act.put, List.setIfInBounds_toArray, List.set_cons_zero, List.set_cons_succ, List.getElem_toArray, List.getElem_cons_zero, List.getElem_cons_succ]
  refine wpAnyH_take (i := 7) (v := ?_) rfl (by kernel_rfl) (by kernel_rfl) (by kernel_rfl) (fun _ _ _ h => h) (Or.inl ⟨by rfl, ?_⟩) (by assumption) ?_
  rotate_left
  · (intro w hSw; (try dsimp only at hSw); go_simp; try rfl)
  try simp only [Act.put, List.setIfInBounds_toArray, List.set_cons_zero, List.set_cons_succ, List.getElem_toArray, List.getElem_cons_zero, List.getElem_cons_succ]
  refine wpAnyH_take (i := 8) (v := ?_) rfl (by kernel_rfl) (by kernel_rfl) (by kernel_rfl) (fun _ _ _ h => h) (Or.inl ⟨by rfl, ?_⟩) (by assumption) ?_
  rotate_left
  · (intro w hSw; (try dsimp only at hSw); go_simp; try rfl)
  try simp only [Act.put, List.setIfInBounds_toArray, List.set_cons_zero, List.set_cons_succ, List.getElem_toArray, List.getElem_cons_zero, List.getElem_cons_succ]
  refine wpAnyH_take (i := 9) (v := ?_) rfl (by kernel_rfl) (by kernel_rfl) (by kernel_rfl) (fun _ _ _ h => h) (Or.inl ⟨by rfl, ?_⟩) (by assumption) ?_
  rotate_left
  · (intro w hSw; (try dsimp only at hSw); go_simp; try rfl)
  try simp only [Act.put, List.setIfInBounds_toArray, List.set_cons_zero, List.set_cons_succ, List.getElem_toArray, List.getElem_cons_zero, List.getElem_cons_succ]
  refine wpAnyH_take (i := 10) (v := ?_) rfl (by kernel_rfl) (by kernel_rfl) (by kernel_rfl) (fun _ _ _ h => h) (Or.inl ⟨by rfl, ?_⟩) (by assumption) ?_
  rotate_left
  · (intro w hSw; (try dsimp only at hSw); go_simp; try rfl)
  try simp only [Act.put, List.setIfInBounds_toArray, List.set_cons_zero, List.set_cons_succ, List.getElem_toArray, List.getElem_cons_zero, List.getElem_cons_succ]
  refine wpAnyH_take (i := 11) (v := ?_) rfl (by kernel_rfl) (by kernel_rfl) (by kernel_rfl) (fun _ _ _ h => h) (Or.inl ⟨by rfl, ?_⟩) (by assumption) ?_
  rotate_left
  · (intro w hSw; (try dsimp only at hSw); go_simp; try rfl)
  try simp only [Act.put, List.setIfInBounds_toArray, List.set_cons_zero, List.set_cons_succ, List.getElem_toArray, List.getElem_cons_zero, List.getElem_cons_succ]
  refine wpAnyH_take (i := 12) (v := ?_) rfl (by kernel_rfl) (by kernel_rfl) (by kernel_rfl) (fun _ _ _ h => h) (Or.inl ⟨by rfl, ?_⟩) (by assumption) ?_
  rotate_left
  · (intro w hSw; (try dsimp only at hSw); go_simp; try rfl)
  try simp only [Act.put, List.setIfInBounds_toArray, List.set_cons_zero, List.set_cons_succ, List.getElem_toArray, List.getElem_cons_zero, List.getElem_cons_succ]
  refine wpAnyH_take (i := 13) (v := ?_) rfl (by kernel_rfl) (by kernel_rfl) (by kernel_rfl) (fun _ _ _ h => h) (Or.inl ⟨by rfl, ?_⟩) (by assumption) ?_
  rotate_left
  · (intro w hSw; (try dsimp only at hSw); go_simp; try rfl)
  try simp only [Act.put, List.setIfInBounds_toArray, List.set_cons_zero, List.set_cons_succ, List.getElem_toArray, List.getElem_cons_zero, List.getElem_cons_succ]
  refine wpAnyH_take (i := 14) (v := ?_) rfl (by kernel_rfl) (by kernel_rfl) (by kernel_rfl) (fun _ _ _ h => h) (Or.inl ⟨by rfl, ?_⟩) (by assumption) ?_
  rotate_left
  · (intro w hSw; (try dsimp only at hSw); go_simp; try rfl)
  try simp only [Act.put, List.setIfInBounds_toArray, List.set_cons_zero, List.set_cons_succ, List.getElem_toArray, List.getElem_cons_zero, List.getElem_cons_succ]
  refine wpAnyH_take (i := 15) (v := ?_) rfl (by kernel_rfl) (by kernel_rfl) (by kernel_rfl) (fun _ _ _ h => h) (Or.inl ⟨by rfl, ?_⟩) (by assumption) ?_
  rotate_left
  · (intro w hSw; (try dsimp only at hSw); go_simp; try rfl)
  try simp only [Act.put, List.setIfInBounds_toArray, List.set_cons_zero, List.set_cons_succ, List.getElem_toArray, List.getElem_cons_zero, List.getElem_cons_succ]
  refine wpAnyH_take (i := 16) (v := ?_) rfl (by kernel_rfl) (by kernel_rfl) (by kernel_rfl) (fun _ _ _ h => h) (Or.inl ⟨by rfl, ?_⟩) (by assumption) ?_
  rotate_left
  · (intro w hSw; (try dsimp only at hSw); go_simp; try rfl)
  try simp only [Act.put, List.setIfInBounds_toArray, List.set_cons_zero, List.set_cons_succ, List.getElem_toArray, List.getElem_cons_zero, List.getElem_cons_succ]
  refine wpAnyH_take (i := 17) (v := ?_) rfl (by kernel_rfl) (by kernel_rfl) (by kernel_rfl) (fun _ _ _ h => h) (Or.inl ⟨by rfl, ?_⟩) (by assumption) ?_
  rotate_left
  · (intro w hSw; (try dsimp only at hSw); go_simp; try rfl)
  try simp only [Act.put, List.setIfInBounds_toArray, List.set_cons_zero, List.set_cons_succ, List.getElem_toArray, List.getElem_cons_zero, List.getElem_cons_succ]
  refine wpAnyH_ready (rs := [18]) (by kernel_rfl) (by simp) ?_
  refine (AllReadyH.cons rfl (fun K hK => ?_) AllReadyH.nil)
  go_simp
  (go_at_call 31; go_split_ands; refine (HHS.out _ (by assumption)).mono ?_; rintro e w3 ⟨rfl, hb3⟩; have hw3 : Below X.heap.size X w3 := below_self (by assumption) hb3)
  refine hK.out _ _ ?_ (fun hHeld => ?_)
  · ((first
  | exact HC.out _ (Below.refl _ _)
  | exact HC.out _ (Below.refl _ _).drew
  | exact HC.out _ hw3
  | (go_split_ands; exact HC.out _ (by assumption))
  | fail))
  clear hK K
  try simp only [Act.put, List.setIfInBounds_toArray, List.set_cons_zero, List.set_cons_succ, List.getElem_toArray, List.getElem_cons_zero, List.getElem_cons_succ]
  refine wpAnyH_take (i := 19) (v := ?_) rfl (by kernel_rfl) (by kernel_rfl) (by kernel_rfl) (fun _ _ _ h => h) (Or.inl ⟨by rfl, ?_⟩) (by assumption) ?_
  rotate_left
  · (intro w hSw; (try dsimp only at hSw); go_simp; try rfl)
  try simp only [Act.put, List.setIfInBounds_toArray, List.set_cons_zero, List.set_cons_succ, List.getElem_toArray, List.getElem_cons_zero, List.getElem_cons_succ]
  refine wpAnyH_take (i := 20) (v := ?_) rfl (by kernel_rfl) (by kernel_rfl) (by kernel_rfl) (fun _ _ _ h => h) (Or.inl ⟨by rfl, ?_⟩) (by assumption) ?_
  rotate_left
  · (intro w hSw; (try dsimp only at hSw); go_simp; try rfl)
  try simp only [Act.put, List.setIfInBounds_toArray, List.set_cons_zero, List.set_cons_succ, List.getElem_toArray, List.getElem_cons_zero, List.getElem_cons_succ]
  refine wpAnyH_done (by kernel_rfl) ?_ _
  have HL3 := Lib.hid (HL0.out.below hw3)
  have HB3 : Hid (Below B w w3) := Lib.hid ((HBX.out.trans (hw3.mono HBX.out.size)).mono HLo.out)
  have HK3 : Hid (Kt w w3) := Lib.hid (Kt.below (HBX.out.trans (hw3.mono HBX.out.size)))
  have HM3 : Hid (Bk w3 w.heap.size 44 [.int .i64 6, .int .i64 n1, .int .i64 n2, .int .i64 n3, .int .i64 n4, .int .i64 n5, .int .i64 n6, .int .i64 n7, .int .i64 n8, .int .i64 n9, .int .i64 n10, .int .i64 n11, .int .i64 n12, .int .i64 n13, .int .i64 n14, .int .i64 n15, .string n16, .string n17, .int .i64 n18, .int .i64 n19, .int .i64 n20, .int .i64 n21, .slice ua M uc, .int .i64 n23, .slice a1 d1 c1, .slice a2 d2 c2, .slice a3 d3 c3]) := Lib.hid (HM.out.below hw3)
  have HV3 := Lib.hid (HV0.out.below hw3)
  have m0 := HM3.out.cell 0
  simp only [List.getElem?_cons_zero] at m0
  have hN3 := HM3.out.lt
  have hg3 := HV3.out.bk.lt
  clear HC HOV HHS hw3 hb3 HL0 HBX HM HV0 hgX hNX c11 he hgd
  have HRW := Lib.hid (HBW.out.trans (HB3.out.mono HW0.out))
  have HMI3 : Hid ((Try.prog.info? 44).map (·.size) = some 27) := Lib.hid (by kernel_rfl)
  have HL3x : Hid (B ≤ w3.heap.size) := Lib.hid (Nat.le_trans HL3.out.lt.2 (Nat.le_of_lt HL3.out.lt.1))
  have HYE := Lib.hid (hears_yes HL3.out HOk.out HMg0.out HW0.out HRW.out HDL0.out 2 HFT.out)
  have HO4 : Hid (LOk (addL L ⟨6, n1, n2, (n3, n4, n5), (n6, n7), ⟨n8, (n9, n10), (n11, n12), ⟨n13, n14, n15, n16, n17, n18, n19, n20⟩, n21, dl⟩, sn0⟩)) := Lib.hid (HOk.out.add HFT.out HFR.out HDL0.out)
  obtain ⟨L4, hL4e⟩ : ∃ L4, addL L ⟨6, n1, n2, (n3, n4, n5), (n6, n7), ⟨n8, (n9, n10), (n11, n12), ⟨n13, n14, n15, n16, n17, n18, n19, n20⟩, n21, dl⟩, sn0⟩ = L4 := ⟨_, rfl⟩
  rw [hL4e] at HYE HO4
  have HL4E := Lib.hid hL4e
  have HQ : Hid (enoL L4 = true) := Lib.hid (by rw [← hL4e]; exact HQ0.out)
  clear hL4e
  go_wp2_with (first | refine wpList_load_rowG rfl _ _ rfl w.heap.size rfl 44 _ (0, 0) _ HM3.out Try.underlying44 rfl HMI3.out ?_ | fail)
  refine HYE.out.mono ?_
  rintro e w4 ⟨he4, hL4, hb4, hk4⟩
  rw [he4.out]
  have HL4 := Lib.hid hL4
  have HB4 := Lib.hid (HB3.out.trans hb4)
  have HK4 := Lib.hid (HK3.out.trans hk4)
  clear he4 hL4 hb4 hk4 HV3 HM3 m0 HYE
  have HEN := Lib.hid (leno_any HL4.out HO4.out)
  rw [HQ.out] at HEN
  go_wp2_with fail
  refine HEN.out.mono ?_
  rintro e w5 ⟨rfl, hb5⟩
  have HB5 := Lib.hid hb5
  clear hb5
  have HLw := Lib.hid (HL4.out.below HB5.out)
  have HBw := Lib.hid (HB4.out.trans (HB5.out.mono (Nat.le_trans HL4.out.lt.2 (Nat.le_of_lt HL4.out.lt.1))))
  have HKw := Lib.hid (HK4.out.trans (Kt.below HB5.out))
  clear HEN HL4 HB4 HB5
  go_wp2_with fail
  refine (asked_any HLw.out HO4.out).mono ?_
  rintro e w6 ⟨p, cmq, aq, hp01, haq, he, hL6, hb6, hk6⟩
  rw [he.out]
  rw [← HL4E.out] at hL6
  have HL6 := Lib.hid hL6
  have HB6 := Lib.hid (HBw.out.trans hb6)
  have HK6 := Lib.hid (HKw.out.trans hk6)
  clear he hL6 hb6 hk6 HLw HBw HKw
  obtain ⟨Bw9, vn9, vd9, vw9, vh9, hV9⟩ := HL6.out
  have k11 := hV9.cell 11
  simp only [ldE, entL, List.getElem?_cons_zero, List.getElem?_cons_succ] at k11
  have hg9 := hV9.bk.lt
  clear hV9
  go_wp2
  go_ret
  exact ⟨p, cmq, aq, hp01, haq, Lib.hid rfl, HL6.out, HB6.out, HK6.out⟩
end Go.Proofs.Ytplplehfkfjhnaa
namespace Go.Proofs.Ytplplehfkfjhnaa
open Go.RowKit
open Bb (quoN thN allB)
set_option linter.unusedSimpArgs false
set_option linter.unusedVariables false
set_option maxRecDepth 100000

/-- A lead that took over: it is not first; as long as it goes on there are not enough. -/
structure TInv (ns : List Int) (L : LSt) : Prop where
  ok : LOk L
  ens : L.ns = ns
  fst : L.first = false
  eph : L.ph = 0 ∨ L.ph = 1 ∨ L.ph = 2 ∨ L.ph = 3 ∨ L.ph = 4
  few : overL L = false → ns ≠ [] → enoL L = false
theorem eno_nil (L : LSt) (hw : L.who = []) (hn : L.ns ≠ []) : enoL L = false := by
  unfold enoL
  rw [hw]
  have h0 : thN [] L.ns = 0 := by
    unfold thN
    have : (L.ns.filter fun x => inB x []) = [] := by
      rw [List.filter_eq_nil_iff]; intro a _; simp [inB]
    rw [this]; rfl
  rw [h0]
  refine decide_eq_false ?_
  have hl : 0 < L.ns.length := List.length_pos_iff.2 hn
  unfold quoN
  rw [if_neg (by omega)]
  omega
theorem TInv.ent {ns : List Int} {L : LSt} (h : TInv ns L) (p : Int) (hp : p = 0 ∨ p = 1 ∨ p = 2 ∨ p = 3 ∨ p = 4) (cm : CM) (a : At) (ha : a.2.length ≤ 3000) : TInv ns (entL L p cm a) :=
  ⟨h.ok.ent p _ a ha, h.ens, h.fst, hp, fun _ hn => eno_nil _ rfl (by show L.ns ≠ []; rw [h.ens]; exact hn)⟩
/-- What is told of a step: if the phase is the same it waits for no more. -/
def TSt (ns : List Int) (L M : LSt) : Prop := TInv ns M ∧ (M.ph = L.ph → (wtL M).length ≤ (wtL L).length)
def HtP (ns : List Int) (L : LSt) (B g : Nat) (w : World) (e : Ending) (w' : World) : Prop := ∃ M, TSt ns L M ∧ HeP M L B g w e w'
theorem TSt.same {ns : List Int} {L : LSt} (h : TInv ns L) : TSt ns L L := ⟨h, fun _ => Nat.le_refl _⟩
theorem wt_add (L : LSt) (x : Mg) : (wtL (addL L x)).length ≤ (wtL L).length := by
  unfold wtL
  show (if overL L = true then [] else L.ns.filter fun n => !inB n (L.who ++ [x.fr])).length ≤ _
  split
  · simp
  · have : ∀ l : List Int, (l.filter fun n => !inB n (L.who ++ [x.fr])).length ≤ (l.filter fun n => !inB n L.who).length := by
      intro l
      induction l with
      | nil => simp
      | cons a l ih =>
        by_cases q : inB a L.who = true
        · have q2 : inB a (L.who ++ [x.fr]) = true := by
            unfold inB at q ⊢
            simp only [decide_eq_true_eq] at q ⊢
            exact List.mem_append_left _ q
          simp only [List.filter_cons, q, q2, Bool.not_true]
          simpa using ih
        · have q1 : inB a L.who = false := by simpa using q
          simp only [List.filter_cons, q1, Bool.not_false, if_true]
          split
          · simp only [List.length_cons]; omega
          · simp only [List.length_cons]; omega
    exact this _
theorem t_add {ns : List Int} {L : LSt} {x : Mg} {p : Int} (h : TInv ns L) (hf : fitL L x p = true) (hn : x.fr ∈ L.ns) (hd : x.ins.at'.2.length ≤ 60) (he : enoL (addL L x) = false) : TSt ns L (addL L x) :=
  ⟨⟨h.ok.add hf hn hd, h.ens, h.fst, h.eph, fun _ _ => he⟩, fun _ => wt_add L x⟩
theorem t_ent {ns : List Int} {L : LSt} {x : Mg} {p0 : Int} (h : TInv ns L) (hf : fitL L x p0 = true) (hn : x.fr ∈ L.ns) (hd : x.ins.at'.2.length ≤ 60) (p : Int) (hp : p = 0 ∨ p = 1 ∨ p = 2 ∨ p = 3 ∨ p = 4) (cm : CM) (a : At) (ha : a.2.length ≤ 3000) (hne : p ≠ L.ph) : TSt ns L (entL (addL L x) p cm a) :=
  ⟨⟨(h.ok.add hf hn hd).ent p _ a ha, h.ens, h.fst, hp, fun _ hns => eno_nil _ rfl (by show L.ns ≠ []; rw [h.ens]; exact hns)⟩, fun q => absurd q hne⟩
theorem fit_ph {L : LSt} {x : Mg} {p : Int} (hf : fitL L x p = true) : L.ph = p := by
  unfold fitL at hf
  simp only [Bool.and_eq_true, beq_iff_eq] at hf
  exact hf.1.1
theorem tinv_hear {W0 w : World} {B g : Nat} {L : LSt} {x : Mg} {v : Value} {ns : List Int} (h : LdAt w B g L) (hi : TInv ns L) (hm : MgV W0 v x) (hW0 : W0.heap.size ≤ B) (hbw : Below W0.heap.size W0 w) (hdl : x.ins.at'.2.length ≤ 60) :
    Calls Try.prog 13 #[gP g, v] w (HtP ns L B g w) := by
  by_cases hp : passL L x = true
  rotate_left
  · exact (hear_skip h hi.ok hm hW0 hbw hdl (by simpa using hp)).mono fun e w' q => ⟨L, .same hi, q⟩
  have hov : overL L = false := by
    unfold passL at hp
    simp only [Bool.and_eq_true, Bool.not_eq_true'] at hp
    exact hp.1
  have hn : x.fr ∈ L.ns := by
    unfold passL at hp
    simp only [Bool.and_eq_true] at hp
    have := hp.2.2
    simpa [inB] using this
  by_cases k4 : x.kind = 4
  · refine (hear_commit h hi.ok hm hW0 hbw hdl hp k4).mono fun e w' q => ⟨_, ?_, q⟩
    refine ⟨hi.ent 3 (.inr (.inr (.inr (.inl rfl)))) _ _ (by omega), fun q => ?_⟩
    have h3 : (3 : Int) = L.ph := q
    unfold overL at hov
    rw [← h3] at hov
    simp at hov
  by_cases k7 : x.kind = 7
  · cases q7 : Bb.lessB L.bal.1 L.bal.2 x.bal.1 x.bal.2 with
    | false => exact (hear_noN h hi.ok hm hW0 hbw hdl hp k7 q7).mono fun e w' q => ⟨L, .same hi, q⟩
    | true =>
      refine (hear_noY h hi.ok hm hW0 hbw hdl hp k7 q7).mono fun e w' q => ⟨_, ?_, q⟩
      refine ⟨TInv.ent (L := { L with by' := x.bal }) ⟨⟨hi.ok.nl, hi.ok.nd, hi.ok.sub, hi.ok.hl, hi.ok.hd, hi.ok.dl⟩, hi.ens, hi.fst, hi.eph, hi.few⟩ 4 (.inr (.inr (.inr (.inr rfl)))) _ _ hi.ok.dl, fun q => ?_⟩
      have h3 : (4 : Int) = L.ph := q
      unfold overL at hov
      rw [← h3] at hov
      simp at hov
  by_cases k1 : x.kind = 1
  · cases f : fitL L x 0 with
    | false => exact (hear_preN h hi.ok hm hW0 hbw hdl hp k1 f).mono fun e w' q => ⟨L, .same hi, q⟩
    | true =>
      refine (hear_preY h hi.ok hm hW0 hbw hdl hp k1 f).mono fun e w' q => ⟨_, ?_, q⟩
      have hph := fit_ph f
      unfold propL
      have hf1 : (addL L x).first = false := hi.fst
      rw [hf1]
      show TSt ns L (if (false && _) = true then _ else _)
      rw [Bool.false_and, if_neg (by decide)]
      cases he : enoL (addL L x) with
      | true =>
        rw [if_pos rfl]
        exact t_ent hi f hn hdl 1 (.inr (.inl rfl)) _ _ (Nat.le_trans (hi.ok.add f hn hdl).al (by omega)) (by omega)
      | false =>
        rw [if_neg (by decide)]
        exact t_add hi f hn hdl he
  by_cases k3 : x.kind = 3
  · cases f : fitL L x 1 with
    | false => exact (hear_accN h hi.ok hm hW0 hbw hdl hp k3 f).mono fun e w' q => ⟨L, .same hi, q⟩
    | true =>
      have hph := fit_ph f
      cases hq : enoL (addL L x) with
      | false => exact (hear_accQ h hi.ok hm hW0 hbw hdl hp k3 f hq).mono fun e w' q => ⟨_, t_add hi f hn hdl hq, q⟩
      | true => exact (hear_accY h hi.ok hm hW0 hbw hdl hp k3 f hq).mono fun e w' q => ⟨_, t_ent hi f hn hdl 3 (.inr (.inr (.inr (.inl rfl)))) _ _ hi.ok.dl (by omega), q⟩
  by_cases k6 : x.kind = 6
  · cases f : fitL L x 2 with
    | false => exact (hear_prepN h hi.ok hm hW0 hbw hdl hp k6 f).mono fun e w' q => ⟨L, .same hi, q⟩
    | true =>
      have hph := fit_ph f
      cases hq : enoL (addL L x) with
      | false => exact (hear_prepQ h hi.ok hm hW0 hbw hdl hp k6 f hq).mono fun e w' q => ⟨_, t_add hi f hn hdl hq, q⟩
      | true =>
        refine (hear_prepV h hi.ok hm hW0 hbw hdl hp k6 f hq).mono fun e w' ⟨p, cm, a, hp01, ha, q⟩ => ⟨_, ?_, q⟩
        exact t_ent hi f hn hdl p (by rcases hp01 with r | r; exact .inl r; exact .inr (.inl r)) _ _ (by omega) (by rcases hp01 with r | r <;> omega)
  exact (hear_other h hi.ok hm hW0 hbw hdl hp ⟨k4, k7, k1, k3, k6⟩).mono fun e w' q => ⟨L, .same hi, q⟩
theorem rest_len2 (who : List Int) : ∀ ns : List Int, ((ns.filter fun n => !inB n who).length : Int) = ns.length - thN who ns
  | [] => rfl
  | a :: l => by
    have h := rest_len2 who l
    unfold thN at h ⊢
    by_cases q : inB a who = true
    · simp only [List.filter_cons, q, Bool.not_true, if_true, List.length_cons] at h ⊢
      simp only [Bool.false_eq_true, if_false]
      omega
    · have q2 : inB a who = false := by simpa using q
      simp only [List.filter_cons, q2, Bool.not_false, if_true, List.length_cons] at h ⊢
      simp only [Bool.false_eq_true, if_false]
      omega
theorem t_wait {ns : List Int} {L : LSt} (h : TInv ns L) (hov : overL L = false) (hn : ns ≠ []) : 0 < (wtL L).length := by
  have he := h.few hov hn
  have hr := rest_len2 L.who L.ns
  unfold wtL
  rw [hov]
  show 0 < (L.ns.filter fun n => !inB n L.who).length
  unfold enoL at he
  have he2 : ¬ (quoN (L.ns.length : Int) ≤ thN L.who L.ns) := of_decide_eq_false he
  have hl : 0 < L.ns.length := List.length_pos_iff.2 (by rw [h.ens]; exact hn)
  have hq : quoN (L.ns.length : Int) ≤ (L.ns.length : Int) := by
    unfold quoN
    rw [if_neg (by omega)]
    omega
  omega
theorem t_over {L : LSt} (h : overL L = true) : wtL L = [] := by unfold wtL; rw [if_pos h]
theorem t_sub {ns : List Int} {L : LSt} (h : TInv ns L) : ∀ n ∈ wtL L, n ∈ ns := by
  intro n hn
  unfold wtL at hn
  split at hn
  · cases hn
  · rw [← h.ens]; exact (List.mem_filter.1 hn).1
/-- Whom it waits for, counted in the configuration, are all of them. -/
theorem t_count {ns : List Int} {L : LSt} (h : TInv ns L) : thN (wtL L) ns = ((wtL L).length : Int) := by
  rw [← h.ens]
  unfold thN wtL
  split
  · have : (L.ns.filter fun x => inB x []) = [] := by
      rw [List.filter_eq_nil_iff]; intro a _; simp [inB]
    rw [this]
  · congr 2
    apply List.filter_congr
    intro n hn
    unfold inB
    by_cases q : n ∈ L.who
    · simp [q]
    · simp [q, hn]
end Go.Proofs.Ytplplehfkfjhnaa
namespace Go.Proofs.Ytplplehfkfjhnaa
open Go.RowKit
open Bb (quoN thN allB)
set_option linter.unusedSimpArgs false
set_option linter.unusedVariables false
set_option maxRecDepth 100000

theorem over2_any {w : World} {cs ds : List Value} {x y : Mg} (h : MsgIs w (.agg cs.toArray) x) (k : MsgIs w (.agg ds.toArray) y) (es : List Value) (he : cs ++ ds = es) (g : Nat) (hg : w.heap.size = g) : Calls Try.prog 9 #[.slice (some ⟨g, 0, none⟩) 2 2] (w.alloc (.cells es.toArray 44)) (OvP [x, y] (w.alloc (.cells es.toArray 44))) := by
  subst he
  obtain ⟨cs', e, u, u1, u2, u3, h⟩ := h
  injection e with e
  subst e
  obtain ⟨ds', e, v, v1, v2, v3, k⟩ := k
  injection e with e
  subst e
  simp only [List.toList_toArray] at h k
  have hl : cs.length = 27 := by rw [h.cs]; rfl
  have hk : ds.length = 27 := by rw [k.cs]; rfl
  obtain ⟨rs, hr⟩ := rowIs_lit (K := KM) (S := msS) rfl w [cs, ds] [x, y] rfl (by intro c hc; simp at hc; rcases hc with rfl | rfl; exact hl; exact hk) (fun j q1 q2 => by
    have hj : j = 0 ∨ j = 1 := by simp at q1; omega
    rcases hj with rfl | rfl
    · exact ⟨u, u1, u2, u3, h⟩
    · exact ⟨v, v1, v2, v3, k⟩) 44 2 2 rfl (by unfold maxLen; omega) g hg
  have e1 : [cs, ds].flatten = cs ++ ds := by simp
  rw [e1] at hr
  exact over_any _ rs [x, y] _ hr
set_option maxHeartbeats 16000000 in
theorem tells_law (ep : Int) (ao : Option Addr) (co : Nat) (zs : List Int) (x y : Mg) (v v2 v3 : Value) (rs : List (Cls 27)) (l : List Mg) (W : World) (hr : It W (.slice ao zs.length co) zs) (hm : MsgIs W v x) (hl : RowIs KM msS W v2 rs l) (hm2 : MsgIs W v3 y) :
    Calls Try.prog 3 #[.agg #[.int .i64 ep, .slice ao zs.length co], v, v2, v3] W fun e w' => e = .returned (.bool true) ∧ Below W.heap.size W w' := by
  have HOl := Lib.hid hl
  obtain ⟨a2', c2', e2'⟩ := rowSl hl
  subst e2'
  have HMI := Lib.hid hm
  have HMV := Lib.hid hm.mgv
  obtain ⟨ua, uc, a1, d1, c1, a2, d2, c2, a3, d3, c3, rfl, hrd, hok⟩ := hm.mgv
  obtain ⟨n0, n1, n2, ⟨n3, n4, n5⟩, ⟨n6, n7⟩, ⟨n8, ⟨n9, n10⟩, ⟨n11, n12⟩, ⟨n13, n14, n15, n16, n17, n18, n19, n20⟩, n21, dl⟩, sn0⟩ := x
  obtain ⟨n23, sn1⟩ : ∃ q, sn0.1.1 = q := ⟨_, rfl⟩
  obtain ⟨M, hM⟩ : ∃ M, dl.length = M := ⟨_, rfl⟩
  have HMl := Lib.hid hM
  simp only at hrd hok
  simp only [msE, inE, snV, hM, sn1, List.cons_append, List.nil_append] at hrd HMI HMV ⊢
  clear hM sn1 hm
  have HMI2 := Lib.hid hm2
  have HMV2 := Lib.hid hm2.mgv
  obtain ⟨ub, ub2, b1, g1, k1, b2, g2, k2, b3, g3, k3, rfl, hrd2, hok2⟩ := hm2.mgv
  obtain ⟨m0, m1, m2, ⟨m3, m4, m5⟩, ⟨m6, m7⟩, ⟨m8, ⟨m9, m10⟩, ⟨m11, m12⟩, ⟨m13, m14, m15, m16, m17, m18, m19, m20⟩, m21, ml⟩, tn0⟩ := y
  obtain ⟨m23, tn1⟩ : ∃ q, tn0.1.1 = q := ⟨_, rfl⟩
  obtain ⟨Mb, hMb⟩ : ∃ M, ml.length = M := ⟨_, rfl⟩
  simp only at hrd2 hok2
  simp only [msE, inE, snV, hMb, tn1, List.cons_append, List.nil_append] at hrd2 HMI2 HMV2 ⊢
  clear hMb tn1 hm2
  obtain ⟨K, hK⟩ : ∃ K, l.length = K := ⟨_, rfl⟩
  have hlen := hl.rd.len
  rw [hl.len, hK] at hlen
  have hK63 : K ≤ 9223372036854775807 := by unfold maxLen at hlen; omega
  obtain ⟨N, hN⟩ : ∃ N, zs.length = N := ⟨_, rfl⟩
  have hN63 := hr.len
  rw [hK] at HOl hl ⊢
  rw [hN] at hN63 ⊢
  have HR := Lib.hid hl
  have HK := Lib.hid hK
  obtain ⟨X0, hX0⟩ : ∃ X0, ((W.alloc (.cells #[.int .i64 ep, .slice ao N co] 24)).alloc (.cells #[.int .i64 n0, .int .i64 n1, .int .i64 n2, .int .i64 n3, .int .i64 n4, .int .i64 n5, .int .i64 n6, .int .i64 n7, .int .i64 n8, .int .i64 n9, .int .i64 n10, .int .i64 n11, .int .i64 n12, .int .i64 n13, .int .i64 n14, .int .i64 n15, .string n16, .string n17, .int .i64 n18, .int .i64 n19, .int .i64 n20, .int .i64 n21, .slice ua M uc, .int .i64 n23, .slice a1 d1 c1, .slice a2 d2 c2, .slice a3 d3 c3] 44)).alloc (.cells #[.int .i64 m0, .int .i64 m1, .int .i64 m2, .int .i64 m3, .int .i64 m4, .int .i64 m5, .int .i64 m6, .int .i64 m7, .int .i64 m8, .int .i64 m9, .int .i64 m10, .int .i64 m11, .int .i64 m12, .int .i64 m13, .int .i64 m14, .int .i64 m15, .string m16, .string m17, .int .i64 m18, .int .i64 m19, .int .i64 m20, .int .i64 m21, .slice ub Mb ub2, .int .i64 m23, .slice b1 g1 k1, .slice b2 g2 k2, .slice b3 g3 k3] 44) = X0 := ⟨_, rfl⟩
  have HC0 : Hid (Bk X0 W.heap.size 24 [.int .i64 ep, .slice ao N co]) := Lib.hid (by rw [← hX0]; exact ((Bk.newAt rfl _ [.int .i64 ep, .slice ao N co]).old _).old _)
  have HM0 : Hid (Bk X0 (W.heap.size + 1) 44 [.int .i64 n0, .int .i64 n1, .int .i64 n2, .int .i64 n3, .int .i64 n4, .int .i64 n5, .int .i64 n6, .int .i64 n7, .int .i64 n8, .int .i64 n9, .int .i64 n10, .int .i64 n11, .int .i64 n12, .int .i64 n13, .int .i64 n14, .int .i64 n15, .string n16, .string n17, .int .i64 n18, .int .i64 n19, .int .i64 n20, .int .i64 n21, .slice ua M uc, .int .i64 n23, .slice a1 d1 c1, .slice a2 d2 c2, .slice a3 d3 c3]) := Lib.hid (by rw [← hX0]; exact (Bk.newAt (by simp) _ [.int .i64 n0, .int .i64 n1, .int .i64 n2, .int .i64 n3, .int .i64 n4, .int .i64 n5, .int .i64 n6, .int .i64 n7, .int .i64 n8, .int .i64 n9, .int .i64 n10, .int .i64 n11, .int .i64 n12, .int .i64 n13, .int .i64 n14, .int .i64 n15, .string n16, .string n17, .int .i64 n18, .int .i64 n19, .int .i64 n20, .int .i64 n21, .slice ua M uc, .int .i64 n23, .slice a1 d1 c1, .slice a2 d2 c2, .slice a3 d3 c3]).old _)
  have HM9 : Hid (Bk X0 (W.heap.size + 1 + 1) 44 [.int .i64 m0, .int .i64 m1, .int .i64 m2, .int .i64 m3, .int .i64 m4, .int .i64 m5, .int .i64 m6, .int .i64 m7, .int .i64 m8, .int .i64 m9, .int .i64 m10, .int .i64 m11, .int .i64 m12, .int .i64 m13, .int .i64 m14, .int .i64 m15, .string m16, .string m17, .int .i64 m18, .int .i64 m19, .int .i64 m20, .int .i64 m21, .slice ub Mb ub2, .int .i64 m23, .slice b1 g1 k1, .slice b2 g2 k2, .slice b3 g3 k3]) := Lib.hid (by rw [← hX0]; exact Bk.newAt (by simp) _ [.int .i64 m0, .int .i64 m1, .int .i64 m2, .int .i64 m3, .int .i64 m4, .int .i64 m5, .int .i64 m6, .int .i64 m7, .int .i64 m8, .int .i64 m9, .int .i64 m10, .int .i64 m11, .int .i64 m12, .int .i64 m13, .int .i64 m14, .int .i64 m15, .string m16, .string m17, .int .i64 m18, .int .i64 m19, .int .i64 m20, .int .i64 m21, .slice ub Mb ub2, .int .i64 m23, .slice b1 g1 k1, .slice b2 g2 k2, .slice b3 g3 k3])
  have HW0 : Hid (Below W.heap.size W X0) := Lib.hid (by rw [← hX0]; exact (((Below.refl _ _).alloc (Nat.le_refl _) _).alloc (by simp) _).alloc (by simp; omega) _)
  have HIt := Lib.hid (hr.below HW0.out)
  have HRow : Hid (IRow X0 ao zs) := Lib.hid (by
    obtain ⟨a, c, e, h1, h2⟩ := HIt.out.row
    injection e with e1 e2 e3
    subst e1
    exact h1)
  have HMI0 := Lib.hid (HMI.out.on HW0.out)
  have HMI9 := Lib.hid (HMI2.out.on HW0.out)
  have HWk := Lib.hid (works_any X0)
  have HN' := Lib.hid hN
  have HTk : Hid (∀ w, It w (.slice ao zs.length co) zs → zs.length ≤ 1000 → Calls Try.prog 10 #[.agg #[.int .i64 ep, .slice ao N co], .int .i64 n1, .agg #[.int .i64 n3, .int .i64 n4, .int .i64 n5], .agg #[.int .i64 n6, .int .i64 n7]] w (LdP (tkL ep zs n1 (n3, n4, n5) (n6, n7)) w)) := Lib.hid fun w h1 h2 => by
    have h := take_any ep ao co zs n1 n3 n4 n5 n6 n7 w h1 h2
    rw [hN] at h
    exact h
  have HHs : Hid (∀ w, IRow w ao zs → ∀ fr : Int, Calls Try.prog 14 #[.agg #[.int .i64 ep, .slice ao N co], .int .i64 fr] w fun e w' => e = .returned (.bool (inB fr zs)) ∧ Below w.heap.size w w') := Lib.hid fun w h1 fr => by
    have h := rcHas_any ep fr ao co zs w h1
    rw [hN] at h
    exact h
  have HCo : Hid (∀ w, IRow w ao zs → ∀ (aw : Option Addr) (cw : Nat) (who : List Int) (m : Nat), who.length = m → IRow w aw who → Calls Try.prog 16 #[.agg #[.int .i64 ep, .slice ao N co], .slice aw m cw] w fun e w' => e = .returned (.int .i64 (thN who zs)) ∧ Below w.heap.size w w') := Lib.hid fun w h1 aw cw who m hm h2 => by
    have h := refCount_any ep ao aw co cw zs who w h1 h2
    rw [hN, hm] at h
    exact h
  have HOv2 : Hid (∀ V : World, Below X0.heap.size X0 V → ∀ g, V.heap.size = g → Calls Try.prog 9 #[.slice (some ⟨g, 0, none⟩) 2 2] (V.alloc (.cells #[.int .i64 n0, .int .i64 n1, .int .i64 n2, .int .i64 n3, .int .i64 n4, .int .i64 n5, .int .i64 n6, .int .i64 n7, .int .i64 n8, .int .i64 n9, .int .i64 n10, .int .i64 n11, .int .i64 n12, .int .i64 n13, .int .i64 n14, .int .i64 n15, .string n16, .string n17, .int .i64 n18, .int .i64 n19, .int .i64 n20, .int .i64 n21, .slice ua M uc, .int .i64 n23, .slice a1 d1 c1, .slice a2 d2 c2, .slice a3 d3 c3, .int .i64 m0, .int .i64 m1, .int .i64 m2, .int .i64 m3, .int .i64 m4, .int .i64 m5, .int .i64 m6, .int .i64 m7, .int .i64 m8, .int .i64 m9, .int .i64 m10, .int .i64 m11, .int .i64 m12, .int .i64 m13, .int .i64 m14, .int .i64 m15, .string m16, .string m17, .int .i64 m18, .int .i64 m19, .int .i64 m20, .int .i64 m21, .slice ub Mb ub2, .int .i64 m23, .slice b1 g1 k1, .slice b2 g2 k2, .slice b3 g3 k3] 44)) (OvP [⟨n0, n1, n2, (n3, n4, n5), (n6, n7), ⟨n8, (n9, n10), (n11, n12), ⟨n13, n14, n15, n16, n17, n18, n19, n20⟩, (n21, dl)⟩, sn0⟩, ⟨m0, m1, m2, (m3, m4, m5), (m6, m7), ⟨m8, (m9, m10), (m11, m12), ⟨m13, m14, m15, m16, m17, m18, m19, m20⟩, (m21, ml)⟩, tn0⟩] (V.alloc (.cells #[.int .i64 n0, .int .i64 n1, .int .i64 n2, .int .i64 n3, .int .i64 n4, .int .i64 n5, .int .i64 n6, .int .i64 n7, .int .i64 n8, .int .i64 n9, .int .i64 n10, .int .i64 n11, .int .i64 n12, .int .i64 n13, .int .i64 n14, .int .i64 n15, .string n16, .string n17, .int .i64 n18, .int .i64 n19, .int .i64 n20, .int .i64 n21, .slice ua M uc, .int .i64 n23, .slice a1 d1 c1, .slice a2 d2 c2, .slice a3 d3 c3, .int .i64 m0, .int .i64 m1, .int .i64 m2, .int .i64 m3, .int .i64 m4, .int .i64 m5, .int .i64 m6, .int .i64 m7, .int .i64 m8, .int .i64 m9, .int .i64 m10, .int .i64 m11, .int .i64 m12, .int .i64 m13, .int .i64 m14, .int .i64 m15, .string m16, .string m17, .int .i64 m18, .int .i64 m19, .int .i64 m20, .int .i64 m21, .slice ub Mb ub2, .int .i64 m23, .slice b1 g1 k1, .slice b2 g2 k2, .slice b3 g3 k3] 44)))) := Lib.hid fun V hV g hg => over2_any (HMI0.out.on hV) (HMI9.out.on hV) [.int .i64 n0, .int .i64 n1, .int .i64 n2, .int .i64 n3, .int .i64 n4, .int .i64 n5, .int .i64 n6, .int .i64 n7, .int .i64 n8, .int .i64 n9, .int .i64 n10, .int .i64 n11, .int .i64 n12, .int .i64 n13, .int .i64 n14, .int .i64 n15, .string n16, .string n17, .int .i64 n18, .int .i64 n19, .int .i64 n20, .int .i64 n21, .slice ua M uc, .int .i64 n23, .slice a1 d1 c1, .slice a2 d2 c2, .slice a3 d3 c3, .int .i64 m0, .int .i64 m1, .int .i64 m2, .int .i64 m3, .int .i64 m4, .int .i64 m5, .int .i64 m6, .int .i64 m7, .int .i64 m8, .int .i64 m9, .int .i64 m10, .int .i64 m11, .int .i64 m12, .int .i64 m13, .int .i64 m14, .int .i64 m15, .string m16, .string m17, .int .i64 m18, .int .i64 m19, .int .i64 m20, .int .i64 m21, .slice ub Mb ub2, .int .i64 m23, .slice b1 g1 k1, .slice b2 g2 k2, .slice b3 g3 k3] rfl g hg
  clear hr hrd hok HMV HMI hl hlen hrd2 hok2 HMI2
  go_enter Try.func3, Try.ntmps3
  go_wp2_with fail
  try rw [hX0]
  refine HWk.out.mono ?_
  rintro e w1 ⟨rfl, hb⟩
  have HX := Lib.hid hb
  clear hX0 HWk hb
  go_wp2_with fail
  refine (over_any _ rs l w1 ((HOl.out.on HW0.out).on HX.out)).mono ?_
  rintro e w2 ⟨R, he, hR, hb⟩
  rw [he.out]
  have HX' := Lib.hid (HX.out.trans (hb.mono HX.out.size))
  clear hb HX
  have HX := HX'
  clear HX'
  cases R with
  | true =>
    go_wp2
    go_ret
    exact ⟨rfl, HW0.out.trans (HX.out.mono HW0.out.size)⟩
  | false =>
  have HLl := Lib.hid (hR rfl)
  clear he hR
  have HM2 := Lib.hid (HM0.out.below HX.out)
  have HM8 := Lib.hid (HM9.out.below HX.out)
  go_wp2_with (first
    | refine wpList_load_rowG rfl _ _ rfl (W.heap.size + 1) rfl 44 _ (0, 0) _ HM2.out Try.underlying44 rfl infoMs ?_
    | refine wpList_load_rowG rfl _ _ rfl (W.heap.size + 1 + 1) rfl 44 _ (0, 0) _ HM8.out Try.underlying44 rfl infoMs ?_
    | fail)
  refine (HOv2.out w2 HX.out _ rfl).mono ?_
  rintro e w3 ⟨R, he, hR, hb⟩
  rw [he.out]
  have hb := (al1 w2 (.cells #[.int .i64 n0, .int .i64 n1, .int .i64 n2, .int .i64 n3, .int .i64 n4, .int .i64 n5, .int .i64 n6, .int .i64 n7, .int .i64 n8, .int .i64 n9, .int .i64 n10, .int .i64 n11, .int .i64 n12, .int .i64 n13, .int .i64 n14, .int .i64 n15, .string n16, .string n17, .int .i64 n18, .int .i64 n19, .int .i64 n20, .int .i64 n21, .slice ua M uc, .int .i64 n23, .slice a1 d1 c1, .slice a2 d2 c2, .slice a3 d3 c3, .int .i64 m0, .int .i64 m1, .int .i64 m2, .int .i64 m3, .int .i64 m4, .int .i64 m5, .int .i64 m6, .int .i64 m7, .int .i64 m8, .int .i64 m9, .int .i64 m10, .int .i64 m11, .int .i64 m12, .int .i64 m13, .int .i64 m14, .int .i64 m15, .string m16, .string m17, .int .i64 m18, .int .i64 m19, .int .i64 m20, .int .i64 m21, .slice ub Mb ub2, .int .i64 m23, .slice b1 g1 k1, .slice b2 g2 k2, .slice b3 g3 k3] 44)).trans (hb.mono (by simp))
  have HX' := Lib.hid (HX.out.trans (hb.mono HX.out.size))
  clear hb HX
  have HX := HX'
  clear HX'
  cases R with
  | true =>
    go_wp2
    go_ret
    exact ⟨rfl, HW0.out.trans (HX.out.mono HW0.out.size)⟩
  | false =>
  have HLy : Hid (ml.length ≤ 60) := Lib.hid ((hR rfl).2 ⟨m0, m1, m2, (m3, m4, m5), (m6, m7), ⟨m8, (m9, m10), (m11, m12), ⟨m13, m14, m15, m16, m17, m18, m19, m20⟩, (m21, ml)⟩, tn0⟩ (by simp))
  clear he hR HM2 HM8
  have cc0 := (HC0.out.below HX.out).cell 0
  have cc1 := (HC0.out.below HX.out).cell 1
  simp only [List.getElem?_cons_zero, List.getElem?_cons_succ] at cc0 cc1
  by_cases q1 : (40 : Int) < (N : Int)
  · have dq1 : decide ((40 : Int) < (N : Int)) = true := decide_eq_true q1
    have dq1n : decide (40 < N) = true := decide_eq_true (by omega)
    go_wp2
    go_ret
    exact ⟨rfl, HW0.out.trans (HX.out.mono HW0.out.size)⟩
  have dq1 : decide ((40 : Int) < (N : Int)) = false := decide_eq_false q1
  have dq1n : decide (40 < N) = false := decide_eq_false (by omega)
  have HN : Hid (zs.length ≤ 40) := Lib.hid (by rw [HN'.out]; omega)
  clear hN
  have y1 := (HM0.out.below HX.out).cell 1
  have y3 := (HM0.out.below HX.out).cell 3
  have y4 := (HM0.out.below HX.out).cell 4
  have y5 := (HM0.out.below HX.out).cell 5
  have y6 := (HM0.out.below HX.out).cell 6
  have y7 := (HM0.out.below HX.out).cell 7
  simp only [List.getElem?_cons_zero, List.getElem?_cons_succ] at y1 y3 y4 y5 y6 y7
  go_wp2_with fail
  refine (HTk.out w3 (HIt.out.below HX.out) (Nat.le_trans HN.out (by omega))).mono ?_
  rintro e w5 ⟨g, he, hl, hb⟩
  rw [he.out]
  obtain ⟨B, hB⟩ : ∃ B, w3.heap.size = B := ⟨_, rfl⟩
  have hXB : X0.heap.size ≤ B := hB ▸ HX.out.size
  have hWB : W.heap.size ≤ B := Nat.le_trans HW0.out.size hXB
  have HL5 : Hid (LdAt w5 B g (tkL ep zs n1 (n3, n4, n5) (n6, n7))) := Lib.hid (hB ▸ hl)
  have HI5 : Hid (TInv zs (tkL ep zs n1 (n3, n4, n5) (n6, n7))) := Lib.hid ⟨tkL_ok _ _ _ _ _ HN.out, rfl, rfl, .inr (.inr (.inl rfl)), fun _ hn => eno_nil _ rfl hn⟩
  have HX' := Lib.hid (HX.out.trans (hb.mono HX.out.size))
  clear hb HX
  have HX := HX'
  clear HX'
  clear he hl hB y1 y3 y4 y5 y6 y7 cc0 cc1 dq1 dq1n q1 HTk
  go_wp2_with fail
  go_loopw [11] (fun i wr => ∃ (k : Nat) (L : LSt), k ≤ K ∧ i = .int .i64 k ∧ Hid (TInv zs L) ∧ Hid (LdAt wr B g L) ∧ Hid (Below X0.heap.size X0 wr)) (fun i _ => K - (intOf i).toNat)
  case atStart => exact ⟨0, _, Nat.zero_le _, rfl, HI5, HL5, HX⟩
  case round =>
    clear HL5 HI5 HX
    obtain ⟨k, L, hk, rfl, HI, HL, HX⟩ := hrel
    by_cases hlt : k < K
    · have hk1 : (k : Int) < (K : Int) := by omega
      have hk2 : decide ((k : Int) < (K : Int)) = true := decide_eq_true hk1
      have hk3 : decide (k < K) = true := decide_eq_true hlt
      obtain ⟨-, hlk, gg, off, cs, ha, hg, hcs, hc⟩ := HR.out.el rfl k hlt
      subst ha
      have eK : KM.k = 27 := rfl
      rw [eK] at hc
      clear eK
      have HWr : Hid (Below W.heap.size W wr) := Lib.hid (HW0.out.trans (HX.out.mono HW0.out.size))
      have HCE : Hid (∀ V : World, Below W.heap.size W V → V.rangeAt gg (off + k * 27) cs) := Lib.hid fun V hV j v hv => (hV.cell (p := ⟨gg, off + k * 27 + j, none⟩) hg).trans (hc j v hv)
      have hlc : cs.length = 27 := by obtain ⟨u, u1, u2, u3, hq⟩ := hcs; rw [hq.cs]; rfl
      have Hinf : Hid ((Try.prog.info? 44).map (·.size) = some cs.length) := Lib.hid (by rw [hlc]; kernel_rfl)
      have HMk : Hid (MgV W (.agg cs.toArray) l[k]) := Lib.hid (MsgIs.mgv ⟨cs.toArray, rfl, by simpa using hcs⟩)
      have HD : Hid (l[k].ins.at'.2.length ≤ 60) := Lib.hid (HLl.out.2 _ (List.getElem_mem hlk))
      clear hc hcs hlc
      go_wp2_with fail
      refine (wait_any HL.out HI.out.ok).mono ?_
      rintro e w6 ⟨vw, he, ho, hb⟩
      rw [he.out]
      obtain ⟨aw, cw, ew⟩ := OwnI.slice ho
      obtain ⟨m, hm⟩ : ∃ m, (wtL L).length = m := ⟨_, rfl⟩
      rw [hm] at ew
      subst ew
      have HMm := Lib.hid hm
      have HL6 := Lib.hid (HL.out.below hb)
      have HX' := Lib.hid (HX.out.trans (hb.mono HX.out.size))
      clear hb HX
      have HX := HX'
      clear HX'
      clear he ho hm HL
      go_wp2_with fail
      refine (phase_any HL6.out).mono ?_
      rintro e _ ⟨rfl, rfl⟩
      have HRG := Lib.hid (HCE.out _ (HW0.out.trans (HX.out.mono HW0.out.size)))
      have HHr := Lib.hid (tinv_hear HL6.out HI.out HMk.out hWB (HW0.out.trans (HX.out.mono HW0.out.size)) HD.out)
      obtain ⟨p1, hp1⟩ : ∃ p, L.ph = p := ⟨_, rfl⟩
      rw [hp1]
      have HP1 := Lib.hid hp1
      clear hp1
      go_wp2_with (first | refine wpList_load_mid rfl _ _ rfl gg (off + k * 27) rfl _ _ HRG.out Try.underlying44 rfl Hinf.out ?_ | fail)
      refine HHr.out.mono ?_
      rintro e w7 ⟨M1, ⟨hi, hwt⟩, he, hl, hb, -⟩
      rw [he.out]
      have HI1 := Lib.hid hi
      have HWt := Lib.hid hwt
      have HL7 := Lib.hid hl
      have HX' := Lib.hid (HX.out.trans (hb.mono hXB))
      obtain ⟨p2, hp2⟩ : ∃ p, M1.ph = p := ⟨_, rfl⟩
      have HP2 := Lib.hid hp2
      rw [hp2, HP1.out]
      clear hi hwt he hl hb HX HL6 HI HHr HRG hp2
      have HX := HX'
      clear HX'
      by_cases hq : p2 = p1
      · have q2 : (p2 != p1) = false := by simp [hq]
        have q3 : decide (p2 = p1) = true := decide_eq_true hq
        rw [q2]
        go_wp2_with fail
        refine (phase_any HL7.out).mono ?_
        rintro e _ ⟨rfl, rfl⟩
        rw [HP2.out]
        go_wp2_with fail
        refine (wait_any HL7.out HI1.out.ok).mono ?_
        rintro e w8 ⟨vw, he, ho, hb⟩
        rw [he.out]
        obtain ⟨aw, cw, ew⟩ := OwnI.slice ho
        obtain ⟨n, hn⟩ : ∃ m, (wtL M1).length = m := ⟨_, rfl⟩
        rw [hn] at ew
        subst ew
        have hnm : n ≤ m := by
          have h1 := HWt.out (by rw [HP2.out, HP1.out]; exact hq)
          rw [HMm.out] at h1
          omega
        have hn1 : ¬ (m : Int) < (n : Int) := by omega
        have hn2 : decide ((m : Int) < (n : Int)) = false := decide_eq_false hn1
        have hn3 : decide (m < n) = false := decide_eq_false (by omega)
        have HL8 := Lib.hid (HL7.out.below hb)
        have HX' := Lib.hid (HX.out.trans (hb.mono HX.out.size))
        clear hb HX
        have HX := HX'
        clear HX'
        clear he ho hn HL7
        go_wp2_with fail
        refine (phase_any HL8.out).mono ?_
        rintro e _ ⟨rfl, rfl⟩
        rw [HP2.out]
        clear hnm hn1
        go_wp2_with fail
        go_roundw
        case rel => exact ⟨k + 1, M1, by omega, by go_num, HI1, HL8, HX⟩
        case measure => simp [intOf]; omega
      · have q2 : (p2 != p1) = true := by simp [hq]
        have q3 : decide (p2 = p1) = false := decide_eq_false hq
        rw [q2]
        go_wp2_with fail
        refine (phase_any HL7.out).mono ?_
        rintro e _ ⟨rfl, rfl⟩
        rw [HP2.out]
        go_wp2_with fail
        go_roundw
        case rel => exact ⟨k + 1, M1, by omega, by go_num, HI1, HL7, HX⟩
        case measure => simp [intOf]; omega
    · have e : k = K := by omega
      subst e
      have hk2 : decide ((k : Int) < (k : Int)) = false := decide_eq_false (by omega)
      have hk3 : decide (k < k) = false := decide_eq_false (by omega)
      go_wp2_with fail
      refine (wait_any HL.out HI.out.ok).mono ?_
      rintro e w6 ⟨vw, he, ho, hb⟩
      rw [he.out]
      obtain ⟨aw, cw, ew⟩ := OwnI.slice ho
      obtain ⟨m, hm⟩ : ∃ m, (wtL L).length = m := ⟨_, rfl⟩
      have hIw := ho.it (by have := List.length_filter_le (fun n => !inB n L.who) L.ns; have h2 := HI.out.ok.nl; unfold wtL; split <;> simp <;> omega)
      have HIw : Hid (IRow w6 aw (wtL L)) := Lib.hid (by
        obtain ⟨a, c, e, h1, h2⟩ := hIw.row
        rw [ew] at e
        injection e with e1 e2 e3
        subst e1
        exact h1)
      rw [hm] at ew
      subst ew
      have HMm := Lib.hid hm
      have HL6 := Lib.hid (HL.out.below hb)
      have HX' := Lib.hid (HX.out.trans (hb.mono HX.out.size))
      clear hb HX
      have HX := HX'
      clear HX'
      have HX6 := HX
      have hm63 : m ≤ 9223372036854775807 := by have := HIw.out.1; rw [HMm.out] at this; exact this
      clear he ho hm HL hIw
      go_wp2_with fail
      go_loopw [16] (fun i wr => ∃ (t : Nat), t ≤ m ∧ i = .int .i64 t ∧ Hid (Below w6.heap.size w6 wr)) (fun i _ => m - (intOf i).toNat)
      case atStart => exact ⟨0, Nat.zero_le _, rfl, Lib.hid (Below.refl _ _)⟩
      case round =>
        obtain ⟨t, ht, rfl, HQ⟩ := hrel
        by_cases hlt2 : t < m
        · have ht1 : (t : Int) < (m : Int) := by omega
          have ht2 : decide ((t : Int) < (m : Int)) = true := decide_eq_true ht1
          have ht3 : decide (t < m) = true := decide_eq_true hlt2
          obtain ⟨hlw, hrow⟩ := HIw.out
          rcases hrow with h0 | ⟨bq, oq, rfl, hbq, hcq⟩
          · exfalso
            have := HMm.out
            rw [h0] at this
            simp at this
            omega
          have htl : t < (wtL L).length := by rw [HMm.out]; exact hlt2
          have hcz := hcq t htl
          have hz : inB ((wtL L).getD t 0) zs = true := by
            have h1 : (wtL L).getD t 0 = (wtL L)[t] := by simp [List.getD, htl]
            rw [h1]
            have h2 := t_sub HI.out _ (List.getElem_mem htl)
            unfold inB
            exact decide_eq_true h2
          obtain ⟨z, hzz⟩ : ∃ z, (wtL L).getD t 0 = z := ⟨_, rfl⟩
          rw [hzz] at hcz hz
          have HXq := Lib.hid (HX6.out.trans (HQ.out.mono HX6.out.size))
          have HHz : Hid (∀ V : World, Below wr.heap.size wr V → Calls Try.prog 14 #[.agg #[.int .i64 ep, .slice ao N co], .int .i64 z] V fun e w' => e = .returned (.bool true) ∧ Below V.heap.size V w') := Lib.hid fun V hV => by
            have q := HHs.out V ((HRow.out.below HXq.out).below hV) z
            rw [hz] at q
            exact q
          have hcq2 := (HQ.out.cell (p := ⟨bq, oq + t, none⟩) hbq).trans hcz
          have hbq2 : bq < wr.heap.size := Nat.lt_of_lt_of_le hbq HQ.out.size
          have HC : Hid (∀ w' : World, Below wr.heap.size wr w' → Below wr.heap.size wr w' ∧ w'.cell? ⟨W.heap.size, 0, none⟩ = some (.int .i64 ep) ∧ w'.cell? ⟨W.heap.size, 1, none⟩ = some (.slice ao N co) ∧ w'.cell? ⟨bq, oq + t, none⟩ = some (.int .i64 z)) := Lib.hid fun w' hb => by
            have q := (HC0.out.below HXq.out).below hb
            exact ⟨hb, q.cell 0, q.cell 1, (hb.cell (p := ⟨bq, oq + t, none⟩) hbq2).trans hcq2⟩
          clear hlw hcq hcz hz hzz HXq hcq2 htl
          go_wp2_with fail
          refine wp_region_held_drew (S := (fun w' => Below wr.heap.size wr w' ∧ w'.cell? ⟨W.heap.size, 0, none⟩ = some (.int .i64 ep) ∧ w'.cell? ⟨W.heap.size, 1, none⟩ = some (.slice ao N co) ∧ w'.cell? ⟨bq, oq + t, none⟩ = some (.int .i64 z))) (by kernel_rfl) ?_ (fun hHeld => ?_)
          · (first
            | exact HC.out _ hs1
            | exact HC.out _ (Below.refl _ _).drew
            | exact HC.out _ (Below.refl _ _)
            | fail)
          refine wpAnyH_take (i := 0) (v := ?_) rfl (by kernel_rfl) (by kernel_rfl) (by kernel_rfl) (fun _ _ _ h => h) (Or.inl ⟨by rfl, ?_⟩) (by assumption) ?_
          rotate_left
          · (intro w hSw; (try dsimp only at hSw); go_simp; try rfl)
          try simp only [Act.put, List.setIfInBounds_toArray, List.set_cons_zero, List.set_cons_succ, List.getElem_toArray, List.getElem_cons_zero, List.getElem_cons_succ]
          refine wpAnyH_take (i := 1) (v := ?_) rfl (by kernel_rfl) (by kernel_rfl) (by kernel_rfl) (fun _ _ _ h => h) (Or.inl ⟨by rfl, ?_⟩) (by assumption) ?_
          rotate_left
          · (intro w hSw; (try dsimp only at hSw); go_simp; try rfl)
          try simp only [Act.put, List.setIfInBounds_toArray, List.set_cons_zero, List.set_cons_succ, List.getElem_toArray, List.getElem_cons_zero, List.getElem_cons_succ]
          refine wpAnyH_take (i := 2) (v := ?_) rfl (by kernel_rfl) (by kernel_rfl) (by kernel_rfl) (fun _ _ _ h => h) (Or.inl ⟨by rfl, ?_⟩) (by assumption) ?_
          rotate_left
          · (intro w hSw; (try dsimp only at hSw); go_simp; try rfl)
          try simp only [Act.put, List.setIfInBounds_toArray, List.set_cons_zero, List.set_cons_succ, List.getElem_toArray, List.getElem_cons_zero, List.getElem_cons_succ]
          refine wpAnyH_take (i := 3) (v := ?_) rfl (by kernel_rfl) (by kernel_rfl) (by kernel_rfl) (fun _ _ _ h => h) (Or.inl ⟨by rfl, ?_⟩) (by assumption) ?_
          rotate_left
          · (intro w hSw; (try dsimp only at hSw); go_simp; try rfl)
          try simp only [Act.put, List.setIfInBounds_toArray, List.set_cons_zero, List.set_cons_succ, List.getElem_toArray, List.getElem_cons_zero, List.getElem_cons_succ]
          refine wpAnyH_take (i := 4) (v := ?_) rfl (by kernel_rfl) (by kernel_rfl) (by kernel_rfl) (fun _ _ _ h => h) (Or.inl ⟨by rfl, ?_⟩) (by assumption) ?_
          rotate_left
          · (intro w hSw; (try dsimp only at hSw); go_simp; try rfl)
          try simp only [Act.put, List.setIfInBounds_toArray, List.set_cons_zero, List.set_cons_succ, List.getElem_toArray, List.getElem_cons_zero, List.getElem_cons_succ]
          refine wpAnyH_ready (rs := [5]) (by kernel_rfl) (by simp) ?_
          refine (AllReadyH.cons rfl (fun K hK => ?_) AllReadyH.nil)
          go_simp
          (go_at_call 14; refine (HHz.out _ hHeld.1).mono ?_; rintro e w7 ⟨rfl, hb7⟩; have hs1 : Below wr.heap.size wr w7 := below_self hHeld.1 hb7)
          refine hK.out _ _ ?_ (fun hHeld => ?_)
          · (first
            | exact HC.out _ hs1
            | exact HC.out _ (Below.refl _ _).drew
            | exact HC.out _ (Below.refl _ _)
            | fail)
          clear hK K
          try simp only [Act.put, List.setIfInBounds_toArray, List.set_cons_zero, List.set_cons_succ, List.getElem_toArray, List.getElem_cons_zero, List.getElem_cons_succ]
          refine wpAnyH_take (i := 6) (v := ?_) rfl (by kernel_rfl) (by kernel_rfl) (by kernel_rfl) (fun _ _ _ h => h) (Or.inl ⟨by rfl, ?_⟩) (by assumption) ?_
          rotate_left
          · (intro w hSw; (try dsimp only at hSw); go_simp; try rfl)
          try simp only [Act.put, List.setIfInBounds_toArray, List.set_cons_zero, List.set_cons_succ, List.getElem_toArray, List.getElem_cons_zero, List.getElem_cons_succ]
          refine wpAnyH_done (by kernel_rfl) ?_ _
          have HQ7 := Lib.hid (HQ.out.trans (hs1.mono HQ.out.size))
          clear hs1 hb7 HC HHz HQ
          go_wp2_with fail
          go_roundw
          case rel => exact ⟨t + 1, by omega, by go_num, HQ7⟩
          case measure => simp [intOf]; omega
        · have e : t = m := by omega
          subst e
          have ht2 : decide ((t : Int) < (t : Int)) = false := decide_eq_false (by omega)
          have ht3 : decide (t < t) = false := decide_eq_false (by omega)
          have HLq := Lib.hid (HL6.out.below HQ.out)
          have HXq := Lib.hid (HX6.out.trans (HQ.out.mono HX6.out.size))
          have HIq := Lib.hid (HIw.out.below HQ.out)
          obtain ⟨p1, hp1⟩ : ∃ p, L.ph = p := ⟨_, rfl⟩
          have HP1 := Lib.hid hp1
          clear hp1 HQ HX6 HL6
          go_wp2_with fail
          refine (phase_any HLq.out).mono ?_
          rintro e _ ⟨rfl, rfl⟩
          rw [HP1.out]
          by_cases hov : p1 = 3 ∨ p1 = 4
          · have hovL : overL L = true := by
              unfold overL
              rw [HP1.out]
              rcases hov with r | r <;> rw [r] <;> rfl
            have ht0 : t = 0 := by rw [← HMm.out, t_over hovL]; rfl
            subst ht0
            have HSk := Lib.hid (hear_skip HLq.out HI.out.ok HMV2.out hWB (HW0.out.trans (HXq.out.mono HW0.out.size)) HLy.out (by unfold passL; rw [hovL]; rfl))
            have hsl : slowB L = false := by
              unfold slowB
              rw [HP1.out]
              rcases hov with r | r <;> rw [r] <;> rfl
            have HSl := Lib.hid hsl
            have HM8 := Lib.hid (HM9.out.below HXq.out)
            clear hovL hsl
            have h3b : (p1 == 3) = decide (p1 = 3) := by by_cases h : p1 = 3 <;> simp [h]
            have h4b : (p1 == 4) = decide (p1 = 4) := by by_cases h : p1 = 4 <;> simp [h]
            by_cases q3 : p1 = 3
            · have q3d : decide (p1 = 3) = true := decide_eq_true q3
              have q3b : (p1 == 3) = true := h3b.trans q3d
              clear h3b h4b hov
              go_wp2_with (first
                | refine wpList_load_rowG rfl _ _ rfl (W.heap.size + 1 + 1) rfl 44 _ (0, 0) _ HM8.out Try.underlying44 rfl infoMs ?_
                | fail)
              refine HSk.out.mono ?_
              rintro e w9 ⟨he, hl, hb, -⟩
              rw [he.out]
              rw [show (L.ph != L.ph) = false from by simp]
              have HL9 := Lib.hid hl
              have HX9 := Lib.hid (HXq.out.trans (hb.mono hXB))
              clear he hl hb HSk HLq
              go_wp2_with fail
              refine (phase_any HL9.out).mono ?_
              rintro e _ ⟨rfl, rfl⟩
              rw [HP1.out]
              have hpp : (p1 == p1) = true := by simp
              go_wp2_with fail
              refine (slow_no HL9.out HI.out.ok HSl.out).mono ?_
              rintro e w10 ⟨he, hl, hb⟩
              rw [he.out]
              have HX10 := Lib.hid (HX9.out.trans (hb.mono hXB))
              clear he hl hb
              go_wp2
              go_ret
              exact ⟨rfl, HW0.out.trans (HX10.out.mono HW0.out.size)⟩
            · have q3d : decide (p1 = 3) = false := decide_eq_false q3
              have q3b : (p1 == 3) = false := h3b.trans q3d
              have q4 : p1 = 4 := by rcases hov with r | r; exact absurd r q3; exact r
              have q4d : decide (p1 = 4) = true := decide_eq_true q4
              have q4b : (p1 == 4) = true := h4b.trans q4d
              clear h3b h4b hov q4
              go_wp2_with (first
                | refine wpList_load_rowG rfl _ _ rfl (W.heap.size + 1 + 1) rfl 44 _ (0, 0) _ HM8.out Try.underlying44 rfl infoMs ?_
                | fail)
              refine HSk.out.mono ?_
              rintro e w9 ⟨he, hl, hb, -⟩
              rw [he.out]
              rw [show (L.ph != L.ph) = false from by simp]
              have HL9 := Lib.hid hl
              have HX9 := Lib.hid (HXq.out.trans (hb.mono hXB))
              clear he hl hb HSk HLq
              go_wp2_with fail
              refine (phase_any HL9.out).mono ?_
              rintro e _ ⟨rfl, rfl⟩
              rw [HP1.out]
              have hpp : (p1 == p1) = true := by simp
              go_wp2_with fail
              refine (slow_no HL9.out HI.out.ok HSl.out).mono ?_
              rintro e w10 ⟨he, hl, hb⟩
              rw [he.out]
              have HX10 := Lib.hid (HX9.out.trans (hb.mono hXB))
              clear he hl hb
              go_wp2
              go_ret
              exact ⟨rfl, HW0.out.trans (HX10.out.mono HW0.out.size)⟩
          · have h3 : ¬ p1 = 3 := fun q => hov (.inl q)
            have h4 : ¬ p1 = 4 := fun q => hov (.inr q)
            have h3d : decide (p1 = 3) = false := decide_eq_false h3
            have h3b : (p1 == 3) = false := by simp [h3]
            have h4d : decide (p1 = 4) = false := decide_eq_false h4
            have h4b : (p1 == 4) = false := by simp [h4]
            have hovL : overL L = false := by
              unfold overL
              rw [HP1.out, h3b, h4b]; rfl
            have hcnt := t_count HI.out
            rw [HMm.out] at hcnt
            have HCt : Hid (∀ V : World, Below wr.heap.size wr V → Calls Try.prog 16 #[.agg #[.int .i64 ep, .slice ao N co], .slice aw t cw] V fun e w' => e = .returned (.int .i64 (t : Int)) ∧ Below V.heap.size V w') := Lib.hid fun V hV => by
              have q := HCo.out V ((HRow.out.below HXq.out).below hV) aw cw (wtL L) t HMm.out (HIq.out.below hV)
              rw [hcnt] at q
              exact q
            have cc0 := (HC0.out.below HXq.out).cell 0
            have cc1 := (HC0.out.below HXq.out).cell 1
            simp only [List.getElem?_cons_zero, List.getElem?_cons_succ] at cc0 cc1
            have htt : ((t : Int) == (t : Int)) = true := by simp
            have hnt : N = 0 ∨ 0 < t := by
              by_cases hz : zs = []
              · left; rw [← HN'.out, hz]; rfl
              · right
                have q := t_wait HI.out hovL hz
                rw [HMm.out] at q
                exact q
            clear hcnt hovL hov
            by_cases hN0 : N = 0
            · have n2' : ((N : Int) == 0) = true := by simp [hN0]
              have n3' : decide ((N : Int) = 0) = true := decide_eq_true (by omega)
              clear hnt hN0
              go_wp2_with fail
              refine (HCt.out _ (Below.refl _ _)).mono ?_
              rintro e w9 ⟨rfl, hb⟩
              have HX9 := Lib.hid (HXq.out.trans (hb.mono HXq.out.size))
              clear hb HCt cc0 cc1
              clear n2' n3'
              go_wp2_with fail
              go_ret
              exact ⟨rfl, HW0.out.trans (HX9.out.mono HW0.out.size)⟩
            · have n1' : ¬ (N : Int) = 0 := by omega
              have n2' : ((N : Int) == 0) = false := by simp; omega
              have n3' : decide ((N : Int) = 0) = false := decide_eq_false n1'
              have t0 : 0 < t := by omega
              have t1 : (0 : Int) < (t : Int) := by omega
              have t2 : decide ((0 : Int) < (t : Int)) = true := decide_eq_true t1
              have t3 : decide (0 < t) = true := decide_eq_true t0
              clear hnt hN0
              go_wp2_with fail
              refine (HCt.out _ (Below.refl _ _)).mono ?_
              rintro e w9 ⟨rfl, hb⟩
              have HX9 := Lib.hid (HXq.out.trans (hb.mono HXq.out.size))
              clear hb HCt cc0 cc1
              clear n1' n2' n3' t0 t1 t2 t3
              go_wp2_with fail
              go_ret
              exact ⟨rfl, HW0.out.trans (HX9.out.mono HW0.out.size)⟩
end Go.Proofs.Ytplplehfkfjhnaa
