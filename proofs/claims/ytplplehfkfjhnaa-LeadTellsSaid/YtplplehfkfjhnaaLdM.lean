/-
  Leads: proposed, whole.
-/
import Derived.Test.YtplplehfkfjhnaaLdL
namespace Go.Proofs.Ytplplehfkfjhnaa
open Go.RowKit
open Bb (quoN thN allB)
set_option linter.unusedSimpArgs false
set_option linter.unusedVariables false
set_option maxRecDepth 100000

/-- Are all attributes that were heard alike? -/
def alkL (L : LSt) : Bool := !(atsL L).any (othB L.at')
/-- What a lead is behind an answer to its proposal. -/
def propL (L : LSt) : LSt := if L.first && alkL L then (if allB L.who L.ns then entL L 3 L.cm L.at' else L) else if enoL L then entL L 1 L.cm (allA (atsL L)) else L
def PrP (M : LSt) (B g : Nat) (w : World) (e : Ending) (w' : World) : Prop := Hid (e = .returned (.tuple #[])) ∧ LdAt w' B g M ∧ Below B w w' ∧ Kt w w'
set_option maxHeartbeats 16000000 in
theorem proposed_any {w : World} {B g : Nat} {L : LSt} (h : LdAt w B g L) (ho : LOk L) : Calls Try.prog 34 #[gP g] w (PrP (propL L) B g w) := by
  have hlt := h.lt
  obtain ⟨X, hX⟩ : ∃ X, w.alloc (.cells #[gP g] 48) = X := ⟨_, rfl⟩
  have hB : Below w.heap.size w X := by rw [← hX]; exact (Below.refl _ _).alloc (Nat.le_refl _) _
  have hx : LBox X w.heap.size g := by rw [← hX]; exact Bk.new w _ _
  have hLX := h.below hB
  have HBX := Lib.hid hB
  have HOX := Lib.hid (show OthAt X B g w.heap.size L from ⟨hLX, ho, hx⟩)
  have HO := Lib.hid ho
  have HAT := Lib.hid (attrs_any hLX ho)
  have hcx := hx.lt
  have cx := hx.cell 0
  have HNE : Hid (w.heap.size ≠ g) := Lib.hid (by omega)
  have HOH : Hid (okL (allA (atsL L)).2) := Lib.hid (by obtain ⟨Bw, vn, vd, vw, vh, q⟩ := h; exact okAll q.okH)
  have HALn : Hid ((allA (atsL L)).2.length ≤ 100000) := Lib.hid (Nat.le_trans ho.al (by omega))
  have HAN : Hid ((atsL L).length ≤ 100) := Lib.hid (by unfold atsL; rw [List.length_map, ho.hl]; have := ho.wl; omega)
  have HAD : Hid ((dpA (atsL L)).length ≤ 3000) := Lib.hid (Nat.le_trans ho.dp (by omega))
  have HAE : Hid (∀ a ∈ atsL L, a.2.length ≤ 1000) := Lib.hid (fun a ha => by
    unfold atsL at ha
    obtain ⟨y, hy, rfl⟩ := List.mem_map.1 ha
    exact Nat.le_trans (ho.hd y hy) (by omega))
  have HDL : Hid (L.at'.2.length ≤ 100000) := Lib.hid (Nat.le_trans ho.dl (by omega))
  simp only [List.getElem?_cons_zero] at cx
  clear h hB hx hLX ho
  go_enter Try.func34, Try.ntmps34
  go_wp2_with fail
  try rw [hX]
  clear hX
  refine HAT.out.mono ?_
  rintro e w1 ⟨v1, rs1, he, hr1, hb1⟩
  rw [he.out]
  clear he
  have HR1 : Hid (RowIs AtK atS w1 v1 rs1 (atsL L)) := Lib.hid hr1
  obtain ⟨a1, k1, e1⟩ := hr1.rd.slice
  obtain ⟨N1, hN1⟩ : ∃ N, rs1.length = N := ⟨_, rfl⟩
  rw [hN1] at e1
  subst e1
  have HCT := Lib.hid (ctoth_any (HOX.out.below hb1) _ rs1 (atsL L) HR1.out HAN.out HAE.out)
  have HB1 := Lib.hid hb1
  obtain ⟨O, hO⟩ : ∃ O, (atsL L).any (othB L.at') = O := ⟨_, rfl⟩
  have HOO := Lib.hid hO
  rw [hO] at HCT
  clear hr1 hb1 hN1 HAT cx hcx hO
  go_wp2_with fail
  refine HCT.out.mono ?_
  rintro e w2 ⟨rfl, hb2⟩
  have HB12 := Lib.hid hb2
  have hX2 : Below X.heap.size X w2 := HB1.out.trans (hb2.mono HB1.out.size)
  have hL2 := HOX.out.ld.below hX2
  have HL2 := Lib.hid hL2
  have HX2 : Hid (LBox w2 w.heap.size g) := Lib.hid (HOX.out.bx.below hX2)
  have HBB : Hid (Below B w w2) := Lib.hid ((HBX.out.trans (hX2.mono HBX.out.size)).mono (by omega))
  obtain ⟨Bw, vn, vd, vw, vh, hV2⟩ := hL2
  have HV2 := Lib.hid hV2
  have HKB : Hid (Below w.heap.size w w2) := Lib.hid (HBX.out.trans (hX2.mono HBX.out.size))
  have HLo2 : Hid (B ≤ w2.heap.size) := Lib.hid (Nat.le_trans hV2.lo (Nat.le_of_lt hV2.bk.lt))
  obtain ⟨an, cn, en, rn⟩ := hV2.irow HO.out
  obtain ⟨aw, cw, ew, rw'⟩ := hV2.wrow HO.out
  obtain ⟨nn, hnn⟩ : ∃ n, L.ns.length = n := ⟨_, rfl⟩
  obtain ⟨nw, hnw⟩ : ∃ n, L.who.length = n := ⟨_, rfl⟩
  have HAL : Hid (∀ W : World, Below w2.heap.size w2 W → Calls Try.prog 51 #[.agg #[.int .i64 L.ep, .slice an nn cn], .slice aw nw cw] W fun e w' => e = .returned (.bool (allB L.who L.ns)) ∧ Below W.heap.size W w') := Lib.hid fun W hb => by
    have := Bb.all_any L.ep an aw cn cw L.ns L.who W (rn.below hb) (rw'.below hb)
    rw [hnn, hnw] at this
    exact this
  rw [hnn] at en
  rw [hnw] at ew
  subst en ew
  obtain ⟨F, hF⟩ : ∃ F, L.first = F := ⟨_, rfl⟩
  have HF := Lib.hid hF
  have HC : Hid (∀ w' : World, Below w2.heap.size w2 w' → w'.cell? ⟨w.heap.size, 0, none⟩ = some (gP g) ∧ w'.cell? ⟨g, 10, none⟩ = some (.bool F) ∧ w'.cell? ⟨g, 0, none⟩ = some (.int .i64 L.ep) ∧ w'.cell? ⟨g, 1, none⟩ = some (.slice an nn cn) ∧ w'.cell? ⟨g, 22, none⟩ = some (.slice aw nw cw) ∧ Below w2.heap.size w2 w') := Lib.hid fun w' hb => by
    have q := HV2.out.below hb
    have q2 := HX2.out.below hb
    have q10 := q.cell 10
    simp only [ldE, List.getElem?_cons_zero, List.getElem?_cons_succ, hF] at q10
    exact ⟨q2.cell 0, q10, q.cell 0, q.cell 1, q.cell 22, hb⟩
  have hg2 := HV2.out.bk.lt
  have hc2 := HX2.out.lt
  clear hb2 hX2 hV2 rn rw' hnn hnw hF HCT HOX HBX HB1
  cases F with
  | true =>
    cases O with
    | false =>
      cases hall : allB L.who L.ns with
      | true =>
        have HEQ : Hid (propL L = entL L 3 L.cm L.at') := Lib.hid (by unfold propL alkL; rw [HF.out, HOO.out, hall]; rfl)
        rw [hall] at HAL
        clear hall
        go_wp2_with fail
        refine wp_region_held_drew (S := (fun w' => w'.cell? ⟨w.heap.size, 0, none⟩ = some (gP g) ∧ w'.cell? ⟨g, 10, none⟩ = some (.bool true) ∧ w'.cell? ⟨g, 0, none⟩ = some (.int .i64 L.ep) ∧ w'.cell? ⟨g, 1, none⟩ = some (.slice an nn cn) ∧ w'.cell? ⟨g, 22, none⟩ = some (.slice aw nw cw) ∧ Below w2.heap.size w2 w')) (by kernel_rfl) ?_ (fun hHeld => ?_)
        · ((first
  | exact HC.out _ (Below.refl _ _)
  | exact HC.out _ (Below.refl _ _).drew
  | exact HC.out _ hw3
  | (go_split_ands; exact HC.out _ (by assumption))
  | fail))
        refine wpAnyH_take (i := 0) (v := ?_) rfl (by kernel_rfl) (by kernel_rfl) (by kernel_rfl) (fun _ _ _ h => h) (Or.inl ⟨by rfl, ?_⟩) (by assumption) ?_
        rotate_left
        · (intro w hSw; (try dsimp only at hSw); go_simp; try rfl)
        try simp only [Act.put, List.setIfInBounds_toArray, List.set_cons_zero, List.set_cons_succ, List.getElem_toArray, List.getElem_cons_zero, List.getElem_cons_succ]
        refine wpAnyH_take (i := 1) (v := ?_) rfl (by kernel_rfl) (by kernel_rfl) (by kernel_rfl) (fun _ _ _ h => h) (Or.inl ⟨by rfl, ?_⟩) (by assumption) ?_
        rotate_left
        · (intro w hSw; (try dsimp only at hSw); go_simp; try rfl)
        try simp only [Act.put, List.setIfInBounds_toArray, List.set_cons_zero, List.set_cons_succ, List.getElem_toArray, List.getElem_cons_zero, List.getElem_cons_succ]
        refine wpAnyH_take (i := 2) (v := ?_) rfl (by kernel_rfl) (by kernel_rfl) (by kernel_rfl) (fun _ _ _ h => h) (Or.inl ⟨by rfl, ?_⟩) (by assumption) ?_
        rotate_left
        · (intro w hSw; (try dsimp only at hSw); go_simp; try rfl)
        try simp only [Act.put, List.setIfInBounds_toArray, List.set_cons_zero, List.set_cons_succ, List.getElem_toArray, List.getElem_cons_zero, List.getElem_cons_succ]
        refine wpAnyH_take (i := 3) (v := ?_) rfl (by kernel_rfl) (by kernel_rfl) (by kernel_rfl) (fun _ _ _ h => h) (Or.inl ⟨by rfl, ?_⟩) (by assumption) ?_
        rotate_left
        · (intro w hSw; (try dsimp only at hSw); go_simp; try rfl)
        try simp only [Act.put, List.setIfInBounds_toArray, List.set_cons_zero, List.set_cons_succ, List.getElem_toArray, List.getElem_cons_zero, List.getElem_cons_succ]
        refine wpAnyH_take (i := 4) (v := ?_) rfl (by kernel_rfl) (by kernel_rfl) (by kernel_rfl) (fun _ _ _ h => h) (Or.inl ⟨by rfl, ?_⟩) (by assumption) ?_
        rotate_left
        · (intro w hSw; (try dsimp only at hSw); go_simp; try rfl)
        try simp only [Act.put, List.setIfInBounds_toArray, List.set_cons_zero, List.set_cons_succ, List.getElem_toArray, List.getElem_cons_zero, List.getElem_cons_succ]
        refine wpAnyH_take (i := 5) (v := ?_) rfl (by kernel_rfl) (by kernel_rfl) (by kernel_rfl) (fun _ _ _ h => h) (Or.inl ⟨by rfl, ?_⟩) (by assumption) ?_
        rotate_left
        · (intro w hSw; (try dsimp only at hSw); go_simp; try rfl)
        try simp only [Act.put, List.setIfInBounds_toArray, List.set_cons_zero, List.set_cons_succ, List.getElem_toArray, List.getElem_cons_zero, List.getElem_cons_succ]
        refine wpAnyH_take (i := 6) (v := ?_) rfl (by kernel_rfl) (by kernel_rfl) (by kernel_rfl) (fun _ _ _ h => h) (Or.inl ⟨by rfl, ?_⟩) (by assumption) ?_
        rotate_left
        · (intro w hSw; (try dsimp only at hSw); go_simp; try rfl)
        try simp only [Act.put, List.setIfInBounds_toArray, List.set_cons_zero, List.set_cons_succ, List.getElem_toArray, List.getElem_cons_zero, List.getElem_cons_succ]
        refine wpAnyH_take (i := 7) (v := ?_) rfl (by kernel_rfl) (by kernel_rfl) (by kernel_rfl) (fun _ _ _ h => h) (Or.inl ⟨by rfl, ?_⟩) (by assumption) ?_
        rotate_left
        · (intro w hSw; (try dsimp only at hSw); go_simp; try rfl)
        try simp only [Act.put, List.setIfInBounds_toArray, List.set_cons_zero, List.set_cons_succ, List.getElem_toArray, List.getElem_cons_zero, List.getElem_cons_succ]
        refine wpAnyH_take (i := 8) (v := ?_) rfl (by kernel_rfl) (by kernel_rfl) (by kernel_rfl) (fun _ _ _ h => h) (Or.inl ⟨by rfl, ?_⟩) (by assumption) ?_
        rotate_left
        · (intro w hSw; (try dsimp only at hSw); go_simp; try rfl)
        try simp only [Act.put, List.setIfInBounds_toArray, List.set_cons_zero, List.set_cons_succ, List.getElem_toArray, List.getElem_cons_zero, List.getElem_cons_succ]
        refine wpAnyH_take (i := 9) (v := ?_) rfl (by kernel_rfl) (by kernel_rfl) (by kernel_rfl) (fun _ _ _ h => h) (Or.inl ⟨by rfl, ?_⟩) (by assumption) ?_
        rotate_left
        · (intro w hSw; (try dsimp only at hSw); go_simp; try rfl)
        try simp only [Act.put, List.setIfInBounds_toArray, List.set_cons_zero, List.set_cons_succ, List.getElem_toArray, List.getElem_cons_zero, List.getElem_cons_succ]
        refine wpAnyH_take (i := 10) (v := ?_) rfl (by kernel_rfl) (by kernel_rfl) (by kernel_rfl) (fun _ _ _ h => h) (Or.inl ⟨by rfl, ?_⟩) (by assumption) ?_
        rotate_left
        · (intro w hSw; (try dsimp only at hSw); go_simp; try rfl)
        try simp only [Act.put, List.setIfInBounds_toArray, List.set_cons_zero, List.set_cons_succ, List.getElem_toArray, List.getElem_cons_zero, List.getElem_cons_succ]
        refine wpAnyH_take (i := 11) (v := ?_) rfl (by kernel_rfl) (by kernel_rfl) (by kernel_rfl) (fun _ _ _ h => h) (Or.inl ⟨by rfl, ?_⟩) (by assumption) ?_
        rotate_left
        · (intro w hSw; (try dsimp only at hSw); go_simp; try rfl)
        try simp only [Act.put, List.setIfInBounds_toArray, List.set_cons_zero, List.set_cons_succ, List.getElem_toArray, List.getElem_cons_zero, List.getElem_cons_succ]
        refine wpAnyH_take (i := 12) (v := ?_) rfl (by kernel_rfl) (by kernel_rfl) (by kernel_rfl) (fun _ _ _ h => h) (Or.inl ⟨by rfl, ?_⟩) (by assumption) ?_
        rotate_left
        · (intro w hSw; (try dsimp only at hSw); go_simp; try rfl)
        try simp only [Act.put, List.setIfInBounds_toArray, List.set_cons_zero, List.set_cons_succ, List.getElem_toArray, List.getElem_cons_zero, List.getElem_cons_succ]
        refine wpAnyH_take (i := 13) (v := ?_) rfl (by kernel_rfl) (by kernel_rfl) (by kernel_rfl) (fun _ _ _ h => h) (Or.inl ⟨by rfl, ?_⟩) (by assumption) ?_
        rotate_left
        · (intro w hSw; (try dsimp only at hSw); go_simp; try rfl)
        try simp only [Act.put, List.setIfInBounds_toArray, List.set_cons_zero, List.set_cons_succ, List.getElem_toArray, List.getElem_cons_zero, List.getElem_cons_succ]
        refine wpAnyH_take (i := 14) (v := ?_) rfl (by kernel_rfl) (by kernel_rfl) (by kernel_rfl) (fun _ _ _ h => h) (Or.inl ⟨by rfl, ?_⟩) (by assumption) ?_
        rotate_left
        · (intro w hSw; (try dsimp only at hSw); go_simp; try rfl)
        try simp only [Act.put, List.setIfInBounds_toArray, List.set_cons_zero, List.set_cons_succ, List.getElem_toArray, List.getElem_cons_zero, List.getElem_cons_succ]
        refine wpAnyH_take (i := 15) (v := ?_) rfl (by kernel_rfl) (by kernel_rfl) (by kernel_rfl) (fun _ _ _ h => h) (Or.inl ⟨by rfl, ?_⟩) (by assumption) ?_
        rotate_left
        · (intro w hSw; (try dsimp only at hSw); go_simp; try rfl)
        try simp only [Act.put, List.setIfInBounds_toArray, List.set_cons_zero, List.set_cons_succ, List.getElem_toArray, List.getElem_cons_zero, List.getElem_cons_succ]
        refine wpAnyH_ready (rs := [16]) (by kernel_rfl) (by simp) ?_
        refine (AllReadyH.cons rfl (fun K hK => ?_) AllReadyH.nil)
        go_simp
        (go_at_call 51; go_split_ands; refine (HAL.out _ (by assumption)).mono ?_; rintro e w3 ⟨rfl, hb3⟩; have hw3 : Below w2.heap.size w2 w3 := below_self (by assumption) hb3)
        refine hK.out _ _ ?_ (fun hHeld => ?_)
        · ((first
  | exact HC.out _ (Below.refl _ _)
  | exact HC.out _ (Below.refl _ _).drew
  | exact HC.out _ hw3
  | (go_split_ands; exact HC.out _ (by assumption))
  | fail))
        clear hK K
        try simp only [Act.put, List.setIfInBounds_toArray, List.set_cons_zero, List.set_cons_succ, List.getElem_toArray, List.getElem_cons_zero, List.getElem_cons_succ]
        refine wpAnyH_take (i := 17) (v := ?_) rfl (by kernel_rfl) (by kernel_rfl) (by kernel_rfl) (fun _ _ _ h => h) (Or.inl ⟨by rfl, ?_⟩) (by assumption) ?_
        rotate_left
        · (intro w hSw; (try dsimp only at hSw); go_simp; try rfl)
        try simp only [Act.put, List.setIfInBounds_toArray, List.set_cons_zero, List.set_cons_succ, List.getElem_toArray, List.getElem_cons_zero, List.getElem_cons_succ]
        refine wpAnyH_take (i := 18) (v := ?_) rfl (by kernel_rfl) (by kernel_rfl) (by kernel_rfl) (fun _ _ _ h => h) (Or.inl ⟨by rfl, ?_⟩) (by assumption) ?_
        rotate_left
        · (intro w hSw; (try dsimp only at hSw); go_simp; try rfl)
        try simp only [Act.put, List.setIfInBounds_toArray, List.set_cons_zero, List.set_cons_succ, List.getElem_toArray, List.getElem_cons_zero, List.getElem_cons_succ]
        refine wpAnyH_done (by kernel_rfl) ?_ _
        have HVw := Lib.hid (HV2.out.below hw3)
        have HLw := Lib.hid (HL2.out.below hw3)
        have HXw : Hid (LBox w3 w.heap.size g) := Lib.hid (HX2.out.below hw3)
        have HBw : Hid (Below B w w3) := Lib.hid (HBB.out.trans (hw3.mono HLo2.out))
        have HB2W := Lib.hid hw3
        have HKw : Hid (Below w.heap.size w w3) := Lib.hid (HKB.out.trans (hw3.mono HKB.out.size))
        have k10 := HVw.out.cell 10
        have kc := HXw.out.cell 0
        simp only [ldE, List.getElem?_cons_zero, List.getElem?_cons_succ] at k10 kc
        rw [HF.out] at k10
        have hgw := HVw.out.bk.lt
        have hcw := HXw.out.lt
        clear hw3 hb3 HC HAL
        go_wp2_with fail
        have HVd := Lib.hid (HVw.out.below (Below.refl (w3).heap.size w3).drew)
        have HLd := Lib.hid (HLw.out.below (Below.refl (w3).heap.size w3).drew)
        have HXd : Hid (LBox w3.drew w.heap.size g) := Lib.hid (HXw.out.below (Below.refl (w3).heap.size w3).drew)
        have HBd := Lib.hid (Below.drewB HBw.out)
        have HKd := Lib.hid (Below.drewB HKw.out)
        have hgd := HVd.out.bk.lt
        have hcd := HXd.out.lt
        have HLo : Hid (B ≤ w3.drew.heap.size) := Lib.hid (Nat.le_trans HVd.out.lo (Nat.le_of_lt hgd))
        have d12 := HVd.out.cell 12
        have d13 := HVd.out.cell 13
        have d14 := HVd.out.cell 14
        have d15 := HVd.out.cell 15
        have d16 := HVd.out.cell 16
        have d17 := HVd.out.cell 17
        have d18 := HVd.out.cell 18
        have d19 := HVd.out.cell 19
        have d20 := HVd.out.cell 20
        have d21 := HVd.out.cell 21
        simp only [ldE, List.getElem?_cons_zero, List.getElem?_cons_succ] at d12 d13 d14 d15 d16 d17 d18 d19 d20 d21
        have HC5 : Hid (∀ w' : World, Bs w3.drew g w' → w'.cell? ⟨w.heap.size, 0, none⟩ = some (gP g)) := Lib.hid fun w' hb => (hb.cell hcd HNE.out).trans (HXd.out.cell 0)
        clear HVw HLw HXw HBw
        refine wp_region_held_drew (S := (fun w' => w'.cell? ⟨w.heap.size, 0, none⟩ = some (gP g))) (by kernel_rfl) ?_ (fun hHeld => ?_)
        · ((first
          | exact HC5.out _ hs5
          | exact HC5.out _ (Bs.refl _ _)
          | exact HC5.out _ (Bs.below hb5)
          | fail))
        refine wpAnyH_take (i := 0) (v := ?_) rfl (by kernel_rfl) (by kernel_rfl) (by kernel_rfl) (fun _ _ _ h => h) (Or.inl ⟨by rfl, ?_⟩) (by assumption) ?_
        rotate_left
        · (intro w hSw; (try dsimp only at hSw); go_simp; try rfl)
        try simp only [Act.put, List.setIfInBounds_toArray, List.set_cons_zero, List.set_cons_succ, List.getElem_toArray, List.getElem_cons_zero, List.getElem_cons_succ]
        refine wpAnyH_take (i := 1) (v := ?_) rfl (by kernel_rfl) (by kernel_rfl) (by kernel_rfl) (fun _ _ _ h => h) (Or.inl ⟨by rfl, ?_⟩) (by assumption) ?_
        rotate_left
        · (intro w hSw; (try dsimp only at hSw); go_simp; try rfl)
        try simp only [Act.put, List.setIfInBounds_toArray, List.set_cons_zero, List.set_cons_succ, List.getElem_toArray, List.getElem_cons_zero, List.getElem_cons_succ]
        refine wpAnyH_take (i := 2) (v := ?_) rfl (by kernel_rfl) (by kernel_rfl) (by kernel_rfl) (fun _ _ _ h => h) (Or.inl ⟨by rfl, ?_⟩) (by assumption) ?_
        rotate_left
        · (intro w hSw; (try dsimp only at hSw); go_simp; try rfl)
        try simp only [Act.put, List.setIfInBounds_toArray, List.set_cons_zero, List.set_cons_succ, List.getElem_toArray, List.getElem_cons_zero, List.getElem_cons_succ]
        refine wpAnyH_take (i := 3) (v := ?_) rfl (by kernel_rfl) (by kernel_rfl) (by kernel_rfl) (fun _ _ _ h => h) (Or.inl ⟨by rfl, ?_⟩) (by assumption) ?_
        rotate_left
        · (intro w hSw; (try dsimp only at hSw); go_simp; try rfl)
        try simp only [Act.put, List.setIfInBounds_toArray, List.set_cons_zero, List.set_cons_succ, List.getElem_toArray, List.getElem_cons_zero, List.getElem_cons_succ]
        refine wpAnyH_take (i := 5) (v := ?_) rfl (by kernel_rfl) (by kernel_rfl) (by kernel_rfl) (fun _ _ _ h => h) (Or.inl ⟨by rfl, ?_⟩) (by assumption) ?_
        rotate_left
        · (intro w hSw; (try dsimp only at hSw); go_simp; try rfl)
        try simp only [Act.put, List.setIfInBounds_toArray, List.set_cons_zero, List.set_cons_succ, List.getElem_toArray, List.getElem_cons_zero, List.getElem_cons_succ]
        refine wpAnyH_take (i := 6) (v := ?_) rfl (by kernel_rfl) (by kernel_rfl) (by kernel_rfl) (fun _ _ _ h => h) (Or.inl ⟨by rfl, ?_⟩) (by assumption) ?_
        rotate_left
        · (intro w hSw; (try dsimp only at hSw); go_simp; try rfl)
        try simp only [Act.put, List.setIfInBounds_toArray, List.set_cons_zero, List.set_cons_succ, List.getElem_toArray, List.getElem_cons_zero, List.getElem_cons_succ]
        refine wpAnyH_take (i := 7) (v := ?_) rfl (by kernel_rfl) (by kernel_rfl) (by kernel_rfl) (fun _ _ _ h => h) (Or.inl ⟨by rfl, ?_⟩) (by assumption) ?_
        rotate_left
        · (intro w hSw; (try dsimp only at hSw); go_simp; try rfl)
        try simp only [Act.put, List.setIfInBounds_toArray, List.set_cons_zero, List.set_cons_succ, List.getElem_toArray, List.getElem_cons_zero, List.getElem_cons_succ]
        refine wpAnyH_ready (rs := [4, 8]) (by kernel_rfl) (by simp) ?_
        refine (AllReadyH.cons rfl (fun K hK => ?_) (AllReadyH.cons rfl (fun K hK => ?_) AllReadyH.nil))
        ·
          go_simp
          refine hK.out _ _ ?_ (fun hHeld => ?_)
          · ((first
          | exact HC5.out _ hs5
          | exact HC5.out _ (Bs.refl _ _)
          | exact HC5.out _ (Bs.below hb5)
          | fail))
          clear hK K
          try simp only [Act.put, List.setIfInBounds_toArray, List.set_cons_zero, List.set_cons_succ, List.getElem_toArray, List.getElem_cons_zero, List.getElem_cons_succ]
          refine wpAnyH_ready (rs := [8]) (by kernel_rfl) (by simp) ?_
          refine (AllReadyH.cons rfl (fun K hK => ?_) AllReadyH.nil)
          go_simp
          refine hK.out _ _ ?_ (fun hHeld => ?_)
          · ((first
          | exact HC5.out _ hs5
          | exact HC5.out _ (Bs.refl _ _)
          | exact HC5.out _ (Bs.below hb5)
          | fail))
          clear hK K
          try simp only [Act.put, List.setIfInBounds_toArray, List.set_cons_zero, List.set_cons_succ, List.getElem_toArray, List.getElem_cons_zero, List.getElem_cons_succ]
          refine wpAnyH_ready (rs := [9]) (by kernel_rfl) (by simp) ?_
          refine (AllReadyH.cons rfl (fun K hK => ?_) AllReadyH.nil)
          go_simp
          (go_at_call 32; refine (enter_any HLd.out 3 L.cm _ _ _ HVd.out.deps.rd HVd.out.ok HDL.out).mono ?_; rintro e w6 ⟨he, hL6, hb6, hs5⟩; have he := he.out; subst he; have hB6 : Below B w3.drew w6 := hb6)
          refine hK.out _ _ ?_ (fun hHeld => ?_)
          · ((first
          | exact HC5.out _ hs5
          | exact HC5.out _ (Bs.refl _ _)
          | exact HC5.out _ (Bs.below hb5)
          | fail))
          clear hK K
          try simp only [Act.put, List.setIfInBounds_toArray, List.set_cons_zero, List.set_cons_succ, List.getElem_toArray, List.getElem_cons_zero, List.getElem_cons_succ]
          refine wpAnyH_done (by kernel_rfl) ?_ _
          have HL6 := Lib.hid hL6
          have HB6 := Lib.hid (HBd.out.trans hB6)
          have HK6 := Lib.hid ((Kt.below HKd.out).trans (Kt.ent hs5 HLd.out))
          clear HC5 HVd HLd hL6 hs5
          go_wp2
          go_end0
          exact ⟨rfl, by rw [HEQ.out]; exact HL6.out, HB6.out, HK6.out⟩
        ·
          go_simp
          refine hK.out _ _ ?_ (fun hHeld => ?_)
          · ((first
          | exact HC5.out _ hs5
          | exact HC5.out _ (Bs.refl _ _)
          | exact HC5.out _ (Bs.below hb5)
          | fail))
          clear hK K
          try simp only [Act.put, List.setIfInBounds_toArray, List.set_cons_zero, List.set_cons_succ, List.getElem_toArray, List.getElem_cons_zero, List.getElem_cons_succ]
          refine wpAnyH_ready (rs := [4]) (by kernel_rfl) (by simp) ?_
          refine (AllReadyH.cons rfl (fun K hK => ?_) AllReadyH.nil)
          go_simp
          refine hK.out _ _ ?_ (fun hHeld => ?_)
          · ((first
          | exact HC5.out _ hs5
          | exact HC5.out _ (Bs.refl _ _)
          | exact HC5.out _ (Bs.below hb5)
          | fail))
          clear hK K
          try simp only [Act.put, List.setIfInBounds_toArray, List.set_cons_zero, List.set_cons_succ, List.getElem_toArray, List.getElem_cons_zero, List.getElem_cons_succ]
          refine wpAnyH_ready (rs := [9]) (by kernel_rfl) (by simp) ?_
          refine (AllReadyH.cons rfl (fun K hK => ?_) AllReadyH.nil)
          go_simp
          (go_at_call 32; refine (enter_any HLd.out 3 L.cm _ _ _ HVd.out.deps.rd HVd.out.ok HDL.out).mono ?_; rintro e w6 ⟨he, hL6, hb6, hs5⟩; have he := he.out; subst he; have hB6 : Below B w3.drew w6 := hb6)
          refine hK.out _ _ ?_ (fun hHeld => ?_)
          · ((first
          | exact HC5.out _ hs5
          | exact HC5.out _ (Bs.refl _ _)
          | exact HC5.out _ (Bs.below hb5)
          | fail))
          clear hK K
          try simp only [Act.put, List.setIfInBounds_toArray, List.set_cons_zero, List.set_cons_succ, List.getElem_toArray, List.getElem_cons_zero, List.getElem_cons_succ]
          refine wpAnyH_done (by kernel_rfl) ?_ _
          have HL6 := Lib.hid hL6
          have HB6 := Lib.hid (HBd.out.trans hB6)
          have HK6 := Lib.hid ((Kt.below HKd.out).trans (Kt.ent hs5 HLd.out))
          clear HC5 HVd HLd hL6 hs5
          go_wp2
          go_end0
          exact ⟨rfl, by rw [HEQ.out]; exact HL6.out, HB6.out, HK6.out⟩
      | false =>
        have HEQ : Hid (propL L = L) := Lib.hid (by unfold propL alkL; rw [HF.out, HOO.out, hall]; rfl)
        rw [hall] at HAL
        clear hall
        go_wp2_with fail
        refine wp_region_held_drew (S := (fun w' => w'.cell? ⟨w.heap.size, 0, none⟩ = some (gP g) ∧ w'.cell? ⟨g, 10, none⟩ = some (.bool true) ∧ w'.cell? ⟨g, 0, none⟩ = some (.int .i64 L.ep) ∧ w'.cell? ⟨g, 1, none⟩ = some (.slice an nn cn) ∧ w'.cell? ⟨g, 22, none⟩ = some (.slice aw nw cw) ∧ Below w2.heap.size w2 w')) (by kernel_rfl) ?_ (fun hHeld => ?_)
        · ((first
  | exact HC.out _ (Below.refl _ _)
  | exact HC.out _ (Below.refl _ _).drew
  | exact HC.out _ hw3
  | (go_split_ands; exact HC.out _ (by assumption))
  | fail))
        refine wpAnyH_take (i := 0) (v := ?_) rfl (by kernel_rfl) (by kernel_rfl) (by kernel_rfl) (fun _ _ _ h => h) (Or.inl ⟨by rfl, ?_⟩) (by assumption) ?_
        rotate_left
        · (intro w hSw; (try dsimp only at hSw); go_simp; try rfl)
        try simp only [Act.put, List.setIfInBounds_toArray, List.set_cons_zero, List.set_cons_succ, List.getElem_toArray, List.getElem_cons_zero, List.getElem_cons_succ]
        refine wpAnyH_take (i := 1) (v := ?_) rfl (by kernel_rfl) (by kernel_rfl) (by kernel_rfl) (fun _ _ _ h => h) (Or.inl ⟨by rfl, ?_⟩) (by assumption) ?_
        rotate_left
        · (intro w hSw; (try dsimp only at hSw); go_simp; try rfl)
        try simp only [Act.put, List.setIfInBounds_toArray, List.set_cons_zero, List.set_cons_succ, List.getElem_toArray, List.getElem_cons_zero, List.getElem_cons_succ]
        refine wpAnyH_take (i := 2) (v := ?_) rfl (by kernel_rfl) (by kernel_rfl) (by kernel_rfl) (fun _ _ _ h => h) (Or.inl ⟨by rfl, ?_⟩) (by assumption) ?_
        rotate_left
        · (intro w hSw; (try dsimp only at hSw); go_simp; try rfl)
        try simp only [Act.put, List.setIfInBounds_toArray, List.set_cons_zero, List.set_cons_succ, List.getElem_toArray, List.getElem_cons_zero, List.getElem_cons_succ]
        refine wpAnyH_take (i := 3) (v := ?_) rfl (by kernel_rfl) (by kernel_rfl) (by kernel_rfl) (fun _ _ _ h => h) (Or.inl ⟨by rfl, ?_⟩) (by assumption) ?_
        rotate_left
        · (intro w hSw; (try dsimp only at hSw); go_simp; try rfl)
        try simp only [Act.put, List.setIfInBounds_toArray, List.set_cons_zero, List.set_cons_succ, List.getElem_toArray, List.getElem_cons_zero, List.getElem_cons_succ]
        refine wpAnyH_take (i := 4) (v := ?_) rfl (by kernel_rfl) (by kernel_rfl) (by kernel_rfl) (fun _ _ _ h => h) (Or.inl ⟨by rfl, ?_⟩) (by assumption) ?_
        rotate_left
        · (intro w hSw; (try dsimp only at hSw); go_simp; try rfl)
        try simp only [Act.put, List.setIfInBounds_toArray, List.set_cons_zero, List.set_cons_succ, List.getElem_toArray, List.getElem_cons_zero, List.getElem_cons_succ]
        refine wpAnyH_take (i := 5) (v := ?_) rfl (by kernel_rfl) (by kernel_rfl) (by kernel_rfl) (fun _ _ _ h => h) (Or.inl ⟨by rfl, ?_⟩) (by assumption) ?_
        rotate_left
        · (intro w hSw; (try dsimp only at hSw); go_simp; try rfl)
        try simp only [Act.put, List.setIfInBounds_toArray, List.set_cons_zero, List.set_cons_succ, List.getElem_toArray, List.getElem_cons_zero, List.getElem_cons_succ]
        refine wpAnyH_take (i := 6) (v := ?_) rfl (by kernel_rfl) (by kernel_rfl) (by kernel_rfl) (fun _ _ _ h => h) (Or.inl ⟨by rfl, ?_⟩) (by assumption) ?_
        rotate_left
        · (intro w hSw; (try dsimp only at hSw); go_simp; try rfl)
        try simp only [Act.put, List.setIfInBounds_toArray, List.set_cons_zero, List.set_cons_succ, List.getElem_toArray, List.getElem_cons_zero, List.getElem_cons_succ]
        refine wpAnyH_take (i := 7) (v := ?_) rfl (by kernel_rfl) (by kernel_rfl) (by kernel_rfl) (fun _ _ _ h => h) (Or.inl ⟨by rfl, ?_⟩) (by assumption) ?_
        rotate_left
        · (intro w hSw; (try dsimp only at hSw); go_simp; try rfl)
        try simp only [Act.put, List.setIfInBounds_toArray, List.set_cons_zero, List.set_cons_succ, List.getElem_toArray, List.getElem_cons_zero, List.getElem_cons_succ]
        refine wpAnyH_take (i := 8) (v := ?_) rfl (by kernel_rfl) (by kernel_rfl) (by kernel_rfl) (fun _ _ _ h => h) (Or.inl ⟨by rfl, ?_⟩) (by assumption) ?_
        rotate_left
        · (intro w hSw; (try dsimp only at hSw); go_simp; try rfl)
        try simp only [Act.put, List.setIfInBounds_toArray, List.set_cons_zero, List.set_cons_succ, List.getElem_toArray, List.getElem_cons_zero, List.getElem_cons_succ]
        refine wpAnyH_take (i := 9) (v := ?_) rfl (by kernel_rfl) (by kernel_rfl) (by kernel_rfl) (fun _ _ _ h => h) (Or.inl ⟨by rfl, ?_⟩) (by assumption) ?_
        rotate_left
        · (intro w hSw; (try dsimp only at hSw); go_simp; try rfl)
        try simp only [Act.put, List.setIfInBounds_toArray, List.set_cons_zero, List.set_cons_succ, List.getElem_toArray, List.getElem_cons_zero, List.getElem_cons_succ]
        refine wpAnyH_take (i := 10) (v := ?_) rfl (by kernel_rfl) (by kernel_rfl) (by kernel_rfl) (fun _ _ _ h => h) (Or.inl ⟨by rfl, ?_⟩) (by assumption) ?_
        rotate_left
        · (intro w hSw; (try dsimp only at hSw); go_simp; try rfl)
        try simp only [Act.put, List.setIfInBounds_toArray, List.set_cons_zero, List.set_cons_succ, List.getElem_toArray, List.getElem_cons_zero, List.getElem_cons_succ]
        refine wpAnyH_take (i := 11) (v := ?_) rfl (by kernel_rfl) (by kernel_rfl) (by kernel_rfl) (fun _ _ _ h => h) (Or.inl ⟨by rfl, ?_⟩) (by assumption) ?_
        rotate_left
        · (intro w hSw; (try dsimp only at hSw); go_simp; try rfl)
        try simp only [Act.put, List.setIfInBounds_toArray, List.set_cons_zero, List.set_cons_succ, List.getElem_toArray, List.getElem_cons_zero, List.getElem_cons_succ]
        refine wpAnyH_take (i := 12) (v := ?_) rfl (by kernel_rfl) (by kernel_rfl) (by kernel_rfl) (fun _ _ _ h => h) (Or.inl ⟨by rfl, ?_⟩) (by assumption) ?_
        rotate_left
        · (intro w hSw; (try dsimp only at hSw); go_simp; try rfl)
        try simp only [Act.put, List.setIfInBounds_toArray, List.set_cons_zero, List.set_cons_succ, List.getElem_toArray, List.getElem_cons_zero, List.getElem_cons_succ]
        refine wpAnyH_take (i := 13) (v := ?_) rfl (by kernel_rfl) (by kernel_rfl) (by kernel_rfl) (fun _ _ _ h => h) (Or.inl ⟨by rfl, ?_⟩) (by assumption) ?_
        rotate_left
        · (intro w hSw; (try dsimp only at hSw); go_simp; try rfl)
        try simp only [Act.put, List.setIfInBounds_toArray, List.set_cons_zero, List.set_cons_succ, List.getElem_toArray, List.getElem_cons_zero, List.getElem_cons_succ]
        refine wpAnyH_take (i := 14) (v := ?_) rfl (by kernel_rfl) (by kernel_rfl) (by kernel_rfl) (fun _ _ _ h => h) (Or.inl ⟨by rfl, ?_⟩) (by assumption) ?_
        rotate_left
        · (intro w hSw; (try dsimp only at hSw); go_simp; try rfl)
        try simp only [Act.put, List.setIfInBounds_toArray, List.set_cons_zero, List.set_cons_succ, List.getElem_toArray, List.getElem_cons_zero, List.getElem_cons_succ]
        refine wpAnyH_take (i := 15) (v := ?_) rfl (by kernel_rfl) (by kernel_rfl) (by kernel_rfl) (fun _ _ _ h => h) (Or.inl ⟨by rfl, ?_⟩) (by assumption) ?_
        rotate_left
        · (intro w hSw; (try dsimp only at hSw); go_simp; try rfl)
        try simp only [Act.put, List.setIfInBounds_toArray, List.set_cons_zero, List.set_cons_succ, List.getElem_toArray, List.getElem_cons_zero, List.getElem_cons_succ]
        refine wpAnyH_ready (rs := [16]) (by kernel_rfl) (by simp) ?_
        refine (AllReadyH.cons rfl (fun K hK => ?_) AllReadyH.nil)
        go_simp
        (go_at_call 51; go_split_ands; refine (HAL.out _ (by assumption)).mono ?_; rintro e w3 ⟨rfl, hb3⟩; have hw3 : Below w2.heap.size w2 w3 := below_self (by assumption) hb3)
        refine hK.out _ _ ?_ (fun hHeld => ?_)
        · ((first
  | exact HC.out _ (Below.refl _ _)
  | exact HC.out _ (Below.refl _ _).drew
  | exact HC.out _ hw3
  | (go_split_ands; exact HC.out _ (by assumption))
  | fail))
        clear hK K
        try simp only [Act.put, List.setIfInBounds_toArray, List.set_cons_zero, List.set_cons_succ, List.getElem_toArray, List.getElem_cons_zero, List.getElem_cons_succ]
        refine wpAnyH_take (i := 17) (v := ?_) rfl (by kernel_rfl) (by kernel_rfl) (by kernel_rfl) (fun _ _ _ h => h) (Or.inl ⟨by rfl, ?_⟩) (by assumption) ?_
        rotate_left
        · (intro w hSw; (try dsimp only at hSw); go_simp; try rfl)
        try simp only [Act.put, List.setIfInBounds_toArray, List.set_cons_zero, List.set_cons_succ, List.getElem_toArray, List.getElem_cons_zero, List.getElem_cons_succ]
        refine wpAnyH_take (i := 18) (v := ?_) rfl (by kernel_rfl) (by kernel_rfl) (by kernel_rfl) (fun _ _ _ h => h) (Or.inl ⟨by rfl, ?_⟩) (by assumption) ?_
        rotate_left
        · (intro w hSw; (try dsimp only at hSw); go_simp; try rfl)
        try simp only [Act.put, List.setIfInBounds_toArray, List.set_cons_zero, List.set_cons_succ, List.getElem_toArray, List.getElem_cons_zero, List.getElem_cons_succ]
        refine wpAnyH_done (by kernel_rfl) ?_ _
        have HVw := Lib.hid (HV2.out.below hw3)
        have HLw := Lib.hid (HL2.out.below hw3)
        have HXw : Hid (LBox w3 w.heap.size g) := Lib.hid (HX2.out.below hw3)
        have HBw : Hid (Below B w w3) := Lib.hid (HBB.out.trans (hw3.mono HLo2.out))
        have HB2W := Lib.hid hw3
        have HKw : Hid (Below w.heap.size w w3) := Lib.hid (HKB.out.trans (hw3.mono HKB.out.size))
        have k10 := HVw.out.cell 10
        have kc := HXw.out.cell 0
        simp only [ldE, List.getElem?_cons_zero, List.getElem?_cons_succ] at k10 kc
        rw [HF.out] at k10
        have hgw := HVw.out.bk.lt
        have hcw := HXw.out.lt
        clear hw3 hb3 HC HAL
        have HL6 := HLw
        have HB6 := HBw
        have HK6 := Lib.hid (Kt.below HKw.out)
        clear HVw HXw
        go_wp2
        go_end0
        exact ⟨rfl, by rw [HEQ.out]; exact HL6.out, HB6.out, HK6.out⟩
    | true =>
      cases hq : enoL L with
      | true =>
        have HQ := Lib.hid hq
        have HEQ : Hid (propL L = entL L 1 L.cm (allA (atsL L))) := Lib.hid (by unfold propL alkL; rw [HF.out, HOO.out, hq]; rfl)
        clear hq
        go_wp2_with fail
        refine wp_region_held_drew (S := (fun w' => w'.cell? ⟨w.heap.size, 0, none⟩ = some (gP g) ∧ w'.cell? ⟨g, 10, none⟩ = some (.bool true) ∧ w'.cell? ⟨g, 0, none⟩ = some (.int .i64 L.ep) ∧ w'.cell? ⟨g, 1, none⟩ = some (.slice an nn cn) ∧ w'.cell? ⟨g, 22, none⟩ = some (.slice aw nw cw) ∧ Below w2.heap.size w2 w')) (by kernel_rfl) ?_ (fun hHeld => ?_)
        · ((first
  | exact HC.out _ (Below.refl _ _)
  | exact HC.out _ (Below.refl _ _).drew
  | exact HC.out _ hw3
  | (go_split_ands; exact HC.out _ (by assumption))
  | fail))
        refine wpAnyH_take (i := 0) (v := ?_) rfl (by kernel_rfl) (by kernel_rfl) (by kernel_rfl) (fun _ _ _ h => h) (Or.inl ⟨by rfl, ?_⟩) (by assumption) ?_
        rotate_left
        · (intro w hSw; (try dsimp only at hSw); go_simp; try rfl)
        try simp only [Act.put, List.setIfInBounds_toArray, List.set_cons_zero, List.set_cons_succ, List.getElem_toArray, List.getElem_cons_zero, List.getElem_cons_succ]
        refine wpAnyH_take (i := 1) (v := ?_) rfl (by kernel_rfl) (by kernel_rfl) (by kernel_rfl) (fun _ _ _ h => h) (Or.inl ⟨by rfl, ?_⟩) (by assumption) ?_
        rotate_left
        · (intro w hSw; (try dsimp only at hSw); go_simp; try rfl)
        try simp only [Act.put, List.setIfInBounds_toArray, List.set_cons_zero, List.set_cons_succ, List.getElem_toArray, List.getElem_cons_zero, List.getElem_cons_succ]
        refine wpAnyH_take (i := 2) (v := ?_) rfl (by kernel_rfl) (by kernel_rfl) (by kernel_rfl) (fun _ _ _ h => h) (Or.inl ⟨by rfl, ?_⟩) (by assumption) ?_
        rotate_left
        · (intro w hSw; (try dsimp only at hSw); go_simp; try rfl)
        try simp only [Act.put, List.setIfInBounds_toArray, List.set_cons_zero, List.set_cons_succ, List.getElem_toArray, List.getElem_cons_zero, List.getElem_cons_succ]
        refine wpAnyH_take (i := 3) (v := ?_) rfl (by kernel_rfl) (by kernel_rfl) (by kernel_rfl) (fun _ _ _ h => h) (Or.inl ⟨by rfl, ?_⟩) (by assumption) ?_
        rotate_left
        · (intro w hSw; (try dsimp only at hSw); go_simp; try rfl)
        try simp only [Act.put, List.setIfInBounds_toArray, List.set_cons_zero, List.set_cons_succ, List.getElem_toArray, List.getElem_cons_zero, List.getElem_cons_succ]
        refine wpAnyH_take (i := 4) (v := ?_) rfl (by kernel_rfl) (by kernel_rfl) (by kernel_rfl) (fun _ _ _ h => h) (Or.inl ⟨by rfl, ?_⟩) (by assumption) ?_
        rotate_left
        · (intro w hSw; (try dsimp only at hSw); go_simp; try rfl)
        try simp only [Act.put, List.setIfInBounds_toArray, List.set_cons_zero, List.set_cons_succ, List.getElem_toArray, List.getElem_cons_zero, List.getElem_cons_succ]
        refine wpAnyH_take (i := 5) (v := ?_) rfl (by kernel_rfl) (by kernel_rfl) (by kernel_rfl) (fun _ _ _ h => h) (Or.inl ⟨by rfl, ?_⟩) (by assumption) ?_
        rotate_left
        · (intro w hSw; (try dsimp only at hSw); go_simp; try rfl)
        try simp only [Act.put, List.setIfInBounds_toArray, List.set_cons_zero, List.set_cons_succ, List.getElem_toArray, List.getElem_cons_zero, List.getElem_cons_succ]
        refine wpAnyH_take (i := 6) (v := ?_) rfl (by kernel_rfl) (by kernel_rfl) (by kernel_rfl) (fun _ _ _ h => h) (Or.inl ⟨by rfl, ?_⟩) (by assumption) ?_
        rotate_left
        · (intro w hSw; (try dsimp only at hSw); go_simp; try rfl)
        try simp only [Act.put, List.setIfInBounds_toArray, List.set_cons_zero, List.set_cons_succ, List.getElem_toArray, List.getElem_cons_zero, List.getElem_cons_succ]
        refine wpAnyH_take (i := 7) (v := ?_) rfl (by kernel_rfl) (by kernel_rfl) (by kernel_rfl) (fun _ _ _ h => h) (Or.inl ⟨by rfl, ?_⟩) (by assumption) ?_
        rotate_left
        · (intro w hSw; (try dsimp only at hSw); go_simp; try rfl)
        try simp only [Act.put, List.setIfInBounds_toArray, List.set_cons_zero, List.set_cons_succ, List.getElem_toArray, List.getElem_cons_zero, List.getElem_cons_succ]
        refine wpAnyH_take (i := 8) (v := undef) rfl (by kernel_rfl) (by kernel_rfl) (by kernel_rfl) (fun _ _ _ h => h) (Or.inr ⟨by rfl, rfl⟩) (by assumption) ?_
        try simp only [Act.put, List.setIfInBounds_toArray, List.set_cons_zero, List.set_cons_succ, List.getElem_toArray, List.getElem_cons_zero, List.getElem_cons_succ]
        refine wpAnyH_take (i := 9) (v := undef) rfl (by kernel_rfl) (by kernel_rfl) (by kernel_rfl) (fun _ _ _ h => h) (Or.inr ⟨by rfl, rfl⟩) (by assumption) ?_
        try simp only [Act.put, List.setIfInBounds_toArray, List.set_cons_zero, List.set_cons_succ, List.getElem_toArray, List.getElem_cons_zero, List.getElem_cons_succ]
        refine wpAnyH_take (i := 10) (v := undef) rfl (by kernel_rfl) (by kernel_rfl) (by kernel_rfl) (fun _ _ _ h => h) (Or.inr ⟨by rfl, rfl⟩) (by assumption) ?_
        try simp only [Act.put, List.setIfInBounds_toArray, List.set_cons_zero, List.set_cons_succ, List.getElem_toArray, List.getElem_cons_zero, List.getElem_cons_succ]
        refine wpAnyH_take (i := 11) (v := undef) rfl (by kernel_rfl) (by kernel_rfl) (by kernel_rfl) (fun _ _ _ h => h) (Or.inr ⟨by rfl, rfl⟩) (by assumption) ?_
        try simp only [Act.put, List.setIfInBounds_toArray, List.set_cons_zero, List.set_cons_succ, List.getElem_toArray, List.getElem_cons_zero, List.getElem_cons_succ]
        refine wpAnyH_take (i := 12) (v := undef) rfl (by kernel_rfl) (by kernel_rfl) (by kernel_rfl) (fun _ _ _ h => h) (Or.inr ⟨by rfl, rfl⟩) (by assumption) ?_
        try simp only [Act.put, List.setIfInBounds_toArray, List.set_cons_zero, List.set_cons_succ, List.getElem_toArray, List.getElem_cons_zero, List.getElem_cons_succ]
        refine wpAnyH_take (i := 13) (v := undef) rfl (by kernel_rfl) (by kernel_rfl) (by kernel_rfl) (fun _ _ _ h => h) (Or.inr ⟨by rfl, rfl⟩) (by assumption) ?_
        try simp only [Act.put, List.setIfInBounds_toArray, List.set_cons_zero, List.set_cons_succ, List.getElem_toArray, List.getElem_cons_zero, List.getElem_cons_succ]
        refine wpAnyH_take (i := 14) (v := undef) rfl (by kernel_rfl) (by kernel_rfl) (by kernel_rfl) (fun _ _ _ h => h) (Or.inr ⟨by rfl, rfl⟩) (by assumption) ?_
        try simp only [Act.put, List.setIfInBounds_toArray, List.set_cons_zero, List.set_cons_succ, List.getElem_toArray, List.getElem_cons_zero, List.getElem_cons_succ]
        refine wpAnyH_take (i := 15) (v := undef) rfl (by kernel_rfl) (by kernel_rfl) (by kernel_rfl) (fun _ _ _ h => h) (Or.inr ⟨by rfl, rfl⟩) (by assumption) ?_
        try simp only [Act.put, List.setIfInBounds_toArray, List.set_cons_zero, List.set_cons_succ, List.getElem_toArray, List.getElem_cons_zero, List.getElem_cons_succ]
        refine wpAnyH_take (i := 16) (v := undef) rfl (by kernel_rfl) (by kernel_rfl) (by kernel_rfl) (fun _ _ _ h => h) (Or.inr ⟨by rfl, rfl⟩) (by assumption) ?_
        try simp only [Act.put, List.setIfInBounds_toArray, List.set_cons_zero, List.set_cons_succ, List.getElem_toArray, List.getElem_cons_zero, List.getElem_cons_succ]
        refine wpAnyH_take (i := 17) (v := ?_) rfl (by kernel_rfl) (by kernel_rfl) (by kernel_rfl) (fun _ _ _ h => h) (Or.inl ⟨by rfl, ?_⟩) (by assumption) ?_
        rotate_left
        · (intro w hSw; (try dsimp only at hSw); go_simp; try rfl)
        try simp only [Act.put, List.setIfInBounds_toArray, List.set_cons_zero, List.set_cons_succ, List.getElem_toArray, List.getElem_cons_zero, List.getElem_cons_succ]
        refine wpAnyH_take (i := 18) (v := ?_) rfl (by kernel_rfl) (by kernel_rfl) (by kernel_rfl) (fun _ _ _ h => h) (Or.inl ⟨by rfl, ?_⟩) (by assumption) ?_
        rotate_left
        · (intro w hSw; (try dsimp only at hSw); go_simp; try rfl)
        try simp only [Act.put, List.setIfInBounds_toArray, List.set_cons_zero, List.set_cons_succ, List.getElem_toArray, List.getElem_cons_zero, List.getElem_cons_succ]
        refine wpAnyH_done (by kernel_rfl) ?_ _
        have hW : Below w2.heap.size w2 w2.drew := (Below.refl _ _).drew
        clear HC HAL
        have HVw := Lib.hid (HV2.out.below hW)
        have HLw := Lib.hid (HL2.out.below hW)
        have HXw : Hid (LBox w2.drew w.heap.size g) := Lib.hid (HX2.out.below hW)
        have HBw : Hid (Below B w w2.drew) := Lib.hid (HBB.out.trans (hW.mono HLo2.out))
        have HB2W := Lib.hid hW
        have HKw : Hid (Below w.heap.size w w2.drew) := Lib.hid (HKB.out.trans (hW.mono HKB.out.size))
        have k10 := HVw.out.cell 10
        have kc := HXw.out.cell 0
        simp only [ldE, List.getElem?_cons_zero, List.getElem?_cons_succ] at k10 kc
        rw [HF.out] at k10
        have hgw := HVw.out.bk.lt
        have hcw := HXw.out.lt
        have HEN := Lib.hid (leno_any HLw.out HO.out)
        clear hW
        rw [HQ.out] at HEN
        go_wp2_with (go_at_call 35; refine HEN.out.mono ?_; rintro e w3 ⟨rfl, hb3⟩)
        have hw3 : Below w2.heap.size w2 w3 := HB2W.out.trans (hb3.mono HB2W.out.size)
        clear HVw HLw HXw HBw HB2W HKw k10 kc hgw hcw HEN
        have HVw := Lib.hid (HV2.out.below hw3)
        have HLw := Lib.hid (HL2.out.below hw3)
        have HXw : Hid (LBox w3 w.heap.size g) := Lib.hid (HX2.out.below hw3)
        have HBw : Hid (Below B w w3) := Lib.hid (HBB.out.trans (hw3.mono HLo2.out))
        have HB2W := Lib.hid hw3
        have HKw : Hid (Below w.heap.size w w3) := Lib.hid (HKB.out.trans (hw3.mono HKB.out.size))
        have k10b := HVw.out.cell 10
        have kcb := HXw.out.cell 0
        simp only [ldE, List.getElem?_cons_zero, List.getElem?_cons_succ] at k10b kcb
        rw [HF.out] at k10b
        have hgw := HVw.out.bk.lt
        have hcw := HXw.out.lt
        clear hw3 hb3
        have HVd := Lib.hid (HVw.out.below (Below.refl (w3).heap.size w3).drew)
        have HLd := Lib.hid (HLw.out.below (Below.refl (w3).heap.size w3).drew)
        have HXd : Hid (LBox w3.drew w.heap.size g) := Lib.hid (HXw.out.below (Below.refl (w3).heap.size w3).drew)
        have HBd := Lib.hid (Below.drewB HBw.out)
        have HKd := Lib.hid (Below.drewB HKw.out)
        have hgd := HVd.out.bk.lt
        have hcd := HXd.out.lt
        have HLo : Hid (B ≤ w3.drew.heap.size) := Lib.hid (Nat.le_trans HVd.out.lo (Nat.le_of_lt hgd))
        have d12 := HVd.out.cell 12
        have d13 := HVd.out.cell 13
        have d14 := HVd.out.cell 14
        have d15 := HVd.out.cell 15
        have d16 := HVd.out.cell 16
        have d17 := HVd.out.cell 17
        have d18 := HVd.out.cell 18
        have d19 := HVd.out.cell 19
        have d20 := HVd.out.cell 20
        have d21 := HVd.out.cell 21
        simp only [ldE, List.getElem?_cons_zero, List.getElem?_cons_succ] at d12 d13 d14 d15 d16 d17 d18 d19 d20 d21
        have HC5 : Hid (∀ w' : World, Bs w3.drew g w' → w'.cell? ⟨w.heap.size, 0, none⟩ = some (gP g)) := Lib.hid fun w' hb => (hb.cell hcd HNE.out).trans (HXd.out.cell 0)
        have HRd := Lib.hid (HR1.out.on ((HB12.out.trans (HB2W.out.mono HB12.out.size)).trans ((Below.refl (w3).heap.size w3).drew.mono (Nat.le_trans HB12.out.size HB2W.out.size))))
        clear HB12 HB2W
        clear HVw HLw HXw HBw
        refine wp_region_held_drew (S := (fun w' => w'.cell? ⟨w.heap.size, 0, none⟩ = some (gP g))) (by kernel_rfl) ?_ (fun hHeld => ?_)
        · ((first
          | exact HC5.out _ hs5
          | exact HC5.out _ (Bs.refl _ _)
          | exact HC5.out _ (Bs.below hb5)
          | fail))
        refine wpAnyH_take (i := 0) (v := ?_) rfl (by kernel_rfl) (by kernel_rfl) (by kernel_rfl) (fun _ _ _ h => h) (Or.inl ⟨by rfl, ?_⟩) (by assumption) ?_
        rotate_left
        · (intro w hSw; (try dsimp only at hSw); go_simp; try rfl)
        try simp only [Act.put, List.setIfInBounds_toArray, List.set_cons_zero, List.set_cons_succ, List.getElem_toArray, List.getElem_cons_zero, List.getElem_cons_succ]
        refine wpAnyH_take (i := 1) (v := ?_) rfl (by kernel_rfl) (by kernel_rfl) (by kernel_rfl) (fun _ _ _ h => h) (Or.inl ⟨by rfl, ?_⟩) (by assumption) ?_
        rotate_left
        · (intro w hSw; (try dsimp only at hSw); go_simp; try rfl)
        try simp only [Act.put, List.setIfInBounds_toArray, List.set_cons_zero, List.set_cons_succ, List.getElem_toArray, List.getElem_cons_zero, List.getElem_cons_succ]
        refine wpAnyH_take (i := 2) (v := ?_) rfl (by kernel_rfl) (by kernel_rfl) (by kernel_rfl) (fun _ _ _ h => h) (Or.inl ⟨by rfl, ?_⟩) (by assumption) ?_
        rotate_left
        · (intro w hSw; (try dsimp only at hSw); go_simp; try rfl)
        try simp only [Act.put, List.setIfInBounds_toArray, List.set_cons_zero, List.set_cons_succ, List.getElem_toArray, List.getElem_cons_zero, List.getElem_cons_succ]
        refine wpAnyH_take (i := 3) (v := ?_) rfl (by kernel_rfl) (by kernel_rfl) (by kernel_rfl) (fun _ _ _ h => h) (Or.inl ⟨by rfl, ?_⟩) (by assumption) ?_
        rotate_left
        · (intro w hSw; (try dsimp only at hSw); go_simp; try rfl)
        try simp only [Act.put, List.setIfInBounds_toArray, List.set_cons_zero, List.set_cons_succ, List.getElem_toArray, List.getElem_cons_zero, List.getElem_cons_succ]
        refine wpAnyH_take (i := 5) (v := ?_) rfl (by kernel_rfl) (by kernel_rfl) (by kernel_rfl) (fun _ _ _ h => h) (Or.inl ⟨by rfl, ?_⟩) (by assumption) ?_
        rotate_left
        · (intro w hSw; (try dsimp only at hSw); go_simp; try rfl)
        try simp only [Act.put, List.setIfInBounds_toArray, List.set_cons_zero, List.set_cons_succ, List.getElem_toArray, List.getElem_cons_zero, List.getElem_cons_succ]
        refine wpAnyH_ready (rs := [4, 6]) (by kernel_rfl) (by simp) ?_
        refine (AllReadyH.cons rfl (fun K hK => ?_) (AllReadyH.cons rfl (fun K hK => ?_) AllReadyH.nil))
        ·
          go_simp
          refine hK.out _ _ ?_ (fun hHeld => ?_)
          · ((first
          | exact HC5.out _ hs5
          | exact HC5.out _ (Bs.refl _ _)
          | exact HC5.out _ (Bs.below hb5)
          | fail))
          clear hK K
          try simp only [Act.put, List.setIfInBounds_toArray, List.set_cons_zero, List.set_cons_succ, List.getElem_toArray, List.getElem_cons_zero, List.getElem_cons_succ]
          refine wpAnyH_ready (rs := [6]) (by kernel_rfl) (by simp) ?_
          refine (AllReadyH.cons rfl (fun K hK => ?_) AllReadyH.nil)
          go_simp
          (go_at_call 38; refine (all_any _ rs1 _ _ HRd.out HAN.out HAD.out).mono ?_; rintro e w5 ⟨v5, he, ho5, hb5⟩; have he := he.out; subst he; obtain ⟨a5, k5, rfl⟩ := ho5.slice; have hV5 := HVd.out.below hb5; have hL5 := HLd.out.below hb5; have hg5 := hV5.bk.lt; have f12 := hV5.cell 12; have f13 := hV5.cell 13; have f14 := hV5.cell 14; have f15 := hV5.cell 15; have f16 := hV5.cell 16; have f17 := hV5.cell 17; have f18 := hV5.cell 18; have f19 := hV5.cell 19; simp only [ldE, List.getElem?_cons_zero, List.getElem?_cons_succ] at f12 f13 f14 f15 f16 f17 f18 f19)
          refine hK.out _ _ ?_ (fun hHeld => ?_)
          · ((first
          | exact HC5.out _ hs5
          | exact HC5.out _ (Bs.refl _ _)
          | exact HC5.out _ (Bs.below hb5)
          | fail))
          clear hK K
          try simp only [Act.put, List.setIfInBounds_toArray, List.set_cons_zero, List.set_cons_succ, List.getElem_toArray, List.getElem_cons_zero, List.getElem_cons_succ]
          refine wpAnyH_ready (rs := [7]) (by kernel_rfl) (by simp) ?_
          refine (AllReadyH.cons rfl (fun K hK => ?_) AllReadyH.nil)
          go_simp
          (go_at_call 32; refine (enter_any hL5 1 L.cm _ _ _ ho5.rd HOH.out HALn.out).mono ?_; rintro e w6 ⟨he, hL6, hb6, hs6⟩; have he := he.out; subst he; have hs5 : Bs w3.drew g w6 := ⟨Nat.le_trans hb5.size hs6.size, fun k hk hn => (hs6.block k (Nat.lt_of_lt_of_le hk hb5.size) hn).trans (hb5.block k hk)⟩; have hB6 : Below B w3.drew w6 := (hb5.mono HLo.out).trans hb6)
          refine hK.out _ _ ?_ (fun hHeld => ?_)
          · ((first
          | exact HC5.out _ hs5
          | exact HC5.out _ (Bs.refl _ _)
          | exact HC5.out _ (Bs.below hb5)
          | fail))
          clear hK K
          try simp only [Act.put, List.setIfInBounds_toArray, List.set_cons_zero, List.set_cons_succ, List.getElem_toArray, List.getElem_cons_zero, List.getElem_cons_succ]
          refine wpAnyH_done (by kernel_rfl) ?_ _
          have HL6 := Lib.hid hL6
          have HB6 := Lib.hid (HBd.out.trans hB6)
          have HK6 := Lib.hid ((Kt.below HKd.out).trans (Kt.ent hs5 HLd.out))
          clear HC5 HVd HLd hL6 hs5
          go_wp2
          go_end0
          exact ⟨rfl, by rw [HEQ.out]; exact HL6.out, HB6.out, HK6.out⟩
        ·
          go_simp
          (go_at_call 38; refine (all_any _ rs1 _ _ HRd.out HAN.out HAD.out).mono ?_; rintro e w5 ⟨v5, he, ho5, hb5⟩; have he := he.out; subst he; obtain ⟨a5, k5, rfl⟩ := ho5.slice; have hV5 := HVd.out.below hb5; have hL5 := HLd.out.below hb5; have hg5 := hV5.bk.lt; have f12 := hV5.cell 12; have f13 := hV5.cell 13; have f14 := hV5.cell 14; have f15 := hV5.cell 15; have f16 := hV5.cell 16; have f17 := hV5.cell 17; have f18 := hV5.cell 18; have f19 := hV5.cell 19; simp only [ldE, List.getElem?_cons_zero, List.getElem?_cons_succ] at f12 f13 f14 f15 f16 f17 f18 f19)
          refine hK.out _ _ ?_ (fun hHeld => ?_)
          · ((first
          | exact HC5.out _ hs5
          | exact HC5.out _ (Bs.refl _ _)
          | exact HC5.out _ (Bs.below hb5)
          | fail))
          clear hK K
          try simp only [Act.put, List.setIfInBounds_toArray, List.set_cons_zero, List.set_cons_succ, List.getElem_toArray, List.getElem_cons_zero, List.getElem_cons_succ]
          refine wpAnyH_ready (rs := [4]) (by kernel_rfl) (by simp) ?_
          refine (AllReadyH.cons rfl (fun K hK => ?_) AllReadyH.nil)
          go_simp
          refine hK.out _ _ ?_ (fun hHeld => ?_)
          · ((first
          | exact HC5.out _ hs5
          | exact HC5.out _ (Bs.refl _ _)
          | exact HC5.out _ (Bs.below hb5)
          | fail))
          clear hK K
          try simp only [Act.put, List.setIfInBounds_toArray, List.set_cons_zero, List.set_cons_succ, List.getElem_toArray, List.getElem_cons_zero, List.getElem_cons_succ]
          refine wpAnyH_ready (rs := [7]) (by kernel_rfl) (by simp) ?_
          refine (AllReadyH.cons rfl (fun K hK => ?_) AllReadyH.nil)
          go_simp
          (go_at_call 32; refine (enter_any hL5 1 L.cm _ _ _ ho5.rd HOH.out HALn.out).mono ?_; rintro e w6 ⟨he, hL6, hb6, hs6⟩; have he := he.out; subst he; have hs5 : Bs w3.drew g w6 := ⟨Nat.le_trans hb5.size hs6.size, fun k hk hn => (hs6.block k (Nat.lt_of_lt_of_le hk hb5.size) hn).trans (hb5.block k hk)⟩; have hB6 : Below B w3.drew w6 := (hb5.mono HLo.out).trans hb6)
          refine hK.out _ _ ?_ (fun hHeld => ?_)
          · ((first
          | exact HC5.out _ hs5
          | exact HC5.out _ (Bs.refl _ _)
          | exact HC5.out _ (Bs.below hb5)
          | fail))
          clear hK K
          try simp only [Act.put, List.setIfInBounds_toArray, List.set_cons_zero, List.set_cons_succ, List.getElem_toArray, List.getElem_cons_zero, List.getElem_cons_succ]
          refine wpAnyH_done (by kernel_rfl) ?_ _
          have HL6 := Lib.hid hL6
          have HB6 := Lib.hid (HBd.out.trans hB6)
          have HK6 := Lib.hid ((Kt.below HKd.out).trans (Kt.ent hs5 HLd.out))
          clear HC5 HVd HLd hL6 hs5
          go_wp2
          go_end0
          exact ⟨rfl, by rw [HEQ.out]; exact HL6.out, HB6.out, HK6.out⟩
      | false =>
        have HQ := Lib.hid hq
        have HEQ : Hid (propL L = L) := Lib.hid (by unfold propL alkL; rw [HF.out, HOO.out, hq]; rfl)
        clear hq
        go_wp2_with fail
        refine wp_region_held_drew (S := (fun w' => w'.cell? ⟨w.heap.size, 0, none⟩ = some (gP g) ∧ w'.cell? ⟨g, 10, none⟩ = some (.bool true) ∧ w'.cell? ⟨g, 0, none⟩ = some (.int .i64 L.ep) ∧ w'.cell? ⟨g, 1, none⟩ = some (.slice an nn cn) ∧ w'.cell? ⟨g, 22, none⟩ = some (.slice aw nw cw) ∧ Below w2.heap.size w2 w')) (by kernel_rfl) ?_ (fun hHeld => ?_)
        · ((first
  | exact HC.out _ (Below.refl _ _)
  | exact HC.out _ (Below.refl _ _).drew
  | exact HC.out _ hw3
  | (go_split_ands; exact HC.out _ (by assumption))
  | fail))
        refine wpAnyH_take (i := 0) (v := ?_) rfl (by kernel_rfl) (by kernel_rfl) (by kernel_rfl) (fun _ _ _ h => h) (Or.inl ⟨by rfl, ?_⟩) (by assumption) ?_
        rotate_left
        · (intro w hSw; (try dsimp only at hSw); go_simp; try rfl)
        try simp only [Act.put, List.setIfInBounds_toArray, List.set_cons_zero, List.set_cons_succ, List.getElem_toArray, List.getElem_cons_zero, List.getElem_cons_succ]
        refine wpAnyH_take (i := 1) (v := ?_) rfl (by kernel_rfl) (by kernel_rfl) (by kernel_rfl) (fun _ _ _ h => h) (Or.inl ⟨by rfl, ?_⟩) (by assumption) ?_
        rotate_left
        · (intro w hSw; (try dsimp only at hSw); go_simp; try rfl)
        try simp only [Act.put, List.setIfInBounds_toArray, List.set_cons_zero, List.set_cons_succ, List.getElem_toArray, List.getElem_cons_zero, List.getElem_cons_succ]
        refine wpAnyH_take (i := 2) (v := ?_) rfl (by kernel_rfl) (by kernel_rfl) (by kernel_rfl) (fun _ _ _ h => h) (Or.inl ⟨by rfl, ?_⟩) (by assumption) ?_
        rotate_left
        · (intro w hSw; (try dsimp only at hSw); go_simp; try rfl)
        try simp only [Act.put, List.setIfInBounds_toArray, List.set_cons_zero, List.set_cons_succ, List.getElem_toArray, List.getElem_cons_zero, List.getElem_cons_succ]
        refine wpAnyH_take (i := 3) (v := ?_) rfl (by kernel_rfl) (by kernel_rfl) (by kernel_rfl) (fun _ _ _ h => h) (Or.inl ⟨by rfl, ?_⟩) (by assumption) ?_
        rotate_left
        · (intro w hSw; (try dsimp only at hSw); go_simp; try rfl)
        try simp only [Act.put, List.setIfInBounds_toArray, List.set_cons_zero, List.set_cons_succ, List.getElem_toArray, List.getElem_cons_zero, List.getElem_cons_succ]
        refine wpAnyH_take (i := 4) (v := ?_) rfl (by kernel_rfl) (by kernel_rfl) (by kernel_rfl) (fun _ _ _ h => h) (Or.inl ⟨by rfl, ?_⟩) (by assumption) ?_
        rotate_left
        · (intro w hSw; (try dsimp only at hSw); go_simp; try rfl)
        try simp only [Act.put, List.setIfInBounds_toArray, List.set_cons_zero, List.set_cons_succ, List.getElem_toArray, List.getElem_cons_zero, List.getElem_cons_succ]
        refine wpAnyH_take (i := 5) (v := ?_) rfl (by kernel_rfl) (by kernel_rfl) (by kernel_rfl) (fun _ _ _ h => h) (Or.inl ⟨by rfl, ?_⟩) (by assumption) ?_
        rotate_left
        · (intro w hSw; (try dsimp only at hSw); go_simp; try rfl)
        try simp only [Act.put, List.setIfInBounds_toArray, List.set_cons_zero, List.set_cons_succ, List.getElem_toArray, List.getElem_cons_zero, List.getElem_cons_succ]
        refine wpAnyH_take (i := 6) (v := ?_) rfl (by kernel_rfl) (by kernel_rfl) (by kernel_rfl) (fun _ _ _ h => h) (Or.inl ⟨by rfl, ?_⟩) (by assumption) ?_
        rotate_left
        · (intro w hSw; (try dsimp only at hSw); go_simp; try rfl)
        try simp only [Act.put, List.setIfInBounds_toArray, List.set_cons_zero, List.set_cons_succ, List.getElem_toArray, List.getElem_cons_zero, List.getElem_cons_succ]
        refine wpAnyH_take (i := 7) (v := ?_) rfl (by kernel_rfl) (by kernel_rfl) (by kernel_rfl) (fun _ _ _ h => h) (Or.inl ⟨by rfl, ?_⟩) (by assumption) ?_
        rotate_left
        · (intro w hSw; (try dsimp only at hSw); go_simp; try rfl)
        try simp only [Act.put, List.setIfInBounds_toArray, List.set_cons_zero, List.set_cons_succ, List.getElem_toArray, List.getElem_cons_zero, List.getElem_cons_succ]
        refine wpAnyH_take (i := 8) (v := undef) rfl (by kernel_rfl) (by kernel_rfl) (by kernel_rfl) (fun _ _ _ h => h) (Or.inr ⟨by rfl, rfl⟩) (by assumption) ?_
        try simp only [Act.put, List.setIfInBounds_toArray, List.set_cons_zero, List.set_cons_succ, List.getElem_toArray, List.getElem_cons_zero, List.getElem_cons_succ]
        refine wpAnyH_take (i := 9) (v := undef) rfl (by kernel_rfl) (by kernel_rfl) (by kernel_rfl) (fun _ _ _ h => h) (Or.inr ⟨by rfl, rfl⟩) (by assumption) ?_
        try simp only [Act.put, List.setIfInBounds_toArray, List.set_cons_zero, List.set_cons_succ, List.getElem_toArray, List.getElem_cons_zero, List.getElem_cons_succ]
        refine wpAnyH_take (i := 10) (v := undef) rfl (by kernel_rfl) (by kernel_rfl) (by kernel_rfl) (fun _ _ _ h => h) (Or.inr ⟨by rfl, rfl⟩) (by assumption) ?_
        try simp only [Act.put, List.setIfInBounds_toArray, List.set_cons_zero, List.set_cons_succ, List.getElem_toArray, List.getElem_cons_zero, List.getElem_cons_succ]
        refine wpAnyH_take (i := 11) (v := undef) rfl (by kernel_rfl) (by kernel_rfl) (by kernel_rfl) (fun _ _ _ h => h) (Or.inr ⟨by rfl, rfl⟩) (by assumption) ?_
        try simp only [Act.put, List.setIfInBounds_toArray, List.set_cons_zero, List.set_cons_succ, List.getElem_toArray, List.getElem_cons_zero, List.getElem_cons_succ]
        refine wpAnyH_take (i := 12) (v := undef) rfl (by kernel_rfl) (by kernel_rfl) (by kernel_rfl) (fun _ _ _ h => h) (Or.inr ⟨by rfl, rfl⟩) (by assumption) ?_
        try simp only [Act.put, List.setIfInBounds_toArray, List.set_cons_zero, List.set_cons_succ, List.getElem_toArray, List.getElem_cons_zero, List.getElem_cons_succ]
        refine wpAnyH_take (i := 13) (v := undef) rfl (by kernel_rfl) (by kernel_rfl) (by kernel_rfl) (fun _ _ _ h => h) (Or.inr ⟨by rfl, rfl⟩) (by assumption) ?_
        try simp only [Act.put, List.setIfInBounds_toArray, List.set_cons_zero, List.set_cons_succ, List.getElem_toArray, List.getElem_cons_zero, List.getElem_cons_succ]
        refine wpAnyH_take (i := 14) (v := undef) rfl (by kernel_rfl) (by kernel_rfl) (by kernel_rfl) (fun _ _ _ h => h) (Or.inr ⟨by rfl, rfl⟩) (by assumption) ?_
        try simp only [Act.put, List.setIfInBounds_toArray, List.set_cons_zero, List.set_cons_succ, List.getElem_toArray, List.getElem_cons_zero, List.getElem_cons_succ]
        refine wpAnyH_take (i := 15) (v := undef) rfl (by kernel_rfl) (by kernel_rfl) (by kernel_rfl) (fun _ _ _ h => h) (Or.inr ⟨by rfl, rfl⟩) (by assumption) ?_
        try simp only [Act.put, List.setIfInBounds_toArray, List.set_cons_zero, List.set_cons_succ, List.getElem_toArray, List.getElem_cons_zero, List.getElem_cons_succ]
        refine wpAnyH_take (i := 16) (v := undef) rfl (by kernel_rfl) (by kernel_rfl) (by kernel_rfl) (fun _ _ _ h => h) (Or.inr ⟨by rfl, rfl⟩) (by assumption) ?_
        try simp only [Act.put, List.setIfInBounds_toArray, List.set_cons_zero, List.set_cons_succ, List.getElem_toArray, List.getElem_cons_zero, List.getElem_cons_succ]
        refine wpAnyH_take (i := 17) (v := ?_) rfl (by kernel_rfl) (by kernel_rfl) (by kernel_rfl) (fun _ _ _ h => h) (Or.inl ⟨by rfl, ?_⟩) (by assumption) ?_
        rotate_left
        · (intro w hSw; (try dsimp only at hSw); go_simp; try rfl)
        try simp only [Act.put, List.setIfInBounds_toArray, List.set_cons_zero, List.set_cons_succ, List.getElem_toArray, List.getElem_cons_zero, List.getElem_cons_succ]
        refine wpAnyH_take (i := 18) (v := ?_) rfl (by kernel_rfl) (by kernel_rfl) (by kernel_rfl) (fun _ _ _ h => h) (Or.inl ⟨by rfl, ?_⟩) (by assumption) ?_
        rotate_left
        · (intro w hSw; (try dsimp only at hSw); go_simp; try rfl)
        try simp only [Act.put, List.setIfInBounds_toArray, List.set_cons_zero, List.set_cons_succ, List.getElem_toArray, List.getElem_cons_zero, List.getElem_cons_succ]
        refine wpAnyH_done (by kernel_rfl) ?_ _
        have hW : Below w2.heap.size w2 w2.drew := (Below.refl _ _).drew
        clear HC HAL
        have HVw := Lib.hid (HV2.out.below hW)
        have HLw := Lib.hid (HL2.out.below hW)
        have HXw : Hid (LBox w2.drew w.heap.size g) := Lib.hid (HX2.out.below hW)
        have HBw : Hid (Below B w w2.drew) := Lib.hid (HBB.out.trans (hW.mono HLo2.out))
        have HB2W := Lib.hid hW
        have HKw : Hid (Below w.heap.size w w2.drew) := Lib.hid (HKB.out.trans (hW.mono HKB.out.size))
        have k10 := HVw.out.cell 10
        have kc := HXw.out.cell 0
        simp only [ldE, List.getElem?_cons_zero, List.getElem?_cons_succ] at k10 kc
        rw [HF.out] at k10
        have hgw := HVw.out.bk.lt
        have hcw := HXw.out.lt
        have HEN := Lib.hid (leno_any HLw.out HO.out)
        clear hW
        rw [HQ.out] at HEN
        go_wp2_with (go_at_call 35; refine HEN.out.mono ?_; rintro e w3 ⟨rfl, hb3⟩; have HB3 := Lib.hid hb3; clear hb3)
        go_end0
        exact ⟨rfl, by rw [HEQ.out]; exact HLw.out.below HB3.out, HBw.out.trans (HB3.out.mono (Nat.le_trans HVw.out.lo (Nat.le_of_lt HVw.out.bk.lt))), (Kt.below HKw.out).trans (Kt.below HB3.out)⟩
  | false =>
    cases hq : enoL L with
    | true =>
      have HQ := Lib.hid hq
      have HEQ : Hid (propL L = entL L 1 L.cm (allA (atsL L))) := Lib.hid (by unfold propL alkL; rw [HF.out, hq]; rfl)
      clear hq
      go_wp2_with fail
      refine wp_region_held_drew (S := (fun w' => w'.cell? ⟨w.heap.size, 0, none⟩ = some (gP g) ∧ w'.cell? ⟨g, 10, none⟩ = some (.bool false) ∧ w'.cell? ⟨g, 0, none⟩ = some (.int .i64 L.ep) ∧ w'.cell? ⟨g, 1, none⟩ = some (.slice an nn cn) ∧ w'.cell? ⟨g, 22, none⟩ = some (.slice aw nw cw) ∧ Below w2.heap.size w2 w')) (by kernel_rfl) ?_ (fun hHeld => ?_)
      · ((first
  | exact HC.out _ (Below.refl _ _)
  | exact HC.out _ (Below.refl _ _).drew
  | exact HC.out _ hw3
  | (go_split_ands; exact HC.out _ (by assumption))
  | fail))
      refine wpAnyH_take (i := 0) (v := ?_) rfl (by kernel_rfl) (by kernel_rfl) (by kernel_rfl) (fun _ _ _ h => h) (Or.inl ⟨by rfl, ?_⟩) (by assumption) ?_
      rotate_left
      · (intro w hSw; (try dsimp only at hSw); go_simp; try rfl)
      try simp only [Act.put, List.setIfInBounds_toArray, List.set_cons_zero, List.set_cons_succ, List.getElem_toArray, List.getElem_cons_zero, List.getElem_cons_succ]
      refine wpAnyH_take (i := 1) (v := ?_) rfl (by kernel_rfl) (by kernel_rfl) (by kernel_rfl) (fun _ _ _ h => h) (Or.inl ⟨by rfl, ?_⟩) (by assumption) ?_
      rotate_left
      · (intro w hSw; (try dsimp only at hSw); go_simp; try rfl)
      try simp only [Act.put, List.setIfInBounds_toArray, List.set_cons_zero, List.set_cons_succ, List.getElem_toArray, List.getElem_cons_zero, List.getElem_cons_succ]
      refine wpAnyH_take (i := 2) (v := ?_) rfl (by kernel_rfl) (by kernel_rfl) (by kernel_rfl) (fun _ _ _ h => h) (Or.inl ⟨by rfl, ?_⟩) (by assumption) ?_
      rotate_left
      · (intro w hSw; (try dsimp only at hSw); go_simp; try rfl)
      try simp only [Act.put, List.setIfInBounds_toArray, List.set_cons_zero, List.set_cons_succ, List.getElem_toArray, List.getElem_cons_zero, List.getElem_cons_succ]
      refine wpAnyH_take (i := 3) (v := ?_) rfl (by kernel_rfl) (by kernel_rfl) (by kernel_rfl) (fun _ _ _ h => h) (Or.inl ⟨by rfl, ?_⟩) (by assumption) ?_
      rotate_left
      · (intro w hSw; (try dsimp only at hSw); go_simp; try rfl)
      try simp only [Act.put, List.setIfInBounds_toArray, List.set_cons_zero, List.set_cons_succ, List.getElem_toArray, List.getElem_cons_zero, List.getElem_cons_succ]
      refine wpAnyH_take (i := 4) (v := ?_) rfl (by kernel_rfl) (by kernel_rfl) (by kernel_rfl) (fun _ _ _ h => h) (Or.inl ⟨by rfl, ?_⟩) (by assumption) ?_
      rotate_left
      · (intro w hSw; (try dsimp only at hSw); go_simp; try rfl)
      try simp only [Act.put, List.setIfInBounds_toArray, List.set_cons_zero, List.set_cons_succ, List.getElem_toArray, List.getElem_cons_zero, List.getElem_cons_succ]
      refine wpAnyH_take (i := 5) (v := undef) rfl (by kernel_rfl) (by kernel_rfl) (by kernel_rfl) (fun _ _ _ h => h) (Or.inr ⟨by rfl, rfl⟩) (by assumption) ?_
      try simp only [Act.put, List.setIfInBounds_toArray, List.set_cons_zero, List.set_cons_succ, List.getElem_toArray, List.getElem_cons_zero, List.getElem_cons_succ]
      refine wpAnyH_take (i := 6) (v := ?_) rfl (by kernel_rfl) (by kernel_rfl) (by kernel_rfl) (fun _ _ _ h => h) (Or.inl ⟨by rfl, ?_⟩) (by assumption) ?_
      rotate_left
      · (intro w hSw; (try dsimp only at hSw); go_simp; try rfl)
      try simp only [Act.put, List.setIfInBounds_toArray, List.set_cons_zero, List.set_cons_succ, List.getElem_toArray, List.getElem_cons_zero, List.getElem_cons_succ]
      refine wpAnyH_take (i := 7) (v := ?_) rfl (by kernel_rfl) (by kernel_rfl) (by kernel_rfl) (fun _ _ _ h => h) (Or.inl ⟨by rfl, ?_⟩) (by assumption) ?_
      rotate_left
      · (intro w hSw; (try dsimp only at hSw); go_simp; try rfl)
      try simp only [Act.put, List.setIfInBounds_toArray, List.set_cons_zero, List.set_cons_succ, List.getElem_toArray, List.getElem_cons_zero, List.getElem_cons_succ]
      refine wpAnyH_take (i := 8) (v := undef) rfl (by kernel_rfl) (by kernel_rfl) (by kernel_rfl) (fun _ _ _ h => h) (Or.inr ⟨by rfl, rfl⟩) (by assumption) ?_
      try simp only [Act.put, List.setIfInBounds_toArray, List.set_cons_zero, List.set_cons_succ, List.getElem_toArray, List.getElem_cons_zero, List.getElem_cons_succ]
      refine wpAnyH_take (i := 9) (v := undef) rfl (by kernel_rfl) (by kernel_rfl) (by kernel_rfl) (fun _ _ _ h => h) (Or.inr ⟨by rfl, rfl⟩) (by assumption) ?_
      try simp only [Act.put, List.setIfInBounds_toArray, List.set_cons_zero, List.set_cons_succ, List.getElem_toArray, List.getElem_cons_zero, List.getElem_cons_succ]
      refine wpAnyH_take (i := 10) (v := undef) rfl (by kernel_rfl) (by kernel_rfl) (by kernel_rfl) (fun _ _ _ h => h) (Or.inr ⟨by rfl, rfl⟩) (by assumption) ?_
      try simp only [Act.put, List.setIfInBounds_toArray, List.set_cons_zero, List.set_cons_succ, List.getElem_toArray, List.getElem_cons_zero, List.getElem_cons_succ]
      refine wpAnyH_take (i := 11) (v := undef) rfl (by kernel_rfl) (by kernel_rfl) (by kernel_rfl) (fun _ _ _ h => h) (Or.inr ⟨by rfl, rfl⟩) (by assumption) ?_
      try simp only [Act.put, List.setIfInBounds_toArray, List.set_cons_zero, List.set_cons_succ, List.getElem_toArray, List.getElem_cons_zero, List.getElem_cons_succ]
      refine wpAnyH_take (i := 12) (v := undef) rfl (by kernel_rfl) (by kernel_rfl) (by kernel_rfl) (fun _ _ _ h => h) (Or.inr ⟨by rfl, rfl⟩) (by assumption) ?_
      try simp only [Act.put, List.setIfInBounds_toArray, List.set_cons_zero, List.set_cons_succ, List.getElem_toArray, List.getElem_cons_zero, List.getElem_cons_succ]
      refine wpAnyH_take (i := 13) (v := undef) rfl (by kernel_rfl) (by kernel_rfl) (by kernel_rfl) (fun _ _ _ h => h) (Or.inr ⟨by rfl, rfl⟩) (by assumption) ?_
      try simp only [Act.put, List.setIfInBounds_toArray, List.set_cons_zero, List.set_cons_succ, List.getElem_toArray, List.getElem_cons_zero, List.getElem_cons_succ]
      refine wpAnyH_take (i := 14) (v := undef) rfl (by kernel_rfl) (by kernel_rfl) (by kernel_rfl) (fun _ _ _ h => h) (Or.inr ⟨by rfl, rfl⟩) (by assumption) ?_
      try simp only [Act.put, List.setIfInBounds_toArray, List.set_cons_zero, List.set_cons_succ, List.getElem_toArray, List.getElem_cons_zero, List.getElem_cons_succ]
      refine wpAnyH_take (i := 15) (v := undef) rfl (by kernel_rfl) (by kernel_rfl) (by kernel_rfl) (fun _ _ _ h => h) (Or.inr ⟨by rfl, rfl⟩) (by assumption) ?_
      try simp only [Act.put, List.setIfInBounds_toArray, List.set_cons_zero, List.set_cons_succ, List.getElem_toArray, List.getElem_cons_zero, List.getElem_cons_succ]
      refine wpAnyH_take (i := 16) (v := undef) rfl (by kernel_rfl) (by kernel_rfl) (by kernel_rfl) (fun _ _ _ h => h) (Or.inr ⟨by rfl, rfl⟩) (by assumption) ?_
      try simp only [Act.put, List.setIfInBounds_toArray, List.set_cons_zero, List.set_cons_succ, List.getElem_toArray, List.getElem_cons_zero, List.getElem_cons_succ]
      refine wpAnyH_take (i := 17) (v := ?_) rfl (by kernel_rfl) (by kernel_rfl) (by kernel_rfl) (fun _ _ _ h => h) (Or.inl ⟨by rfl, ?_⟩) (by assumption) ?_
      rotate_left
      · (intro w hSw; (try dsimp only at hSw); go_simp; try rfl)
      try simp only [Act.put, List.setIfInBounds_toArray, List.set_cons_zero, List.set_cons_succ, List.getElem_toArray, List.getElem_cons_zero, List.getElem_cons_succ]
      refine wpAnyH_take (i := 18) (v := ?_) rfl (by kernel_rfl) (by kernel_rfl) (by kernel_rfl) (fun _ _ _ h => h) (Or.inl ⟨by rfl, ?_⟩) (by assumption) ?_
      rotate_left
      · (intro w hSw; (try dsimp only at hSw); go_simp; try rfl)
      try simp only [Act.put, List.setIfInBounds_toArray, List.set_cons_zero, List.set_cons_succ, List.getElem_toArray, List.getElem_cons_zero, List.getElem_cons_succ]
      refine wpAnyH_done (by kernel_rfl) ?_ _
      have hW : Below w2.heap.size w2 w2.drew := (Below.refl _ _).drew
      clear HC HAL
      have HVw := Lib.hid (HV2.out.below hW)
      have HLw := Lib.hid (HL2.out.below hW)
      have HXw : Hid (LBox w2.drew w.heap.size g) := Lib.hid (HX2.out.below hW)
      have HBw : Hid (Below B w w2.drew) := Lib.hid (HBB.out.trans (hW.mono HLo2.out))
      have HB2W := Lib.hid hW
      have HKw : Hid (Below w.heap.size w w2.drew) := Lib.hid (HKB.out.trans (hW.mono HKB.out.size))
      have k10 := HVw.out.cell 10
      have kc := HXw.out.cell 0
      simp only [ldE, List.getElem?_cons_zero, List.getElem?_cons_succ] at k10 kc
      rw [HF.out] at k10
      have hgw := HVw.out.bk.lt
      have hcw := HXw.out.lt
      have HEN := Lib.hid (leno_any HLw.out HO.out)
      clear hW
      rw [HQ.out] at HEN
      go_wp2_with (go_at_call 35; refine HEN.out.mono ?_; rintro e w3 ⟨rfl, hb3⟩)
      have hw3 : Below w2.heap.size w2 w3 := HB2W.out.trans (hb3.mono HB2W.out.size)
      clear HVw HLw HXw HBw HB2W HKw k10 kc hgw hcw HEN
      have HVw := Lib.hid (HV2.out.below hw3)
      have HLw := Lib.hid (HL2.out.below hw3)
      have HXw : Hid (LBox w3 w.heap.size g) := Lib.hid (HX2.out.below hw3)
      have HBw : Hid (Below B w w3) := Lib.hid (HBB.out.trans (hw3.mono HLo2.out))
      have HB2W := Lib.hid hw3
      have HKw : Hid (Below w.heap.size w w3) := Lib.hid (HKB.out.trans (hw3.mono HKB.out.size))
      have k10b := HVw.out.cell 10
      have kcb := HXw.out.cell 0
      simp only [ldE, List.getElem?_cons_zero, List.getElem?_cons_succ] at k10b kcb
      rw [HF.out] at k10b
      have hgw := HVw.out.bk.lt
      have hcw := HXw.out.lt
      clear hw3 hb3
      have HVd := Lib.hid (HVw.out.below (Below.refl (w3).heap.size w3).drew)
      have HLd := Lib.hid (HLw.out.below (Below.refl (w3).heap.size w3).drew)
      have HXd : Hid (LBox w3.drew w.heap.size g) := Lib.hid (HXw.out.below (Below.refl (w3).heap.size w3).drew)
      have HBd := Lib.hid (Below.drewB HBw.out)
      have HKd := Lib.hid (Below.drewB HKw.out)
      have hgd := HVd.out.bk.lt
      have hcd := HXd.out.lt
      have HLo : Hid (B ≤ w3.drew.heap.size) := Lib.hid (Nat.le_trans HVd.out.lo (Nat.le_of_lt hgd))
      have d12 := HVd.out.cell 12
      have d13 := HVd.out.cell 13
      have d14 := HVd.out.cell 14
      have d15 := HVd.out.cell 15
      have d16 := HVd.out.cell 16
      have d17 := HVd.out.cell 17
      have d18 := HVd.out.cell 18
      have d19 := HVd.out.cell 19
      have d20 := HVd.out.cell 20
      have d21 := HVd.out.cell 21
      simp only [ldE, List.getElem?_cons_zero, List.getElem?_cons_succ] at d12 d13 d14 d15 d16 d17 d18 d19 d20 d21
      have HC5 : Hid (∀ w' : World, Bs w3.drew g w' → w'.cell? ⟨w.heap.size, 0, none⟩ = some (gP g)) := Lib.hid fun w' hb => (hb.cell hcd HNE.out).trans (HXd.out.cell 0)
      have HRd := Lib.hid (HR1.out.on ((HB12.out.trans (HB2W.out.mono HB12.out.size)).trans ((Below.refl (w3).heap.size w3).drew.mono (Nat.le_trans HB12.out.size HB2W.out.size))))
      clear HB12 HB2W
      clear HVw HLw HXw HBw
      refine wp_region_held_drew (S := (fun w' => w'.cell? ⟨w.heap.size, 0, none⟩ = some (gP g))) (by kernel_rfl) ?_ (fun hHeld => ?_)
      · ((first
        | exact HC5.out _ hs5
        | exact HC5.out _ (Bs.refl _ _)
        | exact HC5.out _ (Bs.below hb5)
        | fail))
      refine wpAnyH_take (i := 0) (v := ?_) rfl (by kernel_rfl) (by kernel_rfl) (by kernel_rfl) (fun _ _ _ h => h) (Or.inl ⟨by rfl, ?_⟩) (by assumption) ?_
      rotate_left
      · (intro w hSw; (try dsimp only at hSw); go_simp; try rfl)
      try simp only [Act.put, List.setIfInBounds_toArray, List.set_cons_zero, List.set_cons_succ, List.getElem_toArray, List.getElem_cons_zero, List.getElem_cons_succ]
      refine wpAnyH_take (i := 1) (v := ?_) rfl (by kernel_rfl) (by kernel_rfl) (by kernel_rfl) (fun _ _ _ h => h) (Or.inl ⟨by rfl, ?_⟩) (by assumption) ?_
      rotate_left
      · (intro w hSw; (try dsimp only at hSw); go_simp; try rfl)
      try simp only [Act.put, List.setIfInBounds_toArray, List.set_cons_zero, List.set_cons_succ, List.getElem_toArray, List.getElem_cons_zero, List.getElem_cons_succ]
      refine wpAnyH_take (i := 2) (v := ?_) rfl (by kernel_rfl) (by kernel_rfl) (by kernel_rfl) (fun _ _ _ h => h) (Or.inl ⟨by rfl, ?_⟩) (by assumption) ?_
      rotate_left
      · (intro w hSw; (try dsimp only at hSw); go_simp; try rfl)
      try simp only [Act.put, List.setIfInBounds_toArray, List.set_cons_zero, List.set_cons_succ, List.getElem_toArray, List.getElem_cons_zero, List.getElem_cons_succ]
      refine wpAnyH_take (i := 3) (v := ?_) rfl (by kernel_rfl) (by kernel_rfl) (by kernel_rfl) (fun _ _ _ h => h) (Or.inl ⟨by rfl, ?_⟩) (by assumption) ?_
      rotate_left
      · (intro w hSw; (try dsimp only at hSw); go_simp; try rfl)
      try simp only [Act.put, List.setIfInBounds_toArray, List.set_cons_zero, List.set_cons_succ, List.getElem_toArray, List.getElem_cons_zero, List.getElem_cons_succ]
      refine wpAnyH_take (i := 5) (v := ?_) rfl (by kernel_rfl) (by kernel_rfl) (by kernel_rfl) (fun _ _ _ h => h) (Or.inl ⟨by rfl, ?_⟩) (by assumption) ?_
      rotate_left
      · (intro w hSw; (try dsimp only at hSw); go_simp; try rfl)
      try simp only [Act.put, List.setIfInBounds_toArray, List.set_cons_zero, List.set_cons_succ, List.getElem_toArray, List.getElem_cons_zero, List.getElem_cons_succ]
      refine wpAnyH_ready (rs := [4, 6]) (by kernel_rfl) (by simp) ?_
      refine (AllReadyH.cons rfl (fun K hK => ?_) (AllReadyH.cons rfl (fun K hK => ?_) AllReadyH.nil))
      ·
        go_simp
        refine hK.out _ _ ?_ (fun hHeld => ?_)
        · ((first
        | exact HC5.out _ hs5
        | exact HC5.out _ (Bs.refl _ _)
        | exact HC5.out _ (Bs.below hb5)
        | fail))
        clear hK K
        try simp only [Act.put, List.setIfInBounds_toArray, List.set_cons_zero, List.set_cons_succ, List.getElem_toArray, List.getElem_cons_zero, List.getElem_cons_succ]
        refine wpAnyH_ready (rs := [6]) (by kernel_rfl) (by simp) ?_
        refine (AllReadyH.cons rfl (fun K hK => ?_) AllReadyH.nil)
        go_simp
        (go_at_call 38; refine (all_any _ rs1 _ _ HRd.out HAN.out HAD.out).mono ?_; rintro e w5 ⟨v5, he, ho5, hb5⟩; have he := he.out; subst he; obtain ⟨a5, k5, rfl⟩ := ho5.slice; have hV5 := HVd.out.below hb5; have hL5 := HLd.out.below hb5; have hg5 := hV5.bk.lt; have f12 := hV5.cell 12; have f13 := hV5.cell 13; have f14 := hV5.cell 14; have f15 := hV5.cell 15; have f16 := hV5.cell 16; have f17 := hV5.cell 17; have f18 := hV5.cell 18; have f19 := hV5.cell 19; simp only [ldE, List.getElem?_cons_zero, List.getElem?_cons_succ] at f12 f13 f14 f15 f16 f17 f18 f19)
        refine hK.out _ _ ?_ (fun hHeld => ?_)
        · ((first
        | exact HC5.out _ hs5
        | exact HC5.out _ (Bs.refl _ _)
        | exact HC5.out _ (Bs.below hb5)
        | fail))
        clear hK K
        try simp only [Act.put, List.setIfInBounds_toArray, List.set_cons_zero, List.set_cons_succ, List.getElem_toArray, List.getElem_cons_zero, List.getElem_cons_succ]
        refine wpAnyH_ready (rs := [7]) (by kernel_rfl) (by simp) ?_
        refine (AllReadyH.cons rfl (fun K hK => ?_) AllReadyH.nil)
        go_simp
        (go_at_call 32; refine (enter_any hL5 1 L.cm _ _ _ ho5.rd HOH.out HALn.out).mono ?_; rintro e w6 ⟨he, hL6, hb6, hs6⟩; have he := he.out; subst he; have hs5 : Bs w3.drew g w6 := ⟨Nat.le_trans hb5.size hs6.size, fun k hk hn => (hs6.block k (Nat.lt_of_lt_of_le hk hb5.size) hn).trans (hb5.block k hk)⟩; have hB6 : Below B w3.drew w6 := (hb5.mono HLo.out).trans hb6)
        refine hK.out _ _ ?_ (fun hHeld => ?_)
        · ((first
        | exact HC5.out _ hs5
        | exact HC5.out _ (Bs.refl _ _)
        | exact HC5.out _ (Bs.below hb5)
        | fail))
        clear hK K
        try simp only [Act.put, List.setIfInBounds_toArray, List.set_cons_zero, List.set_cons_succ, List.getElem_toArray, List.getElem_cons_zero, List.getElem_cons_succ]
        refine wpAnyH_done (by kernel_rfl) ?_ _
        have HL6 := Lib.hid hL6
        have HB6 := Lib.hid (HBd.out.trans hB6)
        have HK6 := Lib.hid ((Kt.below HKd.out).trans (Kt.ent hs5 HLd.out))
        clear HC5 HVd HLd hL6 hs5
        go_wp2
        go_end0
        exact ⟨rfl, by rw [HEQ.out]; exact HL6.out, HB6.out, HK6.out⟩
      ·
        go_simp
        (go_at_call 38; refine (all_any _ rs1 _ _ HRd.out HAN.out HAD.out).mono ?_; rintro e w5 ⟨v5, he, ho5, hb5⟩; have he := he.out; subst he; obtain ⟨a5, k5, rfl⟩ := ho5.slice; have hV5 := HVd.out.below hb5; have hL5 := HLd.out.below hb5; have hg5 := hV5.bk.lt; have f12 := hV5.cell 12; have f13 := hV5.cell 13; have f14 := hV5.cell 14; have f15 := hV5.cell 15; have f16 := hV5.cell 16; have f17 := hV5.cell 17; have f18 := hV5.cell 18; have f19 := hV5.cell 19; simp only [ldE, List.getElem?_cons_zero, List.getElem?_cons_succ] at f12 f13 f14 f15 f16 f17 f18 f19)
        refine hK.out _ _ ?_ (fun hHeld => ?_)
        · ((first
        | exact HC5.out _ hs5
        | exact HC5.out _ (Bs.refl _ _)
        | exact HC5.out _ (Bs.below hb5)
        | fail))
        clear hK K
        try simp only [Act.put, List.setIfInBounds_toArray, List.set_cons_zero, List.set_cons_succ, List.getElem_toArray, List.getElem_cons_zero, List.getElem_cons_succ]
        refine wpAnyH_ready (rs := [4]) (by kernel_rfl) (by simp) ?_
        refine (AllReadyH.cons rfl (fun K hK => ?_) AllReadyH.nil)
        go_simp
        refine hK.out _ _ ?_ (fun hHeld => ?_)
        · ((first
        | exact HC5.out _ hs5
        | exact HC5.out _ (Bs.refl _ _)
        | exact HC5.out _ (Bs.below hb5)
        | fail))
        clear hK K
        try simp only [Act.put, List.setIfInBounds_toArray, List.set_cons_zero, List.set_cons_succ, List.getElem_toArray, List.getElem_cons_zero, List.getElem_cons_succ]
        refine wpAnyH_ready (rs := [7]) (by kernel_rfl) (by simp) ?_
        refine (AllReadyH.cons rfl (fun K hK => ?_) AllReadyH.nil)
        go_simp
        (go_at_call 32; refine (enter_any hL5 1 L.cm _ _ _ ho5.rd HOH.out HALn.out).mono ?_; rintro e w6 ⟨he, hL6, hb6, hs6⟩; have he := he.out; subst he; have hs5 : Bs w3.drew g w6 := ⟨Nat.le_trans hb5.size hs6.size, fun k hk hn => (hs6.block k (Nat.lt_of_lt_of_le hk hb5.size) hn).trans (hb5.block k hk)⟩; have hB6 : Below B w3.drew w6 := (hb5.mono HLo.out).trans hb6)
        refine hK.out _ _ ?_ (fun hHeld => ?_)
        · ((first
        | exact HC5.out _ hs5
        | exact HC5.out _ (Bs.refl _ _)
        | exact HC5.out _ (Bs.below hb5)
        | fail))
        clear hK K
        try simp only [Act.put, List.setIfInBounds_toArray, List.set_cons_zero, List.set_cons_succ, List.getElem_toArray, List.getElem_cons_zero, List.getElem_cons_succ]
        refine wpAnyH_done (by kernel_rfl) ?_ _
        have HL6 := Lib.hid hL6
        have HB6 := Lib.hid (HBd.out.trans hB6)
        have HK6 := Lib.hid ((Kt.below HKd.out).trans (Kt.ent hs5 HLd.out))
        clear HC5 HVd HLd hL6 hs5
        go_wp2
        go_end0
        exact ⟨rfl, by rw [HEQ.out]; exact HL6.out, HB6.out, HK6.out⟩
    | false =>
      have HQ := Lib.hid hq
      have HEQ : Hid (propL L = L) := Lib.hid (by unfold propL alkL; rw [HF.out, hq]; rfl)
      clear hq
      go_wp2_with fail
      refine wp_region_held_drew (S := (fun w' => w'.cell? ⟨w.heap.size, 0, none⟩ = some (gP g) ∧ w'.cell? ⟨g, 10, none⟩ = some (.bool false) ∧ w'.cell? ⟨g, 0, none⟩ = some (.int .i64 L.ep) ∧ w'.cell? ⟨g, 1, none⟩ = some (.slice an nn cn) ∧ w'.cell? ⟨g, 22, none⟩ = some (.slice aw nw cw) ∧ Below w2.heap.size w2 w')) (by kernel_rfl) ?_ (fun hHeld => ?_)
      · ((first
  | exact HC.out _ (Below.refl _ _)
  | exact HC.out _ (Below.refl _ _).drew
  | exact HC.out _ hw3
  | (go_split_ands; exact HC.out _ (by assumption))
  | fail))
      refine wpAnyH_take (i := 0) (v := ?_) rfl (by kernel_rfl) (by kernel_rfl) (by kernel_rfl) (fun _ _ _ h => h) (Or.inl ⟨by rfl, ?_⟩) (by assumption) ?_
      rotate_left
      · (intro w hSw; (try dsimp only at hSw); go_simp; try rfl)
      try simp only [Act.put, List.setIfInBounds_toArray, List.set_cons_zero, List.set_cons_succ, List.getElem_toArray, List.getElem_cons_zero, List.getElem_cons_succ]
      refine wpAnyH_take (i := 1) (v := ?_) rfl (by kernel_rfl) (by kernel_rfl) (by kernel_rfl) (fun _ _ _ h => h) (Or.inl ⟨by rfl, ?_⟩) (by assumption) ?_
      rotate_left
      · (intro w hSw; (try dsimp only at hSw); go_simp; try rfl)
      try simp only [Act.put, List.setIfInBounds_toArray, List.set_cons_zero, List.set_cons_succ, List.getElem_toArray, List.getElem_cons_zero, List.getElem_cons_succ]
      refine wpAnyH_take (i := 2) (v := ?_) rfl (by kernel_rfl) (by kernel_rfl) (by kernel_rfl) (fun _ _ _ h => h) (Or.inl ⟨by rfl, ?_⟩) (by assumption) ?_
      rotate_left
      · (intro w hSw; (try dsimp only at hSw); go_simp; try rfl)
      try simp only [Act.put, List.setIfInBounds_toArray, List.set_cons_zero, List.set_cons_succ, List.getElem_toArray, List.getElem_cons_zero, List.getElem_cons_succ]
      refine wpAnyH_take (i := 3) (v := ?_) rfl (by kernel_rfl) (by kernel_rfl) (by kernel_rfl) (fun _ _ _ h => h) (Or.inl ⟨by rfl, ?_⟩) (by assumption) ?_
      rotate_left
      · (intro w hSw; (try dsimp only at hSw); go_simp; try rfl)
      try simp only [Act.put, List.setIfInBounds_toArray, List.set_cons_zero, List.set_cons_succ, List.getElem_toArray, List.getElem_cons_zero, List.getElem_cons_succ]
      refine wpAnyH_take (i := 4) (v := ?_) rfl (by kernel_rfl) (by kernel_rfl) (by kernel_rfl) (fun _ _ _ h => h) (Or.inl ⟨by rfl, ?_⟩) (by assumption) ?_
      rotate_left
      · (intro w hSw; (try dsimp only at hSw); go_simp; try rfl)
      try simp only [Act.put, List.setIfInBounds_toArray, List.set_cons_zero, List.set_cons_succ, List.getElem_toArray, List.getElem_cons_zero, List.getElem_cons_succ]
      refine wpAnyH_take (i := 5) (v := undef) rfl (by kernel_rfl) (by kernel_rfl) (by kernel_rfl) (fun _ _ _ h => h) (Or.inr ⟨by rfl, rfl⟩) (by assumption) ?_
      try simp only [Act.put, List.setIfInBounds_toArray, List.set_cons_zero, List.set_cons_succ, List.getElem_toArray, List.getElem_cons_zero, List.getElem_cons_succ]
      refine wpAnyH_take (i := 6) (v := ?_) rfl (by kernel_rfl) (by kernel_rfl) (by kernel_rfl) (fun _ _ _ h => h) (Or.inl ⟨by rfl, ?_⟩) (by assumption) ?_
      rotate_left
      · (intro w hSw; (try dsimp only at hSw); go_simp; try rfl)
      try simp only [Act.put, List.setIfInBounds_toArray, List.set_cons_zero, List.set_cons_succ, List.getElem_toArray, List.getElem_cons_zero, List.getElem_cons_succ]
      refine wpAnyH_take (i := 7) (v := ?_) rfl (by kernel_rfl) (by kernel_rfl) (by kernel_rfl) (fun _ _ _ h => h) (Or.inl ⟨by rfl, ?_⟩) (by assumption) ?_
      rotate_left
      · (intro w hSw; (try dsimp only at hSw); go_simp; try rfl)
      try simp only [Act.put, List.setIfInBounds_toArray, List.set_cons_zero, List.set_cons_succ, List.getElem_toArray, List.getElem_cons_zero, List.getElem_cons_succ]
      refine wpAnyH_take (i := 8) (v := undef) rfl (by kernel_rfl) (by kernel_rfl) (by kernel_rfl) (fun _ _ _ h => h) (Or.inr ⟨by rfl, rfl⟩) (by assumption) ?_
      try simp only [Act.put, List.setIfInBounds_toArray, List.set_cons_zero, List.set_cons_succ, List.getElem_toArray, List.getElem_cons_zero, List.getElem_cons_succ]
      refine wpAnyH_take (i := 9) (v := undef) rfl (by kernel_rfl) (by kernel_rfl) (by kernel_rfl) (fun _ _ _ h => h) (Or.inr ⟨by rfl, rfl⟩) (by assumption) ?_
      try simp only [Act.put, List.setIfInBounds_toArray, List.set_cons_zero, List.set_cons_succ, List.getElem_toArray, List.getElem_cons_zero, List.getElem_cons_succ]
      refine wpAnyH_take (i := 10) (v := undef) rfl (by kernel_rfl) (by kernel_rfl) (by kernel_rfl) (fun _ _ _ h => h) (Or.inr ⟨by rfl, rfl⟩) (by assumption) ?_
      try simp only [Act.put, List.setIfInBounds_toArray, List.set_cons_zero, List.set_cons_succ, List.getElem_toArray, List.getElem_cons_zero, List.getElem_cons_succ]
      refine wpAnyH_take (i := 11) (v := undef) rfl (by kernel_rfl) (by kernel_rfl) (by kernel_rfl) (fun _ _ _ h => h) (Or.inr ⟨by rfl, rfl⟩) (by assumption) ?_
      try simp only [Act.put, List.setIfInBounds_toArray, List.set_cons_zero, List.set_cons_succ, List.getElem_toArray, List.getElem_cons_zero, List.getElem_cons_succ]
      refine wpAnyH_take (i := 12) (v := undef) rfl (by kernel_rfl) (by kernel_rfl) (by kernel_rfl) (fun _ _ _ h => h) (Or.inr ⟨by rfl, rfl⟩) (by assumption) ?_
      try simp only [Act.put, List.setIfInBounds_toArray, List.set_cons_zero, List.set_cons_succ, List.getElem_toArray, List.getElem_cons_zero, List.getElem_cons_succ]
      refine wpAnyH_take (i := 13) (v := undef) rfl (by kernel_rfl) (by kernel_rfl) (by kernel_rfl) (fun _ _ _ h => h) (Or.inr ⟨by rfl, rfl⟩) (by assumption) ?_
      try simp only [Act.put, List.setIfInBounds_toArray, List.set_cons_zero, List.set_cons_succ, List.getElem_toArray, List.getElem_cons_zero, List.getElem_cons_succ]
      refine wpAnyH_take (i := 14) (v := undef) rfl (by kernel_rfl) (by kernel_rfl) (by kernel_rfl) (fun _ _ _ h => h) (Or.inr ⟨by rfl, rfl⟩) (by assumption) ?_
      try simp only [Act.put, List.setIfInBounds_toArray, List.set_cons_zero, List.set_cons_succ, List.getElem_toArray, List.getElem_cons_zero, List.getElem_cons_succ]
      refine wpAnyH_take (i := 15) (v := undef) rfl (by kernel_rfl) (by kernel_rfl) (by kernel_rfl) (fun _ _ _ h => h) (Or.inr ⟨by rfl, rfl⟩) (by assumption) ?_
      try simp only [Act.put, List.setIfInBounds_toArray, List.set_cons_zero, List.set_cons_succ, List.getElem_toArray, List.getElem_cons_zero, List.getElem_cons_succ]
      refine wpAnyH_take (i := 16) (v := undef) rfl (by kernel_rfl) (by kernel_rfl) (by kernel_rfl) (fun _ _ _ h => h) (Or.inr ⟨by rfl, rfl⟩) (by assumption) ?_
      try simp only [Act.put, List.setIfInBounds_toArray, List.set_cons_zero, List.set_cons_succ, List.getElem_toArray, List.getElem_cons_zero, List.getElem_cons_succ]
      refine wpAnyH_take (i := 17) (v := ?_) rfl (by kernel_rfl) (by kernel_rfl) (by kernel_rfl) (fun _ _ _ h => h) (Or.inl ⟨by rfl, ?_⟩) (by assumption) ?_
      rotate_left
      · (intro w hSw; (try dsimp only at hSw); go_simp; try rfl)
      try simp only [Act.put, List.setIfInBounds_toArray, List.set_cons_zero, List.set_cons_succ, List.getElem_toArray, List.getElem_cons_zero, List.getElem_cons_succ]
      refine wpAnyH_take (i := 18) (v := ?_) rfl (by kernel_rfl) (by kernel_rfl) (by kernel_rfl) (fun _ _ _ h => h) (Or.inl ⟨by rfl, ?_⟩) (by assumption) ?_
      rotate_left
      · (intro w hSw; (try dsimp only at hSw); go_simp; try rfl)
      try simp only [Act.put, List.setIfInBounds_toArray, List.set_cons_zero, List.set_cons_succ, List.getElem_toArray, List.getElem_cons_zero, List.getElem_cons_succ]
      refine wpAnyH_done (by kernel_rfl) ?_ _
      have hW : Below w2.heap.size w2 w2.drew := (Below.refl _ _).drew
      clear HC HAL
      have HVw := Lib.hid (HV2.out.below hW)
      have HLw := Lib.hid (HL2.out.below hW)
      have HXw : Hid (LBox w2.drew w.heap.size g) := Lib.hid (HX2.out.below hW)
      have HBw : Hid (Below B w w2.drew) := Lib.hid (HBB.out.trans (hW.mono HLo2.out))
      have HB2W := Lib.hid hW
      have HKw : Hid (Below w.heap.size w w2.drew) := Lib.hid (HKB.out.trans (hW.mono HKB.out.size))
      have k10 := HVw.out.cell 10
      have kc := HXw.out.cell 0
      simp only [ldE, List.getElem?_cons_zero, List.getElem?_cons_succ] at k10 kc
      rw [HF.out] at k10
      have hgw := HVw.out.bk.lt
      have hcw := HXw.out.lt
      have HEN := Lib.hid (leno_any HLw.out HO.out)
      clear hW
      rw [HQ.out] at HEN
      go_wp2_with (go_at_call 35; refine HEN.out.mono ?_; rintro e w3 ⟨rfl, hb3⟩; have HB3 := Lib.hid hb3; clear hb3)
      go_end0
      exact ⟨rfl, by rw [HEQ.out]; exact HLw.out.below HB3.out, HBw.out.trans (HB3.out.mono (Nat.le_trans HVw.out.lo (Nat.le_of_lt HVw.out.bk.lt))), (Kt.below HKw.out).trans (Kt.below HB3.out)⟩
end Go.Proofs.Ytplplehfkfjhnaa
