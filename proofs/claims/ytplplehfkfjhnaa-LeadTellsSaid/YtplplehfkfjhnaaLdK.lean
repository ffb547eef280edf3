/-
  Leads: Slow.
-/
import Derived.Test.YtplplehfkfjhnaaLdJ
import Derived.Test.YtplplehfkfjhnaaAt3
namespace Go.Proofs.Ytplplehfkfjhnaa
open Go.RowKit
open Bb (quoN thN allB)
set_option linter.unusedSimpArgs false
set_option linter.unusedVariables false
set_option maxRecDepth 100000

theorem LdV.okH {w : World} {B Bw g : Nat} {L : LSt} {vn vd vw vh : Value} (h : LdV w B Bw g L vn vd vw vh) : ∀ x ∈ L.heard, okL x.at'.2 := by
  obtain ⟨rs, h1, h2, h3⟩ := h.heard
  intro x hx
  obtain ⟨j, hj, rfl⟩ := List.mem_iff_getElem.1 hx
  obtain ⟨u, _, _, q⟩ := h3 j (by omega) hj
  exact q
def atsL (L : LSt) : List At := L.heard.map (·.at')
theorem dpA_len : ∀ (l : List Ist), (∀ x ∈ l, x.at'.2.length ≤ 60) → (dpA (l.map (·.at'))).length ≤ 60 * l.length
  | [], _ => by simp [dpA]
  | x :: l, h => by
    have h1 := dpA_len l (fun y hy => h y (List.mem_cons_of_mem _ hy))
    have h2 := h x (List.mem_cons_self ..)
    unfold dpA at h1 ⊢
    simp only [List.map_cons, List.flatMap_cons, List.length_append, List.length_cons]
    omega
theorem LOk.dp {L : LSt} (h : LOk L) : (dpA (atsL L)).length ≤ 2400 := by
  have h1 := dpA_len L.heard h.hd
  have h2 := h.hl
  have h3 := h.wl
  unfold atsL
  omega
theorem LOk.al {L : LSt} (h : LOk L) : (allA (atsL L)).2.length ≤ 2400 := Nat.le_trans (len_clnI _) h.dp
theorem okAll {L : LSt} (h : ∀ x ∈ L.heard, okL x.at'.2) : okL (allA (atsL L)).2 := by
  intro x hx
  have h1 := (mem_clnI _ _).1 hx
  unfold dpA atsL at h1
  rw [List.mem_flatMap] at h1
  obtain ⟨a, ha, hx⟩ := h1
  obtain ⟨y, hy, rfl⟩ := List.mem_map.1 ha
  exact h y hy x hx
theorem LOk.ent {L : LSt} (h : LOk L) (p : Int) (cm : CM) (a : At) (ha : a.2.length ≤ 3000) : LOk (entL L p cm a) := ⟨h.nl, List.nodup_nil, (fun n hn => by cases hn), rfl, (fun x hx => by cases hx), ha⟩
/-- What Slow comes to. -/
def slowB (L : LSt) : Bool := L.ph == 0 && (L.first && enoL L)
def SlP (b : Bool) (M : LSt) (B g : Nat) (w : World) (e : Ending) (w' : World) : Prop := Hid (e = .returned (.bool b)) ∧ LdAt w' B g M ∧ Below B w w'
theorem LdAt.self {w w' : World} {B g : Nat} {L : LSt} (h : LdAt w B g L) (hb : Below w.heap.size w w') : LdAt w' B g L ∧ Below B w w' := ⟨h.below hb, hb.mono (by have := h.lt; omega)⟩
theorem slow_no {w : World} {B g : Nat} {L : LSt} (h : LdAt w B g L) (ho : LOk L) (hs : slowB L = false) : Calls Try.prog 15 #[gP g] w (SlP false L B g w) := by
  have HL := Lib.hid h
  have HE := Lib.hid (leno_any h ho)
  obtain ⟨Bw, vn, vd, vw, vh, h⟩ := h
  have c10 := h.cell 10
  have c11 := h.cell 11
  simp only [ldE, List.getElem?_cons_zero, List.getElem?_cons_succ] at c10 c11
  have hlt := h.bk.lt
  clear h ho
  unfold slowB at hs
  cases q1 : (L.ph == 0)
  · have q1' : (L.ph != 0) = true := by simpa using q1
    clear hs HE
    go_enter Try.func15, Try.ntmps15
    go_wp2
    go_ret
    exact ⟨rfl, HL.out.self (Below.refl _ _)⟩
  · have q1' : (L.ph != 0) = false := by simpa using q1
    cases q2 : L.first
    · rw [q2] at c10
      clear hs HE
      go_enter Try.func15, Try.ntmps15
      go_wp2
      go_ret
      exact ⟨rfl, HL.out.self (Below.refl _ _)⟩
    · rw [q2] at c10
      rw [q1, q2] at hs
      have q3 : enoL L = false := by simpa using hs
      rw [q3] at HE
      clear hs
      go_enter Try.func15, Try.ntmps15
      go_wp2_with (go_at_call 35; refine HE.out.mono ?_; rintro e w1 ⟨rfl, hb1⟩; have HB1 := Lib.hid hb1; clear hb1)
      go_ret
      exact ⟨rfl, HL.out.self HB1.out⟩
set_option maxHeartbeats 8000000 in
theorem slow_yes {w : World} {B g : Nat} {L : LSt} (h : LdAt w B g L) (ho : LOk L) (hs : slowB L = true) : Calls Try.prog 15 #[gP g] w (SlP true (entL L 1 L.cm (allA (atsL L))) B g w) := by
  have HL := Lib.hid h
  have HE := Lib.hid (leno_any h ho)
  have HOk := Lib.hid ho
  obtain ⟨Bw, vn, vd, vw, vh, h⟩ := h
  have c10 := h.cell 10
  have c11 := h.cell 11
  simp only [ldE, List.getElem?_cons_zero, List.getElem?_cons_succ] at c10 c11
  have hlt := h.bk.lt
  have HV := Lib.hid h
  have HOH := Lib.hid (okAll h.okH)
  clear h ho
  unfold slowB at hs
  simp only [Bool.and_eq_true] at hs
  obtain ⟨q1, q2, q3⟩ := hs
  have q1' : (L.ph != 0) = false := by simpa using q1
  rw [q2] at c10
  rw [q3] at HE
  clear q3
  go_enter Try.func15, Try.ntmps15
  go_wp2_with (go_at_call 35; refine HE.out.mono ?_; rintro e w1 ⟨rfl, hb1⟩; have HB1 := Lib.hid hb1; clear hb1 c10 c11)
  have HV1 := Lib.hid ((HV.out.below HB1.out).below (Below.refl w1.heap.size w1).drew)
  have HL1 := Lib.hid ((HL.out.below HB1.out).below (Below.refl w1.heap.size w1).drew)
  have HBd := Lib.hid (Below.drewB HB1.out)
  have hg1 := HV1.out.bk.lt
  have d12 := HV1.out.cell 12
  have d13 := HV1.out.cell 13
  have d14 := HV1.out.cell 14
  have d15 := HV1.out.cell 15
  have d16 := HV1.out.cell 16
  have d17 := HV1.out.cell 17
  have d18 := HV1.out.cell 18
  have d19 := HV1.out.cell 19
  simp only [ldE, List.getElem?_cons_zero, List.getElem?_cons_succ] at d12 d13 d14 d15 d16 d17 d18 d19
  have HLt := Lib.hid HL.out.lt
  clear HV HL HB1 HE
  refine wp_region_held_drew (S := (fun _ => True)) (by kernel_rfl) ?_ (fun hHeld => ?_)
  · (trivial)
  refine wpAnyH_take (i := 0) (v := ?_) rfl (by kernel_rfl) (by kernel_rfl) (by kernel_rfl) (fun _ _ _ h => h) (Or.inl ⟨by rfl, ?_⟩) (by assumption) ?_
  rotate_left
  · (intro w hSw; (try dsimp only at hSw); go_simp; try rfl)
  try simp only [Act.put, List.setIfInBounds_toArray, List.set_cons_zero, List.set_cons_succ, List.getElem_toArray, List.getElem_cons_zero, List.getElem_cons_succ]
  refine wpAnyH_take (i := 1) (v := ?_) rfl (by kernel_rfl) (by kernel_rfl) (by kernel_rfl) (fun _ _ _ h => h) (Or.inl ⟨by rfl, ?_⟩) (by assumption) ?_
  rotate_left
  · (intro w hSw; (try dsimp only at hSw); go_simp; try rfl)
  try simp only [Act.put, List.setIfInBounds_toArray, List.set_cons_zero, List.set_cons_succ, List.getElem_toArray, List.getElem_cons_zero, List.getElem_cons_succ]
  refine wpAnyH_take (i := 2) (v := ?_) rfl (by kernel_rfl) (by kernel_rfl) (by kernel_rfl) (fun _ _ _ h => h) (Or.inl ⟨by rfl, ?_⟩) (by assumption) ?_
  rotate_left
  · (intro w hSw; (try dsimp only at hSw); go_simp; try rfl)
  try simp only [Act.put, List.setIfInBounds_toArray, List.set_cons_zero, List.set_cons_succ, List.getElem_toArray, List.getElem_cons_zero, List.getElem_cons_succ]
  refine wpAnyH_take (i := 3) (v := ?_) rfl (by kernel_rfl) (by kernel_rfl) (by kernel_rfl) (fun _ _ _ h => h) (Or.inl ⟨by rfl, ?_⟩) (by assumption) ?_
  rotate_left
  · (intro w hSw; (try dsimp only at hSw); go_simp; try rfl)
  try simp only [Act.put, List.setIfInBounds_toArray, List.set_cons_zero, List.set_cons_succ, List.getElem_toArray, List.getElem_cons_zero, List.getElem_cons_succ]
  refine wpAnyH_take (i := 5) (v := ?_) rfl (by kernel_rfl) (by kernel_rfl) (by kernel_rfl) (fun _ _ _ h => h) (Or.inl ⟨by rfl, ?_⟩) (by assumption) ?_
  rotate_left
  · (intro w hSw; (try dsimp only at hSw); go_simp; try rfl)
  try simp only [Act.put, List.setIfInBounds_toArray, List.set_cons_zero, List.set_cons_succ, List.getElem_toArray, List.getElem_cons_zero, List.getElem_cons_succ]
  refine wpAnyH_ready (rs := [4, 6]) (by kernel_rfl) (by simp) ?_
  refine (AllReadyH.cons rfl (fun K hK => ?_) (AllReadyH.cons rfl (fun K hK => ?_) AllReadyH.nil))
  ·
    go_simp
    refine hK.out _ _ ?_ (fun hHeld => ?_)
    · (trivial)
    clear hK K
    try simp only [Act.put, List.setIfInBounds_toArray, List.set_cons_zero, List.set_cons_succ, List.getElem_toArray, List.getElem_cons_zero, List.getElem_cons_succ]
    refine wpAnyH_ready (rs := [6]) (by kernel_rfl) (by simp) ?_
    refine (AllReadyH.cons rfl (fun K hK => ?_) AllReadyH.nil)
    go_simp
    (go_at_call 39; refine (attrs_any HL1.out HOk.out).mono ?_; rintro e w2 ⟨v2, rs2, he, hr2, hb2⟩; have he := he.out; subst he; have hV2 := HV1.out.below hb2; have hL2 := HL1.out.below hb2; have hg2 := hV2.bk.lt; have e12 := hV2.cell 12; have e13 := hV2.cell 13; have e14 := hV2.cell 14; have e15 := hV2.cell 15; have e16 := hV2.cell 16; have e17 := hV2.cell 17; have e18 := hV2.cell 18; have e19 := hV2.cell 19; simp only [ldE, List.getElem?_cons_zero, List.getElem?_cons_succ] at e12 e13 e14 e15 e16 e17 e18 e19)
    refine hK.out _ _ ?_ (fun hHeld => ?_)
    · (trivial)
    clear hK K
    try simp only [Act.put, List.setIfInBounds_toArray, List.set_cons_zero, List.set_cons_succ, List.getElem_toArray, List.getElem_cons_zero, List.getElem_cons_succ]
    refine wpAnyH_ready (rs := [7]) (by kernel_rfl) (by simp) ?_
    refine (AllReadyH.cons rfl (fun K hK => ?_) AllReadyH.nil)
    go_simp
    (go_at_call 38; refine (all_any v2 rs2 _ w2 hr2 (by rw [List.length_map, HOk.out.hl]; have := HOk.out.wl; omega) (by have := HOk.out.dp; unfold atsL at this; omega)).mono ?_; rintro e w3 ⟨v3, he, ho3, hb3⟩; have he := he.out; subst he; obtain ⟨a3, k3, rfl⟩ := ho3.slice; have hV3 := hV2.below hb3; have hL3 := hL2.below hb3; have hg3 := hV3.bk.lt; have f12 := hV3.cell 12; have f13 := hV3.cell 13; have f14 := hV3.cell 14; have f15 := hV3.cell 15; have f16 := hV3.cell 16; have f17 := hV3.cell 17; have f18 := hV3.cell 18; have f19 := hV3.cell 19; simp only [ldE, List.getElem?_cons_zero, List.getElem?_cons_succ] at f12 f13 f14 f15 f16 f17 f18 f19)
    refine hK.out _ _ ?_ (fun hHeld => ?_)
    · (trivial)
    clear hK K
    try simp only [Act.put, List.setIfInBounds_toArray, List.set_cons_zero, List.set_cons_succ, List.getElem_toArray, List.getElem_cons_zero, List.getElem_cons_succ]
    refine wpAnyH_ready (rs := [8]) (by kernel_rfl) (by simp) ?_
    refine (AllReadyH.cons rfl (fun K hK => ?_) AllReadyH.nil)
    go_simp
    (go_at_call 32; refine (enter_any hL3 1 L.cm _ _ _ ho3.rd HOH.out (Nat.le_trans HOk.out.al (by omega))).mono ?_; rintro e w4 ⟨he, hL4, hb4, _⟩; have he := he.out; subst he)
    refine hK.out _ _ ?_ (fun hHeld => ?_)
    · (trivial)
    clear hK K
    try simp only [Act.put, List.setIfInBounds_toArray, List.set_cons_zero, List.set_cons_succ, List.getElem_toArray, List.getElem_cons_zero, List.getElem_cons_succ]
    refine wpAnyH_done (by kernel_rfl) ?_ _
    have HL4 := Lib.hid hL4
    have HB4 := Lib.hid (((HBd.out.trans (hb2.mono HBd.out.size)).trans (hb3.mono (Nat.le_trans HBd.out.size hb2.size))).mono (show B ≤ w.heap.size by have := HLt.out; omega) |>.trans hb4)
    clear HL1 HV1 hL2 hV2 hL3 hV3 hL4 hb4 hb3 hb2 ho3
    go_wp2
    go_ret
    exact ⟨rfl, HL4.out, HB4.out⟩
  ·
    go_simp
    (go_at_call 39; refine (attrs_any HL1.out HOk.out).mono ?_; rintro e w2 ⟨v2, rs2, he, hr2, hb2⟩; have he := he.out; subst he; have hV2 := HV1.out.below hb2; have hL2 := HL1.out.below hb2; have hg2 := hV2.bk.lt; have e12 := hV2.cell 12; have e13 := hV2.cell 13; have e14 := hV2.cell 14; have e15 := hV2.cell 15; have e16 := hV2.cell 16; have e17 := hV2.cell 17; have e18 := hV2.cell 18; have e19 := hV2.cell 19; simp only [ldE, List.getElem?_cons_zero, List.getElem?_cons_succ] at e12 e13 e14 e15 e16 e17 e18 e19)
    refine hK.out _ _ ?_ (fun hHeld => ?_)
    · (trivial)
    clear hK K
    try simp only [Act.put, List.setIfInBounds_toArray, List.set_cons_zero, List.set_cons_succ, List.getElem_toArray, List.getElem_cons_zero, List.getElem_cons_succ]
    refine wpAnyH_ready (rs := [4, 7]) (by kernel_rfl) (by simp) ?_
    refine (AllReadyH.cons rfl (fun K hK => ?_) (AllReadyH.cons rfl (fun K hK => ?_) AllReadyH.nil))
    ·
      go_simp
      refine hK.out _ _ ?_ (fun hHeld => ?_)
      · (trivial)
      clear hK K
      try simp only [Act.put, List.setIfInBounds_toArray, List.set_cons_zero, List.set_cons_succ, List.getElem_toArray, List.getElem_cons_zero, List.getElem_cons_succ]
      refine wpAnyH_ready (rs := [7]) (by kernel_rfl) (by simp) ?_
      refine (AllReadyH.cons rfl (fun K hK => ?_) AllReadyH.nil)
      go_simp
      (go_at_call 38; refine (all_any v2 rs2 _ w2 hr2 (by rw [List.length_map, HOk.out.hl]; have := HOk.out.wl; omega) (by have := HOk.out.dp; unfold atsL at this; omega)).mono ?_; rintro e w3 ⟨v3, he, ho3, hb3⟩; have he := he.out; subst he; obtain ⟨a3, k3, rfl⟩ := ho3.slice; have hV3 := hV2.below hb3; have hL3 := hL2.below hb3; have hg3 := hV3.bk.lt; have f12 := hV3.cell 12; have f13 := hV3.cell 13; have f14 := hV3.cell 14; have f15 := hV3.cell 15; have f16 := hV3.cell 16; have f17 := hV3.cell 17; have f18 := hV3.cell 18; have f19 := hV3.cell 19; simp only [ldE, List.getElem?_cons_zero, List.getElem?_cons_succ] at f12 f13 f14 f15 f16 f17 f18 f19)
      refine hK.out _ _ ?_ (fun hHeld => ?_)
      · (trivial)
      clear hK K
      try simp only [Act.put, List.setIfInBounds_toArray, List.set_cons_zero, List.set_cons_succ, List.getElem_toArray, List.getElem_cons_zero, List.getElem_cons_succ]
      refine wpAnyH_ready (rs := [8]) (by kernel_rfl) (by simp) ?_
      refine (AllReadyH.cons rfl (fun K hK => ?_) AllReadyH.nil)
      go_simp
      (go_at_call 32; refine (enter_any hL3 1 L.cm _ _ _ ho3.rd HOH.out (Nat.le_trans HOk.out.al (by omega))).mono ?_; rintro e w4 ⟨he, hL4, hb4, _⟩; have he := he.out; subst he)
      refine hK.out _ _ ?_ (fun hHeld => ?_)
      · (trivial)
      clear hK K
      try simp only [Act.put, List.setIfInBounds_toArray, List.set_cons_zero, List.set_cons_succ, List.getElem_toArray, List.getElem_cons_zero, List.getElem_cons_succ]
      refine wpAnyH_done (by kernel_rfl) ?_ _
      have HL4 := Lib.hid hL4
      have HB4 := Lib.hid (((HBd.out.trans (hb2.mono HBd.out.size)).trans (hb3.mono (Nat.le_trans HBd.out.size hb2.size))).mono (show B ≤ w.heap.size by have := HLt.out; omega) |>.trans hb4)
      clear HL1 HV1 hL2 hV2 hL3 hV3 hL4 hb4 hb3 hb2 ho3
      go_wp2
      go_ret
      exact ⟨rfl, HL4.out, HB4.out⟩
    ·
      go_simp
      (go_at_call 38; refine (all_any v2 rs2 _ w2 hr2 (by rw [List.length_map, HOk.out.hl]; have := HOk.out.wl; omega) (by have := HOk.out.dp; unfold atsL at this; omega)).mono ?_; rintro e w3 ⟨v3, he, ho3, hb3⟩; have he := he.out; subst he; obtain ⟨a3, k3, rfl⟩ := ho3.slice; have hV3 := hV2.below hb3; have hL3 := hL2.below hb3; have hg3 := hV3.bk.lt; have f12 := hV3.cell 12; have f13 := hV3.cell 13; have f14 := hV3.cell 14; have f15 := hV3.cell 15; have f16 := hV3.cell 16; have f17 := hV3.cell 17; have f18 := hV3.cell 18; have f19 := hV3.cell 19; simp only [ldE, List.getElem?_cons_zero, List.getElem?_cons_succ] at f12 f13 f14 f15 f16 f17 f18 f19)
      refine hK.out _ _ ?_ (fun hHeld => ?_)
      · (trivial)
      clear hK K
      try simp only [Act.put, List.setIfInBounds_toArray, List.set_cons_zero, List.set_cons_succ, List.getElem_toArray, List.getElem_cons_zero, List.getElem_cons_succ]
      refine wpAnyH_ready (rs := [4]) (by kernel_rfl) (by simp) ?_
      refine (AllReadyH.cons rfl (fun K hK => ?_) AllReadyH.nil)
      go_simp
      refine hK.out _ _ ?_ (fun hHeld => ?_)
      · (trivial)
      clear hK K
      try simp only [Act.put, List.setIfInBounds_toArray, List.set_cons_zero, List.set_cons_succ, List.getElem_toArray, List.getElem_cons_zero, List.getElem_cons_succ]
      refine wpAnyH_ready (rs := [8]) (by kernel_rfl) (by simp) ?_
      refine (AllReadyH.cons rfl (fun K hK => ?_) AllReadyH.nil)
      go_simp
      (go_at_call 32; refine (enter_any hL3 1 L.cm _ _ _ ho3.rd HOH.out (Nat.le_trans HOk.out.al (by omega))).mono ?_; rintro e w4 ⟨he, hL4, hb4, _⟩; have he := he.out; subst he)
      refine hK.out _ _ ?_ (fun hHeld => ?_)
      · (trivial)
      clear hK K
      try simp only [Act.put, List.setIfInBounds_toArray, List.set_cons_zero, List.set_cons_succ, List.getElem_toArray, List.getElem_cons_zero, List.getElem_cons_succ]
      refine wpAnyH_done (by kernel_rfl) ?_ _
      have HL4 := Lib.hid hL4
      have HB4 := Lib.hid (((HBd.out.trans (hb2.mono HBd.out.size)).trans (hb3.mono (Nat.le_trans HBd.out.size hb2.size))).mono (show B ≤ w.heap.size by have := HLt.out; omega) |>.trans hb4)
      clear HL1 HV1 hL2 hV2 hL3 hV3 hL4 hb4 hb3 hb2 ho3
      go_wp2
      go_ret
      exact ⟨rfl, HL4.out, HB4.out⟩
end Go.Proofs.Ytplplehfkfjhnaa
