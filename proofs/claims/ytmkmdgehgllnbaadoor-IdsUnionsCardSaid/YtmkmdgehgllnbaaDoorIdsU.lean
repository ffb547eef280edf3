/-
  The law IdsUnions walked.
-/
import Derived.Test.YtmkmdgehgllnbaaDoorIdsF
namespace Go.Proofs.YtmkmdgehgllnbaaDoor
open Go.RowKit Go.Sort Go.Shelf Go.Lib
set_option linter.unusedSimpArgs false
set_option linter.unusedVariables false

theorem uni1 (a b : List I3) : samI (uniI a b) (uniI b a) = true := by
  rw [samI_iff]; intro x; rw [mem_uniI, mem_uniI]; exact Or.comm
theorem uni2 (a b c : List I3) : samI (uniI (uniI a b) c) (uniI a (uniI b c)) = true := by
  rw [samI_iff]; intro x; rw [mem_uniI, mem_uniI, mem_uniI, mem_uniI]; exact or_assoc
theorem uni3 (l : List I3) : rgtI (clnI l) = true := (rgtI_iff _).2 (clnI_rises l)
theorem uni4 (a b : List I3) : samI (uniI (lesI a b) b) (uniI a b) = true := by
  rw [samI_iff]; intro x; rw [mem_uniI, mem_uniI, mem_lesI]
  constructor
  · rintro (h | h)
    · exact .inl h.1
    · exact .inr h
  · rintro (h | h)
    · by_cases q : x ∈ b
      · exact .inr q
      · exact .inl ⟨h, q⟩
    · exact .inr h
theorem uni5 (a : List I3) : samI (clnI a) a = true := by rw [samI_iff]; intro x; exact mem_clnI a x
theorem uni6 (a b : List I3) (x : I3) : hasI (uniI a b) x = (hasI a x || hasI b x) := by
  rw [Bool.eq_iff_iff, Bool.or_eq_true, hasI_iff, hasI_iff, hasI_iff, mem_uniI]
theorem uni7 (a b : List I3) (x : I3) : hasI (lesI a b) x = (hasI a x && !hasI b x) := by
  rw [Bool.eq_iff_iff, Bool.and_eq_true, hasI_iff, hasI_iff, mem_lesI]
  simp [hasI_false]
theorem okL_les {a b : List I3} (h : okL a) : okL (lesI a b) := fun x hx => h x ((mem_lesI a b x).1 hx).1
theorem okL_uni {a b : List I3} (h : okL a) (k : okL b) : okL (uniI a b) := fun x hx => by
  rcases (mem_uniI a b x).1 hx with q | q
  · exact h x q
  · exact k x q
set_option maxRecDepth 100000 in
set_option maxHeartbeats 8000000 in
theorem uni_tt (va vb vc : Value) (a b c : List I3) (x1 x2 x3 : Int) (w : World) (ha : IK.Rd w va a) (hb : IK.Rd w vb b) (hc : IK.Rd w vc c) (oa : okL a) (ob : okL b) (oc : okL c) (ht : TB w) (hA : hasI a (x1, x2, x3) = true) (hB : hasI b (x1, x2, x3) = true) (ca : a.length ≤ 60) (cb : b.length ≤ 60) (cc : c.length ≤ 60) :
    Calls Tryd.prog 5 #[va, vb, vc, .agg #[.int .i64 x1, .int .i64 x2, .int .i64 x3]] w fun e w' => e = .returned (.bool true) ∧ Below w.heap.size w w' := by
  have hB0 : Below w.heap.size w (w.alloc (.cells #[.int .i64 x1, .int .i64 x2, .int .i64 x3] 23)) := (Below.refl _ _).alloc (Nat.le_refl _) _
  have RA := Lib.hid (ha.below hB0)
  have RB := Lib.hid (hb.below hB0)
  have RC := Lib.hid (hc.below hB0)
  obtain ⟨pa, ka, e⟩ := ha.slice
  subst e
  obtain ⟨pb, kb, e⟩ := hb.slice
  subst e
  obtain ⟨pc, kc, e⟩ := hc.slice
  subst e
  obtain ⟨N, hN⟩ : ∃ N, a.length = N := ⟨_, rfl⟩
  obtain ⟨M, hM⟩ : ∃ N, b.length = N := ⟨_, rfl⟩
  obtain ⟨L, hL⟩ : ∃ N, c.length = N := ⟨_, rfl⟩
  rw [hN] at RA ⊢
  rw [hM] at RB ⊢
  rw [hL] at RC ⊢
  have hz3 : (w.alloc (.cells #[.int .i64 x1, .int .i64 x2, .int .i64 x3] 23)).heap.size = w.heap.size + 1 := by simp
  have d0 : (w.alloc (.cells #[.int .i64 x1, .int .i64 x2, .int .i64 x3] 23)).cell? ⟨w.heap.size, 0, none⟩ = some (.int .i64 x1) := new_cell w _ _ 0
  have d1 : (w.alloc (.cells #[.int .i64 x1, .int .i64 x2, .int .i64 x3] 23)).cell? ⟨w.heap.size, 1, none⟩ = some (.int .i64 x2) := new_cell w _ _ 1
  have d2 : (w.alloc (.cells #[.int .i64 x1, .int .i64 x2, .int .i64 x3] 23)).cell? ⟨w.heap.size, 2, none⟩ = some (.int .i64 x3) := new_cell w _ _ 2
  have OA := Lib.hid oa
  have OB := Lib.hid ob
  have OC := Lib.hid oc
  have NA := Lib.hid ca
  have NB := Lib.hid cb
  have NC := Lib.hid cc
  have HT := Lib.hid (ht.below hB0)
  have HB0 := Lib.hid hB0
  have hA1 : ¬ (60 : Int) < (N : Int) := by omega
  have hA2 : decide (60 < N) = false := decide_eq_false (by omega)
  have hB1 : ¬ (60 : Int) < (M : Int) := by omega
  have hB2 : decide (60 < M) = false := decide_eq_false (by omega)
  have hC1 : ¬ (60 : Int) < (L : Int) := by omega
  have hC2 : decide (60 < L) = false := decide_eq_false (by omega)
  have HA := Lib.hid hA
  have HBB := Lib.hid hB
  clear ha hb hc oa ob oc ht hA hB ca cb cc hN hM hL hB0
  go_enter Tryd.func5, Tryd.ntmps5
  go_wp2_with fail
  generalize (w.alloc (.cells #[.int .i64 x1, .int .i64 x2, .int .i64 x3] 23)) = X0 at *
  have hl0 : w.heap.size < X0.heap.size := by omega
  clear hz3
  refine (works_any X0 HT.out).mono ?_
  rintro e w1 ⟨rfl, hb⟩
  have Bw1 := Lib.hid hb
  clear hb
  go_wp2_with fail
  refine (union_any _ _ a b w1 (RA.out.below Bw1.out) OA.out (by have := NA.out; omega) (RB.out.below Bw1.out) OB.out (by have := NB.out; omega)).mono ?_
  rintro e w2 ⟨v1, he, ho, hb⟩
  rw [he.out]
  have Rv1 := Lib.hid ho.rd
  have Bw2 := Lib.hid (Bw1.out.trans (hb.mono Bw1.out.size))
  have Tw2 := Lib.hid hb
  clear he ho hb
  go_wp2_with fail
  refine (less2_any _ _ a b w2 (RA.out.below Bw2.out) OA.out (by have := NA.out; omega) (RB.out.below Bw2.out) OB.out (by have := NB.out; omega)).mono ?_
  rintro e w3 ⟨v2, he, ho, hb⟩
  rw [he.out]
  have Rv2 := Lib.hid ho.rd
  have Bw3 := Lib.hid (Bw2.out.trans (hb.mono Bw2.out.size))
  have Tw3 := Lib.hid hb
  clear he ho hb
  go_wp2_with fail
  refine (union_any _ _ b a w3 (RB.out.below Bw3.out) OB.out (by have := NB.out; omega) (RA.out.below Bw3.out) OA.out (by have := NA.out; omega)).mono ?_
  rintro e w4 ⟨v3, he, ho, hb⟩
  rw [he.out]
  have Rv3 := Lib.hid ho.rd
  have Bw4 := Lib.hid (Bw3.out.trans (hb.mono Bw3.out.size))
  have Tw4 := Lib.hid hb
  clear he ho hb
  go_wp2_with fail
  have hc := same_any v1 v3 (uniI a b) (uniI b a) w4 ((Rv1.out.below Tw3.out).below Tw4.out) (okL_uni OA.out OB.out) (by have := len_uniI a b; have := NA.out; have := NB.out; omega) Rv3.out (okL_uni OB.out OA.out) (by have := len_uniI b a; have := NA.out; have := NB.out; omega)
  rw [uni1] at hc
  refine hc.mono ?_
  clear hc
  rintro e w5 ⟨rfl, hb⟩
  have Bw5 := Lib.hid (Bw4.out.trans (hb.mono Bw4.out.size))
  have Tw5 := Lib.hid hb
  clear hb
  go_wp2_with fail
  refine (union_any _ _ (uniI a b) c w5 (((Rv1.out.below Tw3.out).below Tw4.out).below Tw5.out) (okL_uni OA.out OB.out) (by have := len_uniI a b; have := NA.out; have := NB.out; omega) (RC.out.below Bw5.out) OC.out (by have := NC.out; omega)).mono ?_
  rintro e w6 ⟨v4, he, ho, hb⟩
  rw [he.out]
  have Rv4 := Lib.hid ho.rd
  have Bw6 := Lib.hid (Bw5.out.trans (hb.mono Bw5.out.size))
  have Tw6 := Lib.hid hb
  clear he ho hb
  go_wp2_with fail
  refine (union_any _ _ b c w6 (RB.out.below Bw6.out) OB.out (by have := NB.out; omega) (RC.out.below Bw6.out) OC.out (by have := NC.out; omega)).mono ?_
  rintro e w7 ⟨v5, he, ho, hb⟩
  rw [he.out]
  have Rv5 := Lib.hid ho.rd
  have Bw7 := Lib.hid (Bw6.out.trans (hb.mono Bw6.out.size))
  have Tw7 := Lib.hid hb
  clear he ho hb
  go_wp2_with fail
  refine (union_any _ _ a (uniI b c) w7 (RA.out.below Bw7.out) OA.out (by have := NA.out; omega) Rv5.out (okL_uni OB.out OC.out) (by have := len_uniI b c; have := NB.out; have := NC.out; omega)).mono ?_
  rintro e w8 ⟨v6, he, ho, hb⟩
  rw [he.out]
  have Rv6 := Lib.hid ho.rd
  have Bw8 := Lib.hid (Bw7.out.trans (hb.mono Bw7.out.size))
  have Tw8 := Lib.hid hb
  clear he ho hb
  go_wp2_with fail
  have hc := same_any v4 v6 (uniI (uniI a b) c) (uniI a (uniI b c)) w8 ((Rv4.out.below Tw7.out).below Tw8.out) (okL_uni (okL_uni OA.out OB.out) OC.out) (by have := len_uniI (uniI a b) c; have := len_uniI a b; have := NA.out; have := NB.out; have := NC.out; omega) Rv6.out (okL_uni OA.out (okL_uni OB.out OC.out)) (by have := len_uniI a (uniI b c); have := len_uniI b c; have := NA.out; have := NB.out; have := NC.out; omega)
  rw [uni2] at hc
  refine hc.mono ?_
  clear hc
  rintro e w9 ⟨rfl, hb⟩
  have Bw9 := Lib.hid (Bw8.out.trans (hb.mono Bw8.out.size))
  have Tw9 := Lib.hid hb
  clear hb
  go_wp2_with fail
  have hc := right_any v1 (uniI a b) w9 (((((((Rv1.out.below Tw3.out).below Tw4.out).below Tw5.out).below Tw6.out).below Tw7.out).below Tw8.out).below Tw9.out) (by have := len_uniI a b; have := NA.out; have := NB.out; omega)
  rw [show rgtI (uniI a b) = true from uni3 _] at hc
  refine hc.mono ?_
  clear hc
  rintro e w10 ⟨rfl, hb⟩
  have Bw10 := Lib.hid (Bw9.out.trans (hb.mono Bw9.out.size))
  have Tw10 := Lib.hid hb
  clear hb
  go_wp2_with fail
  have hc := right_any v2 (lesI a b) w10 (((((((Rv2.out.below Tw4.out).below Tw5.out).below Tw6.out).below Tw7.out).below Tw8.out).below Tw9.out).below Tw10.out) (by have := len_lesI a b; have := NA.out; omega)
  rw [show rgtI (lesI a b) = true from uni3 _] at hc
  refine hc.mono ?_
  clear hc
  rintro e X ⟨rfl, hb⟩
  have BX := Lib.hid (Bw10.out.trans (hb.mono Bw10.out.size))
  have TX := Lib.hid hb
  clear hb
  have hsx := BX.out.size
  have hX0 : w.heap.size < X.heap.size := by omega
  replace d0 := (BX.out.cell (p := ⟨w.heap.size, 0, none⟩) hl0).trans d0
  replace d1 := (BX.out.cell (p := ⟨w.heap.size, 1, none⟩) hl0).trans d1
  replace d2 := (BX.out.cell (p := ⟨w.heap.size, 2, none⟩) hl0).trans d2
  have HC : Hid (∀ w' : World, Below X.heap.size X w' → (w'.cell? ⟨w.heap.size, 0, none⟩ = some (.int .i64 x1) ∧ w'.cell? ⟨w.heap.size, 1, none⟩ = some (.int .i64 x2) ∧ w'.cell? ⟨w.heap.size, 2, none⟩ = some (.int .i64 x3) ∧ Below X.heap.size X w')) := Lib.hid (fun w' hb => ⟨(hb.cell (p := ⟨w.heap.size, 0, none⟩) hX0).trans d0, (hb.cell (p := ⟨w.heap.size, 1, none⟩) hX0).trans d1, (hb.cell (p := ⟨w.heap.size, 2, none⟩) hX0).trans d2, hb⟩)
  have HU := Lib.hid (((((((((Rv1.out.below Tw3.out).below Tw4.out).below Tw5.out).below Tw6.out).below Tw7.out).below Tw8.out).below Tw9.out).below Tw10.out).below TX.out)
  have HDD := Lib.hid ((((((((Rv2.out.below Tw4.out).below Tw5.out).below Tw6.out).below Tw7.out).below Tw8.out).below Tw9.out).below Tw10.out).below TX.out)
  have C1 : Hid (∀ W : World, Below X.heap.size X W → Calls Tryd.prog 17 #[v1, .agg #[.int .i64 x1, .int .i64 x2, .int .i64 x3]] W fun e w' => e = .returned (.bool true) ∧ Below W.heap.size W w') := Lib.hid (fun W hW => by have h := has_any (v1) (uniI a b) x1 x2 x3 W (HU.out.below hW) (by have := len_uniI a b; have := NA.out; have := NB.out; omega); rw [uni6, HA.out, HBB.out, show (true || true) = true from rfl] at h; exact h)
  have C2 : Hid (∀ W : World, Below X.heap.size X W → Calls Tryd.prog 17 #[.slice pa N ka, .agg #[.int .i64 x1, .int .i64 x2, .int .i64 x3]] W fun e w' => e = .returned (.bool true) ∧ Below W.heap.size W w') := Lib.hid (fun W hW => by have h := has_any (.slice pa N ka) (a) x1 x2 x3 W ((RA.out.below BX.out).below hW) (by have := NA.out; omega); rw [HA.out] at h; exact h)
  have C3 : Hid (∀ W : World, Below X.heap.size X W → Calls Tryd.prog 17 #[.slice pb M kb, .agg #[.int .i64 x1, .int .i64 x2, .int .i64 x3]] W fun e w' => e = .returned (.bool true) ∧ Below W.heap.size W w') := Lib.hid (fun W hW => by have h := has_any (.slice pb M kb) (b) x1 x2 x3 W ((RB.out.below BX.out).below hW) (by have := NB.out; omega); rw [HBB.out] at h; exact h)
  have C4 : Hid (∀ W : World, Below X.heap.size X W → Calls Tryd.prog 17 #[v2, .agg #[.int .i64 x1, .int .i64 x2, .int .i64 x3]] W fun e w' => e = .returned (.bool false) ∧ Below W.heap.size W w') := Lib.hid (fun W hW => by have h := has_any (v2) (lesI a b) x1 x2 x3 W (HDD.out.below hW) (by have := len_lesI a b; have := NA.out; omega); rw [uni7, HA.out, HBB.out, show (true && !true) = false from rfl] at h; exact h)
  have BX0 := Lib.hid (HB0.out.trans (BX.out.mono (Nat.le_of_lt hl0)))
  clear d0 d1 d2 hsx
  go_wp2_with fail
  refine wp_region_held_drew (S := (fun w' => w'.cell? ⟨w.heap.size, 0, none⟩ = some (.int .i64 x1) ∧ w'.cell? ⟨w.heap.size, 1, none⟩ = some (.int .i64 x2) ∧ w'.cell? ⟨w.heap.size, 2, none⟩ = some (.int .i64 x3) ∧ Below X.heap.size X w')) (by kernel_rfl) ?_ (fun hHeld => ?_)
  · ((first
      | exact HC.out _ (Below.refl _ _)
      | exact HC.out _ (Below.refl _ _).drew
      | (go_split_ands; exact HC.out _ (below_self (by assumption) (by assumption)))
      | (go_split_ands; exact HC.out _ (Below.drew (by assumption)))
      | (go_split_ands; exact HC.out _ (by assumption))))
  refine wpAnyH_take (i := 0) (v := ?_) rfl (by kernel_rfl) (by kernel_rfl) (by kernel_rfl) (fun _ _ _ h => h) (Or.inl ⟨by rfl, ?_⟩) (by assumption) ?_
  rotate_left
  · (intro w hSw; (try dsimp only at hSw); go_simp; try rfl)
  try simp only [Act.put, List.setIfInBounds_toArray, List.set_cons_zero, List.set_cons_succ, List.getElem_toArray, List.getElem_cons_zero, List.getElem_cons_succ]
  refine wpAnyH_take (i := 1) (v := ?_) rfl (by kernel_rfl) (by kernel_rfl) (by kernel_rfl) (fun _ _ _ h => h) (Or.inl ⟨by rfl, ?_⟩) (by assumption) ?_
  rotate_left
  · (intro w hSw; (try dsimp only at hSw); go_simp; try rfl)
  try simp only [Act.put, List.setIfInBounds_toArray, List.set_cons_zero, List.set_cons_succ, List.getElem_toArray, List.getElem_cons_zero, List.getElem_cons_succ]
  refine wpAnyH_take (i := 3) (v := ?_) rfl (by kernel_rfl) (by kernel_rfl) (by kernel_rfl) (fun _ _ _ h => h) (Or.inl ⟨by rfl, ?_⟩) (by assumption) ?_
  rotate_left
  · (intro w hSw; (try dsimp only at hSw); go_simp; try rfl)
  try simp only [Act.put, List.setIfInBounds_toArray, List.set_cons_zero, List.set_cons_succ, List.getElem_toArray, List.getElem_cons_zero, List.getElem_cons_succ]
  refine wpAnyH_take (i := 4) (v := ?_) rfl (by kernel_rfl) (by kernel_rfl) (by kernel_rfl) (fun _ _ _ h => h) (Or.inl ⟨by rfl, ?_⟩) (by assumption) ?_
  rotate_left
  · (intro w hSw; (try dsimp only at hSw); go_simp; try rfl)
  try simp only [Act.put, List.setIfInBounds_toArray, List.set_cons_zero, List.set_cons_succ, List.getElem_toArray, List.getElem_cons_zero, List.getElem_cons_succ]
  refine wpAnyH_ready (rs := [2]) (by kernel_rfl) (by simp) ?_
  refine (AllReadyH.cons rfl (fun K hK => ?_) AllReadyH.nil)
  go_simp
  (go_at_call 17; go_split_ands; refine (C1.out _ (by assumption)).mono ?_; rintro e w5 ⟨rfl, hbw5⟩)
  refine hK.out _ _ ?_ (fun hHeld => ?_)
  · ((first
      | exact HC.out _ (Below.refl _ _)
      | exact HC.out _ (Below.refl _ _).drew
      | (go_split_ands; exact HC.out _ (below_self (by assumption) (by assumption)))
      | (go_split_ands; exact HC.out _ (Below.drew (by assumption)))
      | (go_split_ands; exact HC.out _ (by assumption))))
  clear hK K
  try simp only [Act.put, List.setIfInBounds_toArray, List.set_cons_zero, List.set_cons_succ, List.getElem_toArray, List.getElem_cons_zero, List.getElem_cons_succ]
  refine wpAnyH_ready (rs := [5]) (by kernel_rfl) (by simp) ?_
  refine (AllReadyH.cons rfl (fun K hK => ?_) AllReadyH.nil)
  go_simp
  (go_at_call 17; go_split_ands; refine (C2.out _ (by assumption)).mono ?_; rintro e w5 ⟨rfl, hbw5⟩)
  refine hK.out _ _ ?_ (fun hHeld => ?_)
  · ((first
      | exact HC.out _ (Below.refl _ _)
      | exact HC.out _ (Below.refl _ _).drew
      | (go_split_ands; exact HC.out _ (below_self (by assumption) (by assumption)))
      | (go_split_ands; exact HC.out _ (Below.drew (by assumption)))
      | (go_split_ands; exact HC.out _ (by assumption))))
  clear hK K
  try simp only [Act.put, List.setIfInBounds_toArray, List.set_cons_zero, List.set_cons_succ, List.getElem_toArray, List.getElem_cons_zero, List.getElem_cons_succ]
  refine wpAnyH_take (i := 6) (v := ?_) rfl (by kernel_rfl) (by kernel_rfl) (by kernel_rfl) (fun _ _ _ h => h) (Or.inl ⟨by rfl, ?_⟩) (by assumption) ?_
  rotate_left
  · (intro w hSw; (try dsimp only at hSw); go_simp; try rfl)
  try simp only [Act.put, List.setIfInBounds_toArray, List.set_cons_zero, List.set_cons_succ, List.getElem_toArray, List.getElem_cons_zero, List.getElem_cons_succ]
  refine wpAnyH_take (i := 7) (v := undef) rfl (by kernel_rfl) (by kernel_rfl) (by kernel_rfl) (fun _ _ _ h => h) (Or.inr ⟨by rfl, rfl⟩) (by assumption) ?_
  try simp only [Act.put, List.setIfInBounds_toArray, List.set_cons_zero, List.set_cons_succ, List.getElem_toArray, List.getElem_cons_zero, List.getElem_cons_succ]
  refine wpAnyH_take (i := 8) (v := undef) rfl (by kernel_rfl) (by kernel_rfl) (by kernel_rfl) (fun _ _ _ h => h) (Or.inr ⟨by rfl, rfl⟩) (by assumption) ?_
  try simp only [Act.put, List.setIfInBounds_toArray, List.set_cons_zero, List.set_cons_succ, List.getElem_toArray, List.getElem_cons_zero, List.getElem_cons_succ]
  refine wpAnyH_take (i := 9) (v := undef) rfl (by kernel_rfl) (by kernel_rfl) (by kernel_rfl) (fun _ _ _ h => h) (Or.inr ⟨by rfl, rfl⟩) (by assumption) ?_
  try simp only [Act.put, List.setIfInBounds_toArray, List.set_cons_zero, List.set_cons_succ, List.getElem_toArray, List.getElem_cons_zero, List.getElem_cons_succ]
  refine wpAnyH_take (i := 10) (v := ?_) rfl (by kernel_rfl) (by kernel_rfl) (by kernel_rfl) (fun _ _ _ h => h) (Or.inl ⟨by rfl, ?_⟩) (by assumption) ?_
  rotate_left
  · (intro w hSw; (try dsimp only at hSw); go_simp; try rfl)
  try simp only [Act.put, List.setIfInBounds_toArray, List.set_cons_zero, List.set_cons_succ, List.getElem_toArray, List.getElem_cons_zero, List.getElem_cons_succ]
  refine wpAnyH_take (i := 11) (v := ?_) rfl (by kernel_rfl) (by kernel_rfl) (by kernel_rfl) (fun _ _ _ h => h) (Or.inl ⟨by rfl, ?_⟩) (by assumption) ?_
  rotate_left
  · (intro w hSw; (try dsimp only at hSw); go_simp; try rfl)
  try simp only [Act.put, List.setIfInBounds_toArray, List.set_cons_zero, List.set_cons_succ, List.getElem_toArray, List.getElem_cons_zero, List.getElem_cons_succ]
  refine wpAnyH_take (i := 12) (v := ?_) rfl (by kernel_rfl) (by kernel_rfl) (by kernel_rfl) (fun _ _ _ h => h) (Or.inl ⟨by rfl, ?_⟩) (by assumption) ?_
  rotate_left
  · (intro w hSw; (try dsimp only at hSw); go_simp; try rfl)
  try simp only [Act.put, List.setIfInBounds_toArray, List.set_cons_zero, List.set_cons_succ, List.getElem_toArray, List.getElem_cons_zero, List.getElem_cons_succ]
  refine wpAnyH_take (i := 13) (v := ?_) rfl (by kernel_rfl) (by kernel_rfl) (by kernel_rfl) (fun _ _ _ h => h) (Or.inl ⟨by rfl, ?_⟩) (by assumption) ?_
  rotate_left
  · (intro w hSw; (try dsimp only at hSw); go_simp; try rfl)
  try simp only [Act.put, List.setIfInBounds_toArray, List.set_cons_zero, List.set_cons_succ, List.getElem_toArray, List.getElem_cons_zero, List.getElem_cons_succ]
  refine wpAnyH_take (i := 14) (v := ?_) rfl (by kernel_rfl) (by kernel_rfl) (by kernel_rfl) (fun _ _ _ h => h) (Or.inl ⟨by rfl, ?_⟩) (by assumption) ?_
  rotate_left
  · (intro w hSw; (try dsimp only at hSw); go_simp; try rfl)
  try simp only [Act.put, List.setIfInBounds_toArray, List.set_cons_zero, List.set_cons_succ, List.getElem_toArray, List.getElem_cons_zero, List.getElem_cons_succ]
  refine wpAnyH_take (i := 16) (v := ?_) rfl (by kernel_rfl) (by kernel_rfl) (by kernel_rfl) (fun _ _ _ h => h) (Or.inl ⟨by rfl, ?_⟩) (by assumption) ?_
  rotate_left
  · (intro w hSw; (try dsimp only at hSw); go_simp; try rfl)
  try simp only [Act.put, List.setIfInBounds_toArray, List.set_cons_zero, List.set_cons_succ, List.getElem_toArray, List.getElem_cons_zero, List.getElem_cons_succ]
  refine wpAnyH_take (i := 17) (v := ?_) rfl (by kernel_rfl) (by kernel_rfl) (by kernel_rfl) (fun _ _ _ h => h) (Or.inl ⟨by rfl, ?_⟩) (by assumption) ?_
  rotate_left
  · (intro w hSw; (try dsimp only at hSw); go_simp; try rfl)
  try simp only [Act.put, List.setIfInBounds_toArray, List.set_cons_zero, List.set_cons_succ, List.getElem_toArray, List.getElem_cons_zero, List.getElem_cons_succ]
  refine wpAnyH_ready (rs := [15]) (by kernel_rfl) (by simp) ?_
  refine (AllReadyH.cons rfl (fun K hK => ?_) AllReadyH.nil)
  go_simp
  (go_at_call 17; go_split_ands; refine (C4.out _ (by assumption)).mono ?_; rintro e w5 ⟨rfl, hbw5⟩)
  refine hK.out _ _ ?_ (fun hHeld => ?_)
  · ((first
      | exact HC.out _ (Below.refl _ _)
      | exact HC.out _ (Below.refl _ _).drew
      | (go_split_ands; exact HC.out _ (below_self (by assumption) (by assumption)))
      | (go_split_ands; exact HC.out _ (Below.drew (by assumption)))
      | (go_split_ands; exact HC.out _ (by assumption))))
  clear hK K
  try simp only [Act.put, List.setIfInBounds_toArray, List.set_cons_zero, List.set_cons_succ, List.getElem_toArray, List.getElem_cons_zero, List.getElem_cons_succ]
  refine wpAnyH_ready (rs := [18]) (by kernel_rfl) (by simp) ?_
  refine (AllReadyH.cons rfl (fun K hK => ?_) AllReadyH.nil)
  go_simp
  (go_at_call 17; go_split_ands; refine (C2.out _ (by assumption)).mono ?_; rintro e w5 ⟨rfl, hbw5⟩)
  refine hK.out _ _ ?_ (fun hHeld => ?_)
  · ((first
      | exact HC.out _ (Below.refl _ _)
      | exact HC.out _ (Below.refl _ _).drew
      | (go_split_ands; exact HC.out _ (below_self (by assumption) (by assumption)))
      | (go_split_ands; exact HC.out _ (Below.drew (by assumption)))
      | (go_split_ands; exact HC.out _ (by assumption))))
  clear hK K
  try simp only [Act.put, List.setIfInBounds_toArray, List.set_cons_zero, List.set_cons_succ, List.getElem_toArray, List.getElem_cons_zero, List.getElem_cons_succ]
  refine wpAnyH_take (i := 19) (v := ?_) rfl (by kernel_rfl) (by kernel_rfl) (by kernel_rfl) (fun _ _ _ h => h) (Or.inl ⟨by rfl, ?_⟩) (by assumption) ?_
  rotate_left
  · (intro w hSw; (try dsimp only at hSw); go_simp; try rfl)
  try simp only [Act.put, List.setIfInBounds_toArray, List.set_cons_zero, List.set_cons_succ, List.getElem_toArray, List.getElem_cons_zero, List.getElem_cons_succ]
  refine wpAnyH_take (i := 20) (v := ?_) rfl (by kernel_rfl) (by kernel_rfl) (by kernel_rfl) (fun _ _ _ h => h) (Or.inl ⟨by rfl, ?_⟩) (by assumption) ?_
  rotate_left
  · (intro w hSw; (try dsimp only at hSw); go_simp; try rfl)
  try simp only [Act.put, List.setIfInBounds_toArray, List.set_cons_zero, List.set_cons_succ, List.getElem_toArray, List.getElem_cons_zero, List.getElem_cons_succ]
  refine wpAnyH_take (i := 21) (v := ?_) rfl (by kernel_rfl) (by kernel_rfl) (by kernel_rfl) (fun _ _ _ h => h) (Or.inl ⟨by rfl, ?_⟩) (by assumption) ?_
  rotate_left
  · (intro w hSw; (try dsimp only at hSw); go_simp; try rfl)
  try simp only [Act.put, List.setIfInBounds_toArray, List.set_cons_zero, List.set_cons_succ, List.getElem_toArray, List.getElem_cons_zero, List.getElem_cons_succ]
  refine wpAnyH_ready (rs := [22]) (by kernel_rfl) (by simp) ?_
  refine (AllReadyH.cons rfl (fun K hK => ?_) AllReadyH.nil)
  go_simp
  (go_at_call 17; go_split_ands; refine (C3.out _ (by assumption)).mono ?_; rintro e w5 ⟨rfl, hbw5⟩)
  refine hK.out _ _ ?_ (fun hHeld => ?_)
  · ((first
      | exact HC.out _ (Below.refl _ _)
      | exact HC.out _ (Below.refl _ _).drew
      | (go_split_ands; exact HC.out _ (below_self (by assumption) (by assumption)))
      | (go_split_ands; exact HC.out _ (Below.drew (by assumption)))
      | (go_split_ands; exact HC.out _ (by assumption))))
  clear hK K
  try simp only [Act.put, List.setIfInBounds_toArray, List.set_cons_zero, List.set_cons_succ, List.getElem_toArray, List.getElem_cons_zero, List.getElem_cons_succ]
  refine wpAnyH_take (i := 23) (v := ?_) rfl (by kernel_rfl) (by kernel_rfl) (by kernel_rfl) (fun _ _ _ h => h) (Or.inl ⟨by rfl, ?_⟩) (by assumption) ?_
  rotate_left
  · (intro w hSw; (try dsimp only at hSw); go_simp; try rfl)
  try simp only [Act.put, List.setIfInBounds_toArray, List.set_cons_zero, List.set_cons_succ, List.getElem_toArray, List.getElem_cons_zero, List.getElem_cons_succ]
  refine wpAnyH_take (i := 24) (v := ?_) rfl (by kernel_rfl) (by kernel_rfl) (by kernel_rfl) (fun _ _ _ h => h) (Or.inl ⟨by rfl, ?_⟩) (by assumption) ?_
  rotate_left
  · (intro w hSw; (try dsimp only at hSw); go_simp; try rfl)
  try simp only [Act.put, List.setIfInBounds_toArray, List.set_cons_zero, List.set_cons_succ, List.getElem_toArray, List.getElem_cons_zero, List.getElem_cons_succ]
  refine wpAnyH_take (i := 25) (v := ?_) rfl (by kernel_rfl) (by kernel_rfl) (by kernel_rfl) (fun _ _ _ h => h) (Or.inl ⟨by rfl, ?_⟩) (by assumption) ?_
  rotate_left
  · (intro w hSw; (try dsimp only at hSw); go_simp; try rfl)
  try simp only [Act.put, List.setIfInBounds_toArray, List.set_cons_zero, List.set_cons_succ, List.getElem_toArray, List.getElem_cons_zero, List.getElem_cons_succ]
  refine wpAnyH_take (i := 26) (v := ?_) rfl (by kernel_rfl) (by kernel_rfl) (by kernel_rfl) (fun _ _ _ h => h) (Or.inl ⟨by rfl, ?_⟩) (by assumption) ?_
  rotate_left
  · (intro w hSw; (try dsimp only at hSw); go_simp; try rfl)
  try simp only [Act.put, List.setIfInBounds_toArray, List.set_cons_zero, List.set_cons_succ, List.getElem_toArray, List.getElem_cons_zero, List.getElem_cons_succ]
  refine wpAnyH_take (i := 27) (v := ?_) rfl (by kernel_rfl) (by kernel_rfl) (by kernel_rfl) (fun _ _ _ h => h) (Or.inl ⟨by rfl, ?_⟩) (by assumption) ?_
  rotate_left
  · (intro w hSw; (try dsimp only at hSw); go_simp; try rfl)
  try simp only [Act.put, List.setIfInBounds_toArray, List.set_cons_zero, List.set_cons_succ, List.getElem_toArray, List.getElem_cons_zero, List.getElem_cons_succ]
  refine wpAnyH_done (by kernel_rfl) ?_ _
  go_split_ands
  have hbY : Below X.heap.size X w5 := by assumption
  have Bw5 := Lib.hid (BX.out.trans (hbY.mono BX.out.size))
  have TY := Lib.hid hbY
  clear hbY
  go_wp2_with fail
  refine (union_any _ _ (lesI a b) b w5 (HDD.out.below TY.out) (okL_les OA.out) (by have := len_lesI a b; have := NA.out; omega) (RB.out.below Bw5.out) OB.out (by have := NB.out; omega)).mono ?_
  rintro e w21 ⟨v7, he, ho, hb⟩
  rw [he.out]
  have Rv7 := Lib.hid ho.rd
  have Bw21 := Lib.hid (Bw5.out.trans (hb.mono Bw5.out.size))
  have Tw21 := Lib.hid hb
  clear he ho hb
  go_wp2_with fail
  have hc := same_any v7 v1 (uniI (lesI a b) b) (uniI a b) w21 Rv7.out (okL_uni (okL_les OA.out) OB.out) (by have := len_uniI (lesI a b) b; have := len_lesI a b; have := NA.out; have := NB.out; omega) ((HU.out.below TY.out).below Tw21.out) (okL_uni OA.out OB.out) (by have := len_uniI a b; have := NA.out; have := NB.out; omega)
  rw [uni4] at hc
  refine hc.mono ?_
  clear hc
  rintro e w22 ⟨rfl, hb⟩
  have Bw22 := Lib.hid (Bw21.out.trans (hb.mono Bw21.out.size))
  have Tw22 := Lib.hid hb
  clear hb
  go_wp2_with fail
  refine (clean_any _ a w22 (RA.out.below Bw22.out) OA.out (by have := NA.out; omega)).mono ?_
  rintro e w23 ⟨v8, he, ho, hb⟩
  rw [he.out]
  have Rv8 := Lib.hid ho.rd
  have Bw23 := Lib.hid (Bw22.out.trans (hb.mono Bw22.out.size))
  have Tw23 := Lib.hid hb
  clear he ho hb
  go_wp2_with fail
  have hc := same_any v8 _ (clnI a) a w23 Rv8.out (fun x hx => OA.out x ((mem_clnI a x).1 hx)) (by have := len_clnI a; have := NA.out; omega) (RA.out.below Bw23.out) OA.out (by have := NA.out; omega)
  rw [uni5] at hc
  refine hc.mono ?_
  clear hc
  rintro e w24 ⟨rfl, hb⟩
  have Bw24 := Lib.hid (Bw23.out.trans (hb.mono Bw23.out.size))
  have Tw24 := Lib.hid hb
  clear hb
  go_wp2
  go_ret
  exact ⟨rfl, HB0.out.trans (Bw24.out.mono (Nat.le_of_lt hl0))⟩
set_option maxRecDepth 100000 in
set_option maxHeartbeats 8000000 in
theorem uni_tf (va vb vc : Value) (a b c : List I3) (x1 x2 x3 : Int) (w : World) (ha : IK.Rd w va a) (hb : IK.Rd w vb b) (hc : IK.Rd w vc c) (oa : okL a) (ob : okL b) (oc : okL c) (ht : TB w) (hA : hasI a (x1, x2, x3) = true) (hB : hasI b (x1, x2, x3) = false) (ca : a.length ≤ 60) (cb : b.length ≤ 60) (cc : c.length ≤ 60) :
    Calls Tryd.prog 5 #[va, vb, vc, .agg #[.int .i64 x1, .int .i64 x2, .int .i64 x3]] w fun e w' => e = .returned (.bool true) ∧ Below w.heap.size w w' := by
  have hB0 : Below w.heap.size w (w.alloc (.cells #[.int .i64 x1, .int .i64 x2, .int .i64 x3] 23)) := (Below.refl _ _).alloc (Nat.le_refl _) _
  have RA := Lib.hid (ha.below hB0)
  have RB := Lib.hid (hb.below hB0)
  have RC := Lib.hid (hc.below hB0)
  obtain ⟨pa, ka, e⟩ := ha.slice
  subst e
  obtain ⟨pb, kb, e⟩ := hb.slice
  subst e
  obtain ⟨pc, kc, e⟩ := hc.slice
  subst e
  obtain ⟨N, hN⟩ : ∃ N, a.length = N := ⟨_, rfl⟩
  obtain ⟨M, hM⟩ : ∃ N, b.length = N := ⟨_, rfl⟩
  obtain ⟨L, hL⟩ : ∃ N, c.length = N := ⟨_, rfl⟩
  rw [hN] at RA ⊢
  rw [hM] at RB ⊢
  rw [hL] at RC ⊢
  have hz3 : (w.alloc (.cells #[.int .i64 x1, .int .i64 x2, .int .i64 x3] 23)).heap.size = w.heap.size + 1 := by simp
  have d0 : (w.alloc (.cells #[.int .i64 x1, .int .i64 x2, .int .i64 x3] 23)).cell? ⟨w.heap.size, 0, none⟩ = some (.int .i64 x1) := new_cell w _ _ 0
  have d1 : (w.alloc (.cells #[.int .i64 x1, .int .i64 x2, .int .i64 x3] 23)).cell? ⟨w.heap.size, 1, none⟩ = some (.int .i64 x2) := new_cell w _ _ 1
  have d2 : (w.alloc (.cells #[.int .i64 x1, .int .i64 x2, .int .i64 x3] 23)).cell? ⟨w.heap.size, 2, none⟩ = some (.int .i64 x3) := new_cell w _ _ 2
  have OA := Lib.hid oa
  have OB := Lib.hid ob
  have OC := Lib.hid oc
  have NA := Lib.hid ca
  have NB := Lib.hid cb
  have NC := Lib.hid cc
  have HT := Lib.hid (ht.below hB0)
  have HB0 := Lib.hid hB0
  have hA1 : ¬ (60 : Int) < (N : Int) := by omega
  have hA2 : decide (60 < N) = false := decide_eq_false (by omega)
  have hB1 : ¬ (60 : Int) < (M : Int) := by omega
  have hB2 : decide (60 < M) = false := decide_eq_false (by omega)
  have hC1 : ¬ (60 : Int) < (L : Int) := by omega
  have hC2 : decide (60 < L) = false := decide_eq_false (by omega)
  have HA := Lib.hid hA
  have HBB := Lib.hid hB
  clear ha hb hc oa ob oc ht hA hB ca cb cc hN hM hL hB0
  go_enter Tryd.func5, Tryd.ntmps5
  go_wp2_with fail
  generalize (w.alloc (.cells #[.int .i64 x1, .int .i64 x2, .int .i64 x3] 23)) = X0 at *
  have hl0 : w.heap.size < X0.heap.size := by omega
  clear hz3
  refine (works_any X0 HT.out).mono ?_
  rintro e w1 ⟨rfl, hb⟩
  have Bw1 := Lib.hid hb
  clear hb
  go_wp2_with fail
  refine (union_any _ _ a b w1 (RA.out.below Bw1.out) OA.out (by have := NA.out; omega) (RB.out.below Bw1.out) OB.out (by have := NB.out; omega)).mono ?_
  rintro e w2 ⟨v1, he, ho, hb⟩
  rw [he.out]
  have Rv1 := Lib.hid ho.rd
  have Bw2 := Lib.hid (Bw1.out.trans (hb.mono Bw1.out.size))
  have Tw2 := Lib.hid hb
  clear he ho hb
  go_wp2_with fail
  refine (less2_any _ _ a b w2 (RA.out.below Bw2.out) OA.out (by have := NA.out; omega) (RB.out.below Bw2.out) OB.out (by have := NB.out; omega)).mono ?_
  rintro e w3 ⟨v2, he, ho, hb⟩
  rw [he.out]
  have Rv2 := Lib.hid ho.rd
  have Bw3 := Lib.hid (Bw2.out.trans (hb.mono Bw2.out.size))
  have Tw3 := Lib.hid hb
  clear he ho hb
  go_wp2_with fail
  refine (union_any _ _ b a w3 (RB.out.below Bw3.out) OB.out (by have := NB.out; omega) (RA.out.below Bw3.out) OA.out (by have := NA.out; omega)).mono ?_
  rintro e w4 ⟨v3, he, ho, hb⟩
  rw [he.out]
  have Rv3 := Lib.hid ho.rd
  have Bw4 := Lib.hid (Bw3.out.trans (hb.mono Bw3.out.size))
  have Tw4 := Lib.hid hb
  clear he ho hb
  go_wp2_with fail
  have hc := same_any v1 v3 (uniI a b) (uniI b a) w4 ((Rv1.out.below Tw3.out).below Tw4.out) (okL_uni OA.out OB.out) (by have := len_uniI a b; have := NA.out; have := NB.out; omega) Rv3.out (okL_uni OB.out OA.out) (by have := len_uniI b a; have := NA.out; have := NB.out; omega)
  rw [uni1] at hc
  refine hc.mono ?_
  clear hc
  rintro e w5 ⟨rfl, hb⟩
  have Bw5 := Lib.hid (Bw4.out.trans (hb.mono Bw4.out.size))
  have Tw5 := Lib.hid hb
  clear hb
  go_wp2_with fail
  refine (union_any _ _ (uniI a b) c w5 (((Rv1.out.below Tw3.out).below Tw4.out).below Tw5.out) (okL_uni OA.out OB.out) (by have := len_uniI a b; have := NA.out; have := NB.out; omega) (RC.out.below Bw5.out) OC.out (by have := NC.out; omega)).mono ?_
  rintro e w6 ⟨v4, he, ho, hb⟩
  rw [he.out]
  have Rv4 := Lib.hid ho.rd
  have Bw6 := Lib.hid (Bw5.out.trans (hb.mono Bw5.out.size))
  have Tw6 := Lib.hid hb
  clear he ho hb
  go_wp2_with fail
  refine (union_any _ _ b c w6 (RB.out.below Bw6.out) OB.out (by have := NB.out; omega) (RC.out.below Bw6.out) OC.out (by have := NC.out; omega)).mono ?_
  rintro e w7 ⟨v5, he, ho, hb⟩
  rw [he.out]
  have Rv5 := Lib.hid ho.rd
  have Bw7 := Lib.hid (Bw6.out.trans (hb.mono Bw6.out.size))
  have Tw7 := Lib.hid hb
  clear he ho hb
  go_wp2_with fail
  refine (union_any _ _ a (uniI b c) w7 (RA.out.below Bw7.out) OA.out (by have := NA.out; omega) Rv5.out (okL_uni OB.out OC.out) (by have := len_uniI b c; have := NB.out; have := NC.out; omega)).mono ?_
  rintro e w8 ⟨v6, he, ho, hb⟩
  rw [he.out]
  have Rv6 := Lib.hid ho.rd
  have Bw8 := Lib.hid (Bw7.out.trans (hb.mono Bw7.out.size))
  have Tw8 := Lib.hid hb
  clear he ho hb
  go_wp2_with fail
  have hc := same_any v4 v6 (uniI (uniI a b) c) (uniI a (uniI b c)) w8 ((Rv4.out.below Tw7.out).below Tw8.out) (okL_uni (okL_uni OA.out OB.out) OC.out) (by have := len_uniI (uniI a b) c; have := len_uniI a b; have := NA.out; have := NB.out; have := NC.out; omega) Rv6.out (okL_uni OA.out (okL_uni OB.out OC.out)) (by have := len_uniI a (uniI b c); have := len_uniI b c; have := NA.out; have := NB.out; have := NC.out; omega)
  rw [uni2] at hc
  refine hc.mono ?_
  clear hc
  rintro e w9 ⟨rfl, hb⟩
  have Bw9 := Lib.hid (Bw8.out.trans (hb.mono Bw8.out.size))
  have Tw9 := Lib.hid hb
  clear hb
  go_wp2_with fail
  have hc := right_any v1 (uniI a b) w9 (((((((Rv1.out.below Tw3.out).below Tw4.out).below Tw5.out).below Tw6.out).below Tw7.out).below Tw8.out).below Tw9.out) (by have := len_uniI a b; have := NA.out; have := NB.out; omega)
  rw [show rgtI (uniI a b) = true from uni3 _] at hc
  refine hc.mono ?_
  clear hc
  rintro e w10 ⟨rfl, hb⟩
  have Bw10 := Lib.hid (Bw9.out.trans (hb.mono Bw9.out.size))
  have Tw10 := Lib.hid hb
  clear hb
  go_wp2_with fail
  have hc := right_any v2 (lesI a b) w10 (((((((Rv2.out.below Tw4.out).below Tw5.out).below Tw6.out).below Tw7.out).below Tw8.out).below Tw9.out).below Tw10.out) (by have := len_lesI a b; have := NA.out; omega)
  rw [show rgtI (lesI a b) = true from uni3 _] at hc
  refine hc.mono ?_
  clear hc
  rintro e X ⟨rfl, hb⟩
  have BX := Lib.hid (Bw10.out.trans (hb.mono Bw10.out.size))
  have TX := Lib.hid hb
  clear hb
  have hsx := BX.out.size
  have hX0 : w.heap.size < X.heap.size := by omega
  replace d0 := (BX.out.cell (p := ⟨w.heap.size, 0, none⟩) hl0).trans d0
  replace d1 := (BX.out.cell (p := ⟨w.heap.size, 1, none⟩) hl0).trans d1
  replace d2 := (BX.out.cell (p := ⟨w.heap.size, 2, none⟩) hl0).trans d2
  have HC : Hid (∀ w' : World, Below X.heap.size X w' → (w'.cell? ⟨w.heap.size, 0, none⟩ = some (.int .i64 x1) ∧ w'.cell? ⟨w.heap.size, 1, none⟩ = some (.int .i64 x2) ∧ w'.cell? ⟨w.heap.size, 2, none⟩ = some (.int .i64 x3) ∧ Below X.heap.size X w')) := Lib.hid (fun w' hb => ⟨(hb.cell (p := ⟨w.heap.size, 0, none⟩) hX0).trans d0, (hb.cell (p := ⟨w.heap.size, 1, none⟩) hX0).trans d1, (hb.cell (p := ⟨w.heap.size, 2, none⟩) hX0).trans d2, hb⟩)
  have HU := Lib.hid (((((((((Rv1.out.below Tw3.out).below Tw4.out).below Tw5.out).below Tw6.out).below Tw7.out).below Tw8.out).below Tw9.out).below Tw10.out).below TX.out)
  have HDD := Lib.hid ((((((((Rv2.out.below Tw4.out).below Tw5.out).below Tw6.out).below Tw7.out).below Tw8.out).below Tw9.out).below Tw10.out).below TX.out)
  have C1 : Hid (∀ W : World, Below X.heap.size X W → Calls Tryd.prog 17 #[v1, .agg #[.int .i64 x1, .int .i64 x2, .int .i64 x3]] W fun e w' => e = .returned (.bool true) ∧ Below W.heap.size W w') := Lib.hid (fun W hW => by have h := has_any (v1) (uniI a b) x1 x2 x3 W (HU.out.below hW) (by have := len_uniI a b; have := NA.out; have := NB.out; omega); rw [uni6, HA.out, HBB.out, show (true || false) = true from rfl] at h; exact h)
  have C2 : Hid (∀ W : World, Below X.heap.size X W → Calls Tryd.prog 17 #[.slice pa N ka, .agg #[.int .i64 x1, .int .i64 x2, .int .i64 x3]] W fun e w' => e = .returned (.bool true) ∧ Below W.heap.size W w') := Lib.hid (fun W hW => by have h := has_any (.slice pa N ka) (a) x1 x2 x3 W ((RA.out.below BX.out).below hW) (by have := NA.out; omega); rw [HA.out] at h; exact h)
  have C3 : Hid (∀ W : World, Below X.heap.size X W → Calls Tryd.prog 17 #[.slice pb M kb, .agg #[.int .i64 x1, .int .i64 x2, .int .i64 x3]] W fun e w' => e = .returned (.bool false) ∧ Below W.heap.size W w') := Lib.hid (fun W hW => by have h := has_any (.slice pb M kb) (b) x1 x2 x3 W ((RB.out.below BX.out).below hW) (by have := NB.out; omega); rw [HBB.out] at h; exact h)
  have C4 : Hid (∀ W : World, Below X.heap.size X W → Calls Tryd.prog 17 #[v2, .agg #[.int .i64 x1, .int .i64 x2, .int .i64 x3]] W fun e w' => e = .returned (.bool true) ∧ Below W.heap.size W w') := Lib.hid (fun W hW => by have h := has_any (v2) (lesI a b) x1 x2 x3 W (HDD.out.below hW) (by have := len_lesI a b; have := NA.out; omega); rw [uni7, HA.out, HBB.out, show (true && !false) = true from rfl] at h; exact h)
  have BX0 := Lib.hid (HB0.out.trans (BX.out.mono (Nat.le_of_lt hl0)))
  clear d0 d1 d2 hsx
  go_wp2_with fail
  refine wp_region_held_drew (S := (fun w' => w'.cell? ⟨w.heap.size, 0, none⟩ = some (.int .i64 x1) ∧ w'.cell? ⟨w.heap.size, 1, none⟩ = some (.int .i64 x2) ∧ w'.cell? ⟨w.heap.size, 2, none⟩ = some (.int .i64 x3) ∧ Below X.heap.size X w')) (by kernel_rfl) ?_ (fun hHeld => ?_)
  · ((first
      | exact HC.out _ (Below.refl _ _)
      | exact HC.out _ (Below.refl _ _).drew
      | (go_split_ands; exact HC.out _ (below_self (by assumption) (by assumption)))
      | (go_split_ands; exact HC.out _ (Below.drew (by assumption)))
      | (go_split_ands; exact HC.out _ (by assumption))))
  refine wpAnyH_take (i := 0) (v := ?_) rfl (by kernel_rfl) (by kernel_rfl) (by kernel_rfl) (fun _ _ _ h => h) (Or.inl ⟨by rfl, ?_⟩) (by assumption) ?_
  rotate_left
  · (intro w hSw; (try dsimp only at hSw); go_simp; try rfl)
  try simp only [Act.put, List.setIfInBounds_toArray, List.set_cons_zero, List.set_cons_succ, List.getElem_toArray, List.getElem_cons_zero, List.getElem_cons_succ]
  refine wpAnyH_take (i := 1) (v := ?_) rfl (by kernel_rfl) (by kernel_rfl) (by kernel_rfl) (fun _ _ _ h => h) (Or.inl ⟨by rfl, ?_⟩) (by assumption) ?_
  rotate_left
  · (intro w hSw; (try dsimp only at hSw); go_simp; try rfl)
  try simp only [Act.put, List.setIfInBounds_toArray, List.set_cons_zero, List.set_cons_succ, List.getElem_toArray, List.getElem_cons_zero, List.getElem_cons_succ]
  refine wpAnyH_take (i := 3) (v := ?_) rfl (by kernel_rfl) (by kernel_rfl) (by kernel_rfl) (fun _ _ _ h => h) (Or.inl ⟨by rfl, ?_⟩) (by assumption) ?_
  rotate_left
  · (intro w hSw; (try dsimp only at hSw); go_simp; try rfl)
  try simp only [Act.put, List.setIfInBounds_toArray, List.set_cons_zero, List.set_cons_succ, List.getElem_toArray, List.getElem_cons_zero, List.getElem_cons_succ]
  refine wpAnyH_take (i := 4) (v := ?_) rfl (by kernel_rfl) (by kernel_rfl) (by kernel_rfl) (fun _ _ _ h => h) (Or.inl ⟨by rfl, ?_⟩) (by assumption) ?_
  rotate_left
  · (intro w hSw; (try dsimp only at hSw); go_simp; try rfl)
  try simp only [Act.put, List.setIfInBounds_toArray, List.set_cons_zero, List.set_cons_succ, List.getElem_toArray, List.getElem_cons_zero, List.getElem_cons_succ]
  refine wpAnyH_ready (rs := [2]) (by kernel_rfl) (by simp) ?_
  refine (AllReadyH.cons rfl (fun K hK => ?_) AllReadyH.nil)
  go_simp
  (go_at_call 17; go_split_ands; refine (C1.out _ (by assumption)).mono ?_; rintro e w5 ⟨rfl, hbw5⟩)
  refine hK.out _ _ ?_ (fun hHeld => ?_)
  · ((first
      | exact HC.out _ (Below.refl _ _)
      | exact HC.out _ (Below.refl _ _).drew
      | (go_split_ands; exact HC.out _ (below_self (by assumption) (by assumption)))
      | (go_split_ands; exact HC.out _ (Below.drew (by assumption)))
      | (go_split_ands; exact HC.out _ (by assumption))))
  clear hK K
  try simp only [Act.put, List.setIfInBounds_toArray, List.set_cons_zero, List.set_cons_succ, List.getElem_toArray, List.getElem_cons_zero, List.getElem_cons_succ]
  refine wpAnyH_ready (rs := [5]) (by kernel_rfl) (by simp) ?_
  refine (AllReadyH.cons rfl (fun K hK => ?_) AllReadyH.nil)
  go_simp
  (go_at_call 17; go_split_ands; refine (C2.out _ (by assumption)).mono ?_; rintro e w5 ⟨rfl, hbw5⟩)
  refine hK.out _ _ ?_ (fun hHeld => ?_)
  · ((first
      | exact HC.out _ (Below.refl _ _)
      | exact HC.out _ (Below.refl _ _).drew
      | (go_split_ands; exact HC.out _ (below_self (by assumption) (by assumption)))
      | (go_split_ands; exact HC.out _ (Below.drew (by assumption)))
      | (go_split_ands; exact HC.out _ (by assumption))))
  clear hK K
  try simp only [Act.put, List.setIfInBounds_toArray, List.set_cons_zero, List.set_cons_succ, List.getElem_toArray, List.getElem_cons_zero, List.getElem_cons_succ]
  refine wpAnyH_take (i := 6) (v := ?_) rfl (by kernel_rfl) (by kernel_rfl) (by kernel_rfl) (fun _ _ _ h => h) (Or.inl ⟨by rfl, ?_⟩) (by assumption) ?_
  rotate_left
  · (intro w hSw; (try dsimp only at hSw); go_simp; try rfl)
  try simp only [Act.put, List.setIfInBounds_toArray, List.set_cons_zero, List.set_cons_succ, List.getElem_toArray, List.getElem_cons_zero, List.getElem_cons_succ]
  refine wpAnyH_take (i := 7) (v := undef) rfl (by kernel_rfl) (by kernel_rfl) (by kernel_rfl) (fun _ _ _ h => h) (Or.inr ⟨by rfl, rfl⟩) (by assumption) ?_
  try simp only [Act.put, List.setIfInBounds_toArray, List.set_cons_zero, List.set_cons_succ, List.getElem_toArray, List.getElem_cons_zero, List.getElem_cons_succ]
  refine wpAnyH_take (i := 8) (v := undef) rfl (by kernel_rfl) (by kernel_rfl) (by kernel_rfl) (fun _ _ _ h => h) (Or.inr ⟨by rfl, rfl⟩) (by assumption) ?_
  try simp only [Act.put, List.setIfInBounds_toArray, List.set_cons_zero, List.set_cons_succ, List.getElem_toArray, List.getElem_cons_zero, List.getElem_cons_succ]
  refine wpAnyH_take (i := 9) (v := undef) rfl (by kernel_rfl) (by kernel_rfl) (by kernel_rfl) (fun _ _ _ h => h) (Or.inr ⟨by rfl, rfl⟩) (by assumption) ?_
  try simp only [Act.put, List.setIfInBounds_toArray, List.set_cons_zero, List.set_cons_succ, List.getElem_toArray, List.getElem_cons_zero, List.getElem_cons_succ]
  refine wpAnyH_take (i := 10) (v := ?_) rfl (by kernel_rfl) (by kernel_rfl) (by kernel_rfl) (fun _ _ _ h => h) (Or.inl ⟨by rfl, ?_⟩) (by assumption) ?_
  rotate_left
  · (intro w hSw; (try dsimp only at hSw); go_simp; try rfl)
  try simp only [Act.put, List.setIfInBounds_toArray, List.set_cons_zero, List.set_cons_succ, List.getElem_toArray, List.getElem_cons_zero, List.getElem_cons_succ]
  refine wpAnyH_take (i := 11) (v := ?_) rfl (by kernel_rfl) (by kernel_rfl) (by kernel_rfl) (fun _ _ _ h => h) (Or.inl ⟨by rfl, ?_⟩) (by assumption) ?_
  rotate_left
  · (intro w hSw; (try dsimp only at hSw); go_simp; try rfl)
  try simp only [Act.put, List.setIfInBounds_toArray, List.set_cons_zero, List.set_cons_succ, List.getElem_toArray, List.getElem_cons_zero, List.getElem_cons_succ]
  refine wpAnyH_take (i := 12) (v := ?_) rfl (by kernel_rfl) (by kernel_rfl) (by kernel_rfl) (fun _ _ _ h => h) (Or.inl ⟨by rfl, ?_⟩) (by assumption) ?_
  rotate_left
  · (intro w hSw; (try dsimp only at hSw); go_simp; try rfl)
  try simp only [Act.put, List.setIfInBounds_toArray, List.set_cons_zero, List.set_cons_succ, List.getElem_toArray, List.getElem_cons_zero, List.getElem_cons_succ]
  refine wpAnyH_take (i := 13) (v := ?_) rfl (by kernel_rfl) (by kernel_rfl) (by kernel_rfl) (fun _ _ _ h => h) (Or.inl ⟨by rfl, ?_⟩) (by assumption) ?_
  rotate_left
  · (intro w hSw; (try dsimp only at hSw); go_simp; try rfl)
  try simp only [Act.put, List.setIfInBounds_toArray, List.set_cons_zero, List.set_cons_succ, List.getElem_toArray, List.getElem_cons_zero, List.getElem_cons_succ]
  refine wpAnyH_take (i := 14) (v := ?_) rfl (by kernel_rfl) (by kernel_rfl) (by kernel_rfl) (fun _ _ _ h => h) (Or.inl ⟨by rfl, ?_⟩) (by assumption) ?_
  rotate_left
  · (intro w hSw; (try dsimp only at hSw); go_simp; try rfl)
  try simp only [Act.put, List.setIfInBounds_toArray, List.set_cons_zero, List.set_cons_succ, List.getElem_toArray, List.getElem_cons_zero, List.getElem_cons_succ]
  refine wpAnyH_take (i := 16) (v := ?_) rfl (by kernel_rfl) (by kernel_rfl) (by kernel_rfl) (fun _ _ _ h => h) (Or.inl ⟨by rfl, ?_⟩) (by assumption) ?_
  rotate_left
  · (intro w hSw; (try dsimp only at hSw); go_simp; try rfl)
  try simp only [Act.put, List.setIfInBounds_toArray, List.set_cons_zero, List.set_cons_succ, List.getElem_toArray, List.getElem_cons_zero, List.getElem_cons_succ]
  refine wpAnyH_take (i := 17) (v := ?_) rfl (by kernel_rfl) (by kernel_rfl) (by kernel_rfl) (fun _ _ _ h => h) (Or.inl ⟨by rfl, ?_⟩) (by assumption) ?_
  rotate_left
  · (intro w hSw; (try dsimp only at hSw); go_simp; try rfl)
  try simp only [Act.put, List.setIfInBounds_toArray, List.set_cons_zero, List.set_cons_succ, List.getElem_toArray, List.getElem_cons_zero, List.getElem_cons_succ]
  refine wpAnyH_ready (rs := [15]) (by kernel_rfl) (by simp) ?_
  refine (AllReadyH.cons rfl (fun K hK => ?_) AllReadyH.nil)
  go_simp
  (go_at_call 17; go_split_ands; refine (C4.out _ (by assumption)).mono ?_; rintro e w5 ⟨rfl, hbw5⟩)
  refine hK.out _ _ ?_ (fun hHeld => ?_)
  · ((first
      | exact HC.out _ (Below.refl _ _)
      | exact HC.out _ (Below.refl _ _).drew
      | (go_split_ands; exact HC.out _ (below_self (by assumption) (by assumption)))
      | (go_split_ands; exact HC.out _ (Below.drew (by assumption)))
      | (go_split_ands; exact HC.out _ (by assumption))))
  clear hK K
  try simp only [Act.put, List.setIfInBounds_toArray, List.set_cons_zero, List.set_cons_succ, List.getElem_toArray, List.getElem_cons_zero, List.getElem_cons_succ]
  refine wpAnyH_ready (rs := [18]) (by kernel_rfl) (by simp) ?_
  refine (AllReadyH.cons rfl (fun K hK => ?_) AllReadyH.nil)
  go_simp
  (go_at_call 17; go_split_ands; refine (C2.out _ (by assumption)).mono ?_; rintro e w5 ⟨rfl, hbw5⟩)
  refine hK.out _ _ ?_ (fun hHeld => ?_)
  · ((first
      | exact HC.out _ (Below.refl _ _)
      | exact HC.out _ (Below.refl _ _).drew
      | (go_split_ands; exact HC.out _ (below_self (by assumption) (by assumption)))
      | (go_split_ands; exact HC.out _ (Below.drew (by assumption)))
      | (go_split_ands; exact HC.out _ (by assumption))))
  clear hK K
  try simp only [Act.put, List.setIfInBounds_toArray, List.set_cons_zero, List.set_cons_succ, List.getElem_toArray, List.getElem_cons_zero, List.getElem_cons_succ]
  refine wpAnyH_take (i := 19) (v := ?_) rfl (by kernel_rfl) (by kernel_rfl) (by kernel_rfl) (fun _ _ _ h => h) (Or.inl ⟨by rfl, ?_⟩) (by assumption) ?_
  rotate_left
  · (intro w hSw; (try dsimp only at hSw); go_simp; try rfl)
  try simp only [Act.put, List.setIfInBounds_toArray, List.set_cons_zero, List.set_cons_succ, List.getElem_toArray, List.getElem_cons_zero, List.getElem_cons_succ]
  refine wpAnyH_take (i := 20) (v := ?_) rfl (by kernel_rfl) (by kernel_rfl) (by kernel_rfl) (fun _ _ _ h => h) (Or.inl ⟨by rfl, ?_⟩) (by assumption) ?_
  rotate_left
  · (intro w hSw; (try dsimp only at hSw); go_simp; try rfl)
  try simp only [Act.put, List.setIfInBounds_toArray, List.set_cons_zero, List.set_cons_succ, List.getElem_toArray, List.getElem_cons_zero, List.getElem_cons_succ]
  refine wpAnyH_take (i := 21) (v := ?_) rfl (by kernel_rfl) (by kernel_rfl) (by kernel_rfl) (fun _ _ _ h => h) (Or.inl ⟨by rfl, ?_⟩) (by assumption) ?_
  rotate_left
  · (intro w hSw; (try dsimp only at hSw); go_simp; try rfl)
  try simp only [Act.put, List.setIfInBounds_toArray, List.set_cons_zero, List.set_cons_succ, List.getElem_toArray, List.getElem_cons_zero, List.getElem_cons_succ]
  refine wpAnyH_ready (rs := [22]) (by kernel_rfl) (by simp) ?_
  refine (AllReadyH.cons rfl (fun K hK => ?_) AllReadyH.nil)
  go_simp
  (go_at_call 17; go_split_ands; refine (C3.out _ (by assumption)).mono ?_; rintro e w5 ⟨rfl, hbw5⟩)
  refine hK.out _ _ ?_ (fun hHeld => ?_)
  · ((first
      | exact HC.out _ (Below.refl _ _)
      | exact HC.out _ (Below.refl _ _).drew
      | (go_split_ands; exact HC.out _ (below_self (by assumption) (by assumption)))
      | (go_split_ands; exact HC.out _ (Below.drew (by assumption)))
      | (go_split_ands; exact HC.out _ (by assumption))))
  clear hK K
  try simp only [Act.put, List.setIfInBounds_toArray, List.set_cons_zero, List.set_cons_succ, List.getElem_toArray, List.getElem_cons_zero, List.getElem_cons_succ]
  refine wpAnyH_take (i := 23) (v := ?_) rfl (by kernel_rfl) (by kernel_rfl) (by kernel_rfl) (fun _ _ _ h => h) (Or.inl ⟨by rfl, ?_⟩) (by assumption) ?_
  rotate_left
  · (intro w hSw; (try dsimp only at hSw); go_simp; try rfl)
  try simp only [Act.put, List.setIfInBounds_toArray, List.set_cons_zero, List.set_cons_succ, List.getElem_toArray, List.getElem_cons_zero, List.getElem_cons_succ]
  refine wpAnyH_take (i := 24) (v := ?_) rfl (by kernel_rfl) (by kernel_rfl) (by kernel_rfl) (fun _ _ _ h => h) (Or.inl ⟨by rfl, ?_⟩) (by assumption) ?_
  rotate_left
  · (intro w hSw; (try dsimp only at hSw); go_simp; try rfl)
  try simp only [Act.put, List.setIfInBounds_toArray, List.set_cons_zero, List.set_cons_succ, List.getElem_toArray, List.getElem_cons_zero, List.getElem_cons_succ]
  refine wpAnyH_take (i := 25) (v := ?_) rfl (by kernel_rfl) (by kernel_rfl) (by kernel_rfl) (fun _ _ _ h => h) (Or.inl ⟨by rfl, ?_⟩) (by assumption) ?_
  rotate_left
  · (intro w hSw; (try dsimp only at hSw); go_simp; try rfl)
  try simp only [Act.put, List.setIfInBounds_toArray, List.set_cons_zero, List.set_cons_succ, List.getElem_toArray, List.getElem_cons_zero, List.getElem_cons_succ]
  refine wpAnyH_take (i := 26) (v := ?_) rfl (by kernel_rfl) (by kernel_rfl) (by kernel_rfl) (fun _ _ _ h => h) (Or.inl ⟨by rfl, ?_⟩) (by assumption) ?_
  rotate_left
  · (intro w hSw; (try dsimp only at hSw); go_simp; try rfl)
  try simp only [Act.put, List.setIfInBounds_toArray, List.set_cons_zero, List.set_cons_succ, List.getElem_toArray, List.getElem_cons_zero, List.getElem_cons_succ]
  refine wpAnyH_take (i := 27) (v := ?_) rfl (by kernel_rfl) (by kernel_rfl) (by kernel_rfl) (fun _ _ _ h => h) (Or.inl ⟨by rfl, ?_⟩) (by assumption) ?_
  rotate_left
  · (intro w hSw; (try dsimp only at hSw); go_simp; try rfl)
  try simp only [Act.put, List.setIfInBounds_toArray, List.set_cons_zero, List.set_cons_succ, List.getElem_toArray, List.getElem_cons_zero, List.getElem_cons_succ]
  refine wpAnyH_done (by kernel_rfl) ?_ _
  go_split_ands
  have hbY : Below X.heap.size X w5 := by assumption
  have Bw5 := Lib.hid (BX.out.trans (hbY.mono BX.out.size))
  have TY := Lib.hid hbY
  clear hbY
  go_wp2_with fail
  refine (union_any _ _ (lesI a b) b w5 (HDD.out.below TY.out) (okL_les OA.out) (by have := len_lesI a b; have := NA.out; omega) (RB.out.below Bw5.out) OB.out (by have := NB.out; omega)).mono ?_
  rintro e w21 ⟨v7, he, ho, hb⟩
  rw [he.out]
  have Rv7 := Lib.hid ho.rd
  have Bw21 := Lib.hid (Bw5.out.trans (hb.mono Bw5.out.size))
  have Tw21 := Lib.hid hb
  clear he ho hb
  go_wp2_with fail
  have hc := same_any v7 v1 (uniI (lesI a b) b) (uniI a b) w21 Rv7.out (okL_uni (okL_les OA.out) OB.out) (by have := len_uniI (lesI a b) b; have := len_lesI a b; have := NA.out; have := NB.out; omega) ((HU.out.below TY.out).below Tw21.out) (okL_uni OA.out OB.out) (by have := len_uniI a b; have := NA.out; have := NB.out; omega)
  rw [uni4] at hc
  refine hc.mono ?_
  clear hc
  rintro e w22 ⟨rfl, hb⟩
  have Bw22 := Lib.hid (Bw21.out.trans (hb.mono Bw21.out.size))
  have Tw22 := Lib.hid hb
  clear hb
  go_wp2_with fail
  refine (clean_any _ a w22 (RA.out.below Bw22.out) OA.out (by have := NA.out; omega)).mono ?_
  rintro e w23 ⟨v8, he, ho, hb⟩
  rw [he.out]
  have Rv8 := Lib.hid ho.rd
  have Bw23 := Lib.hid (Bw22.out.trans (hb.mono Bw22.out.size))
  have Tw23 := Lib.hid hb
  clear he ho hb
  go_wp2_with fail
  have hc := same_any v8 _ (clnI a) a w23 Rv8.out (fun x hx => OA.out x ((mem_clnI a x).1 hx)) (by have := len_clnI a; have := NA.out; omega) (RA.out.below Bw23.out) OA.out (by have := NA.out; omega)
  rw [uni5] at hc
  refine hc.mono ?_
  clear hc
  rintro e w24 ⟨rfl, hb⟩
  have Bw24 := Lib.hid (Bw23.out.trans (hb.mono Bw23.out.size))
  have Tw24 := Lib.hid hb
  clear hb
  go_wp2
  go_ret
  exact ⟨rfl, HB0.out.trans (Bw24.out.mono (Nat.le_of_lt hl0))⟩
set_option maxRecDepth 100000 in
set_option maxHeartbeats 8000000 in
theorem uni_ft (va vb vc : Value) (a b c : List I3) (x1 x2 x3 : Int) (w : World) (ha : IK.Rd w va a) (hb : IK.Rd w vb b) (hc : IK.Rd w vc c) (oa : okL a) (ob : okL b) (oc : okL c) (ht : TB w) (hA : hasI a (x1, x2, x3) = false) (hB : hasI b (x1, x2, x3) = true) (ca : a.length ≤ 60) (cb : b.length ≤ 60) (cc : c.length ≤ 60) :
    Calls Tryd.prog 5 #[va, vb, vc, .agg #[.int .i64 x1, .int .i64 x2, .int .i64 x3]] w fun e w' => e = .returned (.bool true) ∧ Below w.heap.size w w' := by
  have hB0 : Below w.heap.size w (w.alloc (.cells #[.int .i64 x1, .int .i64 x2, .int .i64 x3] 23)) := (Below.refl _ _).alloc (Nat.le_refl _) _
  have RA := Lib.hid (ha.below hB0)
  have RB := Lib.hid (hb.below hB0)
  have RC := Lib.hid (hc.below hB0)
  obtain ⟨pa, ka, e⟩ := ha.slice
  subst e
  obtain ⟨pb, kb, e⟩ := hb.slice
  subst e
  obtain ⟨pc, kc, e⟩ := hc.slice
  subst e
  obtain ⟨N, hN⟩ : ∃ N, a.length = N := ⟨_, rfl⟩
  obtain ⟨M, hM⟩ : ∃ N, b.length = N := ⟨_, rfl⟩
  obtain ⟨L, hL⟩ : ∃ N, c.length = N := ⟨_, rfl⟩
  rw [hN] at RA ⊢
  rw [hM] at RB ⊢
  rw [hL] at RC ⊢
  have hz3 : (w.alloc (.cells #[.int .i64 x1, .int .i64 x2, .int .i64 x3] 23)).heap.size = w.heap.size + 1 := by simp
  have d0 : (w.alloc (.cells #[.int .i64 x1, .int .i64 x2, .int .i64 x3] 23)).cell? ⟨w.heap.size, 0, none⟩ = some (.int .i64 x1) := new_cell w _ _ 0
  have d1 : (w.alloc (.cells #[.int .i64 x1, .int .i64 x2, .int .i64 x3] 23)).cell? ⟨w.heap.size, 1, none⟩ = some (.int .i64 x2) := new_cell w _ _ 1
  have d2 : (w.alloc (.cells #[.int .i64 x1, .int .i64 x2, .int .i64 x3] 23)).cell? ⟨w.heap.size, 2, none⟩ = some (.int .i64 x3) := new_cell w _ _ 2
  have OA := Lib.hid oa
  have OB := Lib.hid ob
  have OC := Lib.hid oc
  have NA := Lib.hid ca
  have NB := Lib.hid cb
  have NC := Lib.hid cc
  have HT := Lib.hid (ht.below hB0)
  have HB0 := Lib.hid hB0
  have hA1 : ¬ (60 : Int) < (N : Int) := by omega
  have hA2 : decide (60 < N) = false := decide_eq_false (by omega)
  have hB1 : ¬ (60 : Int) < (M : Int) := by omega
  have hB2 : decide (60 < M) = false := decide_eq_false (by omega)
  have hC1 : ¬ (60 : Int) < (L : Int) := by omega
  have hC2 : decide (60 < L) = false := decide_eq_false (by omega)
  have HA := Lib.hid hA
  have HBB := Lib.hid hB
  clear ha hb hc oa ob oc ht hA hB ca cb cc hN hM hL hB0
  go_enter Tryd.func5, Tryd.ntmps5
  go_wp2_with fail
  generalize (w.alloc (.cells #[.int .i64 x1, .int .i64 x2, .int .i64 x3] 23)) = X0 at *
  have hl0 : w.heap.size < X0.heap.size := by omega
  clear hz3
  refine (works_any X0 HT.out).mono ?_
  rintro e w1 ⟨rfl, hb⟩
  have Bw1 := Lib.hid hb
  clear hb
  go_wp2_with fail
  refine (union_any _ _ a b w1 (RA.out.below Bw1.out) OA.out (by have := NA.out; omega) (RB.out.below Bw1.out) OB.out (by have := NB.out; omega)).mono ?_
  rintro e w2 ⟨v1, he, ho, hb⟩
  rw [he.out]
  have Rv1 := Lib.hid ho.rd
  have Bw2 := Lib.hid (Bw1.out.trans (hb.mono Bw1.out.size))
  have Tw2 := Lib.hid hb
  clear he ho hb
  go_wp2_with fail
  refine (less2_any _ _ a b w2 (RA.out.below Bw2.out) OA.out (by have := NA.out; omega) (RB.out.below Bw2.out) OB.out (by have := NB.out; omega)).mono ?_
  rintro e w3 ⟨v2, he, ho, hb⟩
  rw [he.out]
  have Rv2 := Lib.hid ho.rd
  have Bw3 := Lib.hid (Bw2.out.trans (hb.mono Bw2.out.size))
  have Tw3 := Lib.hid hb
  clear he ho hb
  go_wp2_with fail
  refine (union_any _ _ b a w3 (RB.out.below Bw3.out) OB.out (by have := NB.out; omega) (RA.out.below Bw3.out) OA.out (by have := NA.out; omega)).mono ?_
  rintro e w4 ⟨v3, he, ho, hb⟩
  rw [he.out]
  have Rv3 := Lib.hid ho.rd
  have Bw4 := Lib.hid (Bw3.out.trans (hb.mono Bw3.out.size))
  have Tw4 := Lib.hid hb
  clear he ho hb
  go_wp2_with fail
  have hc := same_any v1 v3 (uniI a b) (uniI b a) w4 ((Rv1.out.below Tw3.out).below Tw4.out) (okL_uni OA.out OB.out) (by have := len_uniI a b; have := NA.out; have := NB.out; omega) Rv3.out (okL_uni OB.out OA.out) (by have := len_uniI b a; have := NA.out; have := NB.out; omega)
  rw [uni1] at hc
  refine hc.mono ?_
  clear hc
  rintro e w5 ⟨rfl, hb⟩
  have Bw5 := Lib.hid (Bw4.out.trans (hb.mono Bw4.out.size))
  have Tw5 := Lib.hid hb
  clear hb
  go_wp2_with fail
  refine (union_any _ _ (uniI a b) c w5 (((Rv1.out.below Tw3.out).below Tw4.out).below Tw5.out) (okL_uni OA.out OB.out) (by have := len_uniI a b; have := NA.out; have := NB.out; omega) (RC.out.below Bw5.out) OC.out (by have := NC.out; omega)).mono ?_
  rintro e w6 ⟨v4, he, ho, hb⟩
  rw [he.out]
  have Rv4 := Lib.hid ho.rd
  have Bw6 := Lib.hid (Bw5.out.trans (hb.mono Bw5.out.size))
  have Tw6 := Lib.hid hb
  clear he ho hb
  go_wp2_with fail
  refine (union_any _ _ b c w6 (RB.out.below Bw6.out) OB.out (by have := NB.out; omega) (RC.out.below Bw6.out) OC.out (by have := NC.out; omega)).mono ?_
  rintro e w7 ⟨v5, he, ho, hb⟩
  rw [he.out]
  have Rv5 := Lib.hid ho.rd
  have Bw7 := Lib.hid (Bw6.out.trans (hb.mono Bw6.out.size))
  have Tw7 := Lib.hid hb
  clear he ho hb
  go_wp2_with fail
  refine (union_any _ _ a (uniI b c) w7 (RA.out.below Bw7.out) OA.out (by have := NA.out; omega) Rv5.out (okL_uni OB.out OC.out) (by have := len_uniI b c; have := NB.out; have := NC.out; omega)).mono ?_
  rintro e w8 ⟨v6, he, ho, hb⟩
  rw [he.out]
  have Rv6 := Lib.hid ho.rd
  have Bw8 := Lib.hid (Bw7.out.trans (hb.mono Bw7.out.size))
  have Tw8 := Lib.hid hb
  clear he ho hb
  go_wp2_with fail
  have hc := same_any v4 v6 (uniI (uniI a b) c) (uniI a (uniI b c)) w8 ((Rv4.out.below Tw7.out).below Tw8.out) (okL_uni (okL_uni OA.out OB.out) OC.out) (by have := len_uniI (uniI a b) c; have := len_uniI a b; have := NA.out; have := NB.out; have := NC.out; omega) Rv6.out (okL_uni OA.out (okL_uni OB.out OC.out)) (by have := len_uniI a (uniI b c); have := len_uniI b c; have := NA.out; have := NB.out; have := NC.out; omega)
  rw [uni2] at hc
  refine hc.mono ?_
  clear hc
  rintro e w9 ⟨rfl, hb⟩
  have Bw9 := Lib.hid (Bw8.out.trans (hb.mono Bw8.out.size))
  have Tw9 := Lib.hid hb
  clear hb
  go_wp2_with fail
  have hc := right_any v1 (uniI a b) w9 (((((((Rv1.out.below Tw3.out).below Tw4.out).below Tw5.out).below Tw6.out).below Tw7.out).below Tw8.out).below Tw9.out) (by have := len_uniI a b; have := NA.out; have := NB.out; omega)
  rw [show rgtI (uniI a b) = true from uni3 _] at hc
  refine hc.mono ?_
  clear hc
  rintro e w10 ⟨rfl, hb⟩
  have Bw10 := Lib.hid (Bw9.out.trans (hb.mono Bw9.out.size))
  have Tw10 := Lib.hid hb
  clear hb
  go_wp2_with fail
  have hc := right_any v2 (lesI a b) w10 (((((((Rv2.out.below Tw4.out).below Tw5.out).below Tw6.out).below Tw7.out).below Tw8.out).below Tw9.out).below Tw10.out) (by have := len_lesI a b; have := NA.out; omega)
  rw [show rgtI (lesI a b) = true from uni3 _] at hc
  refine hc.mono ?_
  clear hc
  rintro e X ⟨rfl, hb⟩
  have BX := Lib.hid (Bw10.out.trans (hb.mono Bw10.out.size))
  have TX := Lib.hid hb
  clear hb
  have hsx := BX.out.size
  have hX0 : w.heap.size < X.heap.size := by omega
  replace d0 := (BX.out.cell (p := ⟨w.heap.size, 0, none⟩) hl0).trans d0
  replace d1 := (BX.out.cell (p := ⟨w.heap.size, 1, none⟩) hl0).trans d1
  replace d2 := (BX.out.cell (p := ⟨w.heap.size, 2, none⟩) hl0).trans d2
  have HC : Hid (∀ w' : World, Below X.heap.size X w' → (w'.cell? ⟨w.heap.size, 0, none⟩ = some (.int .i64 x1) ∧ w'.cell? ⟨w.heap.size, 1, none⟩ = some (.int .i64 x2) ∧ w'.cell? ⟨w.heap.size, 2, none⟩ = some (.int .i64 x3) ∧ Below X.heap.size X w')) := Lib.hid (fun w' hb => ⟨(hb.cell (p := ⟨w.heap.size, 0, none⟩) hX0).trans d0, (hb.cell (p := ⟨w.heap.size, 1, none⟩) hX0).trans d1, (hb.cell (p := ⟨w.heap.size, 2, none⟩) hX0).trans d2, hb⟩)
  have HU := Lib.hid (((((((((Rv1.out.below Tw3.out).below Tw4.out).below Tw5.out).below Tw6.out).below Tw7.out).below Tw8.out).below Tw9.out).below Tw10.out).below TX.out)
  have HDD := Lib.hid ((((((((Rv2.out.below Tw4.out).below Tw5.out).below Tw6.out).below Tw7.out).below Tw8.out).below Tw9.out).below Tw10.out).below TX.out)
  have C1 : Hid (∀ W : World, Below X.heap.size X W → Calls Tryd.prog 17 #[v1, .agg #[.int .i64 x1, .int .i64 x2, .int .i64 x3]] W fun e w' => e = .returned (.bool true) ∧ Below W.heap.size W w') := Lib.hid (fun W hW => by have h := has_any (v1) (uniI a b) x1 x2 x3 W (HU.out.below hW) (by have := len_uniI a b; have := NA.out; have := NB.out; omega); rw [uni6, HA.out, HBB.out, show (false || true) = true from rfl] at h; exact h)
  have C2 : Hid (∀ W : World, Below X.heap.size X W → Calls Tryd.prog 17 #[.slice pa N ka, .agg #[.int .i64 x1, .int .i64 x2, .int .i64 x3]] W fun e w' => e = .returned (.bool false) ∧ Below W.heap.size W w') := Lib.hid (fun W hW => by have h := has_any (.slice pa N ka) (a) x1 x2 x3 W ((RA.out.below BX.out).below hW) (by have := NA.out; omega); rw [HA.out] at h; exact h)
  have C3 : Hid (∀ W : World, Below X.heap.size X W → Calls Tryd.prog 17 #[.slice pb M kb, .agg #[.int .i64 x1, .int .i64 x2, .int .i64 x3]] W fun e w' => e = .returned (.bool true) ∧ Below W.heap.size W w') := Lib.hid (fun W hW => by have h := has_any (.slice pb M kb) (b) x1 x2 x3 W ((RB.out.below BX.out).below hW) (by have := NB.out; omega); rw [HBB.out] at h; exact h)
  have C4 : Hid (∀ W : World, Below X.heap.size X W → Calls Tryd.prog 17 #[v2, .agg #[.int .i64 x1, .int .i64 x2, .int .i64 x3]] W fun e w' => e = .returned (.bool false) ∧ Below W.heap.size W w') := Lib.hid (fun W hW => by have h := has_any (v2) (lesI a b) x1 x2 x3 W (HDD.out.below hW) (by have := len_lesI a b; have := NA.out; omega); rw [uni7, HA.out, HBB.out, show (false && !true) = false from rfl] at h; exact h)
  have BX0 := Lib.hid (HB0.out.trans (BX.out.mono (Nat.le_of_lt hl0)))
  clear d0 d1 d2 hsx
  go_wp2_with fail
  refine wp_region_held_drew (S := (fun w' => w'.cell? ⟨w.heap.size, 0, none⟩ = some (.int .i64 x1) ∧ w'.cell? ⟨w.heap.size, 1, none⟩ = some (.int .i64 x2) ∧ w'.cell? ⟨w.heap.size, 2, none⟩ = some (.int .i64 x3) ∧ Below X.heap.size X w')) (by kernel_rfl) ?_ (fun hHeld => ?_)
  · ((first
      | exact HC.out _ (Below.refl _ _)
      | exact HC.out _ (Below.refl _ _).drew
      | (go_split_ands; exact HC.out _ (below_self (by assumption) (by assumption)))
      | (go_split_ands; exact HC.out _ (Below.drew (by assumption)))
      | (go_split_ands; exact HC.out _ (by assumption))))
  refine wpAnyH_take (i := 0) (v := ?_) rfl (by kernel_rfl) (by kernel_rfl) (by kernel_rfl) (fun _ _ _ h => h) (Or.inl ⟨by rfl, ?_⟩) (by assumption) ?_
  rotate_left
  · (intro w hSw; (try dsimp only at hSw); go_simp; try rfl)
  try simp only [Act.put, List.setIfInBounds_toArray, List.set_cons_zero, List.set_cons_succ, List.getElem_toArray, List.getElem_cons_zero, List.getElem_cons_succ]
  refine wpAnyH_take (i := 1) (v := ?_) rfl (by kernel_rfl) (by kernel_rfl) (by kernel_rfl) (fun _ _ _ h => h) (Or.inl ⟨by rfl, ?_⟩) (by assumption) ?_
  rotate_left
  · (intro w hSw; (try dsimp only at hSw); go_simp; try rfl)
  try simp only [Act.put, List.setIfInBounds_toArray, List.set_cons_zero, List.set_cons_succ, List.getElem_toArray, List.getElem_cons_zero, List.getElem_cons_succ]
  refine wpAnyH_take (i := 3) (v := ?_) rfl (by kernel_rfl) (by kernel_rfl) (by kernel_rfl) (fun _ _ _ h => h) (Or.inl ⟨by rfl, ?_⟩) (by assumption) ?_
  rotate_left
  · (intro w hSw; (try dsimp only at hSw); go_simp; try rfl)
  try simp only [Act.put, List.setIfInBounds_toArray, List.set_cons_zero, List.set_cons_succ, List.getElem_toArray, List.getElem_cons_zero, List.getElem_cons_succ]
  refine wpAnyH_take (i := 4) (v := ?_) rfl (by kernel_rfl) (by kernel_rfl) (by kernel_rfl) (fun _ _ _ h => h) (Or.inl ⟨by rfl, ?_⟩) (by assumption) ?_
  rotate_left
  · (intro w hSw; (try dsimp only at hSw); go_simp; try rfl)
  try simp only [Act.put, List.setIfInBounds_toArray, List.set_cons_zero, List.set_cons_succ, List.getElem_toArray, List.getElem_cons_zero, List.getElem_cons_succ]
  refine wpAnyH_ready (rs := [2]) (by kernel_rfl) (by simp) ?_
  refine (AllReadyH.cons rfl (fun K hK => ?_) AllReadyH.nil)
  go_simp
  (go_at_call 17; go_split_ands; refine (C1.out _ (by assumption)).mono ?_; rintro e w5 ⟨rfl, hbw5⟩)
  refine hK.out _ _ ?_ (fun hHeld => ?_)
  · ((first
      | exact HC.out _ (Below.refl _ _)
      | exact HC.out _ (Below.refl _ _).drew
      | (go_split_ands; exact HC.out _ (below_self (by assumption) (by assumption)))
      | (go_split_ands; exact HC.out _ (Below.drew (by assumption)))
      | (go_split_ands; exact HC.out _ (by assumption))))
  clear hK K
  try simp only [Act.put, List.setIfInBounds_toArray, List.set_cons_zero, List.set_cons_succ, List.getElem_toArray, List.getElem_cons_zero, List.getElem_cons_succ]
  refine wpAnyH_ready (rs := [5]) (by kernel_rfl) (by simp) ?_
  refine (AllReadyH.cons rfl (fun K hK => ?_) AllReadyH.nil)
  go_simp
  (go_at_call 17; go_split_ands; refine (C2.out _ (by assumption)).mono ?_; rintro e w5 ⟨rfl, hbw5⟩)
  refine hK.out _ _ ?_ (fun hHeld => ?_)
  · ((first
      | exact HC.out _ (Below.refl _ _)
      | exact HC.out _ (Below.refl _ _).drew
      | (go_split_ands; exact HC.out _ (below_self (by assumption) (by assumption)))
      | (go_split_ands; exact HC.out _ (Below.drew (by assumption)))
      | (go_split_ands; exact HC.out _ (by assumption))))
  clear hK K
  try simp only [Act.put, List.setIfInBounds_toArray, List.set_cons_zero, List.set_cons_succ, List.getElem_toArray, List.getElem_cons_zero, List.getElem_cons_succ]
  refine wpAnyH_take (i := 6) (v := ?_) rfl (by kernel_rfl) (by kernel_rfl) (by kernel_rfl) (fun _ _ _ h => h) (Or.inl ⟨by rfl, ?_⟩) (by assumption) ?_
  rotate_left
  · (intro w hSw; (try dsimp only at hSw); go_simp; try rfl)
  try simp only [Act.put, List.setIfInBounds_toArray, List.set_cons_zero, List.set_cons_succ, List.getElem_toArray, List.getElem_cons_zero, List.getElem_cons_succ]
  refine wpAnyH_take (i := 7) (v := ?_) rfl (by kernel_rfl) (by kernel_rfl) (by kernel_rfl) (fun _ _ _ h => h) (Or.inl ⟨by rfl, ?_⟩) (by assumption) ?_
  rotate_left
  · (intro w hSw; (try dsimp only at hSw); go_simp; try rfl)
  try simp only [Act.put, List.setIfInBounds_toArray, List.set_cons_zero, List.set_cons_succ, List.getElem_toArray, List.getElem_cons_zero, List.getElem_cons_succ]
  refine wpAnyH_take (i := 8) (v := ?_) rfl (by kernel_rfl) (by kernel_rfl) (by kernel_rfl) (fun _ _ _ h => h) (Or.inl ⟨by rfl, ?_⟩) (by assumption) ?_
  rotate_left
  · (intro w hSw; (try dsimp only at hSw); go_simp; try rfl)
  try simp only [Act.put, List.setIfInBounds_toArray, List.set_cons_zero, List.set_cons_succ, List.getElem_toArray, List.getElem_cons_zero, List.getElem_cons_succ]
  refine wpAnyH_ready (rs := [9]) (by kernel_rfl) (by simp) ?_
  refine (AllReadyH.cons rfl (fun K hK => ?_) AllReadyH.nil)
  go_simp
  (go_at_call 17; go_split_ands; refine (C3.out _ (by assumption)).mono ?_; rintro e w5 ⟨rfl, hbw5⟩)
  refine hK.out _ _ ?_ (fun hHeld => ?_)
  · ((first
      | exact HC.out _ (Below.refl _ _)
      | exact HC.out _ (Below.refl _ _).drew
      | (go_split_ands; exact HC.out _ (below_self (by assumption) (by assumption)))
      | (go_split_ands; exact HC.out _ (Below.drew (by assumption)))
      | (go_split_ands; exact HC.out _ (by assumption))))
  clear hK K
  try simp only [Act.put, List.setIfInBounds_toArray, List.set_cons_zero, List.set_cons_succ, List.getElem_toArray, List.getElem_cons_zero, List.getElem_cons_succ]
  refine wpAnyH_take (i := 10) (v := ?_) rfl (by kernel_rfl) (by kernel_rfl) (by kernel_rfl) (fun _ _ _ h => h) (Or.inl ⟨by rfl, ?_⟩) (by assumption) ?_
  rotate_left
  · (intro w hSw; (try dsimp only at hSw); go_simp; try rfl)
  try simp only [Act.put, List.setIfInBounds_toArray, List.set_cons_zero, List.set_cons_succ, List.getElem_toArray, List.getElem_cons_zero, List.getElem_cons_succ]
  refine wpAnyH_take (i := 11) (v := ?_) rfl (by kernel_rfl) (by kernel_rfl) (by kernel_rfl) (fun _ _ _ h => h) (Or.inl ⟨by rfl, ?_⟩) (by assumption) ?_
  rotate_left
  · (intro w hSw; (try dsimp only at hSw); go_simp; try rfl)
  try simp only [Act.put, List.setIfInBounds_toArray, List.set_cons_zero, List.set_cons_succ, List.getElem_toArray, List.getElem_cons_zero, List.getElem_cons_succ]
  refine wpAnyH_take (i := 12) (v := ?_) rfl (by kernel_rfl) (by kernel_rfl) (by kernel_rfl) (fun _ _ _ h => h) (Or.inl ⟨by rfl, ?_⟩) (by assumption) ?_
  rotate_left
  · (intro w hSw; (try dsimp only at hSw); go_simp; try rfl)
  try simp only [Act.put, List.setIfInBounds_toArray, List.set_cons_zero, List.set_cons_succ, List.getElem_toArray, List.getElem_cons_zero, List.getElem_cons_succ]
  refine wpAnyH_take (i := 13) (v := ?_) rfl (by kernel_rfl) (by kernel_rfl) (by kernel_rfl) (fun _ _ _ h => h) (Or.inl ⟨by rfl, ?_⟩) (by assumption) ?_
  rotate_left
  · (intro w hSw; (try dsimp only at hSw); go_simp; try rfl)
  try simp only [Act.put, List.setIfInBounds_toArray, List.set_cons_zero, List.set_cons_succ, List.getElem_toArray, List.getElem_cons_zero, List.getElem_cons_succ]
  refine wpAnyH_take (i := 14) (v := ?_) rfl (by kernel_rfl) (by kernel_rfl) (by kernel_rfl) (fun _ _ _ h => h) (Or.inl ⟨by rfl, ?_⟩) (by assumption) ?_
  rotate_left
  · (intro w hSw; (try dsimp only at hSw); go_simp; try rfl)
  try simp only [Act.put, List.setIfInBounds_toArray, List.set_cons_zero, List.set_cons_succ, List.getElem_toArray, List.getElem_cons_zero, List.getElem_cons_succ]
  refine wpAnyH_take (i := 16) (v := ?_) rfl (by kernel_rfl) (by kernel_rfl) (by kernel_rfl) (fun _ _ _ h => h) (Or.inl ⟨by rfl, ?_⟩) (by assumption) ?_
  rotate_left
  · (intro w hSw; (try dsimp only at hSw); go_simp; try rfl)
  try simp only [Act.put, List.setIfInBounds_toArray, List.set_cons_zero, List.set_cons_succ, List.getElem_toArray, List.getElem_cons_zero, List.getElem_cons_succ]
  refine wpAnyH_take (i := 17) (v := ?_) rfl (by kernel_rfl) (by kernel_rfl) (by kernel_rfl) (fun _ _ _ h => h) (Or.inl ⟨by rfl, ?_⟩) (by assumption) ?_
  rotate_left
  · (intro w hSw; (try dsimp only at hSw); go_simp; try rfl)
  try simp only [Act.put, List.setIfInBounds_toArray, List.set_cons_zero, List.set_cons_succ, List.getElem_toArray, List.getElem_cons_zero, List.getElem_cons_succ]
  refine wpAnyH_ready (rs := [15]) (by kernel_rfl) (by simp) ?_
  refine (AllReadyH.cons rfl (fun K hK => ?_) AllReadyH.nil)
  go_simp
  (go_at_call 17; go_split_ands; refine (C4.out _ (by assumption)).mono ?_; rintro e w5 ⟨rfl, hbw5⟩)
  refine hK.out _ _ ?_ (fun hHeld => ?_)
  · ((first
      | exact HC.out _ (Below.refl _ _)
      | exact HC.out _ (Below.refl _ _).drew
      | (go_split_ands; exact HC.out _ (below_self (by assumption) (by assumption)))
      | (go_split_ands; exact HC.out _ (Below.drew (by assumption)))
      | (go_split_ands; exact HC.out _ (by assumption))))
  clear hK K
  try simp only [Act.put, List.setIfInBounds_toArray, List.set_cons_zero, List.set_cons_succ, List.getElem_toArray, List.getElem_cons_zero, List.getElem_cons_succ]
  refine wpAnyH_ready (rs := [18]) (by kernel_rfl) (by simp) ?_
  refine (AllReadyH.cons rfl (fun K hK => ?_) AllReadyH.nil)
  go_simp
  (go_at_call 17; go_split_ands; refine (C2.out _ (by assumption)).mono ?_; rintro e w5 ⟨rfl, hbw5⟩)
  refine hK.out _ _ ?_ (fun hHeld => ?_)
  · ((first
      | exact HC.out _ (Below.refl _ _)
      | exact HC.out _ (Below.refl _ _).drew
      | (go_split_ands; exact HC.out _ (below_self (by assumption) (by assumption)))
      | (go_split_ands; exact HC.out _ (Below.drew (by assumption)))
      | (go_split_ands; exact HC.out _ (by assumption))))
  clear hK K
  try simp only [Act.put, List.setIfInBounds_toArray, List.set_cons_zero, List.set_cons_succ, List.getElem_toArray, List.getElem_cons_zero, List.getElem_cons_succ]
  refine wpAnyH_take (i := 19) (v := ?_) rfl (by kernel_rfl) (by kernel_rfl) (by kernel_rfl) (fun _ _ _ h => h) (Or.inl ⟨by rfl, ?_⟩) (by assumption) ?_
  rotate_left
  · (intro w hSw; (try dsimp only at hSw); go_simp; try rfl)
  try simp only [Act.put, List.setIfInBounds_toArray, List.set_cons_zero, List.set_cons_succ, List.getElem_toArray, List.getElem_cons_zero, List.getElem_cons_succ]
  refine wpAnyH_take (i := 20) (v := undef) rfl (by kernel_rfl) (by kernel_rfl) (by kernel_rfl) (fun _ _ _ h => h) (Or.inr ⟨by rfl, rfl⟩) (by assumption) ?_
  try simp only [Act.put, List.setIfInBounds_toArray, List.set_cons_zero, List.set_cons_succ, List.getElem_toArray, List.getElem_cons_zero, List.getElem_cons_succ]
  refine wpAnyH_take (i := 21) (v := undef) rfl (by kernel_rfl) (by kernel_rfl) (by kernel_rfl) (fun _ _ _ h => h) (Or.inr ⟨by rfl, rfl⟩) (by assumption) ?_
  try simp only [Act.put, List.setIfInBounds_toArray, List.set_cons_zero, List.set_cons_succ, List.getElem_toArray, List.getElem_cons_zero, List.getElem_cons_succ]
  refine wpAnyH_take (i := 22) (v := undef) rfl (by kernel_rfl) (by kernel_rfl) (by kernel_rfl) (fun _ _ _ h => h) (Or.inr ⟨by rfl, rfl⟩) (by assumption) ?_
  try simp only [Act.put, List.setIfInBounds_toArray, List.set_cons_zero, List.set_cons_succ, List.getElem_toArray, List.getElem_cons_zero, List.getElem_cons_succ]
  refine wpAnyH_take (i := 23) (v := undef) rfl (by kernel_rfl) (by kernel_rfl) (by kernel_rfl) (fun _ _ _ h => h) (Or.inr ⟨by rfl, rfl⟩) (by assumption) ?_
  try simp only [Act.put, List.setIfInBounds_toArray, List.set_cons_zero, List.set_cons_succ, List.getElem_toArray, List.getElem_cons_zero, List.getElem_cons_succ]
  refine wpAnyH_take (i := 24) (v := ?_) rfl (by kernel_rfl) (by kernel_rfl) (by kernel_rfl) (fun _ _ _ h => h) (Or.inl ⟨by rfl, ?_⟩) (by assumption) ?_
  rotate_left
  · (intro w hSw; (try dsimp only at hSw); go_simp; try rfl)
  try simp only [Act.put, List.setIfInBounds_toArray, List.set_cons_zero, List.set_cons_succ, List.getElem_toArray, List.getElem_cons_zero, List.getElem_cons_succ]
  refine wpAnyH_take (i := 25) (v := ?_) rfl (by kernel_rfl) (by kernel_rfl) (by kernel_rfl) (fun _ _ _ h => h) (Or.inl ⟨by rfl, ?_⟩) (by assumption) ?_
  rotate_left
  · (intro w hSw; (try dsimp only at hSw); go_simp; try rfl)
  try simp only [Act.put, List.setIfInBounds_toArray, List.set_cons_zero, List.set_cons_succ, List.getElem_toArray, List.getElem_cons_zero, List.getElem_cons_succ]
  refine wpAnyH_take (i := 26) (v := ?_) rfl (by kernel_rfl) (by kernel_rfl) (by kernel_rfl) (fun _ _ _ h => h) (Or.inl ⟨by rfl, ?_⟩) (by assumption) ?_
  rotate_left
  · (intro w hSw; (try dsimp only at hSw); go_simp; try rfl)
  try simp only [Act.put, List.setIfInBounds_toArray, List.set_cons_zero, List.set_cons_succ, List.getElem_toArray, List.getElem_cons_zero, List.getElem_cons_succ]
  refine wpAnyH_take (i := 27) (v := ?_) rfl (by kernel_rfl) (by kernel_rfl) (by kernel_rfl) (fun _ _ _ h => h) (Or.inl ⟨by rfl, ?_⟩) (by assumption) ?_
  rotate_left
  · (intro w hSw; (try dsimp only at hSw); go_simp; try rfl)
  try simp only [Act.put, List.setIfInBounds_toArray, List.set_cons_zero, List.set_cons_succ, List.getElem_toArray, List.getElem_cons_zero, List.getElem_cons_succ]
  refine wpAnyH_done (by kernel_rfl) ?_ _
  go_split_ands
  have hbY : Below X.heap.size X w5 := by assumption
  have Bw5 := Lib.hid (BX.out.trans (hbY.mono BX.out.size))
  have TY := Lib.hid hbY
  clear hbY
  go_wp2_with fail
  refine (union_any _ _ (lesI a b) b w5 (HDD.out.below TY.out) (okL_les OA.out) (by have := len_lesI a b; have := NA.out; omega) (RB.out.below Bw5.out) OB.out (by have := NB.out; omega)).mono ?_
  rintro e w21 ⟨v7, he, ho, hb⟩
  rw [he.out]
  have Rv7 := Lib.hid ho.rd
  have Bw21 := Lib.hid (Bw5.out.trans (hb.mono Bw5.out.size))
  have Tw21 := Lib.hid hb
  clear he ho hb
  go_wp2_with fail
  have hc := same_any v7 v1 (uniI (lesI a b) b) (uniI a b) w21 Rv7.out (okL_uni (okL_les OA.out) OB.out) (by have := len_uniI (lesI a b) b; have := len_lesI a b; have := NA.out; have := NB.out; omega) ((HU.out.below TY.out).below Tw21.out) (okL_uni OA.out OB.out) (by have := len_uniI a b; have := NA.out; have := NB.out; omega)
  rw [uni4] at hc
  refine hc.mono ?_
  clear hc
  rintro e w22 ⟨rfl, hb⟩
  have Bw22 := Lib.hid (Bw21.out.trans (hb.mono Bw21.out.size))
  have Tw22 := Lib.hid hb
  clear hb
  go_wp2_with fail
  refine (clean_any _ a w22 (RA.out.below Bw22.out) OA.out (by have := NA.out; omega)).mono ?_
  rintro e w23 ⟨v8, he, ho, hb⟩
  rw [he.out]
  have Rv8 := Lib.hid ho.rd
  have Bw23 := Lib.hid (Bw22.out.trans (hb.mono Bw22.out.size))
  have Tw23 := Lib.hid hb
  clear he ho hb
  go_wp2_with fail
  have hc := same_any v8 _ (clnI a) a w23 Rv8.out (fun x hx => OA.out x ((mem_clnI a x).1 hx)) (by have := len_clnI a; have := NA.out; omega) (RA.out.below Bw23.out) OA.out (by have := NA.out; omega)
  rw [uni5] at hc
  refine hc.mono ?_
  clear hc
  rintro e w24 ⟨rfl, hb⟩
  have Bw24 := Lib.hid (Bw23.out.trans (hb.mono Bw23.out.size))
  have Tw24 := Lib.hid hb
  clear hb
  go_wp2
  go_ret
  exact ⟨rfl, HB0.out.trans (Bw24.out.mono (Nat.le_of_lt hl0))⟩
set_option maxRecDepth 100000 in
set_option maxHeartbeats 8000000 in
theorem uni_ff (va vb vc : Value) (a b c : List I3) (x1 x2 x3 : Int) (w : World) (ha : IK.Rd w va a) (hb : IK.Rd w vb b) (hc : IK.Rd w vc c) (oa : okL a) (ob : okL b) (oc : okL c) (ht : TB w) (hA : hasI a (x1, x2, x3) = false) (hB : hasI b (x1, x2, x3) = false) (ca : a.length ≤ 60) (cb : b.length ≤ 60) (cc : c.length ≤ 60) :
    Calls Tryd.prog 5 #[va, vb, vc, .agg #[.int .i64 x1, .int .i64 x2, .int .i64 x3]] w fun e w' => e = .returned (.bool true) ∧ Below w.heap.size w w' := by
  have hB0 : Below w.heap.size w (w.alloc (.cells #[.int .i64 x1, .int .i64 x2, .int .i64 x3] 23)) := (Below.refl _ _).alloc (Nat.le_refl _) _
  have RA := Lib.hid (ha.below hB0)
  have RB := Lib.hid (hb.below hB0)
  have RC := Lib.hid (hc.below hB0)
  obtain ⟨pa, ka, e⟩ := ha.slice
  subst e
  obtain ⟨pb, kb, e⟩ := hb.slice
  subst e
  obtain ⟨pc, kc, e⟩ := hc.slice
  subst e
  obtain ⟨N, hN⟩ : ∃ N, a.length = N := ⟨_, rfl⟩
  obtain ⟨M, hM⟩ : ∃ N, b.length = N := ⟨_, rfl⟩
  obtain ⟨L, hL⟩ : ∃ N, c.length = N := ⟨_, rfl⟩
  rw [hN] at RA ⊢
  rw [hM] at RB ⊢
  rw [hL] at RC ⊢
  have hz3 : (w.alloc (.cells #[.int .i64 x1, .int .i64 x2, .int .i64 x3] 23)).heap.size = w.heap.size + 1 := by simp
  have d0 : (w.alloc (.cells #[.int .i64 x1, .int .i64 x2, .int .i64 x3] 23)).cell? ⟨w.heap.size, 0, none⟩ = some (.int .i64 x1) := new_cell w _ _ 0
  have d1 : (w.alloc (.cells #[.int .i64 x1, .int .i64 x2, .int .i64 x3] 23)).cell? ⟨w.heap.size, 1, none⟩ = some (.int .i64 x2) := new_cell w _ _ 1
  have d2 : (w.alloc (.cells #[.int .i64 x1, .int .i64 x2, .int .i64 x3] 23)).cell? ⟨w.heap.size, 2, none⟩ = some (.int .i64 x3) := new_cell w _ _ 2
  have OA := Lib.hid oa
  have OB := Lib.hid ob
  have OC := Lib.hid oc
  have NA := Lib.hid ca
  have NB := Lib.hid cb
  have NC := Lib.hid cc
  have HT := Lib.hid (ht.below hB0)
  have HB0 := Lib.hid hB0
  have hA1 : ¬ (60 : Int) < (N : Int) := by omega
  have hA2 : decide (60 < N) = false := decide_eq_false (by omega)
  have hB1 : ¬ (60 : Int) < (M : Int) := by omega
  have hB2 : decide (60 < M) = false := decide_eq_false (by omega)
  have hC1 : ¬ (60 : Int) < (L : Int) := by omega
  have hC2 : decide (60 < L) = false := decide_eq_false (by omega)
  have HA := Lib.hid hA
  have HBB := Lib.hid hB
  clear ha hb hc oa ob oc ht hA hB ca cb cc hN hM hL hB0
  go_enter Tryd.func5, Tryd.ntmps5
  go_wp2_with fail
  generalize (w.alloc (.cells #[.int .i64 x1, .int .i64 x2, .int .i64 x3] 23)) = X0 at *
  have hl0 : w.heap.size < X0.heap.size := by omega
  clear hz3
  refine (works_any X0 HT.out).mono ?_
  rintro e w1 ⟨rfl, hb⟩
  have Bw1 := Lib.hid hb
  clear hb
  go_wp2_with fail
  refine (union_any _ _ a b w1 (RA.out.below Bw1.out) OA.out (by have := NA.out; omega) (RB.out.below Bw1.out) OB.out (by have := NB.out; omega)).mono ?_
  rintro e w2 ⟨v1, he, ho, hb⟩
  rw [he.out]
  have Rv1 := Lib.hid ho.rd
  have Bw2 := Lib.hid (Bw1.out.trans (hb.mono Bw1.out.size))
  have Tw2 := Lib.hid hb
  clear he ho hb
  go_wp2_with fail
  refine (less2_any _ _ a b w2 (RA.out.below Bw2.out) OA.out (by have := NA.out; omega) (RB.out.below Bw2.out) OB.out (by have := NB.out; omega)).mono ?_
  rintro e w3 ⟨v2, he, ho, hb⟩
  rw [he.out]
  have Rv2 := Lib.hid ho.rd
  have Bw3 := Lib.hid (Bw2.out.trans (hb.mono Bw2.out.size))
  have Tw3 := Lib.hid hb
  clear he ho hb
  go_wp2_with fail
  refine (union_any _ _ b a w3 (RB.out.below Bw3.out) OB.out (by have := NB.out; omega) (RA.out.below Bw3.out) OA.out (by have := NA.out; omega)).mono ?_
  rintro e w4 ⟨v3, he, ho, hb⟩
  rw [he.out]
  have Rv3 := Lib.hid ho.rd
  have Bw4 := Lib.hid (Bw3.out.trans (hb.mono Bw3.out.size))
  have Tw4 := Lib.hid hb
  clear he ho hb
  go_wp2_with fail
  have hc := same_any v1 v3 (uniI a b) (uniI b a) w4 ((Rv1.out.below Tw3.out).below Tw4.out) (okL_uni OA.out OB.out) (by have := len_uniI a b; have := NA.out; have := NB.out; omega) Rv3.out (okL_uni OB.out OA.out) (by have := len_uniI b a; have := NA.out; have := NB.out; omega)
  rw [uni1] at hc
  refine hc.mono ?_
  clear hc
  rintro e w5 ⟨rfl, hb⟩
  have Bw5 := Lib.hid (Bw4.out.trans (hb.mono Bw4.out.size))
  have Tw5 := Lib.hid hb
  clear hb
  go_wp2_with fail
  refine (union_any _ _ (uniI a b) c w5 (((Rv1.out.below Tw3.out).below Tw4.out).below Tw5.out) (okL_uni OA.out OB.out) (by have := len_uniI a b; have := NA.out; have := NB.out; omega) (RC.out.below Bw5.out) OC.out (by have := NC.out; omega)).mono ?_
  rintro e w6 ⟨v4, he, ho, hb⟩
  rw [he.out]
  have Rv4 := Lib.hid ho.rd
  have Bw6 := Lib.hid (Bw5.out.trans (hb.mono Bw5.out.size))
  have Tw6 := Lib.hid hb
  clear he ho hb
  go_wp2_with fail
  refine (union_any _ _ b c w6 (RB.out.below Bw6.out) OB.out (by have := NB.out; omega) (RC.out.below Bw6.out) OC.out (by have := NC.out; omega)).mono ?_
  rintro e w7 ⟨v5, he, ho, hb⟩
  rw [he.out]
  have Rv5 := Lib.hid ho.rd
  have Bw7 := Lib.hid (Bw6.out.trans (hb.mono Bw6.out.size))
  have Tw7 := Lib.hid hb
  clear he ho hb
  go_wp2_with fail
  refine (union_any _ _ a (uniI b c) w7 (RA.out.below Bw7.out) OA.out (by have := NA.out; omega) Rv5.out (okL_uni OB.out OC.out) (by have := len_uniI b c; have := NB.out; have := NC.out; omega)).mono ?_
  rintro e w8 ⟨v6, he, ho, hb⟩
  rw [he.out]
  have Rv6 := Lib.hid ho.rd
  have Bw8 := Lib.hid (Bw7.out.trans (hb.mono Bw7.out.size))
  have Tw8 := Lib.hid hb
  clear he ho hb
  go_wp2_with fail
  have hc := same_any v4 v6 (uniI (uniI a b) c) (uniI a (uniI b c)) w8 ((Rv4.out.below Tw7.out).below Tw8.out) (okL_uni (okL_uni OA.out OB.out) OC.out) (by have := len_uniI (uniI a b) c; have := len_uniI a b; have := NA.out; have := NB.out; have := NC.out; omega) Rv6.out (okL_uni OA.out (okL_uni OB.out OC.out)) (by have := len_uniI a (uniI b c); have := len_uniI b c; have := NA.out; have := NB.out; have := NC.out; omega)
  rw [uni2] at hc
  refine hc.mono ?_
  clear hc
  rintro e w9 ⟨rfl, hb⟩
  have Bw9 := Lib.hid (Bw8.out.trans (hb.mono Bw8.out.size))
  have Tw9 := Lib.hid hb
  clear hb
  go_wp2_with fail
  have hc := right_any v1 (uniI a b) w9 (((((((Rv1.out.below Tw3.out).below Tw4.out).below Tw5.out).below Tw6.out).below Tw7.out).below Tw8.out).below Tw9.out) (by have := len_uniI a b; have := NA.out; have := NB.out; omega)
  rw [show rgtI (uniI a b) = true from uni3 _] at hc
  refine hc.mono ?_
  clear hc
  rintro e w10 ⟨rfl, hb⟩
  have Bw10 := Lib.hid (Bw9.out.trans (hb.mono Bw9.out.size))
  have Tw10 := Lib.hid hb
  clear hb
  go_wp2_with fail
  have hc := right_any v2 (lesI a b) w10 (((((((Rv2.out.below Tw4.out).below Tw5.out).below Tw6.out).below Tw7.out).below Tw8.out).below Tw9.out).below Tw10.out) (by have := len_lesI a b; have := NA.out; omega)
  rw [show rgtI (lesI a b) = true from uni3 _] at hc
  refine hc.mono ?_
  clear hc
  rintro e X ⟨rfl, hb⟩
  have BX := Lib.hid (Bw10.out.trans (hb.mono Bw10.out.size))
  have TX := Lib.hid hb
  clear hb
  have hsx := BX.out.size
  have hX0 : w.heap.size < X.heap.size := by omega
  replace d0 := (BX.out.cell (p := ⟨w.heap.size, 0, none⟩) hl0).trans d0
  replace d1 := (BX.out.cell (p := ⟨w.heap.size, 1, none⟩) hl0).trans d1
  replace d2 := (BX.out.cell (p := ⟨w.heap.size, 2, none⟩) hl0).trans d2
  have HC : Hid (∀ w' : World, Below X.heap.size X w' → (w'.cell? ⟨w.heap.size, 0, none⟩ = some (.int .i64 x1) ∧ w'.cell? ⟨w.heap.size, 1, none⟩ = some (.int .i64 x2) ∧ w'.cell? ⟨w.heap.size, 2, none⟩ = some (.int .i64 x3) ∧ Below X.heap.size X w')) := Lib.hid (fun w' hb => ⟨(hb.cell (p := ⟨w.heap.size, 0, none⟩) hX0).trans d0, (hb.cell (p := ⟨w.heap.size, 1, none⟩) hX0).trans d1, (hb.cell (p := ⟨w.heap.size, 2, none⟩) hX0).trans d2, hb⟩)
  have HU := Lib.hid (((((((((Rv1.out.below Tw3.out).below Tw4.out).below Tw5.out).below Tw6.out).below Tw7.out).below Tw8.out).below Tw9.out).below Tw10.out).below TX.out)
  have HDD := Lib.hid ((((((((Rv2.out.below Tw4.out).below Tw5.out).below Tw6.out).below Tw7.out).below Tw8.out).below Tw9.out).below Tw10.out).below TX.out)
  have C1 : Hid (∀ W : World, Below X.heap.size X W → Calls Tryd.prog 17 #[v1, .agg #[.int .i64 x1, .int .i64 x2, .int .i64 x3]] W fun e w' => e = .returned (.bool false) ∧ Below W.heap.size W w') := Lib.hid (fun W hW => by have h := has_any (v1) (uniI a b) x1 x2 x3 W (HU.out.below hW) (by have := len_uniI a b; have := NA.out; have := NB.out; omega); rw [uni6, HA.out, HBB.out, show (false || false) = false from rfl] at h; exact h)
  have C2 : Hid (∀ W : World, Below X.heap.size X W → Calls Tryd.prog 17 #[.slice pa N ka, .agg #[.int .i64 x1, .int .i64 x2, .int .i64 x3]] W fun e w' => e = .returned (.bool false) ∧ Below W.heap.size W w') := Lib.hid (fun W hW => by have h := has_any (.slice pa N ka) (a) x1 x2 x3 W ((RA.out.below BX.out).below hW) (by have := NA.out; omega); rw [HA.out] at h; exact h)
  have C3 : Hid (∀ W : World, Below X.heap.size X W → Calls Tryd.prog 17 #[.slice pb M kb, .agg #[.int .i64 x1, .int .i64 x2, .int .i64 x3]] W fun e w' => e = .returned (.bool false) ∧ Below W.heap.size W w') := Lib.hid (fun W hW => by have h := has_any (.slice pb M kb) (b) x1 x2 x3 W ((RB.out.below BX.out).below hW) (by have := NB.out; omega); rw [HBB.out] at h; exact h)
  have C4 : Hid (∀ W : World, Below X.heap.size X W → Calls Tryd.prog 17 #[v2, .agg #[.int .i64 x1, .int .i64 x2, .int .i64 x3]] W fun e w' => e = .returned (.bool false) ∧ Below W.heap.size W w') := Lib.hid (fun W hW => by have h := has_any (v2) (lesI a b) x1 x2 x3 W (HDD.out.below hW) (by have := len_lesI a b; have := NA.out; omega); rw [uni7, HA.out, HBB.out, show (false && !false) = false from rfl] at h; exact h)
  have BX0 := Lib.hid (HB0.out.trans (BX.out.mono (Nat.le_of_lt hl0)))
  clear d0 d1 d2 hsx
  go_wp2_with fail
  refine wp_region_held_drew (S := (fun w' => w'.cell? ⟨w.heap.size, 0, none⟩ = some (.int .i64 x1) ∧ w'.cell? ⟨w.heap.size, 1, none⟩ = some (.int .i64 x2) ∧ w'.cell? ⟨w.heap.size, 2, none⟩ = some (.int .i64 x3) ∧ Below X.heap.size X w')) (by kernel_rfl) ?_ (fun hHeld => ?_)
  · ((first
      | exact HC.out _ (Below.refl _ _)
      | exact HC.out _ (Below.refl _ _).drew
      | (go_split_ands; exact HC.out _ (below_self (by assumption) (by assumption)))
      | (go_split_ands; exact HC.out _ (Below.drew (by assumption)))
      | (go_split_ands; exact HC.out _ (by assumption))))
  refine wpAnyH_take (i := 0) (v := ?_) rfl (by kernel_rfl) (by kernel_rfl) (by kernel_rfl) (fun _ _ _ h => h) (Or.inl ⟨by rfl, ?_⟩) (by assumption) ?_
  rotate_left
  · (intro w hSw; (try dsimp only at hSw); go_simp; try rfl)
  try simp only [Act.put, List.setIfInBounds_toArray, List.set_cons_zero, List.set_cons_succ, List.getElem_toArray, List.getElem_cons_zero, List.getElem_cons_succ]
  refine wpAnyH_take (i := 1) (v := ?_) rfl (by kernel_rfl) (by kernel_rfl) (by kernel_rfl) (fun _ _ _ h => h) (Or.inl ⟨by rfl, ?_⟩) (by assumption) ?_
  rotate_left
  · (intro w hSw; (try dsimp only at hSw); go_simp; try rfl)
  try simp only [Act.put, List.setIfInBounds_toArray, List.set_cons_zero, List.set_cons_succ, List.getElem_toArray, List.getElem_cons_zero, List.getElem_cons_succ]
  refine wpAnyH_take (i := 3) (v := ?_) rfl (by kernel_rfl) (by kernel_rfl) (by kernel_rfl) (fun _ _ _ h => h) (Or.inl ⟨by rfl, ?_⟩) (by assumption) ?_
  rotate_left
  · (intro w hSw; (try dsimp only at hSw); go_simp; try rfl)
  try simp only [Act.put, List.setIfInBounds_toArray, List.set_cons_zero, List.set_cons_succ, List.getElem_toArray, List.getElem_cons_zero, List.getElem_cons_succ]
  refine wpAnyH_take (i := 4) (v := ?_) rfl (by kernel_rfl) (by kernel_rfl) (by kernel_rfl) (fun _ _ _ h => h) (Or.inl ⟨by rfl, ?_⟩) (by assumption) ?_
  rotate_left
  · (intro w hSw; (try dsimp only at hSw); go_simp; try rfl)
  try simp only [Act.put, List.setIfInBounds_toArray, List.set_cons_zero, List.set_cons_succ, List.getElem_toArray, List.getElem_cons_zero, List.getElem_cons_succ]
  refine wpAnyH_ready (rs := [2]) (by kernel_rfl) (by simp) ?_
  refine (AllReadyH.cons rfl (fun K hK => ?_) AllReadyH.nil)
  go_simp
  (go_at_call 17; go_split_ands; refine (C1.out _ (by assumption)).mono ?_; rintro e w5 ⟨rfl, hbw5⟩)
  refine hK.out _ _ ?_ (fun hHeld => ?_)
  · ((first
      | exact HC.out _ (Below.refl _ _)
      | exact HC.out _ (Below.refl _ _).drew
      | (go_split_ands; exact HC.out _ (below_self (by assumption) (by assumption)))
      | (go_split_ands; exact HC.out _ (Below.drew (by assumption)))
      | (go_split_ands; exact HC.out _ (by assumption))))
  clear hK K
  try simp only [Act.put, List.setIfInBounds_toArray, List.set_cons_zero, List.set_cons_succ, List.getElem_toArray, List.getElem_cons_zero, List.getElem_cons_succ]
  refine wpAnyH_ready (rs := [5]) (by kernel_rfl) (by simp) ?_
  refine (AllReadyH.cons rfl (fun K hK => ?_) AllReadyH.nil)
  go_simp
  (go_at_call 17; go_split_ands; refine (C2.out _ (by assumption)).mono ?_; rintro e w5 ⟨rfl, hbw5⟩)
  refine hK.out _ _ ?_ (fun hHeld => ?_)
  · ((first
      | exact HC.out _ (Below.refl _ _)
      | exact HC.out _ (Below.refl _ _).drew
      | (go_split_ands; exact HC.out _ (below_self (by assumption) (by assumption)))
      | (go_split_ands; exact HC.out _ (Below.drew (by assumption)))
      | (go_split_ands; exact HC.out _ (by assumption))))
  clear hK K
  try simp only [Act.put, List.setIfInBounds_toArray, List.set_cons_zero, List.set_cons_succ, List.getElem_toArray, List.getElem_cons_zero, List.getElem_cons_succ]
  refine wpAnyH_take (i := 6) (v := ?_) rfl (by kernel_rfl) (by kernel_rfl) (by kernel_rfl) (fun _ _ _ h => h) (Or.inl ⟨by rfl, ?_⟩) (by assumption) ?_
  rotate_left
  · (intro w hSw; (try dsimp only at hSw); go_simp; try rfl)
  try simp only [Act.put, List.setIfInBounds_toArray, List.set_cons_zero, List.set_cons_succ, List.getElem_toArray, List.getElem_cons_zero, List.getElem_cons_succ]
  refine wpAnyH_take (i := 7) (v := ?_) rfl (by kernel_rfl) (by kernel_rfl) (by kernel_rfl) (fun _ _ _ h => h) (Or.inl ⟨by rfl, ?_⟩) (by assumption) ?_
  rotate_left
  · (intro w hSw; (try dsimp only at hSw); go_simp; try rfl)
  try simp only [Act.put, List.setIfInBounds_toArray, List.set_cons_zero, List.set_cons_succ, List.getElem_toArray, List.getElem_cons_zero, List.getElem_cons_succ]
  refine wpAnyH_take (i := 8) (v := ?_) rfl (by kernel_rfl) (by kernel_rfl) (by kernel_rfl) (fun _ _ _ h => h) (Or.inl ⟨by rfl, ?_⟩) (by assumption) ?_
  rotate_left
  · (intro w hSw; (try dsimp only at hSw); go_simp; try rfl)
  try simp only [Act.put, List.setIfInBounds_toArray, List.set_cons_zero, List.set_cons_succ, List.getElem_toArray, List.getElem_cons_zero, List.getElem_cons_succ]
  refine wpAnyH_ready (rs := [9]) (by kernel_rfl) (by simp) ?_
  refine (AllReadyH.cons rfl (fun K hK => ?_) AllReadyH.nil)
  go_simp
  (go_at_call 17; go_split_ands; refine (C3.out _ (by assumption)).mono ?_; rintro e w5 ⟨rfl, hbw5⟩)
  refine hK.out _ _ ?_ (fun hHeld => ?_)
  · ((first
      | exact HC.out _ (Below.refl _ _)
      | exact HC.out _ (Below.refl _ _).drew
      | (go_split_ands; exact HC.out _ (below_self (by assumption) (by assumption)))
      | (go_split_ands; exact HC.out _ (Below.drew (by assumption)))
      | (go_split_ands; exact HC.out _ (by assumption))))
  clear hK K
  try simp only [Act.put, List.setIfInBounds_toArray, List.set_cons_zero, List.set_cons_succ, List.getElem_toArray, List.getElem_cons_zero, List.getElem_cons_succ]
  refine wpAnyH_take (i := 10) (v := ?_) rfl (by kernel_rfl) (by kernel_rfl) (by kernel_rfl) (fun _ _ _ h => h) (Or.inl ⟨by rfl, ?_⟩) (by assumption) ?_
  rotate_left
  · (intro w hSw; (try dsimp only at hSw); go_simp; try rfl)
  try simp only [Act.put, List.setIfInBounds_toArray, List.set_cons_zero, List.set_cons_succ, List.getElem_toArray, List.getElem_cons_zero, List.getElem_cons_succ]
  refine wpAnyH_take (i := 11) (v := ?_) rfl (by kernel_rfl) (by kernel_rfl) (by kernel_rfl) (fun _ _ _ h => h) (Or.inl ⟨by rfl, ?_⟩) (by assumption) ?_
  rotate_left
  · (intro w hSw; (try dsimp only at hSw); go_simp; try rfl)
  try simp only [Act.put, List.setIfInBounds_toArray, List.set_cons_zero, List.set_cons_succ, List.getElem_toArray, List.getElem_cons_zero, List.getElem_cons_succ]
  refine wpAnyH_take (i := 12) (v := ?_) rfl (by kernel_rfl) (by kernel_rfl) (by kernel_rfl) (fun _ _ _ h => h) (Or.inl ⟨by rfl, ?_⟩) (by assumption) ?_
  rotate_left
  · (intro w hSw; (try dsimp only at hSw); go_simp; try rfl)
  try simp only [Act.put, List.setIfInBounds_toArray, List.set_cons_zero, List.set_cons_succ, List.getElem_toArray, List.getElem_cons_zero, List.getElem_cons_succ]
  refine wpAnyH_take (i := 13) (v := ?_) rfl (by kernel_rfl) (by kernel_rfl) (by kernel_rfl) (fun _ _ _ h => h) (Or.inl ⟨by rfl, ?_⟩) (by assumption) ?_
  rotate_left
  · (intro w hSw; (try dsimp only at hSw); go_simp; try rfl)
  try simp only [Act.put, List.setIfInBounds_toArray, List.set_cons_zero, List.set_cons_succ, List.getElem_toArray, List.getElem_cons_zero, List.getElem_cons_succ]
  refine wpAnyH_take (i := 14) (v := ?_) rfl (by kernel_rfl) (by kernel_rfl) (by kernel_rfl) (fun _ _ _ h => h) (Or.inl ⟨by rfl, ?_⟩) (by assumption) ?_
  rotate_left
  · (intro w hSw; (try dsimp only at hSw); go_simp; try rfl)
  try simp only [Act.put, List.setIfInBounds_toArray, List.set_cons_zero, List.set_cons_succ, List.getElem_toArray, List.getElem_cons_zero, List.getElem_cons_succ]
  refine wpAnyH_take (i := 16) (v := ?_) rfl (by kernel_rfl) (by kernel_rfl) (by kernel_rfl) (fun _ _ _ h => h) (Or.inl ⟨by rfl, ?_⟩) (by assumption) ?_
  rotate_left
  · (intro w hSw; (try dsimp only at hSw); go_simp; try rfl)
  try simp only [Act.put, List.setIfInBounds_toArray, List.set_cons_zero, List.set_cons_succ, List.getElem_toArray, List.getElem_cons_zero, List.getElem_cons_succ]
  refine wpAnyH_take (i := 17) (v := ?_) rfl (by kernel_rfl) (by kernel_rfl) (by kernel_rfl) (fun _ _ _ h => h) (Or.inl ⟨by rfl, ?_⟩) (by assumption) ?_
  rotate_left
  · (intro w hSw; (try dsimp only at hSw); go_simp; try rfl)
  try simp only [Act.put, List.setIfInBounds_toArray, List.set_cons_zero, List.set_cons_succ, List.getElem_toArray, List.getElem_cons_zero, List.getElem_cons_succ]
  refine wpAnyH_ready (rs := [15]) (by kernel_rfl) (by simp) ?_
  refine (AllReadyH.cons rfl (fun K hK => ?_) AllReadyH.nil)
  go_simp
  (go_at_call 17; go_split_ands; refine (C4.out _ (by assumption)).mono ?_; rintro e w5 ⟨rfl, hbw5⟩)
  refine hK.out _ _ ?_ (fun hHeld => ?_)
  · ((first
      | exact HC.out _ (Below.refl _ _)
      | exact HC.out _ (Below.refl _ _).drew
      | (go_split_ands; exact HC.out _ (below_self (by assumption) (by assumption)))
      | (go_split_ands; exact HC.out _ (Below.drew (by assumption)))
      | (go_split_ands; exact HC.out _ (by assumption))))
  clear hK K
  try simp only [Act.put, List.setIfInBounds_toArray, List.set_cons_zero, List.set_cons_succ, List.getElem_toArray, List.getElem_cons_zero, List.getElem_cons_succ]
  refine wpAnyH_ready (rs := [18]) (by kernel_rfl) (by simp) ?_
  refine (AllReadyH.cons rfl (fun K hK => ?_) AllReadyH.nil)
  go_simp
  (go_at_call 17; go_split_ands; refine (C2.out _ (by assumption)).mono ?_; rintro e w5 ⟨rfl, hbw5⟩)
  refine hK.out _ _ ?_ (fun hHeld => ?_)
  · ((first
      | exact HC.out _ (Below.refl _ _)
      | exact HC.out _ (Below.refl _ _).drew
      | (go_split_ands; exact HC.out _ (below_self (by assumption) (by assumption)))
      | (go_split_ands; exact HC.out _ (Below.drew (by assumption)))
      | (go_split_ands; exact HC.out _ (by assumption))))
  clear hK K
  try simp only [Act.put, List.setIfInBounds_toArray, List.set_cons_zero, List.set_cons_succ, List.getElem_toArray, List.getElem_cons_zero, List.getElem_cons_succ]
  refine wpAnyH_take (i := 19) (v := ?_) rfl (by kernel_rfl) (by kernel_rfl) (by kernel_rfl) (fun _ _ _ h => h) (Or.inl ⟨by rfl, ?_⟩) (by assumption) ?_
  rotate_left
  · (intro w hSw; (try dsimp only at hSw); go_simp; try rfl)
  try simp only [Act.put, List.setIfInBounds_toArray, List.set_cons_zero, List.set_cons_succ, List.getElem_toArray, List.getElem_cons_zero, List.getElem_cons_succ]
  refine wpAnyH_take (i := 20) (v := undef) rfl (by kernel_rfl) (by kernel_rfl) (by kernel_rfl) (fun _ _ _ h => h) (Or.inr ⟨by rfl, rfl⟩) (by assumption) ?_
  try simp only [Act.put, List.setIfInBounds_toArray, List.set_cons_zero, List.set_cons_succ, List.getElem_toArray, List.getElem_cons_zero, List.getElem_cons_succ]
  refine wpAnyH_take (i := 21) (v := undef) rfl (by kernel_rfl) (by kernel_rfl) (by kernel_rfl) (fun _ _ _ h => h) (Or.inr ⟨by rfl, rfl⟩) (by assumption) ?_
  try simp only [Act.put, List.setIfInBounds_toArray, List.set_cons_zero, List.set_cons_succ, List.getElem_toArray, List.getElem_cons_zero, List.getElem_cons_succ]
  refine wpAnyH_take (i := 22) (v := undef) rfl (by kernel_rfl) (by kernel_rfl) (by kernel_rfl) (fun _ _ _ h => h) (Or.inr ⟨by rfl, rfl⟩) (by assumption) ?_
  try simp only [Act.put, List.setIfInBounds_toArray, List.set_cons_zero, List.set_cons_succ, List.getElem_toArray, List.getElem_cons_zero, List.getElem_cons_succ]
  refine wpAnyH_take (i := 23) (v := undef) rfl (by kernel_rfl) (by kernel_rfl) (by kernel_rfl) (fun _ _ _ h => h) (Or.inr ⟨by rfl, rfl⟩) (by assumption) ?_
  try simp only [Act.put, List.setIfInBounds_toArray, List.set_cons_zero, List.set_cons_succ, List.getElem_toArray, List.getElem_cons_zero, List.getElem_cons_succ]
  refine wpAnyH_take (i := 24) (v := ?_) rfl (by kernel_rfl) (by kernel_rfl) (by kernel_rfl) (fun _ _ _ h => h) (Or.inl ⟨by rfl, ?_⟩) (by assumption) ?_
  rotate_left
  · (intro w hSw; (try dsimp only at hSw); go_simp; try rfl)
  try simp only [Act.put, List.setIfInBounds_toArray, List.set_cons_zero, List.set_cons_succ, List.getElem_toArray, List.getElem_cons_zero, List.getElem_cons_succ]
  refine wpAnyH_take (i := 25) (v := ?_) rfl (by kernel_rfl) (by kernel_rfl) (by kernel_rfl) (fun _ _ _ h => h) (Or.inl ⟨by rfl, ?_⟩) (by assumption) ?_
  rotate_left
  · (intro w hSw; (try dsimp only at hSw); go_simp; try rfl)
  try simp only [Act.put, List.setIfInBounds_toArray, List.set_cons_zero, List.set_cons_succ, List.getElem_toArray, List.getElem_cons_zero, List.getElem_cons_succ]
  refine wpAnyH_take (i := 26) (v := ?_) rfl (by kernel_rfl) (by kernel_rfl) (by kernel_rfl) (fun _ _ _ h => h) (Or.inl ⟨by rfl, ?_⟩) (by assumption) ?_
  rotate_left
  · (intro w hSw; (try dsimp only at hSw); go_simp; try rfl)
  try simp only [Act.put, List.setIfInBounds_toArray, List.set_cons_zero, List.set_cons_succ, List.getElem_toArray, List.getElem_cons_zero, List.getElem_cons_succ]
  refine wpAnyH_take (i := 27) (v := ?_) rfl (by kernel_rfl) (by kernel_rfl) (by kernel_rfl) (fun _ _ _ h => h) (Or.inl ⟨by rfl, ?_⟩) (by assumption) ?_
  rotate_left
  · (intro w hSw; (try dsimp only at hSw); go_simp; try rfl)
  try simp only [Act.put, List.setIfInBounds_toArray, List.set_cons_zero, List.set_cons_succ, List.getElem_toArray, List.getElem_cons_zero, List.getElem_cons_succ]
  refine wpAnyH_done (by kernel_rfl) ?_ _
  go_split_ands
  have hbY : Below X.heap.size X w5 := by assumption
  have Bw5 := Lib.hid (BX.out.trans (hbY.mono BX.out.size))
  have TY := Lib.hid hbY
  clear hbY
  go_wp2_with fail
  refine (union_any _ _ (lesI a b) b w5 (HDD.out.below TY.out) (okL_les OA.out) (by have := len_lesI a b; have := NA.out; omega) (RB.out.below Bw5.out) OB.out (by have := NB.out; omega)).mono ?_
  rintro e w21 ⟨v7, he, ho, hb⟩
  rw [he.out]
  have Rv7 := Lib.hid ho.rd
  have Bw21 := Lib.hid (Bw5.out.trans (hb.mono Bw5.out.size))
  have Tw21 := Lib.hid hb
  clear he ho hb
  go_wp2_with fail
  have hc := same_any v7 v1 (uniI (lesI a b) b) (uniI a b) w21 Rv7.out (okL_uni (okL_les OA.out) OB.out) (by have := len_uniI (lesI a b) b; have := len_lesI a b; have := NA.out; have := NB.out; omega) ((HU.out.below TY.out).below Tw21.out) (okL_uni OA.out OB.out) (by have := len_uniI a b; have := NA.out; have := NB.out; omega)
  rw [uni4] at hc
  refine hc.mono ?_
  clear hc
  rintro e w22 ⟨rfl, hb⟩
  have Bw22 := Lib.hid (Bw21.out.trans (hb.mono Bw21.out.size))
  have Tw22 := Lib.hid hb
  clear hb
  go_wp2_with fail
  refine (clean_any _ a w22 (RA.out.below Bw22.out) OA.out (by have := NA.out; omega)).mono ?_
  rintro e w23 ⟨v8, he, ho, hb⟩
  rw [he.out]
  have Rv8 := Lib.hid ho.rd
  have Bw23 := Lib.hid (Bw22.out.trans (hb.mono Bw22.out.size))
  have Tw23 := Lib.hid hb
  clear he ho hb
  go_wp2_with fail
  have hc := same_any v8 _ (clnI a) a w23 Rv8.out (fun x hx => OA.out x ((mem_clnI a x).1 hx)) (by have := len_clnI a; have := NA.out; omega) (RA.out.below Bw23.out) OA.out (by have := NA.out; omega)
  rw [uni5] at hc
  refine hc.mono ?_
  clear hc
  rintro e w24 ⟨rfl, hb⟩
  have Bw24 := Lib.hid (Bw23.out.trans (hb.mono Bw23.out.size))
  have Tw24 := Lib.hid hb
  clear hb
  go_wp2
  go_ret
  exact ⟨rfl, HB0.out.trans (Bw24.out.mono (Nat.le_of_lt hl0))⟩
set_option maxRecDepth 100000 in
set_option maxHeartbeats 8000000 in
theorem uni_over (va vb vc : Value) (a b c : List I3) (x1 x2 x3 : Int) (w : World) (ha : IK.Rd w va a) (hb : IK.Rd w vb b) (hc : IK.Rd w vc c) (ht : TB w) (k : ¬ (a.length ≤ 60 ∧ b.length ≤ 60 ∧ c.length ≤ 60)) :
    Calls Tryd.prog 5 #[va, vb, vc, .agg #[.int .i64 x1, .int .i64 x2, .int .i64 x3]] w fun e w' => e = .returned (.bool true) ∧ Below w.heap.size w w' := by
  have hB0 : Below w.heap.size w (w.alloc (.cells #[.int .i64 x1, .int .i64 x2, .int .i64 x3] 23)) := (Below.refl _ _).alloc (Nat.le_refl _) _
  obtain ⟨pa, ka, e⟩ := ha.slice
  subst e
  obtain ⟨pb, kb, e⟩ := hb.slice
  subst e
  obtain ⟨pc, kc, e⟩ := hc.slice
  subst e
  obtain ⟨N, hN⟩ : ∃ N, a.length = N := ⟨_, rfl⟩
  obtain ⟨M, hM⟩ : ∃ N, b.length = N := ⟨_, rfl⟩
  obtain ⟨L, hL⟩ : ∃ N, c.length = N := ⟨_, rfl⟩
  rw [hN] at k ⊢
  rw [hM] at k ⊢
  rw [hL] at k ⊢
  have HT := Lib.hid (ht.below hB0)
  have HB0 := Lib.hid hB0
  clear ha hb hc ht hB0 hN hM hL
  go_enter Tryd.func5, Tryd.ntmps5
  go_wp2_with fail
  refine (works_any _ HT.out).mono ?_
  rintro e w1 ⟨rfl, hb⟩
  have Bw1 := Lib.hid (HB0.out.trans (hb.mono (by simp)))
  clear hb
  by_cases k1 : 60 < N
  · have hA1 : (60 : Int) < (N : Int) := by omega
    have hA2 : decide (60 < N) = true := decide_eq_true k1
    go_wp2
    go_ret
    exact ⟨rfl, Bw1.out⟩
  · have hA1 : ¬ (60 : Int) < (N : Int) := by omega
    have hA2 : decide (60 < N) = false := decide_eq_false k1
    by_cases k2 : 60 < M
    · have hB1 : (60 : Int) < (M : Int) := by omega
      have hB2 : decide (60 < M) = true := decide_eq_true k2
      go_wp2
      go_ret
      exact ⟨rfl, Bw1.out⟩
    · have hB1 : ¬ (60 : Int) < (M : Int) := by omega
      have hB2 : decide (60 < M) = false := decide_eq_false k2
      have hC1 : (60 : Int) < (L : Int) := by omega
      have hC2 : decide (60 < L) = true := decide_eq_true (by omega)
      go_wp2
      go_ret
      exact ⟨rfl, Bw1.out⟩
theorem unions_law (va vb vc : Value) (a b c : List I3) (x1 x2 x3 : Int) (w : World) (ha : IK.Rd w va a) (hb : IK.Rd w vb b) (hc : IK.Rd w vc c) (oa : okL a) (ob : okL b) (oc : okL c) (ht : TB w) :
    Calls Tryd.prog 5 #[va, vb, vc, .agg #[.int .i64 x1, .int .i64 x2, .int .i64 x3]] w fun e w' => e = .returned (.bool true) ∧ Below w.heap.size w w' := by
  by_cases k : a.length ≤ 60 ∧ b.length ≤ 60 ∧ c.length ≤ 60
  · cases hA : hasI a (x1, x2, x3) <;> cases hB : hasI b (x1, x2, x3)
    · exact uni_ff va vb vc a b c x1 x2 x3 w ha hb hc oa ob oc ht hA hB k.1 k.2.1 k.2.2
    · exact uni_ft va vb vc a b c x1 x2 x3 w ha hb hc oa ob oc ht hA hB k.1 k.2.1 k.2.2
    · exact uni_tf va vb vc a b c x1 x2 x3 w ha hb hc oa ob oc ht hA hB k.1 k.2.1 k.2.2
    · exact uni_tt va vb vc a b c x1 x2 x3 w ha hb hc oa ob oc ht hA hB k.1 k.2.1 k.2.2
  · exact uni_over va vb vc a b c x1 x2 x3 w ha hb hc ht k
end Go.Proofs.YtmkmdgehgllnbaaDoor
