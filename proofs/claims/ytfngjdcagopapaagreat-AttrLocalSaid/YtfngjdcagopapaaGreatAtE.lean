/-
  The walks of the document's Valid and Local of attributes.
-/
import Derived.Test.YtfngjdcagopapaaGreatAtD
namespace Go.Proofs.YtfngjdcagopapaaGreat
open Tc (ML)
open Go.RowKit
set_option linter.unusedSimpArgs false
set_option linter.unusedVariables false
set_option maxRecDepth 100000

theorem oddA_iff (id x : I3) : oddA id x = true ↔ vldI x = false ∨ x = id ∨ x.1 ≠ id.1 := by
  unfold oddA
  rw [vldI3_eq]
  simp only [Bool.or_eq_true, Bool.not_eq_true', decide_eq_false_iff_not, decide_eq_true_eq]
  constructor
  · rintro ((h | h) | h)
    · exact .inl h
    · exact .inr (.inr h)
    · exact .inr (.inl h)
  · rintro (h | h | h)
    · exact .inl (.inl h)
    · exact .inr h
    · exact .inl (.inr h)
set_option maxHeartbeats 16000000 in
theorem rvalid11_any (i1 i2 i3 s : Int) (v : Value) (l : List I3) (w : World) (h : IK.Rd w v l) (hl : l.length ≤ 5000) :
    Calls Tryz.prog 12 #[.agg #[.int .i64 i1, .int .i64 i2, .int .i64 i3], .agg #[.int .i64 s, v]] w fun e w' => e = .returned (.bool (vldA (i1, i2, i3) (s, l))) ∧ Below w.heap.size w w' := by
  obtain ⟨a, c, e⟩ := h.slice
  subst e
  obtain ⟨N, hN⟩ : ∃ N, l.length = N := ⟨_, rfl⟩
  obtain ⟨R, hR⟩ : ∃ R, vldA (i1, i2, i3) (s, l) = R := ⟨_, rfl⟩
  rw [hN] at h hl ⊢
  rw [hR]
  have HN := Lib.hid hN
  have HR := Lib.hid hR
  have HRD := Lib.hid h
  have HB0 := Lib.hid (al2 w (.cells #[.int .i64 i1, .int .i64 i2, .int .i64 i3] 24) (.cells #[.int .i64 s, .slice a N c] aT))
  have HI0 : Hid (Bk ((w.alloc (.cells #[.int .i64 i1, .int .i64 i2, .int .i64 i3] 24)).alloc (.cells #[.int .i64 s, .slice a N c] aT)) w.heap.size 24 [.int .i64 i1, .int .i64 i2, .int .i64 i3]) := Lib.hid ((Bk.newAt rfl _ _).old _)
  have HA0 : Hid (Bk ((w.alloc (.cells #[.int .i64 i1, .int .i64 i2, .int .i64 i3] 24)).alloc (.cells #[.int .i64 s, .slice a N c] aT)) (w.heap.size + 1) aT [.int .i64 s, .slice a N c]) := Lib.hid (Bk.newAt (by simp) _ _)
  clear h hN hR
  go_enter Tryz.func12, Tryz.ntmps12
  go_wp2_with fail
  go_loopw [5] (fun i wr => ∃ k : Nat, k ≤ N ∧ i = .int .i64 k ∧ Hid (Below w.heap.size w wr) ∧ Hid (Bk wr w.heap.size 24 [.int .i64 i1, .int .i64 i2, .int .i64 i3]) ∧ Hid (Bk wr (w.heap.size + 1) aT [.int .i64 s, .slice a N c]) ∧ Hid (∀ j, j < k → oddA (i1, i2, i3) (l.getD j (0, 0, 0)) = false)) (fun i _ => N - (intOf i).toNat)
  case atStart => exact ⟨0, Nat.zero_le _, rfl, HB0, HI0, HA0, Lib.hid (fun j hj => by omega)⟩
  case round =>
    clear HB0 HI0 HA0
    obtain ⟨k, hk, rfl, HBW, HI, HA, HF⟩ := hrel
    have p0 := HI.out.cell 0
    have p1 := HI.out.cell 1
    have p2 := HI.out.cell 2
    have r0 := HA.out.cell 0
    have r1 := HA.out.cell 1
    simp only [List.getElem?_cons_zero, List.getElem?_cons_succ] at p0 p1 p2 r0 r1
    have hz0 := HI.out.lt
    have hz1 := HA.out.lt
    by_cases hlt : k < N
    · have hlt' : (k : Int) < (N : Int) := by omega
      have hkb : (k : Int) ≤ 5000 := by omega
      obtain ⟨e0, g2, off2, hda, hg2, q0, q1, q2, hjl⟩ := idCell (HRD.out.below HBW.out) k hlt
      obtain ⟨⟨y1, y2, y3⟩, hX⟩ : ∃ X, l.getD k (0, 0, 0) = X := ⟨_, rfl⟩
      rw [hX] at q0 q1 q2
      have HX := Lib.hid hX
      have HXM := Lib.hid (getD_mem hX hjl)
      subst hda
      have HC : Hid (∀ w' : World, Below wr.heap.size wr w' → (Below wr.heap.size wr w' ∧ w'.cell? ⟨w.heap.size, 0, none⟩ = some (.int .i64 i1) ∧ w'.cell? ⟨w.heap.size, 1, none⟩ = some (.int .i64 i2) ∧ w'.cell? ⟨w.heap.size, 2, none⟩ = some (.int .i64 i3) ∧ w'.cell? ⟨w.heap.size + 1, 0, none⟩ = some (.int .i64 s) ∧ w'.cell? ⟨w.heap.size + 1, 1, none⟩ = some (.slice (some ⟨g2, off2, none⟩) N c) ∧ w'.cell? ⟨g2, off2 + k * 3, none⟩ = some (.int .i64 y1) ∧ w'.cell? ⟨g2, off2 + k * 3 + 1, none⟩ = some (.int .i64 y2) ∧ w'.cell? ⟨g2, off2 + k * 3 + 2, none⟩ = some (.int .i64 y3))) := Lib.hid (fun w' hb => ⟨hb, (hb.cell (p := ⟨w.heap.size, 0, none⟩) hz0).trans p0, (hb.cell (p := ⟨w.heap.size, 1, none⟩) hz0).trans p1, (hb.cell (p := ⟨w.heap.size, 2, none⟩) hz0).trans p2, (hb.cell (p := ⟨w.heap.size + 1, 0, none⟩) hz1).trans r0, (hb.cell (p := ⟨w.heap.size + 1, 1, none⟩) hz1).trans r1, (hb.cell (p := ⟨g2, off2 + k * 3, none⟩) hg2).trans q0, (hb.cell (p := ⟨g2, off2 + k * 3 + 1, none⟩) hg2).trans q1, (hb.cell (p := ⟨g2, off2 + k * 3 + 2, none⟩) hg2).trans q2⟩)
      obtain ⟨V, hV⟩ : ∃ V, vldI (y1, y2, y3) = V := ⟨_, rfl⟩
      have HVV := Lib.hid hV
      have CV : Hid (∀ W : World, Below wr.heap.size wr W → Calls Tryz.prog 28 #[.agg #[.int .i64 y1, .int .i64 y2, .int .i64 y3]] W fun e w' => e = .returned (.bool V) ∧ Below W.heap.size W w') := Lib.hid (fun W hW => by
        have h := rvalid_any y1 y2 y3 W
        rw [hV] at h
        exact h.mono fun e w' q => ⟨q.1, q.2.below⟩)
      obtain ⟨he, hgd⟩ := eqI_run y1 y2 y3 i1 i2 i3
      clear hX hjl e0 hV
      cases V with
      | false =>
        have HOD : Hid (oddA (i1, i2, i3) (y1, y2, y3) = true) := Lib.hid ((oddA_iff _ _).2 (.inl HVV.out))
        clear he hgd p0 p1 p2 r0 q0 q1 q2 HVV
        go_wp2_with fail
        refine wp_region_held_drew (S := (fun w' => Below wr.heap.size wr w' ∧ w'.cell? ⟨w.heap.size, 0, none⟩ = some (.int .i64 i1) ∧ w'.cell? ⟨w.heap.size, 1, none⟩ = some (.int .i64 i2) ∧ w'.cell? ⟨w.heap.size, 2, none⟩ = some (.int .i64 i3) ∧ w'.cell? ⟨w.heap.size + 1, 0, none⟩ = some (.int .i64 s) ∧ w'.cell? ⟨w.heap.size + 1, 1, none⟩ = some (.slice (some ⟨g2, off2, none⟩) N c) ∧ w'.cell? ⟨g2, off2 + k * 3, none⟩ = some (.int .i64 y1) ∧ w'.cell? ⟨g2, off2 + k * 3 + 1, none⟩ = some (.int .i64 y2) ∧ w'.cell? ⟨g2, off2 + k * 3 + 2, none⟩ = some (.int .i64 y3))) (by kernel_rfl) ?_ (fun hHeld => ?_)
        · ((first
              | exact HC.out _ hS5
              | exact HC.out _ (Below.alloc hHeld.1 (Below.size hHeld.1) _)
              | exact HC.out _ (Below.drew hHeld.1)
              | exact HC.out _ (Below.refl _ _).drew
              | exact HC.out _ (Below.refl _ _)
              | fail))
        refine wpAnyH_take (i := 0) (v := ?_) rfl (by kernel_rfl) (by kernel_rfl) (by kernel_rfl) (fun _ _ _ h => h) (Or.inl ⟨by rfl, ?_⟩) (by assumption) ?_
        rotate_left
        · (intro w hSw; (try dsimp only at hSw); go_simp; try rfl)
        try simp only [Act.put, List.setIfInBounds_toArray, List.set_cons_zero, List.set_cons_succ, List.getElem_toArray, List.getElem_cons_zero, List.getElem_cons_succ]
        refine wpAnyH_take (i := 1) (v := ?_) rfl (by kernel_rfl) (by kernel_rfl) (by kernel_rfl) (fun _ _ _ h => h) (Or.inl ⟨by rfl, ?_⟩) (by assumption) ?_
        rotate_left
        · (intro w hSw; (try dsimp only at hSw); go_simp; try rfl)
        try simp only [Act.put, List.setIfInBounds_toArray, List.set_cons_zero, List.set_cons_succ, List.getElem_toArray, List.getElem_cons_zero, List.getElem_cons_succ]
        refine wpAnyH_take (i := 2) (v := ?_) rfl (by kernel_rfl) (by kernel_rfl) (by kernel_rfl) (fun _ _ _ h => h) (Or.inl ⟨by rfl, ?_⟩) (by assumption) ?_
        rotate_left
        · (intro w hSw; (try dsimp only at hSw); go_simp; try rfl)
        try simp only [Act.put, List.setIfInBounds_toArray, List.set_cons_zero, List.set_cons_succ, List.getElem_toArray, List.getElem_cons_zero, List.getElem_cons_succ]
        refine wpAnyH_take (i := 3) (v := ?_) rfl (by kernel_rfl) (by kernel_rfl) (by kernel_rfl) (fun _ _ _ h => h) (Or.inl ⟨by rfl, ?_⟩) (by assumption) ?_
        rotate_left
        · (intro w hSw; (try dsimp only at hSw); go_simp; try rfl)
        try simp only [Act.put, List.setIfInBounds_toArray, List.set_cons_zero, List.set_cons_succ, List.getElem_toArray, List.getElem_cons_zero, List.getElem_cons_succ]
        refine wpAnyH_take (i := 4) (v := ?_) rfl (by kernel_rfl) (by kernel_rfl) (by kernel_rfl) (fun _ _ _ h => h) (Or.inl ⟨by rfl, ?_⟩) (by assumption) ?_
        rotate_left
        · (intro w hSw; (try dsimp only at hSw); go_simp; try rfl)
        try simp only [Act.put, List.setIfInBounds_toArray, List.set_cons_zero, List.set_cons_succ, List.getElem_toArray, List.getElem_cons_zero, List.getElem_cons_succ]
        refine wpAnyH_ready (rs := [5]) (by kernel_rfl) (by simp) ?_
        refine (AllReadyH.cons rfl (fun K hK => ?_) AllReadyH.nil)
        go_simp
        (go_at_call 28; refine (CV.out _ hHeld.1).mono ?_; rintro e w5 ⟨rfl, hbw5⟩; have hS5 : Below wr.heap.size wr w5 := below_self hHeld.1 hbw5)
        refine hK.out _ _ ?_ (fun hHeldN => ?_)
        · ((first
              | exact HC.out _ hS5
              | exact HC.out _ (Below.alloc hHeld.1 (Below.size hHeld.1) _)
              | exact HC.out _ (Below.drew hHeld.1)
              | exact HC.out _ (Below.refl _ _).drew
              | exact HC.out _ (Below.refl _ _)
              | fail))
        clear hK K
        try clear hS5 hbw5
        try clear hPrev
        have hPrev := Lib.hid hHeld.1
        clear hHeld
        have hHeld := hHeldN
        clear hHeldN
        try simp only [Act.put, List.setIfInBounds_toArray, List.set_cons_zero, List.set_cons_succ, List.getElem_toArray, List.getElem_cons_zero, List.getElem_cons_succ]
        refine wpAnyH_take (i := 6) (v := ?_) rfl (by kernel_rfl) (by kernel_rfl) (by kernel_rfl) (fun _ _ _ h => h) (Or.inl ⟨by rfl, ?_⟩) (by assumption) ?_
        rotate_left
        · (intro w hSw; (try dsimp only at hSw); go_simp; try rfl)
        try simp only [Act.put, List.setIfInBounds_toArray, List.set_cons_zero, List.set_cons_succ, List.getElem_toArray, List.getElem_cons_zero, List.getElem_cons_succ]
        refine wpAnyH_take (i := 7) (v := ?_) rfl (by kernel_rfl) (by kernel_rfl) (by kernel_rfl) (fun _ _ _ h => h) (Or.inl ⟨by rfl, ?_⟩) (by assumption) ?_
        rotate_left
        · (intro w hSw; (try dsimp only at hSw); go_simp; try rfl)
        try simp only [Act.put, List.setIfInBounds_toArray, List.set_cons_zero, List.set_cons_succ, List.getElem_toArray, List.getElem_cons_zero, List.getElem_cons_succ]
        refine wpAnyH_take (i := 8) (v := undef) rfl (by kernel_rfl) (by kernel_rfl) (by kernel_rfl) (fun _ _ _ h => h) (Or.inr ⟨by rfl, rfl⟩) (by assumption) ?_
        try simp only [Act.put, List.setIfInBounds_toArray, List.set_cons_zero, List.set_cons_succ, List.getElem_toArray, List.getElem_cons_zero, List.getElem_cons_succ]
        refine wpAnyH_take (i := 9) (v := undef) rfl (by kernel_rfl) (by kernel_rfl) (by kernel_rfl) (fun _ _ _ h => h) (Or.inr ⟨by rfl, rfl⟩) (by assumption) ?_
        try simp only [Act.put, List.setIfInBounds_toArray, List.set_cons_zero, List.set_cons_succ, List.getElem_toArray, List.getElem_cons_zero, List.getElem_cons_succ]
        refine wpAnyH_take (i := 10) (v := undef) rfl (by kernel_rfl) (by kernel_rfl) (by kernel_rfl) (fun _ _ _ h => h) (Or.inr ⟨by rfl, rfl⟩) (by assumption) ?_
        try simp only [Act.put, List.setIfInBounds_toArray, List.set_cons_zero, List.set_cons_succ, List.getElem_toArray, List.getElem_cons_zero, List.getElem_cons_succ]
        refine wpAnyH_take (i := 11) (v := undef) rfl (by kernel_rfl) (by kernel_rfl) (by kernel_rfl) (fun _ _ _ h => h) (Or.inr ⟨by rfl, rfl⟩) (by assumption) ?_
        try simp only [Act.put, List.setIfInBounds_toArray, List.set_cons_zero, List.set_cons_succ, List.getElem_toArray, List.getElem_cons_zero, List.getElem_cons_succ]
        refine wpAnyH_take (i := 12) (v := undef) rfl (by kernel_rfl) (by kernel_rfl) (by kernel_rfl) (fun _ _ _ h => h) (Or.inr ⟨by rfl, rfl⟩) (by assumption) ?_
        try simp only [Act.put, List.setIfInBounds_toArray, List.set_cons_zero, List.set_cons_succ, List.getElem_toArray, List.getElem_cons_zero, List.getElem_cons_succ]
        refine wpAnyH_take (i := 13) (v := undef) rfl (by kernel_rfl) (by kernel_rfl) (by kernel_rfl) (fun _ _ _ h => h) (Or.inr ⟨by rfl, rfl⟩) (by assumption) ?_
        try simp only [Act.put, List.setIfInBounds_toArray, List.set_cons_zero, List.set_cons_succ, List.getElem_toArray, List.getElem_cons_zero, List.getElem_cons_succ]
        refine wpAnyH_take (i := 14) (v := undef) rfl (by kernel_rfl) (by kernel_rfl) (by kernel_rfl) (fun _ _ _ h => h) (Or.inr ⟨by rfl, rfl⟩) (by assumption) ?_
        try simp only [Act.put, List.setIfInBounds_toArray, List.set_cons_zero, List.set_cons_succ, List.getElem_toArray, List.getElem_cons_zero, List.getElem_cons_succ]
        refine wpAnyH_take (i := 15) (v := ?_) rfl (by kernel_rfl) (by kernel_rfl) (by kernel_rfl) (fun _ _ _ h => h) (Or.inl ⟨by rfl, ?_⟩) (by assumption) ?_
        rotate_left
        · (intro w hSw; (try dsimp only at hSw); go_simp; try rfl)
        try simp only [Act.put, List.setIfInBounds_toArray, List.set_cons_zero, List.set_cons_succ, List.getElem_toArray, List.getElem_cons_zero, List.getElem_cons_succ]
        refine wpAnyH_take (i := 16) (v := ?_) rfl (by kernel_rfl) (by kernel_rfl) (by kernel_rfl) (fun _ _ _ h => h) (Or.inl ⟨by rfl, ?_⟩) (by assumption) ?_
        rotate_left
        · (intro w hSw; (try dsimp only at hSw); go_simp; try rfl)
        try simp only [Act.put, List.setIfInBounds_toArray, List.set_cons_zero, List.set_cons_succ, List.getElem_toArray, List.getElem_cons_zero, List.getElem_cons_succ]
        refine wpAnyH_take (i := 17) (v := undef) rfl (by kernel_rfl) (by kernel_rfl) (by kernel_rfl) (fun _ _ _ h => h) (Or.inr ⟨by rfl, rfl⟩) (by assumption) ?_
        try simp only [Act.put, List.setIfInBounds_toArray, List.set_cons_zero, List.set_cons_succ, List.getElem_toArray, List.getElem_cons_zero, List.getElem_cons_succ]
        refine wpAnyH_take (i := 18) (v := undef) rfl (by kernel_rfl) (by kernel_rfl) (by kernel_rfl) (fun _ _ _ h => h) (Or.inr ⟨by rfl, rfl⟩) (by assumption) ?_
        try simp only [Act.put, List.setIfInBounds_toArray, List.set_cons_zero, List.set_cons_succ, List.getElem_toArray, List.getElem_cons_zero, List.getElem_cons_succ]
        refine wpAnyH_take (i := 19) (v := undef) rfl (by kernel_rfl) (by kernel_rfl) (by kernel_rfl) (fun _ _ _ h => h) (Or.inr ⟨by rfl, rfl⟩) (by assumption) ?_
        try simp only [Act.put, List.setIfInBounds_toArray, List.set_cons_zero, List.set_cons_succ, List.getElem_toArray, List.getElem_cons_zero, List.getElem_cons_succ]
        refine wpAnyH_take (i := 20) (v := undef) rfl (by kernel_rfl) (by kernel_rfl) (by kernel_rfl) (fun _ _ _ h => h) (Or.inr ⟨by rfl, rfl⟩) (by assumption) ?_
        try simp only [Act.put, List.setIfInBounds_toArray, List.set_cons_zero, List.set_cons_succ, List.getElem_toArray, List.getElem_cons_zero, List.getElem_cons_succ]
        refine wpAnyH_take (i := 21) (v := undef) rfl (by kernel_rfl) (by kernel_rfl) (by kernel_rfl) (fun _ _ _ h => h) (Or.inr ⟨by rfl, rfl⟩) (by assumption) ?_
        try simp only [Act.put, List.setIfInBounds_toArray, List.set_cons_zero, List.set_cons_succ, List.getElem_toArray, List.getElem_cons_zero, List.getElem_cons_succ]
        refine wpAnyH_take (i := 22) (v := undef) rfl (by kernel_rfl) (by kernel_rfl) (by kernel_rfl) (fun _ _ _ h => h) (Or.inr ⟨by rfl, rfl⟩) (by assumption) ?_
        try simp only [Act.put, List.setIfInBounds_toArray, List.set_cons_zero, List.set_cons_succ, List.getElem_toArray, List.getElem_cons_zero, List.getElem_cons_succ]
        refine wpAnyH_take (i := 23) (v := undef) rfl (by kernel_rfl) (by kernel_rfl) (by kernel_rfl) (fun _ _ _ h => h) (Or.inr ⟨by rfl, rfl⟩) (by assumption) ?_
        try simp only [Act.put, List.setIfInBounds_toArray, List.set_cons_zero, List.set_cons_succ, List.getElem_toArray, List.getElem_cons_zero, List.getElem_cons_succ]
        refine wpAnyH_take (i := 24) (v := undef) rfl (by kernel_rfl) (by kernel_rfl) (by kernel_rfl) (fun _ _ _ h => h) (Or.inr ⟨by rfl, rfl⟩) (by assumption) ?_
        try simp only [Act.put, List.setIfInBounds_toArray, List.set_cons_zero, List.set_cons_succ, List.getElem_toArray, List.getElem_cons_zero, List.getElem_cons_succ]
        refine wpAnyH_take (i := 25) (v := undef) rfl (by kernel_rfl) (by kernel_rfl) (by kernel_rfl) (fun _ _ _ h => h) (Or.inr ⟨by rfl, rfl⟩) (by assumption) ?_
        try simp only [Act.put, List.setIfInBounds_toArray, List.set_cons_zero, List.set_cons_succ, List.getElem_toArray, List.getElem_cons_zero, List.getElem_cons_succ]
        refine wpAnyH_take (i := 26) (v := ?_) rfl (by kernel_rfl) (by kernel_rfl) (by kernel_rfl) (fun _ _ _ h => h) (Or.inl ⟨by rfl, ?_⟩) (by assumption) ?_
        rotate_left
        · (intro w hSw; (try dsimp only at hSw); go_simp; try rfl)
        try simp only [Act.put, List.setIfInBounds_toArray, List.set_cons_zero, List.set_cons_succ, List.getElem_toArray, List.getElem_cons_zero, List.getElem_cons_succ]
        refine wpAnyH_done (by kernel_rfl) ?_ _
        have HBE := Lib.hid hHeld.1
        clear hHeld HC
        go_wp2
        go_ret
        refine ⟨ret_bool ?_, HBW.out.trans (HBE.out.mono HBW.out.size)⟩
        rw [← HR.out]
        unfold vldA
        have h1 : l.any (oddA (i1, i2, i3)) = true := List.any_eq_true.2 ⟨_, HXM.out, HOD.out⟩
        simp only [h1, Bool.not_true, Bool.and_false]
      | true =>
        cases hD : decide (((y1, y2, y3) : I3) = (i1, i2, i3)) with
        | true =>
          rw [hD] at he
          have HOD : Hid (oddA (i1, i2, i3) (y1, y2, y3) = true) := Lib.hid ((oddA_iff _ _).2 (.inr (.inl (of_decide_eq_true hD))))
          clear p0 p1 p2 r0 q0 q1 q2 HVV hD
          go_wp2_with fail
          refine wp_region_held_drew (S := (fun w' => Below wr.heap.size wr w' ∧ w'.cell? ⟨w.heap.size, 0, none⟩ = some (.int .i64 i1) ∧ w'.cell? ⟨w.heap.size, 1, none⟩ = some (.int .i64 i2) ∧ w'.cell? ⟨w.heap.size, 2, none⟩ = some (.int .i64 i3) ∧ w'.cell? ⟨w.heap.size + 1, 0, none⟩ = some (.int .i64 s) ∧ w'.cell? ⟨w.heap.size + 1, 1, none⟩ = some (.slice (some ⟨g2, off2, none⟩) N c) ∧ w'.cell? ⟨g2, off2 + k * 3, none⟩ = some (.int .i64 y1) ∧ w'.cell? ⟨g2, off2 + k * 3 + 1, none⟩ = some (.int .i64 y2) ∧ w'.cell? ⟨g2, off2 + k * 3 + 2, none⟩ = some (.int .i64 y3))) (by kernel_rfl) ?_ (fun hHeld => ?_)
          · ((first
                | exact HC.out _ hS5
                | exact HC.out _ (Below.alloc hHeld.1 (Below.size hHeld.1) _)
                | exact HC.out _ (Below.drew hHeld.1)
                | exact HC.out _ (Below.refl _ _).drew
                | exact HC.out _ (Below.refl _ _)
                | fail))
          refine wpAnyH_take (i := 0) (v := ?_) rfl (by kernel_rfl) (by kernel_rfl) (by kernel_rfl) (fun _ _ _ h => h) (Or.inl ⟨by rfl, ?_⟩) (by assumption) ?_
          rotate_left
          · (intro w hSw; (try dsimp only at hSw); go_simp; try rfl)
          try simp only [Act.put, List.setIfInBounds_toArray, List.set_cons_zero, List.set_cons_succ, List.getElem_toArray, List.getElem_cons_zero, List.getElem_cons_succ]
          refine wpAnyH_take (i := 1) (v := ?_) rfl (by kernel_rfl) (by kernel_rfl) (by kernel_rfl) (fun _ _ _ h => h) (Or.inl ⟨by rfl, ?_⟩) (by assumption) ?_
          rotate_left
          · (intro w hSw; (try dsimp only at hSw); go_simp; try rfl)
          try simp only [Act.put, List.setIfInBounds_toArray, List.set_cons_zero, List.set_cons_succ, List.getElem_toArray, List.getElem_cons_zero, List.getElem_cons_succ]
          refine wpAnyH_take (i := 2) (v := ?_) rfl (by kernel_rfl) (by kernel_rfl) (by kernel_rfl) (fun _ _ _ h => h) (Or.inl ⟨by rfl, ?_⟩) (by assumption) ?_
          rotate_left
          · (intro w hSw; (try dsimp only at hSw); go_simp; try rfl)
          try simp only [Act.put, List.setIfInBounds_toArray, List.set_cons_zero, List.set_cons_succ, List.getElem_toArray, List.getElem_cons_zero, List.getElem_cons_succ]
          refine wpAnyH_take (i := 3) (v := ?_) rfl (by kernel_rfl) (by kernel_rfl) (by kernel_rfl) (fun _ _ _ h => h) (Or.inl ⟨by rfl, ?_⟩) (by assumption) ?_
          rotate_left
          · (intro w hSw; (try dsimp only at hSw); go_simp; try rfl)
          try simp only [Act.put, List.setIfInBounds_toArray, List.set_cons_zero, List.set_cons_succ, List.getElem_toArray, List.getElem_cons_zero, List.getElem_cons_succ]
          refine wpAnyH_take (i := 4) (v := ?_) rfl (by kernel_rfl) (by kernel_rfl) (by kernel_rfl) (fun _ _ _ h => h) (Or.inl ⟨by rfl, ?_⟩) (by assumption) ?_
          rotate_left
          · (intro w hSw; (try dsimp only at hSw); go_simp; try rfl)
          try simp only [Act.put, List.setIfInBounds_toArray, List.set_cons_zero, List.set_cons_succ, List.getElem_toArray, List.getElem_cons_zero, List.getElem_cons_succ]
          refine wpAnyH_ready (rs := [5]) (by kernel_rfl) (by simp) ?_
          refine (AllReadyH.cons rfl (fun K hK => ?_) AllReadyH.nil)
          go_simp
          (go_at_call 28; refine (CV.out _ hHeld.1).mono ?_; rintro e w5 ⟨rfl, hbw5⟩; have hS5 : Below wr.heap.size wr w5 := below_self hHeld.1 hbw5)
          refine hK.out _ _ ?_ (fun hHeldN => ?_)
          · ((first
                | exact HC.out _ hS5
                | exact HC.out _ (Below.alloc hHeld.1 (Below.size hHeld.1) _)
                | exact HC.out _ (Below.drew hHeld.1)
                | exact HC.out _ (Below.refl _ _).drew
                | exact HC.out _ (Below.refl _ _)
                | fail))
          clear hK K
          try clear hS5 hbw5
          try clear hPrev
          have hPrev := Lib.hid hHeld.1
          clear hHeld
          have hHeld := hHeldN
          clear hHeldN
          try simp only [Act.put, List.setIfInBounds_toArray, List.set_cons_zero, List.set_cons_succ, List.getElem_toArray, List.getElem_cons_zero, List.getElem_cons_succ]
          refine wpAnyH_take (i := 6) (v := ?_) rfl (by kernel_rfl) (by kernel_rfl) (by kernel_rfl) (fun _ _ _ h => h) (Or.inl ⟨by rfl, ?_⟩) (by assumption) ?_
          rotate_left
          · (intro w hSw; (try dsimp only at hSw); go_simp; try rfl)
          try simp only [Act.put, List.setIfInBounds_toArray, List.set_cons_zero, List.set_cons_succ, List.getElem_toArray, List.getElem_cons_zero, List.getElem_cons_succ]
          refine wpAnyH_take (i := 7) (v := ?_) rfl (by kernel_rfl) (by kernel_rfl) (by kernel_rfl) (fun _ _ _ h => h) (Or.inl ⟨by rfl, ?_⟩) (by assumption) ?_
          rotate_left
          · (intro w hSw; (try dsimp only at hSw); go_simp; try rfl)
          try simp only [Act.put, List.setIfInBounds_toArray, List.set_cons_zero, List.set_cons_succ, List.getElem_toArray, List.getElem_cons_zero, List.getElem_cons_succ]
          refine wpAnyH_take (i := 8) (v := ?_) rfl (by kernel_rfl) (by kernel_rfl) (by kernel_rfl) (fun _ _ _ h => h) (Or.inl ⟨by rfl, ?_⟩) (by assumption) ?_
          rotate_left
          · (intro w hSw; (try dsimp only at hSw); go_simp; try rfl)
          try simp only [Act.put, List.setIfInBounds_toArray, List.set_cons_zero, List.set_cons_succ, List.getElem_toArray, List.getElem_cons_zero, List.getElem_cons_succ]
          refine wpAnyH_take (i := 9) (v := ?_) rfl (by kernel_rfl) (by kernel_rfl) (by kernel_rfl) (fun _ _ _ h => h) (Or.inl ⟨by rfl, ?_⟩) (by assumption) ?_
          rotate_left
          · (intro w hSw; (try dsimp only at hSw); go_simp; try rfl)
          try simp only [Act.put, List.setIfInBounds_toArray, List.set_cons_zero, List.set_cons_succ, List.getElem_toArray, List.getElem_cons_zero, List.getElem_cons_succ]
          refine wpAnyH_take (i := 10) (v := ?_) rfl (by kernel_rfl) (by kernel_rfl) (by kernel_rfl) (fun _ _ _ h => h) (Or.inl ⟨by rfl, ?_⟩) (by assumption) ?_
          rotate_left
          · (intro w hSw; (try dsimp only at hSw); go_simp; try rfl)
          try simp only [Act.put, List.setIfInBounds_toArray, List.set_cons_zero, List.set_cons_succ, List.getElem_toArray, List.getElem_cons_zero, List.getElem_cons_succ]
          refine wpAnyH_take (i := 11) (v := ?_) rfl (by kernel_rfl) (by kernel_rfl) (by kernel_rfl) (fun _ _ _ h => h) (Or.inl ⟨by rfl, ?_⟩) (by assumption) ?_
          rotate_left
          · (intro w hSw; (try dsimp only at hSw); go_simp; try rfl)
          try simp only [Act.put, List.setIfInBounds_toArray, List.set_cons_zero, List.set_cons_succ, List.getElem_toArray, List.getElem_cons_zero, List.getElem_cons_succ]
          refine wpAnyH_take (i := 12) (v := ?_) rfl (by kernel_rfl) (by kernel_rfl) (by kernel_rfl) (fun _ _ _ h => h) (Or.inl ⟨by rfl, ?_⟩) (by assumption) ?_
          rotate_left
          · (intro w hSw; (try dsimp only at hSw); go_simp; try rfl)
          try simp only [Act.put, List.setIfInBounds_toArray, List.set_cons_zero, List.set_cons_succ, List.getElem_toArray, List.getElem_cons_zero, List.getElem_cons_succ]
          refine wpAnyH_take (i := 13) (v := ?_) rfl (by kernel_rfl) (by kernel_rfl) (by kernel_rfl) (fun _ _ _ h => h) (Or.inl ⟨by rfl, ?_⟩) (by assumption) ?_
          rotate_left
          · (intro w hSw; (try dsimp only at hSw); go_simp; try rfl)
          try simp only [Act.put, List.setIfInBounds_toArray, List.set_cons_zero, List.set_cons_succ, List.getElem_toArray, List.getElem_cons_zero, List.getElem_cons_succ]
          refine wpAnyH_take (i := 14) (v := ?_) rfl (by kernel_rfl) (by kernel_rfl) (by kernel_rfl) (fun _ _ _ h => h) (Or.inl ⟨by rfl, ?_⟩) (by assumption) ?_
          rotate_left
          · (intro w hSw; (try dsimp only at hSw); go_simp; try rfl)
          try simp only [Act.put, List.setIfInBounds_toArray, List.set_cons_zero, List.set_cons_succ, List.getElem_toArray, List.getElem_cons_zero, List.getElem_cons_succ]
          refine wpAnyH_take (i := 15) (v := ?_) rfl (by kernel_rfl) (by kernel_rfl) (by kernel_rfl) (fun _ _ _ h => h) (Or.inl ⟨by rfl, ?_⟩) (by assumption) ?_
          rotate_left
          · (intro w hSw; (try dsimp only at hSw); go_simp; try rfl)
          try simp only [Act.put, List.setIfInBounds_toArray, List.set_cons_zero, List.set_cons_succ, List.getElem_toArray, List.getElem_cons_zero, List.getElem_cons_succ]
          refine wpAnyH_take (i := 16) (v := ?_) rfl (by kernel_rfl) (by kernel_rfl) (by kernel_rfl) (fun _ _ _ h => h) (Or.inl ⟨by rfl, ?_⟩) (by assumption) ?_
          rotate_left
          · (intro w hSw; (try dsimp only at hSw); go_simp; try rfl)
          try simp only [Act.put, List.setIfInBounds_toArray, List.set_cons_zero, List.set_cons_succ, List.getElem_toArray, List.getElem_cons_zero, List.getElem_cons_succ]
          refine wpAnyH_take (i := 17) (v := undef) rfl (by kernel_rfl) (by kernel_rfl) (by kernel_rfl) (fun _ _ _ h => h) (Or.inr ⟨by rfl, rfl⟩) (by assumption) ?_
          try simp only [Act.put, List.setIfInBounds_toArray, List.set_cons_zero, List.set_cons_succ, List.getElem_toArray, List.getElem_cons_zero, List.getElem_cons_succ]
          refine wpAnyH_take (i := 18) (v := undef) rfl (by kernel_rfl) (by kernel_rfl) (by kernel_rfl) (fun _ _ _ h => h) (Or.inr ⟨by rfl, rfl⟩) (by assumption) ?_
          try simp only [Act.put, List.setIfInBounds_toArray, List.set_cons_zero, List.set_cons_succ, List.getElem_toArray, List.getElem_cons_zero, List.getElem_cons_succ]
          refine wpAnyH_take (i := 19) (v := undef) rfl (by kernel_rfl) (by kernel_rfl) (by kernel_rfl) (fun _ _ _ h => h) (Or.inr ⟨by rfl, rfl⟩) (by assumption) ?_
          try simp only [Act.put, List.setIfInBounds_toArray, List.set_cons_zero, List.set_cons_succ, List.getElem_toArray, List.getElem_cons_zero, List.getElem_cons_succ]
          refine wpAnyH_take (i := 20) (v := undef) rfl (by kernel_rfl) (by kernel_rfl) (by kernel_rfl) (fun _ _ _ h => h) (Or.inr ⟨by rfl, rfl⟩) (by assumption) ?_
          try simp only [Act.put, List.setIfInBounds_toArray, List.set_cons_zero, List.set_cons_succ, List.getElem_toArray, List.getElem_cons_zero, List.getElem_cons_succ]
          refine wpAnyH_take (i := 21) (v := undef) rfl (by kernel_rfl) (by kernel_rfl) (by kernel_rfl) (fun _ _ _ h => h) (Or.inr ⟨by rfl, rfl⟩) (by assumption) ?_
          try simp only [Act.put, List.setIfInBounds_toArray, List.set_cons_zero, List.set_cons_succ, List.getElem_toArray, List.getElem_cons_zero, List.getElem_cons_succ]
          refine wpAnyH_take (i := 22) (v := undef) rfl (by kernel_rfl) (by kernel_rfl) (by kernel_rfl) (fun _ _ _ h => h) (Or.inr ⟨by rfl, rfl⟩) (by assumption) ?_
          try simp only [Act.put, List.setIfInBounds_toArray, List.set_cons_zero, List.set_cons_succ, List.getElem_toArray, List.getElem_cons_zero, List.getElem_cons_succ]
          refine wpAnyH_take (i := 23) (v := undef) rfl (by kernel_rfl) (by kernel_rfl) (by kernel_rfl) (fun _ _ _ h => h) (Or.inr ⟨by rfl, rfl⟩) (by assumption) ?_
          try simp only [Act.put, List.setIfInBounds_toArray, List.set_cons_zero, List.set_cons_succ, List.getElem_toArray, List.getElem_cons_zero, List.getElem_cons_succ]
          refine wpAnyH_take (i := 24) (v := undef) rfl (by kernel_rfl) (by kernel_rfl) (by kernel_rfl) (fun _ _ _ h => h) (Or.inr ⟨by rfl, rfl⟩) (by assumption) ?_
          try simp only [Act.put, List.setIfInBounds_toArray, List.set_cons_zero, List.set_cons_succ, List.getElem_toArray, List.getElem_cons_zero, List.getElem_cons_succ]
          refine wpAnyH_take (i := 25) (v := undef) rfl (by kernel_rfl) (by kernel_rfl) (by kernel_rfl) (fun _ _ _ h => h) (Or.inr ⟨by rfl, rfl⟩) (by assumption) ?_
          try simp only [Act.put, List.setIfInBounds_toArray, List.set_cons_zero, List.set_cons_succ, List.getElem_toArray, List.getElem_cons_zero, List.getElem_cons_succ]
          refine wpAnyH_take (i := 26) (v := ?_) rfl (by kernel_rfl) (by kernel_rfl) (by kernel_rfl) (fun _ _ _ h => h) (Or.inl ⟨by rfl, ?_⟩) (by assumption) ?_
          rotate_left
          · (intro w hSw; (try dsimp only at hSw); go_simp; try rfl)
          try simp only [Act.put, List.setIfInBounds_toArray, List.set_cons_zero, List.set_cons_succ, List.getElem_toArray, List.getElem_cons_zero, List.getElem_cons_succ]
          refine wpAnyH_done (by kernel_rfl) ?_ _
          have HBE := Lib.hid hHeld.1
          clear hHeld HC
          go_wp2
          go_ret
          refine ⟨ret_bool ?_, HBW.out.trans (HBE.out.mono HBW.out.size)⟩
          rw [← HR.out]
          unfold vldA
          have h1 : l.any (oddA (i1, i2, i3)) = true := List.any_eq_true.2 ⟨_, HXM.out, HOD.out⟩
          simp only [h1, Bool.not_true, Bool.and_false]
        | false =>
          rw [hD] at he
          have hne := of_decide_eq_false hD
          cases gq : (y1 == i1) with
          | false =>
            have gn : (y1 != i1) = true := by simpa using gq
            have HOD : Hid (oddA (i1, i2, i3) (y1, y2, y3) = true) := Lib.hid ((oddA_iff _ _).2 (.inr (.inr (by simpa using gq))))
            clear p0 p1 p2 r0 q0 q1 q2 HVV hD hne
            go_wp2_with fail
            refine wp_region_held_drew (S := (fun w' => Below wr.heap.size wr w' ∧ w'.cell? ⟨w.heap.size, 0, none⟩ = some (.int .i64 i1) ∧ w'.cell? ⟨w.heap.size, 1, none⟩ = some (.int .i64 i2) ∧ w'.cell? ⟨w.heap.size, 2, none⟩ = some (.int .i64 i3) ∧ w'.cell? ⟨w.heap.size + 1, 0, none⟩ = some (.int .i64 s) ∧ w'.cell? ⟨w.heap.size + 1, 1, none⟩ = some (.slice (some ⟨g2, off2, none⟩) N c) ∧ w'.cell? ⟨g2, off2 + k * 3, none⟩ = some (.int .i64 y1) ∧ w'.cell? ⟨g2, off2 + k * 3 + 1, none⟩ = some (.int .i64 y2) ∧ w'.cell? ⟨g2, off2 + k * 3 + 2, none⟩ = some (.int .i64 y3))) (by kernel_rfl) ?_ (fun hHeld => ?_)
            · ((first
                  | exact HC.out _ hS5
                  | exact HC.out _ (Below.alloc hHeld.1 (Below.size hHeld.1) _)
                  | exact HC.out _ (Below.drew hHeld.1)
                  | exact HC.out _ (Below.refl _ _).drew
                  | exact HC.out _ (Below.refl _ _)
                  | fail))
            refine wpAnyH_take (i := 0) (v := ?_) rfl (by kernel_rfl) (by kernel_rfl) (by kernel_rfl) (fun _ _ _ h => h) (Or.inl ⟨by rfl, ?_⟩) (by assumption) ?_
            rotate_left
            · (intro w hSw; (try dsimp only at hSw); go_simp; try rfl)
            try simp only [Act.put, List.setIfInBounds_toArray, List.set_cons_zero, List.set_cons_succ, List.getElem_toArray, List.getElem_cons_zero, List.getElem_cons_succ]
            refine wpAnyH_take (i := 1) (v := ?_) rfl (by kernel_rfl) (by kernel_rfl) (by kernel_rfl) (fun _ _ _ h => h) (Or.inl ⟨by rfl, ?_⟩) (by assumption) ?_
            rotate_left
            · (intro w hSw; (try dsimp only at hSw); go_simp; try rfl)
            try simp only [Act.put, List.setIfInBounds_toArray, List.set_cons_zero, List.set_cons_succ, List.getElem_toArray, List.getElem_cons_zero, List.getElem_cons_succ]
            refine wpAnyH_take (i := 2) (v := ?_) rfl (by kernel_rfl) (by kernel_rfl) (by kernel_rfl) (fun _ _ _ h => h) (Or.inl ⟨by rfl, ?_⟩) (by assumption) ?_
            rotate_left
            · (intro w hSw; (try dsimp only at hSw); go_simp; try rfl)
            try simp only [Act.put, List.setIfInBounds_toArray, List.set_cons_zero, List.set_cons_succ, List.getElem_toArray, List.getElem_cons_zero, List.getElem_cons_succ]
            refine wpAnyH_take (i := 3) (v := ?_) rfl (by kernel_rfl) (by kernel_rfl) (by kernel_rfl) (fun _ _ _ h => h) (Or.inl ⟨by rfl, ?_⟩) (by assumption) ?_
            rotate_left
            · (intro w hSw; (try dsimp only at hSw); go_simp; try rfl)
            try simp only [Act.put, List.setIfInBounds_toArray, List.set_cons_zero, List.set_cons_succ, List.getElem_toArray, List.getElem_cons_zero, List.getElem_cons_succ]
            refine wpAnyH_take (i := 4) (v := ?_) rfl (by kernel_rfl) (by kernel_rfl) (by kernel_rfl) (fun _ _ _ h => h) (Or.inl ⟨by rfl, ?_⟩) (by assumption) ?_
            rotate_left
            · (intro w hSw; (try dsimp only at hSw); go_simp; try rfl)
            try simp only [Act.put, List.setIfInBounds_toArray, List.set_cons_zero, List.set_cons_succ, List.getElem_toArray, List.getElem_cons_zero, List.getElem_cons_succ]
            refine wpAnyH_ready (rs := [5]) (by kernel_rfl) (by simp) ?_
            refine (AllReadyH.cons rfl (fun K hK => ?_) AllReadyH.nil)
            go_simp
            (go_at_call 28; refine (CV.out _ hHeld.1).mono ?_; rintro e w5 ⟨rfl, hbw5⟩; have hS5 : Below wr.heap.size wr w5 := below_self hHeld.1 hbw5)
            refine hK.out _ _ ?_ (fun hHeldN => ?_)
            · ((first
                  | exact HC.out _ hS5
                  | exact HC.out _ (Below.alloc hHeld.1 (Below.size hHeld.1) _)
                  | exact HC.out _ (Below.drew hHeld.1)
                  | exact HC.out _ (Below.refl _ _).drew
                  | exact HC.out _ (Below.refl _ _)
                  | fail))
            clear hK K
            try clear hS5 hbw5
            try clear hPrev
            have hPrev := Lib.hid hHeld.1
            clear hHeld
            have hHeld := hHeldN
            clear hHeldN
            try simp only [Act.put, List.setIfInBounds_toArray, List.set_cons_zero, List.set_cons_succ, List.getElem_toArray, List.getElem_cons_zero, List.getElem_cons_succ]
            refine wpAnyH_take (i := 6) (v := ?_) rfl (by kernel_rfl) (by kernel_rfl) (by kernel_rfl) (fun _ _ _ h => h) (Or.inl ⟨by rfl, ?_⟩) (by assumption) ?_
            rotate_left
            · (intro w hSw; (try dsimp only at hSw); go_simp; try rfl)
            try simp only [Act.put, List.setIfInBounds_toArray, List.set_cons_zero, List.set_cons_succ, List.getElem_toArray, List.getElem_cons_zero, List.getElem_cons_succ]
            refine wpAnyH_take (i := 7) (v := ?_) rfl (by kernel_rfl) (by kernel_rfl) (by kernel_rfl) (fun _ _ _ h => h) (Or.inl ⟨by rfl, ?_⟩) (by assumption) ?_
            rotate_left
            · (intro w hSw; (try dsimp only at hSw); go_simp; try rfl)
            try simp only [Act.put, List.setIfInBounds_toArray, List.set_cons_zero, List.set_cons_succ, List.getElem_toArray, List.getElem_cons_zero, List.getElem_cons_succ]
            refine wpAnyH_take (i := 8) (v := ?_) rfl (by kernel_rfl) (by kernel_rfl) (by kernel_rfl) (fun _ _ _ h => h) (Or.inl ⟨by rfl, ?_⟩) (by assumption) ?_
            rotate_left
            · (intro w hSw; (try dsimp only at hSw); go_simp; try rfl)
            try simp only [Act.put, List.setIfInBounds_toArray, List.set_cons_zero, List.set_cons_succ, List.getElem_toArray, List.getElem_cons_zero, List.getElem_cons_succ]
            refine wpAnyH_take (i := 9) (v := ?_) rfl (by kernel_rfl) (by kernel_rfl) (by kernel_rfl) (fun _ _ _ h => h) (Or.inl ⟨by rfl, ?_⟩) (by assumption) ?_
            rotate_left
            · (intro w hSw; (try dsimp only at hSw); go_simp; try rfl)
            try simp only [Act.put, List.setIfInBounds_toArray, List.set_cons_zero, List.set_cons_succ, List.getElem_toArray, List.getElem_cons_zero, List.getElem_cons_succ]
            refine wpAnyH_take (i := 10) (v := ?_) rfl (by kernel_rfl) (by kernel_rfl) (by kernel_rfl) (fun _ _ _ h => h) (Or.inl ⟨by rfl, ?_⟩) (by assumption) ?_
            rotate_left
            · (intro w hSw; (try dsimp only at hSw); go_simp; try rfl)
            try simp only [Act.put, List.setIfInBounds_toArray, List.set_cons_zero, List.set_cons_succ, List.getElem_toArray, List.getElem_cons_zero, List.getElem_cons_succ]
            refine wpAnyH_take (i := 11) (v := ?_) rfl (by kernel_rfl) (by kernel_rfl) (by kernel_rfl) (fun _ _ _ h => h) (Or.inl ⟨by rfl, ?_⟩) (by assumption) ?_
            rotate_left
            · (intro w hSw; (try dsimp only at hSw); go_simp; try rfl)
            try simp only [Act.put, List.setIfInBounds_toArray, List.set_cons_zero, List.set_cons_succ, List.getElem_toArray, List.getElem_cons_zero, List.getElem_cons_succ]
            refine wpAnyH_take (i := 12) (v := ?_) rfl (by kernel_rfl) (by kernel_rfl) (by kernel_rfl) (fun _ _ _ h => h) (Or.inl ⟨by rfl, ?_⟩) (by assumption) ?_
            rotate_left
            · (intro w hSw; (try dsimp only at hSw); go_simp; try rfl)
            try simp only [Act.put, List.setIfInBounds_toArray, List.set_cons_zero, List.set_cons_succ, List.getElem_toArray, List.getElem_cons_zero, List.getElem_cons_succ]
            refine wpAnyH_take (i := 13) (v := ?_) rfl (by kernel_rfl) (by kernel_rfl) (by kernel_rfl) (fun _ _ _ h => h) (Or.inl ⟨by rfl, ?_⟩) (by assumption) ?_
            rotate_left
            · (intro w hSw; (try dsimp only at hSw); go_simp; try rfl)
            try simp only [Act.put, List.setIfInBounds_toArray, List.set_cons_zero, List.set_cons_succ, List.getElem_toArray, List.getElem_cons_zero, List.getElem_cons_succ]
            refine wpAnyH_take (i := 14) (v := ?_) rfl (by kernel_rfl) (by kernel_rfl) (by kernel_rfl) (fun _ _ _ h => h) (Or.inl ⟨by rfl, ?_⟩) (by assumption) ?_
            rotate_left
            · (intro w hSw; (try dsimp only at hSw); go_simp; try rfl)
            try simp only [Act.put, List.setIfInBounds_toArray, List.set_cons_zero, List.set_cons_succ, List.getElem_toArray, List.getElem_cons_zero, List.getElem_cons_succ]
            refine wpAnyH_take (i := 15) (v := ?_) rfl (by kernel_rfl) (by kernel_rfl) (by kernel_rfl) (fun _ _ _ h => h) (Or.inl ⟨by rfl, ?_⟩) (by assumption) ?_
            rotate_left
            · (intro w hSw; (try dsimp only at hSw); go_simp; try rfl)
            try simp only [Act.put, List.setIfInBounds_toArray, List.set_cons_zero, List.set_cons_succ, List.getElem_toArray, List.getElem_cons_zero, List.getElem_cons_succ]
            refine wpAnyH_take (i := 16) (v := ?_) rfl (by kernel_rfl) (by kernel_rfl) (by kernel_rfl) (fun _ _ _ h => h) (Or.inl ⟨by rfl, ?_⟩) (by assumption) ?_
            rotate_left
            · (intro w hSw; (try dsimp only at hSw); go_simp; try rfl)
            try simp only [Act.put, List.setIfInBounds_toArray, List.set_cons_zero, List.set_cons_succ, List.getElem_toArray, List.getElem_cons_zero, List.getElem_cons_succ]
            refine wpAnyH_take (i := 17) (v := ?_) rfl (by kernel_rfl) (by kernel_rfl) (by kernel_rfl) (fun _ _ _ h => h) (Or.inl ⟨by rfl, ?_⟩) (by assumption) ?_
            rotate_left
            · (intro w hSw; (try dsimp only at hSw); go_simp; try rfl)
            try simp only [Act.put, List.setIfInBounds_toArray, List.set_cons_zero, List.set_cons_succ, List.getElem_toArray, List.getElem_cons_zero, List.getElem_cons_succ]
            refine wpAnyH_take (i := 18) (v := ?_) rfl (by kernel_rfl) (by kernel_rfl) (by kernel_rfl) (fun _ _ _ h => h) (Or.inl ⟨by rfl, ?_⟩) (by assumption) ?_
            rotate_left
            · (intro w hSw; (try dsimp only at hSw); go_simp; try rfl)
            try simp only [Act.put, List.setIfInBounds_toArray, List.set_cons_zero, List.set_cons_succ, List.getElem_toArray, List.getElem_cons_zero, List.getElem_cons_succ]
            refine wpAnyH_take (i := 19) (v := ?_) rfl (by kernel_rfl) (by kernel_rfl) (by kernel_rfl) (fun _ _ _ h => h) (Or.inl ⟨by rfl, ?_⟩) (by assumption) ?_
            rotate_left
            · (intro w hSw; (try dsimp only at hSw); go_simp; try rfl)
            try simp only [Act.put, List.setIfInBounds_toArray, List.set_cons_zero, List.set_cons_succ, List.getElem_toArray, List.getElem_cons_zero, List.getElem_cons_succ]
            refine wpAnyH_take (i := 20) (v := ?_) rfl (by kernel_rfl) (by kernel_rfl) (by kernel_rfl) (fun _ _ _ h => h) (Or.inl ⟨by rfl, ?_⟩) (by assumption) ?_
            rotate_left
            · (intro w hSw; (try dsimp only at hSw); go_simp; try rfl)
            try simp only [Act.put, List.setIfInBounds_toArray, List.set_cons_zero, List.set_cons_succ, List.getElem_toArray, List.getElem_cons_zero, List.getElem_cons_succ]
            refine wpAnyH_take (i := 21) (v := ?_) rfl (by kernel_rfl) (by kernel_rfl) (by kernel_rfl) (fun _ _ _ h => h) (Or.inl ⟨by rfl, ?_⟩) (by assumption) ?_
            rotate_left
            · (intro w hSw; (try dsimp only at hSw); go_simp; try rfl)
            try simp only [Act.put, List.setIfInBounds_toArray, List.set_cons_zero, List.set_cons_succ, List.getElem_toArray, List.getElem_cons_zero, List.getElem_cons_succ]
            refine wpAnyH_take (i := 22) (v := ?_) rfl (by kernel_rfl) (by kernel_rfl) (by kernel_rfl) (fun _ _ _ h => h) (Or.inl ⟨by rfl, ?_⟩) (by assumption) ?_
            rotate_left
            · (intro w hSw; (try dsimp only at hSw); go_simp; try rfl)
            try simp only [Act.put, List.setIfInBounds_toArray, List.set_cons_zero, List.set_cons_succ, List.getElem_toArray, List.getElem_cons_zero, List.getElem_cons_succ]
            refine wpAnyH_take (i := 23) (v := ?_) rfl (by kernel_rfl) (by kernel_rfl) (by kernel_rfl) (fun _ _ _ h => h) (Or.inl ⟨by rfl, ?_⟩) (by assumption) ?_
            rotate_left
            · (intro w hSw; (try dsimp only at hSw); go_simp; try rfl)
            try simp only [Act.put, List.setIfInBounds_toArray, List.set_cons_zero, List.set_cons_succ, List.getElem_toArray, List.getElem_cons_zero, List.getElem_cons_succ]
            refine wpAnyH_take (i := 24) (v := ?_) rfl (by kernel_rfl) (by kernel_rfl) (by kernel_rfl) (fun _ _ _ h => h) (Or.inl ⟨by rfl, ?_⟩) (by assumption) ?_
            rotate_left
            · (intro w hSw; (try dsimp only at hSw); go_simp; try rfl)
            try simp only [Act.put, List.setIfInBounds_toArray, List.set_cons_zero, List.set_cons_succ, List.getElem_toArray, List.getElem_cons_zero, List.getElem_cons_succ]
            refine wpAnyH_take (i := 25) (v := ?_) rfl (by kernel_rfl) (by kernel_rfl) (by kernel_rfl) (fun _ _ _ h => h) (Or.inl ⟨by rfl, ?_⟩) (by assumption) ?_
            rotate_left
            · (intro w hSw; (try dsimp only at hSw); go_simp; try rfl)
            try simp only [Act.put, List.setIfInBounds_toArray, List.set_cons_zero, List.set_cons_succ, List.getElem_toArray, List.getElem_cons_zero, List.getElem_cons_succ]
            refine wpAnyH_take (i := 26) (v := ?_) rfl (by kernel_rfl) (by kernel_rfl) (by kernel_rfl) (fun _ _ _ h => h) (Or.inl ⟨by rfl, ?_⟩) (by assumption) ?_
            rotate_left
            · (intro w hSw; (try dsimp only at hSw); go_simp; try rfl)
            try simp only [Act.put, List.setIfInBounds_toArray, List.set_cons_zero, List.set_cons_succ, List.getElem_toArray, List.getElem_cons_zero, List.getElem_cons_succ]
            refine wpAnyH_done (by kernel_rfl) ?_ _
            have HBE := Lib.hid hHeld.1
            clear hHeld HC
            go_wp2
            go_ret
            refine ⟨ret_bool ?_, HBW.out.trans (HBE.out.mono HBW.out.size)⟩
            rw [← HR.out]
            unfold vldA
            have h1 : l.any (oddA (i1, i2, i3)) = true := List.any_eq_true.2 ⟨_, HXM.out, HOD.out⟩
            simp only [h1, Bool.not_true, Bool.and_false]
          | true =>
            have gn : (y1 != i1) = false := by simp at gq; simp [gq]
            have HOD : Hid (oddA (i1, i2, i3) (y1, y2, y3) = false) := Lib.hid (by
              rw [Bool.eq_false_iff]
              intro q
              rcases (oddA_iff _ _).1 q with q | q | q
              · rw [HVV.out] at q; cases q
              · exact hne q
              · exact q (by simpa using gq))
            clear p0 p1 p2 r0 q0 q1 q2 HVV hD hne
            go_wp2_with fail
            refine wp_region_held_drew (S := (fun w' => Below wr.heap.size wr w' ∧ w'.cell? ⟨w.heap.size, 0, none⟩ = some (.int .i64 i1) ∧ w'.cell? ⟨w.heap.size, 1, none⟩ = some (.int .i64 i2) ∧ w'.cell? ⟨w.heap.size, 2, none⟩ = some (.int .i64 i3) ∧ w'.cell? ⟨w.heap.size + 1, 0, none⟩ = some (.int .i64 s) ∧ w'.cell? ⟨w.heap.size + 1, 1, none⟩ = some (.slice (some ⟨g2, off2, none⟩) N c) ∧ w'.cell? ⟨g2, off2 + k * 3, none⟩ = some (.int .i64 y1) ∧ w'.cell? ⟨g2, off2 + k * 3 + 1, none⟩ = some (.int .i64 y2) ∧ w'.cell? ⟨g2, off2 + k * 3 + 2, none⟩ = some (.int .i64 y3))) (by kernel_rfl) ?_ (fun hHeld => ?_)
            · ((first
                  | exact HC.out _ hS5
                  | exact HC.out _ (Below.alloc hHeld.1 (Below.size hHeld.1) _)
                  | exact HC.out _ (Below.drew hHeld.1)
                  | exact HC.out _ (Below.refl _ _).drew
                  | exact HC.out _ (Below.refl _ _)
                  | fail))
            refine wpAnyH_take (i := 0) (v := ?_) rfl (by kernel_rfl) (by kernel_rfl) (by kernel_rfl) (fun _ _ _ h => h) (Or.inl ⟨by rfl, ?_⟩) (by assumption) ?_
            rotate_left
            · (intro w hSw; (try dsimp only at hSw); go_simp; try rfl)
            try simp only [Act.put, List.setIfInBounds_toArray, List.set_cons_zero, List.set_cons_succ, List.getElem_toArray, List.getElem_cons_zero, List.getElem_cons_succ]
            refine wpAnyH_take (i := 1) (v := ?_) rfl (by kernel_rfl) (by kernel_rfl) (by kernel_rfl) (fun _ _ _ h => h) (Or.inl ⟨by rfl, ?_⟩) (by assumption) ?_
            rotate_left
            · (intro w hSw; (try dsimp only at hSw); go_simp; try rfl)
            try simp only [Act.put, List.setIfInBounds_toArray, List.set_cons_zero, List.set_cons_succ, List.getElem_toArray, List.getElem_cons_zero, List.getElem_cons_succ]
            refine wpAnyH_take (i := 2) (v := ?_) rfl (by kernel_rfl) (by kernel_rfl) (by kernel_rfl) (fun _ _ _ h => h) (Or.inl ⟨by rfl, ?_⟩) (by assumption) ?_
            rotate_left
            · (intro w hSw; (try dsimp only at hSw); go_simp; try rfl)
            try simp only [Act.put, List.setIfInBounds_toArray, List.set_cons_zero, List.set_cons_succ, List.getElem_toArray, List.getElem_cons_zero, List.getElem_cons_succ]
            refine wpAnyH_take (i := 3) (v := ?_) rfl (by kernel_rfl) (by kernel_rfl) (by kernel_rfl) (fun _ _ _ h => h) (Or.inl ⟨by rfl, ?_⟩) (by assumption) ?_
            rotate_left
            · (intro w hSw; (try dsimp only at hSw); go_simp; try rfl)
            try simp only [Act.put, List.setIfInBounds_toArray, List.set_cons_zero, List.set_cons_succ, List.getElem_toArray, List.getElem_cons_zero, List.getElem_cons_succ]
            refine wpAnyH_take (i := 4) (v := ?_) rfl (by kernel_rfl) (by kernel_rfl) (by kernel_rfl) (fun _ _ _ h => h) (Or.inl ⟨by rfl, ?_⟩) (by assumption) ?_
            rotate_left
            · (intro w hSw; (try dsimp only at hSw); go_simp; try rfl)
            try simp only [Act.put, List.setIfInBounds_toArray, List.set_cons_zero, List.set_cons_succ, List.getElem_toArray, List.getElem_cons_zero, List.getElem_cons_succ]
            refine wpAnyH_ready (rs := [5]) (by kernel_rfl) (by simp) ?_
            refine (AllReadyH.cons rfl (fun K hK => ?_) AllReadyH.nil)
            go_simp
            (go_at_call 28; refine (CV.out _ hHeld.1).mono ?_; rintro e w5 ⟨rfl, hbw5⟩; have hS5 : Below wr.heap.size wr w5 := below_self hHeld.1 hbw5)
            refine hK.out _ _ ?_ (fun hHeldN => ?_)
            · ((first
                  | exact HC.out _ hS5
                  | exact HC.out _ (Below.alloc hHeld.1 (Below.size hHeld.1) _)
                  | exact HC.out _ (Below.drew hHeld.1)
                  | exact HC.out _ (Below.refl _ _).drew
                  | exact HC.out _ (Below.refl _ _)
                  | fail))
            clear hK K
            try clear hS5 hbw5
            try clear hPrev
            have hPrev := Lib.hid hHeld.1
            clear hHeld
            have hHeld := hHeldN
            clear hHeldN
            try simp only [Act.put, List.setIfInBounds_toArray, List.set_cons_zero, List.set_cons_succ, List.getElem_toArray, List.getElem_cons_zero, List.getElem_cons_succ]
            refine wpAnyH_take (i := 6) (v := ?_) rfl (by kernel_rfl) (by kernel_rfl) (by kernel_rfl) (fun _ _ _ h => h) (Or.inl ⟨by rfl, ?_⟩) (by assumption) ?_
            rotate_left
            · (intro w hSw; (try dsimp only at hSw); go_simp; try rfl)
            try simp only [Act.put, List.setIfInBounds_toArray, List.set_cons_zero, List.set_cons_succ, List.getElem_toArray, List.getElem_cons_zero, List.getElem_cons_succ]
            refine wpAnyH_take (i := 7) (v := ?_) rfl (by kernel_rfl) (by kernel_rfl) (by kernel_rfl) (fun _ _ _ h => h) (Or.inl ⟨by rfl, ?_⟩) (by assumption) ?_
            rotate_left
            · (intro w hSw; (try dsimp only at hSw); go_simp; try rfl)
            try simp only [Act.put, List.setIfInBounds_toArray, List.set_cons_zero, List.set_cons_succ, List.getElem_toArray, List.getElem_cons_zero, List.getElem_cons_succ]
            refine wpAnyH_take (i := 8) (v := ?_) rfl (by kernel_rfl) (by kernel_rfl) (by kernel_rfl) (fun _ _ _ h => h) (Or.inl ⟨by rfl, ?_⟩) (by assumption) ?_
            rotate_left
            · (intro w hSw; (try dsimp only at hSw); go_simp; try rfl)
            try simp only [Act.put, List.setIfInBounds_toArray, List.set_cons_zero, List.set_cons_succ, List.getElem_toArray, List.getElem_cons_zero, List.getElem_cons_succ]
            refine wpAnyH_take (i := 9) (v := ?_) rfl (by kernel_rfl) (by kernel_rfl) (by kernel_rfl) (fun _ _ _ h => h) (Or.inl ⟨by rfl, ?_⟩) (by assumption) ?_
            rotate_left
            · (intro w hSw; (try dsimp only at hSw); go_simp; try rfl)
            try simp only [Act.put, List.setIfInBounds_toArray, List.set_cons_zero, List.set_cons_succ, List.getElem_toArray, List.getElem_cons_zero, List.getElem_cons_succ]
            refine wpAnyH_take (i := 10) (v := ?_) rfl (by kernel_rfl) (by kernel_rfl) (by kernel_rfl) (fun _ _ _ h => h) (Or.inl ⟨by rfl, ?_⟩) (by assumption) ?_
            rotate_left
            · (intro w hSw; (try dsimp only at hSw); go_simp; try rfl)
            try simp only [Act.put, List.setIfInBounds_toArray, List.set_cons_zero, List.set_cons_succ, List.getElem_toArray, List.getElem_cons_zero, List.getElem_cons_succ]
            refine wpAnyH_take (i := 11) (v := ?_) rfl (by kernel_rfl) (by kernel_rfl) (by kernel_rfl) (fun _ _ _ h => h) (Or.inl ⟨by rfl, ?_⟩) (by assumption) ?_
            rotate_left
            · (intro w hSw; (try dsimp only at hSw); go_simp; try rfl)
            try simp only [Act.put, List.setIfInBounds_toArray, List.set_cons_zero, List.set_cons_succ, List.getElem_toArray, List.getElem_cons_zero, List.getElem_cons_succ]
            refine wpAnyH_take (i := 12) (v := ?_) rfl (by kernel_rfl) (by kernel_rfl) (by kernel_rfl) (fun _ _ _ h => h) (Or.inl ⟨by rfl, ?_⟩) (by assumption) ?_
            rotate_left
            · (intro w hSw; (try dsimp only at hSw); go_simp; try rfl)
            try simp only [Act.put, List.setIfInBounds_toArray, List.set_cons_zero, List.set_cons_succ, List.getElem_toArray, List.getElem_cons_zero, List.getElem_cons_succ]
            refine wpAnyH_take (i := 13) (v := ?_) rfl (by kernel_rfl) (by kernel_rfl) (by kernel_rfl) (fun _ _ _ h => h) (Or.inl ⟨by rfl, ?_⟩) (by assumption) ?_
            rotate_left
            · (intro w hSw; (try dsimp only at hSw); go_simp; try rfl)
            try simp only [Act.put, List.setIfInBounds_toArray, List.set_cons_zero, List.set_cons_succ, List.getElem_toArray, List.getElem_cons_zero, List.getElem_cons_succ]
            refine wpAnyH_take (i := 14) (v := ?_) rfl (by kernel_rfl) (by kernel_rfl) (by kernel_rfl) (fun _ _ _ h => h) (Or.inl ⟨by rfl, ?_⟩) (by assumption) ?_
            rotate_left
            · (intro w hSw; (try dsimp only at hSw); go_simp; try rfl)
            try simp only [Act.put, List.setIfInBounds_toArray, List.set_cons_zero, List.set_cons_succ, List.getElem_toArray, List.getElem_cons_zero, List.getElem_cons_succ]
            refine wpAnyH_take (i := 15) (v := ?_) rfl (by kernel_rfl) (by kernel_rfl) (by kernel_rfl) (fun _ _ _ h => h) (Or.inl ⟨by rfl, ?_⟩) (by assumption) ?_
            rotate_left
            · (intro w hSw; (try dsimp only at hSw); go_simp; try rfl)
            try simp only [Act.put, List.setIfInBounds_toArray, List.set_cons_zero, List.set_cons_succ, List.getElem_toArray, List.getElem_cons_zero, List.getElem_cons_succ]
            refine wpAnyH_take (i := 16) (v := ?_) rfl (by kernel_rfl) (by kernel_rfl) (by kernel_rfl) (fun _ _ _ h => h) (Or.inl ⟨by rfl, ?_⟩) (by assumption) ?_
            rotate_left
            · (intro w hSw; (try dsimp only at hSw); go_simp; try rfl)
            try simp only [Act.put, List.setIfInBounds_toArray, List.set_cons_zero, List.set_cons_succ, List.getElem_toArray, List.getElem_cons_zero, List.getElem_cons_succ]
            refine wpAnyH_take (i := 17) (v := ?_) rfl (by kernel_rfl) (by kernel_rfl) (by kernel_rfl) (fun _ _ _ h => h) (Or.inl ⟨by rfl, ?_⟩) (by assumption) ?_
            rotate_left
            · (intro w hSw; (try dsimp only at hSw); go_simp; try rfl)
            try simp only [Act.put, List.setIfInBounds_toArray, List.set_cons_zero, List.set_cons_succ, List.getElem_toArray, List.getElem_cons_zero, List.getElem_cons_succ]
            refine wpAnyH_take (i := 18) (v := ?_) rfl (by kernel_rfl) (by kernel_rfl) (by kernel_rfl) (fun _ _ _ h => h) (Or.inl ⟨by rfl, ?_⟩) (by assumption) ?_
            rotate_left
            · (intro w hSw; (try dsimp only at hSw); go_simp; try rfl)
            try simp only [Act.put, List.setIfInBounds_toArray, List.set_cons_zero, List.set_cons_succ, List.getElem_toArray, List.getElem_cons_zero, List.getElem_cons_succ]
            refine wpAnyH_take (i := 19) (v := ?_) rfl (by kernel_rfl) (by kernel_rfl) (by kernel_rfl) (fun _ _ _ h => h) (Or.inl ⟨by rfl, ?_⟩) (by assumption) ?_
            rotate_left
            · (intro w hSw; (try dsimp only at hSw); go_simp; try rfl)
            try simp only [Act.put, List.setIfInBounds_toArray, List.set_cons_zero, List.set_cons_succ, List.getElem_toArray, List.getElem_cons_zero, List.getElem_cons_succ]
            refine wpAnyH_take (i := 20) (v := ?_) rfl (by kernel_rfl) (by kernel_rfl) (by kernel_rfl) (fun _ _ _ h => h) (Or.inl ⟨by rfl, ?_⟩) (by assumption) ?_
            rotate_left
            · (intro w hSw; (try dsimp only at hSw); go_simp; try rfl)
            try simp only [Act.put, List.setIfInBounds_toArray, List.set_cons_zero, List.set_cons_succ, List.getElem_toArray, List.getElem_cons_zero, List.getElem_cons_succ]
            refine wpAnyH_take (i := 21) (v := ?_) rfl (by kernel_rfl) (by kernel_rfl) (by kernel_rfl) (fun _ _ _ h => h) (Or.inl ⟨by rfl, ?_⟩) (by assumption) ?_
            rotate_left
            · (intro w hSw; (try dsimp only at hSw); go_simp; try rfl)
            try simp only [Act.put, List.setIfInBounds_toArray, List.set_cons_zero, List.set_cons_succ, List.getElem_toArray, List.getElem_cons_zero, List.getElem_cons_succ]
            refine wpAnyH_take (i := 22) (v := ?_) rfl (by kernel_rfl) (by kernel_rfl) (by kernel_rfl) (fun _ _ _ h => h) (Or.inl ⟨by rfl, ?_⟩) (by assumption) ?_
            rotate_left
            · (intro w hSw; (try dsimp only at hSw); go_simp; try rfl)
            try simp only [Act.put, List.setIfInBounds_toArray, List.set_cons_zero, List.set_cons_succ, List.getElem_toArray, List.getElem_cons_zero, List.getElem_cons_succ]
            refine wpAnyH_take (i := 23) (v := ?_) rfl (by kernel_rfl) (by kernel_rfl) (by kernel_rfl) (fun _ _ _ h => h) (Or.inl ⟨by rfl, ?_⟩) (by assumption) ?_
            rotate_left
            · (intro w hSw; (try dsimp only at hSw); go_simp; try rfl)
            try simp only [Act.put, List.setIfInBounds_toArray, List.set_cons_zero, List.set_cons_succ, List.getElem_toArray, List.getElem_cons_zero, List.getElem_cons_succ]
            refine wpAnyH_take (i := 24) (v := ?_) rfl (by kernel_rfl) (by kernel_rfl) (by kernel_rfl) (fun _ _ _ h => h) (Or.inl ⟨by rfl, ?_⟩) (by assumption) ?_
            rotate_left
            · (intro w hSw; (try dsimp only at hSw); go_simp; try rfl)
            try simp only [Act.put, List.setIfInBounds_toArray, List.set_cons_zero, List.set_cons_succ, List.getElem_toArray, List.getElem_cons_zero, List.getElem_cons_succ]
            refine wpAnyH_take (i := 25) (v := ?_) rfl (by kernel_rfl) (by kernel_rfl) (by kernel_rfl) (fun _ _ _ h => h) (Or.inl ⟨by rfl, ?_⟩) (by assumption) ?_
            rotate_left
            · (intro w hSw; (try dsimp only at hSw); go_simp; try rfl)
            try simp only [Act.put, List.setIfInBounds_toArray, List.set_cons_zero, List.set_cons_succ, List.getElem_toArray, List.getElem_cons_zero, List.getElem_cons_succ]
            refine wpAnyH_take (i := 26) (v := ?_) rfl (by kernel_rfl) (by kernel_rfl) (by kernel_rfl) (fun _ _ _ h => h) (Or.inl ⟨by rfl, ?_⟩) (by assumption) ?_
            rotate_left
            · (intro w hSw; (try dsimp only at hSw); go_simp; try rfl)
            try simp only [Act.put, List.setIfInBounds_toArray, List.set_cons_zero, List.set_cons_succ, List.getElem_toArray, List.getElem_cons_zero, List.getElem_cons_succ]
            refine wpAnyH_done (by kernel_rfl) ?_ _
            have HBE := Lib.hid hHeld.1
            clear hHeld HC
            have HF2 : Hid (∀ j, j < k + 1 → oddA (i1, i2, i3) (l.getD j (0, 0, 0)) = false) := Lib.hid (fun j hj => by
              by_cases e : j = k
              · subst e; rw [HX.out]; exact HOD.out
              · exact HF.out j (by omega))
            have HB2 := Lib.hid (HBW.out.trans (HBE.out.mono HBW.out.size))
            have HI2 := Lib.hid (HI.out.below HBE.out)
            have HA2 := Lib.hid (HA.out.below HBE.out)
            go_wp2
            go_roundw
            case rel => exact ⟨k + 1, by omega, by go_num, HB2, HI2, HA2, HF2⟩
            case measure => simp [intOf]; omega
    · obtain rfl : k = N := by omega
      have hodd : l.any (oddA (i1, i2, i3)) = false := by
        rw [List.any_eq_false]
        intro x hx q
        obtain ⟨j, hj, e⟩ := List.getElem_of_mem hx
        have := HF.out j (by rw [← HN.out]; exact hj)
        rw [List.getD, List.getElem?_eq_getElem hj, Option.getD_some, e, q] at this
        cases this
      have hRR : R = (decide (0 ≤ s) && (decide (s ≤ 1099511627776) && (decide (k ≤ 1024) && rgtI l))) := by
        rw [← HR.out]
        unfold vldA
        simp only [hodd, HN.out, Bool.not_false, Bool.and_true, Bool.and_assoc]
      clear hodd HF
      by_cases g1 : 0 ≤ s
      · have f1 : decide (0 ≤ s) = true := decide_eq_true g1
        by_cases g2 : s ≤ 1099511627776
        · have f2 : decide (s ≤ 1099511627776) = true := decide_eq_true g2
          by_cases g3 : (k : Int) ≤ 1024
          · have f3 : decide ((k : Int) ≤ 1024) = true := decide_eq_true g3
            have f4 : decide (k ≤ 1024) = true := decide_eq_true (by omega)
            simp only [f1, f2, f4, Bool.true_and] at hRR
            have hrt := rright_any (.slice a k c) l wr (HRD.out.below HBW.out) (by rw [HN.out]; omega)
            rw [← hRR] at hrt
            clear hRR
            have HRT := Lib.hid hrt
            clear hrt
            go_wp2_with fail
            refine HRT.out.mono ?_
            rintro e w5 ⟨rfl, hb⟩
            have HB5 := Lib.hid (below_self2 HBW.out hb)
            clear hb
            go_wp2
            go_ret
            exact ⟨rfl, HB5.out⟩
          · have f3 : decide ((k : Int) ≤ 1024) = false := decide_eq_false g3
            have f4 : decide (k ≤ 1024) = false := decide_eq_false (by omega)
            simp only [f1, f2, f4, Bool.true_and, Bool.false_and] at hRR
            subst hRR
            go_wp2
            go_ret
            exact ⟨rfl, HBW.out⟩
        · have f2 : decide (s ≤ 1099511627776) = false := decide_eq_false g2
          simp only [f1, f2, Bool.true_and, Bool.false_and] at hRR
          subst hRR
          go_wp2
          go_ret
          exact ⟨rfl, HBW.out⟩
      · have f1 : decide (0 ≤ s) = false := decide_eq_false g1
        simp only [f1, Bool.false_and] at hRR
        subst hRR
        go_wp2
        go_ret
        exact ⟨rfl, HBW.out⟩
set_option maxHeartbeats 16000000 in
theorem rlocal_any (v : Value) (rs : List (Cls 13)) (l : List Kn) (i1 i2 i3 : Int) (c : CM) (w : World) (h : RowIs KrK knS w v rs l) (hl : l.length ≤ 1000) (hs : ∀ k ∈ l, k.cm.pa.size ≤ 1000 ∧ k.a.1 ≤ 1125899906842624) (hp : c.pa.size ≤ 1000) :
    Calls Tryz.prog 9 #[v, .agg #[.int .i64 i1, .int .i64 i2, .int .i64 i3], cmV c] w (AttP (lclA l (i1, i2, i3) c) w) := by
  obtain ⟨a, ca, e⟩ := h.rd.slice
  subst e
  obtain ⟨N, hN⟩ : ∃ N, l.length = N := ⟨_, rfl⟩
  have hlen := h.len
  rw [hN] at hlen hl
  rw [hlen] at h ⊢
  have HN := Lib.hid hN
  have H := Lib.hid h
  have HS := Lib.hid hs
  have HP := Lib.hid hp
  obtain ⟨X, hX⟩ : ∃ X, ((w.alloc (.cells #[.int .i64 i1, .int .i64 i2, .int .i64 i3] 24)).alloc (.cells #[.int .i64 c.cl, .int .i64 c.sq, .int .i64 c.op, .string c.pa, .string c.va, .int .i64 c.ver, .int .i64 c.a, .int .i64 c.b] 27)).alloc (.cells #[.int .i64 0, .slice none 0 0] aT) = X := ⟨_, rfl⟩
  have HZX : Hid (X.heap.size = w.heap.size + 3) := Lib.hid (by rw [← hX]; simp)
  have HBX : Hid (Below w.heap.size w X) := Lib.hid (by rw [← hX]; exact al3 _ _ _ _)
  have HID : Hid (IdBox X w.heap.size (i1, i2, i3)) := Lib.hid (by rw [← hX]; exact (((Bk.newAt rfl _ _).old _).old _))
  have HCB : Hid (CmBox X (w.heap.size + 1) c) := Lib.hid (by rw [← hX]; exact ((Bk.newAt (by simp) _ _).old _))
  have HR : Hid (Bk X (w.heap.size + 2) aT [.int .i64 0, .slice none 0 0]) := Lib.hid (by rw [← hX]; exact Bk.newAt (by simp) _ _)
  clear h hN hlen hs hp
  go_enter Tryz.func9, Tryz.ntmps9
  go_wp2_with fail
  clear hX
  go_loopw [7, 8, 9] (fun d s i wr => ∃ (k : Nat) (v : Value), k ≤ N ∧ v = d ∧ i = .int .i64 k ∧ s = .int .i64 (mxS (((l.take k).filter (matK (i1, i2, i3) c)).map (·.a.1))) ∧ Hid (IK.Own wr (w.heap.size + 3) v (((l.take k).filter (matK (i1, i2, i3) c)).map (·.id))) ∧ Hid (Below (w.heap.size + 3) X wr)) (fun _ _ i _ => N - (intOf i).toNat)
  case atStart => exact ⟨0, _, Nat.zero_le _, rfl, rfl, rfl, Lib.hid (Knd.Own.nil X _), Lib.hid (Below.refl _ _)⟩
  case round =>
    obtain ⟨k, v, hk, rfl, rfl, rfl, hO, hB⟩ := hrel
    have hSb := mxS_bound 1125899906842624 (by omega) (((l.take k).filter (matK (i1, i2, i3) c)).map (·.a.1)) (fun x hx => by
      obtain ⟨y, hy, rfl⟩ := List.mem_map.1 hx
      exact (HS.out y (List.mem_of_mem_take (List.mem_filter.1 hy).1)).2)
    obtain ⟨S, hS⟩ : ∃ S, mxS (((l.take k).filter (matK (i1, i2, i3) c)).map (·.a.1)) = S := ⟨_, rfl⟩
    rw [hS] at hSb ⊢
    have HSS := Lib.hid hS
    obtain ⟨va, vc, hve⟩ := hO.out.slice
    obtain ⟨M, hM⟩ : ∃ M, (((l.take k).filter (matK (i1, i2, i3) c)).map (·.id)).length = M := ⟨_, rfl⟩
    have HML : Hid ((((l.take k).filter (matK (i1, i2, i3) c)).map (·.id)).length ≤ 1000) := Lib.hid (by
      rw [List.length_map]
      have h1 := List.length_filter_le (matK (i1, i2, i3) c) (l.take k)
      rw [List.length_take] at h1
      omega)
    rw [hM] at hve
    subst hve
    have HBw : Hid (Below w.heap.size w wr) := Lib.hid (HBX.out.trans (hB.out.mono (by omega)))
    have HIDr : Hid (IdBox wr w.heap.size (i1, i2, i3)) := Lib.hid (HID.out.on hB.out (by omega))
    have HCBr : Hid (CmBox wr (w.heap.size + 1) c) := Lib.hid (HCB.out.on hB.out (by omega))
    have HRr : Hid (Bk wr (w.heap.size + 2) aT [.int .i64 0, .slice none 0 0]) := Lib.hid (HR.out.on hB.out (by omega))
    have HZr : Hid (w.heap.size + 3 ≤ wr.heap.size) := Lib.hid (by have := hB.out.size; rw [HZX.out] at this; exact this)
    clear hS hM
    by_cases hlt : k < N
    · have hlt' : (k : Int) < (N : Int) := by omega
      have hkb : (k : Int) ≤ 1000 := by omega
      obtain ⟨e0, hkl, g2, off2, v2, hda, hg2, hc, hi0, hrd, hok2⟩ := krCell H.out k hlt
      subst hda
      obtain ⟨av, cv, hv2⟩ := hrd.slice
      obtain ⟨nv, hnv⟩ : ∃ nv, l[k].a.2.length = nv := ⟨_, rfl⟩
      rw [hnv] at hv2
      subst hv2
      obtain ⟨K1, hK1⟩ : ∃ K1, l[k] = K1 := ⟨_, rfl⟩
      have hmem : K1 ∈ l := by rw [← hK1]; exact List.getElem_mem hkl
      have hsz := HS.out K1 hmem
      have hts : l.take (k + 1) = l.take k ++ [K1] := by rw [List.take_succ_eq_append_getElem hkl, hK1]
      rw [hK1] at hc
      have HTS := Lib.hid hts
      obtain ⟨⟨x1, x2, x3⟩, ⟨d1, d2, d3, d4, d5, d6, d7, d8⟩, s2, l2⟩ := K1
      have hs2 := hsz.2
      simp only at hs2 hsz
      have q0 : wr.cell? ⟨g2, off2 + k * 13, none⟩ = some (.int .i64 x1) := (HBw.out.cell (p := ⟨g2, off2 + k * 13, none⟩) hg2).trans (hc 0 _ rfl)
      have q1 : wr.cell? ⟨g2, off2 + k * 13 + 1, none⟩ = some (.int .i64 x2) := (HBw.out.cell (p := ⟨g2, off2 + k * 13 + 1, none⟩) hg2).trans (hc 1 _ rfl)
      have q2 : wr.cell? ⟨g2, off2 + k * 13 + 2, none⟩ = some (.int .i64 x3) := (HBw.out.cell (p := ⟨g2, off2 + k * 13 + 2, none⟩) hg2).trans (hc 2 _ rfl)
      have q3 : wr.cell? ⟨g2, off2 + k * 13 + 3, none⟩ = some (.int .i64 d1) := (HBw.out.cell (p := ⟨g2, off2 + k * 13 + 3, none⟩) hg2).trans (hc 3 _ rfl)
      have q4 : wr.cell? ⟨g2, off2 + k * 13 + 4, none⟩ = some (.int .i64 d2) := (HBw.out.cell (p := ⟨g2, off2 + k * 13 + 4, none⟩) hg2).trans (hc 4 _ rfl)
      have q5 : wr.cell? ⟨g2, off2 + k * 13 + 5, none⟩ = some (.int .i64 d3) := (HBw.out.cell (p := ⟨g2, off2 + k * 13 + 5, none⟩) hg2).trans (hc 5 _ rfl)
      have q6 : wr.cell? ⟨g2, off2 + k * 13 + 6, none⟩ = some (.string d4) := (HBw.out.cell (p := ⟨g2, off2 + k * 13 + 6, none⟩) hg2).trans (hc 6 _ rfl)
      have q7 : wr.cell? ⟨g2, off2 + k * 13 + 7, none⟩ = some (.string d5) := (HBw.out.cell (p := ⟨g2, off2 + k * 13 + 7, none⟩) hg2).trans (hc 7 _ rfl)
      have q8 : wr.cell? ⟨g2, off2 + k * 13 + 8, none⟩ = some (.int .i64 d6) := (HBw.out.cell (p := ⟨g2, off2 + k * 13 + 8, none⟩) hg2).trans (hc 8 _ rfl)
      have q9 : wr.cell? ⟨g2, off2 + k * 13 + 9, none⟩ = some (.int .i64 d7) := (HBw.out.cell (p := ⟨g2, off2 + k * 13 + 9, none⟩) hg2).trans (hc 9 _ rfl)
      have q10 : wr.cell? ⟨g2, off2 + k * 13 + 10, none⟩ = some (.int .i64 d8) := (HBw.out.cell (p := ⟨g2, off2 + k * 13 + 10, none⟩) hg2).trans (hc 10 _ rfl)
      have q11 : wr.cell? ⟨g2, off2 + k * 13 + 11, none⟩ = some (.int .i64 s2) := (HBw.out.cell (p := ⟨g2, off2 + k * 13 + 11, none⟩) hg2).trans (hc 11 _ rfl)
      have q12 : wr.cell? ⟨g2, off2 + k * 13 + 12, none⟩ = some (.slice av nv cv) := (HBw.out.cell (p := ⟨g2, off2 + k * 13 + 12, none⟩) hg2).trans (hc 12 _ rfl)
      have HG2 := Lib.hid hg2
      have HQ11 : Hid (w.cell? ⟨g2, off2 + k * 13 + 11, none⟩ = some (.int .i64 s2)) := Lib.hid (hc 11 _ rfl)
      replace hg2 : g2 < wr.heap.size := Nat.lt_of_lt_of_le hg2 HBw.out.size
      have hz3 := HZr.out
      have hz1 : w.heap.size + 1 < wr.heap.size := by omega
      obtain ⟨m0, m1, m2, m3, m4, m5, m6, m7⟩ := cmBox_cells HCBr.out
      have HQ5 : Hid (∀ w' : World, Below wr.heap.size wr w' → (w'.cell? ⟨g2, off2 + k * 13, none⟩ = some (.int .i64 x1) ∧ w'.cell? ⟨g2, off2 + k * 13 + 1, none⟩ = some (.int .i64 x2) ∧ w'.cell? ⟨g2, off2 + k * 13 + 2, none⟩ = some (.int .i64 x3) ∧ w'.cell? ⟨g2, off2 + k * 13 + 11, none⟩ = some (.int .i64 s2))) := Lib.hid (fun w' hb => ⟨(hb.cell (p := ⟨g2, off2 + k * 13, none⟩) hg2).trans q0, (hb.cell (p := ⟨g2, off2 + k * 13 + 1, none⟩) hg2).trans q1, (hb.cell (p := ⟨g2, off2 + k * 13 + 2, none⟩) hg2).trans q2, (hb.cell (p := ⟨g2, off2 + k * 13 + 11, none⟩) hg2).trans q11⟩)
      obtain ⟨B, hBB⟩ : ∃ B, Tc.bth d1 d3 d4 c.cl c.op c.pa = B := ⟨_, rfl⟩
      have HBB := Lib.hid hBB
      have hp1 : d4.size ≤ 1000 := hsz.1
      have HC : Hid (∀ w' : World, Below wr.heap.size wr w' → (Below wr.heap.size wr w' ∧ w'.cell? ⟨w.heap.size + 1, 0, none⟩ = some (.int .i64 c.cl) ∧ w'.cell? ⟨w.heap.size + 1, 1, none⟩ = some (.int .i64 c.sq) ∧ w'.cell? ⟨w.heap.size + 1, 2, none⟩ = some (.int .i64 c.op) ∧ w'.cell? ⟨w.heap.size + 1, 3, none⟩ = some (.string c.pa) ∧ w'.cell? ⟨w.heap.size + 1, 4, none⟩ = some (.string c.va) ∧ w'.cell? ⟨w.heap.size + 1, 5, none⟩ = some (.int .i64 c.ver) ∧ w'.cell? ⟨w.heap.size + 1, 6, none⟩ = some (.int .i64 c.a) ∧ w'.cell? ⟨w.heap.size + 1, 7, none⟩ = some (.int .i64 c.b) ∧ w'.cell? ⟨g2, off2 + k * 13 + 3, none⟩ = some (.int .i64 d1) ∧ w'.cell? ⟨g2, off2 + k * 13 + 4, none⟩ = some (.int .i64 d2) ∧ w'.cell? ⟨g2, off2 + k * 13 + 5, none⟩ = some (.int .i64 d3) ∧ w'.cell? ⟨g2, off2 + k * 13 + 6, none⟩ = some (.string d4) ∧ w'.cell? ⟨g2, off2 + k * 13 + 7, none⟩ = some (.string d5) ∧ w'.cell? ⟨g2, off2 + k * 13 + 8, none⟩ = some (.int .i64 d6) ∧ w'.cell? ⟨g2, off2 + k * 13 + 9, none⟩ = some (.int .i64 d7) ∧ w'.cell? ⟨g2, off2 + k * 13 + 10, none⟩ = some (.int .i64 d8))) := Lib.hid (fun w' hb => ⟨hb, (hb.cell (p := ⟨w.heap.size + 1, 0, none⟩) hz1).trans m0, (hb.cell (p := ⟨w.heap.size + 1, 1, none⟩) hz1).trans m1, (hb.cell (p := ⟨w.heap.size + 1, 2, none⟩) hz1).trans m2, (hb.cell (p := ⟨w.heap.size + 1, 3, none⟩) hz1).trans m3, (hb.cell (p := ⟨w.heap.size + 1, 4, none⟩) hz1).trans m4, (hb.cell (p := ⟨w.heap.size + 1, 5, none⟩) hz1).trans m5, (hb.cell (p := ⟨w.heap.size + 1, 6, none⟩) hz1).trans m6, (hb.cell (p := ⟨w.heap.size + 1, 7, none⟩) hz1).trans m7, (hb.cell (p := ⟨g2, off2 + k * 13 + 3, none⟩) hg2).trans q3, (hb.cell (p := ⟨g2, off2 + k * 13 + 4, none⟩) hg2).trans q4, (hb.cell (p := ⟨g2, off2 + k * 13 + 5, none⟩) hg2).trans q5, (hb.cell (p := ⟨g2, off2 + k * 13 + 6, none⟩) hg2).trans q6, (hb.cell (p := ⟨g2, off2 + k * 13 + 7, none⟩) hg2).trans q7, (hb.cell (p := ⟨g2, off2 + k * 13 + 8, none⟩) hg2).trans q8, (hb.cell (p := ⟨g2, off2 + k * 13 + 9, none⟩) hg2).trans q9, (hb.cell (p := ⟨g2, off2 + k * 13 + 10, none⟩) hg2).trans q10⟩)
      have CB : Hid (∀ W : World, Below wr.heap.size wr W → Calls Tryz.prog 22 #[.agg #[.int .i64 d1, .int .i64 d2, .int .i64 d3, .string d4, .string d5, .int .i64 d6, .int .i64 d7, .int .i64 d8], .agg #[.int .i64 c.cl, .int .i64 c.sq, .int .i64 c.op, .string c.pa, .string c.va, .int .i64 c.ver, .int .i64 c.a, .int .i64 c.b]] W fun e w' => e = .returned (.bool B) ∧ Below W.heap.size W w') := Lib.hid (fun W hW => by
        have h := Tc.rboth_any d1 d2 d3 d4 d5 d6 d7 d8 c.cl c.sq c.op c.pa c.va c.ver c.a c.b W hp1 HP.out
        rw [hBB] at h
        exact h)
      clear hc hi0 hrd hok2 hnv hK1 hmem hsz hts e0 hBB hp1 q0 q1 q2 q3 q4 q5 q6 q7 q8 q9 q10 q11 q12 m0 m1 m2 m3 m4 m5 m6 m7
      go_wp2_with fail
      refine wp_region_held_drew (S := (fun w' => Below wr.heap.size wr w' ∧ w'.cell? ⟨w.heap.size + 1, 0, none⟩ = some (.int .i64 c.cl) ∧ w'.cell? ⟨w.heap.size + 1, 1, none⟩ = some (.int .i64 c.sq) ∧ w'.cell? ⟨w.heap.size + 1, 2, none⟩ = some (.int .i64 c.op) ∧ w'.cell? ⟨w.heap.size + 1, 3, none⟩ = some (.string c.pa) ∧ w'.cell? ⟨w.heap.size + 1, 4, none⟩ = some (.string c.va) ∧ w'.cell? ⟨w.heap.size + 1, 5, none⟩ = some (.int .i64 c.ver) ∧ w'.cell? ⟨w.heap.size + 1, 6, none⟩ = some (.int .i64 c.a) ∧ w'.cell? ⟨w.heap.size + 1, 7, none⟩ = some (.int .i64 c.b) ∧ w'.cell? ⟨g2, off2 + k * 13 + 3, none⟩ = some (.int .i64 d1) ∧ w'.cell? ⟨g2, off2 + k * 13 + 4, none⟩ = some (.int .i64 d2) ∧ w'.cell? ⟨g2, off2 + k * 13 + 5, none⟩ = some (.int .i64 d3) ∧ w'.cell? ⟨g2, off2 + k * 13 + 6, none⟩ = some (.string d4) ∧ w'.cell? ⟨g2, off2 + k * 13 + 7, none⟩ = some (.string d5) ∧ w'.cell? ⟨g2, off2 + k * 13 + 8, none⟩ = some (.int .i64 d6) ∧ w'.cell? ⟨g2, off2 + k * 13 + 9, none⟩ = some (.int .i64 d7) ∧ w'.cell? ⟨g2, off2 + k * 13 + 10, none⟩ = some (.int .i64 d8))) (by kernel_rfl) ?_ (fun hHeld => ?_)
      · ((first
      | exact HC.out _ hS5
      | exact HC.out _ (Below.alloc hHeld.1 (Below.size hHeld.1) _)
      | exact HC.out _ (Below.drew hHeld.1)
      | exact HC.out _ (Below.refl _ _).drew
      | exact HC.out _ (Below.refl _ _)
      | fail))
      refine wpAnyH_take (i := 0) (v := ?_) rfl (by kernel_rfl) (by kernel_rfl) (by kernel_rfl) (fun _ _ _ h => h) (Or.inl ⟨by rfl, ?_⟩) (by assumption) ?_
      rotate_left
      · (intro w hSw; (try dsimp only at hSw); go_simp; try rfl)
      try simp only [Act.put, List.setIfInBounds_toArray, List.set_cons_zero, List.set_cons_succ, List.getElem_toArray, List.getElem_cons_zero, List.getElem_cons_succ]
      refine wpAnyH_take (i := 1) (v := ?_) rfl (by kernel_rfl) (by kernel_rfl) (by kernel_rfl) (fun _ _ _ h => h) (Or.inl ⟨by rfl, ?_⟩) (by assumption) ?_
      rotate_left
      · (intro w hSw; (try dsimp only at hSw); go_simp; try rfl)
      try simp only [Act.put, List.setIfInBounds_toArray, List.set_cons_zero, List.set_cons_succ, List.getElem_toArray, List.getElem_cons_zero, List.getElem_cons_succ]
      refine wpAnyH_take (i := 2) (v := ?_) rfl (by kernel_rfl) (by kernel_rfl) (by kernel_rfl) (fun _ _ _ h => h) (Or.inl ⟨by rfl, ?_⟩) (by assumption) ?_
      rotate_left
      · (intro w hSw; (try dsimp only at hSw); go_simp; try rfl)
      try simp only [Act.put, List.setIfInBounds_toArray, List.set_cons_zero, List.set_cons_succ, List.getElem_toArray, List.getElem_cons_zero, List.getElem_cons_succ]
      refine wpAnyH_take (i := 3) (v := ?_) rfl (by kernel_rfl) (by kernel_rfl) (by kernel_rfl) (fun _ _ _ h => h) (Or.inl ⟨by rfl, ?_⟩) (by assumption) ?_
      rotate_left
      · (intro w hSw; (try dsimp only at hSw); go_simp; try rfl)
      try simp only [Act.put, List.setIfInBounds_toArray, List.set_cons_zero, List.set_cons_succ, List.getElem_toArray, List.getElem_cons_zero, List.getElem_cons_succ]
      refine wpAnyH_take (i := 4) (v := ?_) rfl (by kernel_rfl) (by kernel_rfl) (by kernel_rfl) (fun _ _ _ h => h) (Or.inl ⟨by rfl, ?_⟩) (by assumption) ?_
      rotate_left
      · (intro w hSw; (try dsimp only at hSw); go_simp; try rfl)
      try simp only [Act.put, List.setIfInBounds_toArray, List.set_cons_zero, List.set_cons_succ, List.getElem_toArray, List.getElem_cons_zero, List.getElem_cons_succ]
      refine wpAnyH_take (i := 5) (v := ?_) rfl (by kernel_rfl) (by kernel_rfl) (by kernel_rfl) (fun _ _ _ h => h) (Or.inl ⟨by rfl, ?_⟩) (by assumption) ?_
      rotate_left
      · (intro w hSw; (try dsimp only at hSw); go_simp; try rfl)
      try simp only [Act.put, List.setIfInBounds_toArray, List.set_cons_zero, List.set_cons_succ, List.getElem_toArray, List.getElem_cons_zero, List.getElem_cons_succ]
      refine wpAnyH_ready (rs := [6]) (by kernel_rfl) (by simp) ?_
      refine (AllReadyH.cons rfl (fun K hK => ?_) AllReadyH.nil)
      go_simp
      (go_at_call 22; refine (CB.out _ hHeld.1).mono ?_; rintro e w5 ⟨rfl, hbw5⟩; have hS5 : Below wr.heap.size wr w5 := below_self hHeld.1 hbw5)
      refine hK.out _ _ ?_ (fun hHeldN => ?_)
      · ((first
      | exact HC.out _ hS5
      | exact HC.out _ (Below.alloc hHeld.1 (Below.size hHeld.1) _)
      | exact HC.out _ (Below.drew hHeld.1)
      | exact HC.out _ (Below.refl _ _).drew
      | exact HC.out _ (Below.refl _ _)
      | fail))
      clear hK K
      try clear hS5 hbw5
      try clear hPrev
      have hPrev := Lib.hid hHeld.1
      clear hHeld
      have hHeld := hHeldN
      clear hHeldN
      try simp only [Act.put, List.setIfInBounds_toArray, List.set_cons_zero, List.set_cons_succ, List.getElem_toArray, List.getElem_cons_zero, List.getElem_cons_succ]
      refine wpAnyH_take (i := 7) (v := ?_) rfl (by kernel_rfl) (by kernel_rfl) (by kernel_rfl) (fun _ _ _ h => h) (Or.inl ⟨by rfl, ?_⟩) (by assumption) ?_
      rotate_left
      · (intro w hSw; (try dsimp only at hSw); go_simp; try rfl)
      try simp only [Act.put, List.setIfInBounds_toArray, List.set_cons_zero, List.set_cons_succ, List.getElem_toArray, List.getElem_cons_zero, List.getElem_cons_succ]
      refine wpAnyH_done (by kernel_rfl) ?_ _
      have HBE := Lib.hid hHeld.1
      clear hHeld HC CB
      have he5 : Below wr.heap.size wr w5 := HBE.out
      have HID5 := Lib.hid (HIDr.out.below he5)
      have HB5 : Hid (Below (w.heap.size + 3) X w5) := Lib.hid (hB.out.trans (he5.mono hz3))
      have HO5 := Lib.hid (hO.out.below he5)
      obtain ⟨p0, p1, p2⟩ := idBox_cells HID5.out
      have hzi := HID5.out.lt
      have hgw5 : g2 < w5.heap.size := Nat.lt_of_lt_of_le hg2 he5.size
      obtain ⟨y0, y1, y2, y11⟩ := HQ5.out _ he5
      obtain ⟨he, hgd⟩ := neI_run x1 x2 x3 i1 i2 i3
      clear he5
      cases hD1 : decide (((x1, x2, x3) : I3) = (i1, i2, i3)) with
      | true =>
        rw [hD1] at he
        have HD : Hid (matK (i1, i2, i3) c (⟨(x1, x2, x3), ⟨d1, d2, d3, d4, d5, d6, d7, d8⟩, s2, l2⟩ : Kn) = false) := Lib.hid (by unfold matK; simp only; rw [hD1]; rfl)
        clear hD1
        go_wp2_with fail
        go_quiet (fail)
        have HF : Hid ((l.take (k + 1)).filter (matK (i1, i2, i3) c) = (l.take k).filter (matK (i1, i2, i3) c)) := Lib.hid (by rw [HTS.out, List.filter_append]; simp [HD.out])
        go_wp2
        go_roundw
        case rel => exact ⟨k + 1, _, by omega, rfl, by go_num, by rw [HF.out, HSS.out], by rw [HF.out]; exact Lib.hid (HO5.out.below (below_drewN_q (Below.refl _ _) _)), Lib.hid (HB5.out.trans ((below_drewN_q (Below.refl _ _) _).mono (Nat.le_trans hz3 HBE.out.size)))⟩
        case measure => simp [intOf]; omega
      | false =>
        rw [hD1] at he
        cases gq : (x1 == i1) with
        | false =>
          have HD : Hid (matK (i1, i2, i3) c (⟨(x1, x2, x3), ⟨d1, d2, d3, d4, d5, d6, d7, d8⟩, s2, l2⟩ : Kn) = false) := Lib.hid (by unfold matK; simp only; rw [hD1, show decide (x1 = i1) = false from by simpa using gq]; simp)
          clear hD1
          go_wp2_with fail
          go_quiet (fail)
          have HF : Hid ((l.take (k + 1)).filter (matK (i1, i2, i3) c) = (l.take k).filter (matK (i1, i2, i3) c)) := Lib.hid (by rw [HTS.out, List.filter_append]; simp [HD.out])
          go_wp2
          go_roundw
          case rel => exact ⟨k + 1, _, by omega, rfl, by go_num, by rw [HF.out, HSS.out], by rw [HF.out]; exact Lib.hid (HO5.out.below (below_drewN_q (Below.refl _ _) _)), Lib.hid (HB5.out.trans ((below_drewN_q (Below.refl _ _) _).mono (Nat.le_trans hz3 HBE.out.size)))⟩
          case measure => simp [intOf]; omega
        | true =>
          cases B with
          | false =>
            have HD : Hid (matK (i1, i2, i3) c (⟨(x1, x2, x3), ⟨d1, d2, d3, d4, d5, d6, d7, d8⟩, s2, l2⟩ : Kn) = false) := Lib.hid (by unfold matK; simp only; rw [HBB.out]; simp)
            clear hD1
            go_wp2_with fail
            go_quiet (fail)
            have HF : Hid ((l.take (k + 1)).filter (matK (i1, i2, i3) c) = (l.take k).filter (matK (i1, i2, i3) c)) := Lib.hid (by rw [HTS.out, List.filter_append]; simp [HD.out])
            go_wp2
            go_roundw
            case rel => exact ⟨k + 1, _, by omega, rfl, by go_num, by rw [HF.out, HSS.out], by rw [HF.out]; exact Lib.hid (HO5.out.below (below_drewN_q (Below.refl _ _) _)), Lib.hid (HB5.out.trans ((below_drewN_q (Below.refl _ _) _).mono (Nat.le_trans hz3 HBE.out.size)))⟩
            case measure => simp [intOf]; omega
          | true =>
            have HD : Hid (matK (i1, i2, i3) c (⟨(x1, x2, x3), ⟨d1, d2, d3, d4, d5, d6, d7, d8⟩, s2, l2⟩ : Kn) = true) := Lib.hid (by unfold matK; simp only; rw [hD1, HBB.out, show decide (x1 = i1) = true from by simpa using gq]; rfl)
            clear hD1
            go_wp2_with fail
            go_quiet (fail)
            have HF : Hid ((l.take (k + 1)).filter (matK (i1, i2, i3) c) = (l.take k).filter (matK (i1, i2, i3) c) ++ [(⟨(x1, x2, x3), ⟨d1, d2, d3, d4, d5, d6, d7, d8⟩, s2, l2⟩ : Kn)]) := Lib.hid (by rw [HTS.out, List.filter_append]; simp [HD.out])
            generalize hwd : World.drewN w5 _ = W6
            have hb56 : Below w5.heap.size w5 W6 := by rw [← hwd]; exact below_drewN_q (Below.refl _ _) _
            have hbr6 : Below wr.heap.size wr W6 := below_self2 HBE.out hb56
            clear hwd y0 y1 y2 y11 p0 p1 p2 hzi hgw5 he hgd
            obtain ⟨y0, y1, y2, y11⟩ := HQ5.out _ hbr6
            have HO6 := Lib.hid ((HO5.out.below hb56).below (al1 W6 (.cells #[.int .i64 x1, .int .i64 x2, .int .i64 x3] 24)))
            have HB6 : Hid (Below (w.heap.size + 3) X W6) := Lib.hid (hB.out.trans (hbr6.mono hz3))
            have hg6 : g2 < W6.heap.size := Nat.lt_of_lt_of_le hg2 hbr6.size
            have HBX1 := Lib.hid (IK.rd_boxAt (x1, x2, x3) 24 1 W6 _ rfl)
            have hz4 : w.heap.size + 3 ≤ (W6.alloc (.cells #[.int .i64 x1, .int .i64 x2, .int .i64 x3] 24)).heap.size := by have := hbr6.size; simp; omega
            have HBR6 := Lib.hid hbr6
            clear hb56 hbr6
            go_wp2_with (at_builtin; go_must (refine IK.app rfl _ _ rfl (w.heap.size + 3) (.slice va M vc) (((l.take k).filter (matK (i1, i2, i3) c)).map (·.id)) rfl HO6.out (.slice (some ⟨W6.heap.size, 0, none⟩) 1 1) [(x1, x2, x3)] rfl HBX1.out (by have := HML.out; simp only [List.length_cons, List.length_nil]; omega) hz4 ?_))
            intro v' w7 ho hb2 hg _
            obtain ⟨a3, c3, hv3⟩ := ho.slice
            obtain ⟨M3, hM3⟩ : ∃ M3, (((l.take k).filter (matK (i1, i2, i3) c)).map (·.id) ++ [(x1, x2, x3)]).length = M3 := ⟨_, rfl⟩
            rw [hM3] at hv3
            subst hv3
            have HO7 : Hid (IK.Own w7 (w.heap.size + 3) (.slice a3 M3 c3) (((l.take (k + 1)).filter (matK (i1, i2, i3) c)).map (·.id))) := Lib.hid (by rw [HF.out, List.map_append]; exact ho)
            have HB7 : Hid (Below (w.heap.size + 3) X w7) := Lib.hid ((HB6.out.trans ((al1 _ _).mono (by have := HBR6.out.size; omega))).trans hb2)
            have hHX : Below w.heap.size w w7 := HBX.out.trans (HB7.out.mono (by omega))
            have y11b : w7.cell? ⟨g2, off2 + k * 13 + 11, none⟩ = some (.int .i64 s2) := (hHX.cell (p := ⟨g2, off2 + k * 13 + 11, none⟩) HG2.out).trans HQ11.out
            have hzb2 : g2 < w7.heap.size := Nat.lt_of_lt_of_le HG2.out hHX.size
            clear ho hb2 hg hM3 y0 y1 y2 y11 hg6 HO6 HB6 HBX1 hz4 hHX
            go_wp2
            go_roundw
            case rel => exact ⟨k + 1, _, by omega, rfl, by go_num, by rw [HF.out, List.map_append, List.map_cons, List.map_nil, mxS_snoc, HSS.out], HO7, HB7⟩
            case measure => simp [intOf]; omega
    · obtain rfl : k = N := by omega
      have htk : l.take k = l := List.take_of_length_le (by rw [HN.out]; exact Nat.le_refl _)
      rw [htk] at hO HSS HML
      have HC := Lib.hid (rclean_any (.slice va M vc) _ wr hO.out.rd (by have := HML.out; omega))
      clear htk
      go_wp2_with fail
      refine HC.out.mono ?_
      rintro e w2 ⟨v2, he, ho, hb⟩
      have he := he.out
      subst he
      obtain ⟨a2, c2, hv2⟩ := ho.slice
      obtain ⟨M2, hM2⟩ : ∃ M2, (clnI ((l.filter (matK (i1, i2, i3) c)).map (·.id))).length = M2 := ⟨_, rfl⟩
      rw [hM2] at hv2
      subst hv2
      have hR2 := HRr.out.below hb
      have HO2 : Hid (IK.Own w2 (w.heap.size + 3) (.slice a2 M2 c2) (clnI ((l.filter (matK (i1, i2, i3) c)).map (·.id)))) := Lib.hid (ho.base HZr.out)
      have HB2 := Lib.hid (HBw.out.trans (hb.mono HBw.out.size))
      have d0 := hR2.cell 0
      have d1 := hR2.cell 1
      simp only [List.getElem?_cons_zero, List.getElem?_cons_succ] at d0 d1
      have f1 : ∀ o, w2.frozen? ⟨w.heap.size + 2, o, none⟩ = false := fun o => hR2.fz o
      have z2 : w.heap.size + 2 < w2.heap.size := hR2.lt
      clear ho hb hO hB hM2 HC hR2
      go_wp2
      refine bodyPost_ret (v := .agg #[.int .i64 (S + 1), .slice a2 M2 c2]) (by simp [results, Tryz.results9, go_sem, d0, d1, f1, z2]) rfl ⟨.slice a2 M2 c2, ?_, ?_, ?_⟩
      · exact Lib.hid (by show Ending.returned _ = .returned (.agg #[.int .i64 (mxS _ + 1), _]); rw [HSS.out])
      · exact Knd.Own.base ((HO2.out.setLow (by omega) _ _).setLow (by omega) _ _) (by omega)
      · exact (HB2.out.setCell (by show w.heap.size ≤ w.heap.size + 2; omega) _).setCell (by show w.heap.size ≤ w.heap.size + 2; omega) _
end Go.Proofs.YtfngjdcagopapaaGreat
