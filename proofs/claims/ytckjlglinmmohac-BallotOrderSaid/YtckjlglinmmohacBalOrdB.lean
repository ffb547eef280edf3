/-
  The walk of BallotOrder, one theorem for each pattern of what the calls of Less answer.
-/
import Derived.Test.YtckjlglinmmohacBal5
import Derived.Deep.DeepCutAuto
namespace Go.Proofs.Ytckjlglinmmohac
open Go.RowKit
set_option linter.unusedSimpArgs false
set_option linter.unusedVariables false

set_option maxHeartbeats 4000000 in
theorem order_p2a (a1 a2 b1 b2 c1 c2 : Int) (hne : (a1 == b1) = false) (hab : lessB a1 a2 b1 b2 = true) (hba : lessB b1 b2 a1 a2 = false) (hbc : lessB b1 b2 c1 c2 = false) (w : World) : Calls Try.prog 6 #[pr a1 a2, pr b1 b2, pr c1 c2] w fun e w' => e = .returned (.bool true) ∧ Below w.heap.size w w' := by
  have hs : Held w (w.heap.size + 1 + 1 + 1) [(⟨w.heap.size, 0, none⟩, (Value.int IntKind.i64 a1)), (⟨w.heap.size, 1, none⟩, (Value.int IntKind.i64 a2)), (⟨w.heap.size + 1, 0, none⟩, (Value.int IntKind.i64 b1)), (⟨w.heap.size + 1, 1, none⟩, (Value.int IntKind.i64 b2)), (⟨w.heap.size + 1 + 1, 0, none⟩, (Value.int IntKind.i64 c1)), (⟨w.heap.size + 1 + 1, 1, none⟩, (Value.int IntKind.i64 c2))] (((w.alloc (Obj.cells #[Value.int IntKind.i64 a1, Value.int IntKind.i64 a2] 30)).alloc (Obj.cells #[Value.int IntKind.i64 b1, Value.int IntKind.i64 b2] 30)).alloc (Obj.cells #[Value.int IntKind.i64 c1, Value.int IntKind.i64 c2] 30)) := by
    refine ⟨by simp; omega, ?_, by simp, (((Below.refl _ _).alloc (Nat.le_refl _) _).alloc (by simp) _).alloc (by simp; omega) _, by omega⟩
    simp [AllC, go_sem]
  have HS0 := Lib.hid hs
  clear hs
  have e1 := mo_assoc a1 a2 b1 b2 c1 c2
  have e2 := mo_rev a1 a2 b1 b2 c1 c2
  have E1 := Lib.hid e1.1
  have E2 := Lib.hid e1.2
  have E3 := Lib.hid e2.1
  have E4 := Lib.hid e2.2
  clear e1 e2
  have Hhab := Lib.hid hab; clear hab
  have Hhba := Lib.hid hba; clear hba
  have Hhbc := Lib.hid hbc; clear hbc
  go_enter Try.func6, Try.ntmps6
  go_wp2_with (first
    | (go_at_call 13; refine (works_any _).mono ?_; rintro e w1 ⟨rfl, hb⟩; have hn := HS0.out.kept hb; clear hb; have HS := Lib.hid hn; have hc := hn.cells; dsimp only [AllC] at hc; clear hn; go_split_ands)
    | (go_at_call 19; refine (less_any _ _ _ _ _).mono ?_; simp only [Hhab.out, Hhba.out, Hhbc.out]; rintro e w1 ⟨rfl, hb⟩; have hn := HS.out.kept hb; clear HS hb; have HS := Lib.hid hn; have hc := hn.cells; dsimp only [AllC] at hc; clear hn; go_split_ands))
  have hsz := HS.out.size
  go_cut [10] (fun m wx => ∃ g : Nat, m = .pointer (some ⟨g, 0, none⟩) ∧ w.heap.size + 1 + 1 + 1 ≤ g ∧ Held w (g + 1) [(⟨g, 0, none⟩, (Value.int IntKind.i64 (mo1 (mo1 a1 a2 b1 b2) (mo2 a1 a2 b1 b2) c1 c2))), (⟨g, 1, none⟩, (Value.int IntKind.i64 (mo2 (mo1 a1 a2 b1 b2) (mo2 a1 a2 b1 b2) c1 c2))), (⟨w.heap.size, 0, none⟩, (Value.int IntKind.i64 a1)), (⟨w.heap.size, 1, none⟩, (Value.int IntKind.i64 a2)), (⟨w.heap.size + 1, 0, none⟩, (Value.int IntKind.i64 b1)), (⟨w.heap.size + 1, 1, none⟩, (Value.int IntKind.i64 b2)), (⟨w.heap.size + 1 + 1, 0, none⟩, (Value.int IntKind.i64 c1)), (⟨w.heap.size + 1 + 1, 1, none⟩, (Value.int IntKind.i64 c2))] wx)
  case first =>
    refine wp_region_held_drew (S := fun w' => (w'.cell? ⟨w.heap.size, 0, none⟩ = some (Value.int IntKind.i64 a1) ∧ w'.cell? ⟨w.heap.size, 1, none⟩ = some (Value.int IntKind.i64 a2) ∧ w'.cell? ⟨w.heap.size + 1, 0, none⟩ = some (Value.int IntKind.i64 b1) ∧ w'.cell? ⟨w.heap.size + 1, 1, none⟩ = some (Value.int IntKind.i64 b2) ∧ w'.cell? ⟨w.heap.size + 1 + 1, 0, none⟩ = some (Value.int IntKind.i64 c1) ∧ w'.cell? ⟨w.heap.size + 1 + 1, 1, none⟩ = some (Value.int IntKind.i64 c2) ∧ True) ∧ Held w (w.heap.size + 1 + 1 + 1) [(⟨w.heap.size, 0, none⟩, (Value.int IntKind.i64 a1)), (⟨w.heap.size, 1, none⟩, (Value.int IntKind.i64 a2)), (⟨w.heap.size + 1, 0, none⟩, (Value.int IntKind.i64 b1)), (⟨w.heap.size + 1, 1, none⟩, (Value.int IntKind.i64 b2)), (⟨w.heap.size + 1 + 1, 0, none⟩, (Value.int IntKind.i64 c1)), (⟨w.heap.size + 1 + 1, 1, none⟩, (Value.int IntKind.i64 c2))] w') (by kernel_rfl) ?_ (fun hHeld => ?_)
    · (first | exact Held.also (HS.out) (fun h => h.cells) | exact Held.also (HS.out.drew) (fun h => h.cells) | (go_split_ands; first | exact Held.also (Held.kept (by assumption) (by assumption)) (fun h => h.cells) | exact Held.also (Held.alloc (by assumption) _) (fun h => h.cells) | exact Held.also (Held.drew (by assumption)) (fun h => h.cells) | exact Held.also (by assumption) (fun h => h.cells) | exact Held.also (Held.set (Held.set (by assumption) (by simp; omega) _) (by simp; omega) _) (fun h => h.cells)))
    refine wpAnyH_take (i := 0) (v := ?_) rfl (by kernel_rfl) (by kernel_rfl) (by kernel_rfl) (fun _ _ _ h => h) (Or.inl ⟨by rfl, ?_⟩) (by assumption) ?_
    rotate_left
    · (intro w hSw; (try dsimp only at hSw); go_simp; try rfl)
    try simp only [Act.put, List.setIfInBounds_toArray, List.set_cons_zero, List.set_cons_succ, List.getElem_toArray, List.getElem_cons_zero, List.getElem_cons_succ]
    refine wpAnyH_take (i := 1) (v := ?_) rfl (by kernel_rfl) (by kernel_rfl) (by kernel_rfl) (fun _ _ _ h => h) (Or.inl ⟨by rfl, ?_⟩) (by assumption) ?_
    rotate_left
    · (intro w hSw; (try dsimp only at hSw); go_simp; try rfl)
    try simp only [Act.put, List.setIfInBounds_toArray, List.set_cons_zero, List.set_cons_succ, List.getElem_toArray, List.getElem_cons_zero, List.getElem_cons_succ]
    refine wpAnyH_take (i := 3) (v := ?_) rfl (by kernel_rfl) (by kernel_rfl) (by kernel_rfl) (fun _ _ _ h => h) (Or.inl ⟨by rfl, ?_⟩) (by assumption) ?_
    rotate_left
    · (intro w hSw; (try dsimp only at hSw); go_simp; try rfl)
    try simp only [Act.put, List.setIfInBounds_toArray, List.set_cons_zero, List.set_cons_succ, List.getElem_toArray, List.getElem_cons_zero, List.getElem_cons_succ]
    refine wpAnyH_ready (rs := [2, 5]) (by kernel_rfl) (by simp) ?_
    refine (AllReadyH.cons rfl (fun K hK => ?_) (AllReadyH.cons rfl (fun K hK => ?_) AllReadyH.nil))
    · go_simp
      (go_at_call 18; go_split_ands; refine (most_any _ _ _ _ _).mono ?_; rintro e wx2 ⟨rfl, hb2⟩; have hx2 := Held.kept (by assumption) hb2; obtain ⟨hbc2, hbf2⟩ := bcell hb2; have hz2 := hb2.size; (try simp at hz2); have hsx2 := hx2.size)
      refine hK.out _ _ ?_ (fun hHeld => ?_)
      · (first | exact Held.also (HS.out) (fun h => h.cells) | exact Held.also (HS.out.drew) (fun h => h.cells) | (go_split_ands; first | exact Held.also (Held.kept (by assumption) (by assumption)) (fun h => h.cells) | exact Held.also (Held.alloc (by assumption) _) (fun h => h.cells) | exact Held.also (Held.drew (by assumption)) (fun h => h.cells) | exact Held.also (by assumption) (fun h => h.cells) | exact Held.also (Held.set (Held.set (by assumption) (by simp; omega) _) (by simp; omega) _) (fun h => h.cells)))
      clear hK K
      try simp only [Act.put, List.setIfInBounds_toArray, List.set_cons_zero, List.set_cons_succ, List.getElem_toArray, List.getElem_cons_zero, List.getElem_cons_succ]
      refine wpAnyH_ready (rs := [4, 5]) (by kernel_rfl) (by simp) ?_
      refine (AllReadyH.cons rfl (fun K hK => ?_) (AllReadyH.cons rfl (fun K hK => ?_) AllReadyH.nil))
      · go_simp
        (go_at_call 18; go_split_ands; refine (most_any _ _ _ _ _).mono ?_; rintro e wx4 ⟨rfl, hb4⟩; have hx4 := Held.kept (by assumption) hb4; obtain ⟨hbc4, hbf4⟩ := bcell hb4; have hz4 := hb4.size; (try simp at hz4); have hsx4 := hx4.size)
        refine hK.out _ _ ?_ (fun hHeld => ?_)
        · (first | exact Held.also (HS.out) (fun h => h.cells) | exact Held.also (HS.out.drew) (fun h => h.cells) | (go_split_ands; first | exact Held.also (Held.kept (by assumption) (by assumption)) (fun h => h.cells) | exact Held.also (Held.alloc (by assumption) _) (fun h => h.cells) | exact Held.also (Held.drew (by assumption)) (fun h => h.cells) | exact Held.also (by assumption) (fun h => h.cells) | exact Held.also (Held.set (Held.set (by assumption) (by simp; omega) _) (by simp; omega) _) (fun h => h.cells)))
        clear hK K
        try simp only [Act.put, List.setIfInBounds_toArray, List.set_cons_zero, List.set_cons_succ, List.getElem_toArray, List.getElem_cons_zero, List.getElem_cons_succ]
        refine wpAnyH_ready (rs := [5]) (by kernel_rfl) (by simp) ?_
        refine (AllReadyH.cons rfl (fun K hK => ?_) AllReadyH.nil)
        go_simp
        refine hK.out _ _ ?_ (fun hHeld => ?_)
        · (first | exact Held.also (HS.out) (fun h => h.cells) | exact Held.also (HS.out.drew) (fun h => h.cells) | (go_split_ands; first | exact Held.also (Held.kept (by assumption) (by assumption)) (fun h => h.cells) | exact Held.also (Held.alloc (by assumption) _) (fun h => h.cells) | exact Held.also (Held.drew (by assumption)) (fun h => h.cells) | exact Held.also (by assumption) (fun h => h.cells) | exact Held.also (Held.set (Held.set (by assumption) (by simp; omega) _) (by simp; omega) _) (fun h => h.cells)))
        clear hK K
        try simp only [Act.put, List.setIfInBounds_toArray, List.set_cons_zero, List.set_cons_succ, List.getElem_toArray, List.getElem_cons_zero, List.getElem_cons_succ]
        refine wpAnyH_ready (rs := [6]) (by kernel_rfl) (by simp) ?_
        refine (AllReadyH.cons rfl (fun K hK => ?_) AllReadyH.nil)
        go_simp
        refine hK.out _ _ ?_ (fun hHeld => ?_)
        · (first | exact Held.also (HS.out) (fun h => h.cells) | exact Held.also (HS.out.drew) (fun h => h.cells) | (go_split_ands; first | exact Held.also (Held.kept (by assumption) (by assumption)) (fun h => h.cells) | exact Held.also (Held.alloc (by assumption) _) (fun h => h.cells) | exact Held.also (Held.drew (by assumption)) (fun h => h.cells) | exact Held.also (by assumption) (fun h => h.cells) | exact Held.also (Held.set (Held.set (by assumption) (by simp; omega) _) (by simp; omega) _) (fun h => h.cells)))
        clear hK K
        try simp only [Act.put, List.setIfInBounds_toArray, List.set_cons_zero, List.set_cons_succ, List.getElem_toArray, List.getElem_cons_zero, List.getElem_cons_succ]
        refine wpAnyH_done (by kernel_rfl) ?_ _
        go_split_ands
        go_wp2_with fail
        go_meet
        exact ⟨_, rfl, by omega, Held.more (by assumption) (by omega) (by simp <;> omega) (by simp [go_sem, *]) (by simp [go_sem, *])⟩
      · go_simp
        refine hK.out _ _ ?_ (fun hHeld => ?_)
        · (first | exact Held.also (HS.out) (fun h => h.cells) | exact Held.also (HS.out.drew) (fun h => h.cells) | (go_split_ands; first | exact Held.also (Held.kept (by assumption) (by assumption)) (fun h => h.cells) | exact Held.also (Held.alloc (by assumption) _) (fun h => h.cells) | exact Held.also (Held.drew (by assumption)) (fun h => h.cells) | exact Held.also (by assumption) (fun h => h.cells) | exact Held.also (Held.set (Held.set (by assumption) (by simp; omega) _) (by simp; omega) _) (fun h => h.cells)))
        clear hK K
        try simp only [Act.put, List.setIfInBounds_toArray, List.set_cons_zero, List.set_cons_succ, List.getElem_toArray, List.getElem_cons_zero, List.getElem_cons_succ]
        refine wpAnyH_ready (rs := [4]) (by kernel_rfl) (by simp) ?_
        refine (AllReadyH.cons rfl (fun K hK => ?_) AllReadyH.nil)
        go_simp
        (go_at_call 18; go_split_ands; refine (most_any _ _ _ _ _).mono ?_; rintro e wx4 ⟨rfl, hb4⟩; have hx4 := Held.kept (by assumption) hb4; obtain ⟨hbc4, hbf4⟩ := bcell hb4; have hz4 := hb4.size; (try simp at hz4); have hsx4 := hx4.size)
        refine hK.out _ _ ?_ (fun hHeld => ?_)
        · (first | exact Held.also (HS.out) (fun h => h.cells) | exact Held.also (HS.out.drew) (fun h => h.cells) | (go_split_ands; first | exact Held.also (Held.kept (by assumption) (by assumption)) (fun h => h.cells) | exact Held.also (Held.alloc (by assumption) _) (fun h => h.cells) | exact Held.also (Held.drew (by assumption)) (fun h => h.cells) | exact Held.also (by assumption) (fun h => h.cells) | exact Held.also (Held.set (Held.set (by assumption) (by simp; omega) _) (by simp; omega) _) (fun h => h.cells)))
        clear hK K
        try simp only [Act.put, List.setIfInBounds_toArray, List.set_cons_zero, List.set_cons_succ, List.getElem_toArray, List.getElem_cons_zero, List.getElem_cons_succ]
        refine wpAnyH_ready (rs := [6]) (by kernel_rfl) (by simp) ?_
        refine (AllReadyH.cons rfl (fun K hK => ?_) AllReadyH.nil)
        go_simp
        refine hK.out _ _ ?_ (fun hHeld => ?_)
        · (first | exact Held.also (HS.out) (fun h => h.cells) | exact Held.also (HS.out.drew) (fun h => h.cells) | (go_split_ands; first | exact Held.also (Held.kept (by assumption) (by assumption)) (fun h => h.cells) | exact Held.also (Held.alloc (by assumption) _) (fun h => h.cells) | exact Held.also (Held.drew (by assumption)) (fun h => h.cells) | exact Held.also (by assumption) (fun h => h.cells) | exact Held.also (Held.set (Held.set (by assumption) (by simp; omega) _) (by simp; omega) _) (fun h => h.cells)))
        clear hK K
        try simp only [Act.put, List.setIfInBounds_toArray, List.set_cons_zero, List.set_cons_succ, List.getElem_toArray, List.getElem_cons_zero, List.getElem_cons_succ]
        refine wpAnyH_done (by kernel_rfl) ?_ _
        go_split_ands
        go_wp2_with fail
        go_meet
        exact ⟨_, rfl, by omega, Held.more (by assumption) (by omega) (by simp <;> omega) (by simp [go_sem, *]) (by simp [go_sem, *])⟩
    · go_simp
      refine hK.out _ _ ?_ (fun hHeld => ?_)
      · (first | exact Held.also (HS.out) (fun h => h.cells) | exact Held.also (HS.out.drew) (fun h => h.cells) | (go_split_ands; first | exact Held.also (Held.kept (by assumption) (by assumption)) (fun h => h.cells) | exact Held.also (Held.alloc (by assumption) _) (fun h => h.cells) | exact Held.also (Held.drew (by assumption)) (fun h => h.cells) | exact Held.also (by assumption) (fun h => h.cells) | exact Held.also (Held.set (Held.set (by assumption) (by simp; omega) _) (by simp; omega) _) (fun h => h.cells)))
      clear hK K
      try simp only [Act.put, List.setIfInBounds_toArray, List.set_cons_zero, List.set_cons_succ, List.getElem_toArray, List.getElem_cons_zero, List.getElem_cons_succ]
      refine wpAnyH_ready (rs := [2]) (by kernel_rfl) (by simp) ?_
      refine (AllReadyH.cons rfl (fun K hK => ?_) AllReadyH.nil)
      go_simp
      (go_at_call 18; go_split_ands; refine (most_any _ _ _ _ _).mono ?_; rintro e wx2 ⟨rfl, hb2⟩; have hx2 := Held.kept (by assumption) hb2; obtain ⟨hbc2, hbf2⟩ := bcell hb2; have hz2 := hb2.size; (try simp at hz2); have hsx2 := hx2.size)
      refine hK.out _ _ ?_ (fun hHeld => ?_)
      · (first | exact Held.also (HS.out) (fun h => h.cells) | exact Held.also (HS.out.drew) (fun h => h.cells) | (go_split_ands; first | exact Held.also (Held.kept (by assumption) (by assumption)) (fun h => h.cells) | exact Held.also (Held.alloc (by assumption) _) (fun h => h.cells) | exact Held.also (Held.drew (by assumption)) (fun h => h.cells) | exact Held.also (by assumption) (fun h => h.cells) | exact Held.also (Held.set (Held.set (by assumption) (by simp; omega) _) (by simp; omega) _) (fun h => h.cells)))
      clear hK K
      try simp only [Act.put, List.setIfInBounds_toArray, List.set_cons_zero, List.set_cons_succ, List.getElem_toArray, List.getElem_cons_zero, List.getElem_cons_succ]
      refine wpAnyH_ready (rs := [4]) (by kernel_rfl) (by simp) ?_
      refine (AllReadyH.cons rfl (fun K hK => ?_) AllReadyH.nil)
      go_simp
      (go_at_call 18; go_split_ands; refine (most_any _ _ _ _ _).mono ?_; rintro e wx4 ⟨rfl, hb4⟩; have hx4 := Held.kept (by assumption) hb4; obtain ⟨hbc4, hbf4⟩ := bcell hb4; have hz4 := hb4.size; (try simp at hz4); have hsx4 := hx4.size)
      refine hK.out _ _ ?_ (fun hHeld => ?_)
      · (first | exact Held.also (HS.out) (fun h => h.cells) | exact Held.also (HS.out.drew) (fun h => h.cells) | (go_split_ands; first | exact Held.also (Held.kept (by assumption) (by assumption)) (fun h => h.cells) | exact Held.also (Held.alloc (by assumption) _) (fun h => h.cells) | exact Held.also (Held.drew (by assumption)) (fun h => h.cells) | exact Held.also (by assumption) (fun h => h.cells) | exact Held.also (Held.set (Held.set (by assumption) (by simp; omega) _) (by simp; omega) _) (fun h => h.cells)))
      clear hK K
      try simp only [Act.put, List.setIfInBounds_toArray, List.set_cons_zero, List.set_cons_succ, List.getElem_toArray, List.getElem_cons_zero, List.getElem_cons_succ]
      refine wpAnyH_ready (rs := [6]) (by kernel_rfl) (by simp) ?_
      refine (AllReadyH.cons rfl (fun K hK => ?_) AllReadyH.nil)
      have kc0 : wx4.cell? ⟨w1.heap.size, 0, none⟩ = some (.int .i64 0) := (hb4.cell (p := ⟨w1.heap.size, 0, none⟩) (by simp; omega)).trans ((hb2.cell (p := ⟨w1.heap.size, 0, none⟩) (by simp)).trans (by simp [go_sem]))
      have kc1 : wx4.cell? ⟨w1.heap.size, 1, none⟩ = some (.int .i64 0) := (hb4.cell (p := ⟨w1.heap.size, 1, none⟩) (by simp; omega)).trans ((hb2.cell (p := ⟨w1.heap.size, 1, none⟩) (by simp)).trans (by simp [go_sem]))
      have kf0 : wx4.frozen? ⟨w1.heap.size, 0, none⟩ = false := (hb4.frozen (p := ⟨w1.heap.size, 0, none⟩) (by simp; omega)).trans ((hb2.frozen (p := ⟨w1.heap.size, 0, none⟩) (by simp)).trans (by simp [go_sem]))
      have kf1 : wx4.frozen? ⟨w1.heap.size, 1, none⟩ = false := (hb4.frozen (p := ⟨w1.heap.size, 1, none⟩) (by simp; omega)).trans ((hb2.frozen (p := ⟨w1.heap.size, 1, none⟩) (by simp)).trans (by simp [go_sem]))
      go_simp
      refine hK.out _ _ ?_ (fun hHeld => ?_)
      · (first | exact Held.also (HS.out) (fun h => h.cells) | exact Held.also (HS.out.drew) (fun h => h.cells) | (go_split_ands; first | exact Held.also (Held.kept (by assumption) (by assumption)) (fun h => h.cells) | exact Held.also (Held.alloc (by assumption) _) (fun h => h.cells) | exact Held.also (Held.drew (by assumption)) (fun h => h.cells) | exact Held.also (by assumption) (fun h => h.cells) | exact Held.also (Held.set (Held.set (by assumption) (by simp; omega) _) (by simp; omega) _) (fun h => h.cells)))
      clear hK K
      try simp only [Act.put, List.setIfInBounds_toArray, List.set_cons_zero, List.set_cons_succ, List.getElem_toArray, List.getElem_cons_zero, List.getElem_cons_succ]
      refine wpAnyH_done (by kernel_rfl) ?_ _
      go_split_ands
      go_wp2_with fail
      go_meet
      exact ⟨_, rfl, by omega, Held.more (by assumption) (by omega) (by simp <;> omega) (by simp [go_sem, *]) (by simp [go_sem, *])⟩
  case rest =>
    obtain ⟨g, rfl, hg, HM⟩ := hcut
    have HS := Lib.hid HM
    have hc := HM.cells
    dsimp only [AllC] at hc
    clear HM
    go_split_ands
    go_wp2_with fail
    refine wp_region_held_drew (S := fun w' => (w'.cell? ⟨g, 0, none⟩ = some (Value.int IntKind.i64 (mo1 (mo1 a1 a2 b1 b2) (mo2 a1 a2 b1 b2) c1 c2)) ∧ w'.cell? ⟨g, 1, none⟩ = some (Value.int IntKind.i64 (mo2 (mo1 a1 a2 b1 b2) (mo2 a1 a2 b1 b2) c1 c2)) ∧ w'.cell? ⟨w.heap.size, 0, none⟩ = some (Value.int IntKind.i64 a1) ∧ w'.cell? ⟨w.heap.size, 1, none⟩ = some (Value.int IntKind.i64 a2) ∧ w'.cell? ⟨w.heap.size + 1, 0, none⟩ = some (Value.int IntKind.i64 b1) ∧ w'.cell? ⟨w.heap.size + 1, 1, none⟩ = some (Value.int IntKind.i64 b2) ∧ w'.cell? ⟨w.heap.size + 1 + 1, 0, none⟩ = some (Value.int IntKind.i64 c1) ∧ w'.cell? ⟨w.heap.size + 1 + 1, 1, none⟩ = some (Value.int IntKind.i64 c2) ∧ True) ∧ Held w (g + 1) [(⟨g, 0, none⟩, (Value.int IntKind.i64 (mo1 (mo1 a1 a2 b1 b2) (mo2 a1 a2 b1 b2) c1 c2))), (⟨g, 1, none⟩, (Value.int IntKind.i64 (mo2 (mo1 a1 a2 b1 b2) (mo2 a1 a2 b1 b2) c1 c2))), (⟨w.heap.size, 0, none⟩, (Value.int IntKind.i64 a1)), (⟨w.heap.size, 1, none⟩, (Value.int IntKind.i64 a2)), (⟨w.heap.size + 1, 0, none⟩, (Value.int IntKind.i64 b1)), (⟨w.heap.size + 1, 1, none⟩, (Value.int IntKind.i64 b2)), (⟨w.heap.size + 1 + 1, 0, none⟩, (Value.int IntKind.i64 c1)), (⟨w.heap.size + 1 + 1, 1, none⟩, (Value.int IntKind.i64 c2))] w') (by kernel_rfl) ?_ (fun hHeld => ?_)
    · (first | exact Held.also (HS.out) (fun h => h.cells) | exact Held.also (HS.out.drew) (fun h => h.cells) | (go_split_ands; first | exact Held.also (Held.kept (by assumption) (by assumption)) (fun h => h.cells) | exact Held.also (Held.alloc (by assumption) _) (fun h => h.cells) | exact Held.also (Held.drew (by assumption)) (fun h => h.cells) | exact Held.also (by assumption) (fun h => h.cells)))
    refine wpAnyH_take (i := 0) (v := ?_) rfl (by kernel_rfl) (by kernel_rfl) (by kernel_rfl) (fun _ _ _ h => h) (Or.inl ⟨by rfl, ?_⟩) (by assumption) ?_
    rotate_left
    · (intro w hSw; (try dsimp only at hSw); go_simp; try rfl)
    try simp only [Act.put, List.setIfInBounds_toArray, List.set_cons_zero, List.set_cons_succ, List.getElem_toArray, List.getElem_cons_zero, List.getElem_cons_succ]
    refine wpAnyH_take (i := 1) (v := ?_) rfl (by kernel_rfl) (by kernel_rfl) (by kernel_rfl) (fun _ _ _ h => h) (Or.inl ⟨by rfl, ?_⟩) (by assumption) ?_
    rotate_left
    · (intro w hSw; (try dsimp only at hSw); go_simp; try rfl)
    try simp only [Act.put, List.setIfInBounds_toArray, List.set_cons_zero, List.set_cons_succ, List.getElem_toArray, List.getElem_cons_zero, List.getElem_cons_succ]
    refine wpAnyH_take (i := 2) (v := ?_) rfl (by kernel_rfl) (by kernel_rfl) (by kernel_rfl) (fun _ _ _ h => h) (Or.inl ⟨by rfl, ?_⟩) (by assumption) ?_
    rotate_left
    · (intro w hSw; (try dsimp only at hSw); go_simp; try rfl)
    try simp only [Act.put, List.setIfInBounds_toArray, List.set_cons_zero, List.set_cons_succ, List.getElem_toArray, List.getElem_cons_zero, List.getElem_cons_succ]
    refine wpAnyH_take (i := 3) (v := ?_) rfl (by kernel_rfl) (by kernel_rfl) (by kernel_rfl) (fun _ _ _ h => h) (Or.inl ⟨by rfl, ?_⟩) (by assumption) ?_
    rotate_left
    · (intro w hSw; (try dsimp only at hSw); go_simp; try rfl)
    try simp only [Act.put, List.setIfInBounds_toArray, List.set_cons_zero, List.set_cons_succ, List.getElem_toArray, List.getElem_cons_zero, List.getElem_cons_succ]
    refine wpAnyH_take (i := 4) (v := ?_) rfl (by kernel_rfl) (by kernel_rfl) (by kernel_rfl) (fun _ _ _ h => h) (Or.inl ⟨by rfl, ?_⟩) (by assumption) ?_
    rotate_left
    · (intro w hSw; (try dsimp only at hSw); go_simp; try rfl)
    try simp only [Act.put, List.setIfInBounds_toArray, List.set_cons_zero, List.set_cons_succ, List.getElem_toArray, List.getElem_cons_zero, List.getElem_cons_succ]
    refine wpAnyH_take (i := 5) (v := ?_) rfl (by kernel_rfl) (by kernel_rfl) (by kernel_rfl) (fun _ _ _ h => h) (Or.inl ⟨by rfl, ?_⟩) (by assumption) ?_
    rotate_left
    · (intro w hSw; (try dsimp only at hSw); go_simp; try rfl)
    try simp only [Act.put, List.setIfInBounds_toArray, List.set_cons_zero, List.set_cons_succ, List.getElem_toArray, List.getElem_cons_zero, List.getElem_cons_succ]
    refine wpAnyH_take (i := 6) (v := ?_) rfl (by kernel_rfl) (by kernel_rfl) (by kernel_rfl) (fun _ _ _ h => h) (Or.inl ⟨by rfl, ?_⟩) (by assumption) ?_
    rotate_left
    · (intro w hSw; (try dsimp only at hSw); go_simp; try rfl)
    try simp only [Act.put, List.setIfInBounds_toArray, List.set_cons_zero, List.set_cons_succ, List.getElem_toArray, List.getElem_cons_zero, List.getElem_cons_succ]
    refine wpAnyH_take (i := 7) (v := ?_) rfl (by kernel_rfl) (by kernel_rfl) (by kernel_rfl) (fun _ _ _ h => h) (Or.inl ⟨by rfl, ?_⟩) (by assumption) ?_
    rotate_left
    · (intro w hSw; (try dsimp only at hSw); go_simp; try rfl)
    try simp only [Act.put, List.setIfInBounds_toArray, List.set_cons_zero, List.set_cons_succ, List.getElem_toArray, List.getElem_cons_zero, List.getElem_cons_succ]
    refine wpAnyH_take (i := 8) (v := ?_) rfl (by kernel_rfl) (by kernel_rfl) (by kernel_rfl) (fun _ _ _ h => h) (Or.inl ⟨by rfl, ?_⟩) (by assumption) ?_
    rotate_left
    · (intro w hSw; (try dsimp only at hSw); go_simp; try rfl)
    try simp only [Act.put, List.setIfInBounds_toArray, List.set_cons_zero, List.set_cons_succ, List.getElem_toArray, List.getElem_cons_zero, List.getElem_cons_succ]
    refine wpAnyH_take (i := 9) (v := ?_) rfl (by kernel_rfl) (by kernel_rfl) (by kernel_rfl) (fun _ _ _ h => h) (Or.inl ⟨by rfl, ?_⟩) (by assumption) ?_
    rotate_left
    · (intro w hSw; (try dsimp only at hSw); go_simp; try rfl)
    try simp only [Act.put, List.setIfInBounds_toArray, List.set_cons_zero, List.set_cons_succ, List.getElem_toArray, List.getElem_cons_zero, List.getElem_cons_succ]
    refine wpAnyH_take (i := 10) (v := ?_) rfl (by kernel_rfl) (by kernel_rfl) (by kernel_rfl) (fun _ _ _ h => h) (Or.inl ⟨by rfl, ?_⟩) (by assumption) ?_
    rotate_left
    · (intro w hSw; (try dsimp only at hSw); go_simp; try rfl)
    try simp only [Act.put, List.setIfInBounds_toArray, List.set_cons_zero, List.set_cons_succ, List.getElem_toArray, List.getElem_cons_zero, List.getElem_cons_succ]
    refine wpAnyH_take (i := 11) (v := undef) rfl (by kernel_rfl) (by kernel_rfl) (by kernel_rfl) (fun _ _ _ h => h) (Or.inr ⟨by rfl, rfl⟩) (by assumption) ?_
    try simp only [Act.put, List.setIfInBounds_toArray, List.set_cons_zero, List.set_cons_succ, List.getElem_toArray, List.getElem_cons_zero, List.getElem_cons_succ]
    refine wpAnyH_take (i := 12) (v := ?_) rfl (by kernel_rfl) (by kernel_rfl) (by kernel_rfl) (fun _ _ _ h => h) (Or.inl ⟨by rfl, ?_⟩) (by assumption) ?_
    rotate_left
    · (intro w hSw; (try dsimp only at hSw); go_simp; try rfl)
    try simp only [Act.put, List.setIfInBounds_toArray, List.set_cons_zero, List.set_cons_succ, List.getElem_toArray, List.getElem_cons_zero, List.getElem_cons_succ]
    refine wpAnyH_take (i := 13) (v := ?_) rfl (by kernel_rfl) (by kernel_rfl) (by kernel_rfl) (fun _ _ _ h => h) (Or.inl ⟨by rfl, ?_⟩) (by assumption) ?_
    rotate_left
    · (intro w hSw; (try dsimp only at hSw); go_simp; try rfl)
    try simp only [Act.put, List.setIfInBounds_toArray, List.set_cons_zero, List.set_cons_succ, List.getElem_toArray, List.getElem_cons_zero, List.getElem_cons_succ]
    refine wpAnyH_take (i := 14) (v := ?_) rfl (by kernel_rfl) (by kernel_rfl) (by kernel_rfl) (fun _ _ _ h => h) (Or.inl ⟨by rfl, ?_⟩) (by assumption) ?_
    rotate_left
    · (intro w hSw; (try dsimp only at hSw); go_simp; try rfl)
    try simp only [Act.put, List.setIfInBounds_toArray, List.set_cons_zero, List.set_cons_succ, List.getElem_toArray, List.getElem_cons_zero, List.getElem_cons_succ]
    refine wpAnyH_take (i := 15) (v := ?_) rfl (by kernel_rfl) (by kernel_rfl) (by kernel_rfl) (fun _ _ _ h => h) (Or.inl ⟨by rfl, ?_⟩) (by assumption) ?_
    rotate_left
    · (intro w hSw; (try dsimp only at hSw); go_simp; try rfl)
    try simp only [Act.put, List.setIfInBounds_toArray, List.set_cons_zero, List.set_cons_succ, List.getElem_toArray, List.getElem_cons_zero, List.getElem_cons_succ]
    refine wpAnyH_take (i := 16) (v := ?_) rfl (by kernel_rfl) (by kernel_rfl) (by kernel_rfl) (fun _ _ _ h => h) (Or.inl ⟨by rfl, ?_⟩) (by assumption) ?_
    rotate_left
    · (intro w hSw; (try dsimp only at hSw); go_simp; try rfl)
    try simp only [Act.put, List.setIfInBounds_toArray, List.set_cons_zero, List.set_cons_succ, List.getElem_toArray, List.getElem_cons_zero, List.getElem_cons_succ]
    refine wpAnyH_take (i := 17) (v := ?_) rfl (by kernel_rfl) (by kernel_rfl) (by kernel_rfl) (fun _ _ _ h => h) (Or.inl ⟨by rfl, ?_⟩) (by assumption) ?_
    rotate_left
    · (intro w hSw; (try dsimp only at hSw); go_simp; try rfl)
    try simp only [Act.put, List.setIfInBounds_toArray, List.set_cons_zero, List.set_cons_succ, List.getElem_toArray, List.getElem_cons_zero, List.getElem_cons_succ]
    refine wpAnyH_take (i := 18) (v := ?_) rfl (by kernel_rfl) (by kernel_rfl) (by kernel_rfl) (fun _ _ _ h => h) (Or.inl ⟨by rfl, ?_⟩) (by assumption) ?_
    rotate_left
    · (intro w hSw; (try dsimp only at hSw); go_simp; try rfl)
    try simp only [Act.put, List.setIfInBounds_toArray, List.set_cons_zero, List.set_cons_succ, List.getElem_toArray, List.getElem_cons_zero, List.getElem_cons_succ]
    refine wpAnyH_take (i := 19) (v := ?_) rfl (by kernel_rfl) (by kernel_rfl) (by kernel_rfl) (fun _ _ _ h => h) (Or.inl ⟨by rfl, ?_⟩) (by assumption) ?_
    rotate_left
    · (intro w hSw; (try dsimp only at hSw); go_simp; try rfl)
    try simp only [Act.put, List.setIfInBounds_toArray, List.set_cons_zero, List.set_cons_succ, List.getElem_toArray, List.getElem_cons_zero, List.getElem_cons_succ]
    refine wpAnyH_take (i := 20) (v := ?_) rfl (by kernel_rfl) (by kernel_rfl) (by kernel_rfl) (fun _ _ _ h => h) (Or.inl ⟨by rfl, ?_⟩) (by assumption) ?_
    rotate_left
    · (intro w hSw; (try dsimp only at hSw); go_simp; try rfl)
    try simp only [Act.put, List.setIfInBounds_toArray, List.set_cons_zero, List.set_cons_succ, List.getElem_toArray, List.getElem_cons_zero, List.getElem_cons_succ]
    refine wpAnyH_take (i := 21) (v := ?_) rfl (by kernel_rfl) (by kernel_rfl) (by kernel_rfl) (fun _ _ _ h => h) (Or.inl ⟨by rfl, ?_⟩) (by assumption) ?_
    rotate_left
    · (intro w hSw; (try dsimp only at hSw); go_simp; try rfl)
    try simp only [Act.put, List.setIfInBounds_toArray, List.set_cons_zero, List.set_cons_succ, List.getElem_toArray, List.getElem_cons_zero, List.getElem_cons_succ]
    refine wpAnyH_take (i := 22) (v := ?_) rfl (by kernel_rfl) (by kernel_rfl) (by kernel_rfl) (fun _ _ _ h => h) (Or.inl ⟨by rfl, ?_⟩) (by assumption) ?_
    rotate_left
    · (intro w hSw; (try dsimp only at hSw); go_simp; try rfl)
    try simp only [Act.put, List.setIfInBounds_toArray, List.set_cons_zero, List.set_cons_succ, List.getElem_toArray, List.getElem_cons_zero, List.getElem_cons_succ]
    refine wpAnyH_take (i := 23) (v := ?_) rfl (by kernel_rfl) (by kernel_rfl) (by kernel_rfl) (fun _ _ _ h => h) (Or.inl ⟨by rfl, ?_⟩) (by assumption) ?_
    rotate_left
    · (intro w hSw; (try dsimp only at hSw); go_simp; try rfl)
    try simp only [Act.put, List.setIfInBounds_toArray, List.set_cons_zero, List.set_cons_succ, List.getElem_toArray, List.getElem_cons_zero, List.getElem_cons_succ]
    refine wpAnyH_ready (rs := [24]) (by kernel_rfl) (by simp) ?_
    refine AllReadyH.cons rfl (fun K hK => ?_) AllReadyH.nil
    go_simp
    (first | (go_at_call 19; refine (less_any _ _ _ _ _).mono ?_; (try simp only [Hhab.out, Hhba.out, Hhbc.out]); rintro e w1 ⟨rfl, hb⟩) | (go_at_call 18; refine (most_any _ _ _ _ _).mono ?_; (try simp only [E1.out, E2.out, E3.out, E4.out]); rintro e w1 ⟨rfl, hb⟩))
    refine hK.out _ _ ?_ (fun hHeld => ?_)
    · (first | exact Held.also (HS.out) (fun h => h.cells) | exact Held.also (HS.out.drew) (fun h => h.cells) | (go_split_ands; first | exact Held.also (Held.kept (by assumption) (by assumption)) (fun h => h.cells) | exact Held.also (Held.alloc (by assumption) _) (fun h => h.cells) | exact Held.also (Held.drew (by assumption)) (fun h => h.cells) | exact Held.also (by assumption) (fun h => h.cells)))
    clear hK K
    try simp only [Act.put, List.setIfInBounds_toArray, List.set_cons_zero, List.set_cons_succ, List.getElem_toArray, List.getElem_cons_zero, List.getElem_cons_succ]
    refine wpAnyH_take (i := 25) (v := ?_) rfl (by kernel_rfl) (by kernel_rfl) (by kernel_rfl) (fun _ _ _ h => h) (Or.inl ⟨by rfl, ?_⟩) (by assumption) ?_
    rotate_left
    · (intro w hSw; (try dsimp only at hSw); go_simp; try rfl)
    try simp only [Act.put, List.setIfInBounds_toArray, List.set_cons_zero, List.set_cons_succ, List.getElem_toArray, List.getElem_cons_zero, List.getElem_cons_succ]
    refine wpAnyH_take (i := 26) (v := ?_) rfl (by kernel_rfl) (by kernel_rfl) (by kernel_rfl) (fun _ _ _ h => h) (Or.inl ⟨by rfl, ?_⟩) (by assumption) ?_
    rotate_left
    · (intro w hSw; (try dsimp only at hSw); go_simp; try rfl)
    try simp only [Act.put, List.setIfInBounds_toArray, List.set_cons_zero, List.set_cons_succ, List.getElem_toArray, List.getElem_cons_zero, List.getElem_cons_succ]
    refine wpAnyH_take (i := 27) (v := ?_) rfl (by kernel_rfl) (by kernel_rfl) (by kernel_rfl) (fun _ _ _ h => h) (Or.inl ⟨by rfl, ?_⟩) (by assumption) ?_
    rotate_left
    · (intro w hSw; (try dsimp only at hSw); go_simp; try rfl)
    try simp only [Act.put, List.setIfInBounds_toArray, List.set_cons_zero, List.set_cons_succ, List.getElem_toArray, List.getElem_cons_zero, List.getElem_cons_succ]
    refine wpAnyH_take (i := 28) (v := undef) rfl (by kernel_rfl) (by kernel_rfl) (by kernel_rfl) (fun _ _ _ h => h) (Or.inr ⟨by rfl, rfl⟩) (by assumption) ?_
    try simp only [Act.put, List.setIfInBounds_toArray, List.set_cons_zero, List.set_cons_succ, List.getElem_toArray, List.getElem_cons_zero, List.getElem_cons_succ]
    refine wpAnyH_take (i := 29) (v := undef) rfl (by kernel_rfl) (by kernel_rfl) (by kernel_rfl) (fun _ _ _ h => h) (Or.inr ⟨by rfl, rfl⟩) (by assumption) ?_
    try simp only [Act.put, List.setIfInBounds_toArray, List.set_cons_zero, List.set_cons_succ, List.getElem_toArray, List.getElem_cons_zero, List.getElem_cons_succ]
    refine wpAnyH_take (i := 30) (v := undef) rfl (by kernel_rfl) (by kernel_rfl) (by kernel_rfl) (fun _ _ _ h => h) (Or.inr ⟨by rfl, rfl⟩) (by assumption) ?_
    try simp only [Act.put, List.setIfInBounds_toArray, List.set_cons_zero, List.set_cons_succ, List.getElem_toArray, List.getElem_cons_zero, List.getElem_cons_succ]
    refine wpAnyH_take (i := 31) (v := ?_) rfl (by kernel_rfl) (by kernel_rfl) (by kernel_rfl) (fun _ _ _ h => h) (Or.inl ⟨by rfl, ?_⟩) (by assumption) ?_
    rotate_left
    · (intro w hSw; (try dsimp only at hSw); go_simp; try rfl)
    try simp only [Act.put, List.setIfInBounds_toArray, List.set_cons_zero, List.set_cons_succ, List.getElem_toArray, List.getElem_cons_zero, List.getElem_cons_succ]
    refine wpAnyH_take (i := 32) (v := ?_) rfl (by kernel_rfl) (by kernel_rfl) (by kernel_rfl) (fun _ _ _ h => h) (Or.inl ⟨by rfl, ?_⟩) (by assumption) ?_
    rotate_left
    · (intro w hSw; (try dsimp only at hSw); go_simp; try rfl)
    try simp only [Act.put, List.setIfInBounds_toArray, List.set_cons_zero, List.set_cons_succ, List.getElem_toArray, List.getElem_cons_zero, List.getElem_cons_succ]
    refine wpAnyH_take (i := 33) (v := ?_) rfl (by kernel_rfl) (by kernel_rfl) (by kernel_rfl) (fun _ _ _ h => h) (Or.inl ⟨by rfl, ?_⟩) (by assumption) ?_
    rotate_left
    · (intro w hSw; (try dsimp only at hSw); go_simp; try rfl)
    try simp only [Act.put, List.setIfInBounds_toArray, List.set_cons_zero, List.set_cons_succ, List.getElem_toArray, List.getElem_cons_zero, List.getElem_cons_succ]
    refine wpAnyH_take (i := 34) (v := ?_) rfl (by kernel_rfl) (by kernel_rfl) (by kernel_rfl) (fun _ _ _ h => h) (Or.inl ⟨by rfl, ?_⟩) (by assumption) ?_
    rotate_left
    · (intro w hSw; (try dsimp only at hSw); go_simp; try rfl)
    try simp only [Act.put, List.setIfInBounds_toArray, List.set_cons_zero, List.set_cons_succ, List.getElem_toArray, List.getElem_cons_zero, List.getElem_cons_succ]
    refine wpAnyH_take (i := 35) (v := ?_) rfl (by kernel_rfl) (by kernel_rfl) (by kernel_rfl) (fun _ _ _ h => h) (Or.inl ⟨by rfl, ?_⟩) (by assumption) ?_
    rotate_left
    · (intro w hSw; (try dsimp only at hSw); go_simp; try rfl)
    try simp only [Act.put, List.setIfInBounds_toArray, List.set_cons_zero, List.set_cons_succ, List.getElem_toArray, List.getElem_cons_zero, List.getElem_cons_succ]
    refine wpAnyH_take (i := 36) (v := ?_) rfl (by kernel_rfl) (by kernel_rfl) (by kernel_rfl) (fun _ _ _ h => h) (Or.inl ⟨by rfl, ?_⟩) (by assumption) ?_
    rotate_left
    · (intro w hSw; (try dsimp only at hSw); go_simp; try rfl)
    try simp only [Act.put, List.setIfInBounds_toArray, List.set_cons_zero, List.set_cons_succ, List.getElem_toArray, List.getElem_cons_zero, List.getElem_cons_succ]
    refine wpAnyH_take (i := 37) (v := ?_) rfl (by kernel_rfl) (by kernel_rfl) (by kernel_rfl) (fun _ _ _ h => h) (Or.inl ⟨by rfl, ?_⟩) (by assumption) ?_
    rotate_left
    · (intro w hSw; (try dsimp only at hSw); go_simp; try rfl)
    try simp only [Act.put, List.setIfInBounds_toArray, List.set_cons_zero, List.set_cons_succ, List.getElem_toArray, List.getElem_cons_zero, List.getElem_cons_succ]
    refine wpAnyH_ready (rs := [38]) (by kernel_rfl) (by simp) ?_
    refine AllReadyH.cons rfl (fun K hK => ?_) AllReadyH.nil
    go_simp
    (first | (go_at_call 19; refine (less_any _ _ _ _ _).mono ?_; (try simp only [Hhab.out, Hhba.out, Hhbc.out]); rintro e w1 ⟨rfl, hb⟩) | (go_at_call 18; refine (most_any _ _ _ _ _).mono ?_; (try simp only [E1.out, E2.out, E3.out, E4.out]); rintro e w1 ⟨rfl, hb⟩))
    refine hK.out _ _ ?_ (fun hHeld => ?_)
    · (first | exact Held.also (HS.out) (fun h => h.cells) | exact Held.also (HS.out.drew) (fun h => h.cells) | (go_split_ands; first | exact Held.also (Held.kept (by assumption) (by assumption)) (fun h => h.cells) | exact Held.also (Held.alloc (by assumption) _) (fun h => h.cells) | exact Held.also (Held.drew (by assumption)) (fun h => h.cells) | exact Held.also (by assumption) (fun h => h.cells)))
    clear hK K
    try simp only [Act.put, List.setIfInBounds_toArray, List.set_cons_zero, List.set_cons_succ, List.getElem_toArray, List.getElem_cons_zero, List.getElem_cons_succ]
    refine wpAnyH_ready (rs := [39]) (by kernel_rfl) (by simp) ?_
    refine AllReadyH.cons rfl (fun K hK => ?_) AllReadyH.nil
    go_simp
    (first | (go_at_call 19; refine (less_any _ _ _ _ _).mono ?_; (try simp only [Hhab.out, Hhba.out, Hhbc.out]); rintro e w1 ⟨rfl, hb⟩) | (go_at_call 18; refine (most_any _ _ _ _ _).mono ?_; (try simp only [E1.out, E2.out, E3.out, E4.out]); rintro e w1 ⟨rfl, hb⟩))
    refine hK.out _ _ ?_ (fun hHeld => ?_)
    · (first | exact Held.also (HS.out) (fun h => h.cells) | exact Held.also (HS.out.drew) (fun h => h.cells) | (go_split_ands; first | exact Held.also (Held.kept (by assumption) (by assumption)) (fun h => h.cells) | exact Held.also (Held.alloc (by assumption) _) (fun h => h.cells) | exact Held.also (Held.drew (by assumption)) (fun h => h.cells) | exact Held.also (by assumption) (fun h => h.cells)))
    clear hK K
    try simp only [Act.put, List.setIfInBounds_toArray, List.set_cons_zero, List.set_cons_succ, List.getElem_toArray, List.getElem_cons_zero, List.getElem_cons_succ]
    refine wpAnyH_take (i := 40) (v := ?_) rfl (by kernel_rfl) (by kernel_rfl) (by kernel_rfl) (fun _ _ _ h => h) (Or.inl ⟨by rfl, ?_⟩) (by assumption) ?_
    rotate_left
    · (intro w hSw; (try dsimp only at hSw); go_simp; try rfl)
    try simp only [Act.put, List.setIfInBounds_toArray, List.set_cons_zero, List.set_cons_succ, List.getElem_toArray, List.getElem_cons_zero, List.getElem_cons_succ]
    refine wpAnyH_take (i := 41) (v := ?_) rfl (by kernel_rfl) (by kernel_rfl) (by kernel_rfl) (fun _ _ _ h => h) (Or.inl ⟨by rfl, ?_⟩) (by assumption) ?_
    rotate_left
    · (intro w hSw; (try dsimp only at hSw); go_simp; try rfl)
    try simp only [Act.put, List.setIfInBounds_toArray, List.set_cons_zero, List.set_cons_succ, List.getElem_toArray, List.getElem_cons_zero, List.getElem_cons_succ]
    refine wpAnyH_take (i := 42) (v := ?_) rfl (by kernel_rfl) (by kernel_rfl) (by kernel_rfl) (fun _ _ _ h => h) (Or.inl ⟨by rfl, ?_⟩) (by assumption) ?_
    rotate_left
    · (intro w hSw; (try dsimp only at hSw); go_simp; try rfl)
    try simp only [Act.put, List.setIfInBounds_toArray, List.set_cons_zero, List.set_cons_succ, List.getElem_toArray, List.getElem_cons_zero, List.getElem_cons_succ]
    refine wpAnyH_take (i := 43) (v := ?_) rfl (by kernel_rfl) (by kernel_rfl) (by kernel_rfl) (fun _ _ _ h => h) (Or.inl ⟨by rfl, ?_⟩) (by assumption) ?_
    rotate_left
    · (intro w hSw; (try dsimp only at hSw); go_simp; try rfl)
    try simp only [Act.put, List.setIfInBounds_toArray, List.set_cons_zero, List.set_cons_succ, List.getElem_toArray, List.getElem_cons_zero, List.getElem_cons_succ]
    refine wpAnyH_take (i := 44) (v := ?_) rfl (by kernel_rfl) (by kernel_rfl) (by kernel_rfl) (fun _ _ _ h => h) (Or.inl ⟨by rfl, ?_⟩) (by assumption) ?_
    rotate_left
    · (intro w hSw; (try dsimp only at hSw); go_simp; try rfl)
    try simp only [Act.put, List.setIfInBounds_toArray, List.set_cons_zero, List.set_cons_succ, List.getElem_toArray, List.getElem_cons_zero, List.getElem_cons_succ]
    refine wpAnyH_take (i := 45) (v := ?_) rfl (by kernel_rfl) (by kernel_rfl) (by kernel_rfl) (fun _ _ _ h => h) (Or.inl ⟨by rfl, ?_⟩) (by assumption) ?_
    rotate_left
    · (intro w hSw; (try dsimp only at hSw); go_simp; try rfl)
    try simp only [Act.put, List.setIfInBounds_toArray, List.set_cons_zero, List.set_cons_succ, List.getElem_toArray, List.getElem_cons_zero, List.getElem_cons_succ]
    refine wpAnyH_take (i := 46) (v := ?_) rfl (by kernel_rfl) (by kernel_rfl) (by kernel_rfl) (fun _ _ _ h => h) (Or.inl ⟨by rfl, ?_⟩) (by assumption) ?_
    rotate_left
    · (intro w hSw; (try dsimp only at hSw); go_simp; try rfl)
    try simp only [Act.put, List.setIfInBounds_toArray, List.set_cons_zero, List.set_cons_succ, List.getElem_toArray, List.getElem_cons_zero, List.getElem_cons_succ]
    refine wpAnyH_ready (rs := [47]) (by kernel_rfl) (by simp) ?_
    refine AllReadyH.cons rfl (fun K hK => ?_) AllReadyH.nil
    go_simp
    (first | (go_at_call 19; refine (less_any _ _ _ _ _).mono ?_; (try simp only [Hhab.out, Hhba.out, Hhbc.out]); rintro e w1 ⟨rfl, hb⟩) | (go_at_call 18; refine (most_any _ _ _ _ _).mono ?_; (try simp only [E1.out, E2.out, E3.out, E4.out]); rintro e w1 ⟨rfl, hb⟩))
    refine hK.out _ _ ?_ (fun hHeld => ?_)
    · (first | exact Held.also (HS.out) (fun h => h.cells) | exact Held.also (HS.out.drew) (fun h => h.cells) | (go_split_ands; first | exact Held.also (Held.kept (by assumption) (by assumption)) (fun h => h.cells) | exact Held.also (Held.alloc (by assumption) _) (fun h => h.cells) | exact Held.also (Held.drew (by assumption)) (fun h => h.cells) | exact Held.also (by assumption) (fun h => h.cells)))
    clear hK K
    try simp only [Act.put, List.setIfInBounds_toArray, List.set_cons_zero, List.set_cons_succ, List.getElem_toArray, List.getElem_cons_zero, List.getElem_cons_succ]
    refine wpAnyH_ready (rs := [48]) (by kernel_rfl) (by simp) ?_
    refine AllReadyH.cons rfl (fun K hK => ?_) AllReadyH.nil
    go_simp
    (first | (go_at_call 19; refine (less_any _ _ _ _ _).mono ?_; (try simp only [Hhab.out, Hhba.out, Hhbc.out]); rintro e w1 ⟨rfl, hb⟩) | (go_at_call 18; refine (most_any _ _ _ _ _).mono ?_; (try simp only [E1.out, E2.out, E3.out, E4.out]); rintro e w1 ⟨rfl, hb⟩))
    refine hK.out _ _ ?_ (fun hHeld => ?_)
    · (first | exact Held.also (HS.out) (fun h => h.cells) | exact Held.also (HS.out.drew) (fun h => h.cells) | (go_split_ands; first | exact Held.also (Held.kept (by assumption) (by assumption)) (fun h => h.cells) | exact Held.also (Held.alloc (by assumption) _) (fun h => h.cells) | exact Held.also (Held.drew (by assumption)) (fun h => h.cells) | exact Held.also (by assumption) (fun h => h.cells)))
    clear hK K
    try simp only [Act.put, List.setIfInBounds_toArray, List.set_cons_zero, List.set_cons_succ, List.getElem_toArray, List.getElem_cons_zero, List.getElem_cons_succ]
    refine wpAnyH_take (i := 49) (v := ?_) rfl (by kernel_rfl) (by kernel_rfl) (by kernel_rfl) (fun _ _ _ h => h) (Or.inl ⟨by rfl, ?_⟩) (by assumption) ?_
    rotate_left
    · (intro w hSw; (try dsimp only at hSw); go_simp; try rfl)
    try simp only [Act.put, List.setIfInBounds_toArray, List.set_cons_zero, List.set_cons_succ, List.getElem_toArray, List.getElem_cons_zero, List.getElem_cons_succ]
    refine wpAnyH_take (i := 50) (v := ?_) rfl (by kernel_rfl) (by kernel_rfl) (by kernel_rfl) (fun _ _ _ h => h) (Or.inl ⟨by rfl, ?_⟩) (by assumption) ?_
    rotate_left
    · (intro w hSw; (try dsimp only at hSw); go_simp; try rfl)
    try simp only [Act.put, List.setIfInBounds_toArray, List.set_cons_zero, List.set_cons_succ, List.getElem_toArray, List.getElem_cons_zero, List.getElem_cons_succ]
    refine wpAnyH_take (i := 51) (v := ?_) rfl (by kernel_rfl) (by kernel_rfl) (by kernel_rfl) (fun _ _ _ h => h) (Or.inl ⟨by rfl, ?_⟩) (by assumption) ?_
    rotate_left
    · (intro w hSw; (try dsimp only at hSw); go_simp; try rfl)
    try simp only [Act.put, List.setIfInBounds_toArray, List.set_cons_zero, List.set_cons_succ, List.getElem_toArray, List.getElem_cons_zero, List.getElem_cons_succ]
    refine wpAnyH_done (by kernel_rfl) ?_ _
    go_split_ands
    go_wp2
    go_ret
    exact ⟨rfl, (by assumption : Held w _ _ _).below⟩

set_option maxHeartbeats 4000000 in
theorem order_p2b (a1 a2 b2 c1 c2 : Int) (hne : (a2 == b2) = false) (hab : lessB a1 a2 a1 b2 = true) (hba : lessB a1 b2 a1 a2 = false) (hbc : lessB a1 b2 c1 c2 = false) (w : World) : Calls Try.prog 6 #[pr a1 a2, pr a1 b2, pr c1 c2] w fun e w' => e = .returned (.bool true) ∧ Below w.heap.size w w' := by
  have hs : Held w (w.heap.size + 1 + 1 + 1) [(⟨w.heap.size, 0, none⟩, (Value.int IntKind.i64 a1)), (⟨w.heap.size, 1, none⟩, (Value.int IntKind.i64 a2)), (⟨w.heap.size + 1, 0, none⟩, (Value.int IntKind.i64 a1)), (⟨w.heap.size + 1, 1, none⟩, (Value.int IntKind.i64 b2)), (⟨w.heap.size + 1 + 1, 0, none⟩, (Value.int IntKind.i64 c1)), (⟨w.heap.size + 1 + 1, 1, none⟩, (Value.int IntKind.i64 c2))] (((w.alloc (Obj.cells #[Value.int IntKind.i64 a1, Value.int IntKind.i64 a2] 30)).alloc (Obj.cells #[Value.int IntKind.i64 a1, Value.int IntKind.i64 b2] 30)).alloc (Obj.cells #[Value.int IntKind.i64 c1, Value.int IntKind.i64 c2] 30)) := by
    refine ⟨by simp; omega, ?_, by simp, (((Below.refl _ _).alloc (Nat.le_refl _) _).alloc (by simp) _).alloc (by simp; omega) _, by omega⟩
    simp [AllC, go_sem]
  have HS0 := Lib.hid hs
  clear hs
  have e1 := mo_assoc a1 a2 a1 b2 c1 c2
  have e2 := mo_rev a1 a2 a1 b2 c1 c2
  have E1 := Lib.hid e1.1
  have E2 := Lib.hid e1.2
  have E3 := Lib.hid e2.1
  have E4 := Lib.hid e2.2
  clear e1 e2
  have Hhab := Lib.hid hab; clear hab
  have Hhba := Lib.hid hba; clear hba
  have Hhbc := Lib.hid hbc; clear hbc
  go_enter Try.func6, Try.ntmps6
  go_wp2_with (first
    | (go_at_call 13; refine (works_any _).mono ?_; rintro e w1 ⟨rfl, hb⟩; have hn := HS0.out.kept hb; clear hb; have HS := Lib.hid hn; have hc := hn.cells; dsimp only [AllC] at hc; clear hn; go_split_ands)
    | (go_at_call 19; refine (less_any _ _ _ _ _).mono ?_; simp only [Hhab.out, Hhba.out, Hhbc.out]; rintro e w1 ⟨rfl, hb⟩; have hn := HS.out.kept hb; clear HS hb; have HS := Lib.hid hn; have hc := hn.cells; dsimp only [AllC] at hc; clear hn; go_split_ands))
  have hsz := HS.out.size
  go_cut [10] (fun m wx => ∃ g : Nat, m = .pointer (some ⟨g, 0, none⟩) ∧ w.heap.size + 1 + 1 + 1 ≤ g ∧ Held w (g + 1) [(⟨g, 0, none⟩, (Value.int IntKind.i64 (mo1 (mo1 a1 a2 a1 b2) (mo2 a1 a2 a1 b2) c1 c2))), (⟨g, 1, none⟩, (Value.int IntKind.i64 (mo2 (mo1 a1 a2 a1 b2) (mo2 a1 a2 a1 b2) c1 c2))), (⟨w.heap.size, 0, none⟩, (Value.int IntKind.i64 a1)), (⟨w.heap.size, 1, none⟩, (Value.int IntKind.i64 a2)), (⟨w.heap.size + 1, 0, none⟩, (Value.int IntKind.i64 a1)), (⟨w.heap.size + 1, 1, none⟩, (Value.int IntKind.i64 b2)), (⟨w.heap.size + 1 + 1, 0, none⟩, (Value.int IntKind.i64 c1)), (⟨w.heap.size + 1 + 1, 1, none⟩, (Value.int IntKind.i64 c2))] wx)
  case first =>
    refine wp_region_held_drew (S := fun w' => (w'.cell? ⟨w.heap.size, 0, none⟩ = some (Value.int IntKind.i64 a1) ∧ w'.cell? ⟨w.heap.size, 1, none⟩ = some (Value.int IntKind.i64 a2) ∧ w'.cell? ⟨w.heap.size + 1, 0, none⟩ = some (Value.int IntKind.i64 a1) ∧ w'.cell? ⟨w.heap.size + 1, 1, none⟩ = some (Value.int IntKind.i64 b2) ∧ w'.cell? ⟨w.heap.size + 1 + 1, 0, none⟩ = some (Value.int IntKind.i64 c1) ∧ w'.cell? ⟨w.heap.size + 1 + 1, 1, none⟩ = some (Value.int IntKind.i64 c2) ∧ True) ∧ Held w (w.heap.size + 1 + 1 + 1) [(⟨w.heap.size, 0, none⟩, (Value.int IntKind.i64 a1)), (⟨w.heap.size, 1, none⟩, (Value.int IntKind.i64 a2)), (⟨w.heap.size + 1, 0, none⟩, (Value.int IntKind.i64 a1)), (⟨w.heap.size + 1, 1, none⟩, (Value.int IntKind.i64 b2)), (⟨w.heap.size + 1 + 1, 0, none⟩, (Value.int IntKind.i64 c1)), (⟨w.heap.size + 1 + 1, 1, none⟩, (Value.int IntKind.i64 c2))] w') (by kernel_rfl) ?_ (fun hHeld => ?_)
    · (first | exact Held.also (HS.out) (fun h => h.cells) | exact Held.also (HS.out.drew) (fun h => h.cells) | (go_split_ands; first | exact Held.also (Held.kept (by assumption) (by assumption)) (fun h => h.cells) | exact Held.also (Held.alloc (by assumption) _) (fun h => h.cells) | exact Held.also (Held.drew (by assumption)) (fun h => h.cells) | exact Held.also (by assumption) (fun h => h.cells) | exact Held.also (Held.set (Held.set (by assumption) (by simp; omega) _) (by simp; omega) _) (fun h => h.cells)))
    refine wpAnyH_take (i := 0) (v := ?_) rfl (by kernel_rfl) (by kernel_rfl) (by kernel_rfl) (fun _ _ _ h => h) (Or.inl ⟨by rfl, ?_⟩) (by assumption) ?_
    rotate_left
    · (intro w hSw; (try dsimp only at hSw); go_simp; try rfl)
    try simp only [Act.put, List.setIfInBounds_toArray, List.set_cons_zero, List.set_cons_succ, List.getElem_toArray, List.getElem_cons_zero, List.getElem_cons_succ]
    refine wpAnyH_take (i := 1) (v := ?_) rfl (by kernel_rfl) (by kernel_rfl) (by kernel_rfl) (fun _ _ _ h => h) (Or.inl ⟨by rfl, ?_⟩) (by assumption) ?_
    rotate_left
    · (intro w hSw; (try dsimp only at hSw); go_simp; try rfl)
    try simp only [Act.put, List.setIfInBounds_toArray, List.set_cons_zero, List.set_cons_succ, List.getElem_toArray, List.getElem_cons_zero, List.getElem_cons_succ]
    refine wpAnyH_take (i := 3) (v := ?_) rfl (by kernel_rfl) (by kernel_rfl) (by kernel_rfl) (fun _ _ _ h => h) (Or.inl ⟨by rfl, ?_⟩) (by assumption) ?_
    rotate_left
    · (intro w hSw; (try dsimp only at hSw); go_simp; try rfl)
    try simp only [Act.put, List.setIfInBounds_toArray, List.set_cons_zero, List.set_cons_succ, List.getElem_toArray, List.getElem_cons_zero, List.getElem_cons_succ]
    refine wpAnyH_ready (rs := [2, 5]) (by kernel_rfl) (by simp) ?_
    refine (AllReadyH.cons rfl (fun K hK => ?_) (AllReadyH.cons rfl (fun K hK => ?_) AllReadyH.nil))
    · go_simp
      (go_at_call 18; go_split_ands; refine (most_any _ _ _ _ _).mono ?_; rintro e wx2 ⟨rfl, hb2⟩; have hx2 := Held.kept (by assumption) hb2; obtain ⟨hbc2, hbf2⟩ := bcell hb2; have hz2 := hb2.size; (try simp at hz2); have hsx2 := hx2.size)
      refine hK.out _ _ ?_ (fun hHeld => ?_)
      · (first | exact Held.also (HS.out) (fun h => h.cells) | exact Held.also (HS.out.drew) (fun h => h.cells) | (go_split_ands; first | exact Held.also (Held.kept (by assumption) (by assumption)) (fun h => h.cells) | exact Held.also (Held.alloc (by assumption) _) (fun h => h.cells) | exact Held.also (Held.drew (by assumption)) (fun h => h.cells) | exact Held.also (by assumption) (fun h => h.cells) | exact Held.also (Held.set (Held.set (by assumption) (by simp; omega) _) (by simp; omega) _) (fun h => h.cells)))
      clear hK K
      try simp only [Act.put, List.setIfInBounds_toArray, List.set_cons_zero, List.set_cons_succ, List.getElem_toArray, List.getElem_cons_zero, List.getElem_cons_succ]
      refine wpAnyH_ready (rs := [4, 5]) (by kernel_rfl) (by simp) ?_
      refine (AllReadyH.cons rfl (fun K hK => ?_) (AllReadyH.cons rfl (fun K hK => ?_) AllReadyH.nil))
      · go_simp
        (go_at_call 18; go_split_ands; refine (most_any _ _ _ _ _).mono ?_; rintro e wx4 ⟨rfl, hb4⟩; have hx4 := Held.kept (by assumption) hb4; obtain ⟨hbc4, hbf4⟩ := bcell hb4; have hz4 := hb4.size; (try simp at hz4); have hsx4 := hx4.size)
        refine hK.out _ _ ?_ (fun hHeld => ?_)
        · (first | exact Held.also (HS.out) (fun h => h.cells) | exact Held.also (HS.out.drew) (fun h => h.cells) | (go_split_ands; first | exact Held.also (Held.kept (by assumption) (by assumption)) (fun h => h.cells) | exact Held.also (Held.alloc (by assumption) _) (fun h => h.cells) | exact Held.also (Held.drew (by assumption)) (fun h => h.cells) | exact Held.also (by assumption) (fun h => h.cells) | exact Held.also (Held.set (Held.set (by assumption) (by simp; omega) _) (by simp; omega) _) (fun h => h.cells)))
        clear hK K
        try simp only [Act.put, List.setIfInBounds_toArray, List.set_cons_zero, List.set_cons_succ, List.getElem_toArray, List.getElem_cons_zero, List.getElem_cons_succ]
        refine wpAnyH_ready (rs := [5]) (by kernel_rfl) (by simp) ?_
        refine (AllReadyH.cons rfl (fun K hK => ?_) AllReadyH.nil)
        go_simp
        refine hK.out _ _ ?_ (fun hHeld => ?_)
        · (first | exact Held.also (HS.out) (fun h => h.cells) | exact Held.also (HS.out.drew) (fun h => h.cells) | (go_split_ands; first | exact Held.also (Held.kept (by assumption) (by assumption)) (fun h => h.cells) | exact Held.also (Held.alloc (by assumption) _) (fun h => h.cells) | exact Held.also (Held.drew (by assumption)) (fun h => h.cells) | exact Held.also (by assumption) (fun h => h.cells) | exact Held.also (Held.set (Held.set (by assumption) (by simp; omega) _) (by simp; omega) _) (fun h => h.cells)))
        clear hK K
        try simp only [Act.put, List.setIfInBounds_toArray, List.set_cons_zero, List.set_cons_succ, List.getElem_toArray, List.getElem_cons_zero, List.getElem_cons_succ]
        refine wpAnyH_ready (rs := [6]) (by kernel_rfl) (by simp) ?_
        refine (AllReadyH.cons rfl (fun K hK => ?_) AllReadyH.nil)
        go_simp
        refine hK.out _ _ ?_ (fun hHeld => ?_)
        · (first | exact Held.also (HS.out) (fun h => h.cells) | exact Held.also (HS.out.drew) (fun h => h.cells) | (go_split_ands; first | exact Held.also (Held.kept (by assumption) (by assumption)) (fun h => h.cells) | exact Held.also (Held.alloc (by assumption) _) (fun h => h.cells) | exact Held.also (Held.drew (by assumption)) (fun h => h.cells) | exact Held.also (by assumption) (fun h => h.cells) | exact Held.also (Held.set (Held.set (by assumption) (by simp; omega) _) (by simp; omega) _) (fun h => h.cells)))
        clear hK K
        try simp only [Act.put, List.setIfInBounds_toArray, List.set_cons_zero, List.set_cons_succ, List.getElem_toArray, List.getElem_cons_zero, List.getElem_cons_succ]
        refine wpAnyH_done (by kernel_rfl) ?_ _
        go_split_ands
        go_wp2_with fail
        go_meet
        exact ⟨_, rfl, by omega, Held.more (by assumption) (by omega) (by simp <;> omega) (by simp [go_sem, *]) (by simp [go_sem, *])⟩
      · go_simp
        refine hK.out _ _ ?_ (fun hHeld => ?_)
        · (first | exact Held.also (HS.out) (fun h => h.cells) | exact Held.also (HS.out.drew) (fun h => h.cells) | (go_split_ands; first | exact Held.also (Held.kept (by assumption) (by assumption)) (fun h => h.cells) | exact Held.also (Held.alloc (by assumption) _) (fun h => h.cells) | exact Held.also (Held.drew (by assumption)) (fun h => h.cells) | exact Held.also (by assumption) (fun h => h.cells) | exact Held.also (Held.set (Held.set (by assumption) (by simp; omega) _) (by simp; omega) _) (fun h => h.cells)))
        clear hK K
        try simp only [Act.put, List.setIfInBounds_toArray, List.set_cons_zero, List.set_cons_succ, List.getElem_toArray, List.getElem_cons_zero, List.getElem_cons_succ]
        refine wpAnyH_ready (rs := [4]) (by kernel_rfl) (by simp) ?_
        refine (AllReadyH.cons rfl (fun K hK => ?_) AllReadyH.nil)
        go_simp
        (go_at_call 18; go_split_ands; refine (most_any _ _ _ _ _).mono ?_; rintro e wx4 ⟨rfl, hb4⟩; have hx4 := Held.kept (by assumption) hb4; obtain ⟨hbc4, hbf4⟩ := bcell hb4; have hz4 := hb4.size; (try simp at hz4); have hsx4 := hx4.size)
        refine hK.out _ _ ?_ (fun hHeld => ?_)
        · (first | exact Held.also (HS.out) (fun h => h.cells) | exact Held.also (HS.out.drew) (fun h => h.cells) | (go_split_ands; first | exact Held.also (Held.kept (by assumption) (by assumption)) (fun h => h.cells) | exact Held.also (Held.alloc (by assumption) _) (fun h => h.cells) | exact Held.also (Held.drew (by assumption)) (fun h => h.cells) | exact Held.also (by assumption) (fun h => h.cells) | exact Held.also (Held.set (Held.set (by assumption) (by simp; omega) _) (by simp; omega) _) (fun h => h.cells)))
        clear hK K
        try simp only [Act.put, List.setIfInBounds_toArray, List.set_cons_zero, List.set_cons_succ, List.getElem_toArray, List.getElem_cons_zero, List.getElem_cons_succ]
        refine wpAnyH_ready (rs := [6]) (by kernel_rfl) (by simp) ?_
        refine (AllReadyH.cons rfl (fun K hK => ?_) AllReadyH.nil)
        go_simp
        refine hK.out _ _ ?_ (fun hHeld => ?_)
        · (first | exact Held.also (HS.out) (fun h => h.cells) | exact Held.also (HS.out.drew) (fun h => h.cells) | (go_split_ands; first | exact Held.also (Held.kept (by assumption) (by assumption)) (fun h => h.cells) | exact Held.also (Held.alloc (by assumption) _) (fun h => h.cells) | exact Held.also (Held.drew (by assumption)) (fun h => h.cells) | exact Held.also (by assumption) (fun h => h.cells) | exact Held.also (Held.set (Held.set (by assumption) (by simp; omega) _) (by simp; omega) _) (fun h => h.cells)))
        clear hK K
        try simp only [Act.put, List.setIfInBounds_toArray, List.set_cons_zero, List.set_cons_succ, List.getElem_toArray, List.getElem_cons_zero, List.getElem_cons_succ]
        refine wpAnyH_done (by kernel_rfl) ?_ _
        go_split_ands
        go_wp2_with fail
        go_meet
        exact ⟨_, rfl, by omega, Held.more (by assumption) (by omega) (by simp <;> omega) (by simp [go_sem, *]) (by simp [go_sem, *])⟩
    · go_simp
      refine hK.out _ _ ?_ (fun hHeld => ?_)
      · (first | exact Held.also (HS.out) (fun h => h.cells) | exact Held.also (HS.out.drew) (fun h => h.cells) | (go_split_ands; first | exact Held.also (Held.kept (by assumption) (by assumption)) (fun h => h.cells) | exact Held.also (Held.alloc (by assumption) _) (fun h => h.cells) | exact Held.also (Held.drew (by assumption)) (fun h => h.cells) | exact Held.also (by assumption) (fun h => h.cells) | exact Held.also (Held.set (Held.set (by assumption) (by simp; omega) _) (by simp; omega) _) (fun h => h.cells)))
      clear hK K
      try simp only [Act.put, List.setIfInBounds_toArray, List.set_cons_zero, List.set_cons_succ, List.getElem_toArray, List.getElem_cons_zero, List.getElem_cons_succ]
      refine wpAnyH_ready (rs := [2]) (by kernel_rfl) (by simp) ?_
      refine (AllReadyH.cons rfl (fun K hK => ?_) AllReadyH.nil)
      go_simp
      (go_at_call 18; go_split_ands; refine (most_any _ _ _ _ _).mono ?_; rintro e wx2 ⟨rfl, hb2⟩; have hx2 := Held.kept (by assumption) hb2; obtain ⟨hbc2, hbf2⟩ := bcell hb2; have hz2 := hb2.size; (try simp at hz2); have hsx2 := hx2.size)
      refine hK.out _ _ ?_ (fun hHeld => ?_)
      · (first | exact Held.also (HS.out) (fun h => h.cells) | exact Held.also (HS.out.drew) (fun h => h.cells) | (go_split_ands; first | exact Held.also (Held.kept (by assumption) (by assumption)) (fun h => h.cells) | exact Held.also (Held.alloc (by assumption) _) (fun h => h.cells) | exact Held.also (Held.drew (by assumption)) (fun h => h.cells) | exact Held.also (by assumption) (fun h => h.cells) | exact Held.also (Held.set (Held.set (by assumption) (by simp; omega) _) (by simp; omega) _) (fun h => h.cells)))
      clear hK K
      try simp only [Act.put, List.setIfInBounds_toArray, List.set_cons_zero, List.set_cons_succ, List.getElem_toArray, List.getElem_cons_zero, List.getElem_cons_succ]
      refine wpAnyH_ready (rs := [4]) (by kernel_rfl) (by simp) ?_
      refine (AllReadyH.cons rfl (fun K hK => ?_) AllReadyH.nil)
      go_simp
      (go_at_call 18; go_split_ands; refine (most_any _ _ _ _ _).mono ?_; rintro e wx4 ⟨rfl, hb4⟩; have hx4 := Held.kept (by assumption) hb4; obtain ⟨hbc4, hbf4⟩ := bcell hb4; have hz4 := hb4.size; (try simp at hz4); have hsx4 := hx4.size)
      refine hK.out _ _ ?_ (fun hHeld => ?_)
      · (first | exact Held.also (HS.out) (fun h => h.cells) | exact Held.also (HS.out.drew) (fun h => h.cells) | (go_split_ands; first | exact Held.also (Held.kept (by assumption) (by assumption)) (fun h => h.cells) | exact Held.also (Held.alloc (by assumption) _) (fun h => h.cells) | exact Held.also (Held.drew (by assumption)) (fun h => h.cells) | exact Held.also (by assumption) (fun h => h.cells) | exact Held.also (Held.set (Held.set (by assumption) (by simp; omega) _) (by simp; omega) _) (fun h => h.cells)))
      clear hK K
      try simp only [Act.put, List.setIfInBounds_toArray, List.set_cons_zero, List.set_cons_succ, List.getElem_toArray, List.getElem_cons_zero, List.getElem_cons_succ]
      refine wpAnyH_ready (rs := [6]) (by kernel_rfl) (by simp) ?_
      refine (AllReadyH.cons rfl (fun K hK => ?_) AllReadyH.nil)
      have kc0 : wx4.cell? ⟨w1.heap.size, 0, none⟩ = some (.int .i64 0) := (hb4.cell (p := ⟨w1.heap.size, 0, none⟩) (by simp; omega)).trans ((hb2.cell (p := ⟨w1.heap.size, 0, none⟩) (by simp)).trans (by simp [go_sem]))
      have kc1 : wx4.cell? ⟨w1.heap.size, 1, none⟩ = some (.int .i64 0) := (hb4.cell (p := ⟨w1.heap.size, 1, none⟩) (by simp; omega)).trans ((hb2.cell (p := ⟨w1.heap.size, 1, none⟩) (by simp)).trans (by simp [go_sem]))
      have kf0 : wx4.frozen? ⟨w1.heap.size, 0, none⟩ = false := (hb4.frozen (p := ⟨w1.heap.size, 0, none⟩) (by simp; omega)).trans ((hb2.frozen (p := ⟨w1.heap.size, 0, none⟩) (by simp)).trans (by simp [go_sem]))
      have kf1 : wx4.frozen? ⟨w1.heap.size, 1, none⟩ = false := (hb4.frozen (p := ⟨w1.heap.size, 1, none⟩) (by simp; omega)).trans ((hb2.frozen (p := ⟨w1.heap.size, 1, none⟩) (by simp)).trans (by simp [go_sem]))
      go_simp
      refine hK.out _ _ ?_ (fun hHeld => ?_)
      · (first | exact Held.also (HS.out) (fun h => h.cells) | exact Held.also (HS.out.drew) (fun h => h.cells) | (go_split_ands; first | exact Held.also (Held.kept (by assumption) (by assumption)) (fun h => h.cells) | exact Held.also (Held.alloc (by assumption) _) (fun h => h.cells) | exact Held.also (Held.drew (by assumption)) (fun h => h.cells) | exact Held.also (by assumption) (fun h => h.cells) | exact Held.also (Held.set (Held.set (by assumption) (by simp; omega) _) (by simp; omega) _) (fun h => h.cells)))
      clear hK K
      try simp only [Act.put, List.setIfInBounds_toArray, List.set_cons_zero, List.set_cons_succ, List.getElem_toArray, List.getElem_cons_zero, List.getElem_cons_succ]
      refine wpAnyH_done (by kernel_rfl) ?_ _
      go_split_ands
      go_wp2_with fail
      go_meet
      exact ⟨_, rfl, by omega, Held.more (by assumption) (by omega) (by simp <;> omega) (by simp [go_sem, *]) (by simp [go_sem, *])⟩
  case rest =>
    obtain ⟨g, rfl, hg, HM⟩ := hcut
    have HS := Lib.hid HM
    have hc := HM.cells
    dsimp only [AllC] at hc
    clear HM
    go_split_ands
    go_wp2_with fail
    refine wp_region_held_drew (S := fun w' => (w'.cell? ⟨g, 0, none⟩ = some (Value.int IntKind.i64 (mo1 (mo1 a1 a2 a1 b2) (mo2 a1 a2 a1 b2) c1 c2)) ∧ w'.cell? ⟨g, 1, none⟩ = some (Value.int IntKind.i64 (mo2 (mo1 a1 a2 a1 b2) (mo2 a1 a2 a1 b2) c1 c2)) ∧ w'.cell? ⟨w.heap.size, 0, none⟩ = some (Value.int IntKind.i64 a1) ∧ w'.cell? ⟨w.heap.size, 1, none⟩ = some (Value.int IntKind.i64 a2) ∧ w'.cell? ⟨w.heap.size + 1, 0, none⟩ = some (Value.int IntKind.i64 a1) ∧ w'.cell? ⟨w.heap.size + 1, 1, none⟩ = some (Value.int IntKind.i64 b2) ∧ w'.cell? ⟨w.heap.size + 1 + 1, 0, none⟩ = some (Value.int IntKind.i64 c1) ∧ w'.cell? ⟨w.heap.size + 1 + 1, 1, none⟩ = some (Value.int IntKind.i64 c2) ∧ True) ∧ Held w (g + 1) [(⟨g, 0, none⟩, (Value.int IntKind.i64 (mo1 (mo1 a1 a2 a1 b2) (mo2 a1 a2 a1 b2) c1 c2))), (⟨g, 1, none⟩, (Value.int IntKind.i64 (mo2 (mo1 a1 a2 a1 b2) (mo2 a1 a2 a1 b2) c1 c2))), (⟨w.heap.size, 0, none⟩, (Value.int IntKind.i64 a1)), (⟨w.heap.size, 1, none⟩, (Value.int IntKind.i64 a2)), (⟨w.heap.size + 1, 0, none⟩, (Value.int IntKind.i64 a1)), (⟨w.heap.size + 1, 1, none⟩, (Value.int IntKind.i64 b2)), (⟨w.heap.size + 1 + 1, 0, none⟩, (Value.int IntKind.i64 c1)), (⟨w.heap.size + 1 + 1, 1, none⟩, (Value.int IntKind.i64 c2))] w') (by kernel_rfl) ?_ (fun hHeld => ?_)
    · (first | exact Held.also (HS.out) (fun h => h.cells) | exact Held.also (HS.out.drew) (fun h => h.cells) | (go_split_ands; first | exact Held.also (Held.kept (by assumption) (by assumption)) (fun h => h.cells) | exact Held.also (Held.alloc (by assumption) _) (fun h => h.cells) | exact Held.also (Held.drew (by assumption)) (fun h => h.cells) | exact Held.also (by assumption) (fun h => h.cells)))
    refine wpAnyH_take (i := 0) (v := ?_) rfl (by kernel_rfl) (by kernel_rfl) (by kernel_rfl) (fun _ _ _ h => h) (Or.inl ⟨by rfl, ?_⟩) (by assumption) ?_
    rotate_left
    · (intro w hSw; (try dsimp only at hSw); go_simp; try rfl)
    try simp only [Act.put, List.setIfInBounds_toArray, List.set_cons_zero, List.set_cons_succ, List.getElem_toArray, List.getElem_cons_zero, List.getElem_cons_succ]
    refine wpAnyH_take (i := 1) (v := ?_) rfl (by kernel_rfl) (by kernel_rfl) (by kernel_rfl) (fun _ _ _ h => h) (Or.inl ⟨by rfl, ?_⟩) (by assumption) ?_
    rotate_left
    · (intro w hSw; (try dsimp only at hSw); go_simp; try rfl)
    try simp only [Act.put, List.setIfInBounds_toArray, List.set_cons_zero, List.set_cons_succ, List.getElem_toArray, List.getElem_cons_zero, List.getElem_cons_succ]
    refine wpAnyH_take (i := 2) (v := ?_) rfl (by kernel_rfl) (by kernel_rfl) (by kernel_rfl) (fun _ _ _ h => h) (Or.inl ⟨by rfl, ?_⟩) (by assumption) ?_
    rotate_left
    · (intro w hSw; (try dsimp only at hSw); go_simp; try rfl)
    try simp only [Act.put, List.setIfInBounds_toArray, List.set_cons_zero, List.set_cons_succ, List.getElem_toArray, List.getElem_cons_zero, List.getElem_cons_succ]
    refine wpAnyH_take (i := 3) (v := ?_) rfl (by kernel_rfl) (by kernel_rfl) (by kernel_rfl) (fun _ _ _ h => h) (Or.inl ⟨by rfl, ?_⟩) (by assumption) ?_
    rotate_left
    · (intro w hSw; (try dsimp only at hSw); go_simp; try rfl)
    try simp only [Act.put, List.setIfInBounds_toArray, List.set_cons_zero, List.set_cons_succ, List.getElem_toArray, List.getElem_cons_zero, List.getElem_cons_succ]
    refine wpAnyH_take (i := 4) (v := ?_) rfl (by kernel_rfl) (by kernel_rfl) (by kernel_rfl) (fun _ _ _ h => h) (Or.inl ⟨by rfl, ?_⟩) (by assumption) ?_
    rotate_left
    · (intro w hSw; (try dsimp only at hSw); go_simp; try rfl)
    try simp only [Act.put, List.setIfInBounds_toArray, List.set_cons_zero, List.set_cons_succ, List.getElem_toArray, List.getElem_cons_zero, List.getElem_cons_succ]
    refine wpAnyH_take (i := 5) (v := ?_) rfl (by kernel_rfl) (by kernel_rfl) (by kernel_rfl) (fun _ _ _ h => h) (Or.inl ⟨by rfl, ?_⟩) (by assumption) ?_
    rotate_left
    · (intro w hSw; (try dsimp only at hSw); go_simp; try rfl)
    try simp only [Act.put, List.setIfInBounds_toArray, List.set_cons_zero, List.set_cons_succ, List.getElem_toArray, List.getElem_cons_zero, List.getElem_cons_succ]
    refine wpAnyH_take (i := 6) (v := ?_) rfl (by kernel_rfl) (by kernel_rfl) (by kernel_rfl) (fun _ _ _ h => h) (Or.inl ⟨by rfl, ?_⟩) (by assumption) ?_
    rotate_left
    · (intro w hSw; (try dsimp only at hSw); go_simp; try rfl)
    try simp only [Act.put, List.setIfInBounds_toArray, List.set_cons_zero, List.set_cons_succ, List.getElem_toArray, List.getElem_cons_zero, List.getElem_cons_succ]
    refine wpAnyH_take (i := 7) (v := ?_) rfl (by kernel_rfl) (by kernel_rfl) (by kernel_rfl) (fun _ _ _ h => h) (Or.inl ⟨by rfl, ?_⟩) (by assumption) ?_
    rotate_left
    · (intro w hSw; (try dsimp only at hSw); go_simp; try rfl)
    try simp only [Act.put, List.setIfInBounds_toArray, List.set_cons_zero, List.set_cons_succ, List.getElem_toArray, List.getElem_cons_zero, List.getElem_cons_succ]
    refine wpAnyH_take (i := 8) (v := ?_) rfl (by kernel_rfl) (by kernel_rfl) (by kernel_rfl) (fun _ _ _ h => h) (Or.inl ⟨by rfl, ?_⟩) (by assumption) ?_
    rotate_left
    · (intro w hSw; (try dsimp only at hSw); go_simp; try rfl)
    try simp only [Act.put, List.setIfInBounds_toArray, List.set_cons_zero, List.set_cons_succ, List.getElem_toArray, List.getElem_cons_zero, List.getElem_cons_succ]
    refine wpAnyH_take (i := 9) (v := ?_) rfl (by kernel_rfl) (by kernel_rfl) (by kernel_rfl) (fun _ _ _ h => h) (Or.inl ⟨by rfl, ?_⟩) (by assumption) ?_
    rotate_left
    · (intro w hSw; (try dsimp only at hSw); go_simp; try rfl)
    try simp only [Act.put, List.setIfInBounds_toArray, List.set_cons_zero, List.set_cons_succ, List.getElem_toArray, List.getElem_cons_zero, List.getElem_cons_succ]
    refine wpAnyH_take (i := 10) (v := ?_) rfl (by kernel_rfl) (by kernel_rfl) (by kernel_rfl) (fun _ _ _ h => h) (Or.inl ⟨by rfl, ?_⟩) (by assumption) ?_
    rotate_left
    · (intro w hSw; (try dsimp only at hSw); go_simp; try rfl)
    try simp only [Act.put, List.setIfInBounds_toArray, List.set_cons_zero, List.set_cons_succ, List.getElem_toArray, List.getElem_cons_zero, List.getElem_cons_succ]
    refine wpAnyH_take (i := 11) (v := undef) rfl (by kernel_rfl) (by kernel_rfl) (by kernel_rfl) (fun _ _ _ h => h) (Or.inr ⟨by rfl, rfl⟩) (by assumption) ?_
    try simp only [Act.put, List.setIfInBounds_toArray, List.set_cons_zero, List.set_cons_succ, List.getElem_toArray, List.getElem_cons_zero, List.getElem_cons_succ]
    refine wpAnyH_take (i := 12) (v := ?_) rfl (by kernel_rfl) (by kernel_rfl) (by kernel_rfl) (fun _ _ _ h => h) (Or.inl ⟨by rfl, ?_⟩) (by assumption) ?_
    rotate_left
    · (intro w hSw; (try dsimp only at hSw); go_simp; try rfl)
    try simp only [Act.put, List.setIfInBounds_toArray, List.set_cons_zero, List.set_cons_succ, List.getElem_toArray, List.getElem_cons_zero, List.getElem_cons_succ]
    refine wpAnyH_take (i := 13) (v := ?_) rfl (by kernel_rfl) (by kernel_rfl) (by kernel_rfl) (fun _ _ _ h => h) (Or.inl ⟨by rfl, ?_⟩) (by assumption) ?_
    rotate_left
    · (intro w hSw; (try dsimp only at hSw); go_simp; try rfl)
    try simp only [Act.put, List.setIfInBounds_toArray, List.set_cons_zero, List.set_cons_succ, List.getElem_toArray, List.getElem_cons_zero, List.getElem_cons_succ]
    refine wpAnyH_take (i := 14) (v := ?_) rfl (by kernel_rfl) (by kernel_rfl) (by kernel_rfl) (fun _ _ _ h => h) (Or.inl ⟨by rfl, ?_⟩) (by assumption) ?_
    rotate_left
    · (intro w hSw; (try dsimp only at hSw); go_simp; try rfl)
    try simp only [Act.put, List.setIfInBounds_toArray, List.set_cons_zero, List.set_cons_succ, List.getElem_toArray, List.getElem_cons_zero, List.getElem_cons_succ]
    refine wpAnyH_take (i := 15) (v := ?_) rfl (by kernel_rfl) (by kernel_rfl) (by kernel_rfl) (fun _ _ _ h => h) (Or.inl ⟨by rfl, ?_⟩) (by assumption) ?_
    rotate_left
    · (intro w hSw; (try dsimp only at hSw); go_simp; try rfl)
    try simp only [Act.put, List.setIfInBounds_toArray, List.set_cons_zero, List.set_cons_succ, List.getElem_toArray, List.getElem_cons_zero, List.getElem_cons_succ]
    refine wpAnyH_take (i := 16) (v := ?_) rfl (by kernel_rfl) (by kernel_rfl) (by kernel_rfl) (fun _ _ _ h => h) (Or.inl ⟨by rfl, ?_⟩) (by assumption) ?_
    rotate_left
    · (intro w hSw; (try dsimp only at hSw); go_simp; try rfl)
    try simp only [Act.put, List.setIfInBounds_toArray, List.set_cons_zero, List.set_cons_succ, List.getElem_toArray, List.getElem_cons_zero, List.getElem_cons_succ]
    refine wpAnyH_take (i := 17) (v := ?_) rfl (by kernel_rfl) (by kernel_rfl) (by kernel_rfl) (fun _ _ _ h => h) (Or.inl ⟨by rfl, ?_⟩) (by assumption) ?_
    rotate_left
    · (intro w hSw; (try dsimp only at hSw); go_simp; try rfl)
    try simp only [Act.put, List.setIfInBounds_toArray, List.set_cons_zero, List.set_cons_succ, List.getElem_toArray, List.getElem_cons_zero, List.getElem_cons_succ]
    refine wpAnyH_take (i := 18) (v := ?_) rfl (by kernel_rfl) (by kernel_rfl) (by kernel_rfl) (fun _ _ _ h => h) (Or.inl ⟨by rfl, ?_⟩) (by assumption) ?_
    rotate_left
    · (intro w hSw; (try dsimp only at hSw); go_simp; try rfl)
    try simp only [Act.put, List.setIfInBounds_toArray, List.set_cons_zero, List.set_cons_succ, List.getElem_toArray, List.getElem_cons_zero, List.getElem_cons_succ]
    refine wpAnyH_take (i := 19) (v := ?_) rfl (by kernel_rfl) (by kernel_rfl) (by kernel_rfl) (fun _ _ _ h => h) (Or.inl ⟨by rfl, ?_⟩) (by assumption) ?_
    rotate_left
    · (intro w hSw; (try dsimp only at hSw); go_simp; try rfl)
    try simp only [Act.put, List.setIfInBounds_toArray, List.set_cons_zero, List.set_cons_succ, List.getElem_toArray, List.getElem_cons_zero, List.getElem_cons_succ]
    refine wpAnyH_take (i := 20) (v := ?_) rfl (by kernel_rfl) (by kernel_rfl) (by kernel_rfl) (fun _ _ _ h => h) (Or.inl ⟨by rfl, ?_⟩) (by assumption) ?_
    rotate_left
    · (intro w hSw; (try dsimp only at hSw); go_simp; try rfl)
    try simp only [Act.put, List.setIfInBounds_toArray, List.set_cons_zero, List.set_cons_succ, List.getElem_toArray, List.getElem_cons_zero, List.getElem_cons_succ]
    refine wpAnyH_take (i := 21) (v := ?_) rfl (by kernel_rfl) (by kernel_rfl) (by kernel_rfl) (fun _ _ _ h => h) (Or.inl ⟨by rfl, ?_⟩) (by assumption) ?_
    rotate_left
    · (intro w hSw; (try dsimp only at hSw); go_simp; try rfl)
    try simp only [Act.put, List.setIfInBounds_toArray, List.set_cons_zero, List.set_cons_succ, List.getElem_toArray, List.getElem_cons_zero, List.getElem_cons_succ]
    refine wpAnyH_take (i := 22) (v := ?_) rfl (by kernel_rfl) (by kernel_rfl) (by kernel_rfl) (fun _ _ _ h => h) (Or.inl ⟨by rfl, ?_⟩) (by assumption) ?_
    rotate_left
    · (intro w hSw; (try dsimp only at hSw); go_simp; try rfl)
    try simp only [Act.put, List.setIfInBounds_toArray, List.set_cons_zero, List.set_cons_succ, List.getElem_toArray, List.getElem_cons_zero, List.getElem_cons_succ]
    refine wpAnyH_take (i := 23) (v := ?_) rfl (by kernel_rfl) (by kernel_rfl) (by kernel_rfl) (fun _ _ _ h => h) (Or.inl ⟨by rfl, ?_⟩) (by assumption) ?_
    rotate_left
    · (intro w hSw; (try dsimp only at hSw); go_simp; try rfl)
    try simp only [Act.put, List.setIfInBounds_toArray, List.set_cons_zero, List.set_cons_succ, List.getElem_toArray, List.getElem_cons_zero, List.getElem_cons_succ]
    refine wpAnyH_ready (rs := [24]) (by kernel_rfl) (by simp) ?_
    refine AllReadyH.cons rfl (fun K hK => ?_) AllReadyH.nil
    go_simp
    (first | (go_at_call 19; refine (less_any _ _ _ _ _).mono ?_; (try simp only [Hhab.out, Hhba.out, Hhbc.out]); rintro e w1 ⟨rfl, hb⟩) | (go_at_call 18; refine (most_any _ _ _ _ _).mono ?_; (try simp only [E1.out, E2.out, E3.out, E4.out]); rintro e w1 ⟨rfl, hb⟩))
    refine hK.out _ _ ?_ (fun hHeld => ?_)
    · (first | exact Held.also (HS.out) (fun h => h.cells) | exact Held.also (HS.out.drew) (fun h => h.cells) | (go_split_ands; first | exact Held.also (Held.kept (by assumption) (by assumption)) (fun h => h.cells) | exact Held.also (Held.alloc (by assumption) _) (fun h => h.cells) | exact Held.also (Held.drew (by assumption)) (fun h => h.cells) | exact Held.also (by assumption) (fun h => h.cells)))
    clear hK K
    try simp only [Act.put, List.setIfInBounds_toArray, List.set_cons_zero, List.set_cons_succ, List.getElem_toArray, List.getElem_cons_zero, List.getElem_cons_succ]
    refine wpAnyH_take (i := 25) (v := ?_) rfl (by kernel_rfl) (by kernel_rfl) (by kernel_rfl) (fun _ _ _ h => h) (Or.inl ⟨by rfl, ?_⟩) (by assumption) ?_
    rotate_left
    · (intro w hSw; (try dsimp only at hSw); go_simp; try rfl)
    try simp only [Act.put, List.setIfInBounds_toArray, List.set_cons_zero, List.set_cons_succ, List.getElem_toArray, List.getElem_cons_zero, List.getElem_cons_succ]
    refine wpAnyH_take (i := 26) (v := ?_) rfl (by kernel_rfl) (by kernel_rfl) (by kernel_rfl) (fun _ _ _ h => h) (Or.inl ⟨by rfl, ?_⟩) (by assumption) ?_
    rotate_left
    · (intro w hSw; (try dsimp only at hSw); go_simp; try rfl)
    try simp only [Act.put, List.setIfInBounds_toArray, List.set_cons_zero, List.set_cons_succ, List.getElem_toArray, List.getElem_cons_zero, List.getElem_cons_succ]
    refine wpAnyH_take (i := 27) (v := ?_) rfl (by kernel_rfl) (by kernel_rfl) (by kernel_rfl) (fun _ _ _ h => h) (Or.inl ⟨by rfl, ?_⟩) (by assumption) ?_
    rotate_left
    · (intro w hSw; (try dsimp only at hSw); go_simp; try rfl)
    try simp only [Act.put, List.setIfInBounds_toArray, List.set_cons_zero, List.set_cons_succ, List.getElem_toArray, List.getElem_cons_zero, List.getElem_cons_succ]
    refine wpAnyH_take (i := 28) (v := undef) rfl (by kernel_rfl) (by kernel_rfl) (by kernel_rfl) (fun _ _ _ h => h) (Or.inr ⟨by rfl, rfl⟩) (by assumption) ?_
    try simp only [Act.put, List.setIfInBounds_toArray, List.set_cons_zero, List.set_cons_succ, List.getElem_toArray, List.getElem_cons_zero, List.getElem_cons_succ]
    refine wpAnyH_take (i := 29) (v := undef) rfl (by kernel_rfl) (by kernel_rfl) (by kernel_rfl) (fun _ _ _ h => h) (Or.inr ⟨by rfl, rfl⟩) (by assumption) ?_
    try simp only [Act.put, List.setIfInBounds_toArray, List.set_cons_zero, List.set_cons_succ, List.getElem_toArray, List.getElem_cons_zero, List.getElem_cons_succ]
    refine wpAnyH_take (i := 30) (v := undef) rfl (by kernel_rfl) (by kernel_rfl) (by kernel_rfl) (fun _ _ _ h => h) (Or.inr ⟨by rfl, rfl⟩) (by assumption) ?_
    try simp only [Act.put, List.setIfInBounds_toArray, List.set_cons_zero, List.set_cons_succ, List.getElem_toArray, List.getElem_cons_zero, List.getElem_cons_succ]
    refine wpAnyH_take (i := 31) (v := ?_) rfl (by kernel_rfl) (by kernel_rfl) (by kernel_rfl) (fun _ _ _ h => h) (Or.inl ⟨by rfl, ?_⟩) (by assumption) ?_
    rotate_left
    · (intro w hSw; (try dsimp only at hSw); go_simp; try rfl)
    try simp only [Act.put, List.setIfInBounds_toArray, List.set_cons_zero, List.set_cons_succ, List.getElem_toArray, List.getElem_cons_zero, List.getElem_cons_succ]
    refine wpAnyH_take (i := 32) (v := ?_) rfl (by kernel_rfl) (by kernel_rfl) (by kernel_rfl) (fun _ _ _ h => h) (Or.inl ⟨by rfl, ?_⟩) (by assumption) ?_
    rotate_left
    · (intro w hSw; (try dsimp only at hSw); go_simp; try rfl)
    try simp only [Act.put, List.setIfInBounds_toArray, List.set_cons_zero, List.set_cons_succ, List.getElem_toArray, List.getElem_cons_zero, List.getElem_cons_succ]
    refine wpAnyH_take (i := 33) (v := ?_) rfl (by kernel_rfl) (by kernel_rfl) (by kernel_rfl) (fun _ _ _ h => h) (Or.inl ⟨by rfl, ?_⟩) (by assumption) ?_
    rotate_left
    · (intro w hSw; (try dsimp only at hSw); go_simp; try rfl)
    try simp only [Act.put, List.setIfInBounds_toArray, List.set_cons_zero, List.set_cons_succ, List.getElem_toArray, List.getElem_cons_zero, List.getElem_cons_succ]
    refine wpAnyH_take (i := 34) (v := ?_) rfl (by kernel_rfl) (by kernel_rfl) (by kernel_rfl) (fun _ _ _ h => h) (Or.inl ⟨by rfl, ?_⟩) (by assumption) ?_
    rotate_left
    · (intro w hSw; (try dsimp only at hSw); go_simp; try rfl)
    try simp only [Act.put, List.setIfInBounds_toArray, List.set_cons_zero, List.set_cons_succ, List.getElem_toArray, List.getElem_cons_zero, List.getElem_cons_succ]
    refine wpAnyH_take (i := 35) (v := ?_) rfl (by kernel_rfl) (by kernel_rfl) (by kernel_rfl) (fun _ _ _ h => h) (Or.inl ⟨by rfl, ?_⟩) (by assumption) ?_
    rotate_left
    · (intro w hSw; (try dsimp only at hSw); go_simp; try rfl)
    try simp only [Act.put, List.setIfInBounds_toArray, List.set_cons_zero, List.set_cons_succ, List.getElem_toArray, List.getElem_cons_zero, List.getElem_cons_succ]
    refine wpAnyH_take (i := 36) (v := ?_) rfl (by kernel_rfl) (by kernel_rfl) (by kernel_rfl) (fun _ _ _ h => h) (Or.inl ⟨by rfl, ?_⟩) (by assumption) ?_
    rotate_left
    · (intro w hSw; (try dsimp only at hSw); go_simp; try rfl)
    try simp only [Act.put, List.setIfInBounds_toArray, List.set_cons_zero, List.set_cons_succ, List.getElem_toArray, List.getElem_cons_zero, List.getElem_cons_succ]
    refine wpAnyH_take (i := 37) (v := ?_) rfl (by kernel_rfl) (by kernel_rfl) (by kernel_rfl) (fun _ _ _ h => h) (Or.inl ⟨by rfl, ?_⟩) (by assumption) ?_
    rotate_left
    · (intro w hSw; (try dsimp only at hSw); go_simp; try rfl)
    try simp only [Act.put, List.setIfInBounds_toArray, List.set_cons_zero, List.set_cons_succ, List.getElem_toArray, List.getElem_cons_zero, List.getElem_cons_succ]
    refine wpAnyH_ready (rs := [38]) (by kernel_rfl) (by simp) ?_
    refine AllReadyH.cons rfl (fun K hK => ?_) AllReadyH.nil
    go_simp
    (first | (go_at_call 19; refine (less_any _ _ _ _ _).mono ?_; (try simp only [Hhab.out, Hhba.out, Hhbc.out]); rintro e w1 ⟨rfl, hb⟩) | (go_at_call 18; refine (most_any _ _ _ _ _).mono ?_; (try simp only [E1.out, E2.out, E3.out, E4.out]); rintro e w1 ⟨rfl, hb⟩))
    refine hK.out _ _ ?_ (fun hHeld => ?_)
    · (first | exact Held.also (HS.out) (fun h => h.cells) | exact Held.also (HS.out.drew) (fun h => h.cells) | (go_split_ands; first | exact Held.also (Held.kept (by assumption) (by assumption)) (fun h => h.cells) | exact Held.also (Held.alloc (by assumption) _) (fun h => h.cells) | exact Held.also (Held.drew (by assumption)) (fun h => h.cells) | exact Held.also (by assumption) (fun h => h.cells)))
    clear hK K
    try simp only [Act.put, List.setIfInBounds_toArray, List.set_cons_zero, List.set_cons_succ, List.getElem_toArray, List.getElem_cons_zero, List.getElem_cons_succ]
    refine wpAnyH_ready (rs := [39]) (by kernel_rfl) (by simp) ?_
    refine AllReadyH.cons rfl (fun K hK => ?_) AllReadyH.nil
    go_simp
    (first | (go_at_call 19; refine (less_any _ _ _ _ _).mono ?_; (try simp only [Hhab.out, Hhba.out, Hhbc.out]); rintro e w1 ⟨rfl, hb⟩) | (go_at_call 18; refine (most_any _ _ _ _ _).mono ?_; (try simp only [E1.out, E2.out, E3.out, E4.out]); rintro e w1 ⟨rfl, hb⟩))
    refine hK.out _ _ ?_ (fun hHeld => ?_)
    · (first | exact Held.also (HS.out) (fun h => h.cells) | exact Held.also (HS.out.drew) (fun h => h.cells) | (go_split_ands; first | exact Held.also (Held.kept (by assumption) (by assumption)) (fun h => h.cells) | exact Held.also (Held.alloc (by assumption) _) (fun h => h.cells) | exact Held.also (Held.drew (by assumption)) (fun h => h.cells) | exact Held.also (by assumption) (fun h => h.cells)))
    clear hK K
    try simp only [Act.put, List.setIfInBounds_toArray, List.set_cons_zero, List.set_cons_succ, List.getElem_toArray, List.getElem_cons_zero, List.getElem_cons_succ]
    refine wpAnyH_take (i := 40) (v := ?_) rfl (by kernel_rfl) (by kernel_rfl) (by kernel_rfl) (fun _ _ _ h => h) (Or.inl ⟨by rfl, ?_⟩) (by assumption) ?_
    rotate_left
    · (intro w hSw; (try dsimp only at hSw); go_simp; try rfl)
    try simp only [Act.put, List.setIfInBounds_toArray, List.set_cons_zero, List.set_cons_succ, List.getElem_toArray, List.getElem_cons_zero, List.getElem_cons_succ]
    refine wpAnyH_take (i := 41) (v := ?_) rfl (by kernel_rfl) (by kernel_rfl) (by kernel_rfl) (fun _ _ _ h => h) (Or.inl ⟨by rfl, ?_⟩) (by assumption) ?_
    rotate_left
    · (intro w hSw; (try dsimp only at hSw); go_simp; try rfl)
    try simp only [Act.put, List.setIfInBounds_toArray, List.set_cons_zero, List.set_cons_succ, List.getElem_toArray, List.getElem_cons_zero, List.getElem_cons_succ]
    refine wpAnyH_take (i := 42) (v := ?_) rfl (by kernel_rfl) (by kernel_rfl) (by kernel_rfl) (fun _ _ _ h => h) (Or.inl ⟨by rfl, ?_⟩) (by assumption) ?_
    rotate_left
    · (intro w hSw; (try dsimp only at hSw); go_simp; try rfl)
    try simp only [Act.put, List.setIfInBounds_toArray, List.set_cons_zero, List.set_cons_succ, List.getElem_toArray, List.getElem_cons_zero, List.getElem_cons_succ]
    refine wpAnyH_take (i := 43) (v := ?_) rfl (by kernel_rfl) (by kernel_rfl) (by kernel_rfl) (fun _ _ _ h => h) (Or.inl ⟨by rfl, ?_⟩) (by assumption) ?_
    rotate_left
    · (intro w hSw; (try dsimp only at hSw); go_simp; try rfl)
    try simp only [Act.put, List.setIfInBounds_toArray, List.set_cons_zero, List.set_cons_succ, List.getElem_toArray, List.getElem_cons_zero, List.getElem_cons_succ]
    refine wpAnyH_take (i := 44) (v := ?_) rfl (by kernel_rfl) (by kernel_rfl) (by kernel_rfl) (fun _ _ _ h => h) (Or.inl ⟨by rfl, ?_⟩) (by assumption) ?_
    rotate_left
    · (intro w hSw; (try dsimp only at hSw); go_simp; try rfl)
    try simp only [Act.put, List.setIfInBounds_toArray, List.set_cons_zero, List.set_cons_succ, List.getElem_toArray, List.getElem_cons_zero, List.getElem_cons_succ]
    refine wpAnyH_take (i := 45) (v := ?_) rfl (by kernel_rfl) (by kernel_rfl) (by kernel_rfl) (fun _ _ _ h => h) (Or.inl ⟨by rfl, ?_⟩) (by assumption) ?_
    rotate_left
    · (intro w hSw; (try dsimp only at hSw); go_simp; try rfl)
    try simp only [Act.put, List.setIfInBounds_toArray, List.set_cons_zero, List.set_cons_succ, List.getElem_toArray, List.getElem_cons_zero, List.getElem_cons_succ]
    refine wpAnyH_take (i := 46) (v := ?_) rfl (by kernel_rfl) (by kernel_rfl) (by kernel_rfl) (fun _ _ _ h => h) (Or.inl ⟨by rfl, ?_⟩) (by assumption) ?_
    rotate_left
    · (intro w hSw; (try dsimp only at hSw); go_simp; try rfl)
    try simp only [Act.put, List.setIfInBounds_toArray, List.set_cons_zero, List.set_cons_succ, List.getElem_toArray, List.getElem_cons_zero, List.getElem_cons_succ]
    refine wpAnyH_ready (rs := [47]) (by kernel_rfl) (by simp) ?_
    refine AllReadyH.cons rfl (fun K hK => ?_) AllReadyH.nil
    go_simp
    (first | (go_at_call 19; refine (less_any _ _ _ _ _).mono ?_; (try simp only [Hhab.out, Hhba.out, Hhbc.out]); rintro e w1 ⟨rfl, hb⟩) | (go_at_call 18; refine (most_any _ _ _ _ _).mono ?_; (try simp only [E1.out, E2.out, E3.out, E4.out]); rintro e w1 ⟨rfl, hb⟩))
    refine hK.out _ _ ?_ (fun hHeld => ?_)
    · (first | exact Held.also (HS.out) (fun h => h.cells) | exact Held.also (HS.out.drew) (fun h => h.cells) | (go_split_ands; first | exact Held.also (Held.kept (by assumption) (by assumption)) (fun h => h.cells) | exact Held.also (Held.alloc (by assumption) _) (fun h => h.cells) | exact Held.also (Held.drew (by assumption)) (fun h => h.cells) | exact Held.also (by assumption) (fun h => h.cells)))
    clear hK K
    try simp only [Act.put, List.setIfInBounds_toArray, List.set_cons_zero, List.set_cons_succ, List.getElem_toArray, List.getElem_cons_zero, List.getElem_cons_succ]
    refine wpAnyH_ready (rs := [48]) (by kernel_rfl) (by simp) ?_
    refine AllReadyH.cons rfl (fun K hK => ?_) AllReadyH.nil
    go_simp
    (first | (go_at_call 19; refine (less_any _ _ _ _ _).mono ?_; (try simp only [Hhab.out, Hhba.out, Hhbc.out]); rintro e w1 ⟨rfl, hb⟩) | (go_at_call 18; refine (most_any _ _ _ _ _).mono ?_; (try simp only [E1.out, E2.out, E3.out, E4.out]); rintro e w1 ⟨rfl, hb⟩))
    refine hK.out _ _ ?_ (fun hHeld => ?_)
    · (first | exact Held.also (HS.out) (fun h => h.cells) | exact Held.also (HS.out.drew) (fun h => h.cells) | (go_split_ands; first | exact Held.also (Held.kept (by assumption) (by assumption)) (fun h => h.cells) | exact Held.also (Held.alloc (by assumption) _) (fun h => h.cells) | exact Held.also (Held.drew (by assumption)) (fun h => h.cells) | exact Held.also (by assumption) (fun h => h.cells)))
    clear hK K
    try simp only [Act.put, List.setIfInBounds_toArray, List.set_cons_zero, List.set_cons_succ, List.getElem_toArray, List.getElem_cons_zero, List.getElem_cons_succ]
    refine wpAnyH_take (i := 49) (v := ?_) rfl (by kernel_rfl) (by kernel_rfl) (by kernel_rfl) (fun _ _ _ h => h) (Or.inl ⟨by rfl, ?_⟩) (by assumption) ?_
    rotate_left
    · (intro w hSw; (try dsimp only at hSw); go_simp; try rfl)
    try simp only [Act.put, List.setIfInBounds_toArray, List.set_cons_zero, List.set_cons_succ, List.getElem_toArray, List.getElem_cons_zero, List.getElem_cons_succ]
    refine wpAnyH_take (i := 50) (v := ?_) rfl (by kernel_rfl) (by kernel_rfl) (by kernel_rfl) (fun _ _ _ h => h) (Or.inl ⟨by rfl, ?_⟩) (by assumption) ?_
    rotate_left
    · (intro w hSw; (try dsimp only at hSw); go_simp; try rfl)
    try simp only [Act.put, List.setIfInBounds_toArray, List.set_cons_zero, List.set_cons_succ, List.getElem_toArray, List.getElem_cons_zero, List.getElem_cons_succ]
    refine wpAnyH_take (i := 51) (v := ?_) rfl (by kernel_rfl) (by kernel_rfl) (by kernel_rfl) (fun _ _ _ h => h) (Or.inl ⟨by rfl, ?_⟩) (by assumption) ?_
    rotate_left
    · (intro w hSw; (try dsimp only at hSw); go_simp; try rfl)
    try simp only [Act.put, List.setIfInBounds_toArray, List.set_cons_zero, List.set_cons_succ, List.getElem_toArray, List.getElem_cons_zero, List.getElem_cons_succ]
    refine wpAnyH_done (by kernel_rfl) ?_ _
    go_split_ands
    go_wp2
    go_ret
    exact ⟨rfl, (by assumption : Held w _ _ _).below⟩
end Go.Proofs.Ytckjlglinmmohac
