/-
  The document's own Same, of two attributes of one number.
-/
import Derived.Test.YtplplehfkfjhnaaIdsB
import Derived.Test.YtplplehfkfjhnaaAt2
namespace Go.Proofs.Ytplplehfkfjhnaa
open Go.RowKit
set_option linter.unusedSimpArgs false
set_option linter.unusedVariables false
set_option maxRecDepth 100000

set_option maxHeartbeats 4000000 in
theorem rsame_eq (s : Int) (v1 v2 : Value) (l1 l2 : List I3) (w : World) (h1 : IK.Rd w v1 l1) (n1 : l1.length ≤ 3000) (h2 : IK.Rd w v2 l2) (n2 : l2.length ≤ 3000) :
    Calls Try.prog 18 #[.agg #[.int .i64 s, v1], .agg #[.int .i64 s, v2]] w fun e w' => e = .returned (.bool (decide (clnI l1 = clnI l2))) ∧ Below w.heap.size w w' := by
  obtain ⟨a1, c1, e1⟩ := h1.slice
  obtain ⟨a2, c2, e2⟩ := h2.slice
  subst e1
  subst e2
  obtain ⟨m1, hm1⟩ : ∃ m, l1.length = m := ⟨_, rfl⟩
  obtain ⟨m2, hm2⟩ : ∃ m, l2.length = m := ⟨_, rfl⟩
  have HN1 : Hid ((clnI l1).length ≤ 10000) := Lib.hid (Nat.le_trans (len_clnI _) (by omega))
  have HN2 : Hid ((clnI l2).length ≤ 10000) := Lib.hid (Nat.le_trans (len_clnI _) (by omega))
  rw [hm1] at h1 ⊢
  rw [hm2] at h2 ⊢
  obtain ⟨X, hX⟩ : ∃ X, (w.alloc (.cells #[.int .i64 s, .slice a1 m1 c1] 36)).alloc (.cells #[.int .i64 s, .slice a2 m2 c2] 36) = X := ⟨_, rfl⟩
  have HA : Hid (Bk X w.heap.size 36 [.int .i64 s, .slice a1 m1 c1]) := Lib.hid (by rw [← hX]; exact (Bk.new w _ [.int .i64 s, .slice a1 m1 c1]).old _)
  have HB : Hid (Bk X (w.heap.size + 1) 36 [.int .i64 s, .slice a2 m2 c2]) := Lib.hid (by rw [← hX]; exact Bk.newAt (by simp) _ [.int .i64 s, .slice a2 m2 c2])
  have HX : Hid (Below w.heap.size w X) := Lib.hid (by rw [← hX]; exact al2 w _ _)
  have HC : Hid (∀ w' : World, Below X.heap.size X w' → Below X.heap.size X w' ∧ w'.cell? ⟨w.heap.size, 0, none⟩ = some (.int .i64 s) ∧ w'.cell? ⟨w.heap.size, 1, none⟩ = some (.slice a1 m1 c1) ∧ w'.cell? ⟨w.heap.size + 1, 0, none⟩ = some (.int .i64 s) ∧ w'.cell? ⟨w.heap.size + 1, 1, none⟩ = some (.slice a2 m2 c2)) := Lib.hid fun w' hb => ⟨hb, (HA.out.below hb).cell 0, (HA.out.below hb).cell 1, (HB.out.below hb).cell 0, (HB.out.below hb).cell 1⟩
  have HCl1 : Hid (∀ W : World, Below X.heap.size X W → Calls Try.prog 42 #[.slice a1 m1 c1] W (RowP (clnI l1) W)) := Lib.hid fun W hb => rclean_any _ l1 W ((h1.below HX.out).below hb) (by omega)
  have HCl2 : Hid (∀ W : World, Below X.heap.size X W → Calls Try.prog 42 #[.slice a2 m2 c2] W (RowP (clnI l2) W)) := Lib.hid fun W hb => rclean_any _ l2 W ((h2.below HX.out).below hb) (by omega)
  clear hm1 hm2 h1 h2 n1 n2
  go_enter Try.func18, Try.ntmps18
  go_wp2_with fail
  try rw [hX]
  clear hX
  refine wp_region_held_drew (S := (fun w' => Below X.heap.size X w' ∧ w'.cell? ⟨w.heap.size, 0, none⟩ = some (.int .i64 s) ∧ w'.cell? ⟨w.heap.size, 1, none⟩ = some (.slice a1 m1 c1) ∧ w'.cell? ⟨w.heap.size + 1, 0, none⟩ = some (.int .i64 s) ∧ w'.cell? ⟨w.heap.size + 1, 1, none⟩ = some (.slice a2 m2 c2))) (by kernel_rfl) ?_ (fun hHeld => ?_)
  · (first
  | exact HC.out _ hs3
  | exact HC.out _ hs2
  | exact HC.out _ hs1
  | exact HC.out _ (Below.refl _ _).drew
  | exact HC.out _ (Below.refl _ _)
  | fail)
  refine wpAnyH_take (i := 0) (v := ?_) rfl (by kernel_rfl) (by kernel_rfl) (by kernel_rfl) (fun _ _ _ h => h) (Or.inl ⟨by rfl, ?_⟩) (by assumption) ?_
  rotate_left
  · (intro w hSw; (try dsimp only at hSw); go_simp; try rfl)
  try simp only [Act.put, List.setIfInBounds_toArray, List.set_cons_zero, List.set_cons_succ, List.getElem_toArray, List.getElem_cons_zero, List.getElem_cons_succ]
  refine wpAnyH_take (i := 1) (v := ?_) rfl (by kernel_rfl) (by kernel_rfl) (by kernel_rfl) (fun _ _ _ h => h) (Or.inl ⟨by rfl, ?_⟩) (by assumption) ?_
  rotate_left
  · (intro w hSw; (try dsimp only at hSw); go_simp; try rfl)
  try simp only [Act.put, List.setIfInBounds_toArray, List.set_cons_zero, List.set_cons_succ, List.getElem_toArray, List.getElem_cons_zero, List.getElem_cons_succ]
  refine wpAnyH_take (i := 2) (v := ?_) rfl (by kernel_rfl) (by kernel_rfl) (by kernel_rfl) (fun _ _ _ h => h) (Or.inl ⟨by rfl, ?_⟩) (by assumption) ?_
  rotate_left
  · (intro w hSw; (try dsimp only at hSw); go_simp; try rfl)
  try simp only [Act.put, List.setIfInBounds_toArray, List.set_cons_zero, List.set_cons_succ, List.getElem_toArray, List.getElem_cons_zero, List.getElem_cons_succ]
  refine wpAnyH_take (i := 3) (v := ?_) rfl (by kernel_rfl) (by kernel_rfl) (by kernel_rfl) (fun _ _ _ h => h) (Or.inl ⟨by rfl, ?_⟩) (by assumption) ?_
  rotate_left
  · (intro w hSw; (try dsimp only at hSw); go_simp; try rfl)
  try simp only [Act.put, List.setIfInBounds_toArray, List.set_cons_zero, List.set_cons_succ, List.getElem_toArray, List.getElem_cons_zero, List.getElem_cons_succ]
  refine wpAnyH_take (i := 4) (v := ?_) rfl (by kernel_rfl) (by kernel_rfl) (by kernel_rfl) (fun _ _ _ h => h) (Or.inl ⟨by rfl, ?_⟩) (by assumption) ?_
  rotate_left
  · (intro w hSw; (try dsimp only at hSw); go_simp; try rfl)
  try simp only [Act.put, List.setIfInBounds_toArray, List.set_cons_zero, List.set_cons_succ, List.getElem_toArray, List.getElem_cons_zero, List.getElem_cons_succ]
  refine wpAnyH_take (i := 5) (v := ?_) rfl (by kernel_rfl) (by kernel_rfl) (by kernel_rfl) (fun _ _ _ h => h) (Or.inl ⟨by rfl, ?_⟩) (by assumption) ?_
  rotate_left
  · (intro w hSw; (try dsimp only at hSw); go_simp; try rfl)
  try simp only [Act.put, List.setIfInBounds_toArray, List.set_cons_zero, List.set_cons_succ, List.getElem_toArray, List.getElem_cons_zero, List.getElem_cons_succ]
  refine wpAnyH_take (i := 6) (v := ?_) rfl (by kernel_rfl) (by kernel_rfl) (by kernel_rfl) (fun _ _ _ h => h) (Or.inl ⟨by rfl, ?_⟩) (by assumption) ?_
  rotate_left
  · (intro w hSw; (try dsimp only at hSw); go_simp; try rfl)
  try simp only [Act.put, List.setIfInBounds_toArray, List.set_cons_zero, List.set_cons_succ, List.getElem_toArray, List.getElem_cons_zero, List.getElem_cons_succ]
  refine wpAnyH_take (i := 7) (v := ?_) rfl (by kernel_rfl) (by kernel_rfl) (by kernel_rfl) (fun _ _ _ h => h) (Or.inl ⟨by rfl, ?_⟩) (by assumption) ?_
  rotate_left
  · (intro w hSw; (try dsimp only at hSw); go_simp; try rfl)
  try simp only [Act.put, List.setIfInBounds_toArray, List.set_cons_zero, List.set_cons_succ, List.getElem_toArray, List.getElem_cons_zero, List.getElem_cons_succ]
  refine wpAnyH_take (i := 9) (v := ?_) rfl (by kernel_rfl) (by kernel_rfl) (by kernel_rfl) (fun _ _ _ h => h) (Or.inl ⟨by rfl, ?_⟩) (by assumption) ?_
  rotate_left
  · (intro w hSw; (try dsimp only at hSw); go_simp; try rfl)
  try simp only [Act.put, List.setIfInBounds_toArray, List.set_cons_zero, List.set_cons_succ, List.getElem_toArray, List.getElem_cons_zero, List.getElem_cons_succ]
  refine wpAnyH_take (i := 10) (v := ?_) rfl (by kernel_rfl) (by kernel_rfl) (by kernel_rfl) (fun _ _ _ h => h) (Or.inl ⟨by rfl, ?_⟩) (by assumption) ?_
  rotate_left
  · (intro w hSw; (try dsimp only at hSw); go_simp; try rfl)
  try simp only [Act.put, List.setIfInBounds_toArray, List.set_cons_zero, List.set_cons_succ, List.getElem_toArray, List.getElem_cons_zero, List.getElem_cons_succ]
  refine wpAnyH_ready (rs := [8]) (by kernel_rfl) (by simp) ?_
  refine (AllReadyH.cons rfl (fun K hK => ?_) AllReadyH.nil)
  go_simp
  (go_at_call 42; refine (HCl1.out _ (Below.refl _ _).drew).mono ?_; rintro e w1 ⟨v1, he, ho1, hb1⟩; have he := he.out; subst he; have hs1 : Below X.heap.size X w1 := below_self (Below.refl _ _).drew hb1)
  refine hK.out _ _ ?_ (fun hHeld => ?_)
  · (first
  | exact HC.out _ hs3
  | exact HC.out _ hs2
  | exact HC.out _ hs1
  | exact HC.out _ (Below.refl _ _).drew
  | exact HC.out _ (Below.refl _ _)
  | fail)
  clear hK K
  try simp only [Act.put, List.setIfInBounds_toArray, List.set_cons_zero, List.set_cons_succ, List.getElem_toArray, List.getElem_cons_zero, List.getElem_cons_succ]
  refine wpAnyH_ready (rs := [11]) (by kernel_rfl) (by simp) ?_
  refine (AllReadyH.cons rfl (fun K hK => ?_) AllReadyH.nil)
  go_simp
  (go_at_call 42; refine (HCl2.out _ hs1).mono ?_; rintro e w2 ⟨v2, he, ho2, hb2⟩; have he := he.out; subst he; have hs2 : Below X.heap.size X w2 := below_self hs1 hb2)
  refine hK.out _ _ ?_ (fun hHeld => ?_)
  · (first
  | exact HC.out _ hs3
  | exact HC.out _ hs2
  | exact HC.out _ hs1
  | exact HC.out _ (Below.refl _ _).drew
  | exact HC.out _ (Below.refl _ _)
  | fail)
  clear hK K
  try simp only [Act.put, List.setIfInBounds_toArray, List.set_cons_zero, List.set_cons_succ, List.getElem_toArray, List.getElem_cons_zero, List.getElem_cons_succ]
  refine wpAnyH_ready (rs := [12]) (by kernel_rfl) (by simp) ?_
  refine (AllReadyH.cons rfl (fun K hK => ?_) AllReadyH.nil)
  go_simp
  (go_at_call 41; refine (row_any _ _ _ _ _ (ho1.below hb2).rd ho2.rd HN1.out HN2.out).mono ?_; rintro e w3 ⟨rfl, hb3⟩; have hs3 : Below X.heap.size X w3 := below_self hs2 hb3)
  refine hK.out _ _ ?_ (fun hHeld => ?_)
  · (first
  | exact HC.out _ hs3
  | exact HC.out _ hs2
  | exact HC.out _ hs1
  | exact HC.out _ (Below.refl _ _).drew
  | exact HC.out _ (Below.refl _ _)
  | fail)
  clear hK K
  try simp only [Act.put, List.setIfInBounds_toArray, List.set_cons_zero, List.set_cons_succ, List.getElem_toArray, List.getElem_cons_zero, List.getElem_cons_succ]
  refine wpAnyH_take (i := 13) (v := ?_) rfl (by kernel_rfl) (by kernel_rfl) (by kernel_rfl) (fun _ _ _ h => h) (Or.inl ⟨by rfl, ?_⟩) (by assumption) ?_
  rotate_left
  · (intro w hSw; (try dsimp only at hSw); go_simp; try rfl)
  try simp only [Act.put, List.setIfInBounds_toArray, List.set_cons_zero, List.set_cons_succ, List.getElem_toArray, List.getElem_cons_zero, List.getElem_cons_succ]
  refine wpAnyH_take (i := 14) (v := ?_) rfl (by kernel_rfl) (by kernel_rfl) (by kernel_rfl) (fun _ _ _ h => h) (Or.inl ⟨by rfl, ?_⟩) (by assumption) ?_
  rotate_left
  · (intro w hSw; (try dsimp only at hSw); go_simp; try rfl)
  try simp only [Act.put, List.setIfInBounds_toArray, List.set_cons_zero, List.set_cons_succ, List.getElem_toArray, List.getElem_cons_zero, List.getElem_cons_succ]
  refine wpAnyH_done (by kernel_rfl) ?_ _
  have HW := Lib.hid (HX.out.trans (hs3.mono HX.out.size))
  clear hs1 hs2 hs3 hb1 hb2 hb3 HC
  go_wp2
  go_ret
  exact ⟨rfl, HW.out⟩
end Go.Proofs.Ytplplehfkfjhnaa
