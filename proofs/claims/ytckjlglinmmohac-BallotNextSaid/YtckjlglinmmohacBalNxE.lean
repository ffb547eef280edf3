/-
  The walk of BallotNext, one theorem for each way through its tests.
-/
import Derived.Test.YtckjlglinmmohacBalN
import Derived.Deep.DeepCutAuto
namespace Go.Proofs.Ytckjlglinmmohac
open Go.RowKit
set_option linter.unusedSimpArgs false
set_option linter.unusedVariables false

set_option maxHeartbeats 4000000 in
theorem next_lt2_ne (a1 a2 b2 m n : Int) (hva : vaB a1 a2 = true) (hvb : vaB a1 b2 = true) (hnm : (m == n) = false) (hne : (b2 == a2) = false) (q1 : mo1 a1 a2 a1 b2 = a1) (q2 : mo2 a1 a2 a1 b2 = b2) (q3 : mo1 a1 b2 a1 a2 = a1) (q4 : mo2 a1 b2 a1 a2 = b2) (q5 : lessB a1 a2 (a1 + 1) m = true) (q6 : lessB a1 b2 a1 a2 = false) (q7 : lessB a1 b2 a1 b2 = false) (w : World) : Calls Try.prog 4 #[pr a1 a2, pr a1 b2, .int .i64 m, .int .i64 n] w fun e w' => e = .returned (.bool true) ∧ Below w.heap.size w w' := by
  have hs : Held w (w.heap.size + 1 + 1) [(⟨w.heap.size, 0, none⟩, (Value.int IntKind.i64 a1)), (⟨w.heap.size, 1, none⟩, (Value.int IntKind.i64 a2)), (⟨w.heap.size + 1, 0, none⟩, (Value.int IntKind.i64 a1)), (⟨w.heap.size + 1, 1, none⟩, (Value.int IntKind.i64 b2))] ((w.alloc (Obj.cells #[(Value.int IntKind.i64 a1), (Value.int IntKind.i64 a2)] 30)).alloc (Obj.cells #[(Value.int IntKind.i64 a1), (Value.int IntKind.i64 b2)] 30)) := by
    refine ⟨by simp; omega, ?_, by simp, ((Below.refl _ _).alloc (Nat.le_refl _) _).alloc (by simp) _, by omega⟩
    simp [AllC, go_sem]
  have HS0 := Lib.hid hs
  clear hs
  have Hhva := Lib.hid hva; clear hva
  have Hhvb := Lib.hid hvb; clear hvb
  have Hq1 := Lib.hid q1; clear q1
  have Hq2 := Lib.hid q2; clear q2
  have Hq3 := Lib.hid q3; clear q3
  have Hq4 := Lib.hid q4; clear q4
  have Hq5 := Lib.hid q5; clear q5
  have Hq6 := Lib.hid q6; clear q6
  have Hq7 := Lib.hid q7; clear q7
  have R1 := va_range Hhva.out
  have R2 := va_range Hhvb.out
  go_enter Try.func4, Try.ntmps4
  go_wp2_with (first
    | (go_at_call 13; refine (works_any _).mono ?_; rintro e w1 ⟨rfl, hb⟩; have hn := HS0.out.kept hb; clear hb; have HS := Lib.hid hn; have hc := hn.cells; dsimp only [AllC] at hc; clear hn; go_split_ands)
    | (go_at_call 16; refine (valid_any _ _ _).mono ?_; simp only [Hhva.out, Hhvb.out]; rintro e w1 ⟨rfl, hb⟩; have hn := HS.out.kept hb; clear HS hb; have HS := Lib.hid hn; have hc := hn.cells; dsimp only [AllC] at hc; clear hn; go_split_ands))
  refine (next_in a1 a2 m _ Hhva.out).mono ?_
  rintro e w4 ⟨rfl, hb⟩
  have hn := HS.out.kept hb; clear HS hb; have HS := Lib.hid hn; have hc := hn.cells; dsimp only [AllC] at hc; clear hn; go_split_ands
  have hz4 := HS.out.size
  have z40 : w.heap.size < w4.heap.size := by omega
  have z41 : w.heap.size + 1 < w4.heap.size := by omega
  go_wp2_with fail
  have HB := (Held.more (HS.out.alloc (Obj.cells #[(Value.int IntKind.i64 (a1 + 1)), (Value.int IntKind.i64 m)] 30)) (g := w4.heap.size) (v0 := (Value.int IntKind.i64 (a1 + 1))) (v1 := (Value.int IntKind.i64 m)) HS.out.size (by simp) (by simp [go_sem]) (by simp [go_sem]))
  refine (next_in a1 b2 n _ Hhvb.out).mono ?_
  rintro e w5 ⟨rfl, hb⟩
  have hn := HB.kept hb; clear HB HS hb; have HS := Lib.hid hn; have hc := hn.cells; dsimp only [AllC] at hc; clear hn; go_split_ands
  have hz5 := HS.out.size
  have z50 : w.heap.size < w5.heap.size := by omega
  have z51 : w.heap.size + 1 < w5.heap.size := by omega
  go_wp2_with fail
  have HB := (Held.more (HS.out.alloc (Obj.cells #[(Value.int IntKind.i64 (a1 + 1)), (Value.int IntKind.i64 n)] 30)) (g := w5.heap.size) (v0 := (Value.int IntKind.i64 (a1 + 1))) (v1 := (Value.int IntKind.i64 n)) HS.out.size (by simp) (by simp [go_sem]) (by simp [go_sem]))
  refine (most_any a1 a2 a1 b2 _).mono ?_
  simp only [Hq1.out, Hq2.out, Hq3.out, Hq4.out, Hq5.out, Hq6.out, Hq7.out]
  rintro e w6 ⟨rfl, hb⟩
  have hn := HB.kept hb; clear HB HS hb; have HS := Lib.hid hn; have hc := hn.cells; dsimp only [AllC] at hc; clear hn; go_split_ands
  have hz6 := HS.out.size
  go_wp2_with fail
  have HB := (Held.more (HS.out.alloc (Obj.cells #[(Value.int IntKind.i64 a1), (Value.int IntKind.i64 b2)] 30)) (g := w6.heap.size) (v0 := (Value.int IntKind.i64 a1)) (v1 := (Value.int IntKind.i64 b2)) HS.out.size (by simp) (by simp [go_sem]) (by simp [go_sem]))
  have hn := HB; clear HB HS; have HS := Lib.hid hn; have hc := hn.cells; dsimp only [AllC] at hc; clear hn; go_split_ands
  refine wp_region_held_drew (S := fun w' => (w'.cell? ⟨w6.heap.size, 0, none⟩ = some (Value.int IntKind.i64 a1) ∧ w'.cell? ⟨w6.heap.size, 1, none⟩ = some (Value.int IntKind.i64 b2) ∧ w'.cell? ⟨w5.heap.size, 0, none⟩ = some (Value.int IntKind.i64 (a1 + 1)) ∧ w'.cell? ⟨w5.heap.size, 1, none⟩ = some (Value.int IntKind.i64 n) ∧ w'.cell? ⟨w4.heap.size, 0, none⟩ = some (Value.int IntKind.i64 (a1 + 1)) ∧ w'.cell? ⟨w4.heap.size, 1, none⟩ = some (Value.int IntKind.i64 m) ∧ w'.cell? ⟨w.heap.size, 0, none⟩ = some (Value.int IntKind.i64 a1) ∧ w'.cell? ⟨w.heap.size, 1, none⟩ = some (Value.int IntKind.i64 a2) ∧ w'.cell? ⟨w.heap.size + 1, 0, none⟩ = some (Value.int IntKind.i64 a1) ∧ w'.cell? ⟨w.heap.size + 1, 1, none⟩ = some (Value.int IntKind.i64 b2) ∧ True) ∧ Held w (w6.heap.size + 1) [(⟨w6.heap.size, 0, none⟩, (Value.int IntKind.i64 a1)), (⟨w6.heap.size, 1, none⟩, (Value.int IntKind.i64 b2)), (⟨w5.heap.size, 0, none⟩, (Value.int IntKind.i64 (a1 + 1))), (⟨w5.heap.size, 1, none⟩, (Value.int IntKind.i64 n)), (⟨w4.heap.size, 0, none⟩, (Value.int IntKind.i64 (a1 + 1))), (⟨w4.heap.size, 1, none⟩, (Value.int IntKind.i64 m)), (⟨w.heap.size, 0, none⟩, (Value.int IntKind.i64 a1)), (⟨w.heap.size, 1, none⟩, (Value.int IntKind.i64 a2)), (⟨w.heap.size + 1, 0, none⟩, (Value.int IntKind.i64 a1)), (⟨w.heap.size + 1, 1, none⟩, (Value.int IntKind.i64 b2))] w') (by kernel_rfl) ?_ (fun hHeld => ?_)
  · (first | exact Held.also (HS.out) (fun h => h.cells) | exact Held.also (HS.out.drew) (fun h => h.cells) | (go_split_ands; first | exact Held.also (Held.kept (by assumption) (by assumption)) (fun h => h.cells) | exact Held.also (Held.drew (by assumption)) (fun h => h.cells) | exact Held.also (by assumption) (fun h => h.cells)))
  refine wpAnyH_take (i := 0) (v := ?_) rfl (by kernel_rfl) (by kernel_rfl) (by kernel_rfl) (fun _ _ _ h => h) (Or.inl ⟨by rfl, ?_⟩) (by assumption) ?_
  rotate_left
  · (intro w hSw; (try dsimp only at hSw); go_simp; try rfl)
  try simp only [Act.put, List.setIfInBounds_toArray, List.set_cons_zero, List.set_cons_succ, List.getElem_toArray, List.getElem_cons_zero, List.getElem_cons_succ]
  refine wpAnyH_take (i := 1) (v := ?_) rfl (by kernel_rfl) (by kernel_rfl) (by kernel_rfl) (fun _ _ _ h => h) (Or.inl ⟨by rfl, ?_⟩) (by assumption) ?_
  rotate_left
  · (intro w hSw; (try dsimp only at hSw); go_simp; try rfl)
  try simp only [Act.put, List.setIfInBounds_toArray, List.set_cons_zero, List.set_cons_succ, List.getElem_toArray, List.getElem_cons_zero, List.getElem_cons_succ]
  refine wpAnyH_take (i := 2) (v := ?_) rfl (by kernel_rfl) (by kernel_rfl) (by kernel_rfl) (fun _ _ _ h => h) (Or.inl ⟨by rfl, ?_⟩) (by assumption) ?_
  rotate_left
  · (intro w hSw; (try dsimp only at hSw); go_simp; try rfl)
  try simp only [Act.put, List.setIfInBounds_toArray, List.set_cons_zero, List.set_cons_succ, List.getElem_toArray, List.getElem_cons_zero, List.getElem_cons_succ]
  refine wpAnyH_take (i := 3) (v := ?_) rfl (by kernel_rfl) (by kernel_rfl) (by kernel_rfl) (fun _ _ _ h => h) (Or.inl ⟨by rfl, ?_⟩) (by assumption) ?_
  rotate_left
  · (intro w hSw; (try dsimp only at hSw); go_simp; try rfl)
  try simp only [Act.put, List.setIfInBounds_toArray, List.set_cons_zero, List.set_cons_succ, List.getElem_toArray, List.getElem_cons_zero, List.getElem_cons_succ]
  refine wpAnyH_ready (rs := [4]) (by kernel_rfl) (by simp) ?_
  refine AllReadyH.cons rfl (fun K hK => ?_) AllReadyH.nil
  go_simp
  (first | (go_at_call 19; refine (less_any _ _ _ _ _).mono ?_; (try simp only [Hq1.out, Hq2.out, Hq3.out, Hq4.out, Hq5.out, Hq6.out, Hq7.out]); rintro e w1 ⟨rfl, hb⟩) | (go_at_call 18; refine (most_any _ _ _ _ _).mono ?_; (try simp only [Hq1.out, Hq2.out, Hq3.out, Hq4.out, Hq5.out, Hq6.out, Hq7.out]); rintro e w1 ⟨rfl, hb⟩))
  refine hK.out _ _ ?_ (fun hHeld => ?_)
  · (first | exact Held.also (HS.out) (fun h => h.cells) | exact Held.also (HS.out.drew) (fun h => h.cells) | (go_split_ands; first | exact Held.also (Held.kept (by assumption) (by assumption)) (fun h => h.cells) | exact Held.also (Held.drew (by assumption)) (fun h => h.cells) | exact Held.also (by assumption) (fun h => h.cells)))
  clear hK K
  try simp only [Act.put, List.setIfInBounds_toArray, List.set_cons_zero, List.set_cons_succ, List.getElem_toArray, List.getElem_cons_zero, List.getElem_cons_succ]
  refine wpAnyH_take (i := 5) (v := ?_) rfl (by kernel_rfl) (by kernel_rfl) (by kernel_rfl) (fun _ _ _ h => h) (Or.inl ⟨by rfl, ?_⟩) (by assumption) ?_
  rotate_left
  · (intro w hSw; (try dsimp only at hSw); go_simp; try rfl)
  try simp only [Act.put, List.setIfInBounds_toArray, List.set_cons_zero, List.set_cons_succ, List.getElem_toArray, List.getElem_cons_zero, List.getElem_cons_succ]
  refine wpAnyH_take (i := 6) (v := ?_) rfl (by kernel_rfl) (by kernel_rfl) (by kernel_rfl) (fun _ _ _ h => h) (Or.inl ⟨by rfl, ?_⟩) (by assumption) ?_
  rotate_left
  · (intro w hSw; (try dsimp only at hSw); go_simp; try rfl)
  try simp only [Act.put, List.setIfInBounds_toArray, List.set_cons_zero, List.set_cons_succ, List.getElem_toArray, List.getElem_cons_zero, List.getElem_cons_succ]
  refine wpAnyH_take (i := 7) (v := ?_) rfl (by kernel_rfl) (by kernel_rfl) (by kernel_rfl) (fun _ _ _ h => h) (Or.inl ⟨by rfl, ?_⟩) (by assumption) ?_
  rotate_left
  · (intro w hSw; (try dsimp only at hSw); go_simp; try rfl)
  try simp only [Act.put, List.setIfInBounds_toArray, List.set_cons_zero, List.set_cons_succ, List.getElem_toArray, List.getElem_cons_zero, List.getElem_cons_succ]
  refine wpAnyH_take (i := 8) (v := ?_) rfl (by kernel_rfl) (by kernel_rfl) (by kernel_rfl) (fun _ _ _ h => h) (Or.inl ⟨by rfl, ?_⟩) (by assumption) ?_
  rotate_left
  · (intro w hSw; (try dsimp only at hSw); go_simp; try rfl)
  try simp only [Act.put, List.setIfInBounds_toArray, List.set_cons_zero, List.set_cons_succ, List.getElem_toArray, List.getElem_cons_zero, List.getElem_cons_succ]
  refine wpAnyH_take (i := 9) (v := ?_) rfl (by kernel_rfl) (by kernel_rfl) (by kernel_rfl) (fun _ _ _ h => h) (Or.inl ⟨by rfl, ?_⟩) (by assumption) ?_
  rotate_left
  · (intro w hSw; (try dsimp only at hSw); go_simp; try rfl)
  try simp only [Act.put, List.setIfInBounds_toArray, List.set_cons_zero, List.set_cons_succ, List.getElem_toArray, List.getElem_cons_zero, List.getElem_cons_succ]
  refine wpAnyH_take (i := 10) (v := ?_) rfl (by kernel_rfl) (by kernel_rfl) (by kernel_rfl) (fun _ _ _ h => h) (Or.inl ⟨by rfl, ?_⟩) (by assumption) ?_
  rotate_left
  · (intro w hSw; (try dsimp only at hSw); go_simp; try rfl)
  try simp only [Act.put, List.setIfInBounds_toArray, List.set_cons_zero, List.set_cons_succ, List.getElem_toArray, List.getElem_cons_zero, List.getElem_cons_succ]
  refine wpAnyH_take (i := 11) (v := ?_) rfl (by kernel_rfl) (by kernel_rfl) (by kernel_rfl) (fun _ _ _ h => h) (Or.inl ⟨by rfl, ?_⟩) (by assumption) ?_
  rotate_left
  · (intro w hSw; (try dsimp only at hSw); go_simp; try rfl)
  try simp only [Act.put, List.setIfInBounds_toArray, List.set_cons_zero, List.set_cons_succ, List.getElem_toArray, List.getElem_cons_zero, List.getElem_cons_succ]
  refine wpAnyH_take (i := 12) (v := ?_) rfl (by kernel_rfl) (by kernel_rfl) (by kernel_rfl) (fun _ _ _ h => h) (Or.inl ⟨by rfl, ?_⟩) (by assumption) ?_
  rotate_left
  · (intro w hSw; (try dsimp only at hSw); go_simp; try rfl)
  try simp only [Act.put, List.setIfInBounds_toArray, List.set_cons_zero, List.set_cons_succ, List.getElem_toArray, List.getElem_cons_zero, List.getElem_cons_succ]
  refine wpAnyH_take (i := 13) (v := ?_) rfl (by kernel_rfl) (by kernel_rfl) (by kernel_rfl) (fun _ _ _ h => h) (Or.inl ⟨by rfl, ?_⟩) (by assumption) ?_
  rotate_left
  · (intro w hSw; (try dsimp only at hSw); go_simp; try rfl)
  try simp only [Act.put, List.setIfInBounds_toArray, List.set_cons_zero, List.set_cons_succ, List.getElem_toArray, List.getElem_cons_zero, List.getElem_cons_succ]
  refine wpAnyH_take (i := 14) (v := ?_) rfl (by kernel_rfl) (by kernel_rfl) (by kernel_rfl) (fun _ _ _ h => h) (Or.inl ⟨by rfl, ?_⟩) (by assumption) ?_
  rotate_left
  · (intro w hSw; (try dsimp only at hSw); go_simp; try rfl)
  try simp only [Act.put, List.setIfInBounds_toArray, List.set_cons_zero, List.set_cons_succ, List.getElem_toArray, List.getElem_cons_zero, List.getElem_cons_succ]
  refine wpAnyH_take (i := 15) (v := ?_) rfl (by kernel_rfl) (by kernel_rfl) (by kernel_rfl) (fun _ _ _ h => h) (Or.inl ⟨by rfl, ?_⟩) (by assumption) ?_
  rotate_left
  · (intro w hSw; (try dsimp only at hSw); go_simp; try rfl)
  try simp only [Act.put, List.setIfInBounds_toArray, List.set_cons_zero, List.set_cons_succ, List.getElem_toArray, List.getElem_cons_zero, List.getElem_cons_succ]
  refine wpAnyH_take (i := 16) (v := ?_) rfl (by kernel_rfl) (by kernel_rfl) (by kernel_rfl) (fun _ _ _ h => h) (Or.inl ⟨by rfl, ?_⟩) (by assumption) ?_
  rotate_left
  · (intro w hSw; (try dsimp only at hSw); go_simp; try rfl)
  try simp only [Act.put, List.setIfInBounds_toArray, List.set_cons_zero, List.set_cons_succ, List.getElem_toArray, List.getElem_cons_zero, List.getElem_cons_succ]
  refine wpAnyH_take (i := 17) (v := ?_) rfl (by kernel_rfl) (by kernel_rfl) (by kernel_rfl) (fun _ _ _ h => h) (Or.inl ⟨by rfl, ?_⟩) (by assumption) ?_
  rotate_left
  · (intro w hSw; (try dsimp only at hSw); go_simp; try rfl)
  try simp only [Act.put, List.setIfInBounds_toArray, List.set_cons_zero, List.set_cons_succ, List.getElem_toArray, List.getElem_cons_zero, List.getElem_cons_succ]
  refine wpAnyH_take (i := 18) (v := ?_) rfl (by kernel_rfl) (by kernel_rfl) (by kernel_rfl) (fun _ _ _ h => h) (Or.inl ⟨by rfl, ?_⟩) (by assumption) ?_
  rotate_left
  · (intro w hSw; (try dsimp only at hSw); go_simp; try rfl)
  try simp only [Act.put, List.setIfInBounds_toArray, List.set_cons_zero, List.set_cons_succ, List.getElem_toArray, List.getElem_cons_zero, List.getElem_cons_succ]
  refine wpAnyH_ready (rs := [19]) (by kernel_rfl) (by simp) ?_
  refine AllReadyH.cons rfl (fun K hK => ?_) AllReadyH.nil
  go_simp
  (first | (go_at_call 19; refine (less_any _ _ _ _ _).mono ?_; (try simp only [Hq1.out, Hq2.out, Hq3.out, Hq4.out, Hq5.out, Hq6.out, Hq7.out]); rintro e w1 ⟨rfl, hb⟩) | (go_at_call 18; refine (most_any _ _ _ _ _).mono ?_; (try simp only [Hq1.out, Hq2.out, Hq3.out, Hq4.out, Hq5.out, Hq6.out, Hq7.out]); rintro e w1 ⟨rfl, hb⟩))
  refine hK.out _ _ ?_ (fun hHeld => ?_)
  · (first | exact Held.also (HS.out) (fun h => h.cells) | exact Held.also (HS.out.drew) (fun h => h.cells) | (go_split_ands; first | exact Held.also (Held.kept (by assumption) (by assumption)) (fun h => h.cells) | exact Held.also (Held.drew (by assumption)) (fun h => h.cells) | exact Held.also (by assumption) (fun h => h.cells)))
  clear hK K
  try simp only [Act.put, List.setIfInBounds_toArray, List.set_cons_zero, List.set_cons_succ, List.getElem_toArray, List.getElem_cons_zero, List.getElem_cons_succ]
  refine wpAnyH_take (i := 20) (v := ?_) rfl (by kernel_rfl) (by kernel_rfl) (by kernel_rfl) (fun _ _ _ h => h) (Or.inl ⟨by rfl, ?_⟩) (by assumption) ?_
  rotate_left
  · (intro w hSw; (try dsimp only at hSw); go_simp; try rfl)
  try simp only [Act.put, List.setIfInBounds_toArray, List.set_cons_zero, List.set_cons_succ, List.getElem_toArray, List.getElem_cons_zero, List.getElem_cons_succ]
  refine wpAnyH_take (i := 21) (v := ?_) rfl (by kernel_rfl) (by kernel_rfl) (by kernel_rfl) (fun _ _ _ h => h) (Or.inl ⟨by rfl, ?_⟩) (by assumption) ?_
  rotate_left
  · (intro w hSw; (try dsimp only at hSw); go_simp; try rfl)
  try simp only [Act.put, List.setIfInBounds_toArray, List.set_cons_zero, List.set_cons_succ, List.getElem_toArray, List.getElem_cons_zero, List.getElem_cons_succ]
  refine wpAnyH_take (i := 22) (v := ?_) rfl (by kernel_rfl) (by kernel_rfl) (by kernel_rfl) (fun _ _ _ h => h) (Or.inl ⟨by rfl, ?_⟩) (by assumption) ?_
  rotate_left
  · (intro w hSw; (try dsimp only at hSw); go_simp; try rfl)
  try simp only [Act.put, List.setIfInBounds_toArray, List.set_cons_zero, List.set_cons_succ, List.getElem_toArray, List.getElem_cons_zero, List.getElem_cons_succ]
  refine wpAnyH_take (i := 23) (v := ?_) rfl (by kernel_rfl) (by kernel_rfl) (by kernel_rfl) (fun _ _ _ h => h) (Or.inl ⟨by rfl, ?_⟩) (by assumption) ?_
  rotate_left
  · (intro w hSw; (try dsimp only at hSw); go_simp; try rfl)
  try simp only [Act.put, List.setIfInBounds_toArray, List.set_cons_zero, List.set_cons_succ, List.getElem_toArray, List.getElem_cons_zero, List.getElem_cons_succ]
  refine wpAnyH_take (i := 24) (v := ?_) rfl (by kernel_rfl) (by kernel_rfl) (by kernel_rfl) (fun _ _ _ h => h) (Or.inl ⟨by rfl, ?_⟩) (by assumption) ?_
  rotate_left
  · (intro w hSw; (try dsimp only at hSw); go_simp; try rfl)
  try simp only [Act.put, List.setIfInBounds_toArray, List.set_cons_zero, List.set_cons_succ, List.getElem_toArray, List.getElem_cons_zero, List.getElem_cons_succ]
  refine wpAnyH_ready (rs := [25]) (by kernel_rfl) (by simp) ?_
  refine AllReadyH.cons rfl (fun K hK => ?_) AllReadyH.nil
  go_simp
  (first | (go_at_call 19; refine (less_any _ _ _ _ _).mono ?_; (try simp only [Hq1.out, Hq2.out, Hq3.out, Hq4.out, Hq5.out, Hq6.out, Hq7.out]); rintro e w1 ⟨rfl, hb⟩) | (go_at_call 18; refine (most_any _ _ _ _ _).mono ?_; (try simp only [Hq1.out, Hq2.out, Hq3.out, Hq4.out, Hq5.out, Hq6.out, Hq7.out]); rintro e w1 ⟨rfl, hb⟩))
  refine hK.out _ _ ?_ (fun hHeld => ?_)
  · (first | exact Held.also (HS.out) (fun h => h.cells) | exact Held.also (HS.out.drew) (fun h => h.cells) | (go_split_ands; first | exact Held.also (Held.kept (by assumption) (by assumption)) (fun h => h.cells) | exact Held.also (Held.drew (by assumption)) (fun h => h.cells) | exact Held.also (by assumption) (fun h => h.cells)))
  clear hK K
  try simp only [Act.put, List.setIfInBounds_toArray, List.set_cons_zero, List.set_cons_succ, List.getElem_toArray, List.getElem_cons_zero, List.getElem_cons_succ]
  refine wpAnyH_take (i := 26) (v := ?_) rfl (by kernel_rfl) (by kernel_rfl) (by kernel_rfl) (fun _ _ _ h => h) (Or.inl ⟨by rfl, ?_⟩) (by assumption) ?_
  rotate_left
  · (intro w hSw; (try dsimp only at hSw); go_simp; try rfl)
  try simp only [Act.put, List.setIfInBounds_toArray, List.set_cons_zero, List.set_cons_succ, List.getElem_toArray, List.getElem_cons_zero, List.getElem_cons_succ]
  refine wpAnyH_take (i := 27) (v := ?_) rfl (by kernel_rfl) (by kernel_rfl) (by kernel_rfl) (fun _ _ _ h => h) (Or.inl ⟨by rfl, ?_⟩) (by assumption) ?_
  rotate_left
  · (intro w hSw; (try dsimp only at hSw); go_simp; try rfl)
  try simp only [Act.put, List.setIfInBounds_toArray, List.set_cons_zero, List.set_cons_succ, List.getElem_toArray, List.getElem_cons_zero, List.getElem_cons_succ]
  refine wpAnyH_take (i := 28) (v := ?_) rfl (by kernel_rfl) (by kernel_rfl) (by kernel_rfl) (fun _ _ _ h => h) (Or.inl ⟨by rfl, ?_⟩) (by assumption) ?_
  rotate_left
  · (intro w hSw; (try dsimp only at hSw); go_simp; try rfl)
  try simp only [Act.put, List.setIfInBounds_toArray, List.set_cons_zero, List.set_cons_succ, List.getElem_toArray, List.getElem_cons_zero, List.getElem_cons_succ]
  refine wpAnyH_take (i := 29) (v := ?_) rfl (by kernel_rfl) (by kernel_rfl) (by kernel_rfl) (fun _ _ _ h => h) (Or.inl ⟨by rfl, ?_⟩) (by assumption) ?_
  rotate_left
  · (intro w hSw; (try dsimp only at hSw); go_simp; try rfl)
  try simp only [Act.put, List.setIfInBounds_toArray, List.set_cons_zero, List.set_cons_succ, List.getElem_toArray, List.getElem_cons_zero, List.getElem_cons_succ]
  refine wpAnyH_take (i := 30) (v := ?_) rfl (by kernel_rfl) (by kernel_rfl) (by kernel_rfl) (fun _ _ _ h => h) (Or.inl ⟨by rfl, ?_⟩) (by assumption) ?_
  rotate_left
  · (intro w hSw; (try dsimp only at hSw); go_simp; try rfl)
  try simp only [Act.put, List.setIfInBounds_toArray, List.set_cons_zero, List.set_cons_succ, List.getElem_toArray, List.getElem_cons_zero, List.getElem_cons_succ]
  refine wpAnyH_take (i := 31) (v := ?_) rfl (by kernel_rfl) (by kernel_rfl) (by kernel_rfl) (fun _ _ _ h => h) (Or.inl ⟨by rfl, ?_⟩) (by assumption) ?_
  rotate_left
  · (intro w hSw; (try dsimp only at hSw); go_simp; try rfl)
  try simp only [Act.put, List.setIfInBounds_toArray, List.set_cons_zero, List.set_cons_succ, List.getElem_toArray, List.getElem_cons_zero, List.getElem_cons_succ]
  refine wpAnyH_take (i := 32) (v := ?_) rfl (by kernel_rfl) (by kernel_rfl) (by kernel_rfl) (fun _ _ _ h => h) (Or.inl ⟨by rfl, ?_⟩) (by assumption) ?_
  rotate_left
  · (intro w hSw; (try dsimp only at hSw); go_simp; try rfl)
  try simp only [Act.put, List.setIfInBounds_toArray, List.set_cons_zero, List.set_cons_succ, List.getElem_toArray, List.getElem_cons_zero, List.getElem_cons_succ]
  refine wpAnyH_take (i := 33) (v := ?_) rfl (by kernel_rfl) (by kernel_rfl) (by kernel_rfl) (fun _ _ _ h => h) (Or.inl ⟨by rfl, ?_⟩) (by assumption) ?_
  rotate_left
  · (intro w hSw; (try dsimp only at hSw); go_simp; try rfl)
  try simp only [Act.put, List.setIfInBounds_toArray, List.set_cons_zero, List.set_cons_succ, List.getElem_toArray, List.getElem_cons_zero, List.getElem_cons_succ]
  refine wpAnyH_take (i := 34) (v := ?_) rfl (by kernel_rfl) (by kernel_rfl) (by kernel_rfl) (fun _ _ _ h => h) (Or.inl ⟨by rfl, ?_⟩) (by assumption) ?_
  rotate_left
  · (intro w hSw; (try dsimp only at hSw); go_simp; try rfl)
  try simp only [Act.put, List.setIfInBounds_toArray, List.set_cons_zero, List.set_cons_succ, List.getElem_toArray, List.getElem_cons_zero, List.getElem_cons_succ]
  refine wpAnyH_take (i := 35) (v := ?_) rfl (by kernel_rfl) (by kernel_rfl) (by kernel_rfl) (fun _ _ _ h => h) (Or.inl ⟨by rfl, ?_⟩) (by assumption) ?_
  rotate_left
  · (intro w hSw; (try dsimp only at hSw); go_simp; try rfl)
  try simp only [Act.put, List.setIfInBounds_toArray, List.set_cons_zero, List.set_cons_succ, List.getElem_toArray, List.getElem_cons_zero, List.getElem_cons_succ]
  refine wpAnyH_take (i := 36) (v := ?_) rfl (by kernel_rfl) (by kernel_rfl) (by kernel_rfl) (fun _ _ _ h => h) (Or.inl ⟨by rfl, ?_⟩) (by assumption) ?_
  rotate_left
  · (intro w hSw; (try dsimp only at hSw); go_simp; try rfl)
  try simp only [Act.put, List.setIfInBounds_toArray, List.set_cons_zero, List.set_cons_succ, List.getElem_toArray, List.getElem_cons_zero, List.getElem_cons_succ]
  refine wpAnyH_take (i := 37) (v := ?_) rfl (by kernel_rfl) (by kernel_rfl) (by kernel_rfl) (fun _ _ _ h => h) (Or.inl ⟨by rfl, ?_⟩) (by assumption) ?_
  rotate_left
  · (intro w hSw; (try dsimp only at hSw); go_simp; try rfl)
  try simp only [Act.put, List.setIfInBounds_toArray, List.set_cons_zero, List.set_cons_succ, List.getElem_toArray, List.getElem_cons_zero, List.getElem_cons_succ]
  refine wpAnyH_take (i := 38) (v := ?_) rfl (by kernel_rfl) (by kernel_rfl) (by kernel_rfl) (fun _ _ _ h => h) (Or.inl ⟨by rfl, ?_⟩) (by assumption) ?_
  rotate_left
  · (intro w hSw; (try dsimp only at hSw); go_simp; try rfl)
  try simp only [Act.put, List.setIfInBounds_toArray, List.set_cons_zero, List.set_cons_succ, List.getElem_toArray, List.getElem_cons_zero, List.getElem_cons_succ]
  refine wpAnyH_take (i := 39) (v := ?_) rfl (by kernel_rfl) (by kernel_rfl) (by kernel_rfl) (fun _ _ _ h => h) (Or.inl ⟨by rfl, ?_⟩) (by assumption) ?_
  rotate_left
  · (intro w hSw; (try dsimp only at hSw); go_simp; try rfl)
  try simp only [Act.put, List.setIfInBounds_toArray, List.set_cons_zero, List.set_cons_succ, List.getElem_toArray, List.getElem_cons_zero, List.getElem_cons_succ]
  refine wpAnyH_take (i := 40) (v := ?_) rfl (by kernel_rfl) (by kernel_rfl) (by kernel_rfl) (fun _ _ _ h => h) (Or.inl ⟨by rfl, ?_⟩) (by assumption) ?_
  rotate_left
  · (intro w hSw; (try dsimp only at hSw); go_simp; try rfl)
  try simp only [Act.put, List.setIfInBounds_toArray, List.set_cons_zero, List.set_cons_succ, List.getElem_toArray, List.getElem_cons_zero, List.getElem_cons_succ]
  refine wpAnyH_take (i := 42) (v := ?_) rfl (by kernel_rfl) (by kernel_rfl) (by kernel_rfl) (fun _ _ _ h => h) (Or.inl ⟨by rfl, ?_⟩) (by assumption) ?_
  rotate_left
  · (intro w hSw; (try dsimp only at hSw); go_simp; try rfl)
  try simp only [Act.put, List.setIfInBounds_toArray, List.set_cons_zero, List.set_cons_succ, List.getElem_toArray, List.getElem_cons_zero, List.getElem_cons_succ]
  refine wpAnyH_ready (rs := [41]) (by kernel_rfl) (by simp) ?_
  refine AllReadyH.cons rfl (fun K hK => ?_) AllReadyH.nil
  go_simp
  (first | (go_at_call 19; refine (less_any _ _ _ _ _).mono ?_; (try simp only [Hq1.out, Hq2.out, Hq3.out, Hq4.out, Hq5.out, Hq6.out, Hq7.out]); rintro e w1 ⟨rfl, hb⟩) | (go_at_call 18; refine (most_any _ _ _ _ _).mono ?_; (try simp only [Hq1.out, Hq2.out, Hq3.out, Hq4.out, Hq5.out, Hq6.out, Hq7.out]); rintro e w1 ⟨rfl, hb⟩))
  refine hK.out _ _ ?_ (fun hHeld => ?_)
  · (first | exact Held.also (HS.out) (fun h => h.cells) | exact Held.also (HS.out.drew) (fun h => h.cells) | (go_split_ands; first | exact Held.also (Held.kept (by assumption) (by assumption)) (fun h => h.cells) | exact Held.also (Held.drew (by assumption)) (fun h => h.cells) | exact Held.also (by assumption) (fun h => h.cells)))
  clear hK K
  try simp only [Act.put, List.setIfInBounds_toArray, List.set_cons_zero, List.set_cons_succ, List.getElem_toArray, List.getElem_cons_zero, List.getElem_cons_succ]
  refine wpAnyH_take (i := 43) (v := ?_) rfl (by kernel_rfl) (by kernel_rfl) (by kernel_rfl) (fun _ _ _ h => h) (Or.inl ⟨by rfl, ?_⟩) (by assumption) ?_
  rotate_left
  · (intro w hSw; (try dsimp only at hSw); go_simp; try rfl)
  try simp only [Act.put, List.setIfInBounds_toArray, List.set_cons_zero, List.set_cons_succ, List.getElem_toArray, List.getElem_cons_zero, List.getElem_cons_succ]
  refine wpAnyH_take (i := 44) (v := ?_) rfl (by kernel_rfl) (by kernel_rfl) (by kernel_rfl) (fun _ _ _ h => h) (Or.inl ⟨by rfl, ?_⟩) (by assumption) ?_
  rotate_left
  · (intro w hSw; (try dsimp only at hSw); go_simp; try rfl)
  try simp only [Act.put, List.setIfInBounds_toArray, List.set_cons_zero, List.set_cons_succ, List.getElem_toArray, List.getElem_cons_zero, List.getElem_cons_succ]
  refine wpAnyH_take (i := 45) (v := ?_) rfl (by kernel_rfl) (by kernel_rfl) (by kernel_rfl) (fun _ _ _ h => h) (Or.inl ⟨by rfl, ?_⟩) (by assumption) ?_
  rotate_left
  · (intro w hSw; (try dsimp only at hSw); go_simp; try rfl)
  try simp only [Act.put, List.setIfInBounds_toArray, List.set_cons_zero, List.set_cons_succ, List.getElem_toArray, List.getElem_cons_zero, List.getElem_cons_succ]
  refine wpAnyH_done (by kernel_rfl) ?_ _
  go_split_ands
  go_wp2
  go_ret
  exact ⟨rfl, (by assumption : Held w _ _ _).below⟩
end Go.Proofs.Ytckjlglinmmohac
