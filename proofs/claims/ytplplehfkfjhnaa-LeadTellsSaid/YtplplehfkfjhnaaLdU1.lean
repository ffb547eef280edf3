/-
  Leads: Ask, phase 1.
-/
import Derived.Test.YtplplehfkfjhnaaLdU
namespace Go.Proofs.Ytplplehfkfjhnaa
open Go.RowKit
open Bb (quoN thN allB)
set_option linter.unusedSimpArgs false
set_option linter.unusedVariables false
set_option maxRecDepth 100000

/-- What clone.Attr comes to, spelt out. -/
def CaP (x : At) (M : Nat) (w : World) (e : Ending) (w' : World) : Prop := ∃ a5 k5, Hid (e = .returned (.agg #[.int .i64 x.1, .slice a5 M k5])) ∧ IK.Own w' w.heap.size (.slice a5 M k5) x.2 ∧ Below w.heap.size w w'
theorem ca_any {x : At} {M : Nat} {ua : Option Addr} {uc : Nat} {w : World} (hM : x.2.length = M) (h : IK.Rd w (.slice ua M uc) x.2) (hl : x.2.length ≤ 100000) : Calls Try.prog 40 #[.agg #[.int .i64 x.1, .slice ua M uc]] w (CaP x M w) :=
  (cattr_any x.1 _ x.2 w h hl).mono fun e w' q => by
    obtain ⟨v, he, ho, hb⟩ := q
    obtain ⟨a, k, e2⟩ := ho.slice
    rw [hM] at e2
    subst e2
    exact ⟨a, k, he, ho, hb⟩
set_option maxHeartbeats 16000000 in
theorem ask1_any {w : World} {B g : Nat} {L : LSt} (h : LdAt w B g L) (ho : LOk L) (hp : L.ph = 1) : Calls Try.prog 19 #[gP g] w (AkP (askL L) w) := by
  obtain ⟨Bw, vn, vd, vw, vh, h⟩ := h
  obtain ⟨ad, cd, ed⟩ := h.deps.slice
  obtain ⟨M, hM⟩ : ∃ M, L.at'.2.length = M := ⟨_, rfl⟩
  rw [hM] at ed
  subst ed
  have HML := Lib.hid hM
  have HPE := Lib.hid hp
  have HDL : Hid (L.at'.2.length ≤ 100000) := Lib.hid (Nat.le_trans ho.dl (by omega))
  obtain ⟨X, hX⟩ : ∃ X, w.alloc (.cells #[.int .i64 0, .int .i64 0, .int .i64 0, .int .i64 0, .int .i64 0, .int .i64 0, .int .i64 0, .int .i64 0, .int .i64 0, .int .i64 0, .int .i64 0, .int .i64 0, .int .i64 0, .int .i64 0, .int .i64 0, .int .i64 0, .string ⟨#[]⟩, .string ⟨#[]⟩, .int .i64 0, .int .i64 0, .int .i64 0, .int .i64 0, .slice none 0 0, .int .i64 0, .slice none 0 0, .slice none 0 0, .slice none 0 0] 44) = X := ⟨_, rfl⟩
  have hB : Below w.heap.size w X := by rw [← hX]; exact (Below.refl _ _).alloc (Nat.le_refl _) _
  have bN : Bk X w.heap.size 44 [.int .i64 0, .int .i64 0, .int .i64 0, .int .i64 0, .int .i64 0, .int .i64 0, .int .i64 0, .int .i64 0, .int .i64 0, .int .i64 0, .int .i64 0, .int .i64 0, .int .i64 0, .int .i64 0, .int .i64 0, .int .i64 0, .string ⟨#[]⟩, .string ⟨#[]⟩, .int .i64 0, .int .i64 0, .int .i64 0, .int .i64 0, .slice none 0 0, .int .i64 0, .slice none 0 0, .slice none 0 0, .slice none 0 0] := by rw [← hX]; exact Bk.new w _ _
  have HZX : Hid (X.heap.size = w.heap.size + 1) := Lib.hid (by rw [← hX]; simp)
  have hgw := h.bk.lt
  have HBX := Lib.hid hB
  have HV0 := Lib.hid (h.below hB)
  have HBN0 := Lib.hid bN
  have hgX := HV0.out.bk.lt
  have HC : Hid (∀ w' : World, Below X.heap.size X w' → w'.cell? ⟨g, 2, none⟩ = some (.int .i64 L.node) ∧ w'.cell? ⟨g, 3, none⟩ = some (.int .i64 L.id.1) ∧ w'.cell? ⟨g, 4, none⟩ = some (.int .i64 L.id.2.1) ∧ w'.cell? ⟨g, 5, none⟩ = some (.int .i64 L.id.2.2) ∧ w'.cell? ⟨g, 6, none⟩ = some (.int .i64 L.bal.1) ∧ w'.cell? ⟨g, 7, none⟩ = some (.int .i64 L.bal.2) ∧ Below X.heap.size X w') := Lib.hid fun w' hb => by
    have q := HV0.out.below hb
    exact ⟨q.cell 2, q.cell 3, q.cell 4, q.cell 5, q.cell 6, q.cell 7, hb⟩
  have hb1 : Below X.heap.size X ((X.alloc (.cells #[.int .i64 0, .int .i64 0, .int .i64 0, .int .i64 0, .int .i64 0, .int .i64 0, .int .i64 0, .int .i64 0, .int .i64 0, .int .i64 0, .int .i64 0, .int .i64 0, .int .i64 0, .int .i64 0, .int .i64 0, .int .i64 0, .string ⟨#[]⟩, .string ⟨#[]⟩, .int .i64 0, .int .i64 0, .int .i64 0, .int .i64 0, .slice none 0 0, .int .i64 0, .slice none 0 0, .slice none 0 0, .slice none 0 0] 44)).drew) := ((Below.refl _ _).alloc (Nat.le_refl _) _).drew
  have hb2 : Below X.heap.size X (((X.alloc (.cells #[.int .i64 0, .int .i64 0, .int .i64 0, .int .i64 0, .int .i64 0, .int .i64 0, .int .i64 0, .int .i64 0, .int .i64 0, .int .i64 0, .int .i64 0, .int .i64 0, .int .i64 0, .int .i64 0, .int .i64 0, .int .i64 0, .string ⟨#[]⟩, .string ⟨#[]⟩, .int .i64 0, .int .i64 0, .int .i64 0, .int .i64 0, .slice none 0 0, .int .i64 0, .slice none 0 0, .slice none 0 0, .slice none 0 0] 44)).drew).setRow X.heap.size #[.int .i64 0, .int .i64 L.node, .int .i64 0, .int .i64 L.id.1, .int .i64 L.id.2.1, .int .i64 L.id.2.2, .int .i64 L.bal.1, .int .i64 L.bal.2, .int .i64 0, .int .i64 0, .int .i64 0, .int .i64 0, .int .i64 0, .int .i64 0, .int .i64 0, .int .i64 0, .string ⟨#[]⟩, .string ⟨#[]⟩, .int .i64 0, .int .i64 0, .int .i64 0, .int .i64 0, .slice none 0 0, .int .i64 0, .slice none 0 0, .slice none 0 0, .slice none 0 0]) := below_setRow hb1 (Nat.le_refl _) _
  have HA1 : Hid (Bk ((X.alloc (.cells #[.int .i64 0, .int .i64 0, .int .i64 0, .int .i64 0, .int .i64 0, .int .i64 0, .int .i64 0, .int .i64 0, .int .i64 0, .int .i64 0, .int .i64 0, .int .i64 0, .int .i64 0, .int .i64 0, .int .i64 0, .int .i64 0, .string ⟨#[]⟩, .string ⟨#[]⟩, .int .i64 0, .int .i64 0, .int .i64 0, .int .i64 0, .slice none 0 0, .int .i64 0, .slice none 0 0, .slice none 0 0, .slice none 0 0] 44)).drew) X.heap.size 44 [.int .i64 0, .int .i64 0, .int .i64 0, .int .i64 0, .int .i64 0, .int .i64 0, .int .i64 0, .int .i64 0, .int .i64 0, .int .i64 0, .int .i64 0, .int .i64 0, .int .i64 0, .int .i64 0, .int .i64 0, .int .i64 0, .string ⟨#[]⟩, .string ⟨#[]⟩, .int .i64 0, .int .i64 0, .int .i64 0, .int .i64 0, .slice none 0 0, .int .i64 0, .slice none 0 0, .slice none 0 0, .slice none 0 0]) := Lib.hid ((Bk.new X _ _).below (Below.refl _ _).drew)
  have HO1 : Hid ((#[.int .i64 0, .int .i64 L.node, .int .i64 0, .int .i64 L.id.1, .int .i64 L.id.2.1, .int .i64 L.id.2.2, .int .i64 L.bal.1, .int .i64 L.bal.2, .int .i64 0, .int .i64 0, .int .i64 0, .int .i64 0, .int .i64 0, .int .i64 0, .int .i64 0, .int .i64 0, .string ⟨#[]⟩, .string ⟨#[]⟩, .int .i64 0, .int .i64 0, .int .i64 0, .int .i64 0, .slice none 0 0, .int .i64 0, .slice none 0 0, .slice none 0 0, .slice none 0 0] : Array Value).all (·.oneCell') = true) := Lib.hid (all_toL (by rfl))
  clear hB bN h ho hM hp
  go_enter Try.func19, Try.ntmps19
  go_wp2_with fail
  try rw [hX]
  clear hX
  refine wp_region_held_drew (S := (fun w' => w'.cell? ⟨g, 2, none⟩ = some (.int .i64 L.node) ∧ w'.cell? ⟨g, 3, none⟩ = some (.int .i64 L.id.1) ∧ w'.cell? ⟨g, 4, none⟩ = some (.int .i64 L.id.2.1) ∧ w'.cell? ⟨g, 5, none⟩ = some (.int .i64 L.id.2.2) ∧ w'.cell? ⟨g, 6, none⟩ = some (.int .i64 L.bal.1) ∧ w'.cell? ⟨g, 7, none⟩ = some (.int .i64 L.bal.2) ∧ Below X.heap.size X w')) (by kernel_rfl) ?_ (fun hHeld => ?_)
  · ((first
  | exact HC.out _ hb2
  | exact HC.out _ hb1
  | exact HC.out _ (Below.refl _ _).drew
  | exact HC.out _ (Below.refl _ _)
  | fail))
  refine wpAnyH_take (i := 0) (v := ?_) rfl (by kernel_rfl) (by kernel_rfl) (by kernel_rfl) (fun _ _ _ h => h) (Or.inl ⟨by rfl, ?_⟩) (by assumption) ?_
  rotate_left
  · (intro w hSw; (try dsimp only at hSw); go_simp; try rfl)
  try simp only [Act.put, List.setIfInBounds_toArray, List.set_cons_zero, List.set_cons_succ, List.getElem_toArray, List.getElem_cons_zero, List.getElem_cons_succ]
  refine wpAnyH_take (i := 1) (v := ?_) rfl (by kernel_rfl) (by kernel_rfl) (by kernel_rfl) (fun _ _ _ h => h) (Or.inl ⟨by rfl, ?_⟩) (by assumption) ?_
  rotate_left
  · (intro w hSw; (try dsimp only at hSw); go_simp; try rfl)
  try simp only [Act.put, List.setIfInBounds_toArray, List.set_cons_zero, List.set_cons_succ, List.getElem_toArray, List.getElem_cons_zero, List.getElem_cons_succ]
  refine wpAnyH_take (i := 2) (v := ?_) rfl (by kernel_rfl) (by kernel_rfl) (by kernel_rfl) (fun _ _ _ h => h) (Or.inl ⟨by rfl, ?_⟩) (by assumption) ?_
  rotate_left
  · (intro w hSw; (try dsimp only at hSw); go_simp; try rfl)
  try simp only [Act.put, List.setIfInBounds_toArray, List.set_cons_zero, List.set_cons_succ, List.getElem_toArray, List.getElem_cons_zero, List.getElem_cons_succ]
  refine wpAnyH_take (i := 3) (v := ?_) rfl (by kernel_rfl) (by kernel_rfl) (by kernel_rfl) (fun _ _ _ h => h) (Or.inl ⟨by rfl, ?_⟩) (by assumption) ?_
  rotate_left
  · (intro w hSw; (try dsimp only at hSw); go_simp; try rfl)
  try simp only [Act.put, List.setIfInBounds_toArray, List.set_cons_zero, List.set_cons_succ, List.getElem_toArray, List.getElem_cons_zero, List.getElem_cons_succ]
  refine wpAnyH_take (i := 4) (v := ?_) rfl (by kernel_rfl) (by kernel_rfl) (by kernel_rfl) (fun _ _ _ h => h) (Or.inl ⟨by rfl, ?_⟩) (by assumption) ?_
  rotate_left
  · (intro w hSw; (try dsimp only at hSw); go_simp; try rfl)
  try simp only [Act.put, List.setIfInBounds_toArray, List.set_cons_zero, List.set_cons_succ, List.getElem_toArray, List.getElem_cons_zero, List.getElem_cons_succ]
  refine wpAnyH_take (i := 5) (v := ?_) rfl (by kernel_rfl) (by kernel_rfl) (by kernel_rfl) (fun _ _ _ h => h) (Or.inl ⟨by rfl, ?_⟩) (by assumption) ?_
  rotate_left
  · (intro w hSw; (try dsimp only at hSw); go_simp; try rfl)
  try simp only [Act.put, List.setIfInBounds_toArray, List.set_cons_zero, List.set_cons_succ, List.getElem_toArray, List.getElem_cons_zero, List.getElem_cons_succ]
  refine wpAnyH_take (i := 6) (v := ?_) rfl (by kernel_rfl) (by kernel_rfl) (by kernel_rfl) (fun _ _ _ h => h) (Or.inl ⟨by rfl, ?_⟩) (by assumption) ?_
  rotate_left
  · (intro w hSw; (try dsimp only at hSw); go_simp; try rfl)
  try simp only [Act.put, List.setIfInBounds_toArray, List.set_cons_zero, List.set_cons_succ, List.getElem_toArray, List.getElem_cons_zero, List.getElem_cons_succ]
  refine wpAnyH_take (i := 7) (v := ?_) rfl (by kernel_rfl) (by kernel_rfl) (by kernel_rfl) (fun _ _ _ h => h) (Or.inl ⟨by rfl, ?_⟩) (by assumption) ?_
  rotate_left
  · (intro w hSw; (try dsimp only at hSw); go_simp; try rfl)
  try simp only [Act.put, List.setIfInBounds_toArray, List.set_cons_zero, List.set_cons_succ, List.getElem_toArray, List.getElem_cons_zero, List.getElem_cons_succ]
  refine wpAnyH_take (i := 8) (v := ?_) rfl (by kernel_rfl) (by kernel_rfl) (by kernel_rfl) (fun _ _ _ h => h) (Or.inl ⟨by rfl, ?_⟩) (by assumption) ?_
  rotate_left
  · (intro w hSw; (try dsimp only at hSw); go_simp; try rfl)
  try simp only [Act.put, List.setIfInBounds_toArray, List.set_cons_zero, List.set_cons_succ, List.getElem_toArray, List.getElem_cons_zero, List.getElem_cons_succ]
  refine wpAnyH_take (i := 9) (v := ?_) rfl (by kernel_rfl) (by kernel_rfl) (by kernel_rfl) (fun _ _ _ h => h) (Or.inl ⟨by rfl, ?_⟩) (by assumption) ?_
  rotate_left
  · (intro w hSw; (try dsimp only at hSw); go_simp; try rfl)
  try simp only [Act.put, List.setIfInBounds_toArray, List.set_cons_zero, List.set_cons_succ, List.getElem_toArray, List.getElem_cons_zero, List.getElem_cons_succ]
  refine wpAnyH_take (i := 10) (v := ?_) rfl (by kernel_rfl) (by kernel_rfl) (by kernel_rfl) (fun _ _ _ h => h) (Or.inl ⟨by rfl, ?_⟩) (by assumption) ?_
  rotate_left
  · (intro w hSw; (try dsimp only at hSw); go_simp; try rfl)
  try simp only [Act.put, List.setIfInBounds_toArray, List.set_cons_zero, List.set_cons_succ, List.getElem_toArray, List.getElem_cons_zero, List.getElem_cons_succ]
  refine wpAnyH_take (i := 11) (v := ?_) rfl (by kernel_rfl) (by kernel_rfl) (by kernel_rfl) (fun _ _ _ h => h) (Or.inl ⟨by rfl, ?_⟩) (by assumption) ?_
  rotate_left
  · (intro w hSw; (try dsimp only at hSw); go_simp; try rfl)
  try simp only [Act.put, List.setIfInBounds_toArray, List.set_cons_zero, List.set_cons_succ, List.getElem_toArray, List.getElem_cons_zero, List.getElem_cons_succ]
  refine wpAnyH_take (i := 12) (v := ?_) rfl (by kernel_rfl) (by kernel_rfl) (by kernel_rfl) (fun _ _ _ h => h) (Or.inl ⟨by rfl, ?_⟩) (by assumption) ?_
  rotate_left
  · (intro w hSw; (try dsimp only at hSw); go_simp; try rfl)
  try simp only [Act.put, List.setIfInBounds_toArray, List.set_cons_zero, List.set_cons_succ, List.getElem_toArray, List.getElem_cons_zero, List.getElem_cons_succ]
  refine wpAnyH_ready (rs := [13]) (by kernel_rfl) (by simp) ?_
  refine (AllReadyH.cons rfl (fun K hK => ?_) AllReadyH.nil)
  go_simp
  refine hK.out _ _ ?_ (fun hHeld => ?_)
  · ((first
  | exact HC.out _ hb2
  | exact HC.out _ hb1
  | exact HC.out _ (Below.refl _ _).drew
  | exact HC.out _ (Below.refl _ _)
  | fail))
  clear hK K
  try simp only [Act.put, List.setIfInBounds_toArray, List.set_cons_zero, List.set_cons_succ, List.getElem_toArray, List.getElem_cons_zero, List.getElem_cons_succ]
  refine wpAnyH_ready (rs := [14]) (by kernel_rfl) (by simp) ?_
  refine (AllReadyH.cons rfl (fun K hK => ?_) AllReadyH.nil)
  refine step_store_row rfl 44 _ _ rfl X.heap.size rfl #[.int .i64 0, .int .i64 L.node, .int .i64 0, .int .i64 L.id.1, .int .i64 L.id.2.1, .int .i64 L.id.2.2, .int .i64 L.bal.1, .int .i64 L.bal.2, .int .i64 0, .int .i64 0, .int .i64 0, .int .i64 0, .int .i64 0, .int .i64 0, .int .i64 0, .int .i64 0, .string ⟨#[]⟩, .string ⟨#[]⟩, .int .i64 0, .int .i64 0, .int .i64 0, .int .i64 0, .slice none 0 0, .int .i64 0, .slice none 0 0, .slice none 0 0, .slice none 0 0] rfl #[.int .i64 0, .int .i64 0, .int .i64 0, .int .i64 0, .int .i64 0, .int .i64 0, .int .i64 0, .int .i64 0, .int .i64 0, .int .i64 0, .int .i64 0, .int .i64 0, .int .i64 0, .int .i64 0, .int .i64 0, .int .i64 0, .string ⟨#[]⟩, .string ⟨#[]⟩, .int .i64 0, .int .i64 0, .int .i64 0, .int .i64 0, .slice none 0 0, .int .i64 0, .slice none 0 0, .slice none 0 0, .slice none 0 0] 44 HA1.out infoMs rfl HO1.out ?_
  refine hK.out _ _ ?_ (fun hHeld => ?_)
  · ((first
  | exact HC.out _ hb2
  | exact HC.out _ hb1
  | exact HC.out _ (Below.refl _ _).drew
  | exact HC.out _ (Below.refl _ _)
  | fail))
  clear hK K
  try simp only [Act.put, List.setIfInBounds_toArray, List.set_cons_zero, List.set_cons_succ, List.getElem_toArray, List.getElem_cons_zero, List.getElem_cons_succ]
  refine wpAnyH_done (by kernel_rfl) ?_ _
  have HA := Lib.hid (bk_setRow (ds := [.int .i64 0, .int .i64 L.node, .int .i64 0, .int .i64 L.id.1, .int .i64 L.id.2.1, .int .i64 L.id.2.2, .int .i64 L.bal.1, .int .i64 L.bal.2, .int .i64 0, .int .i64 0, .int .i64 0, .int .i64 0, .int .i64 0, .int .i64 0, .int .i64 0, .int .i64 0, .string ⟨#[]⟩, .string ⟨#[]⟩, .int .i64 0, .int .i64 0, .int .i64 0, .int .i64 0, .slice none 0 0, .int .i64 0, .slice none 0 0, .slice none 0 0, .slice none 0 0]) HA1.out)
  have hb2s := hb2
  have HV1 := Lib.hid (HV0.out.below hb2s)
  have HBN1 := Lib.hid (HBN0.out.below hb2s)
  have HBW1 := Lib.hid (HBX.out.trans (hb2s.mono HBX.out.size))
  clear HC hb1 hb2 hb2s HA1 HO1
  go_wp2_with fail
  generalize hX1 : ((X.alloc (.cells #[.int .i64 0, .int .i64 0, .int .i64 0, .int .i64 0, .int .i64 0, .int .i64 0, .int .i64 0, .int .i64 0, .int .i64 0, .int .i64 0, .int .i64 0, .int .i64 0, .int .i64 0, .int .i64 0, .int .i64 0, .int .i64 0, .string ⟨#[]⟩, .string ⟨#[]⟩, .int .i64 0, .int .i64 0, .int .i64 0, .int .i64 0, .slice none 0 0, .int .i64 0, .slice none 0 0, .slice none 0 0, .slice none 0 0] 44)).drew).setRow X.heap.size #[.int .i64 0, .int .i64 L.node, .int .i64 0, .int .i64 L.id.1, .int .i64 L.id.2.1, .int .i64 L.id.2.2, .int .i64 L.bal.1, .int .i64 L.bal.2, .int .i64 0, .int .i64 0, .int .i64 0, .int .i64 0, .int .i64 0, .int .i64 0, .int .i64 0, .int .i64 0, .string ⟨#[]⟩, .string ⟨#[]⟩, .int .i64 0, .int .i64 0, .int .i64 0, .int .i64 0, .slice none 0 0, .int .i64 0, .slice none 0 0, .slice none 0 0, .slice none 0 0] = X1 at *
  clear hX1
  rw [HZX.out]
  have HBb1 : Hid (Bk X1 (w.heap.size + 1) 44 [.int .i64 0, .int .i64 L.node, .int .i64 0, .int .i64 L.id.1, .int .i64 L.id.2.1, .int .i64 L.id.2.2, .int .i64 L.bal.1, .int .i64 L.bal.2, .int .i64 0, .int .i64 0, .int .i64 0, .int .i64 0, .int .i64 0, .int .i64 0, .int .i64 0, .int .i64 0, .string ⟨#[]⟩, .string ⟨#[]⟩, .int .i64 0, .int .i64 0, .int .i64 0, .int .i64 0, .slice none 0 0, .int .i64 0, .slice none 0 0, .slice none 0 0, .slice none 0 0]) := Lib.hid (by have q := HA.out; rw [HZX.out] at q; exact q)
  clear HA HV0 HBN0 HBX
  have hg1 := HV1.out.bk.lt
  have HZ1 : Hid (w.heap.size ≤ X1.drew.heap.size) := Lib.hid HBW1.out.size
  have HN0 : Hid (w.heap.size + 1 < X1.heap.size ∧ g < X1.heap.size) := Lib.hid ⟨HBb1.out.lt, hg1⟩
  have HN1 : Hid (X1.heap.size ≠ w.heap.size + 1 ∧ X1.heap.size ≠ w.heap.size ∧ X1.heap.size ≠ g) := Lib.hid (by have := HBb1.out.lt; omega)
  have hbA : Below X1.heap.size X1 ((X1.alloc (.cells #[.int .i64 0, .int .i64 0, .int .i64 0, .int .i64 0, .int .i64 0, .int .i64 0, .int .i64 0, .int .i64 0, .string ⟨#[]⟩, .string ⟨#[]⟩, .int .i64 0, .int .i64 0, .int .i64 0, .int .i64 0, .slice none 0 0] 38)).drew) := ((Below.refl _ _).alloc (Nat.le_refl _) _).drew
  have HZ1b : Hid (w.heap.size ≤ ((X1.alloc (.cells #[.int .i64 0, .int .i64 0, .int .i64 0, .int .i64 0, .int .i64 0, .int .i64 0, .int .i64 0, .int .i64 0, .string ⟨#[]⟩, .string ⟨#[]⟩, .int .i64 0, .int .i64 0, .int .i64 0, .int .i64 0, .slice none 0 0] 38)).drew).heap.size) := Lib.hid (Nat.le_trans HBW1.out.size hbA.size)
  have hbz : Bk ((X1.alloc (.cells #[.int .i64 0, .int .i64 0, .int .i64 0, .int .i64 0, .int .i64 0, .int .i64 0, .int .i64 0, .int .i64 0, .string ⟨#[]⟩, .string ⟨#[]⟩, .int .i64 0, .int .i64 0, .int .i64 0, .int .i64 0, .slice none 0 0] 38)).drew) X1.heap.size 38 [.int .i64 0, .int .i64 0, .int .i64 0, .int .i64 0, .int .i64 0, .int .i64 0, .int .i64 0, .int .i64 0, .string ⟨#[]⟩, .string ⟨#[]⟩, .int .i64 0, .int .i64 0, .int .i64 0, .int .i64 0, .slice none 0 0] := (Bk.new X1 _ _).below (Below.refl _ _).drew
  have HC2 : Hid (∀ w' : World, Below X1.heap.size X1 w' → w'.cell? ⟨g, 12, none⟩ = some (.int .i64 L.cm.cl) ∧ w'.cell? ⟨g, 13, none⟩ = some (.int .i64 L.cm.sq) ∧ w'.cell? ⟨g, 14, none⟩ = some (.int .i64 L.cm.op) ∧ w'.cell? ⟨g, 15, none⟩ = some (.string L.cm.pa) ∧ w'.cell? ⟨g, 16, none⟩ = some (.string L.cm.va) ∧ w'.cell? ⟨g, 17, none⟩ = some (.int .i64 L.cm.ver) ∧ w'.cell? ⟨g, 18, none⟩ = some (.int .i64 L.cm.a) ∧ w'.cell? ⟨g, 19, none⟩ = some (.int .i64 L.cm.b) ∧ w'.cell? ⟨g, 20, none⟩ = some (.int .i64 L.at'.1) ∧ w'.cell? ⟨g, 21, none⟩ = some (.slice ad M cd) ∧ Below X1.heap.size X1 w') := Lib.hid fun w' hb => by
    have q := HV1.out.below hb
    exact ⟨q.cell 12, q.cell 13, q.cell 14, q.cell 15, q.cell 16, q.cell 17, q.cell 18, q.cell 19, q.cell 20, q.cell 21, hb⟩
  have HCA : Hid (∀ W : World, Below X1.heap.size X1 W → Calls Try.prog 40 #[.agg #[.int .i64 L.at'.1, .slice ad M cd]] W (CaP L.at' M W)) := Lib.hid fun W hb => ca_any HML.out (HV1.out.deps.rd.below hb) HDL.out
  refine wp_region_held_drew (S := (fun w' => w'.cell? ⟨g, 12, none⟩ = some (.int .i64 L.cm.cl) ∧ w'.cell? ⟨g, 13, none⟩ = some (.int .i64 L.cm.sq) ∧ w'.cell? ⟨g, 14, none⟩ = some (.int .i64 L.cm.op) ∧ w'.cell? ⟨g, 15, none⟩ = some (.string L.cm.pa) ∧ w'.cell? ⟨g, 16, none⟩ = some (.string L.cm.va) ∧ w'.cell? ⟨g, 17, none⟩ = some (.int .i64 L.cm.ver) ∧ w'.cell? ⟨g, 18, none⟩ = some (.int .i64 L.cm.a) ∧ w'.cell? ⟨g, 19, none⟩ = some (.int .i64 L.cm.b) ∧ w'.cell? ⟨g, 20, none⟩ = some (.int .i64 L.at'.1) ∧ w'.cell? ⟨g, 21, none⟩ = some (.slice ad M cd) ∧ Below X1.heap.size X1 w')) (by kernel_rfl) ?_ (fun hHeld => ?_)
  · ((first
    | exact HC2.out _ hb9
    | exact HC2.out _ hb8
    | exact HC2.out _ hb7
    | exact HC2.out _ hbA
    | exact HC2.out _ (Below.refl _ _).drew
    | exact HC2.out _ (Below.refl _ _)
    | fail))
  refine wpAnyH_take (i := 0) (v := ?_) rfl (by kernel_rfl) (by kernel_rfl) (by kernel_rfl) (fun _ _ _ h => h) (Or.inl ⟨by rfl, ?_⟩) (by assumption) ?_
  rotate_left
  · (intro w hSw; (try dsimp only at hSw); go_simp; try rfl)
  try simp only [Act.put, List.setIfInBounds_toArray, List.set_cons_zero, List.set_cons_succ, List.getElem_toArray, List.getElem_cons_zero, List.getElem_cons_succ]
  refine wpAnyH_take (i := 1) (v := ?_) rfl (by kernel_rfl) (by kernel_rfl) (by kernel_rfl) (fun _ _ _ h => h) (Or.inl ⟨by rfl, ?_⟩) (by assumption) ?_
  rotate_left
  · (intro w hSw; (try dsimp only at hSw); go_simp; try rfl)
  try simp only [Act.put, List.setIfInBounds_toArray, List.set_cons_zero, List.set_cons_succ, List.getElem_toArray, List.getElem_cons_zero, List.getElem_cons_succ]
  refine wpAnyH_take (i := 2) (v := ?_) rfl (by kernel_rfl) (by kernel_rfl) (by kernel_rfl) (fun _ _ _ h => h) (Or.inl ⟨by rfl, ?_⟩) (by assumption) ?_
  rotate_left
  · (intro w hSw; (try dsimp only at hSw); go_simp; try rfl)
  try simp only [Act.put, List.setIfInBounds_toArray, List.set_cons_zero, List.set_cons_succ, List.getElem_toArray, List.getElem_cons_zero, List.getElem_cons_succ]
  refine wpAnyH_take (i := 3) (v := ?_) rfl (by kernel_rfl) (by kernel_rfl) (by kernel_rfl) (fun _ _ _ h => h) (Or.inl ⟨by rfl, ?_⟩) (by assumption) ?_
  rotate_left
  · (intro w hSw; (try dsimp only at hSw); go_simp; try rfl)
  try simp only [Act.put, List.setIfInBounds_toArray, List.set_cons_zero, List.set_cons_succ, List.getElem_toArray, List.getElem_cons_zero, List.getElem_cons_succ]
  refine wpAnyH_take (i := 4) (v := ?_) rfl (by kernel_rfl) (by kernel_rfl) (by kernel_rfl) (fun _ _ _ h => h) (Or.inl ⟨by rfl, ?_⟩) (by assumption) ?_
  rotate_left
  · (intro w hSw; (try dsimp only at hSw); go_simp; try rfl)
  try simp only [Act.put, List.setIfInBounds_toArray, List.set_cons_zero, List.set_cons_succ, List.getElem_toArray, List.getElem_cons_zero, List.getElem_cons_succ]
  refine wpAnyH_take (i := 5) (v := ?_) rfl (by kernel_rfl) (by kernel_rfl) (by kernel_rfl) (fun _ _ _ h => h) (Or.inl ⟨by rfl, ?_⟩) (by assumption) ?_
  rotate_left
  · (intro w hSw; (try dsimp only at hSw); go_simp; try rfl)
  try simp only [Act.put, List.setIfInBounds_toArray, List.set_cons_zero, List.set_cons_succ, List.getElem_toArray, List.getElem_cons_zero, List.getElem_cons_succ]
  refine wpAnyH_take (i := 6) (v := ?_) rfl (by kernel_rfl) (by kernel_rfl) (by kernel_rfl) (fun _ _ _ h => h) (Or.inl ⟨by rfl, ?_⟩) (by assumption) ?_
  rotate_left
  · (intro w hSw; (try dsimp only at hSw); go_simp; try rfl)
  try simp only [Act.put, List.setIfInBounds_toArray, List.set_cons_zero, List.set_cons_succ, List.getElem_toArray, List.getElem_cons_zero, List.getElem_cons_succ]
  refine wpAnyH_take (i := 7) (v := ?_) rfl (by kernel_rfl) (by kernel_rfl) (by kernel_rfl) (fun _ _ _ h => h) (Or.inl ⟨by rfl, ?_⟩) (by assumption) ?_
  rotate_left
  · (intro w hSw; (try dsimp only at hSw); go_simp; try rfl)
  try simp only [Act.put, List.setIfInBounds_toArray, List.set_cons_zero, List.set_cons_succ, List.getElem_toArray, List.getElem_cons_zero, List.getElem_cons_succ]
  refine wpAnyH_ready (rs := [8, 10]) (by kernel_rfl) (by simp) ?_
  refine (AllReadyH.cons rfl (fun K hK => ?_) (AllReadyH.cons rfl (fun K hK => ?_) AllReadyH.nil))
  ·
    go_simp
    (go_at_call 40; first | (refine (HCA.out _ hbA).mono ?_; rintro e w2 ⟨a5, k5, he, ho5, hbc⟩; have he := he.out; subst he; have hb7 : Below X1.heap.size X1 w2 := below_self hbA hbc; have hCi : Bk w2 X1.heap.size 38 [.int .i64 0, .int .i64 0, .int .i64 0, .int .i64 0, .int .i64 0, .int .i64 0, .int .i64 0, .int .i64 0, .string ⟨#[]⟩, .string ⟨#[]⟩, .int .i64 0, .int .i64 0, .int .i64 0, .int .i64 0, .slice none 0 0] := hbz.below hbc; have hCn : X1.heap.size ≠ w.heap.size + 1 ∧ X1.heap.size ≠ w.heap.size ∧ X1.heap.size ≠ g := HN1.out) | (refine (HCA.out _ (Below.refl _ _).drew).mono ?_; rintro e w2 ⟨a5, k5, he, ho5, hbc⟩; have he := he.out; subst he; have hb7 : Below X1.heap.size X1 w2 := below_self (Below.refl _ _).drew hbc; have hb8 : Below X1.heap.size X1 (w2.alloc (.cells #[.int .i64 0, .int .i64 0, .int .i64 0, .int .i64 0, .int .i64 0, .int .i64 0, .int .i64 0, .int .i64 0, .string ⟨#[]⟩, .string ⟨#[]⟩, .int .i64 0, .int .i64 0, .int .i64 0, .int .i64 0, .slice none 0 0] 38)) := hb7.alloc hb7.size _; have hCi : Bk (w2.alloc (.cells #[.int .i64 0, .int .i64 0, .int .i64 0, .int .i64 0, .int .i64 0, .int .i64 0, .int .i64 0, .int .i64 0, .string ⟨#[]⟩, .string ⟨#[]⟩, .int .i64 0, .int .i64 0, .int .i64 0, .int .i64 0, .slice none 0 0] 38)) w2.heap.size 38 [.int .i64 0, .int .i64 0, .int .i64 0, .int .i64 0, .int .i64 0, .int .i64 0, .int .i64 0, .int .i64 0, .string ⟨#[]⟩, .string ⟨#[]⟩, .int .i64 0, .int .i64 0, .int .i64 0, .int .i64 0, .slice none 0 0] := Bk.new w2 _ _; have hCn : w2.heap.size ≠ w.heap.size + 1 ∧ w2.heap.size ≠ w.heap.size ∧ w2.heap.size ≠ g := by have h1 := HN1.out; have h2 := hb7.size; have h3 := HN0.out; omega))
    refine hK.out _ _ ?_ (fun hHeld => ?_)
    · ((first
    | exact HC2.out _ hb9
    | exact HC2.out _ hb8
    | exact HC2.out _ hb7
    | exact HC2.out _ hbA
    | exact HC2.out _ (Below.refl _ _).drew
    | exact HC2.out _ (Below.refl _ _)
    | fail))
    clear hK K
    try simp only [Act.put, List.setIfInBounds_toArray, List.set_cons_zero, List.set_cons_succ, List.getElem_toArray, List.getElem_cons_zero, List.getElem_cons_succ]
    refine wpAnyH_take (i := 9) (v := ?_) rfl (by kernel_rfl) (by kernel_rfl) (by kernel_rfl) (fun _ _ _ h => h) (Or.inl ⟨by rfl, ?_⟩) (by assumption) ?_
    rotate_left
    · (intro w hSw; (try dsimp only at hSw); go_simp; try rfl)
    try simp only [Act.put, List.setIfInBounds_toArray, List.set_cons_zero, List.set_cons_succ, List.getElem_toArray, List.getElem_cons_zero, List.getElem_cons_succ]
    refine wpAnyH_ready (rs := [10]) (by kernel_rfl) (by simp) ?_
    refine (AllReadyH.cons rfl (fun K hK => ?_) AllReadyH.nil)
    go_simp
    refine hK.out _ _ ?_ (fun hHeld => ?_)
    · ((first
    | exact HC2.out _ hb9
    | exact HC2.out _ hb8
    | exact HC2.out _ hb7
    | exact HC2.out _ hbA
    | exact HC2.out _ (Below.refl _ _).drew
    | exact HC2.out _ (Below.refl _ _)
    | fail))
    clear hK K
    try simp only [Act.put, List.setIfInBounds_toArray, List.set_cons_zero, List.set_cons_succ, List.getElem_toArray, List.getElem_cons_zero, List.getElem_cons_succ]
    refine wpAnyH_ready (rs := [11]) (by kernel_rfl) (by simp) ?_
    refine (AllReadyH.cons rfl (fun K hK => ?_) AllReadyH.nil)
    first
      | (refine step_store_row rfl 38 _ _ rfl w2.heap.size rfl #[.int .i64 0, .int .i64 0, .int .i64 0, .int .i64 0, .int .i64 0, .int .i64 L.cm.cl, .int .i64 L.cm.sq, .int .i64 L.cm.op, .string L.cm.pa, .string L.cm.va, .int .i64 L.cm.ver, .int .i64 L.cm.a, .int .i64 L.cm.b, .int .i64 L.at'.1, .slice a5 M k5] rfl #[.int .i64 0, .int .i64 0, .int .i64 0, .int .i64 0, .int .i64 0, .int .i64 0, .int .i64 0, .int .i64 0, .string ⟨#[]⟩, .string ⟨#[]⟩, .int .i64 0, .int .i64 0, .int .i64 0, .int .i64 0, .slice none 0 0] 38 hCi infoIn rfl (all_toL (by rfl)) ?_; have hb9 := below_setRow hb8 (show X1.heap.size ≤ w2.heap.size from hb7.size) #[.int .i64 0, .int .i64 0, .int .i64 0, .int .i64 0, .int .i64 0, .int .i64 L.cm.cl, .int .i64 L.cm.sq, .int .i64 L.cm.op, .string L.cm.pa, .string L.cm.va, .int .i64 L.cm.ver, .int .i64 L.cm.a, .int .i64 L.cm.b, .int .i64 L.at'.1, .slice a5 M k5])
      | (refine step_store_row rfl 38 _ _ rfl X1.heap.size rfl #[.int .i64 0, .int .i64 0, .int .i64 0, .int .i64 0, .int .i64 0, .int .i64 L.cm.cl, .int .i64 L.cm.sq, .int .i64 L.cm.op, .string L.cm.pa, .string L.cm.va, .int .i64 L.cm.ver, .int .i64 L.cm.a, .int .i64 L.cm.b, .int .i64 L.at'.1, .slice a5 M k5] rfl #[.int .i64 0, .int .i64 0, .int .i64 0, .int .i64 0, .int .i64 0, .int .i64 0, .int .i64 0, .int .i64 0, .string ⟨#[]⟩, .string ⟨#[]⟩, .int .i64 0, .int .i64 0, .int .i64 0, .int .i64 0, .slice none 0 0] 38 hCi infoIn rfl (all_toL (by rfl)) ?_; have hb9 := below_setRow hb7 (Nat.le_refl _) #[.int .i64 0, .int .i64 0, .int .i64 0, .int .i64 0, .int .i64 0, .int .i64 L.cm.cl, .int .i64 L.cm.sq, .int .i64 L.cm.op, .string L.cm.pa, .string L.cm.va, .int .i64 L.cm.ver, .int .i64 L.cm.a, .int .i64 L.cm.b, .int .i64 L.at'.1, .slice a5 M k5])
    refine hK.out _ _ ?_ (fun hHeld => ?_)
    · ((first
    | exact HC2.out _ hb9
    | exact HC2.out _ hb8
    | exact HC2.out _ hb7
    | exact HC2.out _ hbA
    | exact HC2.out _ (Below.refl _ _).drew
    | exact HC2.out _ (Below.refl _ _)
    | fail))
    clear hK K
    try simp only [Act.put, List.setIfInBounds_toArray, List.set_cons_zero, List.set_cons_succ, List.getElem_toArray, List.getElem_cons_zero, List.getElem_cons_succ]
    refine wpAnyH_done (by kernel_rfl) ?_ _
    first
      | (have hOW : IK.Own ((w2.alloc (.cells #[.int .i64 0, .int .i64 0, .int .i64 0, .int .i64 0, .int .i64 0, .int .i64 0, .int .i64 0, .int .i64 0, .string ⟨#[]⟩, .string ⟨#[]⟩, .int .i64 0, .int .i64 0, .int .i64 0, .int .i64 0, .slice none 0 0] 38)).setRow w2.heap.size #[.int .i64 0, .int .i64 0, .int .i64 0, .int .i64 0, .int .i64 0, .int .i64 L.cm.cl, .int .i64 L.cm.sq, .int .i64 L.cm.op, .string L.cm.pa, .string L.cm.va, .int .i64 L.cm.ver, .int .i64 L.cm.a, .int .i64 L.cm.b, .int .i64 L.at'.1, .slice a5 M k5]) w.heap.size (.slice a5 M k5) L.at'.2 := (ho5.base HZ1.out).below (below_setRow ((Below.refl _ _).alloc (Nat.le_refl _) _) (Nat.le_refl _) _)
         have hCI := bk_setRow (ds := [.int .i64 0, .int .i64 0, .int .i64 0, .int .i64 0, .int .i64 0, .int .i64 L.cm.cl, .int .i64 L.cm.sq, .int .i64 L.cm.op, .string L.cm.pa, .string L.cm.va, .int .i64 L.cm.ver, .int .i64 L.cm.a, .int .i64 L.cm.b, .int .i64 L.at'.1, .slice a5 M k5]) hCi
         have hV2 := HV1.out.below hb9
         have hBb2 := HBb1.out.below hb9
         have hBN2 := HBN1.out.below hb9
         have hCB : w.heap.size ≤ w2.heap.size := Nat.le_trans HBW1.out.size hb7.size
         have HX2f := Lib.hid (And.intro hOW (And.intro hCI (And.intro hV2 (And.intro hBb2 (And.intro hBN2 (And.intro (HBW1.out.trans (hb9.mono HBW1.out.size)) (And.intro hCn hCB)))))))
         clear hOW hCI hV2 hBb2 hBN2 hCB
         clear HC2 HCA hb9 hb8 hb7 hCi ho5 hbc hbA hbz hCn
         generalize hC : w2.heap.size = C at *
         generalize hX2 : (w2.alloc (.cells #[.int .i64 0, .int .i64 0, .int .i64 0, .int .i64 0, .int .i64 0, .int .i64 0, .int .i64 0, .int .i64 0, .string ⟨#[]⟩, .string ⟨#[]⟩, .int .i64 0, .int .i64 0, .int .i64 0, .int .i64 0, .slice none 0 0] 38)).setRow C #[.int .i64 0, .int .i64 0, .int .i64 0, .int .i64 0, .int .i64 0, .int .i64 L.cm.cl, .int .i64 L.cm.sq, .int .i64 L.cm.op, .string L.cm.pa, .string L.cm.va, .int .i64 L.cm.ver, .int .i64 L.cm.a, .int .i64 L.cm.b, .int .i64 L.at'.1, .slice a5 M k5] = X2 at *
         clear hX2 hC)
      | (have hOW : IK.Own (w2.setRow X1.heap.size #[.int .i64 0, .int .i64 0, .int .i64 0, .int .i64 0, .int .i64 0, .int .i64 L.cm.cl, .int .i64 L.cm.sq, .int .i64 L.cm.op, .string L.cm.pa, .string L.cm.va, .int .i64 L.cm.ver, .int .i64 L.cm.a, .int .i64 L.cm.b, .int .i64 L.at'.1, .slice a5 M k5]) w.heap.size (.slice a5 M k5) L.at'.2 := by
           have q := ho5.base HZ1b.out
           refine q.keepB fun k hk => ?_
           simp only [World.setRow]
           rw [Array.getElem?_modify, if_neg (fun e => HasT.ne ⟨_, _, hCi⟩ (q.blk k hk).2 (by decide) e)]
         have hCI := bk_setRow (ds := [.int .i64 0, .int .i64 0, .int .i64 0, .int .i64 0, .int .i64 0, .int .i64 L.cm.cl, .int .i64 L.cm.sq, .int .i64 L.cm.op, .string L.cm.pa, .string L.cm.va, .int .i64 L.cm.ver, .int .i64 L.cm.a, .int .i64 L.cm.b, .int .i64 L.at'.1, .slice a5 M k5]) hCi
         have hV2 := HV1.out.below hb9
         have hBb2 := HBb1.out.below hb9
         have hBN2 := HBN1.out.below hb9
         have hCB : w.heap.size ≤ X1.heap.size := HBW1.out.size
         have HX2f := Lib.hid (And.intro hOW (And.intro hCI (And.intro hV2 (And.intro hBb2 (And.intro hBN2 (And.intro (HBW1.out.trans (hb9.mono HBW1.out.size)) (And.intro hCn hCB)))))))
         clear hOW hCI hV2 hBb2 hBN2 hCB
         clear HC2 HCA hb9 hb7 hCi ho5 hbc hbA hbz hCn
         generalize hC : X1.heap.size = C at *
         generalize hX2 : w2.setRow C #[.int .i64 0, .int .i64 0, .int .i64 0, .int .i64 0, .int .i64 0, .int .i64 L.cm.cl, .int .i64 L.cm.sq, .int .i64 L.cm.op, .string L.cm.pa, .string L.cm.va, .int .i64 L.cm.ver, .int .i64 L.cm.a, .int .i64 L.cm.b, .int .i64 L.at'.1, .slice a5 M k5] = X2 at *
         clear hX2 hC)
    obtain ⟨hOW, hCI, hV2, hBb2, hBN2, hb9, hCn, hCB⟩ := HX2f.out
    have HCB := Lib.hid hCB
    have HCI := Lib.hid hCI
    have HV2 := Lib.hid hV2
    have HBb2 := Lib.hid hBb2
    have HBN2 := Lib.hid hBN2
    have HCN := Lib.hid hCn
    have HOW := Lib.hid hOW
    have HBW := Lib.hid hb9
    clear hOW hCI hV2 hBb2 hBN2 hb9 hCn hCB HX2f HV1 HBb1 HBN1 HBW1 HZ1 HZ1b HN1 HN0
    have HCIx := HCI
    have HBbx := HBb2
    have HBNx := HBN2
    have HOWx := HOW
    have HBWx := HBW
    clear HCI HBb2 HBN2 HOW HBW
    have k11 := HV2.out.cell 11
    simp only [ldE, List.getElem?_cons_zero, List.getElem?_cons_succ] at k11
    rw [HPE.out] at k11
    have hg2 := HV2.out.bk.lt
    go_wp2_with fail
    clear k11 hg2 HV2
    have HCd : Hid (Bk X2.drew C 38 [.int .i64 0, .int .i64 0, .int .i64 0, .int .i64 0, .int .i64 0, .int .i64 L.cm.cl, .int .i64 L.cm.sq, .int .i64 L.cm.op, .string L.cm.pa, .string L.cm.va, .int .i64 L.cm.ver, .int .i64 L.cm.a, .int .i64 L.cm.b, .int .i64 L.at'.1, .slice a5 M k5]) := Lib.hid (HCIx.out.below (Below.refl X2.heap.size X2).drew)
    have HBd : Hid (Bk X2.drew (w.heap.size + 1) 44 [.int .i64 0, .int .i64 L.node, .int .i64 0, .int .i64 L.id.1, .int .i64 L.id.2.1, .int .i64 L.id.2.2, .int .i64 L.bal.1, .int .i64 L.bal.2, .int .i64 0, .int .i64 0, .int .i64 0, .int .i64 0, .int .i64 0, .int .i64 0, .int .i64 0, .int .i64 0, .string ⟨#[]⟩, .string ⟨#[]⟩, .int .i64 0, .int .i64 0, .int .i64 0, .int .i64 0, .slice none 0 0, .int .i64 0, .slice none 0 0, .slice none 0 0, .slice none 0 0]) := Lib.hid (HBbx.out.below (Below.refl X2.heap.size X2).drew)
    have HBNd : Hid (Bk X2.drew w.heap.size 44 [.int .i64 0, .int .i64 0, .int .i64 0, .int .i64 0, .int .i64 0, .int .i64 0, .int .i64 0, .int .i64 0, .int .i64 0, .int .i64 0, .int .i64 0, .int .i64 0, .int .i64 0, .int .i64 0, .int .i64 0, .int .i64 0, .string ⟨#[]⟩, .string ⟨#[]⟩, .int .i64 0, .int .i64 0, .int .i64 0, .int .i64 0, .slice none 0 0, .int .i64 0, .slice none 0 0, .slice none 0 0, .slice none 0 0]) := Lib.hid (HBNx.out.below (Below.refl X2.heap.size X2).drew)
    have HOWd := Lib.hid (HOWx.out.below (Below.refl X2.heap.size X2).drew)
    have HBWd := Lib.hid (Below.drewB HBWx.out)
    have hs0 : Bs X2.drew (w.heap.size + 1) X2.drew := Bs.refl _ _
    clear HBNx HOWx HBWx HBbx HCIx
    have hlC := HCd.out.lt
    have hlb := HBd.out.lt
    have HC5 : Hid (∀ w' : World, Bs X2.drew (w.heap.size + 1) w' → w'.cell? ⟨C, 0, none⟩ = some (.int .i64 0) ∧ w'.cell? ⟨C, 1, none⟩ = some (.int .i64 0) ∧ w'.cell? ⟨C, 2, none⟩ = some (.int .i64 0) ∧ w'.cell? ⟨C, 3, none⟩ = some (.int .i64 0) ∧ w'.cell? ⟨C, 4, none⟩ = some (.int .i64 0) ∧ w'.cell? ⟨C, 5, none⟩ = some (.int .i64 L.cm.cl) ∧ w'.cell? ⟨C, 6, none⟩ = some (.int .i64 L.cm.sq) ∧ w'.cell? ⟨C, 7, none⟩ = some (.int .i64 L.cm.op) ∧ w'.cell? ⟨C, 8, none⟩ = some (.string L.cm.pa) ∧ w'.cell? ⟨C, 9, none⟩ = some (.string L.cm.va) ∧ w'.cell? ⟨C, 10, none⟩ = some (.int .i64 L.cm.ver) ∧ w'.cell? ⟨C, 11, none⟩ = some (.int .i64 L.cm.a) ∧ w'.cell? ⟨C, 12, none⟩ = some (.int .i64 L.cm.b) ∧ w'.cell? ⟨C, 13, none⟩ = some (.int .i64 L.at'.1) ∧ w'.cell? ⟨C, 14, none⟩ = some (.slice a5 M k5)) := Lib.hid fun w' hb => by
      have q : Bk w' C 38 [.int .i64 0, .int .i64 0, .int .i64 0, .int .i64 0, .int .i64 0, .int .i64 L.cm.cl, .int .i64 L.cm.sq, .int .i64 L.cm.op, .string L.cm.pa, .string L.cm.va, .int .i64 L.cm.ver, .int .i64 L.cm.a, .int .i64 L.cm.b, .int .i64 L.at'.1, .slice a5 M k5] := (hb.block _ hlC HCN.out.1).trans HCd.out
      exact ⟨q.cell 0, q.cell 1, q.cell 2, q.cell 3, q.cell 4, q.cell 5, q.cell 6, q.cell 7, q.cell 8, q.cell 9, q.cell 10, q.cell 11, q.cell 12, q.cell 13, q.cell 14⟩
    have y0 := HBd.out.cell 0
    have y8 := HBd.out.cell 8
    have y9 := HBd.out.cell 9
    have y10 := HBd.out.cell 10
    have y11 := HBd.out.cell 11
    have y12 := HBd.out.cell 12
    have y13 := HBd.out.cell 13
    have y14 := HBd.out.cell 14
    have y15 := HBd.out.cell 15
    have y16 := HBd.out.cell 16
    have y17 := HBd.out.cell 17
    have y18 := HBd.out.cell 18
    have y19 := HBd.out.cell 19
    have y20 := HBd.out.cell 20
    have y21 := HBd.out.cell 21
    have y22 := HBd.out.cell 22
    simp only [List.getElem?_cons_zero, List.getElem?_cons_succ] at y0 y8 y9 y10 y11 y12 y13 y14 y15 y16 y17 y18 y19 y20 y21 y22
    have fy : ∀ o, X2.drew.frozen? ⟨w.heap.size + 1, o, none⟩ = false := fun o => HBd.out.fz o
    refine wp_region_held_drew (S := (fun w' => w'.cell? ⟨C, 0, none⟩ = some (.int .i64 0) ∧ w'.cell? ⟨C, 1, none⟩ = some (.int .i64 0) ∧ w'.cell? ⟨C, 2, none⟩ = some (.int .i64 0) ∧ w'.cell? ⟨C, 3, none⟩ = some (.int .i64 0) ∧ w'.cell? ⟨C, 4, none⟩ = some (.int .i64 0) ∧ w'.cell? ⟨C, 5, none⟩ = some (.int .i64 L.cm.cl) ∧ w'.cell? ⟨C, 6, none⟩ = some (.int .i64 L.cm.sq) ∧ w'.cell? ⟨C, 7, none⟩ = some (.int .i64 L.cm.op) ∧ w'.cell? ⟨C, 8, none⟩ = some (.string L.cm.pa) ∧ w'.cell? ⟨C, 9, none⟩ = some (.string L.cm.va) ∧ w'.cell? ⟨C, 10, none⟩ = some (.int .i64 L.cm.ver) ∧ w'.cell? ⟨C, 11, none⟩ = some (.int .i64 L.cm.a) ∧ w'.cell? ⟨C, 12, none⟩ = some (.int .i64 L.cm.b) ∧ w'.cell? ⟨C, 13, none⟩ = some (.int .i64 L.at'.1) ∧ w'.cell? ⟨C, 14, none⟩ = some (.slice a5 M k5))) (by kernel_rfl) ?_ (fun hHeld => ?_)
    · ((first
      | (refine HC5.out _ ?_; (repeat' (first | with_reducible refine Bs.set ?_ _ _ | with_reducible exact hs0)); done)
      | exact HC5.out _ hs0
      | exact HC5.out _ (Bs.refl _ _)
      | fail))
    generalize hYX2 : X2.drew = YX2 at *; clear hYX2
    refine wpAnyH_take (i := 0) (v := ?_) rfl (by kernel_rfl) (by kernel_rfl) (by kernel_rfl) (fun _ _ _ h => h) (Or.inl ⟨by rfl, ?_⟩) (by assumption) ?_
    rotate_left
    · (intro w hSw; (try dsimp only at hSw); go_simp; try rfl)
    try simp only [Act.put, List.setIfInBounds_toArray, List.set_cons_zero, List.set_cons_succ, List.getElem_toArray, List.getElem_cons_zero, List.getElem_cons_succ]
    refine wpAnyH_take (i := 1) (v := ?_) rfl (by kernel_rfl) (by kernel_rfl) (by kernel_rfl) (fun _ _ _ h => h) (Or.inl ⟨by rfl, ?_⟩) (by assumption) ?_
    rotate_left
    · (intro w hSw; (try dsimp only at hSw); go_simp; try rfl)
    try simp only [Act.put, List.setIfInBounds_toArray, List.set_cons_zero, List.set_cons_succ, List.getElem_toArray, List.getElem_cons_zero, List.getElem_cons_succ]
    refine wpAnyH_ready (rs := [2]) (by kernel_rfl) (by simp) ?_
    refine (AllReadyH.cons rfl (fun K hK => ?_) AllReadyH.nil)
    go_simp
    refine hK.out _ _ ?_ (fun hHeld => ?_)
    · ((first
      | (refine HC5.out _ ?_; (repeat' (first | with_reducible refine Bs.set ?_ _ _ | with_reducible exact hs0)); done)
      | exact HC5.out _ hs0
      | exact HC5.out _ (Bs.refl _ _)
      | fail))
    clear hK K
    try simp only [Act.put, List.setIfInBounds_toArray, List.set_cons_zero, List.set_cons_succ, List.getElem_toArray, List.getElem_cons_zero, List.getElem_cons_succ]
    refine wpAnyH_take (i := 3) (v := ?_) rfl (by kernel_rfl) (by kernel_rfl) (by kernel_rfl) (fun _ _ _ h => h) (Or.inl ⟨by rfl, ?_⟩) (by assumption) ?_
    rotate_left
    · (intro w hSw; (try dsimp only at hSw); go_simp; try rfl)
    try simp only [Act.put, List.setIfInBounds_toArray, List.set_cons_zero, List.set_cons_succ, List.getElem_toArray, List.getElem_cons_zero, List.getElem_cons_succ]
    refine wpAnyH_ready (rs := [4]) (by kernel_rfl) (by simp) ?_
    refine (AllReadyH.cons rfl (fun K hK => ?_) AllReadyH.nil)
    go_simp
    refine hK.out _ _ ?_ (fun hHeld => ?_)
    · ((first
      | (refine HC5.out _ ?_; (repeat' (first | with_reducible refine Bs.set ?_ _ _ | with_reducible exact hs0)); done)
      | exact HC5.out _ hs0
      | exact HC5.out _ (Bs.refl _ _)
      | fail))
    clear hK K
    try simp only [Act.put, List.setIfInBounds_toArray, List.set_cons_zero, List.set_cons_succ, List.getElem_toArray, List.getElem_cons_zero, List.getElem_cons_succ]
    refine wpAnyH_done (by kernel_rfl) ?_ _
    have hon : OnlyG YX2 ((((((((((((((((YX2.setCell ⟨w.heap.size + 1, 0, none⟩ (.int .i64 2)).setCell ⟨w.heap.size + 1, 8, none⟩ (.int .i64 0)).setCell ⟨w.heap.size + 1, 9, none⟩ (.int .i64 0)).setCell ⟨w.heap.size + 1, 10, none⟩ (.int .i64 0)).setCell ⟨w.heap.size + 1, 11, none⟩ (.int .i64 0)).setCell ⟨w.heap.size + 1, 12, none⟩ (.int .i64 0)).setCell ⟨w.heap.size + 1, 13, none⟩ (.int .i64 L.cm.cl)).setCell ⟨w.heap.size + 1, 14, none⟩ (.int .i64 L.cm.sq)).setCell ⟨w.heap.size + 1, 15, none⟩ (.int .i64 L.cm.op)).setCell ⟨w.heap.size + 1, 16, none⟩ (.string L.cm.pa)).setCell ⟨w.heap.size + 1, 17, none⟩ (.string L.cm.va)).setCell ⟨w.heap.size + 1, 18, none⟩ (.int .i64 L.cm.ver)).setCell ⟨w.heap.size + 1, 19, none⟩ (.int .i64 L.cm.a)).setCell ⟨w.heap.size + 1, 20, none⟩ (.int .i64 L.cm.b)).setCell ⟨w.heap.size + 1, 21, none⟩ (.int .i64 L.at'.1)).setCell ⟨w.heap.size + 1, 22, none⟩ (.slice a5 M k5)) (w.heap.size + 1) := (((((((((((((((((OnlyG.refl _ _).set 0 (.int .i64 2)).set 8 (.int .i64 0)).set 9 (.int .i64 0)).set 10 (.int .i64 0)).set 11 (.int .i64 0)).set 12 (.int .i64 0)).set 13 (.int .i64 L.cm.cl)).set 14 (.int .i64 L.cm.sq)).set 15 (.int .i64 L.cm.op)).set 16 (.string L.cm.pa)).set 17 (.string L.cm.va)).set 18 (.int .i64 L.cm.ver)).set 19 (.int .i64 L.cm.a)).set 20 (.int .i64 L.cm.b)).set 21 (.int .i64 L.at'.1)).set 22 (.slice a5 M k5))
    have HBb3 : Hid (Bk ((((((((((((((((YX2.setCell ⟨w.heap.size + 1, 0, none⟩ (.int .i64 2)).setCell ⟨w.heap.size + 1, 8, none⟩ (.int .i64 0)).setCell ⟨w.heap.size + 1, 9, none⟩ (.int .i64 0)).setCell ⟨w.heap.size + 1, 10, none⟩ (.int .i64 0)).setCell ⟨w.heap.size + 1, 11, none⟩ (.int .i64 0)).setCell ⟨w.heap.size + 1, 12, none⟩ (.int .i64 0)).setCell ⟨w.heap.size + 1, 13, none⟩ (.int .i64 L.cm.cl)).setCell ⟨w.heap.size + 1, 14, none⟩ (.int .i64 L.cm.sq)).setCell ⟨w.heap.size + 1, 15, none⟩ (.int .i64 L.cm.op)).setCell ⟨w.heap.size + 1, 16, none⟩ (.string L.cm.pa)).setCell ⟨w.heap.size + 1, 17, none⟩ (.string L.cm.va)).setCell ⟨w.heap.size + 1, 18, none⟩ (.int .i64 L.cm.ver)).setCell ⟨w.heap.size + 1, 19, none⟩ (.int .i64 L.cm.a)).setCell ⟨w.heap.size + 1, 20, none⟩ (.int .i64 L.cm.b)).setCell ⟨w.heap.size + 1, 21, none⟩ (.int .i64 L.at'.1)).setCell ⟨w.heap.size + 1, 22, none⟩ (.slice a5 M k5)) (w.heap.size + 1) 44 [.int .i64 2, .int .i64 L.node, .int .i64 0, .int .i64 L.id.1, .int .i64 L.id.2.1, .int .i64 L.id.2.2, .int .i64 L.bal.1, .int .i64 L.bal.2, .int .i64 0, .int .i64 0, .int .i64 0, .int .i64 0, .int .i64 0, .int .i64 L.cm.cl, .int .i64 L.cm.sq, .int .i64 L.cm.op, .string L.cm.pa, .string L.cm.va, .int .i64 L.cm.ver, .int .i64 L.cm.a, .int .i64 L.cm.b, .int .i64 L.at'.1, .slice a5 M k5, .int .i64 0, .slice none 0 0, .slice none 0 0, .slice none 0 0]) := Lib.hid (Bk.set (Bk.set (Bk.set (Bk.set (Bk.set (Bk.set (Bk.set (Bk.set (Bk.set (Bk.set (Bk.set (Bk.set (Bk.set (Bk.set (Bk.set (Bk.set HBd.out 0 (.int .i64 2)) 8 (.int .i64 0)) 9 (.int .i64 0)) 10 (.int .i64 0)) 11 (.int .i64 0)) 12 (.int .i64 0)) 13 (.int .i64 L.cm.cl)) 14 (.int .i64 L.cm.sq)) 15 (.int .i64 L.cm.op)) 16 (.string L.cm.pa)) 17 (.string L.cm.va)) 18 (.int .i64 L.cm.ver)) 19 (.int .i64 L.cm.a)) 20 (.int .i64 L.cm.b)) 21 (.int .i64 L.at'.1)) 22 (.slice a5 M k5))
    have HBN3 : Hid (Bk ((((((((((((((((YX2.setCell ⟨w.heap.size + 1, 0, none⟩ (.int .i64 2)).setCell ⟨w.heap.size + 1, 8, none⟩ (.int .i64 0)).setCell ⟨w.heap.size + 1, 9, none⟩ (.int .i64 0)).setCell ⟨w.heap.size + 1, 10, none⟩ (.int .i64 0)).setCell ⟨w.heap.size + 1, 11, none⟩ (.int .i64 0)).setCell ⟨w.heap.size + 1, 12, none⟩ (.int .i64 0)).setCell ⟨w.heap.size + 1, 13, none⟩ (.int .i64 L.cm.cl)).setCell ⟨w.heap.size + 1, 14, none⟩ (.int .i64 L.cm.sq)).setCell ⟨w.heap.size + 1, 15, none⟩ (.int .i64 L.cm.op)).setCell ⟨w.heap.size + 1, 16, none⟩ (.string L.cm.pa)).setCell ⟨w.heap.size + 1, 17, none⟩ (.string L.cm.va)).setCell ⟨w.heap.size + 1, 18, none⟩ (.int .i64 L.cm.ver)).setCell ⟨w.heap.size + 1, 19, none⟩ (.int .i64 L.cm.a)).setCell ⟨w.heap.size + 1, 20, none⟩ (.int .i64 L.cm.b)).setCell ⟨w.heap.size + 1, 21, none⟩ (.int .i64 L.at'.1)).setCell ⟨w.heap.size + 1, 22, none⟩ (.slice a5 M k5)) w.heap.size 44 [.int .i64 0, .int .i64 0, .int .i64 0, .int .i64 0, .int .i64 0, .int .i64 0, .int .i64 0, .int .i64 0, .int .i64 0, .int .i64 0, .int .i64 0, .int .i64 0, .int .i64 0, .int .i64 0, .int .i64 0, .int .i64 0, .string ⟨#[]⟩, .string ⟨#[]⟩, .int .i64 0, .int .i64 0, .int .i64 0, .int .i64 0, .slice none 0 0, .int .i64 0, .slice none 0 0, .slice none 0 0, .slice none 0 0]) := Lib.hid ((hon.block _ (by omega)).trans HBNd.out)
    have HOW3 : Hid (IK.Own ((((((((((((((((YX2.setCell ⟨w.heap.size + 1, 0, none⟩ (.int .i64 2)).setCell ⟨w.heap.size + 1, 8, none⟩ (.int .i64 0)).setCell ⟨w.heap.size + 1, 9, none⟩ (.int .i64 0)).setCell ⟨w.heap.size + 1, 10, none⟩ (.int .i64 0)).setCell ⟨w.heap.size + 1, 11, none⟩ (.int .i64 0)).setCell ⟨w.heap.size + 1, 12, none⟩ (.int .i64 0)).setCell ⟨w.heap.size + 1, 13, none⟩ (.int .i64 L.cm.cl)).setCell ⟨w.heap.size + 1, 14, none⟩ (.int .i64 L.cm.sq)).setCell ⟨w.heap.size + 1, 15, none⟩ (.int .i64 L.cm.op)).setCell ⟨w.heap.size + 1, 16, none⟩ (.string L.cm.pa)).setCell ⟨w.heap.size + 1, 17, none⟩ (.string L.cm.va)).setCell ⟨w.heap.size + 1, 18, none⟩ (.int .i64 L.cm.ver)).setCell ⟨w.heap.size + 1, 19, none⟩ (.int .i64 L.cm.a)).setCell ⟨w.heap.size + 1, 20, none⟩ (.int .i64 L.cm.b)).setCell ⟨w.heap.size + 1, 21, none⟩ (.int .i64 L.at'.1)).setCell ⟨w.heap.size + 1, 22, none⟩ (.slice a5 M k5)) w.heap.size (.slice a5 M k5) L.at'.2) := Lib.hid (HOWd.out.keepB fun k hk => hon.block k (fun e => HasT.ne ⟨_, _, HBd.out⟩ (HOWd.out.blk k hk).2 (by decide) e.symm))
    have HBW3 : Hid (Below w.heap.size w ((((((((((((((((YX2.setCell ⟨w.heap.size + 1, 0, none⟩ (.int .i64 2)).setCell ⟨w.heap.size + 1, 8, none⟩ (.int .i64 0)).setCell ⟨w.heap.size + 1, 9, none⟩ (.int .i64 0)).setCell ⟨w.heap.size + 1, 10, none⟩ (.int .i64 0)).setCell ⟨w.heap.size + 1, 11, none⟩ (.int .i64 0)).setCell ⟨w.heap.size + 1, 12, none⟩ (.int .i64 0)).setCell ⟨w.heap.size + 1, 13, none⟩ (.int .i64 L.cm.cl)).setCell ⟨w.heap.size + 1, 14, none⟩ (.int .i64 L.cm.sq)).setCell ⟨w.heap.size + 1, 15, none⟩ (.int .i64 L.cm.op)).setCell ⟨w.heap.size + 1, 16, none⟩ (.string L.cm.pa)).setCell ⟨w.heap.size + 1, 17, none⟩ (.string L.cm.va)).setCell ⟨w.heap.size + 1, 18, none⟩ (.int .i64 L.cm.ver)).setCell ⟨w.heap.size + 1, 19, none⟩ (.int .i64 L.cm.a)).setCell ⟨w.heap.size + 1, 20, none⟩ (.int .i64 L.cm.b)).setCell ⟨w.heap.size + 1, 21, none⟩ (.int .i64 L.at'.1)).setCell ⟨w.heap.size + 1, 22, none⟩ (.slice a5 M k5))) := Lib.hid (HBWd.out.trans (hon.below.mono (by omega)))
    clear HC5 hs0 hon y0 y8 y9 y10 y11 y12 y13 y14 y15 y16 y17 y18 y19 y20 y21 y22 fy hlC hlb
    generalize hX3 : ((((((((((((((((YX2.setCell ⟨w.heap.size + 1, 0, none⟩ (.int .i64 2)).setCell ⟨w.heap.size + 1, 8, none⟩ (.int .i64 0)).setCell ⟨w.heap.size + 1, 9, none⟩ (.int .i64 0)).setCell ⟨w.heap.size + 1, 10, none⟩ (.int .i64 0)).setCell ⟨w.heap.size + 1, 11, none⟩ (.int .i64 0)).setCell ⟨w.heap.size + 1, 12, none⟩ (.int .i64 0)).setCell ⟨w.heap.size + 1, 13, none⟩ (.int .i64 L.cm.cl)).setCell ⟨w.heap.size + 1, 14, none⟩ (.int .i64 L.cm.sq)).setCell ⟨w.heap.size + 1, 15, none⟩ (.int .i64 L.cm.op)).setCell ⟨w.heap.size + 1, 16, none⟩ (.string L.cm.pa)).setCell ⟨w.heap.size + 1, 17, none⟩ (.string L.cm.va)).setCell ⟨w.heap.size + 1, 18, none⟩ (.int .i64 L.cm.ver)).setCell ⟨w.heap.size + 1, 19, none⟩ (.int .i64 L.cm.a)).setCell ⟨w.heap.size + 1, 20, none⟩ (.int .i64 L.cm.b)).setCell ⟨w.heap.size + 1, 21, none⟩ (.int .i64 L.at'.1)).setCell ⟨w.heap.size + 1, 22, none⟩ (.slice a5 M k5)) = X3 at *
    clear hX3 HBd HCd HBNd HOWd HBWd
    have hone : Hid ((#[.int .i64 2, .int .i64 L.node, .int .i64 0, .int .i64 L.id.1, .int .i64 L.id.2.1, .int .i64 L.id.2.2, .int .i64 L.bal.1, .int .i64 L.bal.2, .int .i64 0, .int .i64 0, .int .i64 0, .int .i64 0, .int .i64 0, .int .i64 L.cm.cl, .int .i64 L.cm.sq, .int .i64 L.cm.op, .string L.cm.pa, .string L.cm.va, .int .i64 L.cm.ver, .int .i64 L.cm.a, .int .i64 L.cm.b, .int .i64 L.at'.1, .slice a5 M k5, .int .i64 0, .slice none 0 0, .slice none 0 0, .slice none 0 0] : Array Value).all (·.oneCell') = true) := Lib.hid (all_toL (by rfl))
    have HLv : Hid ((loadVar 44 ⟨w.heap.size, 0, none⟩).run Try.prog (X3.setRow w.heap.size #[.int .i64 2, .int .i64 L.node, .int .i64 0, .int .i64 L.id.1, .int .i64 L.id.2.1, .int .i64 L.id.2.2, .int .i64 L.bal.1, .int .i64 L.bal.2, .int .i64 0, .int .i64 0, .int .i64 0, .int .i64 0, .int .i64 0, .int .i64 L.cm.cl, .int .i64 L.cm.sq, .int .i64 L.cm.op, .string L.cm.pa, .string L.cm.va, .int .i64 L.cm.ver, .int .i64 L.cm.a, .int .i64 L.cm.b, .int .i64 L.at'.1, .slice a5 M k5, .int .i64 0, .slice none 0 0, .slice none 0 0, .slice none 0 0]) = .ok (.agg #[.int .i64 2, .int .i64 L.node, .int .i64 0, .int .i64 L.id.1, .int .i64 L.id.2.1, .int .i64 L.id.2.2, .int .i64 L.bal.1, .int .i64 L.bal.2, .int .i64 0, .int .i64 0, .int .i64 0, .int .i64 0, .int .i64 0, .int .i64 L.cm.cl, .int .i64 L.cm.sq, .int .i64 L.cm.op, .string L.cm.pa, .string L.cm.va, .int .i64 L.cm.ver, .int .i64 L.cm.a, .int .i64 L.cm.b, .int .i64 L.at'.1, .slice a5 M k5, .int .i64 0, .slice none 0 0, .slice none 0 0, .slice none 0 0]) (X3.setRow w.heap.size #[.int .i64 2, .int .i64 L.node, .int .i64 0, .int .i64 L.id.1, .int .i64 L.id.2.1, .int .i64 L.id.2.2, .int .i64 L.bal.1, .int .i64 L.bal.2, .int .i64 0, .int .i64 0, .int .i64 0, .int .i64 0, .int .i64 0, .int .i64 L.cm.cl, .int .i64 L.cm.sq, .int .i64 L.cm.op, .string L.cm.pa, .string L.cm.va, .int .i64 L.cm.ver, .int .i64 L.cm.a, .int .i64 L.cm.b, .int .i64 L.at'.1, .slice a5 M k5, .int .i64 0, .slice none 0 0, .slice none 0 0, .slice none 0 0])) := Lib.hid (run_loadVar_row _ _ _ _ _ (0, 0) _ (heap_setRow_same _ _ _ _ _ HBN3.out) Try.underlying44 rfl infoMs)
    have HBf := Lib.hid (below_setRow HBW3.out (Nat.le_refl _) #[.int .i64 2, .int .i64 L.node, .int .i64 0, .int .i64 L.id.1, .int .i64 L.id.2.1, .int .i64 L.id.2.2, .int .i64 L.bal.1, .int .i64 L.bal.2, .int .i64 0, .int .i64 0, .int .i64 0, .int .i64 0, .int .i64 0, .int .i64 L.cm.cl, .int .i64 L.cm.sq, .int .i64 L.cm.op, .string L.cm.pa, .string L.cm.va, .int .i64 L.cm.ver, .int .i64 L.cm.a, .int .i64 L.cm.b, .int .i64 L.at'.1, .slice a5 M k5, .int .i64 0, .slice none 0 0, .slice none 0 0, .slice none 0 0])
    go_wp2_with (first
      | refine wpList_load_rowG rfl _ _ rfl (w.heap.size + 1) rfl 44 _ (0, 0) _ HBb3.out Try.underlying44 rfl infoMs ?_
      | refine wpList_store_row rfl 44 _ _ rfl w.heap.size rfl #[.int .i64 2, .int .i64 L.node, .int .i64 0, .int .i64 L.id.1, .int .i64 L.id.2.1, .int .i64 L.id.2.2, .int .i64 L.bal.1, .int .i64 L.bal.2, .int .i64 0, .int .i64 0, .int .i64 0, .int .i64 0, .int .i64 0, .int .i64 L.cm.cl, .int .i64 L.cm.sq, .int .i64 L.cm.op, .string L.cm.pa, .string L.cm.va, .int .i64 L.cm.ver, .int .i64 L.cm.a, .int .i64 L.cm.b, .int .i64 L.at'.1, .slice a5 M k5, .int .i64 0, .slice none 0 0, .slice none 0 0, .slice none 0 0] rfl _ 44 HBN3.out infoMs rfl hone.out ?_
      | fail)
    have hlv := HLv.out
    refine bodyPost_ret (v := .agg #[.int .i64 2, .int .i64 L.node, .int .i64 0, .int .i64 L.id.1, .int .i64 L.id.2.1, .int .i64 L.id.2.2, .int .i64 L.bal.1, .int .i64 L.bal.2, .int .i64 0, .int .i64 0, .int .i64 0, .int .i64 0, .int .i64 0, .int .i64 L.cm.cl, .int .i64 L.cm.sq, .int .i64 L.cm.op, .string L.cm.pa, .string L.cm.va, .int .i64 L.cm.ver, .int .i64 L.cm.a, .int .i64 L.cm.b, .int .i64 L.at'.1, .slice a5 M k5, .int .i64 0, .slice none 0 0, .slice none 0 0, .slice none 0 0]) (by simp [results, Try.results19, asAddr, Act.put, hlv]) rfl ⟨.slice a5 M k5, ?_, ?_, HBf.out⟩
    · show _ = _
      unfold askL
      rw [HPE.out]
      rfl
    · have q := HOW3.out
      unfold askL
      rw [HPE.out]
      refine q.keepB fun k hk => ?_
      have := q.blk k hk
      simp only [World.setRow]
      rw [Array.getElem?_modify, if_neg (fun e => HasT.ne ⟨_, _, HBN3.out⟩ this.2 (by decide) e)]
  ·
    go_simp
    refine hK.out _ _ ?_ (fun hHeld => ?_)
    · ((first
    | exact HC2.out _ hb9
    | exact HC2.out _ hb8
    | exact HC2.out _ hb7
    | exact HC2.out _ hbA
    | exact HC2.out _ (Below.refl _ _).drew
    | exact HC2.out _ (Below.refl _ _)
    | fail))
    clear hK K
    try simp only [Act.put, List.setIfInBounds_toArray, List.set_cons_zero, List.set_cons_succ, List.getElem_toArray, List.getElem_cons_zero, List.getElem_cons_succ]
    refine wpAnyH_ready (rs := [8]) (by kernel_rfl) (by simp) ?_
    refine (AllReadyH.cons rfl (fun K hK => ?_) AllReadyH.nil)
    go_simp
    (go_at_call 40; first | (refine (HCA.out _ hbA).mono ?_; rintro e w2 ⟨a5, k5, he, ho5, hbc⟩; have he := he.out; subst he; have hb7 : Below X1.heap.size X1 w2 := below_self hbA hbc; have hCi : Bk w2 X1.heap.size 38 [.int .i64 0, .int .i64 0, .int .i64 0, .int .i64 0, .int .i64 0, .int .i64 0, .int .i64 0, .int .i64 0, .string ⟨#[]⟩, .string ⟨#[]⟩, .int .i64 0, .int .i64 0, .int .i64 0, .int .i64 0, .slice none 0 0] := hbz.below hbc; have hCn : X1.heap.size ≠ w.heap.size + 1 ∧ X1.heap.size ≠ w.heap.size ∧ X1.heap.size ≠ g := HN1.out) | (refine (HCA.out _ (Below.refl _ _).drew).mono ?_; rintro e w2 ⟨a5, k5, he, ho5, hbc⟩; have he := he.out; subst he; have hb7 : Below X1.heap.size X1 w2 := below_self (Below.refl _ _).drew hbc; have hb8 : Below X1.heap.size X1 (w2.alloc (.cells #[.int .i64 0, .int .i64 0, .int .i64 0, .int .i64 0, .int .i64 0, .int .i64 0, .int .i64 0, .int .i64 0, .string ⟨#[]⟩, .string ⟨#[]⟩, .int .i64 0, .int .i64 0, .int .i64 0, .int .i64 0, .slice none 0 0] 38)) := hb7.alloc hb7.size _; have hCi : Bk (w2.alloc (.cells #[.int .i64 0, .int .i64 0, .int .i64 0, .int .i64 0, .int .i64 0, .int .i64 0, .int .i64 0, .int .i64 0, .string ⟨#[]⟩, .string ⟨#[]⟩, .int .i64 0, .int .i64 0, .int .i64 0, .int .i64 0, .slice none 0 0] 38)) w2.heap.size 38 [.int .i64 0, .int .i64 0, .int .i64 0, .int .i64 0, .int .i64 0, .int .i64 0, .int .i64 0, .int .i64 0, .string ⟨#[]⟩, .string ⟨#[]⟩, .int .i64 0, .int .i64 0, .int .i64 0, .int .i64 0, .slice none 0 0] := Bk.new w2 _ _; have hCn : w2.heap.size ≠ w.heap.size + 1 ∧ w2.heap.size ≠ w.heap.size ∧ w2.heap.size ≠ g := by have h1 := HN1.out; have h2 := hb7.size; have h3 := HN0.out; omega))
    refine hK.out _ _ ?_ (fun hHeld => ?_)
    · ((first
    | exact HC2.out _ hb9
    | exact HC2.out _ hb8
    | exact HC2.out _ hb7
    | exact HC2.out _ hbA
    | exact HC2.out _ (Below.refl _ _).drew
    | exact HC2.out _ (Below.refl _ _)
    | fail))
    clear hK K
    try simp only [Act.put, List.setIfInBounds_toArray, List.set_cons_zero, List.set_cons_succ, List.getElem_toArray, List.getElem_cons_zero, List.getElem_cons_succ]
    refine wpAnyH_take (i := 9) (v := ?_) rfl (by kernel_rfl) (by kernel_rfl) (by kernel_rfl) (fun _ _ _ h => h) (Or.inl ⟨by rfl, ?_⟩) (by assumption) ?_
    rotate_left
    · (intro w hSw; (try dsimp only at hSw); go_simp; try rfl)
    try simp only [Act.put, List.setIfInBounds_toArray, List.set_cons_zero, List.set_cons_succ, List.getElem_toArray, List.getElem_cons_zero, List.getElem_cons_succ]
    refine wpAnyH_ready (rs := [11]) (by kernel_rfl) (by simp) ?_
    refine (AllReadyH.cons rfl (fun K hK => ?_) AllReadyH.nil)
    first
      | (refine step_store_row rfl 38 _ _ rfl w2.heap.size rfl #[.int .i64 0, .int .i64 0, .int .i64 0, .int .i64 0, .int .i64 0, .int .i64 L.cm.cl, .int .i64 L.cm.sq, .int .i64 L.cm.op, .string L.cm.pa, .string L.cm.va, .int .i64 L.cm.ver, .int .i64 L.cm.a, .int .i64 L.cm.b, .int .i64 L.at'.1, .slice a5 M k5] rfl #[.int .i64 0, .int .i64 0, .int .i64 0, .int .i64 0, .int .i64 0, .int .i64 0, .int .i64 0, .int .i64 0, .string ⟨#[]⟩, .string ⟨#[]⟩, .int .i64 0, .int .i64 0, .int .i64 0, .int .i64 0, .slice none 0 0] 38 hCi infoIn rfl (all_toL (by rfl)) ?_; have hb9 := below_setRow hb8 (show X1.heap.size ≤ w2.heap.size from hb7.size) #[.int .i64 0, .int .i64 0, .int .i64 0, .int .i64 0, .int .i64 0, .int .i64 L.cm.cl, .int .i64 L.cm.sq, .int .i64 L.cm.op, .string L.cm.pa, .string L.cm.va, .int .i64 L.cm.ver, .int .i64 L.cm.a, .int .i64 L.cm.b, .int .i64 L.at'.1, .slice a5 M k5])
      | (refine step_store_row rfl 38 _ _ rfl X1.heap.size rfl #[.int .i64 0, .int .i64 0, .int .i64 0, .int .i64 0, .int .i64 0, .int .i64 L.cm.cl, .int .i64 L.cm.sq, .int .i64 L.cm.op, .string L.cm.pa, .string L.cm.va, .int .i64 L.cm.ver, .int .i64 L.cm.a, .int .i64 L.cm.b, .int .i64 L.at'.1, .slice a5 M k5] rfl #[.int .i64 0, .int .i64 0, .int .i64 0, .int .i64 0, .int .i64 0, .int .i64 0, .int .i64 0, .int .i64 0, .string ⟨#[]⟩, .string ⟨#[]⟩, .int .i64 0, .int .i64 0, .int .i64 0, .int .i64 0, .slice none 0 0] 38 hCi infoIn rfl (all_toL (by rfl)) ?_; have hb9 := below_setRow hb7 (Nat.le_refl _) #[.int .i64 0, .int .i64 0, .int .i64 0, .int .i64 0, .int .i64 0, .int .i64 L.cm.cl, .int .i64 L.cm.sq, .int .i64 L.cm.op, .string L.cm.pa, .string L.cm.va, .int .i64 L.cm.ver, .int .i64 L.cm.a, .int .i64 L.cm.b, .int .i64 L.at'.1, .slice a5 M k5])
    refine hK.out _ _ ?_ (fun hHeld => ?_)
    · ((first
    | exact HC2.out _ hb9
    | exact HC2.out _ hb8
    | exact HC2.out _ hb7
    | exact HC2.out _ hbA
    | exact HC2.out _ (Below.refl _ _).drew
    | exact HC2.out _ (Below.refl _ _)
    | fail))
    clear hK K
    try simp only [Act.put, List.setIfInBounds_toArray, List.set_cons_zero, List.set_cons_succ, List.getElem_toArray, List.getElem_cons_zero, List.getElem_cons_succ]
    refine wpAnyH_done (by kernel_rfl) ?_ _
    first
      | (have hOW : IK.Own ((w2.alloc (.cells #[.int .i64 0, .int .i64 0, .int .i64 0, .int .i64 0, .int .i64 0, .int .i64 0, .int .i64 0, .int .i64 0, .string ⟨#[]⟩, .string ⟨#[]⟩, .int .i64 0, .int .i64 0, .int .i64 0, .int .i64 0, .slice none 0 0] 38)).setRow w2.heap.size #[.int .i64 0, .int .i64 0, .int .i64 0, .int .i64 0, .int .i64 0, .int .i64 L.cm.cl, .int .i64 L.cm.sq, .int .i64 L.cm.op, .string L.cm.pa, .string L.cm.va, .int .i64 L.cm.ver, .int .i64 L.cm.a, .int .i64 L.cm.b, .int .i64 L.at'.1, .slice a5 M k5]) w.heap.size (.slice a5 M k5) L.at'.2 := (ho5.base HZ1.out).below (below_setRow ((Below.refl _ _).alloc (Nat.le_refl _) _) (Nat.le_refl _) _)
         have hCI := bk_setRow (ds := [.int .i64 0, .int .i64 0, .int .i64 0, .int .i64 0, .int .i64 0, .int .i64 L.cm.cl, .int .i64 L.cm.sq, .int .i64 L.cm.op, .string L.cm.pa, .string L.cm.va, .int .i64 L.cm.ver, .int .i64 L.cm.a, .int .i64 L.cm.b, .int .i64 L.at'.1, .slice a5 M k5]) hCi
         have hV2 := HV1.out.below hb9
         have hBb2 := HBb1.out.below hb9
         have hBN2 := HBN1.out.below hb9
         have hCB : w.heap.size ≤ w2.heap.size := Nat.le_trans HBW1.out.size hb7.size
         have HX2f := Lib.hid (And.intro hOW (And.intro hCI (And.intro hV2 (And.intro hBb2 (And.intro hBN2 (And.intro (HBW1.out.trans (hb9.mono HBW1.out.size)) (And.intro hCn hCB)))))))
         clear hOW hCI hV2 hBb2 hBN2 hCB
         clear HC2 HCA hb9 hb8 hb7 hCi ho5 hbc hbA hbz hCn
         generalize hC : w2.heap.size = C at *
         generalize hX2 : (w2.alloc (.cells #[.int .i64 0, .int .i64 0, .int .i64 0, .int .i64 0, .int .i64 0, .int .i64 0, .int .i64 0, .int .i64 0, .string ⟨#[]⟩, .string ⟨#[]⟩, .int .i64 0, .int .i64 0, .int .i64 0, .int .i64 0, .slice none 0 0] 38)).setRow C #[.int .i64 0, .int .i64 0, .int .i64 0, .int .i64 0, .int .i64 0, .int .i64 L.cm.cl, .int .i64 L.cm.sq, .int .i64 L.cm.op, .string L.cm.pa, .string L.cm.va, .int .i64 L.cm.ver, .int .i64 L.cm.a, .int .i64 L.cm.b, .int .i64 L.at'.1, .slice a5 M k5] = X2 at *
         clear hX2 hC)
      | (have hOW : IK.Own (w2.setRow X1.heap.size #[.int .i64 0, .int .i64 0, .int .i64 0, .int .i64 0, .int .i64 0, .int .i64 L.cm.cl, .int .i64 L.cm.sq, .int .i64 L.cm.op, .string L.cm.pa, .string L.cm.va, .int .i64 L.cm.ver, .int .i64 L.cm.a, .int .i64 L.cm.b, .int .i64 L.at'.1, .slice a5 M k5]) w.heap.size (.slice a5 M k5) L.at'.2 := by
           have q := ho5.base HZ1b.out
           refine q.keepB fun k hk => ?_
           simp only [World.setRow]
           rw [Array.getElem?_modify, if_neg (fun e => HasT.ne ⟨_, _, hCi⟩ (q.blk k hk).2 (by decide) e)]
         have hCI := bk_setRow (ds := [.int .i64 0, .int .i64 0, .int .i64 0, .int .i64 0, .int .i64 0, .int .i64 L.cm.cl, .int .i64 L.cm.sq, .int .i64 L.cm.op, .string L.cm.pa, .string L.cm.va, .int .i64 L.cm.ver, .int .i64 L.cm.a, .int .i64 L.cm.b, .int .i64 L.at'.1, .slice a5 M k5]) hCi
         have hV2 := HV1.out.below hb9
         have hBb2 := HBb1.out.below hb9
         have hBN2 := HBN1.out.below hb9
         have hCB : w.heap.size ≤ X1.heap.size := HBW1.out.size
         have HX2f := Lib.hid (And.intro hOW (And.intro hCI (And.intro hV2 (And.intro hBb2 (And.intro hBN2 (And.intro (HBW1.out.trans (hb9.mono HBW1.out.size)) (And.intro hCn hCB)))))))
         clear hOW hCI hV2 hBb2 hBN2 hCB
         clear HC2 HCA hb9 hb7 hCi ho5 hbc hbA hbz hCn
         generalize hC : X1.heap.size = C at *
         generalize hX2 : w2.setRow C #[.int .i64 0, .int .i64 0, .int .i64 0, .int .i64 0, .int .i64 0, .int .i64 L.cm.cl, .int .i64 L.cm.sq, .int .i64 L.cm.op, .string L.cm.pa, .string L.cm.va, .int .i64 L.cm.ver, .int .i64 L.cm.a, .int .i64 L.cm.b, .int .i64 L.at'.1, .slice a5 M k5] = X2 at *
         clear hX2 hC)
    obtain ⟨hOW, hCI, hV2, hBb2, hBN2, hb9, hCn, hCB⟩ := HX2f.out
    have HCB := Lib.hid hCB
    have HCI := Lib.hid hCI
    have HV2 := Lib.hid hV2
    have HBb2 := Lib.hid hBb2
    have HBN2 := Lib.hid hBN2
    have HCN := Lib.hid hCn
    have HOW := Lib.hid hOW
    have HBW := Lib.hid hb9
    clear hOW hCI hV2 hBb2 hBN2 hb9 hCn hCB HX2f HV1 HBb1 HBN1 HBW1 HZ1 HZ1b HN1 HN0
    have HCIx := HCI
    have HBbx := HBb2
    have HBNx := HBN2
    have HOWx := HOW
    have HBWx := HBW
    clear HCI HBb2 HBN2 HOW HBW
    have k11 := HV2.out.cell 11
    simp only [ldE, List.getElem?_cons_zero, List.getElem?_cons_succ] at k11
    rw [HPE.out] at k11
    have hg2 := HV2.out.bk.lt
    go_wp2_with fail
    clear k11 hg2 HV2
    have HCd : Hid (Bk X2.drew C 38 [.int .i64 0, .int .i64 0, .int .i64 0, .int .i64 0, .int .i64 0, .int .i64 L.cm.cl, .int .i64 L.cm.sq, .int .i64 L.cm.op, .string L.cm.pa, .string L.cm.va, .int .i64 L.cm.ver, .int .i64 L.cm.a, .int .i64 L.cm.b, .int .i64 L.at'.1, .slice a5 M k5]) := Lib.hid (HCIx.out.below (Below.refl X2.heap.size X2).drew)
    have HBd : Hid (Bk X2.drew (w.heap.size + 1) 44 [.int .i64 0, .int .i64 L.node, .int .i64 0, .int .i64 L.id.1, .int .i64 L.id.2.1, .int .i64 L.id.2.2, .int .i64 L.bal.1, .int .i64 L.bal.2, .int .i64 0, .int .i64 0, .int .i64 0, .int .i64 0, .int .i64 0, .int .i64 0, .int .i64 0, .int .i64 0, .string ⟨#[]⟩, .string ⟨#[]⟩, .int .i64 0, .int .i64 0, .int .i64 0, .int .i64 0, .slice none 0 0, .int .i64 0, .slice none 0 0, .slice none 0 0, .slice none 0 0]) := Lib.hid (HBbx.out.below (Below.refl X2.heap.size X2).drew)
    have HBNd : Hid (Bk X2.drew w.heap.size 44 [.int .i64 0, .int .i64 0, .int .i64 0, .int .i64 0, .int .i64 0, .int .i64 0, .int .i64 0, .int .i64 0, .int .i64 0, .int .i64 0, .int .i64 0, .int .i64 0, .int .i64 0, .int .i64 0, .int .i64 0, .int .i64 0, .string ⟨#[]⟩, .string ⟨#[]⟩, .int .i64 0, .int .i64 0, .int .i64 0, .int .i64 0, .slice none 0 0, .int .i64 0, .slice none 0 0, .slice none 0 0, .slice none 0 0]) := Lib.hid (HBNx.out.below (Below.refl X2.heap.size X2).drew)
    have HOWd := Lib.hid (HOWx.out.below (Below.refl X2.heap.size X2).drew)
    have HBWd := Lib.hid (Below.drewB HBWx.out)
    have hs0 : Bs X2.drew (w.heap.size + 1) X2.drew := Bs.refl _ _
    clear HBNx HOWx HBWx HBbx HCIx
    have hlC := HCd.out.lt
    have hlb := HBd.out.lt
    have HC5 : Hid (∀ w' : World, Bs X2.drew (w.heap.size + 1) w' → w'.cell? ⟨C, 0, none⟩ = some (.int .i64 0) ∧ w'.cell? ⟨C, 1, none⟩ = some (.int .i64 0) ∧ w'.cell? ⟨C, 2, none⟩ = some (.int .i64 0) ∧ w'.cell? ⟨C, 3, none⟩ = some (.int .i64 0) ∧ w'.cell? ⟨C, 4, none⟩ = some (.int .i64 0) ∧ w'.cell? ⟨C, 5, none⟩ = some (.int .i64 L.cm.cl) ∧ w'.cell? ⟨C, 6, none⟩ = some (.int .i64 L.cm.sq) ∧ w'.cell? ⟨C, 7, none⟩ = some (.int .i64 L.cm.op) ∧ w'.cell? ⟨C, 8, none⟩ = some (.string L.cm.pa) ∧ w'.cell? ⟨C, 9, none⟩ = some (.string L.cm.va) ∧ w'.cell? ⟨C, 10, none⟩ = some (.int .i64 L.cm.ver) ∧ w'.cell? ⟨C, 11, none⟩ = some (.int .i64 L.cm.a) ∧ w'.cell? ⟨C, 12, none⟩ = some (.int .i64 L.cm.b) ∧ w'.cell? ⟨C, 13, none⟩ = some (.int .i64 L.at'.1) ∧ w'.cell? ⟨C, 14, none⟩ = some (.slice a5 M k5)) := Lib.hid fun w' hb => by
      have q : Bk w' C 38 [.int .i64 0, .int .i64 0, .int .i64 0, .int .i64 0, .int .i64 0, .int .i64 L.cm.cl, .int .i64 L.cm.sq, .int .i64 L.cm.op, .string L.cm.pa, .string L.cm.va, .int .i64 L.cm.ver, .int .i64 L.cm.a, .int .i64 L.cm.b, .int .i64 L.at'.1, .slice a5 M k5] := (hb.block _ hlC HCN.out.1).trans HCd.out
      exact ⟨q.cell 0, q.cell 1, q.cell 2, q.cell 3, q.cell 4, q.cell 5, q.cell 6, q.cell 7, q.cell 8, q.cell 9, q.cell 10, q.cell 11, q.cell 12, q.cell 13, q.cell 14⟩
    have y0 := HBd.out.cell 0
    have y8 := HBd.out.cell 8
    have y9 := HBd.out.cell 9
    have y10 := HBd.out.cell 10
    have y11 := HBd.out.cell 11
    have y12 := HBd.out.cell 12
    have y13 := HBd.out.cell 13
    have y14 := HBd.out.cell 14
    have y15 := HBd.out.cell 15
    have y16 := HBd.out.cell 16
    have y17 := HBd.out.cell 17
    have y18 := HBd.out.cell 18
    have y19 := HBd.out.cell 19
    have y20 := HBd.out.cell 20
    have y21 := HBd.out.cell 21
    have y22 := HBd.out.cell 22
    simp only [List.getElem?_cons_zero, List.getElem?_cons_succ] at y0 y8 y9 y10 y11 y12 y13 y14 y15 y16 y17 y18 y19 y20 y21 y22
    have fy : ∀ o, X2.drew.frozen? ⟨w.heap.size + 1, o, none⟩ = false := fun o => HBd.out.fz o
    refine wp_region_held_drew (S := (fun w' => w'.cell? ⟨C, 0, none⟩ = some (.int .i64 0) ∧ w'.cell? ⟨C, 1, none⟩ = some (.int .i64 0) ∧ w'.cell? ⟨C, 2, none⟩ = some (.int .i64 0) ∧ w'.cell? ⟨C, 3, none⟩ = some (.int .i64 0) ∧ w'.cell? ⟨C, 4, none⟩ = some (.int .i64 0) ∧ w'.cell? ⟨C, 5, none⟩ = some (.int .i64 L.cm.cl) ∧ w'.cell? ⟨C, 6, none⟩ = some (.int .i64 L.cm.sq) ∧ w'.cell? ⟨C, 7, none⟩ = some (.int .i64 L.cm.op) ∧ w'.cell? ⟨C, 8, none⟩ = some (.string L.cm.pa) ∧ w'.cell? ⟨C, 9, none⟩ = some (.string L.cm.va) ∧ w'.cell? ⟨C, 10, none⟩ = some (.int .i64 L.cm.ver) ∧ w'.cell? ⟨C, 11, none⟩ = some (.int .i64 L.cm.a) ∧ w'.cell? ⟨C, 12, none⟩ = some (.int .i64 L.cm.b) ∧ w'.cell? ⟨C, 13, none⟩ = some (.int .i64 L.at'.1) ∧ w'.cell? ⟨C, 14, none⟩ = some (.slice a5 M k5))) (by kernel_rfl) ?_ (fun hHeld => ?_)
    · ((first
      | (refine HC5.out _ ?_; (repeat' (first | with_reducible refine Bs.set ?_ _ _ | with_reducible exact hs0)); done)
      | exact HC5.out _ hs0
      | exact HC5.out _ (Bs.refl _ _)
      | fail))
    generalize hYX2 : X2.drew = YX2 at *; clear hYX2
    refine wpAnyH_take (i := 0) (v := ?_) rfl (by kernel_rfl) (by kernel_rfl) (by kernel_rfl) (fun _ _ _ h => h) (Or.inl ⟨by rfl, ?_⟩) (by assumption) ?_
    rotate_left
    · (intro w hSw; (try dsimp only at hSw); go_simp; try rfl)
    try simp only [Act.put, List.setIfInBounds_toArray, List.set_cons_zero, List.set_cons_succ, List.getElem_toArray, List.getElem_cons_zero, List.getElem_cons_succ]
    refine wpAnyH_take (i := 1) (v := ?_) rfl (by kernel_rfl) (by kernel_rfl) (by kernel_rfl) (fun _ _ _ h => h) (Or.inl ⟨by rfl, ?_⟩) (by assumption) ?_
    rotate_left
    · (intro w hSw; (try dsimp only at hSw); go_simp; try rfl)
    try simp only [Act.put, List.setIfInBounds_toArray, List.set_cons_zero, List.set_cons_succ, List.getElem_toArray, List.getElem_cons_zero, List.getElem_cons_succ]
    refine wpAnyH_ready (rs := [2]) (by kernel_rfl) (by simp) ?_
    refine (AllReadyH.cons rfl (fun K hK => ?_) AllReadyH.nil)
    go_simp
    refine hK.out _ _ ?_ (fun hHeld => ?_)
    · ((first
      | (refine HC5.out _ ?_; (repeat' (first | with_reducible refine Bs.set ?_ _ _ | with_reducible exact hs0)); done)
      | exact HC5.out _ hs0
      | exact HC5.out _ (Bs.refl _ _)
      | fail))
    clear hK K
    try simp only [Act.put, List.setIfInBounds_toArray, List.set_cons_zero, List.set_cons_succ, List.getElem_toArray, List.getElem_cons_zero, List.getElem_cons_succ]
    refine wpAnyH_take (i := 3) (v := ?_) rfl (by kernel_rfl) (by kernel_rfl) (by kernel_rfl) (fun _ _ _ h => h) (Or.inl ⟨by rfl, ?_⟩) (by assumption) ?_
    rotate_left
    · (intro w hSw; (try dsimp only at hSw); go_simp; try rfl)
    try simp only [Act.put, List.setIfInBounds_toArray, List.set_cons_zero, List.set_cons_succ, List.getElem_toArray, List.getElem_cons_zero, List.getElem_cons_succ]
    refine wpAnyH_ready (rs := [4]) (by kernel_rfl) (by simp) ?_
    refine (AllReadyH.cons rfl (fun K hK => ?_) AllReadyH.nil)
    go_simp
    refine hK.out _ _ ?_ (fun hHeld => ?_)
    · ((first
      | (refine HC5.out _ ?_; (repeat' (first | with_reducible refine Bs.set ?_ _ _ | with_reducible exact hs0)); done)
      | exact HC5.out _ hs0
      | exact HC5.out _ (Bs.refl _ _)
      | fail))
    clear hK K
    try simp only [Act.put, List.setIfInBounds_toArray, List.set_cons_zero, List.set_cons_succ, List.getElem_toArray, List.getElem_cons_zero, List.getElem_cons_succ]
    refine wpAnyH_done (by kernel_rfl) ?_ _
    have hon : OnlyG YX2 ((((((((((((((((YX2.setCell ⟨w.heap.size + 1, 0, none⟩ (.int .i64 2)).setCell ⟨w.heap.size + 1, 8, none⟩ (.int .i64 0)).setCell ⟨w.heap.size + 1, 9, none⟩ (.int .i64 0)).setCell ⟨w.heap.size + 1, 10, none⟩ (.int .i64 0)).setCell ⟨w.heap.size + 1, 11, none⟩ (.int .i64 0)).setCell ⟨w.heap.size + 1, 12, none⟩ (.int .i64 0)).setCell ⟨w.heap.size + 1, 13, none⟩ (.int .i64 L.cm.cl)).setCell ⟨w.heap.size + 1, 14, none⟩ (.int .i64 L.cm.sq)).setCell ⟨w.heap.size + 1, 15, none⟩ (.int .i64 L.cm.op)).setCell ⟨w.heap.size + 1, 16, none⟩ (.string L.cm.pa)).setCell ⟨w.heap.size + 1, 17, none⟩ (.string L.cm.va)).setCell ⟨w.heap.size + 1, 18, none⟩ (.int .i64 L.cm.ver)).setCell ⟨w.heap.size + 1, 19, none⟩ (.int .i64 L.cm.a)).setCell ⟨w.heap.size + 1, 20, none⟩ (.int .i64 L.cm.b)).setCell ⟨w.heap.size + 1, 21, none⟩ (.int .i64 L.at'.1)).setCell ⟨w.heap.size + 1, 22, none⟩ (.slice a5 M k5)) (w.heap.size + 1) := (((((((((((((((((OnlyG.refl _ _).set 0 (.int .i64 2)).set 8 (.int .i64 0)).set 9 (.int .i64 0)).set 10 (.int .i64 0)).set 11 (.int .i64 0)).set 12 (.int .i64 0)).set 13 (.int .i64 L.cm.cl)).set 14 (.int .i64 L.cm.sq)).set 15 (.int .i64 L.cm.op)).set 16 (.string L.cm.pa)).set 17 (.string L.cm.va)).set 18 (.int .i64 L.cm.ver)).set 19 (.int .i64 L.cm.a)).set 20 (.int .i64 L.cm.b)).set 21 (.int .i64 L.at'.1)).set 22 (.slice a5 M k5))
    have HBb3 : Hid (Bk ((((((((((((((((YX2.setCell ⟨w.heap.size + 1, 0, none⟩ (.int .i64 2)).setCell ⟨w.heap.size + 1, 8, none⟩ (.int .i64 0)).setCell ⟨w.heap.size + 1, 9, none⟩ (.int .i64 0)).setCell ⟨w.heap.size + 1, 10, none⟩ (.int .i64 0)).setCell ⟨w.heap.size + 1, 11, none⟩ (.int .i64 0)).setCell ⟨w.heap.size + 1, 12, none⟩ (.int .i64 0)).setCell ⟨w.heap.size + 1, 13, none⟩ (.int .i64 L.cm.cl)).setCell ⟨w.heap.size + 1, 14, none⟩ (.int .i64 L.cm.sq)).setCell ⟨w.heap.size + 1, 15, none⟩ (.int .i64 L.cm.op)).setCell ⟨w.heap.size + 1, 16, none⟩ (.string L.cm.pa)).setCell ⟨w.heap.size + 1, 17, none⟩ (.string L.cm.va)).setCell ⟨w.heap.size + 1, 18, none⟩ (.int .i64 L.cm.ver)).setCell ⟨w.heap.size + 1, 19, none⟩ (.int .i64 L.cm.a)).setCell ⟨w.heap.size + 1, 20, none⟩ (.int .i64 L.cm.b)).setCell ⟨w.heap.size + 1, 21, none⟩ (.int .i64 L.at'.1)).setCell ⟨w.heap.size + 1, 22, none⟩ (.slice a5 M k5)) (w.heap.size + 1) 44 [.int .i64 2, .int .i64 L.node, .int .i64 0, .int .i64 L.id.1, .int .i64 L.id.2.1, .int .i64 L.id.2.2, .int .i64 L.bal.1, .int .i64 L.bal.2, .int .i64 0, .int .i64 0, .int .i64 0, .int .i64 0, .int .i64 0, .int .i64 L.cm.cl, .int .i64 L.cm.sq, .int .i64 L.cm.op, .string L.cm.pa, .string L.cm.va, .int .i64 L.cm.ver, .int .i64 L.cm.a, .int .i64 L.cm.b, .int .i64 L.at'.1, .slice a5 M k5, .int .i64 0, .slice none 0 0, .slice none 0 0, .slice none 0 0]) := Lib.hid (Bk.set (Bk.set (Bk.set (Bk.set (Bk.set (Bk.set (Bk.set (Bk.set (Bk.set (Bk.set (Bk.set (Bk.set (Bk.set (Bk.set (Bk.set (Bk.set HBd.out 0 (.int .i64 2)) 8 (.int .i64 0)) 9 (.int .i64 0)) 10 (.int .i64 0)) 11 (.int .i64 0)) 12 (.int .i64 0)) 13 (.int .i64 L.cm.cl)) 14 (.int .i64 L.cm.sq)) 15 (.int .i64 L.cm.op)) 16 (.string L.cm.pa)) 17 (.string L.cm.va)) 18 (.int .i64 L.cm.ver)) 19 (.int .i64 L.cm.a)) 20 (.int .i64 L.cm.b)) 21 (.int .i64 L.at'.1)) 22 (.slice a5 M k5))
    have HBN3 : Hid (Bk ((((((((((((((((YX2.setCell ⟨w.heap.size + 1, 0, none⟩ (.int .i64 2)).setCell ⟨w.heap.size + 1, 8, none⟩ (.int .i64 0)).setCell ⟨w.heap.size + 1, 9, none⟩ (.int .i64 0)).setCell ⟨w.heap.size + 1, 10, none⟩ (.int .i64 0)).setCell ⟨w.heap.size + 1, 11, none⟩ (.int .i64 0)).setCell ⟨w.heap.size + 1, 12, none⟩ (.int .i64 0)).setCell ⟨w.heap.size + 1, 13, none⟩ (.int .i64 L.cm.cl)).setCell ⟨w.heap.size + 1, 14, none⟩ (.int .i64 L.cm.sq)).setCell ⟨w.heap.size + 1, 15, none⟩ (.int .i64 L.cm.op)).setCell ⟨w.heap.size + 1, 16, none⟩ (.string L.cm.pa)).setCell ⟨w.heap.size + 1, 17, none⟩ (.string L.cm.va)).setCell ⟨w.heap.size + 1, 18, none⟩ (.int .i64 L.cm.ver)).setCell ⟨w.heap.size + 1, 19, none⟩ (.int .i64 L.cm.a)).setCell ⟨w.heap.size + 1, 20, none⟩ (.int .i64 L.cm.b)).setCell ⟨w.heap.size + 1, 21, none⟩ (.int .i64 L.at'.1)).setCell ⟨w.heap.size + 1, 22, none⟩ (.slice a5 M k5)) w.heap.size 44 [.int .i64 0, .int .i64 0, .int .i64 0, .int .i64 0, .int .i64 0, .int .i64 0, .int .i64 0, .int .i64 0, .int .i64 0, .int .i64 0, .int .i64 0, .int .i64 0, .int .i64 0, .int .i64 0, .int .i64 0, .int .i64 0, .string ⟨#[]⟩, .string ⟨#[]⟩, .int .i64 0, .int .i64 0, .int .i64 0, .int .i64 0, .slice none 0 0, .int .i64 0, .slice none 0 0, .slice none 0 0, .slice none 0 0]) := Lib.hid ((hon.block _ (by omega)).trans HBNd.out)
    have HOW3 : Hid (IK.Own ((((((((((((((((YX2.setCell ⟨w.heap.size + 1, 0, none⟩ (.int .i64 2)).setCell ⟨w.heap.size + 1, 8, none⟩ (.int .i64 0)).setCell ⟨w.heap.size + 1, 9, none⟩ (.int .i64 0)).setCell ⟨w.heap.size + 1, 10, none⟩ (.int .i64 0)).setCell ⟨w.heap.size + 1, 11, none⟩ (.int .i64 0)).setCell ⟨w.heap.size + 1, 12, none⟩ (.int .i64 0)).setCell ⟨w.heap.size + 1, 13, none⟩ (.int .i64 L.cm.cl)).setCell ⟨w.heap.size + 1, 14, none⟩ (.int .i64 L.cm.sq)).setCell ⟨w.heap.size + 1, 15, none⟩ (.int .i64 L.cm.op)).setCell ⟨w.heap.size + 1, 16, none⟩ (.string L.cm.pa)).setCell ⟨w.heap.size + 1, 17, none⟩ (.string L.cm.va)).setCell ⟨w.heap.size + 1, 18, none⟩ (.int .i64 L.cm.ver)).setCell ⟨w.heap.size + 1, 19, none⟩ (.int .i64 L.cm.a)).setCell ⟨w.heap.size + 1, 20, none⟩ (.int .i64 L.cm.b)).setCell ⟨w.heap.size + 1, 21, none⟩ (.int .i64 L.at'.1)).setCell ⟨w.heap.size + 1, 22, none⟩ (.slice a5 M k5)) w.heap.size (.slice a5 M k5) L.at'.2) := Lib.hid (HOWd.out.keepB fun k hk => hon.block k (fun e => HasT.ne ⟨_, _, HBd.out⟩ (HOWd.out.blk k hk).2 (by decide) e.symm))
    have HBW3 : Hid (Below w.heap.size w ((((((((((((((((YX2.setCell ⟨w.heap.size + 1, 0, none⟩ (.int .i64 2)).setCell ⟨w.heap.size + 1, 8, none⟩ (.int .i64 0)).setCell ⟨w.heap.size + 1, 9, none⟩ (.int .i64 0)).setCell ⟨w.heap.size + 1, 10, none⟩ (.int .i64 0)).setCell ⟨w.heap.size + 1, 11, none⟩ (.int .i64 0)).setCell ⟨w.heap.size + 1, 12, none⟩ (.int .i64 0)).setCell ⟨w.heap.size + 1, 13, none⟩ (.int .i64 L.cm.cl)).setCell ⟨w.heap.size + 1, 14, none⟩ (.int .i64 L.cm.sq)).setCell ⟨w.heap.size + 1, 15, none⟩ (.int .i64 L.cm.op)).setCell ⟨w.heap.size + 1, 16, none⟩ (.string L.cm.pa)).setCell ⟨w.heap.size + 1, 17, none⟩ (.string L.cm.va)).setCell ⟨w.heap.size + 1, 18, none⟩ (.int .i64 L.cm.ver)).setCell ⟨w.heap.size + 1, 19, none⟩ (.int .i64 L.cm.a)).setCell ⟨w.heap.size + 1, 20, none⟩ (.int .i64 L.cm.b)).setCell ⟨w.heap.size + 1, 21, none⟩ (.int .i64 L.at'.1)).setCell ⟨w.heap.size + 1, 22, none⟩ (.slice a5 M k5))) := Lib.hid (HBWd.out.trans (hon.below.mono (by omega)))
    clear HC5 hs0 hon y0 y8 y9 y10 y11 y12 y13 y14 y15 y16 y17 y18 y19 y20 y21 y22 fy hlC hlb
    generalize hX3 : ((((((((((((((((YX2.setCell ⟨w.heap.size + 1, 0, none⟩ (.int .i64 2)).setCell ⟨w.heap.size + 1, 8, none⟩ (.int .i64 0)).setCell ⟨w.heap.size + 1, 9, none⟩ (.int .i64 0)).setCell ⟨w.heap.size + 1, 10, none⟩ (.int .i64 0)).setCell ⟨w.heap.size + 1, 11, none⟩ (.int .i64 0)).setCell ⟨w.heap.size + 1, 12, none⟩ (.int .i64 0)).setCell ⟨w.heap.size + 1, 13, none⟩ (.int .i64 L.cm.cl)).setCell ⟨w.heap.size + 1, 14, none⟩ (.int .i64 L.cm.sq)).setCell ⟨w.heap.size + 1, 15, none⟩ (.int .i64 L.cm.op)).setCell ⟨w.heap.size + 1, 16, none⟩ (.string L.cm.pa)).setCell ⟨w.heap.size + 1, 17, none⟩ (.string L.cm.va)).setCell ⟨w.heap.size + 1, 18, none⟩ (.int .i64 L.cm.ver)).setCell ⟨w.heap.size + 1, 19, none⟩ (.int .i64 L.cm.a)).setCell ⟨w.heap.size + 1, 20, none⟩ (.int .i64 L.cm.b)).setCell ⟨w.heap.size + 1, 21, none⟩ (.int .i64 L.at'.1)).setCell ⟨w.heap.size + 1, 22, none⟩ (.slice a5 M k5)) = X3 at *
    clear hX3 HBd HCd HBNd HOWd HBWd
    have hone : Hid ((#[.int .i64 2, .int .i64 L.node, .int .i64 0, .int .i64 L.id.1, .int .i64 L.id.2.1, .int .i64 L.id.2.2, .int .i64 L.bal.1, .int .i64 L.bal.2, .int .i64 0, .int .i64 0, .int .i64 0, .int .i64 0, .int .i64 0, .int .i64 L.cm.cl, .int .i64 L.cm.sq, .int .i64 L.cm.op, .string L.cm.pa, .string L.cm.va, .int .i64 L.cm.ver, .int .i64 L.cm.a, .int .i64 L.cm.b, .int .i64 L.at'.1, .slice a5 M k5, .int .i64 0, .slice none 0 0, .slice none 0 0, .slice none 0 0] : Array Value).all (·.oneCell') = true) := Lib.hid (all_toL (by rfl))
    have HLv : Hid ((loadVar 44 ⟨w.heap.size, 0, none⟩).run Try.prog (X3.setRow w.heap.size #[.int .i64 2, .int .i64 L.node, .int .i64 0, .int .i64 L.id.1, .int .i64 L.id.2.1, .int .i64 L.id.2.2, .int .i64 L.bal.1, .int .i64 L.bal.2, .int .i64 0, .int .i64 0, .int .i64 0, .int .i64 0, .int .i64 0, .int .i64 L.cm.cl, .int .i64 L.cm.sq, .int .i64 L.cm.op, .string L.cm.pa, .string L.cm.va, .int .i64 L.cm.ver, .int .i64 L.cm.a, .int .i64 L.cm.b, .int .i64 L.at'.1, .slice a5 M k5, .int .i64 0, .slice none 0 0, .slice none 0 0, .slice none 0 0]) = .ok (.agg #[.int .i64 2, .int .i64 L.node, .int .i64 0, .int .i64 L.id.1, .int .i64 L.id.2.1, .int .i64 L.id.2.2, .int .i64 L.bal.1, .int .i64 L.bal.2, .int .i64 0, .int .i64 0, .int .i64 0, .int .i64 0, .int .i64 0, .int .i64 L.cm.cl, .int .i64 L.cm.sq, .int .i64 L.cm.op, .string L.cm.pa, .string L.cm.va, .int .i64 L.cm.ver, .int .i64 L.cm.a, .int .i64 L.cm.b, .int .i64 L.at'.1, .slice a5 M k5, .int .i64 0, .slice none 0 0, .slice none 0 0, .slice none 0 0]) (X3.setRow w.heap.size #[.int .i64 2, .int .i64 L.node, .int .i64 0, .int .i64 L.id.1, .int .i64 L.id.2.1, .int .i64 L.id.2.2, .int .i64 L.bal.1, .int .i64 L.bal.2, .int .i64 0, .int .i64 0, .int .i64 0, .int .i64 0, .int .i64 0, .int .i64 L.cm.cl, .int .i64 L.cm.sq, .int .i64 L.cm.op, .string L.cm.pa, .string L.cm.va, .int .i64 L.cm.ver, .int .i64 L.cm.a, .int .i64 L.cm.b, .int .i64 L.at'.1, .slice a5 M k5, .int .i64 0, .slice none 0 0, .slice none 0 0, .slice none 0 0])) := Lib.hid (run_loadVar_row _ _ _ _ _ (0, 0) _ (heap_setRow_same _ _ _ _ _ HBN3.out) Try.underlying44 rfl infoMs)
    have HBf := Lib.hid (below_setRow HBW3.out (Nat.le_refl _) #[.int .i64 2, .int .i64 L.node, .int .i64 0, .int .i64 L.id.1, .int .i64 L.id.2.1, .int .i64 L.id.2.2, .int .i64 L.bal.1, .int .i64 L.bal.2, .int .i64 0, .int .i64 0, .int .i64 0, .int .i64 0, .int .i64 0, .int .i64 L.cm.cl, .int .i64 L.cm.sq, .int .i64 L.cm.op, .string L.cm.pa, .string L.cm.va, .int .i64 L.cm.ver, .int .i64 L.cm.a, .int .i64 L.cm.b, .int .i64 L.at'.1, .slice a5 M k5, .int .i64 0, .slice none 0 0, .slice none 0 0, .slice none 0 0])
    go_wp2_with (first
      | refine wpList_load_rowG rfl _ _ rfl (w.heap.size + 1) rfl 44 _ (0, 0) _ HBb3.out Try.underlying44 rfl infoMs ?_
      | refine wpList_store_row rfl 44 _ _ rfl w.heap.size rfl #[.int .i64 2, .int .i64 L.node, .int .i64 0, .int .i64 L.id.1, .int .i64 L.id.2.1, .int .i64 L.id.2.2, .int .i64 L.bal.1, .int .i64 L.bal.2, .int .i64 0, .int .i64 0, .int .i64 0, .int .i64 0, .int .i64 0, .int .i64 L.cm.cl, .int .i64 L.cm.sq, .int .i64 L.cm.op, .string L.cm.pa, .string L.cm.va, .int .i64 L.cm.ver, .int .i64 L.cm.a, .int .i64 L.cm.b, .int .i64 L.at'.1, .slice a5 M k5, .int .i64 0, .slice none 0 0, .slice none 0 0, .slice none 0 0] rfl _ 44 HBN3.out infoMs rfl hone.out ?_
      | fail)
    have hlv := HLv.out
    refine bodyPost_ret (v := .agg #[.int .i64 2, .int .i64 L.node, .int .i64 0, .int .i64 L.id.1, .int .i64 L.id.2.1, .int .i64 L.id.2.2, .int .i64 L.bal.1, .int .i64 L.bal.2, .int .i64 0, .int .i64 0, .int .i64 0, .int .i64 0, .int .i64 0, .int .i64 L.cm.cl, .int .i64 L.cm.sq, .int .i64 L.cm.op, .string L.cm.pa, .string L.cm.va, .int .i64 L.cm.ver, .int .i64 L.cm.a, .int .i64 L.cm.b, .int .i64 L.at'.1, .slice a5 M k5, .int .i64 0, .slice none 0 0, .slice none 0 0, .slice none 0 0]) (by simp [results, Try.results19, asAddr, Act.put, hlv]) rfl ⟨.slice a5 M k5, ?_, ?_, HBf.out⟩
    · show _ = _
      unfold askL
      rw [HPE.out]
      rfl
    · have q := HOW3.out
      unfold askL
      rw [HPE.out]
      refine q.keepB fun k hk => ?_
      have := q.blk k hk
      simp only [World.setRow]
      rw [Array.getElem?_modify, if_neg (fun e => HasT.ne ⟨_, _, HBN3.out⟩ this.2 (by decide) e)]
end Go.Proofs.Ytplplehfkfjhnaa
