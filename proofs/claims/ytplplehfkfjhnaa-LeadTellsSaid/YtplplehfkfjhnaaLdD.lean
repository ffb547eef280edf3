/-
  Leads: the phase, the ballot; whether it is over, whether enough are heard; another phase.
-/
import Derived.Test.YtplplehfkfjhnaaLdC
namespace Go.Proofs.Ytplplehfkfjhnaa
open Go.RowKit
open Bb (quoN thN allB)
set_option linter.unusedSimpArgs false
set_option linter.unusedVariables false
set_option maxRecDepth 100000

theorem LdV.cell {w : World} {B Bw g : Nat} {L : LSt} {vn vd vw vh : Value} (h : LdV w B Bw g L vn vd vw vh) (j : Nat) : w.cell? ⟨g, j, none⟩ = (ldE L vn vd vw vh)[j]? := h.bk.cell j
theorem phase_any {w : World} {B g : Nat} {L : LSt} (h : LdAt w B g L) : Calls Try.prog 12 #[gP g] w fun e w' => e = .returned (.int .i64 L.ph) ∧ w = w' := by
  obtain ⟨Bw, vn, vd, vw, vh, h⟩ := h
  have c := h.cell 11
  have hlt := h.bk.lt
  simp only [ldE, List.getElem?_cons_zero, List.getElem?_cons_succ] at c
  clear h
  go_enter Try.func12, Try.ntmps12
  go_wp2
  go_ret
  exact ⟨rfl, rfl⟩
/-- The ballot that is told. -/
def balL (L : LSt) : Bal := if L.ph = 4 then L.by' else L.bal
def BalP (b : Bal) (w : World) (e : Ending) (w' : World) : Prop := e = .returned (.agg #[.int .i64 b.1, .int .i64 b.2]) ∧ Below w.heap.size w w'
theorem ballot_any {w : World} {B g : Nat} {L : LSt} (h : LdAt w B g L) : Calls Try.prog 25 #[gP g] w (BalP (balL L) w) := by
  obtain ⟨Bw, vn, vd, vw, vh, h⟩ := h
  have c := h.cell 11
  have c6 := h.cell 6
  have c7 := h.cell 7
  have c8 := h.cell 8
  have c9 := h.cell 9
  have hlt := h.bk.lt
  simp only [ldE, List.getElem?_cons_zero, List.getElem?_cons_succ] at c c6 c7 c8 c9
  clear h
  unfold balL
  by_cases q : L.ph = 4
  · have q1 : (L.ph == 4) = true := by simpa using q
    rw [if_pos q]
    go_enter Try.func25, Try.ntmps25
    go_wp2
    exact bodyPost_ret (v := .agg #[.int .i64 L.by'.1, .int .i64 L.by'.2]) (by simp [results, Try.results25, go_sem]) rfl ⟨rfl, (Below.refl _ _).alloc (Nat.le_refl _) _⟩
  · have q1 : (L.ph == 4) = false := by simpa using q
    rw [if_neg q]
    go_enter Try.func25, Try.ntmps25
    go_wp2
    exact bodyPost_ret (v := .agg #[.int .i64 L.bal.1, .int .i64 L.bal.2]) (by simp [results, Try.results25, go_sem]) rfl ⟨rfl, (Below.refl _ _).alloc (Nat.le_refl _) _⟩
/-- Is nothing heard any more? -/
def overL (L : LSt) : Bool := L.ph == 3 || L.ph == 4
theorem lover_any {w : World} {B g : Nat} {L : LSt} (h : LdAt w B g L) : Calls Try.prog 29 #[gP g] w fun e w' => e = .returned (.bool (overL L)) ∧ w = w' := by
  obtain ⟨Bw, vn, vd, vw, vh, h⟩ := h
  have c := h.cell 11
  have hlt := h.bk.lt
  simp only [ldE, List.getElem?_cons_zero, List.getElem?_cons_succ] at c
  clear h
  unfold overL
  cases q1 : (L.ph == 3)
  · cases q2 : (L.ph == 4)
    · go_enter Try.func29, Try.ntmps29
      go_wp2
      go_ret
      exact ⟨rfl, rfl⟩
    · go_enter Try.func29, Try.ntmps29
      go_wp2
      go_ret
      exact ⟨rfl, rfl⟩
  · go_enter Try.func29, Try.ntmps29
    go_wp2
    go_ret
    exact ⟨rfl, rfl⟩
/-- Are more than half heard? -/
def enoL (L : LSt) : Bool := decide (quoN L.ns.length ≤ thN L.who L.ns)
set_option maxHeartbeats 4000000 in
theorem leno_any {w : World} {B g : Nat} {L : LSt} (h : LdAt w B g L) (ho : LOk L) : Calls Try.prog 35 #[gP g] w fun e w' => e = .returned (.bool (enoL L)) ∧ Below w.heap.size w w' := by
  obtain ⟨Bw, vn, vd, vw, vh, h⟩ := h
  obtain ⟨a, c, e1, r1⟩ := h.irow ho
  obtain ⟨a2, c2, e2, r2⟩ := h.wrow ho
  subst e1 e2
  have HC : Hid (∀ w' : World, Below w.heap.size w w' → w'.cell? ⟨g, 0, none⟩ = some (.int .i64 L.ep) ∧ w'.cell? ⟨g, 1, none⟩ = some (.slice a L.ns.length c) ∧ w'.cell? ⟨g, 22, none⟩ = some (.slice a2 L.who.length c2) ∧ Below w.heap.size w w') := Lib.hid fun w' hb => by
    have h' := h.below hb
    exact ⟨h'.cell 0, h'.cell 1, h'.cell 22, hb⟩
  have HE : Hid (∀ W, Below w.heap.size w W → Calls Try.prog 52 #[.agg #[.int .i64 L.ep, .slice a L.ns.length c], .slice a2 L.who.length c2] W fun e w' => e = .returned (.bool (enoL L)) ∧ Below W.heap.size W w') := Lib.hid fun W hb => Bb.enough_any L.ep a a2 c c2 L.ns L.who W (r1.below hb) (r2.below hb)
  have hlt := h.bk.lt
  clear h r1 r2
  go_enter Try.func35, Try.ntmps35
  go_wp2_with fail
  refine wp_region_held_drew (S := (fun w' => w'.cell? ⟨g, 0, none⟩ = some (.int .i64 L.ep) ∧ w'.cell? ⟨g, 1, none⟩ = some (.slice a L.ns.length c) ∧ w'.cell? ⟨g, 22, none⟩ = some (.slice a2 L.who.length c2) ∧ Below w.heap.size w w')) (by kernel_rfl) ?_ (fun hHeld => ?_)
  · ((first
  | exact HC.out _ (Below.refl _ _)
  | exact HC.out _ (Below.refl _ _).drew
  | exact HC.out _ hw1
  | (go_split_ands; exact HC.out _ (by assumption))
  | fail))
  refine wpAnyH_take (i := 0) (v := ?_) rfl (by kernel_rfl) (by kernel_rfl) (by kernel_rfl) (fun _ _ _ h => h) (Or.inl ⟨by rfl, ?_⟩) (by assumption) ?_
  rotate_left
  · (intro w hSw; (try dsimp only at hSw); go_simp; try rfl)
  try simp only [Act.put, List.setIfInBounds_toArray, List.set_cons_zero, List.set_cons_succ, List.getElem_toArray, List.getElem_cons_zero, List.getElem_cons_succ]
  refine wpAnyH_take (i := 1) (v := ?_) rfl (by kernel_rfl) (by kernel_rfl) (by kernel_rfl) (fun _ _ _ h => h) (Or.inl ⟨by rfl, ?_⟩) (by assumption) ?_
  rotate_left
  · (intro w hSw; (try dsimp only at hSw); go_simp; try rfl)
  try simp only [Act.put, List.setIfInBounds_toArray, List.set_cons_zero, List.set_cons_succ, List.getElem_toArray, List.getElem_cons_zero, List.getElem_cons_succ]
  refine wpAnyH_take (i := 2) (v := ?_) rfl (by kernel_rfl) (by kernel_rfl) (by kernel_rfl) (fun _ _ _ h => h) (Or.inl ⟨by rfl, ?_⟩) (by assumption) ?_
  rotate_left
  · (intro w hSw; (try dsimp only at hSw); go_simp; try rfl)
  try simp only [Act.put, List.setIfInBounds_toArray, List.set_cons_zero, List.set_cons_succ, List.getElem_toArray, List.getElem_cons_zero, List.getElem_cons_succ]
  refine wpAnyH_take (i := 3) (v := ?_) rfl (by kernel_rfl) (by kernel_rfl) (by kernel_rfl) (fun _ _ _ h => h) (Or.inl ⟨by rfl, ?_⟩) (by assumption) ?_
  rotate_left
  · (intro w hSw; (try dsimp only at hSw); go_simp; try rfl)
  try simp only [Act.put, List.setIfInBounds_toArray, List.set_cons_zero, List.set_cons_succ, List.getElem_toArray, List.getElem_cons_zero, List.getElem_cons_succ]
  refine wpAnyH_take (i := 4) (v := ?_) rfl (by kernel_rfl) (by kernel_rfl) (by kernel_rfl) (fun _ _ _ h => h) (Or.inl ⟨by rfl, ?_⟩) (by assumption) ?_
  rotate_left
  · (intro w hSw; (try dsimp only at hSw); go_simp; try rfl)
  try simp only [Act.put, List.setIfInBounds_toArray, List.set_cons_zero, List.set_cons_succ, List.getElem_toArray, List.getElem_cons_zero, List.getElem_cons_succ]
  refine wpAnyH_take (i := 5) (v := ?_) rfl (by kernel_rfl) (by kernel_rfl) (by kernel_rfl) (fun _ _ _ h => h) (Or.inl ⟨by rfl, ?_⟩) (by assumption) ?_
  rotate_left
  · (intro w hSw; (try dsimp only at hSw); go_simp; try rfl)
  try simp only [Act.put, List.setIfInBounds_toArray, List.set_cons_zero, List.set_cons_succ, List.getElem_toArray, List.getElem_cons_zero, List.getElem_cons_succ]
  refine wpAnyH_take (i := 6) (v := ?_) rfl (by kernel_rfl) (by kernel_rfl) (by kernel_rfl) (fun _ _ _ h => h) (Or.inl ⟨by rfl, ?_⟩) (by assumption) ?_
  rotate_left
  · (intro w hSw; (try dsimp only at hSw); go_simp; try rfl)
  try simp only [Act.put, List.setIfInBounds_toArray, List.set_cons_zero, List.set_cons_succ, List.getElem_toArray, List.getElem_cons_zero, List.getElem_cons_succ]
  refine wpAnyH_take (i := 7) (v := ?_) rfl (by kernel_rfl) (by kernel_rfl) (by kernel_rfl) (fun _ _ _ h => h) (Or.inl ⟨by rfl, ?_⟩) (by assumption) ?_
  rotate_left
  · (intro w hSw; (try dsimp only at hSw); go_simp; try rfl)
  try simp only [Act.put, List.setIfInBounds_toArray, List.set_cons_zero, List.set_cons_succ, List.getElem_toArray, List.getElem_cons_zero, List.getElem_cons_succ]
  refine wpAnyH_ready (rs := [8]) (by kernel_rfl) (by simp) ?_
  refine (AllReadyH.cons rfl (fun K hK => ?_) AllReadyH.nil)
  go_simp
  (go_at_call 52; go_split_ands; refine (HE.out _ (by assumption)).mono ?_; rintro e w1 ⟨rfl, hb1⟩; have hw1 : Below w.heap.size w w1 := below_self (by assumption) hb1)
  refine hK.out _ _ ?_ (fun hHeld => ?_)
  · ((first
  | exact HC.out _ (Below.refl _ _)
  | exact HC.out _ (Below.refl _ _).drew
  | exact HC.out _ hw1
  | (go_split_ands; exact HC.out _ (by assumption))
  | fail))
  clear hK K
  try simp only [Act.put, List.setIfInBounds_toArray, List.set_cons_zero, List.set_cons_succ, List.getElem_toArray, List.getElem_cons_zero, List.getElem_cons_succ]
  refine wpAnyH_take (i := 9) (v := ?_) rfl (by kernel_rfl) (by kernel_rfl) (by kernel_rfl) (fun _ _ _ h => h) (Or.inl ⟨by rfl, ?_⟩) (by assumption) ?_
  rotate_left
  · (intro w hSw; (try dsimp only at hSw); go_simp; try rfl)
  try simp only [Act.put, List.setIfInBounds_toArray, List.set_cons_zero, List.set_cons_succ, List.getElem_toArray, List.getElem_cons_zero, List.getElem_cons_succ]
  refine wpAnyH_done (by kernel_rfl) ?_ _
  have HW1 := Lib.hid hw1
  clear hw1 hb1 HC HE
  go_wp2
  go_ret
  exact ⟨rfl, HW1.out⟩
end Go.Proofs.Ytplplehfkfjhnaa
