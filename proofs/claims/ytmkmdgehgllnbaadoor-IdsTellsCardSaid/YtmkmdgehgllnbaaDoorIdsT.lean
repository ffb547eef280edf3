/-
  The law IdsTells walked.
-/
import Derived.Test.YtmkmdgehgllnbaaDoorIdsN
import Derived.Test.YtmkmdgehgllnbaaDoorIdsF
namespace Go.Proofs.YtmkmdgehgllnbaaDoor
open Go.RowKit Go.Sort Go.Shelf Go.Lib
set_option linter.unusedSimpArgs false
set_option linter.unusedVariables false

theorem wf64_of {n : Int} (h : (Lit.int .i64 n).wf = true) : wf64 n := by
  simp [Lit.wf, IntKind.min, IntKind.max, IntKind.bits, IntKind.signed] at h
  unfold wf64
  omega
set_option maxRecDepth 100000 in
set_option maxHeartbeats 8000000 in
theorem tells_law (a1 a2 a3 b1 b2 b3 : Int) (v : Value) (l : List I3) (w : World) (hv : IK.Rd w v l) (ht : TB w) (wa1 : (Lit.int .i64 a1).wf = true) (wa2 : (Lit.int .i64 a2).wf = true) (wa3 : (Lit.int .i64 a3).wf = true) :
    Calls Tryd.prog 3 #[.agg #[.int .i64 a1, .int .i64 a2, .int .i64 a3], .agg #[.int .i64 b1, .int .i64 b2, .int .i64 b3], v] w fun e w' => e = .returned (.bool true) ∧ Below w.heap.size w w' := by
  have hB3 : Below w.heap.size w ((w.alloc (.cells #[.int .i64 a1, .int .i64 a2, .int .i64 a3] 23)).alloc (.cells #[.int .i64 b1, .int .i64 b2, .int .i64 b3] 23)) := ((Below.refl _ _).alloc (Nat.le_refl _) _).alloc (by simp) _
  have hz3 : ((w.alloc (.cells #[.int .i64 a1, .int .i64 a2, .int .i64 a3] 23)).alloc (.cells #[.int .i64 b1, .int .i64 b2, .int .i64 b3] 23)).heap.size = w.heap.size + 2 := by simp
  have d00 : ((w.alloc (.cells #[.int .i64 a1, .int .i64 a2, .int .i64 a3] 23)).alloc (.cells #[.int .i64 b1, .int .i64 b2, .int .i64 b3] 23)).cell? ⟨w.heap.size, 0, none⟩ = some (.int .i64 a1) := (two_cells w _ _ _ _).1 0
  have d01 : ((w.alloc (.cells #[.int .i64 a1, .int .i64 a2, .int .i64 a3] 23)).alloc (.cells #[.int .i64 b1, .int .i64 b2, .int .i64 b3] 23)).cell? ⟨w.heap.size, 1, none⟩ = some (.int .i64 a2) := (two_cells w _ _ _ _).1 1
  have d02 : ((w.alloc (.cells #[.int .i64 a1, .int .i64 a2, .int .i64 a3] 23)).alloc (.cells #[.int .i64 b1, .int .i64 b2, .int .i64 b3] 23)).cell? ⟨w.heap.size, 2, none⟩ = some (.int .i64 a3) := (two_cells w _ _ _ _).1 2
  have d10 : ((w.alloc (.cells #[.int .i64 a1, .int .i64 a2, .int .i64 a3] 23)).alloc (.cells #[.int .i64 b1, .int .i64 b2, .int .i64 b3] 23)).cell? ⟨w.heap.size + 1, 0, none⟩ = some (.int .i64 b1) := (two_cells w _ _ _ _).2 0
  have d11 : ((w.alloc (.cells #[.int .i64 a1, .int .i64 a2, .int .i64 a3] 23)).alloc (.cells #[.int .i64 b1, .int .i64 b2, .int .i64 b3] 23)).cell? ⟨w.heap.size + 1, 1, none⟩ = some (.int .i64 b2) := (two_cells w _ _ _ _).2 1
  have d12 : ((w.alloc (.cells #[.int .i64 a1, .int .i64 a2, .int .i64 a3] 23)).alloc (.cells #[.int .i64 b1, .int .i64 b2, .int .i64 b3] 23)).cell? ⟨w.heap.size + 1, 2, none⟩ = some (.int .i64 b3) := (two_cells w _ _ _ _).2 2
  obtain ⟨p, c, e⟩ := hv.slice
  subst e
  obtain ⟨N, hN⟩ : ∃ N, l.length = N := ⟨_, rfl⟩
  rw [hN] at hv ⊢
  have qa1 := Lib.hid (wf64_of wa1)
  have qa2 := Lib.hid (wf64_of wa2)
  have qa3 := Lib.hid (wf64_of wa3)
  have HT := Lib.hid (ht.below hB3)
  have HV := Lib.hid (hv.below hB3)
  have HB3 := Lib.hid hB3
  clear ht hB3 wa1 wa2 wa3 hv
  go_enter Tryd.func3, Tryd.ntmps3
  go_wp2_with fail
  generalize ((w.alloc (.cells #[.int .i64 a1, .int .i64 a2, .int .i64 a3] 23)).alloc (.cells #[.int .i64 b1, .int .i64 b2, .int .i64 b3] 23)) = X3 at *
  have hl0 : w.heap.size < X3.heap.size := by omega
  have hl1 : w.heap.size + 1 < X3.heap.size := by omega
  clear hz3
  refine (works_any X3 HT.out).mono ?_
  rintro e X ⟨rfl, hb⟩
  replace d00 := (hb.cell (p := ⟨w.heap.size, 0, none⟩) (by dsimp only; omega)).trans d00
  replace d01 := (hb.cell (p := ⟨w.heap.size, 1, none⟩) (by dsimp only; omega)).trans d01
  replace d02 := (hb.cell (p := ⟨w.heap.size, 2, none⟩) (by dsimp only; omega)).trans d02
  replace d10 := (hb.cell (p := ⟨w.heap.size + 1, 0, none⟩) (by dsimp only; omega)).trans d10
  replace d11 := (hb.cell (p := ⟨w.heap.size + 1, 1, none⟩) (by dsimp only; omega)).trans d11
  replace d12 := (hb.cell (p := ⟨w.heap.size + 1, 2, none⟩) (by dsimp only; omega)).trans d12
  have hs := hb.size
  have hX0 : w.heap.size < X.heap.size := by omega
  have hX1 : w.heap.size + 1 < X.heap.size := by omega
  have BX0 := Lib.hid (HB3.out.trans (hb.mono (Nat.le_of_lt hl0)))
  have HTX := Lib.hid (HT.out.below hb)
  have HVX := Lib.hid (HV.out.below hb)
  clear hb hs hl0 hl1 HT HB3 HV
  by_cases hA : 60 < N
  · have hA1 : (60 : Int) < (N : Int) := by omega
    have hA2 : decide (60 < N) = true := decide_eq_true hA
    go_wp2
    go_ret
    exact ⟨rfl, BX0.out⟩
  · have hA1 : ¬ (60 : Int) < (N : Int) := by omega
    have hA2 : decide (60 < N) = false := decide_eq_false hA
    have HL : Hid (l.length ≤ 60) := Lib.hid (by omega)
    have HC : Hid (∀ w' : World, Below X.heap.size X w' → (w'.cell? ⟨w.heap.size, 0, none⟩ = some (.int .i64 a1) ∧ w'.cell? ⟨w.heap.size, 1, none⟩ = some (.int .i64 a2) ∧ w'.cell? ⟨w.heap.size, 2, none⟩ = some (.int .i64 a3) ∧ w'.cell? ⟨w.heap.size + 1, 0, none⟩ = some (.int .i64 b1) ∧ w'.cell? ⟨w.heap.size + 1, 1, none⟩ = some (.int .i64 b2) ∧ w'.cell? ⟨w.heap.size + 1, 2, none⟩ = some (.int .i64 b3) ∧ Below X.heap.size X w')) := Lib.hid (fun w' hb => ⟨(hb.cell (p := ⟨w.heap.size, 0, none⟩) hX0).trans d00, (hb.cell (p := ⟨w.heap.size, 1, none⟩) hX0).trans d01, (hb.cell (p := ⟨w.heap.size, 2, none⟩) hX0).trans d02, (hb.cell (p := ⟨w.heap.size + 1, 0, none⟩) hX1).trans d10, (hb.cell (p := ⟨w.heap.size + 1, 1, none⟩) hX1).trans d11, (hb.cell (p := ⟨w.heap.size + 1, 2, none⟩) hX1).trans d12, hb⟩)
    obtain ⟨RL, hRL⟩ : ∃ r, ltI (a1, a2, a3) (b1, b2, b3) = r := ⟨_, rfl⟩
    obtain ⟨RV, hRV⟩ : ∃ r, vldI (a1, a2, a3) = r := ⟨_, rfl⟩
    obtain ⟨RS, hRS⟩ : ∃ r, shw (a1, a2, a3) = r := ⟨_, rfl⟩
    obtain ⟨RR, hRR⟩ : ∃ r, rgtI l = r := ⟨_, rfl⟩
    obtain ⟨RH, hRH⟩ : ∃ r, hasI l (a1, a2, a3) = r := ⟨_, rfl⟩
    have C1 : Hid (∀ W : World, Below X.heap.size X W → Calls Tryd.prog 9 #[.agg #[.int .i64 a1, .int .i64 a2, .int .i64 a3], .agg #[.int .i64 b1, .int .i64 b2, .int .i64 b3]] W fun e w' => e = .returned (.bool RL) ∧ Below W.heap.size W w') := Lib.hid (fun W hW => by have h := less_any a1 a2 a3 b1 b2 b3 W; rw [hRL] at h; exact h.mono fun e w2 q => ⟨q.1, q.2.below⟩)
    have C2 : Hid (∀ W : World, Below X.heap.size X W → Calls Tryd.prog 10 #[.agg #[.int .i64 a1, .int .i64 a2, .int .i64 a3], .agg #[.int .i64 b1, .int .i64 b2, .int .i64 b3]] W fun e w' => e = .returned (.bool RL) ∧ Below W.heap.size W w') := Lib.hid (fun W hW => by have h := rless_any a1 a2 a3 b1 b2 b3 W; rw [hRL] at h; exact h.mono fun e w2 q => ⟨q.1, q.2.below⟩)
    have C3 : Hid (∀ W : World, Below X.heap.size X W → Calls Tryd.prog 11 #[.agg #[.int .i64 a1, .int .i64 a2, .int .i64 a3]] W fun e w' => e = .returned (.bool RV) ∧ Below W.heap.size W w') := Lib.hid (fun W hW => by have h := valid_any a1 a2 a3 W; rw [hRV] at h; exact h.mono fun e w2 q => ⟨q.1, q.2.below⟩)
    have C4 : Hid (∀ W : World, Below X.heap.size X W → Calls Tryd.prog 12 #[.agg #[.int .i64 a1, .int .i64 a2, .int .i64 a3]] W fun e w' => e = .returned (.bool RV) ∧ Below W.heap.size W w') := Lib.hid (fun W hW => by have h := rvalid_any a1 a2 a3 W; rw [hRV] at h; exact h.mono fun e w2 q => ⟨q.1, q.2.below⟩)
    have C5 : Hid (∀ W : World, Below X.heap.size X W → Calls Tryd.prog 13 #[.agg #[.int .i64 a1, .int .i64 a2, .int .i64 a3]] W fun e w' => e = .returned (.string RS) ∧ Below W.heap.size W w') := Lib.hid (fun W hW => by have h := show_any a1 a2 a3 W qa1.out qa2.out qa3.out (HTX.out.below hW); rw [hRS] at h; exact h)
    have C6 : Hid (∀ W : World, Below X.heap.size X W → Calls Tryd.prog 14 #[.agg #[.int .i64 a1, .int .i64 a2, .int .i64 a3]] W fun e w' => e = .returned (.string RS) ∧ Below W.heap.size W w') := Lib.hid (fun W hW => by have h := rshow_any a1 a2 a3 W qa1.out qa2.out qa3.out; rw [hRS] at h; exact h)
    have C7 : Hid (∀ W : World, Below X.heap.size X W → Calls Tryd.prog 15 #[.slice p N c] W fun e w' => e = .returned (.bool RR) ∧ Below W.heap.size W w') := Lib.hid (fun W hW => by have h := right_any (.slice p N c) l W (HVX.out.below hW) (by have := HL.out; omega); rw [hRR] at h; exact h)
    have C8 : Hid (∀ W : World, Below X.heap.size X W → Calls Tryd.prog 16 #[.slice p N c] W fun e w' => e = .returned (.bool RR) ∧ Below W.heap.size W w') := Lib.hid (fun W hW => by have h := rright_any (.slice p N c) l W (HVX.out.below hW) (by have := HL.out; omega); rw [hRR] at h; exact h)
    have C9 : Hid (∀ W : World, Below X.heap.size X W → Calls Tryd.prog 17 #[.slice p N c, .agg #[.int .i64 a1, .int .i64 a2, .int .i64 a3]] W fun e w' => e = .returned (.bool RH) ∧ Below W.heap.size W w') := Lib.hid (fun W hW => by have h := has_any (.slice p N c) l a1 a2 a3 W (HVX.out.below hW) (by have := HL.out; omega); rw [hRH] at h; exact h)
    have C0 : Hid (∀ W : World, Below X.heap.size X W → Calls Tryd.prog 18 #[.slice p N c, .agg #[.int .i64 a1, .int .i64 a2, .int .i64 a3]] W fun e w' => e = .returned (.bool RH) ∧ Below W.heap.size W w') := Lib.hid (fun W hW => by have h := rhas_any (.slice p N c) l a1 a2 a3 W (HVX.out.below hW) (by have := HL.out; omega); rw [hRH] at h; exact h)
    have eRL : (RL == RL) = true := by cases RL <;> rfl
    have eRV : (RV == RV) = true := by cases RV <;> rfl
    have eRR : (RR == RR) = true := by cases RR <;> rfl
    have eRH : (RH == RH) = true := by cases RH <;> rfl
    have eRS : (RS.toList == RS.toList) = true := by simp
    clear d00 d01 d02 d10 d11 d12 hX1 hRL hRV hRS hRR hRH hN HVX HTX HL qa1 qa2 qa3
    go_wp2_with fail
    go_region_held3 (fun w' => w'.cell? ⟨w.heap.size, 0, none⟩ = some (.int .i64 a1) ∧ w'.cell? ⟨w.heap.size, 1, none⟩ = some (.int .i64 a2) ∧ w'.cell? ⟨w.heap.size, 2, none⟩ = some (.int .i64 a3) ∧ w'.cell? ⟨w.heap.size + 1, 0, none⟩ = some (.int .i64 b1) ∧ w'.cell? ⟨w.heap.size + 1, 1, none⟩ = some (.int .i64 b2) ∧ w'.cell? ⟨w.heap.size + 1, 2, none⟩ = some (.int .i64 b3) ∧ Below X.heap.size X w')
      (first
        | exact HC.out _ (Below.refl _ _)
        | exact HC.out _ (Below.refl _ _).drew
        | (go_split_ands; exact HC.out _ (below_self (by assumption) (by assumption)))
        | (go_split_ands; exact HC.out _ (Below.drew (by assumption)))
        | (go_split_ands; exact HC.out _ (by assumption)))
      (first
        | (go_at_call 9; go_split_ands; refine (C1.out _ (by assumption)).mono ?_; rintro e w5 ⟨rfl, hbw5⟩; have hS5 : Below X.heap.size X w5 := below_self (by assumption) hbw5)
        | (go_at_call 10; go_split_ands; refine (C2.out _ (by assumption)).mono ?_; rintro e w5 ⟨rfl, hbw5⟩; have hS5 : Below X.heap.size X w5 := below_self (by assumption) hbw5)
        | (go_at_call 11; go_split_ands; refine (C3.out _ (by assumption)).mono ?_; rintro e w5 ⟨rfl, hbw5⟩; have hS5 : Below X.heap.size X w5 := below_self (by assumption) hbw5)
        | (go_at_call 12; go_split_ands; refine (C4.out _ (by assumption)).mono ?_; rintro e w5 ⟨rfl, hbw5⟩; have hS5 : Below X.heap.size X w5 := below_self (by assumption) hbw5)
        | (go_at_call 13; go_split_ands; refine (C5.out _ (by assumption)).mono ?_; rintro e w5 ⟨rfl, hbw5⟩; have hS5 : Below X.heap.size X w5 := below_self (by assumption) hbw5)
        | (go_at_call 14; go_split_ands; refine (C6.out _ (by assumption)).mono ?_; rintro e w5 ⟨rfl, hbw5⟩; have hS5 : Below X.heap.size X w5 := below_self (by assumption) hbw5)
        | (go_at_call 15; go_split_ands; refine (C7.out _ (by assumption)).mono ?_; rintro e w5 ⟨rfl, hbw5⟩; have hS5 : Below X.heap.size X w5 := below_self (by assumption) hbw5)
        | (go_at_call 16; go_split_ands; refine (C8.out _ (by assumption)).mono ?_; rintro e w5 ⟨rfl, hbw5⟩; have hS5 : Below X.heap.size X w5 := below_self (by assumption) hbw5)
        | (go_at_call 17; go_split_ands; refine (C9.out _ (by assumption)).mono ?_; rintro e w5 ⟨rfl, hbw5⟩; have hS5 : Below X.heap.size X w5 := below_self (by assumption) hbw5)
        | (go_at_call 18; go_split_ands; refine (C0.out _ (by assumption)).mono ?_; rintro e w5 ⟨rfl, hbw5⟩; have hS5 : Below X.heap.size X w5 := below_self (by assumption) hbw5)
        | fail)
    go_split_ands
    go_wp2
    go_ret
    exact ⟨rfl, BX0.out.trans (Below.mono (by assumption) (Nat.le_of_lt hX0))⟩
end Go.Proofs.YtmkmdgehgllnbaaDoor
