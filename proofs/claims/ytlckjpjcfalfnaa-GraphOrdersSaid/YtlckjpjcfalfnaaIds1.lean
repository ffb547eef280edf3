/-
  The walks of package ids: Less, Valid, order; the document's Less, Valid.
-/
import Derived.Test.YtlckjpjcfalfnaaRow
import Derived.Test.YtlckjpjcfalfnaaIdsM
import Derived.Deep.RegionHeld3
import Derived.Sort.Grow
namespace Go.Proofs.Ytlckjpjcfalfnaa
open Go.RowKit Go.Sort
set_option linter.unusedSimpArgs false
set_option linter.unusedVariables false

def idE (x : I3) : List Value := [.int .i64 x.1, .int .i64 x.2.1, .int .i64 x.2.2]
/-- Instances as elements of rows. -/
noncomputable def IK : Knd Try.prog I3 where
  T := 25
  S := 23
  k := 3
  enc := idE
  z := .agg #[.int .i64 0, .int .i64 0, .int .i64 0]
  B := 24
  len := fun _ => rfl
  one := fun x v h => by simp [idE] at h; rcases h with rfl | rfl | rfl <;> rfl
  und := Try.underlying23
  info := by kernel_rfl
  zc := rfl
  pos := by omega
  small := by omega
  d := (0, 0, 0)
/-- New blocks, and draws, and nothing else. -/
def Grew (w w' : World) : Prop := ∃ q os, w' = grow (w.drewN q) os
theorem Grew.below {w w' : World} (h : Grew w w') : Below w.heap.size w w' := by
  obtain ⟨q, os, rfl⟩ := h
  refine ⟨rfl, rfl, rfl, by simp, fun k hk => ?_⟩
  rw [heap_grow_old _ _ (by simpa using hk)]
  rfl
theorem grew_two (w : World) (o1 o2 : Obj) : Grew w ((w.alloc o1).alloc o2) := ⟨0, #[o1] ++ #[o2], by rw [alloc_eq_grow, alloc_eq_grow, grow_grow]; rfl⟩
theorem Grew.trans {a b c : World} (h : Grew a b) (k : Grew b c) : Grew a c := by
  obtain ⟨q, os, rfl⟩ := h
  obtain ⟨q2, os2, rfl⟩ := k
  refine ⟨q + q2, os ++ os2, ?_⟩
  rw [← grow_grow]
  simp [grow, World.drewN, Nat.add_assoc]
theorem grew_alloc (w : World) (o : Obj) : Grew w (w.alloc o) := ⟨0, #[o], by rw [alloc_eq_grow]; rfl⟩
theorem Grew.refl (w : World) : Grew w w := ⟨0, #[], by rw [grow_empty]; rfl⟩

set_option maxHeartbeats 800000 in
theorem less_any (a1 a2 a3 b1 b2 b3 : Int) (w : World) :
    Calls Try.prog 27 #[.agg #[.int .i64 a1, .int .i64 a2, .int .i64 a3], .agg #[.int .i64 b1, .int .i64 b2, .int .i64 b3]] w fun e w' => e = .returned (.bool (ltI (a1, a2, a3) (b1, b2, b3))) ∧ Grew w w' := by
  by_cases g1 : a1 = b1
  · subst g1
    by_cases g2 : a3 = b3
    · subst g2
      by_cases g3 : a2 < b2
      · have e1 : ltI (a1, a2, a3) (a1, b2, a3) = true := by simp [ltI, g3]
        rw [e1]
        go_enter Try.func27, Try.ntmps27
        go_wp2
        go_ret
        exact ⟨rfl, grew_two _ _ _⟩
      · have e1 : ltI (a1, a2, a3) (a1, b2, a3) = false := by simp [ltI, g3]
        rw [e1]
        go_enter Try.func27, Try.ntmps27
        go_wp2
        go_ret
        exact ⟨rfl, grew_two _ _ _⟩
    · by_cases g3 : a3 < b3
      · have e1 : ltI (a1, a2, a3) (a1, b2, b3) = true := by simp [ltI, g2, g3]
        rw [e1]
        go_enter Try.func27, Try.ntmps27
        go_wp2
        go_ret
        exact ⟨rfl, grew_two _ _ _⟩
      · have e1 : ltI (a1, a2, a3) (a1, b2, b3) = false := by simp [ltI, g2, g3]
        rw [e1]
        go_enter Try.func27, Try.ntmps27
        go_wp2
        go_ret
        exact ⟨rfl, grew_two _ _ _⟩
  · by_cases g3 : a1 < b1
    · have e1 : ltI (a1, a2, a3) (b1, b2, b3) = true := by simp [ltI, g1, g3]
      rw [e1]
      go_enter Try.func27, Try.ntmps27
      go_wp2
      go_ret
      exact ⟨rfl, grew_two _ _ _⟩
    · have e1 : ltI (a1, a2, a3) (b1, b2, b3) = false := by simp [ltI, g1, g3]
      rw [e1]
      go_enter Try.func27, Try.ntmps27
      go_wp2
      go_ret
      exact ⟨rfl, grew_two _ _ _⟩

set_option maxHeartbeats 800000 in
theorem rless_any (a1 a2 a3 b1 b2 b3 : Int) (w : World) :
    Calls Try.prog 51 #[.agg #[.int .i64 a1, .int .i64 a2, .int .i64 a3], .agg #[.int .i64 b1, .int .i64 b2, .int .i64 b3]] w fun e w' => e = .returned (.bool (ltI (a1, a2, a3) (b1, b2, b3))) ∧ Grew w w' := by
  by_cases g1 : a1 = b1
  · subst g1
    by_cases g2 : a3 = b3
    · subst g2
      by_cases g3 : a2 < b2
      · have e1 : ltI (a1, a2, a3) (a1, b2, a3) = true := by simp [ltI, g3]
        rw [e1]
        go_enter Try.func51, Try.ntmps51
        go_wp2
        go_ret
        exact ⟨rfl, grew_two _ _ _⟩
      · have e1 : ltI (a1, a2, a3) (a1, b2, a3) = false := by simp [ltI, g3]
        rw [e1]
        go_enter Try.func51, Try.ntmps51
        go_wp2
        go_ret
        exact ⟨rfl, grew_two _ _ _⟩
    · by_cases g3 : a3 < b3
      · have e1 : ltI (a1, a2, a3) (a1, b2, b3) = true := by simp [ltI, g2, g3]
        rw [e1]
        go_enter Try.func51, Try.ntmps51
        go_wp2
        go_ret
        exact ⟨rfl, grew_two _ _ _⟩
      · have e1 : ltI (a1, a2, a3) (a1, b2, b3) = false := by simp [ltI, g2, g3]
        rw [e1]
        go_enter Try.func51, Try.ntmps51
        go_wp2
        go_ret
        exact ⟨rfl, grew_two _ _ _⟩
  · by_cases g3 : a1 < b1
    · have e1 : ltI (a1, a2, a3) (b1, b2, b3) = true := by simp [ltI, g1, g3]
      rw [e1]
      go_enter Try.func51, Try.ntmps51
      go_wp2
      go_ret
      exact ⟨rfl, grew_two _ _ _⟩
    · have e1 : ltI (a1, a2, a3) (b1, b2, b3) = false := by simp [ltI, g1, g3]
      rw [e1]
      go_enter Try.func51, Try.ntmps51
      go_wp2
      go_ret
      exact ⟨rfl, grew_two _ _ _⟩

/-- As sorting asks for it. -/
def ordI (a b : I3) : Int := if ltI a b then -1 else if ltI b a then 1 else 0
set_option maxHeartbeats 800000 in
theorem order_any (a1 a2 a3 b1 b2 b3 : Int) (w : World) :
    Calls Try.prog 57 #[.agg #[.int .i64 a1, .int .i64 a2, .int .i64 a3], .agg #[.int .i64 b1, .int .i64 b2, .int .i64 b3]] w fun e w' => e = .returned (.int .i64 (ordI (a1, a2, a3) (b1, b2, b3))) ∧ Grew w w' := by
  have c1 := fun W => less_any a1 a2 a3 b1 b2 b3 W
  have c2 := fun W => less_any b1 b2 b3 a1 a2 a3 W
  unfold ordI
  cases h1 : ltI (a1, a2, a3) (b1, b2, b3) with
  | true =>
    rw [h1] at c1
    have HC1 := Lib.hid c1
    clear c1 c2 h1
    simp only [if_true]
    go_enter Try.func57, Try.ntmps57
    go_wp2_with (go_at_call 27; refine (HC1.out _).mono ?_; rintro e w1 ⟨rfl, hg⟩; have HG := Lib.hid hg; clear hg)
    go_ret
    exact ⟨rfl, (grew_two _ _ _).trans HG.out⟩
  | false =>
    rw [h1] at c1
    have HC1 := Lib.hid c1
    cases h2 : ltI (b1, b2, b3) (a1, a2, a3) with
    | true =>
      rw [h2] at c2
      have HC2 := Lib.hid c2
      clear c1 c2 h1 h2
      simp only [if_true, if_false, Bool.false_eq_true]
      go_enter Try.func57, Try.ntmps57
      go_wp2_with fail
      refine (HC1.out _).mono ?_
      rintro e w1 ⟨rfl, hg⟩
      have d0 : w1.cell? ⟨w.heap.size, 0, none⟩ = some (.int .i64 a1) := (hg.below.cell (p := ⟨w.heap.size, 0, none⟩) (by simp; omega)).trans ((two_cells w _ _ _ _).1 0)
      have d1 : w1.cell? ⟨w.heap.size, 1, none⟩ = some (.int .i64 a2) := (hg.below.cell (p := ⟨w.heap.size, 1, none⟩) (by simp; omega)).trans ((two_cells w _ _ _ _).1 1)
      have d2 : w1.cell? ⟨w.heap.size, 2, none⟩ = some (.int .i64 a3) := (hg.below.cell (p := ⟨w.heap.size, 2, none⟩) (by simp; omega)).trans ((two_cells w _ _ _ _).1 2)
      have d3 : w1.cell? ⟨w.heap.size + 1, 0, none⟩ = some (.int .i64 b1) := (hg.below.cell (p := ⟨w.heap.size + 1, 0, none⟩) (by simp)).trans ((two_cells w _ _ _ _).2 0)
      have d4 : w1.cell? ⟨w.heap.size + 1, 1, none⟩ = some (.int .i64 b2) := (hg.below.cell (p := ⟨w.heap.size + 1, 1, none⟩) (by simp)).trans ((two_cells w _ _ _ _).2 1)
      have d5 : w1.cell? ⟨w.heap.size + 1, 2, none⟩ = some (.int .i64 b3) := (hg.below.cell (p := ⟨w.heap.size + 1, 2, none⟩) (by simp)).trans ((two_cells w _ _ _ _).2 2)
      have hz : w.heap.size + 1 < w1.heap.size := by have := hg.below.size; simp at this; omega
      have HG := Lib.hid hg
      clear hg
      go_wp2_with fail
      refine (HC2.out _).mono ?_
      rintro e w2 ⟨rfl, hg2⟩
      have HG2 := Lib.hid hg2
      clear hg2 d0 d1 d2 d3 d4 d5 hz
      go_wp2
      go_ret
      exact ⟨rfl, ((grew_two _ _ _).trans HG.out).trans HG2.out⟩
    | false =>
      rw [h2] at c2
      have HC2 := Lib.hid c2
      clear c1 c2 h1 h2
      simp only [if_true, if_false, Bool.false_eq_true]
      go_enter Try.func57, Try.ntmps57
      go_wp2_with fail
      refine (HC1.out _).mono ?_
      rintro e w1 ⟨rfl, hg⟩
      have d0 : w1.cell? ⟨w.heap.size, 0, none⟩ = some (.int .i64 a1) := (hg.below.cell (p := ⟨w.heap.size, 0, none⟩) (by simp; omega)).trans ((two_cells w _ _ _ _).1 0)
      have d1 : w1.cell? ⟨w.heap.size, 1, none⟩ = some (.int .i64 a2) := (hg.below.cell (p := ⟨w.heap.size, 1, none⟩) (by simp; omega)).trans ((two_cells w _ _ _ _).1 1)
      have d2 : w1.cell? ⟨w.heap.size, 2, none⟩ = some (.int .i64 a3) := (hg.below.cell (p := ⟨w.heap.size, 2, none⟩) (by simp; omega)).trans ((two_cells w _ _ _ _).1 2)
      have d3 : w1.cell? ⟨w.heap.size + 1, 0, none⟩ = some (.int .i64 b1) := (hg.below.cell (p := ⟨w.heap.size + 1, 0, none⟩) (by simp)).trans ((two_cells w _ _ _ _).2 0)
      have d4 : w1.cell? ⟨w.heap.size + 1, 1, none⟩ = some (.int .i64 b2) := (hg.below.cell (p := ⟨w.heap.size + 1, 1, none⟩) (by simp)).trans ((two_cells w _ _ _ _).2 1)
      have d5 : w1.cell? ⟨w.heap.size + 1, 2, none⟩ = some (.int .i64 b3) := (hg.below.cell (p := ⟨w.heap.size + 1, 2, none⟩) (by simp)).trans ((two_cells w _ _ _ _).2 2)
      have hz : w.heap.size + 1 < w1.heap.size := by have := hg.below.size; simp at this; omega
      have HG := Lib.hid hg
      clear hg
      go_wp2_with fail
      refine (HC2.out _).mono ?_
      rintro e w2 ⟨rfl, hg2⟩
      have HG2 := Lib.hid hg2
      clear hg2 d0 d1 d2 d3 d4 d5 hz
      go_wp2
      go_ret
      exact ⟨rfl, ((grew_two _ _ _).trans HG.out).trans HG2.out⟩
/-- May it be? -/
def vldI (x : I3) : Bool := decide (0 ≤ x.1) && decide (x.1 ≤ 1048576) && decide (0 ≤ x.2.1) && decide (x.2.1 ≤ 31) && decide (0 ≤ x.2.2) && decide (x.2.2 ≤ 1099511627776)

end Go.Proofs.Ytlckjpjcfalfnaa
