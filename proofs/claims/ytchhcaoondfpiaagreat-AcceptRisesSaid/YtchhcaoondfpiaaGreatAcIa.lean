/-
  Texts put together: Ids1, Ids2, Ids3.
-/
import Derived.Test.YtchhcaoondfpiaaGreatRow
import Derived.Test.YtchhcaoondfpiaaGreatIdsM
import Derived.Deep.RegionHeld3
import Derived.Sort.Grow
import Derived.Maps.OwnSet
import Derived.Maps.RangeWalk
import Derived.DeepKeys4
import Derived.WalkSpells
namespace Go.Proofs.YtchhcaoondfpiaaGreat
open Go.RowKit Go.Sort
set_option linter.unusedSimpArgs false
set_option linter.unusedVariables false

def idE (x : I3) : List Value := [.int .i64 x.1, .int .i64 x.2.1, .int .i64 x.2.2]
/-- Instances as elements of rows. -/
noncomputable def IK : Knd Tryz.prog I3 where
  T := 37
  S := 44
  k := 3
  enc := idE
  z := .agg #[.int .i64 0, .int .i64 0, .int .i64 0]
  B := 24
  len := fun _ => rfl
  one := fun x v h => by simp [idE] at h; rcases h with rfl | rfl | rfl <;> rfl
  und := Tryz.underlying44
  info := by kernel_rfl
  zc := rfl
  pos := by omega
  small := by omega
  d := (0, 0, 0)
/-- New blocks, and draws, and nothing else. -/
def Grew (w w' : World) : Prop := ∃ q os, w' = grow (w.drewN q) os
theorem Grew.below {w w' : World} (h : Grew w w') : Below w.heap.size w w' := by
  obtain ⟨q, os, rfl⟩ := h
  refine ⟨rfl, rfl, rfl, by simp, fun k hk => ?_⟩
  rw [heap_grow_old _ _ (by simpa using hk)]
  rfl
theorem grew_two (w : World) (o1 o2 : Obj) : Grew w ((w.alloc o1).alloc o2) := ⟨0, #[o1] ++ #[o2], by rw [alloc_eq_grow, alloc_eq_grow, grow_grow]; rfl⟩
theorem Grew.trans {a b c : World} (h : Grew a b) (k : Grew b c) : Grew a c := by
  obtain ⟨q, os, rfl⟩ := h
  obtain ⟨q2, os2, rfl⟩ := k
  refine ⟨q + q2, os ++ os2, ?_⟩
  rw [← grow_grow]
  simp [grow, World.drewN, Nat.add_assoc]
theorem grew_alloc (w : World) (o : Obj) : Grew w (w.alloc o) := ⟨0, #[o], by rw [alloc_eq_grow]; rfl⟩
theorem Grew.refl (w : World) : Grew w w := ⟨0, #[], by rw [grow_empty]; rfl⟩

set_option maxHeartbeats 800000 in
theorem less_any (a1 a2 a3 b1 b2 b3 : Int) (w : World) :
    Calls Tryz.prog 59 #[.agg #[.int .i64 a1, .int .i64 a2, .int .i64 a3], .agg #[.int .i64 b1, .int .i64 b2, .int .i64 b3]] w fun e w' => e = .returned (.bool (ltI (a1, a2, a3) (b1, b2, b3))) ∧ Grew w w' := by
  by_cases g1 : a1 = b1
  · subst g1
    by_cases g2 : a3 = b3
    · subst g2
      by_cases g3 : a2 < b2
      · have e1 : ltI (a1, a2, a3) (a1, b2, a3) = true := by simp [ltI, g3]
        rw [e1]
        go_enter Tryz.func59, Tryz.ntmps59
        go_wp2
        go_ret
        exact ⟨rfl, grew_two _ _ _⟩
      · have e1 : ltI (a1, a2, a3) (a1, b2, a3) = false := by simp [ltI, g3]
        rw [e1]
        go_enter Tryz.func59, Tryz.ntmps59
        go_wp2
        go_ret
        exact ⟨rfl, grew_two _ _ _⟩
    · by_cases g3 : a3 < b3
      · have e1 : ltI (a1, a2, a3) (a1, b2, b3) = true := by simp [ltI, g2, g3]
        rw [e1]
        go_enter Tryz.func59, Tryz.ntmps59
        go_wp2
        go_ret
        exact ⟨rfl, grew_two _ _ _⟩
      · have e1 : ltI (a1, a2, a3) (a1, b2, b3) = false := by simp [ltI, g2, g3]
        rw [e1]
        go_enter Tryz.func59, Tryz.ntmps59
        go_wp2
        go_ret
        exact ⟨rfl, grew_two _ _ _⟩
  · by_cases g3 : a1 < b1
    · have e1 : ltI (a1, a2, a3) (b1, b2, b3) = true := by simp [ltI, g1, g3]
      rw [e1]
      go_enter Tryz.func59, Tryz.ntmps59
      go_wp2
      go_ret
      exact ⟨rfl, grew_two _ _ _⟩
    · have e1 : ltI (a1, a2, a3) (b1, b2, b3) = false := by simp [ltI, g1, g3]
      rw [e1]
      go_enter Tryz.func59, Tryz.ntmps59
      go_wp2
      go_ret
      exact ⟨rfl, grew_two _ _ _⟩

set_option maxHeartbeats 800000 in
theorem rless_any (a1 a2 a3 b1 b2 b3 : Int) (w : World) :
    Calls Tryz.prog 72 #[.agg #[.int .i64 a1, .int .i64 a2, .int .i64 a3], .agg #[.int .i64 b1, .int .i64 b2, .int .i64 b3]] w fun e w' => e = .returned (.bool (ltI (a1, a2, a3) (b1, b2, b3))) ∧ Grew w w' := by
  by_cases g1 : a1 = b1
  · subst g1
    by_cases g2 : a3 = b3
    · subst g2
      by_cases g3 : a2 < b2
      · have e1 : ltI (a1, a2, a3) (a1, b2, a3) = true := by simp [ltI, g3]
        rw [e1]
        go_enter Tryz.func72, Tryz.ntmps72
        go_wp2
        go_ret
        exact ⟨rfl, grew_two _ _ _⟩
      · have e1 : ltI (a1, a2, a3) (a1, b2, a3) = false := by simp [ltI, g3]
        rw [e1]
        go_enter Tryz.func72, Tryz.ntmps72
        go_wp2
        go_ret
        exact ⟨rfl, grew_two _ _ _⟩
    · by_cases g3 : a3 < b3
      · have e1 : ltI (a1, a2, a3) (a1, b2, b3) = true := by simp [ltI, g2, g3]
        rw [e1]
        go_enter Tryz.func72, Tryz.ntmps72
        go_wp2
        go_ret
        exact ⟨rfl, grew_two _ _ _⟩
      · have e1 : ltI (a1, a2, a3) (a1, b2, b3) = false := by simp [ltI, g2, g3]
        rw [e1]
        go_enter Tryz.func72, Tryz.ntmps72
        go_wp2
        go_ret
        exact ⟨rfl, grew_two _ _ _⟩
  · by_cases g3 : a1 < b1
    · have e1 : ltI (a1, a2, a3) (b1, b2, b3) = true := by simp [ltI, g1, g3]
      rw [e1]
      go_enter Tryz.func72, Tryz.ntmps72
      go_wp2
      go_ret
      exact ⟨rfl, grew_two _ _ _⟩
    · have e1 : ltI (a1, a2, a3) (b1, b2, b3) = false := by simp [ltI, g1, g3]
      rw [e1]
      go_enter Tryz.func72, Tryz.ntmps72
      go_wp2
      go_ret
      exact ⟨rfl, grew_two _ _ _⟩

/-- As sorting asks for it. -/
def ordI (a b : I3) : Int := if ltI a b then -1 else if ltI b a then 1 else 0
set_option maxHeartbeats 800000 in
theorem order_any (a1 a2 a3 b1 b2 b3 : Int) (w : World) :
    Calls Tryz.prog 91 #[.agg #[.int .i64 a1, .int .i64 a2, .int .i64 a3], .agg #[.int .i64 b1, .int .i64 b2, .int .i64 b3]] w fun e w' => e = .returned (.int .i64 (ordI (a1, a2, a3) (b1, b2, b3))) ∧ Grew w w' := by
  have c1 := fun W => less_any a1 a2 a3 b1 b2 b3 W
  have c2 := fun W => less_any b1 b2 b3 a1 a2 a3 W
  unfold ordI
  cases h1 : ltI (a1, a2, a3) (b1, b2, b3) with
  | true =>
    rw [h1] at c1
    have HC1 := Lib.hid c1
    clear c1 c2 h1
    simp only [if_true]
    go_enter Tryz.func91, Tryz.ntmps91
    go_wp2_with (go_at_call 59; refine (HC1.out _).mono ?_; rintro e w1 ⟨rfl, hg⟩; have HG := Lib.hid hg; clear hg)
    go_ret
    exact ⟨rfl, (grew_two _ _ _).trans HG.out⟩
  | false =>
    rw [h1] at c1
    have HC1 := Lib.hid c1
    cases h2 : ltI (b1, b2, b3) (a1, a2, a3) with
    | true =>
      rw [h2] at c2
      have HC2 := Lib.hid c2
      clear c1 c2 h1 h2
      simp only [if_true, if_false, Bool.false_eq_true]
      go_enter Tryz.func91, Tryz.ntmps91
      go_wp2_with fail
      refine (HC1.out _).mono ?_
      rintro e w1 ⟨rfl, hg⟩
      have d0 : w1.cell? ⟨w.heap.size, 0, none⟩ = some (.int .i64 a1) := (hg.below.cell (p := ⟨w.heap.size, 0, none⟩) (by simp; omega)).trans ((two_cells w _ _ _ _).1 0)
      have d1 : w1.cell? ⟨w.heap.size, 1, none⟩ = some (.int .i64 a2) := (hg.below.cell (p := ⟨w.heap.size, 1, none⟩) (by simp; omega)).trans ((two_cells w _ _ _ _).1 1)
      have d2 : w1.cell? ⟨w.heap.size, 2, none⟩ = some (.int .i64 a3) := (hg.below.cell (p := ⟨w.heap.size, 2, none⟩) (by simp; omega)).trans ((two_cells w _ _ _ _).1 2)
      have d3 : w1.cell? ⟨w.heap.size + 1, 0, none⟩ = some (.int .i64 b1) := (hg.below.cell (p := ⟨w.heap.size + 1, 0, none⟩) (by simp)).trans ((two_cells w _ _ _ _).2 0)
      have d4 : w1.cell? ⟨w.heap.size + 1, 1, none⟩ = some (.int .i64 b2) := (hg.below.cell (p := ⟨w.heap.size + 1, 1, none⟩) (by simp)).trans ((two_cells w _ _ _ _).2 1)
      have d5 : w1.cell? ⟨w.heap.size + 1, 2, none⟩ = some (.int .i64 b3) := (hg.below.cell (p := ⟨w.heap.size + 1, 2, none⟩) (by simp)).trans ((two_cells w _ _ _ _).2 2)
      have hz : w.heap.size + 1 < w1.heap.size := by have := hg.below.size; simp at this; omega
      have HG := Lib.hid hg
      clear hg
      go_wp2_with fail
      refine (HC2.out _).mono ?_
      rintro e w2 ⟨rfl, hg2⟩
      have HG2 := Lib.hid hg2
      clear hg2 d0 d1 d2 d3 d4 d5 hz
      go_wp2
      go_ret
      exact ⟨rfl, ((grew_two _ _ _).trans HG.out).trans HG2.out⟩
    | false =>
      rw [h2] at c2
      have HC2 := Lib.hid c2
      clear c1 c2 h1 h2
      simp only [if_true, if_false, Bool.false_eq_true]
      go_enter Tryz.func91, Tryz.ntmps91
      go_wp2_with fail
      refine (HC1.out _).mono ?_
      rintro e w1 ⟨rfl, hg⟩
      have d0 : w1.cell? ⟨w.heap.size, 0, none⟩ = some (.int .i64 a1) := (hg.below.cell (p := ⟨w.heap.size, 0, none⟩) (by simp; omega)).trans ((two_cells w _ _ _ _).1 0)
      have d1 : w1.cell? ⟨w.heap.size, 1, none⟩ = some (.int .i64 a2) := (hg.below.cell (p := ⟨w.heap.size, 1, none⟩) (by simp; omega)).trans ((two_cells w _ _ _ _).1 1)
      have d2 : w1.cell? ⟨w.heap.size, 2, none⟩ = some (.int .i64 a3) := (hg.below.cell (p := ⟨w.heap.size, 2, none⟩) (by simp; omega)).trans ((two_cells w _ _ _ _).1 2)
      have d3 : w1.cell? ⟨w.heap.size + 1, 0, none⟩ = some (.int .i64 b1) := (hg.below.cell (p := ⟨w.heap.size + 1, 0, none⟩) (by simp)).trans ((two_cells w _ _ _ _).2 0)
      have d4 : w1.cell? ⟨w.heap.size + 1, 1, none⟩ = some (.int .i64 b2) := (hg.below.cell (p := ⟨w.heap.size + 1, 1, none⟩) (by simp)).trans ((two_cells w _ _ _ _).2 1)
      have d5 : w1.cell? ⟨w.heap.size + 1, 2, none⟩ = some (.int .i64 b3) := (hg.below.cell (p := ⟨w.heap.size + 1, 2, none⟩) (by simp)).trans ((two_cells w _ _ _ _).2 2)
      have hz : w.heap.size + 1 < w1.heap.size := by have := hg.below.size; simp at this; omega
      have HG := Lib.hid hg
      clear hg
      go_wp2_with fail
      refine (HC2.out _).mono ?_
      rintro e w2 ⟨rfl, hg2⟩
      have HG2 := Lib.hid hg2
      clear hg2 d0 d1 d2 d3 d4 d5 hz
      go_wp2
      go_ret
      exact ⟨rfl, ((grew_two _ _ _).trans HG.out).trans HG2.out⟩
/-- May it be? -/
def vldI (x : I3) : Bool := decide (0 ≤ x.1) && decide (x.1 ≤ 1048576) && decide (0 ≤ x.2.1) && decide (x.2.1 ≤ 31) && decide (0 ≤ x.2.2) && decide (x.2.2 ≤ 1099511627776)

set_option maxHeartbeats 800000 in
theorem valid_any (a1 a2 a3 : Int) (w : World) :
    Calls Tryz.prog 40 #[.agg #[.int .i64 a1, .int .i64 a2, .int .i64 a3]] w fun e w' => e = .returned (.bool (vldI (a1, a2, a3))) ∧ Grew w w' := by
  unfold vldI
  by_cases g1 : 0 ≤ a1
  · have f1 : decide (0 ≤ a1) = true := decide_eq_true g1
    by_cases g2 : a1 ≤ 1048576
    · have f2 : decide (a1 ≤ 1048576) = true := decide_eq_true g2
      by_cases g3 : 0 ≤ a2
      · have f3 : decide (0 ≤ a2) = true := decide_eq_true g3
        by_cases g4 : a2 ≤ 31
        · have f4 : decide (a2 ≤ 31) = true := decide_eq_true g4
          by_cases g5 : 0 ≤ a3
          · have f5 : decide (0 ≤ a3) = true := decide_eq_true g5
            cases f6 : decide (a3 ≤ 1099511627776)
            all_goals
              simp only [f1, f2, f3, f4, f5, f6, Bool.and_true, Bool.and_false]
              go_enter Tryz.func40, Tryz.ntmps40
              go_wp2
              go_ret
              exact ⟨rfl, grew_alloc _ _⟩
          · have f5 : decide (0 ≤ a3) = false := decide_eq_false g5
            simp only [f1, f2, f3, f4, f5, Bool.and_true, Bool.and_false, Bool.false_and]
            go_enter Tryz.func40, Tryz.ntmps40
            go_wp2
            go_ret
            exact ⟨rfl, grew_alloc _ _⟩
        · have f4 : decide (a2 ≤ 31) = false := decide_eq_false g4
          simp only [f1, f2, f3, f4, Bool.and_true, Bool.and_false, Bool.false_and]
          go_enter Tryz.func40, Tryz.ntmps40
          go_wp2
          go_ret
          exact ⟨rfl, grew_alloc _ _⟩
      · have f3 : decide (0 ≤ a2) = false := decide_eq_false g3
        simp only [f1, f2, f3, Bool.and_true, Bool.and_false, Bool.false_and]
        go_enter Tryz.func40, Tryz.ntmps40
        go_wp2
        go_ret
        exact ⟨rfl, grew_alloc _ _⟩
    · have f2 : decide (a1 ≤ 1048576) = false := decide_eq_false g2
      simp only [f1, f2, Bool.and_true, Bool.and_false, Bool.false_and]
      go_enter Tryz.func40, Tryz.ntmps40
      go_wp2
      go_ret
      exact ⟨rfl, grew_alloc _ _⟩
  · have f1 : decide (0 ≤ a1) = false := decide_eq_false g1
    simp only [f1, Bool.and_false, Bool.false_and]
    go_enter Tryz.func40, Tryz.ntmps40
    go_wp2
    go_ret
    exact ⟨rfl, grew_alloc _ _⟩

set_option maxHeartbeats 800000 in
theorem rvalid_any (a1 a2 a3 : Int) (w : World) :
    Calls Tryz.prog 35 #[.agg #[.int .i64 a1, .int .i64 a2, .int .i64 a3]] w fun e w' => e = .returned (.bool (vldI (a1, a2, a3))) ∧ Grew w w' := by
  unfold vldI
  by_cases g1 : 0 ≤ a1
  · have f1 : decide (0 ≤ a1) = true := decide_eq_true g1
    by_cases g2 : a1 ≤ 1048576
    · have f2 : decide (a1 ≤ 1048576) = true := decide_eq_true g2
      by_cases g3 : 0 ≤ a2
      · have f3 : decide (0 ≤ a2) = true := decide_eq_true g3
        by_cases g4 : a2 ≤ 31
        · have f4 : decide (a2 ≤ 31) = true := decide_eq_true g4
          by_cases g5 : 0 ≤ a3
          · have f5 : decide (0 ≤ a3) = true := decide_eq_true g5
            cases f6 : decide (a3 ≤ 1099511627776)
            all_goals
              simp only [f1, f2, f3, f4, f5, f6, Bool.and_true, Bool.and_false]
              go_enter Tryz.func35, Tryz.ntmps35
              go_wp2
              go_ret
              exact ⟨rfl, grew_alloc _ _⟩
          · have f5 : decide (0 ≤ a3) = false := decide_eq_false g5
            simp only [f1, f2, f3, f4, f5, Bool.and_true, Bool.and_false, Bool.false_and]
            go_enter Tryz.func35, Tryz.ntmps35
            go_wp2
            go_ret
            exact ⟨rfl, grew_alloc _ _⟩
        · have f4 : decide (a2 ≤ 31) = false := decide_eq_false g4
          simp only [f1, f2, f3, f4, Bool.and_true, Bool.and_false, Bool.false_and]
          go_enter Tryz.func35, Tryz.ntmps35
          go_wp2
          go_ret
          exact ⟨rfl, grew_alloc _ _⟩
      · have f3 : decide (0 ≤ a2) = false := decide_eq_false g3
        simp only [f1, f2, f3, Bool.and_true, Bool.and_false, Bool.false_and]
        go_enter Tryz.func35, Tryz.ntmps35
        go_wp2
        go_ret
        exact ⟨rfl, grew_alloc _ _⟩
    · have f2 : decide (a1 ≤ 1048576) = false := decide_eq_false g2
      simp only [f1, f2, Bool.and_true, Bool.and_false, Bool.false_and]
      go_enter Tryz.func35, Tryz.ntmps35
      go_wp2
      go_ret
      exact ⟨rfl, grew_alloc _ _⟩
  · have f1 : decide (0 ≤ a1) = false := decide_eq_false g1
    simp only [f1, Bool.and_false, Bool.false_and]
    go_enter Tryz.func35, Tryz.ntmps35
    go_wp2
    go_ret
    exact ⟨rfl, grew_alloc _ _⟩

end Go.Proofs.YtchhcaoondfpiaaGreat
namespace Go.Proofs.YtchhcaoondfpiaaGreat
open Go.RowKit Go.Sort
set_option linter.unusedSimpArgs false
set_option linter.unusedVariables false
set_option maxRecDepth 100000

set_option maxRecDepth 100000 in
theorem laidOutI : laidOutB Tryz.prog = true := by kernel_rfl
theorem idRow : (37 : TypeId) < Tryz.prog.types.size := of_decide_eq_true (by kernel_rfl)
theorem idCells : Tryz.prog.cellsOf 37 = 3 := by kernel_rfl
theorem intCells : Tryz.prog.cellsOf 3 = 1 := by kernel_rfl
theorem idDeep : Tryz.prog.keyType 37 = true := by kernel_rfl
theorem idWide : (match Tryz.prog.underlying 37 with | some (.array _ _) | some (.struct _) => true | _ => false) = true := by kernel_rfl
set_option maxRecDepth 100000 in
theorem idLaw : Go.Maps.Keyed Tryz.prog 37 := Go.Maps.Keyed.of_law (deep_law_laid laidOutI (m := 3) (by omega) idRow (by kernel_rfl) idWide)
def okI (x : I3) : Prop := (Lit.int .i64 x.1).wf = true ∧ (Lit.int .i64 x.2.1).wf = true ∧ (Lit.int .i64 x.2.2).wf = true
abbrev idV (x : I3) : Value := .agg #[.int .i64 x.1, .int .i64 x.2.1, .int .i64 x.2.2]
theorem pos_succ {a b : Nat} (h : a < b) : ∃ n, b = n + 1 := ⟨b - 1, by omega⟩
theorem idKey (x : I3) (h : okI x) : ∃ kl, keyOf Tryz.prog 37 (idV x) = some kl := by
  obtain ⟨n, hn⟩ := pos_succ idRow
  have hf : (idV x).formed Tryz.prog 37 = true := by simp [Value.formed, Tryz.underlying37, idCells]
  unfold keyOf
  simp only [Tryz.underlying37, idDeep, hf, hn, Value.cells]
  simp [Program.keyLits, Tryz.underlying37, Tryz.underlying3, idCells, intCells, h.1, h.2.1, h.2.2]
/-- What reads as a key is an instance. -/
theorem idKey_inv (key : Value) (kl : Lit) (h : keyOf Tryz.prog 37 key = some kl) : ∃ x, key = idV x ∧ okI x := by
  obtain ⟨n, hn⟩ := pos_succ idRow
  unfold keyOf at h
  simp only [Tryz.underlying37, idDeep, Bool.true_and] at h
  split at h
  · rename_i hf
    obtain ⟨cs, rfl, hsz⟩ : ∃ cs, key = .agg cs ∧ cs.size = 3 := by
      cases key <;> simp [Value.formed, Tryz.underlying37, idCells] at hf
      exact ⟨_, rfl, hf⟩
    obtain ⟨l⟩ := cs
    match l, hsz with
    | [c0, c1, c2], _ =>
      simp only [hn, Value.cells] at h
      simp [Program.keyLits, Tryz.underlying37, Tryz.underlying3, idCells, intCells, List.mapM_cons, Option.bind_eq_some_iff] at h
      obtain ⟨a, h0, _, ⟨b, h1, _, ⟨c, h2, _⟩, _⟩, _⟩ := h
      obtain ⟨x0, rfl, w0⟩ : ∃ x, c0 = .int .i64 x ∧ (Lit.int .i64 x).wf = true := by cases c0 <;> simp at h0; obtain ⟨⟨rfl, q⟩, _⟩ := h0; exact ⟨_, rfl, q⟩
      obtain ⟨x1, rfl, w1⟩ : ∃ x, c1 = .int .i64 x ∧ (Lit.int .i64 x).wf = true := by cases c1 <;> simp at h1; obtain ⟨⟨rfl, q⟩, _⟩ := h1; exact ⟨_, rfl, q⟩
      obtain ⟨x2, rfl, w2⟩ : ∃ x, c2 = .int .i64 x ∧ (Lit.int .i64 x).wf = true := by cases c2 <;> simp at h2; obtain ⟨⟨rfl, q⟩, _⟩ := h2; exact ⟨_, rfl, q⟩
      exact ⟨(x0, x1, x2), rfl, w0, w1, w2⟩
  · cases h
/-- An instance as a key. -/
noncomputable def kf (x : I3) : Lit := (keyOf Tryz.prog 37 (idV x)).getD (.bool false)
theorem kf_key {x : I3} (h : okI x) : keyOf Tryz.prog 37 (idV x) = some (kf x) := by
  obtain ⟨kl, hk⟩ := idKey x h
  unfold kf
  rw [hk]
  rfl
theorem kf_inj {a b : I3} (ha : okI a) (hb : okI b) (h : kf a = kf b) : a = b := by
  have k1 := kf_key ha
  have k2 := kf_key hb
  rw [← h] at k2
  have := idLaw.inj k1 k2
  simp only [Value.agg.injEq, Array.mk.injEq, List.cons.injEq, Value.int.injEq, true_and, and_true] at this
  exact i3_ext this.1 this.2.1 this.2.2
set_option maxRecDepth 100000 in
theorem kf_lit {x : I3} (h : okI x) : WideAt.IsKeyLit (kf x) := idLaw.key (kf_key h)
theorem kf_same {a : I3} (ha : okI a) : (kf a).sameKey (kf a) = true := by
  have hk := kf_lit ha
  cases h : kf a <;> rw [h] at hk <;> simp_all [Lit.sameKey, WideAt.IsKeyLit]
theorem kf_same_iff {a b : I3} (ha : okI a) (hb : okI b) : (kf a).sameKey (kf b) = decide (a = b) := by
  by_cases h : a = b
  · subst h; rw [kf_same ha]; simp
  · rw [decide_eq_false h]
    exact Maps.sameKey_ne (fun e => h (kf_inj ha hb e))
/-- A map that reads as the set of a list. -/
structure SetIs (D : DataW Unit) (l : List I3) : Prop where
  has : ∀ x, okI x → Maps.has D (kf x) = hasI l x
  size : Maps.size D = (clnI l).length
  tidy : Maps.Tidy D
theorem SetIs.empty : SetIs (.map []) [] := ⟨fun x _ => rfl, rfl, Maps.tidy_empty⟩
theorem hasI_app (l k : List I3) (x : I3) : hasI (l ++ k) x = (hasI l x || hasI k x) := by unfold hasI; rw [List.any_append]
theorem clnI_snoc (l : List I3) (x : I3) : clnI (l ++ [x]) = putI (clnI l) x := by simp [clnI, List.foldl_append]
theorem hasI_cln (l : List I3) (x : I3) : hasI (clnI l) x = hasI l x := by rw [Bool.eq_iff_iff, hasI_iff, hasI_iff, mem_clnI]
theorem len_putI_eq (l : List I3) (x : I3) : (putI l x).length = if hasI l x then l.length else l.length + 1 := by
  unfold putI
  split
  · rfl
  · have := congrArg List.length (List.takeWhile_append_dropWhile (p := fun y => !ltI x y) (l := l))
    rw [List.length_append] at this
    simp only [List.length_append, List.length_cons]
    omega
theorem SetIs.put {D : DataW Unit} {l : List I3} (h : SetIs D l) {x : I3} (hx : okI x) (d : DataW Unit) : SetIs (D.put (kf x) d) (l ++ [x]) := by
  refine ⟨fun y hy => ?_, ?_, h.tidy.put (kf_lit hx) d⟩
  · rw [hasI_app]
    by_cases e : y = x
    · subst e
      rw [Maps.has_put_same h.tidy.isMap (kf_lit hx)]
      simp [hasI]
    · rw [Maps.has_put_other (fun q => e (kf_inj hy hx q)), h.has y hy]
      have : hasI [x] y = false := by rw [hasI_false]; simpa using e
      rw [this, Bool.or_false]
  · rw [Maps.size_put h.tidy, h.has x hx, h.size, clnI_snoc, len_putI_eq, hasI_cln]
theorem clnI_filter (l : List I3) (p : I3 → Bool) : clnI (l.filter p) = (clnI l).filter p := by
  refine clnI_eq ((clnI_rises l).sublist List.filter_sublist) fun x => ?_
  simp [List.mem_filter, mem_clnI]
theorem Rises.nodup {l : List I3} (h : Rises l) : l.Nodup := List.Pairwise.imp (fun {a b} q e => by subst e; rw [ltI_irrefl] at q; cases q) h
theorem filter_ne_len : ∀ (l : List I3) (x : I3), l.Nodup → (l.filter fun y => decide (y ≠ x)).length + (if hasI l x then 1 else 0) = l.length
  | [], x, _ => rfl
  | a :: l, x, h => by
    have hn := List.nodup_cons.1 h
    have ih := filter_ne_len l x hn.2
    by_cases e : a = x
    · subst e
      have h1 : hasI l a = false := by rw [hasI_false]; exact hn.1
      have h2 : hasI (a :: l) a = true := by rw [hasI_iff]; simp
      rw [h1] at ih
      rw [h2, List.filter_cons]
      simp at ih ⊢
      simpa using ih
    · have h2 : hasI (a :: l) x = hasI l x := by
        rw [Bool.eq_iff_iff, hasI_iff, hasI_iff, List.mem_cons]
        constructor
        · rintro (q | q)
          · exact absurd q.symm e
          · exact q
        · exact .inr
      rw [h2, List.filter_cons, if_pos (by simpa using e), List.length_cons, List.length_cons]
      omega
theorem SetIs.del {D : DataW Unit} {l : List I3} (h : SetIs D l) {x : I3} (hx : okI x) : SetIs (D.del (kf x)) (l.filter fun y => decide (y ≠ x)) := by
  refine ⟨fun y hy => ?_, ?_, h.tidy.del (kf x)⟩
  · by_cases e : y = x
    · subst e
      rw [Maps.has_del_same]
      symm
      rw [hasI_false]
      simp
    · rw [Maps.has_del_other (fun q => e (kf_inj hy hx q)), h.has y hy, Bool.eq_iff_iff, hasI_iff, hasI_iff]
      simp [e]
  · have h1 := Maps.size_del (k := kf x) h.tidy
    rw [h.has x hx, h.size] at h1
    have h2 := filter_ne_len (clnI l) x (clnI_rises l).nodup
    rw [hasI_cln] at h2
    rw [clnI_filter]
    omega
theorem SetIs.len {D : DataW Unit} {l : List I3} (h : SetIs D l) : Maps.size D ≤ l.length := by rw [h.size]; exact len_clnI l
theorem SetIs.none {D : DataW Unit} {l : List I3} (h : SetIs D l) : (Maps.size D = 0) ↔ l = [] := by
  rw [h.size]
  constructor
  · intro q
    have := List.eq_nil_of_length_eq_zero q
    cases l with
    | nil => rfl
    | cons x l =>
      have h1 := (mem_clnI (x :: l) x).2 (by simp)
      rw [this] at h1
      cases h1
  · rintro rfl; rfl
abbrev okL (l : List I3) : Prop := ∀ x ∈ l, okI x
end Go.Proofs.YtchhcaoondfpiaaGreat
namespace Go.Proofs.YtchhcaoondfpiaaGreat
open Go.RowKit Go.Sort
set_option linter.unusedSimpArgs false
set_option linter.unusedVariables false

/-- A set of instances in memory. -/
def SetAt (w : World) (b : Nat) (l : List I3) : Prop := ∃ (D : DataW Unit) (m : Nat), m ≤ 5000 ∧ w.ownsMap (H := Unit) Tryz.prog 37 unitElem b m D ∧ SetIs D l
def SetP (l : List I3) (w : World) (e : Ending) (w' : World) : Prop := e = .returned (.map (some w.heap.size)) ∧ SetAt w' w.heap.size l ∧ Below w.heap.size w w'
theorem idE_list (x : I3) : (Value.agg #[.int .i64 x.1, .int .i64 x.2.1, .int .i64 x.2.2]) = .agg (idE x).toArray := rfl
theorem idCell {w : World} {a : Option Addr} {n c : Nat} {l : List I3} (h : IK.Rd w (.slice a n c) l) (k : Nat) (hk : k < n) : n = l.length ∧ ∃ g off, a = some ⟨g, off, none⟩ ∧ g < w.heap.size ∧
    w.cell? ⟨g, off + k * 3, none⟩ = some (.int .i64 (l.getD k (0, 0, 0)).1) ∧ w.cell? ⟨g, off + k * 3 + 1, none⟩ = some (.int .i64 (l.getD k (0, 0, 0)).2.1) ∧ w.cell? ⟨g, off + k * 3 + 2, none⟩ = some (.int .i64 (l.getD k (0, 0, 0)).2.2) ∧ k < l.length := by
  have hl : l ≠ [] := by
    intro e
    obtain ⟨a', c', e', _⟩ := h
    subst e
    simp at e'
    omega
  obtain ⟨hn, g, off, rfl, hg, hc⟩ := h.at hl
  exact ⟨hn, g, off, rfl, hg, hc k hk 0 _ rfl, hc k hk 1 _ rfl, hc k hk 2 _ rfl, by omega⟩
set_option maxRecDepth 100000 in
set_option maxHeartbeats 2000000 in
theorem setOf_any (g c n : Nat) (vs : List Value) (ls : List (List I3)) (w : World) (h1 : vs.length = n) (h2 : ls.length = n) (hn : n ≤ 2) (hg : g < w.heap.size)
    (hc : ∀ i, i < n → w.cell? ⟨g, i, none⟩ = some (vs.getD i undef)) (hr : ∀ i, i < n → IK.Rd w (vs.getD i undef) (ls.getD i [])) (hok : ∀ i, i < n → okL (ls.getD i [])) (hb : ∀ i, i < n → (ls.getD i []).length ≤ 1000) :
    Calls Tryz.prog 76 #[.slice (some ⟨g, 0, none⟩) n c] w (SetP ls.flatten w) := by
  have hmm := @run_makeMap Tryz.prog
  have HC := Lib.hid hc
  have HR := Lib.hid hr
  have HOK := Lib.hid hok
  have HB := Lib.hid hb
  have H2 := Lib.hid h2
  have hM0 : (w.alloc (.map #[] 0)).ownsMap (H := Unit) Tryz.prog 37 unitElem w.heap.size 0 (.map []) := World.ownsMap_made _ _ _ _
  have HM0 := Lib.hid hM0
  have HW0 : Hid (Below w.heap.size w (w.alloc (.map #[] 0))) := Lib.hid ((Below.refl _ _).alloc (Nat.le_refl _) _)
  clear hc hr hok hb h2 h1 hM0
  go_enter Tryz.func76, Tryz.ntmps76
  go_wp2_with fail
  go_loopw [11] (fun i wr => ∃ (k : Nat) (D : DataW Unit) (m : Nat), k ≤ n ∧ i = .int .i64 k ∧ Hid (m ≤ k * 1000) ∧ Hid (wr.ownsMap (H := Unit) Tryz.prog 37 unitElem w.heap.size m D) ∧ Hid (SetIs D (ls.take k).flatten) ∧ Hid (Below w.heap.size w wr)) (fun i _ => n - (intOf i).toNat)
  case atStart => exact ⟨0, _, 0, Nat.zero_le _, rfl, Lib.hid (Nat.zero_le _), HM0, Lib.hid SetIs.empty, HW0⟩
  case round =>
    clear HM0 HW0
    obtain ⟨k, D, m, hk, rfl, hmk, hM, hS, hB⟩ := hrel
    by_cases hlt : k < n
    · have hlt' : (k : Int) < (n : Int) := by omega
      have hkb : (k : Int) ≤ 10 := by omega
      have hz := hB.out.size
      have hc := (hB.out.cell (p := ⟨g, k, none⟩) hg).trans (HC.out k hlt)
      have hrd := HR.out k hlt
      obtain ⟨v, hv⟩ : ∃ v, vs.getD k undef = v := ⟨_, rfl⟩
      obtain ⟨l, hl⟩ : ∃ l, ls.getD k [] = l := ⟨_, rfl⟩
      have hok := HOK.out k hlt
      have hln := HB.out k hlt
      rw [hv] at hc
      rw [hv, hl] at hrd
      rw [hl] at hok hln
      obtain ⟨a, cc, hve⟩ := hrd.slice
      subst hve
      obtain ⟨N, hN⟩ : ∃ N, l.length = N := ⟨_, rfl⟩
      rw [hN] at hrd hc hln
      have HL : Hid (l = ls.getD k []) := Lib.hid hl.symm
      have HN := Lib.hid hN
      have HRD := Lib.hid hrd
      have HOKL := Lib.hid hok
      clear hl hN hrd hok hv
      go_wp2_with fail
      clear hc
      obtain ⟨wo, hwo⟩ : ∃ wo : World, wo = wr := ⟨_, rfl⟩
      subst hwo
      go_loopw [17] (fun i wr => ∃ (j : Nat) (D : DataW Unit) (m : Nat), j ≤ N ∧ i = .int .i64 j ∧ Hid (m ≤ k * 1000 + j) ∧ Hid (wr.ownsMap (H := Unit) Tryz.prog 37 unitElem w.heap.size m D) ∧ Hid (SetIs D ((ls.take k).flatten ++ l.take j)) ∧ Hid (Below w.heap.size w wr)) (fun i _ => N - (intOf i).toNat)
      case atStart => exact ⟨0, D, m, Nat.zero_le _, rfl, hmk, hM, Lib.hid (by simpa using hS.out), hB⟩
      case round =>
        clear hM hS hB hmk hz
        obtain ⟨j, D, m, hj, rfl, hmj, hM, hS, hB⟩ := hrel
        by_cases hltj : j < N
        · have hltj' : (j : Int) < (N : Int) := by omega
          have hjb : (j : Int) ≤ 1000 := by omega
          obtain ⟨e0, g2, off2, ha, hg2, q1, q2, q3, hjl⟩ := idCell (HRD.out.below hB.out) j hltj
          obtain ⟨X, hX⟩ : ∃ X, l.getD j (0, 0, 0) = X := ⟨_, rfl⟩
          rw [hX] at q1 q2 q3
          have hXm : X ∈ l := by rw [← hX]; simp [List.getD, hjl]
          have HKX := Lib.hid (HOKL.out X hXm)
          have HKEY := Lib.hid (kf_key (HOKL.out X hXm))
          have HTK : Hid (l.take j ++ [X] = l.take (j + 1)) := Lib.hid (by rw [List.take_succ_eq_append_getElem hjl, ← hX]; simp [List.getD, hjl])
          have hm' : m < maxLen := by have := hmj.out; unfold maxLen; omega
          have hbs : w.heap.size ≤ wr.heap.size := hB.out.size
          subst ha
          clear hX hXm hjl e0
          go_wp2_with (at_mapUpdate; refine wpList_mapUpdate_own _ rfl _ _ _ 115 rfl 37 135 idLaw Tryz.underlying115 unitElem w.heap.size m _ rfl (hM.out.alloc _) hm' _ _ (kf X) rfl rfl HKEY.out (.agg []) [] unitElem_mk ?_)
          intro w6 hown6 hg6
          have hM6 := Lib.hid hown6
          have hS6 : Hid (SetIs (D.put (kf X) (.agg [])) ((ls.take k).flatten ++ l.take (j + 1))) := Lib.hid (by
            rw [← HTK.out, ← List.append_assoc]
            exact hS.out.put HKX.out _)
          have hB6 : Hid (Below w.heap.size w w6) := Lib.hid ((hB.out.alloc hbs _).grown hg6 (by simp; omega) (fun i hi => by simp only [Option.some.injEq] at hi; omega))
          have hmj6 : Hid (m + 1 ≤ k * 1000 + (j + 1)) := Lib.hid (by have := hmj.out; omega)
          clear hown6 hg6 hM hS hB hmj hm' q1 q2 q3 hg2 hbs
          go_wp2
          go_roundw
          case rel => exact ⟨j + 1, _, _, by omega, by go_num, hmj6, hM6, hS6, hB6⟩
          case measure => simp [intOf]; omega
        · obtain rfl : j = N := by omega
          have hS2 : Hid (SetIs D (ls.take (k + 1)).flatten) := Lib.hid (by
            have h := hS.out
            rw [List.take_of_length_le (l := l) (by rw [HN.out]; exact Nat.le_refl _)] at h
            have hk2 : k < ls.length := by rw [H2.out]; exact hlt
            rw [List.take_succ_eq_append_getElem hk2, List.flatten_append]
            have e : [ls[k]].flatten = l := by rw [HL.out]; simp [List.getD, hk2]
            rw [e]
            exact h)
          have hmk2 : Hid (m ≤ (k + 1) * 1000) := Lib.hid (by have := hmj.out; rw [Nat.add_mul]; omega)
          clear hS hmj
          go_wp2
          go_roundw
          case rel => exact ⟨k + 1, D, m, by omega, by go_num, hmk2, hM, hS2, hB⟩
          case measure => simp [intOf]; omega
    · obtain rfl : k = n := by omega
      have hS2 : SetIs D ls.flatten := by
        have h := hS.out
        rwa [List.take_of_length_le (by rw [H2.out]; exact Nat.le_refl _)] at h
      have HS2 := Lib.hid hS2
      clear hS hS2
      go_wp2
      go_ret
      exact ⟨rfl, ⟨D, m, by have := hmk.out; omega, hM.out, HS2.out⟩, hB.out⟩
end Go.Proofs.YtchhcaoondfpiaaGreat
