/-
  The walks of ids' Has, Right; the document's Has, Right, Row.
-/
import Derived.Test.YtfngjdcagopapaaGreatIds6
import Derived.Deep.QuietTactic
import Derived.BigQuiet
namespace Go.Proofs.YtfngjdcagopapaaGreat
open Go.RowKit Go.Sort Go.Shelf Go.Lib
set_option linter.unusedSimpArgs false
set_option linter.unusedVariables false

/-- Two instances compared. -/
theorem eqI_run (a1 a2 a3 b1 b2 b3 : Int) : (∀ w, Sem.run Tryz.prog (binOp .eql 24 (.agg #[.int .i64 a1, .int .i64 a2, .int .i64 a3]) (.agg #[.int .i64 b1, .int .i64 b2, .int .i64 b3])) w = .ok (.bool (decide (((a1, a2, a3) : I3) = (b1, b2, b3)))) w) ∧
    (∀ op x y w, Sem.run Tryz.prog (eqGuard op 24 x y (.agg #[.int .i64 a1, .int .i64 a2, .int .i64 a3]) (.agg #[.int .i64 b1, .int .i64 b2, .int .i64 b3])) w = .ok () w) :=
  ⟨fun w => eqIds.1 (a1, a2, a3) (b1, b2, b3) w, fun op x y w => eqIds.2 op x y (a1, a2, a3) (b1, b2, b3) w⟩
theorem index_none (a : Option Addr) (c : Nat) (x1 x2 x3 : Int) (w : World) :
    Calls Tryz.prog 51 #[.slice a 0 c, .agg #[.int .i64 x1, .int .i64 x2, .int .i64 x3]] w fun e w' => e = .returned (.int .i64 (-1)) ∧ Grew w w' := by
  go_enter Tryz.func51, Tryz.ntmps51
  go_wp2
  refine wp_loop_rounds 1 ?_
  rw [rounds_succ]
  go_wp2
  go_ret
  exact ⟨rfl, grew_alloc _ _⟩
set_option maxRecDepth 100000 in
theorem has_any (v : Value) (l : List I3) (x1 x2 x3 : Int) (w : World) (h : IK.Rd w v l) (hn : l.length ≤ 1000) :
    Calls Tryz.prog 32 #[v, .agg #[.int .i64 x1, .int .i64 x2, .int .i64 x3]] w fun e w' => e = .returned (.bool (hasI l (x1, x2, x3))) ∧ Below w.heap.size w w' := by
  obtain ⟨a, c, e⟩ := h.slice
  subst e
  by_cases h0 : l = []
  · subst h0
    have hI := fun W => index_none a c x1 x2 x3 W
    have HI := Lib.hid hI
    clear h hI
    have hc : ∀ W : World, Calls Tryz.prog 44 #[.slice a 0 c, .agg #[.int .i64 x1, .int .i64 x2, .int .i64 x3]] W fun e w' => e = .returned (.bool false) ∧ Grew W w' := by
      intro W
      go_enter Tryz.func44, Tryz.ntmps44
      go_wp2_with fail
      refine (HI.out _).mono ?_
      rintro e w1 ⟨rfl, hg⟩
      have HG := Lib.hid hg
      clear hg
      go_wp2
      go_ret
      exact ⟨rfl, (grew_alloc _ _).trans HG.out⟩
    have HC := Lib.hid hc
    clear hc HI
    show Calls Tryz.prog _ #[.slice a 0 c, _] w _
    go_enter Tryz.func32, Tryz.ntmps32
    go_wp2_with fail
    refine (HC.out _).mono ?_
    rintro e w1 ⟨rfl, hg⟩
    have HG := Lib.hid hg
    clear hg
    go_wp2
    go_ret
    exact ⟨rfl, ((grew_alloc _ _).trans HG.out).below⟩
  · obtain ⟨_, g, off, rfl, hg, hc⟩ := h.at h0
    have hB : Below w.heap.size w (w.alloc (.cells #[.int .i64 x1, .int .i64 x2, .int .i64 x3] 24)) := (Below.refl _ _).alloc (Nat.le_refl _) _
    have hcon := AnyQ.slices_Contains Tryz.containsIds 3 Tryz.isAgg24 Tryz.sizeOf24 idE (fun _ => rfl) (fun x y => decide (x = y)) eqIds g off l.length c l (x1, x2, x3) (w.alloc (.cells #[.int .i64 x1, .int .i64 x2, .int .i64 x3] 24)) (Nat.le_refl _) (by omega)
      (fun j hj i v hv => (hB.cell (p := ⟨g, off + j * 3 + i, none⟩) hg).trans (hc j hj i v (by
        have e : l.getD j IK.d = l[j]! := by rw [getElem!_pos l j hj]; simp [List.getD, hj]
        rw [e]
        exact hv)))
    change Calls Tryz.prog 44 _ _ _ at hcon
    rw [List.take_length] at hcon
    have e : (l.any fun y => decide ((x1, x2, x3) = y)) = hasI l (x1, x2, x3) := by unfold hasI; congr 1; funext y; rw [decide_eq_decide]; exact eq_comm
    rw [e] at hcon
    obtain ⟨R, hR⟩ : ∃ R, hasI l (x1, x2, x3) = R := ⟨_, rfl⟩
    rw [hR] at hcon ⊢
    obtain ⟨N, hN⟩ : ∃ N, l.length = N := ⟨_, rfl⟩
    rw [hN] at hcon ⊢
    have HCON := Lib.hid hcon
    have HB := Lib.hid hB
    clear hcon hB hc hR e h hN hn
    go_enter Tryz.func32, Tryz.ntmps32
    go_wp2_with fail
    refine HCON.out.mono ?_
    rintro e w1 ⟨rfl, hg⟩
    have HG := Lib.hid hg
    clear hg
    go_wp2
    go_ret
    exact ⟨rfl, HB.out.trans (HG.out.mono (by simp))⟩
end Go.Proofs.YtfngjdcagopapaaGreat
