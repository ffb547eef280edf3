/-
  The walks of ids' Has, Right; the document's Has, Right, Row.
-/
import Derived.Test.YtfngjdcagopapaaIds6
import Derived.Deep.QuietTactic
import Derived.BigQuiet
namespace Go.Proofs.Ytfngjdcagopapaa
open Go.RowKit Go.Sort Go.Shelf Go.Lib
set_option linter.unusedSimpArgs false
set_option linter.unusedVariables false

/-- Two instances compared. -/
theorem eqI_run (a1 a2 a3 b1 b2 b3 : Int) : (∀ w, Sem.run Try.prog (binOp .eql 26 (.agg #[.int .i64 a1, .int .i64 a2, .int .i64 a3]) (.agg #[.int .i64 b1, .int .i64 b2, .int .i64 b3])) w = .ok (.bool (decide (((a1, a2, a3) : I3) = (b1, b2, b3)))) w) ∧
    (∀ op x y w, Sem.run Try.prog (eqGuard op 26 x y (.agg #[.int .i64 a1, .int .i64 a2, .int .i64 a3]) (.agg #[.int .i64 b1, .int .i64 b2, .int .i64 b3])) w = .ok () w) :=
  ⟨fun w => eqIds.1 (a1, a2, a3) (b1, b2, b3) w, fun op x y w => eqIds.2 op x y (a1, a2, a3) (b1, b2, b3) w⟩
theorem index_none (a : Option Addr) (c : Nat) (x1 x2 x3 : Int) (w : World) :
    Calls Try.prog 31 #[.slice a 0 c, .agg #[.int .i64 x1, .int .i64 x2, .int .i64 x3]] w fun e w' => e = .returned (.int .i64 (-1)) ∧ Grew w w' := by
  go_enter Try.func31, Try.ntmps31
  go_wp2
  refine wp_loop_rounds 1 ?_
  rw [rounds_succ]
  go_wp2
  go_ret
  exact ⟨rfl, grew_alloc _ _⟩
set_option maxRecDepth 100000 in
theorem has_any (v : Value) (l : List I3) (x1 x2 x3 : Int) (w : World) (h : IK.Rd w v l) (hn : l.length ≤ 1000) :
    Calls Try.prog 11 #[v, .agg #[.int .i64 x1, .int .i64 x2, .int .i64 x3]] w fun e w' => e = .returned (.bool (hasI l (x1, x2, x3))) ∧ Below w.heap.size w w' := by
  obtain ⟨a, c, e⟩ := h.slice
  subst e
  by_cases h0 : l = []
  · subst h0
    have hI := fun W => index_none a c x1 x2 x3 W
    have HI := Lib.hid hI
    clear h hI
    have hc : ∀ W : World, Calls Try.prog 22 #[.slice a 0 c, .agg #[.int .i64 x1, .int .i64 x2, .int .i64 x3]] W fun e w' => e = .returned (.bool false) ∧ Grew W w' := by
      intro W
      go_enter Try.func22, Try.ntmps22
      go_wp2_with fail
      refine (HI.out _).mono ?_
      rintro e w1 ⟨rfl, hg⟩
      have HG := Lib.hid hg
      clear hg
      go_wp2
      go_ret
      exact ⟨rfl, (grew_alloc _ _).trans HG.out⟩
    have HC := Lib.hid hc
    clear hc HI
    show Calls Try.prog _ #[.slice a 0 c, _] w _
    go_enter Try.func11, Try.ntmps11
    go_wp2_with fail
    refine (HC.out _).mono ?_
    rintro e w1 ⟨rfl, hg⟩
    have HG := Lib.hid hg
    clear hg
    go_wp2
    go_ret
    exact ⟨rfl, ((grew_alloc _ _).trans HG.out).below⟩
  · obtain ⟨_, g, off, rfl, hg, hc⟩ := h.at h0
    have hB : Below w.heap.size w (w.alloc (.cells #[.int .i64 x1, .int .i64 x2, .int .i64 x3] 26)) := (Below.refl _ _).alloc (Nat.le_refl _) _
    have hcon := AnyQ.slices_Contains Try.containsIds 3 Try.isAgg26 Try.sizeOf26 idE (fun _ => rfl) (fun x y => decide (x = y)) eqIds g off l.length c l (x1, x2, x3) (w.alloc (.cells #[.int .i64 x1, .int .i64 x2, .int .i64 x3] 26)) (Nat.le_refl _) (by omega)
      (fun j hj i v hv => (hB.cell (p := ⟨g, off + j * 3 + i, none⟩) hg).trans (hc j hj i v (by
        have e : l.getD j IK.d = l[j]! := by rw [getElem!_pos l j hj]; simp [List.getD, hj]
        rw [e]
        exact hv)))
    change Calls Try.prog 22 _ _ _ at hcon
    rw [List.take_length] at hcon
    have e : (l.any fun y => decide ((x1, x2, x3) = y)) = hasI l (x1, x2, x3) := by unfold hasI; congr 1; funext y; rw [decide_eq_decide]; exact eq_comm
    rw [e] at hcon
    obtain ⟨R, hR⟩ : ∃ R, hasI l (x1, x2, x3) = R := ⟨_, rfl⟩
    rw [hR] at hcon ⊢
    obtain ⟨N, hN⟩ : ∃ N, l.length = N := ⟨_, rfl⟩
    rw [hN] at hcon ⊢
    have HCON := Lib.hid hcon
    have HB := Lib.hid hB
    clear hcon hB hc hR e h hN hn
    go_enter Try.func11, Try.ntmps11
    go_wp2_with fail
    refine HCON.out.mono ?_
    rintro e w1 ⟨rfl, hg⟩
    have HG := Lib.hid hg
    clear hg
    go_wp2
    go_ret
    exact ⟨rfl, HB.out.trans (HG.out.mono (by simp))⟩
end Go.Proofs.Ytfngjdcagopapaa
