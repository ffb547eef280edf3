/-
  The examples of the document for package ballot come out true.
-/
import Derived.Test.YtckjlglinmmohabBal3
namespace Go.Proofs.Ytckjlglinmmohab
open Go.RowKit
set_option linter.unusedSimpArgs false
set_option linter.unusedVariables false

theorem quo3 (w : World) : Calls Try.prog 28 #[.int .i64 3] w fun e w' => e = .returned (.int .i64 2) ∧ w = w' := quorum_any 3 w (by decide)
theorem quo4 (w : World) : Calls Try.prog 28 #[.int .i64 4] w fun e w' => e = .returned (.int .i64 3) ∧ w = w' := quorum_any 4 w (by decide)
theorem quo5 (w : World) : Calls Try.prog 28 #[.int .i64 5] w fun e w' => e = .returned (.int .i64 3) ∧ w = w' := quorum_any 5 w (by decide)
theorem row2 {w : World} {b : Nat} {x y : Int} (h : b < w.heap.size) (h0 : w.cell? ⟨b, 0, none⟩ = some (.int .i64 x)) (h1 : w.cell? ⟨b, 1, none⟩ = some (.int .i64 y)) : IRow w (some ⟨b, 0, none⟩) [x, y] :=
  ⟨by simp, .inr ⟨b, 0, rfl, h, fun i hi => by
    have : i = 0 ∨ i = 1 := by simp at hi; omega
    rcases this with rfl | rfl
    · simpa using h0
    · simpa using h1⟩⟩
theorem row3 {w : World} {b : Nat} {x y z : Int} (h : b < w.heap.size) (h0 : w.cell? ⟨b, 0, none⟩ = some (.int .i64 x)) (h1 : w.cell? ⟨b, 1, none⟩ = some (.int .i64 y)) (h2 : w.cell? ⟨b, 2, none⟩ = some (.int .i64 z)) : IRow w (some ⟨b, 0, none⟩) [x, y, z] :=
  ⟨by simp, .inr ⟨b, 0, rfl, h, fun i hi => by
    have : i = 0 ∨ i = 1 ∨ i = 2 := by simp at hi; omega
    rcases this with rfl | rfl | rfl
    · simpa using h0
    · simpa using h1
    · simpa using h2⟩⟩
theorem enough31 (a a2 : Option Addr) (w : World) (hr : IRow w a [1, 2, 3]) (hr2 : IRow w a2 [3, 1]) :
    Calls Try.prog 30 #[.agg #[.int .i64 0, .slice a 3 3], .slice a2 2 2] w fun e w' => e = .returned (.bool true) ∧ Below w.heap.size w w' :=
  (enough_any 0 a a2 3 2 [1, 2, 3] [3, 1] w hr hr2).mono fun e w' h => ⟨h.1.trans (ret_bool (by decide)), h.2⟩
theorem all31 (a a2 : Option Addr) (w : World) (hr : IRow w a [1, 2, 3]) (hr2 : IRow w a2 [3, 1]) :
    Calls Try.prog 31 #[.agg #[.int .i64 0, .slice a 3 3], .slice a2 2 2] w fun e w' => e = .returned (.bool false) ∧ Below w.heap.size w w' :=
  (all_any 0 a a2 3 2 [1, 2, 3] [3, 1] w hr hr2).mono fun e w' h => ⟨h.1.trans (ret_bool (by decide)), h.2⟩
theorem less22 (w : World) : Calls Try.prog 19 #[pr 2 1, pr 2 2] w fun e w' => e = .returned (.bool true) ∧ Below w.heap.size w w' :=
  (less_any 2 1 2 2 w).mono fun e w' h => ⟨h.1.trans (ret_bool (by decide)), h.2⟩
theorem next7 (w : World) : Calls Try.prog 24 #[pr 2 1, .int .i64 7] w fun e w' => e = .returned (pr 3 7) ∧ Below w.heap.size w w' :=
  (next_any 2 1 7 w).mono fun e w' h => ⟨h.1.trans (by rw [show wrap64 (2 + 1) = 3 from by simp [wrap64]]), h.2⟩
theorem valid21 (w : World) : Calls Try.prog 25 #[pr 2 1] w fun e w' => e = .returned (.bool true) ∧ Below w.heap.size w w' :=
  (valid_any 2 1 w).mono fun e w' h => ⟨h.1.trans (ret_bool (by decide)), h.2⟩
theorem most21 (w : World) : Calls Try.prog 21 #[pr 2 1, pr 0 0] w fun e w' => e = .returned (pr 2 1) ∧ Below w.heap.size w w' :=
  (most_any 2 1 0 0 w).mono fun e w' h => ⟨h.1.trans (by rw [show mo1 2 1 0 0 = 2 from by decide, show mo2 2 1 0 0 = 1 from by decide]), h.2⟩

/-- Where the cells of the two variables and of the list lie, and that all is as it was. -/
def WS (w w' : World) : Prop :=
  w'.cell? ⟨w.heap.size, 0, none⟩ = some (.int .i64 1) ∧ w'.cell? ⟨w.heap.size, 1, none⟩ = some (.int .i64 2) ∧ w'.cell? ⟨w.heap.size, 2, none⟩ = some (.int .i64 3) ∧
  w'.cell? ⟨w.heap.size + 1, 0, none⟩ = some (.int .i64 0) ∧ w'.cell? ⟨w.heap.size + 1, 1, none⟩ = some (.slice (some ⟨w.heap.size, 0, none⟩) 3 3) ∧
  w'.cell? ⟨w.heap.size + 1 + 1, 0, none⟩ = some (.int .i64 2) ∧ w'.cell? ⟨w.heap.size + 1 + 1, 1, none⟩ = some (.int .i64 1) ∧
  w.heap.size + 1 + 1 + 1 ≤ w'.heap.size ∧ Below w.heap.size w w'
theorem WS.below {w w0 w1 : World} (h : WS w w0) (hb : Below w0.heap.size w0 w1) : WS w w1 := by
  obtain ⟨h0, h1, h2, h3, h4, h5, h6, h7, h8⟩ := h
  have hs := hb.size
  refine ⟨(hb.cell (p := ⟨w.heap.size, 0, none⟩) ?_).trans h0, (hb.cell (p := ⟨w.heap.size, 1, none⟩) ?_).trans h1, (hb.cell (p := ⟨w.heap.size, 2, none⟩) ?_).trans h2, (hb.cell (p := ⟨w.heap.size + 1, 0, none⟩) ?_).trans h3, (hb.cell (p := ⟨w.heap.size + 1, 1, none⟩) ?_).trans h4,
    (hb.cell (p := ⟨w.heap.size + 1 + 1, 0, none⟩) ?_).trans h5, (hb.cell (p := ⟨w.heap.size + 1 + 1, 1, none⟩) ?_).trans h6, by omega, h8.trans (hb.mono (by omega))⟩
  all_goals (show _ < _; simp only; omega)
theorem WS.drew {w w0 : World} (h : WS w w0) : WS w w0.drew := h.below ((Below.refl _ _).drew)
theorem WS.alloc {w w0 : World} (h : WS w w0) (o : Obj) : WS w (w0.alloc o) := h.below ((Below.refl _ _).alloc (Nat.le_refl _) o)
theorem WS.row {w w0 : World} (h : WS w w0) : IRow w0 (some ⟨w.heap.size, 0, none⟩) [1, 2, 3] := by
  obtain ⟨h0, h1, h2, h3, h4, h5, h6, h7, h8⟩ := h
  exact row3 (by omega) h0 h1 h2

theorem WS.parts {w w' : World} (h : WS w w') : w'.cell? ⟨w.heap.size + 1, 0, none⟩ = some (.int .i64 0) ∧ w'.cell? ⟨w.heap.size + 1, 1, none⟩ = some (.slice (some ⟨w.heap.size, 0, none⟩) 3 3) ∧
    w'.cell? ⟨w.heap.size + 1 + 1, 0, none⟩ = some (.int .i64 2) ∧ w'.cell? ⟨w.heap.size + 1 + 1, 1, none⟩ = some (.int .i64 1) ∧ WS w w' :=
  ⟨h.2.2.2.1, h.2.2.2.2.1, h.2.2.2.2.2.1, h.2.2.2.2.2.2.1, h⟩
theorem ws_start (w : World) : WS w (((w.alloc (Obj.cells #[Value.int IntKind.i64 1, Value.int IntKind.i64 2, Value.int IntKind.i64 3] 3)).alloc
      (Obj.cells #[Value.int IntKind.i64 0, Value.slice (some { block := w.heap.size, off := 0 }) 3 3] 54)).alloc (Obj.cells #[Value.int IntKind.i64 2, Value.int IntKind.i64 1] 43)) := by
  refine ⟨?_, ?_, ?_, ?_, ?_, ?_, ?_, by simp, (((Below.refl _ _).alloc (Nat.le_refl _) _).alloc (by simp) _).alloc (by simp; omega) _⟩
  all_goals simp [go_sem]

set_option maxHeartbeats 4000000 in
theorem works_any (w : World) : Calls Try.prog 18 #[] w fun e w' => e = .returned (.bool true) ∧ Below w.heap.size w w' := by
  have H0 := Lib.hid (ws_start w)
  go_enter Try.func18, Try.ntmps18
  go_wp2
  go_region_held3 (fun w' => w'.cell? ⟨w.heap.size + 1, 0, none⟩ = some (.int .i64 0) ∧ w'.cell? ⟨w.heap.size + 1, 1, none⟩ = some (.slice (some ⟨w.heap.size, 0, none⟩) 3 3) ∧
    w'.cell? ⟨w.heap.size + 1 + 1, 0, none⟩ = some (.int .i64 2) ∧ w'.cell? ⟨w.heap.size + 1 + 1, 1, none⟩ = some (.int .i64 1) ∧ WS w w')
    (first | exact H0.out.parts | exact H0.out.drew.parts | (go_split_ands; first | exact WS.parts (WS.below (by assumption) (by assumption)) | exact WS.parts (WS.alloc (by assumption) _) | exact WS.parts (WS.drew (by assumption)) | exact WS.parts (by assumption)))
    (first
      | (go_at_call_of 28 (Value.int .i64 3); refine (quo3 _).mono ?_; rintro e w1 ⟨rfl, rfl⟩)
      | (go_at_call_of 28 (Value.int .i64 4); refine (quo4 _).mono ?_; rintro e w1 ⟨rfl, rfl⟩)
      | (go_at_call_of 28 (Value.int .i64 5); refine (quo5 _).mono ?_; rintro e w1 ⟨rfl, rfl⟩)
      | (go_at_call 30; go_split_ands; refine (enough31 _ _ _ (WS.row (by assumption)) (row2 (by simp) (by simp [go_sem]) (by simp [go_sem]))).mono ?_; rintro e w1 ⟨rfl, hb⟩)
      | (go_at_call 31; go_split_ands; refine (all31 _ _ _ (WS.row (by assumption)) (row2 (by simp) (by simp [go_sem]) (by simp [go_sem]))).mono ?_; rintro e w1 ⟨rfl, hb⟩)
      | (go_at_call 19; refine (less22 _).mono ?_; rintro e w1 ⟨rfl, hb⟩)
      | (go_at_call 24; refine (next7 _).mono ?_; rintro e w1 ⟨rfl, hb⟩)
      | (go_at_call 23; refine (first_any 0 4 0 _).mono ?_; rintro e w1 ⟨rfl, hb⟩)
      | (go_at_call 25; refine (valid21 _).mono ?_; rintro e w1 ⟨rfl, hb⟩)
      | (go_at_call 21; refine (most21 _).mono ?_; rintro e w1 ⟨rfl, hb⟩))
  all_goals
    go_split_ands
    go_wp2
    go_ret
    exact ⟨rfl, (by assumption : WS w _).2.2.2.2.2.2.2.2⟩
end Go.Proofs.Ytckjlglinmmohab
