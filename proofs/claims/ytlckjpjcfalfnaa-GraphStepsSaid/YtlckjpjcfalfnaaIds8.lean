/-
  The walks of the document's Has, Row, Right; ids' Right.
-/
import Derived.Test.YtlckjpjcfalfnaaIds7
namespace Go.Proofs.Ytlckjpjcfalfnaa
open Go.RowKit Go.Sort Go.Shelf Go.Lib
set_option linter.unusedSimpArgs false
set_option linter.unusedVariables false

/-- Two instances held apart. -/
theorem neI_run (a1 a2 a3 b1 b2 b3 : Int) : (∀ w, Sem.run Try.prog (binOp .neq 25 (.agg #[.int .i64 a1, .int .i64 a2, .int .i64 a3]) (.agg #[.int .i64 b1, .int .i64 b2, .int .i64 b3])) w = .ok (.bool (!decide (((a1, a2, a3) : I3) = (b1, b2, b3)))) w) ∧
    (∀ op x y w, Sem.run Try.prog (eqGuard op 25 x y (.agg #[.int .i64 a1, .int .i64 a2, .int .i64 a3]) (.agg #[.int .i64 b1, .int .i64 b2, .int .i64 b3])) w = .ok () w) := by
  refine ⟨fun w => ?_, (eqI_run a1 a2 a3 b1 b2 b3).2⟩
  have h := (eqI_run a1 a2 a3 b1 b2 b3).1 w
  rw [run_eql_struct] at h
  rw [run_neq_struct]
  revert h
  generalize Sem.run Try.prog (Op.equalIn 10000 25 (.agg #[.int .i64 a1, .int .i64 a2, .int .i64 a3]) (.agg #[.int .i64 b1, .int .i64 b2, .int .i64 b3])) w = r
  intro h
  cases r with
  | ok v w' => simp [Result.andThen] at h ⊢; simp [h]
  | halt x w' => simp [Result.andThen] at h
theorem getD_mem {l : List I3} {k : Nat} {X : I3} (hX : l.getD k (0, 0, 0) = X) (hk : k < l.length) : X ∈ l := by
  rw [← hX]; simp [List.getD, hk]
set_option maxRecDepth 100000 in
set_option maxHeartbeats 1000000 in
theorem rhas_any (v : Value) (l : List I3) (x1 x2 x3 : Int) (w : World) (h : IK.Rd w v l) (hn : l.length ≤ 10000) :
    Calls Try.prog 33 #[v, .agg #[.int .i64 x1, .int .i64 x2, .int .i64 x3]] w fun e w' => e = .returned (.bool (hasI l (x1, x2, x3))) ∧ Below w.heap.size w w' := by
  obtain ⟨a, c, e⟩ := h.slice
  subst e
  obtain ⟨N, hN⟩ : ∃ N, l.length = N := ⟨_, rfl⟩
  obtain ⟨R, hR⟩ : ∃ R, hasI l (x1, x2, x3) = R := ⟨_, rfl⟩
  rw [hN] at h hn ⊢
  rw [hR]
  have HN := Lib.hid hN
  have HR := Lib.hid hR
  have HRD := Lib.hid h
  have hbx : Below w.heap.size w (w.alloc (.cells #[.int .i64 x1, .int .i64 x2, .int .i64 x3] 25)) := (Below.refl _ _).alloc (Nat.le_refl _) _
  have hxc : ∀ j, (w.alloc (.cells #[.int .i64 x1, .int .i64 x2, .int .i64 x3] 25)).cell? ⟨w.heap.size, j, none⟩ = _ := fun j => new_cell w _ 25 j
  have HXC := Lib.hid hxc
  have HBX := Lib.hid hbx
  clear hN hR h hbx hxc
  go_enter Try.func33, Try.ntmps33
  go_wp2_with fail
  obtain ⟨W0, hW0⟩ : ∃ W0, w.alloc (.cells #[.int .i64 x1, .int .i64 x2, .int .i64 x3] 25) = W0 := ⟨_, rfl⟩
  rw [hW0] at HXC HBX ⊢
  have HZ0 : Hid (W0.heap.size = w.heap.size + 1) := Lib.hid (by rw [← hW0]; simp)
  clear hW0
  go_loopw [5] (fun i wr => ∃ k : Nat, k ≤ N ∧ i = .int .i64 k ∧ Hid (Below W0.heap.size W0 wr) ∧ Hid (∀ j, j < k → l.getD j (0, 0, 0) ≠ (x1, x2, x3))) (fun i _ => N - (intOf i).toNat)
  case atStart => exact ⟨0, Nat.zero_le _, rfl, Lib.hid (Below.refl _ _), Lib.hid (fun j hj => by omega)⟩
  case round =>
    obtain ⟨k, hk, rfl, hB, hF⟩ := hrel
    by_cases hlt : k < N
    · have hlt' : (k : Int) < (N : Int) := by omega
      have hkb : (k : Int) ≤ 10000 := by omega
      have hBw : Below w.heap.size w wr := HBX.out.trans (hB.out.mono (by rw [HZ0.out]; omega))
      obtain ⟨e0, g2, off2, hda, hg2, q1, q2, q3, hjl⟩ := idCell (HRD.out.below hBw) k hlt
      obtain ⟨⟨y1, y2, y3⟩, hX⟩ : ∃ X, l.getD k (0, 0, 0) = X := ⟨_, rfl⟩
      rw [hX] at q1 q2 q3
      have HX := Lib.hid hX
      have HXM := Lib.hid (getD_mem hX hjl)
      have hzr : w.heap.size < W0.heap.size := by rw [HZ0.out]; omega
      have p1 : wr.cell? ⟨w.heap.size, 0, none⟩ = some (.int .i64 x1) := (hB.out.cell (p := ⟨w.heap.size, 0, none⟩) hzr).trans (HXC.out 0)
      have p2 : wr.cell? ⟨w.heap.size, 1, none⟩ = some (.int .i64 x2) := (hB.out.cell (p := ⟨w.heap.size, 1, none⟩) hzr).trans (HXC.out 1)
      have p3 : wr.cell? ⟨w.heap.size, 2, none⟩ = some (.int .i64 x3) := (hB.out.cell (p := ⟨w.heap.size, 2, none⟩) hzr).trans (HXC.out 2)
      obtain ⟨he, hgd⟩ := eqI_run y1 y2 y3 x1 x2 x3
      subst hda
      have HBW := Lib.hid hBw
      cases hb : decide (((y1, y2, y3) : I3) = (x1, x2, x3)) with
      | true =>
        rw [hb] at he
        have HE := Lib.hid (of_decide_eq_true hb)
        clear hX hjl e0 hBw hzr hb
        go_wp2_with fail
        go_quiet (fail)
        go_wp2
        go_ret
        refine ⟨ret_bool ?_, below_drewN_q HBW.out _⟩
        rw [← HR.out]
        exact ((hasI_iff _ _).2 (by rw [← HE.out]; exact HXM.out)).symm
      | false =>
        rw [hb] at he
        have HF2 : Hid (∀ j, j < k + 1 → l.getD j (0, 0, 0) ≠ (x1, x2, x3)) := Lib.hid (fun j hj => by
          by_cases e : j = k
          · subst e; rw [HX.out]; exact of_decide_eq_false hb
          · exact hF.out j (by omega))
        clear hX hjl e0 hBw hzr hb
        go_wp2_with fail
        go_quiet (fail)
        go_wp2
        go_roundw
        case rel => exact ⟨k + 1, by omega, by go_num, Lib.hid (below_drewN_q hB.out _), HF2⟩
        case measure => simp [intOf]; omega
    · obtain rfl : k = N := by omega
      have hBw : Below w.heap.size w wr := HBX.out.trans (hB.out.mono (by rw [HZ0.out]; omega))
      have HBW := Lib.hid hBw
      clear hBw
      go_wp2
      go_ret
      refine ⟨ret_bool ?_, HBW.out⟩
      rw [← HR.out]
      symm
      rw [hasI_false]
      intro hm
      obtain ⟨j, hj, e⟩ := List.getElem_of_mem hm
      exact hF.out j (by rw [← HN.out]; exact hj) (by simp [List.getD, hj, e])
set_option maxRecDepth 100000 in
set_option maxHeartbeats 1000000 in
theorem row_any (va vb : Value) (a b : List I3) (w : World) (ha : IK.Rd w va a) (hb : IK.Rd w vb b) (na : a.length ≤ 10000) (nb : b.length ≤ 10000) :
    Calls Try.prog 17 #[va, vb] w fun e w' => e = .returned (.bool (decide (a = b))) ∧ Below w.heap.size w w' := by
  obtain ⟨aa, ca, e⟩ := ha.slice
  subst e
  obtain ⟨ab, cb, e⟩ := hb.slice
  subst e
  obtain ⟨N, hN⟩ : ∃ N, a.length = N := ⟨_, rfl⟩
  obtain ⟨M, hM⟩ : ∃ M, b.length = M := ⟨_, rfl⟩
  obtain ⟨R, hR⟩ : ∃ R, decide (a = b) = R := ⟨_, rfl⟩
  rw [hN] at ha na ⊢
  rw [hM] at hb nb ⊢
  rw [hR]
  have HN := Lib.hid hN
  have HM := Lib.hid hM
  have HR := Lib.hid hR
  have HA := Lib.hid ha
  have HB := Lib.hid hb
  clear hN hM hR ha hb
  by_cases hne : N = M
  · subst hne
    go_enter Try.func17, Try.ntmps17
    go_wp2_with fail
    go_loopw [5] (fun i wr => ∃ k : Nat, k ≤ N ∧ i = .int .i64 k ∧ Hid (Below w.heap.size w wr) ∧ Hid (∀ j, j < k → a.getD j (0, 0, 0) = b.getD j (0, 0, 0))) (fun i _ => N - (intOf i).toNat)
    case atStart => exact ⟨0, Nat.zero_le _, rfl, Lib.hid (Below.refl _ _), Lib.hid (fun j hj => by omega)⟩
    case round =>
      obtain ⟨k, hk, rfl, hBl, hF⟩ := hrel
      by_cases hlt : k < N
      · have hlt' : (k : Int) < (N : Int) := by omega
        have hkb : (k : Int) ≤ 10000 := by omega
        obtain ⟨e0, g2, off2, hda, hg2, q1, q2, q3, hjl⟩ := idCell (HA.out.below hBl.out) k hlt
        obtain ⟨e1, g3, off3, hdb, hg3, p1, p2, p3, hjm⟩ := idCell (HB.out.below hBl.out) k hlt
        obtain ⟨⟨y1, y2, y3⟩, hX⟩ : ∃ X, a.getD k (0, 0, 0) = X := ⟨_, rfl⟩
        obtain ⟨⟨x1, x2, x3⟩, hY⟩ : ∃ X, b.getD k (0, 0, 0) = X := ⟨_, rfl⟩
        rw [hX] at q1 q2 q3
        rw [hY] at p1 p2 p3
        have HX := Lib.hid hX
        have HY := Lib.hid hY
        have HJL := Lib.hid hjl
        have HJM := Lib.hid hjm
        obtain ⟨he, hgd⟩ := neI_run y1 y2 y3 x1 x2 x3
        subst hda
        subst hdb
        cases hb : decide (((y1, y2, y3) : I3) = (x1, x2, x3)) with
        | true =>
          rw [hb] at he
          have HF2 : Hid (∀ j, j < k + 1 → a.getD j (0, 0, 0) = b.getD j (0, 0, 0)) := Lib.hid (fun j hj => by
            by_cases e : j = k
            · subst e; rw [HX.out, HY.out]; exact of_decide_eq_true hb
            · exact hF.out j (by omega))
          clear hX hY hjl hjm e0 e1 hb
          go_wp2_with fail
          go_quiet (fail)
          go_wp2
          go_roundw
          case rel => exact ⟨k + 1, by omega, by go_num, Lib.hid (below_drewN_q hBl.out _), HF2⟩
          case measure => simp [intOf]; omega
        | false =>
          rw [hb] at he
          have HE := Lib.hid (of_decide_eq_false hb)
          clear hX hY hjl hjm e0 e1 hb
          go_wp2_with fail
          go_quiet (fail)
          go_wp2
          go_ret
          refine ⟨ret_bool ?_, below_drewN_q hBl.out _⟩
          rw [← HR.out]
          symm
          rw [decide_eq_false_iff_not]
          intro e
          exact HE.out (by rw [← HX.out, ← HY.out, e])
      · obtain rfl : k = N := by omega
        go_wp2
        go_ret
        refine ⟨ret_bool ?_, hBl.out⟩
        rw [← HR.out]
        symm
        rw [decide_eq_true_iff]
        refine List.ext_getElem (by rw [HN.out, HM.out]) fun j h1 h2 => ?_
        have := hF.out j (by rw [← HN.out]; exact h1)
        simpa [List.getD, h1, h2] using this
  · have hneI : ¬ (N : Int) = (M : Int) := by omega
    go_enter Try.func17, Try.ntmps17
    go_wp2
    go_ret
    refine ⟨ret_bool ?_, Below.refl _ _⟩
    rw [← HR.out]
    first
      | (symm; rw [decide_eq_false_iff_not]; intro e; exact hne (by rw [← HN.out, ← HM.out, e]))
      | (have : decide (a = b) = false := by rw [decide_eq_false_iff_not]; intro e; exact hne (by rw [← HN.out, ← HM.out, e])
         rw [this]; simp; omega)
      | fail
end Go.Proofs.Ytlckjpjcfalfnaa
