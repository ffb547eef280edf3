/-
  Texts put together: Ids8, Ids9, IdsA, IdsB.
-/
import Derived.Test.YtlckjpjcfalfnaaIds7
import Derived.Deep.RegionHeld3
namespace Go.Proofs.Ytlckjpjcfalfnaa
open Go.RowKit Go.Sort Go.Shelf Go.Lib
set_option linter.unusedSimpArgs false
set_option linter.unusedVariables false

/-- Two instances held apart. -/
theorem neI_run (a1 a2 a3 b1 b2 b3 : Int) : (∀ w, Sem.run Try.prog (binOp .neq 25 (.agg #[.int .i64 a1, .int .i64 a2, .int .i64 a3]) (.agg #[.int .i64 b1, .int .i64 b2, .int .i64 b3])) w = .ok (.bool (!decide (((a1, a2, a3) : I3) = (b1, b2, b3)))) w) ∧
    (∀ op x y w, Sem.run Try.prog (eqGuard op 25 x y (.agg #[.int .i64 a1, .int .i64 a2, .int .i64 a3]) (.agg #[.int .i64 b1, .int .i64 b2, .int .i64 b3])) w = .ok () w) := by
  refine ⟨fun w => ?_, (eqI_run a1 a2 a3 b1 b2 b3).2⟩
  have h := (eqI_run a1 a2 a3 b1 b2 b3).1 w
  rw [run_eql_struct] at h
  rw [run_neq_struct]
  revert h
  generalize Sem.run Try.prog (Op.equalIn 10000 25 (.agg #[.int .i64 a1, .int .i64 a2, .int .i64 a3]) (.agg #[.int .i64 b1, .int .i64 b2, .int .i64 b3])) w = r
  intro h
  cases r with
  | ok v w' => simp [Result.andThen] at h ⊢; simp [h]
  | halt x w' => simp [Result.andThen] at h
theorem getD_mem {l : List I3} {k : Nat} {X : I3} (hX : l.getD k (0, 0, 0) = X) (hk : k < l.length) : X ∈ l := by
  rw [← hX]; simp [List.getD, hk]
set_option maxRecDepth 100000 in
set_option maxHeartbeats 1000000 in
theorem rhas_any (v : Value) (l : List I3) (x1 x2 x3 : Int) (w : World) (h : IK.Rd w v l) (hn : l.length ≤ 10000) :
    Calls Try.prog 33 #[v, .agg #[.int .i64 x1, .int .i64 x2, .int .i64 x3]] w fun e w' => e = .returned (.bool (hasI l (x1, x2, x3))) ∧ Below w.heap.size w w' := by
  obtain ⟨a, c, e⟩ := h.slice
  subst e
  obtain ⟨N, hN⟩ : ∃ N, l.length = N := ⟨_, rfl⟩
  obtain ⟨R, hR⟩ : ∃ R, hasI l (x1, x2, x3) = R := ⟨_, rfl⟩
  rw [hN] at h hn ⊢
  rw [hR]
  have HN := Lib.hid hN
  have HR := Lib.hid hR
  have HRD := Lib.hid h
  have hbx : Below w.heap.size w (w.alloc (.cells #[.int .i64 x1, .int .i64 x2, .int .i64 x3] 25)) := (Below.refl _ _).alloc (Nat.le_refl _) _
  have hxc : ∀ j, (w.alloc (.cells #[.int .i64 x1, .int .i64 x2, .int .i64 x3] 25)).cell? ⟨w.heap.size, j, none⟩ = _ := fun j => new_cell w _ 25 j
  have HXC := Lib.hid hxc
  have HBX := Lib.hid hbx
  clear hN hR h hbx hxc
  go_enter Try.func33, Try.ntmps33
  go_wp2_with fail
  obtain ⟨W0, hW0⟩ : ∃ W0, w.alloc (.cells #[.int .i64 x1, .int .i64 x2, .int .i64 x3] 25) = W0 := ⟨_, rfl⟩
  rw [hW0] at HXC HBX ⊢
  have HZ0 : Hid (W0.heap.size = w.heap.size + 1) := Lib.hid (by rw [← hW0]; simp)
  clear hW0
  go_loopw [5] (fun i wr => ∃ k : Nat, k ≤ N ∧ i = .int .i64 k ∧ Hid (Below W0.heap.size W0 wr) ∧ Hid (∀ j, j < k → l.getD j (0, 0, 0) ≠ (x1, x2, x3))) (fun i _ => N - (intOf i).toNat)
  case atStart => exact ⟨0, Nat.zero_le _, rfl, Lib.hid (Below.refl _ _), Lib.hid (fun j hj => by omega)⟩
  case round =>
    obtain ⟨k, hk, rfl, hB, hF⟩ := hrel
    by_cases hlt : k < N
    · have hlt' : (k : Int) < (N : Int) := by omega
      have hkb : (k : Int) ≤ 10000 := by omega
      have hBw : Below w.heap.size w wr := HBX.out.trans (hB.out.mono (by rw [HZ0.out]; omega))
      obtain ⟨e0, g2, off2, hda, hg2, q1, q2, q3, hjl⟩ := idCell (HRD.out.below hBw) k hlt
      obtain ⟨⟨y1, y2, y3⟩, hX⟩ : ∃ X, l.getD k (0, 0, 0) = X := ⟨_, rfl⟩
      rw [hX] at q1 q2 q3
      have HX := Lib.hid hX
      have HXM := Lib.hid (getD_mem hX hjl)
      have hzr : w.heap.size < W0.heap.size := by rw [HZ0.out]; omega
      have p1 : wr.cell? ⟨w.heap.size, 0, none⟩ = some (.int .i64 x1) := (hB.out.cell (p := ⟨w.heap.size, 0, none⟩) hzr).trans (HXC.out 0)
      have p2 : wr.cell? ⟨w.heap.size, 1, none⟩ = some (.int .i64 x2) := (hB.out.cell (p := ⟨w.heap.size, 1, none⟩) hzr).trans (HXC.out 1)
      have p3 : wr.cell? ⟨w.heap.size, 2, none⟩ = some (.int .i64 x3) := (hB.out.cell (p := ⟨w.heap.size, 2, none⟩) hzr).trans (HXC.out 2)
      obtain ⟨he, hgd⟩ := eqI_run y1 y2 y3 x1 x2 x3
      subst hda
      have HBW := Lib.hid hBw
      cases hb : decide (((y1, y2, y3) : I3) = (x1, x2, x3)) with
      | true =>
        rw [hb] at he
        have HE := Lib.hid (of_decide_eq_true hb)
        clear hX hjl e0 hBw hzr hb
        go_wp2_with fail
        go_quiet (fail)
        go_wp2
        go_ret
        refine ⟨ret_bool ?_, below_drewN_q HBW.out _⟩
        rw [← HR.out]
        exact ((hasI_iff _ _).2 (by rw [← HE.out]; exact HXM.out)).symm
      | false =>
        rw [hb] at he
        have HF2 : Hid (∀ j, j < k + 1 → l.getD j (0, 0, 0) ≠ (x1, x2, x3)) := Lib.hid (fun j hj => by
          by_cases e : j = k
          · subst e; rw [HX.out]; exact of_decide_eq_false hb
          · exact hF.out j (by omega))
        clear hX hjl e0 hBw hzr hb
        go_wp2_with fail
        go_quiet (fail)
        go_wp2
        go_roundw
        case rel => exact ⟨k + 1, by omega, by go_num, Lib.hid (below_drewN_q hB.out _), HF2⟩
        case measure => simp [intOf]; omega
    · obtain rfl : k = N := by omega
      have hBw : Below w.heap.size w wr := HBX.out.trans (hB.out.mono (by rw [HZ0.out]; omega))
      have HBW := Lib.hid hBw
      clear hBw
      go_wp2
      go_ret
      refine ⟨ret_bool ?_, HBW.out⟩
      rw [← HR.out]
      symm
      rw [hasI_false]
      intro hm
      obtain ⟨j, hj, e⟩ := List.getElem_of_mem hm
      exact hF.out j (by rw [← HN.out]; exact hj) (by simp [List.getD, hj, e])
set_option maxRecDepth 100000 in
set_option maxHeartbeats 1000000 in
theorem row_any (va vb : Value) (a b : List I3) (w : World) (ha : IK.Rd w va a) (hb : IK.Rd w vb b) (na : a.length ≤ 10000) (nb : b.length ≤ 10000) :
    Calls Try.prog 17 #[va, vb] w fun e w' => e = .returned (.bool (decide (a = b))) ∧ Below w.heap.size w w' := by
  obtain ⟨aa, ca, e⟩ := ha.slice
  subst e
  obtain ⟨ab, cb, e⟩ := hb.slice
  subst e
  obtain ⟨N, hN⟩ : ∃ N, a.length = N := ⟨_, rfl⟩
  obtain ⟨M, hM⟩ : ∃ M, b.length = M := ⟨_, rfl⟩
  obtain ⟨R, hR⟩ : ∃ R, decide (a = b) = R := ⟨_, rfl⟩
  rw [hN] at ha na ⊢
  rw [hM] at hb nb ⊢
  rw [hR]
  have HN := Lib.hid hN
  have HM := Lib.hid hM
  have HR := Lib.hid hR
  have HA := Lib.hid ha
  have HB := Lib.hid hb
  clear hN hM hR ha hb
  by_cases hne : N = M
  · subst hne
    go_enter Try.func17, Try.ntmps17
    go_wp2_with fail
    go_loopw [5] (fun i wr => ∃ k : Nat, k ≤ N ∧ i = .int .i64 k ∧ Hid (Below w.heap.size w wr) ∧ Hid (∀ j, j < k → a.getD j (0, 0, 0) = b.getD j (0, 0, 0))) (fun i _ => N - (intOf i).toNat)
    case atStart => exact ⟨0, Nat.zero_le _, rfl, Lib.hid (Below.refl _ _), Lib.hid (fun j hj => by omega)⟩
    case round =>
      obtain ⟨k, hk, rfl, hBl, hF⟩ := hrel
      by_cases hlt : k < N
      · have hlt' : (k : Int) < (N : Int) := by omega
        have hkb : (k : Int) ≤ 10000 := by omega
        obtain ⟨e0, g2, off2, hda, hg2, q1, q2, q3, hjl⟩ := idCell (HA.out.below hBl.out) k hlt
        obtain ⟨e1, g3, off3, hdb, hg3, p1, p2, p3, hjm⟩ := idCell (HB.out.below hBl.out) k hlt
        obtain ⟨⟨y1, y2, y3⟩, hX⟩ : ∃ X, a.getD k (0, 0, 0) = X := ⟨_, rfl⟩
        obtain ⟨⟨x1, x2, x3⟩, hY⟩ : ∃ X, b.getD k (0, 0, 0) = X := ⟨_, rfl⟩
        rw [hX] at q1 q2 q3
        rw [hY] at p1 p2 p3
        have HX := Lib.hid hX
        have HY := Lib.hid hY
        have HJL := Lib.hid hjl
        have HJM := Lib.hid hjm
        obtain ⟨he, hgd⟩ := neI_run y1 y2 y3 x1 x2 x3
        subst hda
        subst hdb
        cases hb : decide (((y1, y2, y3) : I3) = (x1, x2, x3)) with
        | true =>
          rw [hb] at he
          have HF2 : Hid (∀ j, j < k + 1 → a.getD j (0, 0, 0) = b.getD j (0, 0, 0)) := Lib.hid (fun j hj => by
            by_cases e : j = k
            · subst e; rw [HX.out, HY.out]; exact of_decide_eq_true hb
            · exact hF.out j (by omega))
          clear hX hY hjl hjm e0 e1 hb
          go_wp2_with fail
          go_quiet (fail)
          go_wp2
          go_roundw
          case rel => exact ⟨k + 1, by omega, by go_num, Lib.hid (below_drewN_q hBl.out _), HF2⟩
          case measure => simp [intOf]; omega
        | false =>
          rw [hb] at he
          have HE := Lib.hid (of_decide_eq_false hb)
          clear hX hY hjl hjm e0 e1 hb
          go_wp2_with fail
          go_quiet (fail)
          go_wp2
          go_ret
          refine ⟨ret_bool ?_, below_drewN_q hBl.out _⟩
          rw [← HR.out]
          symm
          rw [decide_eq_false_iff_not]
          intro e
          exact HE.out (by rw [← HX.out, ← HY.out, e])
      · obtain rfl : k = N := by omega
        go_wp2
        go_ret
        refine ⟨ret_bool ?_, hBl.out⟩
        rw [← HR.out]
        symm
        rw [decide_eq_true_iff]
        refine List.ext_getElem (by rw [HN.out, HM.out]) fun j h1 h2 => ?_
        have := hF.out j (by rw [← HN.out]; exact h1)
        simpa [List.getD, h1, h2] using this
  · have hneI : ¬ (N : Int) = (M : Int) := by omega
    go_enter Try.func17, Try.ntmps17
    go_wp2
    go_ret
    refine ⟨ret_bool ?_, Below.refl _ _⟩
    rw [← HR.out]
    first
      | (symm; rw [decide_eq_false_iff_not]; intro e; exact hne (by rw [← HN.out, ← HM.out, e]))
      | (have : decide (a = b) = false := by rw [decide_eq_false_iff_not]; intro e; exact hne (by rw [← HN.out, ← HM.out, e])
         rw [this]; simp; omega)
      | fail
end Go.Proofs.Ytlckjpjcfalfnaa
namespace Go.Proofs.Ytlckjpjcfalfnaa
open Go.RowKit Go.Sort Go.Shelf Go.Lib
set_option linter.unusedSimpArgs false
set_option linter.unusedVariables false

/-- Six cells that stay. -/
theorem keep6 {wr w' : World} {b1 b2 o1 o2 : Nat} {x1 x2 x3 y1 y2 y3 : Value} (hb1 : b1 < wr.heap.size) (hb2 : b2 < wr.heap.size) (d1 : wr.cell? ⟨b1, o1, none⟩ = some x1) (d2 : wr.cell? ⟨b1, o1 + 1, none⟩ = some x2) (d3 : wr.cell? ⟨b1, o1 + 2, none⟩ = some x3)
    (c1 : wr.cell? ⟨b2, o2, none⟩ = some y1) (c2 : wr.cell? ⟨b2, o2 + 1, none⟩ = some y2) (c3 : wr.cell? ⟨b2, o2 + 2, none⟩ = some y3) (hB : Below wr.heap.size wr w') :
    w'.cell? ⟨b1, o1, none⟩ = some x1 ∧ w'.cell? ⟨b1, o1 + 1, none⟩ = some x2 ∧ w'.cell? ⟨b1, o1 + 2, none⟩ = some x3 ∧ w'.cell? ⟨b2, o2, none⟩ = some y1 ∧ w'.cell? ⟨b2, o2 + 1, none⟩ = some y2 ∧ w'.cell? ⟨b2, o2 + 2, none⟩ = some y3 ∧ Below wr.heap.size wr w' :=
  ⟨(hB.cell (p := ⟨b1, o1, none⟩) hb1).trans d1, (hB.cell (p := ⟨b1, o1 + 1, none⟩) hb1).trans d2, (hB.cell (p := ⟨b1, o1 + 2, none⟩) hb1).trans d3, (hB.cell (p := ⟨b2, o2, none⟩) hb2).trans c1, (hB.cell (p := ⟨b2, o2 + 1, none⟩) hb2).trans c2, (hB.cell (p := ⟨b2, o2 + 2, none⟩) hb2).trans c3, hB⟩
end Go.Proofs.Ytlckjpjcfalfnaa
namespace Go.Proofs.Ytlckjpjcfalfnaa
open Go.RowKit Go.Sort Go.Shelf Go.Lib
set_option linter.unusedSimpArgs false
set_option linter.unusedVariables false

/-- One round of put. -/
def stpI (x : I3) (s : List I3 × Bool) (y : I3) : List I3 × Bool := if !s.2 && ltI x y then (s.1 ++ [x] ++ [y], true) else (s.1 ++ [y], s.2)
theorem stp_done (x : I3) : ∀ (l out : List I3), l.foldl (stpI x) (out, true) = (out ++ l, true)
  | [], out => by simp
  | y :: l, out => by
    rw [List.foldl_cons]
    have : stpI x (out, true) y = (out ++ [y], true) := by simp [stpI]
    rw [this, stp_done x l]
    simp
theorem stp_new (x : I3) : ∀ (l out : List I3), (if (l.foldl (stpI x) (out, false)).2 then (l.foldl (stpI x) (out, false)).1 else (l.foldl (stpI x) (out, false)).1 ++ [x]) = out ++ ((l.takeWhile fun y => !ltI x y) ++ x :: l.dropWhile fun y => !ltI x y)
  | [], out => by simp
  | y :: l, out => by
    rw [List.foldl_cons]
    cases q : ltI x y with
    | true =>
      have : stpI x (out, false) y = (out ++ [x] ++ [y], true) := by simp [stpI, q]
      rw [this, stp_done]
      simp [q]
    | false =>
      have : stpI x (out, false) y = (out ++ [y], false) := by simp [stpI, q]
      rw [this, stp_new x l]
      simp [q]
theorem stp_len (x : I3) : ∀ (l : List I3) (s : List I3 × Bool), (l.foldl (stpI x) s).1.length ≤ s.1.length + l.length + (if s.2 then 0 else 1)
  | [], s => by simp
  | y :: l, s => by
    rw [List.foldl_cons]
    have h := stp_len x l (stpI x s y)
    have h2 : (stpI x s y).1.length + (if (stpI x s y).2 then 0 else 1) ≤ s.1.length + 1 + (if s.2 then 0 else 1) := by
      unfold stpI
      split
      · rename_i q
        have : s.2 = false := by cases e : s.2 <;> simp [e] at q ⊢
        simp [this]
      · simp
    simp only [List.length_cons]
    omega
theorem putI_stp {l : List I3} {x : I3} (h : hasI l x = false) : putI l x = if (l.foldl (stpI x) ([], false)).2 then (l.foldl (stpI x) ([], false)).1 else (l.foldl (stpI x) ([], false)).1 ++ [x] := by
  rw [stp_new]
  unfold putI
  rw [h]
  simp
def PutP (b : Nat) (l : List I3) (w : World) (e : Ending) (w' : World) : Prop := ∃ v, Hid (e = .returned v) ∧ IK.Own w' b v l ∧ Below w.heap.size w w'
set_option maxRecDepth 100000 in
set_option maxHeartbeats 4000000 in
theorem put_any (b : Nat) (v : Value) (l : List I3) (x1 x2 x3 : Int) (w : World) (h : IK.Own w b v l) (hb : b ≤ w.heap.size) (hn : l.length ≤ 5000) :
    Calls Try.prog 54 #[v, .agg #[.int .i64 x1, .int .i64 x2, .int .i64 x3]] w (PutP b (putI l (x1, x2, x3)) w) := by
  have hbx : Below w.heap.size w (w.alloc (.cells #[.int .i64 x1, .int .i64 x2, .int .i64 x3] 25)) := (Below.refl _ _).alloc (Nat.le_refl _) _
  have hxc : ∀ j, (w.alloc (.cells #[.int .i64 x1, .int .i64 x2, .int .i64 x3] 25)).cell? ⟨w.heap.size, j, none⟩ = _ := fun j => new_cell w _ 25 j
  have hcon := rhas_any v l x1 x2 x3 _ (h.rd.below hbx) (by omega)
  obtain ⟨H, hH⟩ : ∃ H, hasI l (x1, x2, x3) = H := ⟨_, rfl⟩
  rw [hH] at hcon
  obtain ⟨a, c, e⟩ := h.slice
  subst e
  obtain ⟨N, hN⟩ : ∃ N, l.length = N := ⟨_, rfl⟩
  rw [hN] at hcon h hn ⊢
  obtain ⟨R, hR⟩ : ∃ R, putI l (x1, x2, x3) = R := ⟨_, rfl⟩
  rw [hR]
  have HR := Lib.hid hR
  have HN := Lib.hid hN
  have HO := Lib.hid h
  have HXC := Lib.hid hxc
  have HBX := Lib.hid hbx
  have HCON := Lib.hid hcon
  have HHH := Lib.hid hH
  have HBB := Lib.hid hb
  clear hN hR h hbx hxc hcon hH hb
  go_enter Try.func54, Try.ntmps54
  go_wp2_with fail
  refine HCON.out.mono ?_
  rintro e W1 ⟨rfl, hb1⟩
  simp only [World.size_alloc] at hb1
  obtain ⟨W0, hW0⟩ : ∃ W0, w.alloc (.cells #[.int .i64 x1, .int .i64 x2, .int .i64 x3] 25) = W0 := ⟨_, rfl⟩
  rw [hW0] at hb1 HXC HBX
  have HZ0 : Hid (W0.heap.size = w.heap.size + 1) := Lib.hid (by rw [← hW0]; simp)
  have HB1 : Hid (Below (w.heap.size + 1) W0 W1) := Lib.hid hb1
  clear HCON hb1 hW0
  cases H with
  | true =>
    have e : R = l := by rw [← HR.out]; unfold putI; rw [HHH.out]; rfl
    subst e
    have HBW : Hid (Below w.heap.size w W1) := Lib.hid (HBX.out.trans (HB1.out.mono (by omega)))
    go_wp2
    go_ret
    exact ⟨_, Lib.hid rfl, HO.out.below HBW.out, HBW.out⟩
  | false =>
    have HPU := Lib.hid (putI_stp HHH.out)
    have hz1 := HB1.out.size
    have hz0 := HZ0.out
    rw [hz0] at hz1
    go_wp2_with fail
    go_loopw [5, 6, 7] (fun o d i wr => ∃ (k : Nat) (vo : Value) (db : Bool) (ss : List I3), k ≤ N ∧ vo = o ∧ d = .bool db ∧ i = .int .i64 k ∧ Hid (IK.Own wr (w.heap.size + 1) vo ss) ∧ Hid ((l.take k).foldl (stpI (x1, x2, x3)) ([], false) = (ss, db)) ∧ Hid (Below (w.heap.size + 1) W0 wr)) (fun _ _ i _ => N - (intOf i).toNat)
    case atStart => exact ⟨0, _, false, [], Nat.zero_le _, rfl, rfl, rfl, Lib.hid (Knd.Own.nil _ _), Lib.hid rfl, HB1⟩
    case round =>
      clear hz1 hz0
      obtain ⟨k, vo, db, ss, hk, rfl, rfl, rfl, hO, hF, hB⟩ := hrel
      have hz0 := HZ0.out
      have hzr := hB.out.size
      rw [hz0] at hzr
      have hBw : Below w.heap.size w wr := HBX.out.trans (hB.out.mono (by omega))
      by_cases hlt : k < N
      · have hlt' : (k : Int) < (N : Int) := by omega
        have hkb : (k : Int) ≤ 5000 := by omega
        obtain ⟨e0, g2, off2, hda, hg2, q1, q2, q3, hjl⟩ := idCell (HO.out.rd.below hBw) k hlt
        obtain ⟨⟨y1, y2, y3⟩, hX⟩ : ∃ X, l.getD k (0, 0, 0) = X := ⟨_, rfl⟩
        rw [hX] at q1 q2 q3
        have hzx : w.heap.size < w.heap.size + 1 := by omega
        have p1 : wr.cell? ⟨w.heap.size, 0, none⟩ = some (.int .i64 x1) := (hB.out.cell (p := ⟨w.heap.size, 0, none⟩) hzx).trans (HXC.out 0)
        have p2 : wr.cell? ⟨w.heap.size, 1, none⟩ = some (.int .i64 x2) := (hB.out.cell (p := ⟨w.heap.size, 1, none⟩) hzx).trans (HXC.out 1)
        have p3 : wr.cell? ⟨w.heap.size, 2, none⟩ = some (.int .i64 x3) := (hB.out.cell (p := ⟨w.heap.size, 2, none⟩) hzx).trans (HXC.out 2)
        have HTK : Hid ((l.take (k + 1)).foldl (stpI (x1, x2, x3)) ([], false) = stpI (x1, x2, x3) (ss, db) (y1, y2, y3)) := Lib.hid (by
          rw [List.take_succ_eq_append_getElem hjl, List.foldl_append, hF.out]
          have : l[k] = (y1, y2, y3) := by rw [← hX]; simp [List.getD, hjl]
          rw [this]; rfl)
        have hsl := stp_len (x1, x2, x3) (l.take k) ([], false)
        rw [hF.out] at hsl
        simp at hsl
        have hss : ss.length + 1 ≤ 1000000 := by omega
        have HSL : Hid (ss.length ≤ 100000) := Lib.hid (by omega)
        have HBW := Lib.hid hBw
        have HX := Lib.hid hX
        subst hda
        clear hX hjl e0 hBw hsl hF
        have Q1 := Lib.hid q1
        have P1 := Lib.hid p1
        have Q2 := Lib.hid q2
        have P2 := Lib.hid p2
        have Q3 := Lib.hid q3
        have P3 := Lib.hid p3
        have hzw : w.heap.size < wr.heap.size := by omega
        cases db with
        | true =>
          have HT2 : Hid ((l.take (k + 1)).foldl (stpI (x1, x2, x3)) ([], false) = (ss ++ [(y1, y2, y3)], true)) := Lib.hid (by rw [HTK.out]; simp [stpI])
          go_wp2_with fail
          go_quiet (fail)
          generalize hwd : World.drewN wr _ = wd
          have hS : Hid (Below wr.heap.size wr wd) := Lib.hid (by rw [← hwd]; exact below_drewN_q (Below.refl _ _) _)
          clear hwd q1 q2 q3 p1 p2 p3
          have BN : Hid (Below (w.heap.size + 1) W0 wd) := Lib.hid (hB.out.trans (hS.out.mono (by have := hB.out.size; rw [HZ0.out] at this; omega)))
          have ON := Lib.hid (hO.out.below hS.out)
          have hzn := BN.out.size
          rw [HZ0.out] at hzn
          have q1 : wd.cell? ⟨g2, off2 + k * 3, none⟩ = some (.int .i64 y1) := (hS.out.cell (p := ⟨g2, off2 + k * 3, none⟩) hg2).trans Q1.out
          have q2 : wd.cell? ⟨g2, off2 + k * 3 + 1, none⟩ = some (.int .i64 y2) := (hS.out.cell (p := ⟨g2, off2 + k * 3 + 1, none⟩) hg2).trans Q2.out
          have q3 : wd.cell? ⟨g2, off2 + k * 3 + 2, none⟩ = some (.int .i64 y3) := (hS.out.cell (p := ⟨g2, off2 + k * 3 + 2, none⟩) hg2).trans Q3.out
          clear hB hO
          go_wp2_with (refine IK.app rfl _ _ rfl (w.heap.size + 1) vo ss rfl ?own _ [(y1, y2, y3)] rfl ?rd hss ?bs ?_)
          case own => exact ON.out.below ((Below.refl _ _).alloc (Nat.le_refl _) _)
          case rd => exact IK.rd_boxAt (y1, y2, y3) _ 1 _ _ (by simp)
          case bs => first | omega | (simp; omega) | fail
          intro v8 w8 ho hb hg hn
          have O8 := Lib.hid ho
          have B8 : Hid (Below (w.heap.size + 1) W0 w8) := Lib.hid ((BN.out.alloc (by have := BN.out.size; rw [HZ0.out] at this; omega) _).trans hb)
          clear ho hb hg hn
          clear q1 q2 q3 ON BN
          go_wp2
          go_roundw
          case rel => exact ⟨k + 1, v8, true, _, by omega, rfl, rfl, by go_num, O8, HT2, B8⟩
          case measure => simp [intOf]; omega
        | false =>
          have hcl := fun W => rless_any x1 x2 x3 y1 y2 y3 W
          obtain ⟨bl, hbl⟩ : ∃ bl, ltI (x1, x2, x3) (y1, y2, y3) = bl := ⟨_, rfl⟩
          rw [hbl] at hcl
          have HC := Lib.hid hcl
          have HBL := Lib.hid hbl
          clear hcl hbl
          cases bl with
          | false =>
            have HT2 : Hid ((l.take (k + 1)).foldl (stpI (x1, x2, x3)) ([], false) = (ss ++ [(y1, y2, y3)], false)) := Lib.hid (by rw [HTK.out]; simp [stpI, HBL.out])
            go_wp2_with fail
            go_region_held3 (fun w' => w'.cell? ⟨g2, off2 + k * 3, none⟩ = some (.int .i64 y1) ∧ w'.cell? ⟨g2, off2 + k * 3 + 1, none⟩ = some (.int .i64 y2) ∧ w'.cell? ⟨g2, off2 + k * 3 + 2, none⟩ = some (.int .i64 y3) ∧ w'.cell? ⟨w.heap.size, 0, none⟩ = some (.int .i64 x1) ∧ w'.cell? ⟨w.heap.size, 0 + 1, none⟩ = some (.int .i64 x2) ∧ w'.cell? ⟨w.heap.size, 0 + 2, none⟩ = some (.int .i64 x3) ∧ Below wr.heap.size wr w')
              (first
                | exact keep6 hg2 hzw q1 q2 q3 p1 p2 p3 (Below.refl _ _).drew
                | (go_split_ands; exact keep6 hg2 hzw q1 q2 q3 p1 p2 p3 (by assumption)))
              (first
                | (go_at_call 51; go_split_ands; refine (HC.out _).mono ?_; rintro e w7 ⟨rfl, hg7⟩; have hS7 : Below wr.heap.size wr w7 := below_self (by assumption) hg7.below)
                | fail)
            go_split_ands
            have hS := Lib.hid hS7
            clear hS7 hg7 q1 q2 q3 p1 p2 p3
            have BN : Hid (Below (w.heap.size + 1) W0 w7) := Lib.hid (hB.out.trans (hS.out.mono (by have := hB.out.size; rw [HZ0.out] at this; omega)))
            have ON := Lib.hid (hO.out.below hS.out)
            have hzn := BN.out.size
            rw [HZ0.out] at hzn
            have q1 : w7.cell? ⟨g2, off2 + k * 3, none⟩ = some (.int .i64 y1) := (hS.out.cell (p := ⟨g2, off2 + k * 3, none⟩) hg2).trans Q1.out
            have q2 : w7.cell? ⟨g2, off2 + k * 3 + 1, none⟩ = some (.int .i64 y2) := (hS.out.cell (p := ⟨g2, off2 + k * 3 + 1, none⟩) hg2).trans Q2.out
            have q3 : w7.cell? ⟨g2, off2 + k * 3 + 2, none⟩ = some (.int .i64 y3) := (hS.out.cell (p := ⟨g2, off2 + k * 3 + 2, none⟩) hg2).trans Q3.out
            clear hB hO
            go_wp2_with (refine IK.app rfl _ _ rfl (w.heap.size + 1) vo ss rfl ?own _ [(y1, y2, y3)] rfl ?rd hss ?bs ?_)
            case own => exact ON.out.below ((Below.refl _ _).alloc (Nat.le_refl _) _)
            case rd => exact IK.rd_boxAt (y1, y2, y3) _ 1 _ _ (by simp)
            case bs => first | omega | (simp; omega) | fail
            intro v8 w8 ho hb hg hn
            have O8 := Lib.hid ho
            have B8 : Hid (Below (w.heap.size + 1) W0 w8) := Lib.hid ((BN.out.alloc (by have := BN.out.size; rw [HZ0.out] at this; omega) _).trans hb)
            clear ho hb hg hn
            clear q1 q2 q3 ON BN
            go_wp2
            go_roundw
            case rel => exact ⟨k + 1, v8, false, _, by omega, rfl, rfl, by go_num, O8, HT2, B8⟩
            case measure => simp [intOf]; omega
          | true =>
            have HT2 : Hid ((l.take (k + 1)).foldl (stpI (x1, x2, x3)) ([], false) = (ss ++ [(x1, x2, x3), (y1, y2, y3)], true)) := Lib.hid (by rw [HTK.out]; simp [stpI, HBL.out])
            go_wp2_with fail
            go_region_held3 (fun w' => w'.cell? ⟨g2, off2 + k * 3, none⟩ = some (.int .i64 y1) ∧ w'.cell? ⟨g2, off2 + k * 3 + 1, none⟩ = some (.int .i64 y2) ∧ w'.cell? ⟨g2, off2 + k * 3 + 2, none⟩ = some (.int .i64 y3) ∧ w'.cell? ⟨w.heap.size, 0, none⟩ = some (.int .i64 x1) ∧ w'.cell? ⟨w.heap.size, 0 + 1, none⟩ = some (.int .i64 x2) ∧ w'.cell? ⟨w.heap.size, 0 + 2, none⟩ = some (.int .i64 x3) ∧ Below wr.heap.size wr w')
              (first
                | exact keep6 hg2 hzw q1 q2 q3 p1 p2 p3 (Below.refl _ _).drew
                | (go_split_ands; exact keep6 hg2 hzw q1 q2 q3 p1 p2 p3 (by assumption)))
              (first
                | (go_at_call 51; go_split_ands; refine (HC.out _).mono ?_; rintro e w7 ⟨rfl, hg7⟩; have hS7 : Below wr.heap.size wr w7 := below_self (by assumption) hg7.below)
                | fail)
            go_split_ands
            have hS := Lib.hid hS7
            clear hS7 hg7 q1 q2 q3 p1 p2 p3
            have BN : Hid (Below (w.heap.size + 1) W0 w7) := Lib.hid (hB.out.trans (hS.out.mono (by have := hB.out.size; rw [HZ0.out] at this; omega)))
            have ON := Lib.hid (hO.out.below hS.out)
            have hzn := BN.out.size
            rw [HZ0.out] at hzn
            have p1 : w7.cell? ⟨w.heap.size, 0, none⟩ = some (.int .i64 x1) := (hS.out.cell (p := ⟨w.heap.size, 0, none⟩) (by omega)).trans P1.out
            have p2 : w7.cell? ⟨w.heap.size, 1, none⟩ = some (.int .i64 x2) := (hS.out.cell (p := ⟨w.heap.size, 1, none⟩) (by omega)).trans P2.out
            have p3 : w7.cell? ⟨w.heap.size, 2, none⟩ = some (.int .i64 x3) := (hS.out.cell (p := ⟨w.heap.size, 2, none⟩) (by omega)).trans P3.out
            clear hO
            go_wp2_with (refine IK.app rfl _ _ rfl (w.heap.size + 1) vo ss rfl ?own _ [(x1, x2, x3)] rfl ?rd hss ?bs ?_)
            case own => exact ON.out.below ((Below.refl _ _).alloc (Nat.le_refl _) _)
            case rd => exact IK.rd_boxAt (x1, x2, x3) _ 1 _ _ (by simp)
            case bs => first | omega | (simp; omega) | fail
            intro v8 w8 ho hb hg hn
            have O8 := Lib.hid ho
            have B8 : Hid (Below (w.heap.size + 1) W0 w8) := Lib.hid ((BN.out.alloc (by have := BN.out.size; rw [HZ0.out] at this; omega) _).trans hb)
            clear ho hb hg hn
            clear p1 p2 p3 ON
            have hb8 : Below w.heap.size w w8 := HBX.out.trans (B8.out.mono (by omega))
            obtain ⟨e0, g3, off3, hda, hg3, q1, q2, q3, hjl⟩ := idCell (HO.out.rd.below hb8) k hlt
            simp only [Option.some.injEq, Addr.mk.injEq, and_true] at hda
            obtain ⟨rfl, rfl⟩ := hda
            rw [HX.out] at q1 q2 q3
            have hzm := B8.out.size
            rw [HZ0.out] at hzm
            have hss2 : (ss ++ [((x1, x2, x3) : I3)]).length + 1 ≤ 1000000 := by have := HSL.out; simp; omega
            clear e0 hjl hb8 hB BN
            go_wp2_with (refine IK.app rfl _ _ rfl (w.heap.size + 1) v8 (ss ++ [(x1, x2, x3)]) rfl ?own _ [(y1, y2, y3)] rfl ?rd hss2 ?bs ?_)
            case own => exact O8.out.below ((Below.refl _ _).alloc (Nat.le_refl _) _)
            case rd => exact IK.rd_boxAt (y1, y2, y3) _ 1 _ _ (by simp)
            case bs => first | omega | (simp; omega) | fail
            intro v9 w9 ho hb hg hn
            have O9 := Lib.hid ho
            have B9 : Hid (Below (w.heap.size + 1) W0 w9) := Lib.hid ((B8.out.alloc (by have := B8.out.size; rw [HZ0.out] at this; omega) _).trans hb)
            clear ho hb hg hn
            clear q1 q2 q3 O8 B8
            go_wp2
            go_roundw
            case rel => exact ⟨k + 1, v9, true, _, by omega, rfl, rfl, by go_num, O9, HT2, B9⟩
            case measure => simp [intOf]; omega
      · obtain rfl : k = N := by omega
        have hF2 := hF.out
        rw [List.take_of_length_le (by rw [HN.out]; exact Nat.le_refl _)] at hF2
        have hRR : R = if db then ss else ss ++ [(x1, x2, x3)] := by
          rw [← HR.out, HPU.out, hF2]
        have hsl := stp_len (x1, x2, x3) l ([], false)
        rw [hF2, HN.out] at hsl
        simp at hsl
        have hss : ss.length + 1 ≤ 1000000 := by omega
        have HBW := Lib.hid hBw
        have hbO := HBB.out
        clear hF2 hF hsl hBw
        cases db with
        | true =>
          simp only [if_true] at hRR
          subst hRR
          go_wp2
          go_ret
          exact ⟨_, Lib.hid rfl, hO.out.base (by omega), HBW.out⟩
        | false =>
          simp only [if_false, Bool.false_eq_true] at hRR
          subst hRR
          have hzx : w.heap.size < w.heap.size + 1 := by omega
          have p1 : wr.cell? ⟨w.heap.size, 0, none⟩ = some (.int .i64 x1) := (hB.out.cell (p := ⟨w.heap.size, 0, none⟩) hzx).trans (HXC.out 0)
          have p2 : wr.cell? ⟨w.heap.size, 1, none⟩ = some (.int .i64 x2) := (hB.out.cell (p := ⟨w.heap.size, 1, none⟩) hzx).trans (HXC.out 1)
          have p3 : wr.cell? ⟨w.heap.size, 2, none⟩ = some (.int .i64 x3) := (hB.out.cell (p := ⟨w.heap.size, 2, none⟩) hzx).trans (HXC.out 2)
          go_wp2_with (refine IK.app rfl _ _ rfl (w.heap.size + 1) vo ss rfl ?own _ [(x1, x2, x3)] rfl ?rd hss ?bs ?_)
          case own => exact hO.out.below ((Below.refl _ _).alloc (Nat.le_refl _) _)
          case rd => exact IK.rd_boxAt (x1, x2, x3) _ 1 _ _ (by simp)
          case bs => first | omega | (simp; omega) | fail
          intro v8 w8 ho hb hg hn
          have O8 := Lib.hid ho
          have B8 : Hid (Below (w.heap.size + 1) W0 w8) := Lib.hid ((hB.out.alloc (by have := hB.out.size; rw [HZ0.out] at this; omega) _).trans hb)
          clear ho hb hg hn
          go_wp2
          go_ret
          exact ⟨_, Lib.hid rfl, O8.out.base (by omega), HBX.out.trans (B8.out.mono (by omega))⟩
end Go.Proofs.Ytlckjpjcfalfnaa
namespace Go.Proofs.Ytlckjpjcfalfnaa
open Go.RowKit Go.Sort Go.Shelf Go.Lib
set_option linter.unusedSimpArgs false
set_option linter.unusedVariables false

theorem clnI_take (l : List I3) (k : Nat) (hk : k < l.length) (X : I3) (hX : l.getD k (0, 0, 0) = X) : clnI (l.take (k + 1)) = putI (clnI (l.take k)) X := by
  rw [List.take_succ_eq_append_getElem hk, clnI_snoc]
  congr 1
  rw [← hX]; simp [List.getD, hk]
set_option maxRecDepth 100000 in
set_option maxHeartbeats 1000000 in
theorem rclean_any (v : Value) (l : List I3) (w : World) (h : IK.Rd w v l) (hn : l.length ≤ 5000) :
    Calls Try.prog 38 #[v] w (RowP (clnI l) w) := by
  obtain ⟨a, c, e⟩ := h.slice
  subst e
  obtain ⟨N, hN⟩ : ∃ N, l.length = N := ⟨_, rfl⟩
  rw [hN] at h hn ⊢
  have HN := Lib.hid hN
  have HRD := Lib.hid h
  clear hN h
  go_enter Try.func38, Try.ntmps38
  go_wp2_with fail
  go_loopw [3, 4] (fun o i wr => ∃ (k : Nat) (vo : Value), k ≤ N ∧ vo = o ∧ i = .int .i64 k ∧ Hid (IK.Own wr w.heap.size vo (clnI (l.take k))) ∧ Hid (Below w.heap.size w wr)) (fun _ i _ => N - (intOf i).toNat)
  case atStart => exact ⟨0, _, Nat.zero_le _, rfl, rfl, Lib.hid (Knd.Own.nil _ _), Lib.hid (Below.refl _ _)⟩
  case round =>
    obtain ⟨k, vo, hk, rfl, rfl, hO, hB⟩ := hrel
    by_cases hlt : k < N
    · have hlt' : (k : Int) < (N : Int) := by omega
      have hkb : (k : Int) ≤ 5000 := by omega
      obtain ⟨e0, g2, off2, hda, hg2, q1, q2, q3, hjl⟩ := idCell (HRD.out.below hB.out) k hlt
      obtain ⟨⟨y1, y2, y3⟩, hX⟩ : ∃ X, l.getD k (0, 0, 0) = X := ⟨_, rfl⟩
      rw [hX] at q1 q2 q3
      have hcl := put_any w.heap.size vo (clnI (l.take k)) y1 y2 y3 wr hO.out hB.out.size (by have := len_clnI (l.take k); have := List.length_take_le k l; omega)
      rw [← clnI_take l k hjl _ hX] at hcl
      have HC := Lib.hid hcl
      subst hda
      clear hX hjl e0 hcl hO
      go_wp2_with fail
      refine HC.out.mono ?_
      rintro e w2 ⟨v2, he, ho2, hb2⟩
      rw [he.out]
      have O2 := Lib.hid ho2
      have B2 : Hid (Below w.heap.size w w2) := Lib.hid (hB.out.trans (hb2.mono hB.out.size))
      clear ho2 hb2 he hB HC q1 q2 q3
      go_wp2
      go_roundw
      case rel => exact ⟨k + 1, v2, by omega, rfl, by go_num, O2, B2⟩
      case measure => simp [intOf]; omega
    · obtain rfl : k = N := by omega
      have hO2 := hO.out
      rw [List.take_of_length_le (by rw [HN.out]; exact Nat.le_refl _)] at hO2
      have HO2 := Lib.hid hO2
      clear hO hO2
      go_wp2
      go_ret
      exact ⟨_, Lib.hid rfl, HO2.out, hB.out⟩
theorem take_filter (a b : List I3) (k : Nat) (hk : k < a.length) (X : I3) (hX : a.getD k (0, 0, 0) = X) : (a.take (k + 1)).filter (fun x => !hasI b x) = (a.take k).filter (fun x => !hasI b x) ++ (if hasI b X then [] else [X]) := by
  rw [List.take_succ_eq_append_getElem hk, List.filter_append]
  congr 1
  have : a[k] = X := by rw [← hX]; simp [List.getD, hk]
  rw [this]
  cases h : hasI b X <;> simp [h]
set_option maxRecDepth 100000 in
set_option maxHeartbeats 2000000 in
theorem rless2_any (va vb : Value) (a b : List I3) (w : World) (ha : IK.Rd w va a) (hb : IK.Rd w vb b) (na : a.length ≤ 1000) (nb : b.length ≤ 1000) :
    Calls Try.prog 52 #[va, vb] w (RowP (lesI a b) w) := by
  have HA := Lib.hid ha
  have HHAS : Hid (∀ x1 x2 x3 W, Below w.heap.size w W → Calls Try.prog 33 #[vb, .agg #[.int .i64 x1, .int .i64 x2, .int .i64 x3]] W fun e w' => e = .returned (.bool (hasI b (x1, x2, x3))) ∧ Below W.heap.size W w') := Lib.hid (fun x1 x2 x3 W hW => rhas_any vb b x1 x2 x3 W (hb.below hW) (by omega))
  obtain ⟨aa, ca, e⟩ := ha.slice
  subst e
  obtain ⟨ab, cb, e⟩ := hb.slice
  subst e
  obtain ⟨N, hN⟩ : ∃ N, a.length = N := ⟨_, rfl⟩
  rw [hN] at na HA ⊢
  have HN := Lib.hid hN
  clear ha hb hN
  go_enter Try.func52, Try.ntmps52
  go_wp2_with fail
  go_loopw [5, 6] (fun o i wr => ∃ (k : Nat) (vo : Value), k ≤ N ∧ vo = o ∧ i = .int .i64 k ∧ Hid (IK.Own wr w.heap.size vo ((a.take k).filter fun x => !hasI b x)) ∧ Hid (Below w.heap.size w wr)) (fun _ i _ => N - (intOf i).toNat)
  case atStart => exact ⟨0, _, Nat.zero_le _, rfl, rfl, Lib.hid (Knd.Own.nil _ _), Lib.hid (Below.refl _ _)⟩
  case round =>
    obtain ⟨k, vo, hk, rfl, rfl, hO, hB⟩ := hrel
    by_cases hlt : k < N
    · have hlt' : (k : Int) < (N : Int) := by omega
      have hkb : (k : Int) ≤ 5000 := by omega
      obtain ⟨e0, g2, off2, hda, hg2, q1, q2, q3, hjl⟩ := idCell (HA.out.below hB.out) k hlt
      obtain ⟨⟨y1, y2, y3⟩, hX⟩ : ∃ X, a.getD k (0, 0, 0) = X := ⟨_, rfl⟩
      rw [hX] at q1 q2 q3
      have hT := take_filter a b k hjl _ hX
      have hcl := HHAS.out y1 y2 y3 wr hB.out
      have hle : ((a.take k).filter fun x => !hasI b x).length + 1 ≤ 1000000 := by
        have h1 := List.length_filter_le (fun x => !hasI b x) (a.take k)
        have h2 := List.length_take_le k a
        omega
      obtain ⟨S, hS⟩ : ∃ S, (a.take k).filter (fun x => !hasI b x) = S := ⟨_, rfl⟩
      rw [hS] at hT hle
      have hO' := hO.out
      rw [hS] at hO'
      have HO := Lib.hid hO'
      obtain ⟨b0, hb0⟩ : ∃ b0, hasI b (y1, y2, y3) = b0 := ⟨_, rfl⟩
      rw [hb0] at hT hcl
      have HT := Lib.hid hT
      have HC := Lib.hid hcl
      subst hda
      clear hX hjl e0 hcl hO hO' hS hT hb0
      cases b0 with
      | true =>
        go_wp2_with fail
        refine HC.out.mono ?_
        rintro e w2 ⟨rfl, hb2⟩
        have O2 : Hid (IK.Own w2 w.heap.size vo ((a.take (k + 1)).filter fun x => !hasI b x)) := Lib.hid (by rw [HT.out]; simpa using HO.out.below hb2)
        have B2 : Hid (Below w.heap.size w w2) := Lib.hid (hB.out.trans (hb2.mono hB.out.size))
        clear hb2 hB HC q1 q2 q3 HO HT
        go_wp2
        go_roundw
        case rel => exact ⟨k + 1, vo, by omega, rfl, by go_num, O2, B2⟩
        case measure => simp [intOf]; omega
      | false =>
        go_wp2_with fail
        refine HC.out.mono ?_
        rintro e w2 ⟨rfl, hb2⟩
        have O2 := Lib.hid (HO.out.below hb2)
        have B2 : Hid (Below w.heap.size w w2) := Lib.hid (hB.out.trans (hb2.mono hB.out.size))
        have q1' := (hb2.cell (p := ⟨g2, off2 + k * 3, none⟩) hg2).trans q1
        have q2' := (hb2.cell (p := ⟨g2, off2 + k * 3 + 1, none⟩) hg2).trans q2
        have q3' := (hb2.cell (p := ⟨g2, off2 + k * 3 + 2, none⟩) hg2).trans q3
        have hz2 := B2.out.size
        clear hb2 hB HC q1 q2 q3 HO
        go_wp2_with (refine IK.app rfl _ _ rfl w.heap.size vo S rfl ?own _ [(y1, y2, y3)] rfl ?rd hle ?bs ?_)
        case own => exact O2.out.below ((Below.refl _ _).alloc (Nat.le_refl _) _)
        case rd => exact IK.rd_boxAt (y1, y2, y3) _ 1 _ _ (by simp)
        case bs => first | omega | (simp; omega) | fail
        intro v3 w3 ho hb hg hn
        have O3 : Hid (IK.Own w3 w.heap.size v3 ((a.take (k + 1)).filter fun x => !hasI b x)) := Lib.hid (by rw [HT.out]; simpa using ho)
        have B3 : Hid (Below w.heap.size w w3) := Lib.hid ((B2.out.alloc hz2 _).trans hb)
        clear ho hb hg hn O2 B2 HT q1' q2' q3'
        go_wp2
        go_roundw
        case rel => exact ⟨k + 1, v3, by omega, rfl, by go_num, O3, B3⟩
        case measure => simp [intOf]; omega
    · obtain rfl : k = N := by omega
      have hO2 := hO.out
      rw [List.take_of_length_le (by rw [HN.out]; exact Nat.le_refl _)] at hO2
      have HCL := Lib.hid (rclean_any vo _ wr hO2.rd (by have := List.length_filter_le (fun x => !hasI b x) a; have := HN.out; omega))
      obtain ⟨a2, c2, e2⟩ := hO2.slice
      subst e2
      have hzz := Lib.hid hB.out.size
      clear hO hO2
      go_wp2_with fail
      refine HCL.out.mono ?_
      rintro e w3 ⟨v3, he, ho3, hb3⟩
      rw [he.out]
      have O3 := Lib.hid (ho3.base hzz.out)
      have B3 := Lib.hid (hB.out.trans (hb3.mono hzz.out))
      clear ho3 hb3 he HCL hB
      go_wp2
      go_ret
      exact ⟨_, Lib.hid rfl, O3.out, B3.out⟩
end Go.Proofs.Ytlckjpjcfalfnaa
