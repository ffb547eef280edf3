/-
  The walks of the document's Right, and of ids' Right.
-/
import Derived.Test.YtfngjdcagopapaaGreatIds8
import Derived.Deep.RegionHeld3
namespace Go.Proofs.YtfngjdcagopapaaGreat
open Go.RowKit Go.Sort Go.Shelf Go.Lib
set_option linter.unusedSimpArgs false
set_option linter.unusedVariables false

/-- Six cells that stay. -/
theorem keep6 {wr w' : World} {b1 b2 o1 o2 : Nat} {x1 x2 x3 y1 y2 y3 : Value} (hb1 : b1 < wr.heap.size) (hb2 : b2 < wr.heap.size) (d1 : wr.cell? ⟨b1, o1, none⟩ = some x1) (d2 : wr.cell? ⟨b1, o1 + 1, none⟩ = some x2) (d3 : wr.cell? ⟨b1, o1 + 2, none⟩ = some x3)
    (c1 : wr.cell? ⟨b2, o2, none⟩ = some y1) (c2 : wr.cell? ⟨b2, o2 + 1, none⟩ = some y2) (c3 : wr.cell? ⟨b2, o2 + 2, none⟩ = some y3) (hB : Below wr.heap.size wr w') :
    w'.cell? ⟨b1, o1, none⟩ = some x1 ∧ w'.cell? ⟨b1, o1 + 1, none⟩ = some x2 ∧ w'.cell? ⟨b1, o1 + 2, none⟩ = some x3 ∧ w'.cell? ⟨b2, o2, none⟩ = some y1 ∧ w'.cell? ⟨b2, o2 + 1, none⟩ = some y2 ∧ w'.cell? ⟨b2, o2 + 2, none⟩ = some y3 ∧ Below wr.heap.size wr w' :=
  ⟨(hB.cell (p := ⟨b1, o1, none⟩) hb1).trans d1, (hB.cell (p := ⟨b1, o1 + 1, none⟩) hb1).trans d2, (hB.cell (p := ⟨b1, o1 + 2, none⟩) hb1).trans d3, (hB.cell (p := ⟨b2, o2, none⟩) hb2).trans c1, (hB.cell (p := ⟨b2, o2 + 1, none⟩) hb2).trans c2, (hB.cell (p := ⟨b2, o2 + 2, none⟩) hb2).trans c3, hB⟩
set_option maxRecDepth 100000 in
set_option maxHeartbeats 2000000 in
theorem rright_any (v : Value) (l : List I3) (w : World) (h : IK.Rd w v l) (hn : l.length ≤ 10000) :
    Calls Tryz.prog 29 #[v] w fun e w' => e = .returned (.bool (rgtI l)) ∧ Below w.heap.size w w' := by
  obtain ⟨a, c, e⟩ := h.slice
  subst e
  obtain ⟨N, hN⟩ : ∃ N, l.length = N := ⟨_, rfl⟩
  obtain ⟨R, hR⟩ : ∃ R, rgtI l = R := ⟨_, rfl⟩
  rw [hN] at h hn ⊢
  rw [hR]
  have HN := Lib.hid hN
  have HR := Lib.hid hR
  have HRD := Lib.hid h
  clear hN hR h
  go_enter Tryz.func29, Tryz.ntmps29
  go_wp2_with fail
  go_loopw [3] (fun i wr => ∃ k K : Nat, (k = 0 ∨ k < N) ∧ Hid (K = k + 1) ∧ i = .int .i64 (K : Int) ∧ Hid (Below w.heap.size w wr) ∧ Hid (∀ j, j < k → ltI (l.getD j (0, 0, 0)) (l.getD (j + 1) (0, 0, 0)) = true)) (fun i _ => N + 1 - (intOf i).toNat)
  case atStart => exact ⟨0, 1, .inl rfl, Lib.hid rfl, rfl, Lib.hid (Below.refl _ _), Lib.hid (fun j hj => by omega)⟩
  case round =>
    obtain ⟨k, K, hk, HK, rfl, hB, hF⟩ := hrel
    have hKk := HK.out
    by_cases hlt : k + 1 < N
    · have hlt' : (K : Int) < (N : Int) := by omega
      have hlt2 : (k : Int) < (N : Int) := by omega
      have hlt3 : (0 : Int) ≤ (k : Int) := by omega
      have hlt4 : (0 : Int) ≤ (K : Int) := by omega
      have hkb : (K : Int) ≤ 10000 := by omega
      have hwr : IntKind.i64.wrap ((K : Int) - 1) = (k : Int) := by simp [IntKind.wrap, IntKind.bits, IntKind.signed]; omega
      obtain ⟨e0, g2, off2, hda, hg2, q1, q2, q3, hjl⟩ := idCell (HRD.out.below hB.out) k (by omega)
      obtain ⟨e1, g3, off3, hdb, hg3, p1, p2, p3, hjm⟩ := idCell (HRD.out.below hB.out) (k + 1) hlt
      rw [← hKk] at p1 p2 p3
      subst hda
      simp only [Option.some.injEq, Addr.mk.injEq, and_true] at hdb
      obtain ⟨rfl, rfl⟩ := hdb
      obtain ⟨⟨y1, y2, y3⟩, hX⟩ : ∃ X, l.getD k (0, 0, 0) = X := ⟨_, rfl⟩
      obtain ⟨⟨x1, x2, x3⟩, hY⟩ : ∃ X, l.getD K (0, 0, 0) = X := ⟨_, rfl⟩
      rw [hX] at q1 q2 q3
      rw [hY] at p1 p2 p3
      have HX := Lib.hid hX
      have HY : Hid (l.getD (k + 1) (0, 0, 0) = (x1, x2, x3)) := Lib.hid (by rw [← hKk]; exact hY)
      have hcon := fun W => rless_any y1 y2 y3 x1 x2 x3 W
      obtain ⟨b, hb⟩ : ∃ b, ltI (y1, y2, y3) (x1, x2, x3) = b := ⟨_, rfl⟩
      rw [hb] at hcon
      have HC := Lib.hid hcon
      have HBB := Lib.hid hb
      clear hX hY hjl hjm e0 e1 hb hcon hKk
      cases b with
      | true =>
        go_wp2_with fail
        go_region_held3 (fun w' => w'.cell? ⟨g2, off2 + k * 3, none⟩ = some (.int .i64 y1) ∧ w'.cell? ⟨g2, off2 + k * 3 + 1, none⟩ = some (.int .i64 y2) ∧ w'.cell? ⟨g2, off2 + k * 3 + 2, none⟩ = some (.int .i64 y3) ∧ w'.cell? ⟨g2, off2 + K * 3, none⟩ = some (.int .i64 x1) ∧ w'.cell? ⟨g2, off2 + K * 3 + 1, none⟩ = some (.int .i64 x2) ∧ w'.cell? ⟨g2, off2 + K * 3 + 2, none⟩ = some (.int .i64 x3) ∧ Below wr.heap.size wr w')
          (first
            | exact keep6 hg2 hg2 q1 q2 q3 p1 p2 p3 (Below.refl _ _).drew
            | (go_split_ands; exact keep6 hg2 hg2 q1 q2 q3 p1 p2 p3 (by assumption)))
          (first
            | (go_at_call 42; go_split_ands; refine (HC.out _).mono ?_; rintro e w7 ⟨rfl, hg7⟩; have hS7 : Below wr.heap.size wr w7 := below_self (by assumption) hg7.below)
            | fail)
        go_split_ands
        have HS7 := Lib.hid hS7
        have HF2 : Hid (∀ j, j < k + 1 → ltI (l.getD j (0, 0, 0)) (l.getD (j + 1) (0, 0, 0)) = true) := Lib.hid (fun j hj => by
          by_cases e : j = k
          · subst e; rw [HX.out, HY.out]; exact HBB.out
          · exact hF.out j (by omega))
        have HB2 : Hid (Below w.heap.size w w7) := Lib.hid (hB.out.trans (hS7.mono hB.out.size))
        clear hS7 hg7 hB
        go_wp2
        go_roundw
        case rel => exact ⟨k + 1, K + 1, .inr hlt, Lib.hid (by rw [HK.out]), by go_num, HB2, HF2⟩
        case measure => simp [intOf]; omega
      | false =>
        go_wp2_with fail
        go_region_held3 (fun w' => w'.cell? ⟨g2, off2 + k * 3, none⟩ = some (.int .i64 y1) ∧ w'.cell? ⟨g2, off2 + k * 3 + 1, none⟩ = some (.int .i64 y2) ∧ w'.cell? ⟨g2, off2 + k * 3 + 2, none⟩ = some (.int .i64 y3) ∧ w'.cell? ⟨g2, off2 + K * 3, none⟩ = some (.int .i64 x1) ∧ w'.cell? ⟨g2, off2 + K * 3 + 1, none⟩ = some (.int .i64 x2) ∧ w'.cell? ⟨g2, off2 + K * 3 + 2, none⟩ = some (.int .i64 x3) ∧ Below wr.heap.size wr w')
          (first
            | exact keep6 hg2 hg2 q1 q2 q3 p1 p2 p3 (Below.refl _ _).drew
            | (go_split_ands; exact keep6 hg2 hg2 q1 q2 q3 p1 p2 p3 (by assumption)))
          (first
            | (go_at_call 42; go_split_ands; refine (HC.out _).mono ?_; rintro e w7 ⟨rfl, hg7⟩; have hS7 : Below wr.heap.size wr w7 := below_self (by assumption) hg7.below)
            | fail)
        go_split_ands
        have HB2 : Hid (Below w.heap.size w w7) := Lib.hid (hB.out.trans (hS7.mono hB.out.size))
        clear hS7 hg7 hB
        go_wp2
        go_ret
        refine ⟨ret_bool ?_, HB2.out⟩
        rw [← HR.out]
        symm
        rw [Bool.eq_false_iff, ne_eq, rgtI_at]
        intro q
        have := q k (by rw [HN.out]; exact hlt)
        rw [HX.out, HY.out, HBB.out] at this
        cases this
    · have hge : ¬ ((K : Int) < (N : Int)) := by omega
      clear hKk
      go_wp2
      go_ret
      refine ⟨ret_bool ?_, hB.out⟩
      rw [← HR.out]
      symm
      rw [rgtI_at]
      intro j hj
      rw [HN.out] at hj
      exact hF.out j (by omega)
set_option maxRecDepth 100000 in
set_option maxHeartbeats 2000000 in
theorem right_any (v : Value) (l : List I3) (w : World) (h : IK.Rd w v l) (hn : l.length ≤ 10000) :
    Calls Tryz.prog 24 #[v] w fun e w' => e = .returned (.bool (rgtI l)) ∧ Below w.heap.size w w' := by
  obtain ⟨a, c, e⟩ := h.slice
  subst e
  obtain ⟨N, hN⟩ : ∃ N, l.length = N := ⟨_, rfl⟩
  obtain ⟨R, hR⟩ : ∃ R, rgtI l = R := ⟨_, rfl⟩
  rw [hN] at h hn ⊢
  rw [hR]
  have HN := Lib.hid hN
  have HR := Lib.hid hR
  have HRD := Lib.hid h
  clear hN hR h
  go_enter Tryz.func24, Tryz.ntmps24
  go_wp2_with fail
  go_loopw [6] (fun i wr => ∃ K : Nat, K ≤ N ∧ i = .int .i64 (K : Int) ∧ Hid (Below w.heap.size w wr) ∧ Hid (∀ j, j + 1 < K → ltI (l.getD j (0, 0, 0)) (l.getD (j + 1) (0, 0, 0)) = true)) (fun i _ => N - (intOf i).toNat)
  case atStart => exact ⟨0, Nat.zero_le _, rfl, Lib.hid (Below.refl _ _), Lib.hid (fun j hj => by omega)⟩
  case round =>
    obtain ⟨K, hK, rfl, hB, hF⟩ := hrel
    by_cases hlt : K < N
    · have hlt' : (K : Int) < (N : Int) := by omega
      have hkb : (K : Int) ≤ 10000 := by omega
      by_cases h0 : K = 0
      · subst h0
        go_wp2_with fail
        go_quiet (fail)
        go_wp2
        go_roundw
        case rel => exact ⟨1, by omega, by go_num, Lib.hid (below_drewN_q hB.out _), Lib.hid (fun j hj => by omega)⟩
        case measure => simp [intOf]; omega
      · obtain ⟨k, hKk⟩ : ∃ k, K = k + 1 := ⟨K - 1, by omega⟩
        have HK := Lib.hid hKk
        have hlt2 : (k : Int) < (N : Int) := by omega
        have hlt3 : (0 : Int) ≤ (k : Int) := by omega
        have hlt4 : (0 : Int) ≤ (K : Int) := by omega
        have hlt5 : decide (0 < K) = true := decide_eq_true (by omega)
        have hwr : IntKind.i64.wrap ((K : Int) - 1) = (k : Int) := by simp [IntKind.wrap, IntKind.bits, IntKind.signed]; omega
        obtain ⟨e0, g2, off2, hda, hg2, q1, q2, q3, hjl⟩ := idCell (HRD.out.below hB.out) k (by omega)
        obtain ⟨e1, g3, off3, hdb, hg3, p1, p2, p3, hjm⟩ := idCell (HRD.out.below hB.out) K hlt
        subst hda
        simp only [Option.some.injEq, Addr.mk.injEq, and_true] at hdb
        obtain ⟨rfl, rfl⟩ := hdb
        obtain ⟨⟨y1, y2, y3⟩, hX⟩ : ∃ X, l.getD k (0, 0, 0) = X := ⟨_, rfl⟩
        obtain ⟨⟨x1, x2, x3⟩, hY⟩ : ∃ X, l.getD K (0, 0, 0) = X := ⟨_, rfl⟩
        rw [hX] at q1 q2 q3
        rw [hY] at p1 p2 p3
        have HX := Lib.hid hX
        have HY : Hid (l.getD (k + 1) (0, 0, 0) = (x1, x2, x3)) := Lib.hid (by rw [← hKk]; exact hY)
        have hcon := fun W => less_any y1 y2 y3 x1 x2 x3 W
        obtain ⟨b, hb⟩ : ∃ b, ltI (y1, y2, y3) (x1, x2, x3) = b := ⟨_, rfl⟩
        rw [hb] at hcon
        have HC := Lib.hid hcon
        have HBB := Lib.hid hb
        clear hX hY hjl hjm e0 e1 hb hcon hKk h0
        cases b with
        | true =>
          go_wp2_with fail
          go_region_held3 (fun w' => w'.cell? ⟨g2, off2 + k * 3, none⟩ = some (.int .i64 y1) ∧ w'.cell? ⟨g2, off2 + k * 3 + 1, none⟩ = some (.int .i64 y2) ∧ w'.cell? ⟨g2, off2 + k * 3 + 2, none⟩ = some (.int .i64 y3) ∧ w'.cell? ⟨g2, off2 + K * 3, none⟩ = some (.int .i64 x1) ∧ w'.cell? ⟨g2, off2 + K * 3 + 1, none⟩ = some (.int .i64 x2) ∧ w'.cell? ⟨g2, off2 + K * 3 + 2, none⟩ = some (.int .i64 x3) ∧ Below wr.heap.size wr w')
            (first
              | exact keep6 hg2 hg2 q1 q2 q3 p1 p2 p3 (Below.refl _ _).drew
              | (go_split_ands; exact keep6 hg2 hg2 q1 q2 q3 p1 p2 p3 (by assumption)))
            (first
              | (go_at_call 40; go_split_ands; refine (HC.out _).mono ?_; rintro e w7 ⟨rfl, hg7⟩; have hS7 : Below wr.heap.size wr w7 := below_self (by assumption) hg7.below)
              | fail)
          go_split_ands
          have HF2 : Hid (∀ j, j + 1 < K + 1 → ltI (l.getD j (0, 0, 0)) (l.getD (j + 1) (0, 0, 0)) = true) := Lib.hid (fun j hj => by
            by_cases e : j = k
            · subst e; rw [HX.out, HY.out]; exact HBB.out
            · exact hF.out j (by have := HK.out; omega))
          have HB2 : Hid (Below w.heap.size w w7) := Lib.hid (hB.out.trans (hS7.mono hB.out.size))
          clear hS7 hg7 hB
          go_wp2
          go_roundw
          case rel => exact ⟨K + 1, by omega, by go_num, HB2, HF2⟩
          case measure => simp [intOf]; omega
        | false =>
          go_wp2_with fail
          go_region_held3 (fun w' => w'.cell? ⟨g2, off2 + k * 3, none⟩ = some (.int .i64 y1) ∧ w'.cell? ⟨g2, off2 + k * 3 + 1, none⟩ = some (.int .i64 y2) ∧ w'.cell? ⟨g2, off2 + k * 3 + 2, none⟩ = some (.int .i64 y3) ∧ w'.cell? ⟨g2, off2 + K * 3, none⟩ = some (.int .i64 x1) ∧ w'.cell? ⟨g2, off2 + K * 3 + 1, none⟩ = some (.int .i64 x2) ∧ w'.cell? ⟨g2, off2 + K * 3 + 2, none⟩ = some (.int .i64 x3) ∧ Below wr.heap.size wr w')
            (first
              | exact keep6 hg2 hg2 q1 q2 q3 p1 p2 p3 (Below.refl _ _).drew
              | (go_split_ands; exact keep6 hg2 hg2 q1 q2 q3 p1 p2 p3 (by assumption)))
            (first
              | (go_at_call 40; go_split_ands; refine (HC.out _).mono ?_; rintro e w7 ⟨rfl, hg7⟩; have hS7 : Below wr.heap.size wr w7 := below_self (by assumption) hg7.below)
              | fail)
          go_split_ands
          have HB2 : Hid (Below w.heap.size w w7) := Lib.hid (hB.out.trans (hS7.mono hB.out.size))
          clear hS7 hg7 hB
          go_wp2
          go_ret
          refine ⟨ret_bool ?_, HB2.out⟩
          rw [← HR.out]
          symm
          rw [Bool.eq_false_iff, ne_eq, rgtI_at]
          intro q
          have := q k (by rw [HN.out]; have := HK.out; omega)
          rw [HX.out, HY.out, HBB.out] at this
          cases this
    · obtain rfl : K = N := by omega
      go_wp2
      go_ret
      refine ⟨ret_bool ?_, hB.out⟩
      rw [← HR.out]
      symm
      rw [rgtI_at]
      intro j hj
      rw [HN.out] at hj
      exact hF.out j hj
end Go.Proofs.YtfngjdcagopapaaGreat
