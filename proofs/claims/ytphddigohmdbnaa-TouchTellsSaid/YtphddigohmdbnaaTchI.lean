/-
  The document's Control, Paths, Both; the law TouchTells walked.
-/
import Derived.Test.YtphddigohmdbnaaTchU
namespace Go.Proofs.Ytphddigohmdbnaa
open Go.RowKit
set_option linter.unusedSimpArgs false
set_option linter.unusedVariables false

theorem rcontrol_any (cl sq op : Int) (pa va : ByteArray) (ver ca cb : Int) (w : World) :
    Calls Try.prog 19 #[.agg #[.int .i64 cl, .int .i64 sq, .int .i64 op, .string pa, .string va, .int .i64 ver, .int .i64 ca, .int .i64 cb]] w fun e w' => e = .returned (.bool (ctl op)) ∧ Below w.heap.size w w' := by
  by_cases h7 : op = 7
  · subst h7
    go_enter Try.func19, Try.ntmps19
    go_wp2
    go_ret
    exact ⟨rfl, (Below.refl _ _).alloc (Nat.le_refl _) _⟩
  · by_cases h8 : op = 8
    · subst h8
      go_enter Try.func19, Try.ntmps19
      go_wp2
      go_ret
      exact ⟨rfl, (Below.refl _ _).alloc (Nat.le_refl _) _⟩
    · by_cases h9 : op = 9
      · subst h9
        go_enter Try.func19, Try.ntmps19
        go_wp2
        go_ret
        exact ⟨rfl, (Below.refl _ _).alloc (Nat.le_refl _) _⟩
      · have e : ctl op = false := by unfold ctl; simp [h7, h8, h9]
        rw [e]
        have z7 : (op == 7) = false := by simpa using h7
        have z8 : (op == 8) = false := by simpa using h8
        have z9 : (op == 9) = false := by simpa using h9
        clear h7 h8 h9 e
        go_enter Try.func19, Try.ntmps19
        go_wp2
        go_ret
        exact ⟨rfl, (Below.refl _ _).alloc (Nat.le_refl _) _⟩
set_option maxRecDepth 100000 in
set_option maxHeartbeats 2000000 in
theorem cells_same (va vb : Value) (l : List Cl) (w : World) (ha : CK.Rd w va l) (hb : RK.Rd w vb l) (hn : l.length ≤ 100) :
    Calls Try.prog 11 #[va, vb] w fun e w' => e = .returned (.bool true) ∧ Below w.heap.size w w' := by
  obtain ⟨aa, ca, e⟩ := ha.slice
  subst e
  obtain ⟨ab, cb, e⟩ := hb.slice
  subst e
  obtain ⟨N, hN⟩ : ∃ N, l.length = N := ⟨_, rfl⟩
  rw [hN] at ha hb hn ⊢
  have HN := Lib.hid hN
  have HA := Lib.hid ha
  have HB := Lib.hid hb
  clear hN ha hb
  go_enter Try.func11, Try.ntmps11
  go_wp2_with fail
  go_loopw [5] (fun i wr => ∃ k : Nat, k ≤ N ∧ i = .int .i64 k ∧ Hid (Below w.heap.size w wr)) (fun i _ => N - (intOf i).toNat)
  case atStart => exact ⟨0, Nat.zero_le _, rfl, Lib.hid (Below.refl _ _)⟩
  case round =>
    obtain ⟨k, hk, rfl, hB⟩ := hrel
    by_cases hlt : k < N
    · have hlt' : (k : Int) < (N : Int) := by omega
      have hkb : (k : Int) ≤ 100 := by omega
      obtain ⟨e0, g2, off2, hda, hg2, q1, q2, hjl⟩ := clCell (HA.out.below hB.out) k hlt
      obtain ⟨e1, g3, off3, hdb, hg3, p1, p2, hjm⟩ := rcCell (HB.out.below hB.out) k hlt
      obtain ⟨⟨y1, y2⟩, hX⟩ : ∃ X, l.getD k (ByteArray.empty, 0) = X := ⟨_, rfl⟩
      rw [hX] at q1 q2 p1 p2
      subst hda
      subst hdb
      clear hX hjl hjm e0 e1
      go_wp2_with fail
      go_quiet (fail)
      go_wp2
      go_roundw
      case rel => exact ⟨k + 1, by omega, by go_num, Lib.hid (below_dq hB.out _)⟩
      case measure => simp [intOf]; omega
    · obtain rfl : k = N := by omega
      go_wp2
      go_ret
      exact ⟨rfl, hB.out⟩
set_option maxRecDepth 100000 in
set_option maxHeartbeats 4000000 in
theorem rpaths_any (c1 s1 o1 : Int) (p1 x1 : ByteArray) (n1 a1 b1 : Int) (c2 s2 o2 : Int) (p2 x2 : ByteArray) (n2 a2 b2 : Int) (w : World) (h1 : p1.size ≤ 1000) (h2 : p2.size ≤ 1000) :
    Calls Try.prog 15 #[.agg #[.int .i64 c1, .int .i64 s1, .int .i64 o1, .string p1, .string x1, .int .i64 n1, .int .i64 a1, .int .i64 b1], .agg #[.int .i64 c2, .int .i64 s2, .int .i64 o2, .string p2, .string x2, .int .i64 n2, .int .i64 a2, .int .i64 b2]] w fun e w' => e = .returned (.bool (mtr o1 p1 o2 p2)) ∧ Below w.heap.size w w' := by
  have hm := mtr_meet o1 p1 o2 p2
  obtain ⟨D, hD⟩ : ∃ D, mtr o1 p1 o2 p2 = D := ⟨_, rfl⟩
  rw [hD] at hm ⊢
  have HB0 := Lib.hid (two_below w (.cells #[.int .i64 c1, .int .i64 s1, .int .i64 o1, .string p1, .string x1, .int .i64 n1, .int .i64 a1, .int .i64 b1] 24) (.cells #[.int .i64 c2, .int .i64 s2, .int .i64 o2, .string p2, .string x2, .int .i64 n2, .int .i64 a2, .int .i64 b2] 24))
  have hz3 : ((w.alloc (.cells #[.int .i64 c1, .int .i64 s1, .int .i64 o1, .string p1, .string x1, .int .i64 n1, .int .i64 a1, .int .i64 b1] 24)).alloc (.cells #[.int .i64 c2, .int .i64 s2, .int .i64 o2, .string p2, .string x2, .int .i64 n2, .int .i64 a2, .int .i64 b2] 24)).heap.size = w.heap.size + 2 := by simp
  have d00 : ((w.alloc (.cells #[.int .i64 c1, .int .i64 s1, .int .i64 o1, .string p1, .string x1, .int .i64 n1, .int .i64 a1, .int .i64 b1] 24)).alloc (.cells #[.int .i64 c2, .int .i64 s2, .int .i64 o2, .string p2, .string x2, .int .i64 n2, .int .i64 a2, .int .i64 b2] 24)).cell? ⟨w.heap.size, 0, none⟩ = some (.int .i64 c1) := (two_cells w _ _ _ _).1 0
  have d01 : ((w.alloc (.cells #[.int .i64 c1, .int .i64 s1, .int .i64 o1, .string p1, .string x1, .int .i64 n1, .int .i64 a1, .int .i64 b1] 24)).alloc (.cells #[.int .i64 c2, .int .i64 s2, .int .i64 o2, .string p2, .string x2, .int .i64 n2, .int .i64 a2, .int .i64 b2] 24)).cell? ⟨w.heap.size, 1, none⟩ = some (.int .i64 s1) := (two_cells w _ _ _ _).1 1
  have d02 : ((w.alloc (.cells #[.int .i64 c1, .int .i64 s1, .int .i64 o1, .string p1, .string x1, .int .i64 n1, .int .i64 a1, .int .i64 b1] 24)).alloc (.cells #[.int .i64 c2, .int .i64 s2, .int .i64 o2, .string p2, .string x2, .int .i64 n2, .int .i64 a2, .int .i64 b2] 24)).cell? ⟨w.heap.size, 2, none⟩ = some (.int .i64 o1) := (two_cells w _ _ _ _).1 2
  have d03 : ((w.alloc (.cells #[.int .i64 c1, .int .i64 s1, .int .i64 o1, .string p1, .string x1, .int .i64 n1, .int .i64 a1, .int .i64 b1] 24)).alloc (.cells #[.int .i64 c2, .int .i64 s2, .int .i64 o2, .string p2, .string x2, .int .i64 n2, .int .i64 a2, .int .i64 b2] 24)).cell? ⟨w.heap.size, 3, none⟩ = some (.string p1) := (two_cells w _ _ _ _).1 3
  have d04 : ((w.alloc (.cells #[.int .i64 c1, .int .i64 s1, .int .i64 o1, .string p1, .string x1, .int .i64 n1, .int .i64 a1, .int .i64 b1] 24)).alloc (.cells #[.int .i64 c2, .int .i64 s2, .int .i64 o2, .string p2, .string x2, .int .i64 n2, .int .i64 a2, .int .i64 b2] 24)).cell? ⟨w.heap.size, 4, none⟩ = some (.string x1) := (two_cells w _ _ _ _).1 4
  have d05 : ((w.alloc (.cells #[.int .i64 c1, .int .i64 s1, .int .i64 o1, .string p1, .string x1, .int .i64 n1, .int .i64 a1, .int .i64 b1] 24)).alloc (.cells #[.int .i64 c2, .int .i64 s2, .int .i64 o2, .string p2, .string x2, .int .i64 n2, .int .i64 a2, .int .i64 b2] 24)).cell? ⟨w.heap.size, 5, none⟩ = some (.int .i64 n1) := (two_cells w _ _ _ _).1 5
  have d06 : ((w.alloc (.cells #[.int .i64 c1, .int .i64 s1, .int .i64 o1, .string p1, .string x1, .int .i64 n1, .int .i64 a1, .int .i64 b1] 24)).alloc (.cells #[.int .i64 c2, .int .i64 s2, .int .i64 o2, .string p2, .string x2, .int .i64 n2, .int .i64 a2, .int .i64 b2] 24)).cell? ⟨w.heap.size, 6, none⟩ = some (.int .i64 a1) := (two_cells w _ _ _ _).1 6
  have d07 : ((w.alloc (.cells #[.int .i64 c1, .int .i64 s1, .int .i64 o1, .string p1, .string x1, .int .i64 n1, .int .i64 a1, .int .i64 b1] 24)).alloc (.cells #[.int .i64 c2, .int .i64 s2, .int .i64 o2, .string p2, .string x2, .int .i64 n2, .int .i64 a2, .int .i64 b2] 24)).cell? ⟨w.heap.size, 7, none⟩ = some (.int .i64 b1) := (two_cells w _ _ _ _).1 7
  have d10 : ((w.alloc (.cells #[.int .i64 c1, .int .i64 s1, .int .i64 o1, .string p1, .string x1, .int .i64 n1, .int .i64 a1, .int .i64 b1] 24)).alloc (.cells #[.int .i64 c2, .int .i64 s2, .int .i64 o2, .string p2, .string x2, .int .i64 n2, .int .i64 a2, .int .i64 b2] 24)).cell? ⟨w.heap.size + 1, 0, none⟩ = some (.int .i64 c2) := (two_cells w _ _ _ _).2 0
  have d11 : ((w.alloc (.cells #[.int .i64 c1, .int .i64 s1, .int .i64 o1, .string p1, .string x1, .int .i64 n1, .int .i64 a1, .int .i64 b1] 24)).alloc (.cells #[.int .i64 c2, .int .i64 s2, .int .i64 o2, .string p2, .string x2, .int .i64 n2, .int .i64 a2, .int .i64 b2] 24)).cell? ⟨w.heap.size + 1, 1, none⟩ = some (.int .i64 s2) := (two_cells w _ _ _ _).2 1
  have d12 : ((w.alloc (.cells #[.int .i64 c1, .int .i64 s1, .int .i64 o1, .string p1, .string x1, .int .i64 n1, .int .i64 a1, .int .i64 b1] 24)).alloc (.cells #[.int .i64 c2, .int .i64 s2, .int .i64 o2, .string p2, .string x2, .int .i64 n2, .int .i64 a2, .int .i64 b2] 24)).cell? ⟨w.heap.size + 1, 2, none⟩ = some (.int .i64 o2) := (two_cells w _ _ _ _).2 2
  have d13 : ((w.alloc (.cells #[.int .i64 c1, .int .i64 s1, .int .i64 o1, .string p1, .string x1, .int .i64 n1, .int .i64 a1, .int .i64 b1] 24)).alloc (.cells #[.int .i64 c2, .int .i64 s2, .int .i64 o2, .string p2, .string x2, .int .i64 n2, .int .i64 a2, .int .i64 b2] 24)).cell? ⟨w.heap.size + 1, 3, none⟩ = some (.string p2) := (two_cells w _ _ _ _).2 3
  have d14 : ((w.alloc (.cells #[.int .i64 c1, .int .i64 s1, .int .i64 o1, .string p1, .string x1, .int .i64 n1, .int .i64 a1, .int .i64 b1] 24)).alloc (.cells #[.int .i64 c2, .int .i64 s2, .int .i64 o2, .string p2, .string x2, .int .i64 n2, .int .i64 a2, .int .i64 b2] 24)).cell? ⟨w.heap.size + 1, 4, none⟩ = some (.string x2) := (two_cells w _ _ _ _).2 4
  have d15 : ((w.alloc (.cells #[.int .i64 c1, .int .i64 s1, .int .i64 o1, .string p1, .string x1, .int .i64 n1, .int .i64 a1, .int .i64 b1] 24)).alloc (.cells #[.int .i64 c2, .int .i64 s2, .int .i64 o2, .string p2, .string x2, .int .i64 n2, .int .i64 a2, .int .i64 b2] 24)).cell? ⟨w.heap.size + 1, 5, none⟩ = some (.int .i64 n2) := (two_cells w _ _ _ _).2 5
  have d16 : ((w.alloc (.cells #[.int .i64 c1, .int .i64 s1, .int .i64 o1, .string p1, .string x1, .int .i64 n1, .int .i64 a1, .int .i64 b1] 24)).alloc (.cells #[.int .i64 c2, .int .i64 s2, .int .i64 o2, .string p2, .string x2, .int .i64 n2, .int .i64 a2, .int .i64 b2] 24)).cell? ⟨w.heap.size + 1, 6, none⟩ = some (.int .i64 a2) := (two_cells w _ _ _ _).2 6
  have d17 : ((w.alloc (.cells #[.int .i64 c1, .int .i64 s1, .int .i64 o1, .string p1, .string x1, .int .i64 n1, .int .i64 a1, .int .i64 b1] 24)).alloc (.cells #[.int .i64 c2, .int .i64 s2, .int .i64 o2, .string p2, .string x2, .int .i64 n2, .int .i64 a2, .int .i64 b2] 24)).cell? ⟨w.heap.size + 1, 7, none⟩ = some (.int .i64 b2) := (two_cells w _ _ _ _).2 7
  go_enter Try.func15, Try.ntmps15
  go_wp2_with fail
  generalize ((w.alloc (.cells #[.int .i64 c1, .int .i64 s1, .int .i64 o1, .string p1, .string x1, .int .i64 n1, .int .i64 a1, .int .i64 b1] 24)).alloc (.cells #[.int .i64 c2, .int .i64 s2, .int .i64 o2, .string p2, .string x2, .int .i64 n2, .int .i64 a2, .int .i64 b2] 24)) = X0 at *
  refine (rcells_any c1 s1 o1 p1 x1 n1 a1 b1 X0 h1).mono ?_
  rintro e w1 ⟨v1, v2, he, r1, r2, hb⟩
  rw [he.out]
  replace d00 := (hb.cell (p := ⟨w.heap.size, 0, none⟩) (by dsimp only; omega)).trans d00
  replace d01 := (hb.cell (p := ⟨w.heap.size, 1, none⟩) (by dsimp only; omega)).trans d01
  replace d02 := (hb.cell (p := ⟨w.heap.size, 2, none⟩) (by dsimp only; omega)).trans d02
  replace d03 := (hb.cell (p := ⟨w.heap.size, 3, none⟩) (by dsimp only; omega)).trans d03
  replace d04 := (hb.cell (p := ⟨w.heap.size, 4, none⟩) (by dsimp only; omega)).trans d04
  replace d05 := (hb.cell (p := ⟨w.heap.size, 5, none⟩) (by dsimp only; omega)).trans d05
  replace d06 := (hb.cell (p := ⟨w.heap.size, 6, none⟩) (by dsimp only; omega)).trans d06
  replace d07 := (hb.cell (p := ⟨w.heap.size, 7, none⟩) (by dsimp only; omega)).trans d07
  replace d10 := (hb.cell (p := ⟨w.heap.size + 1, 0, none⟩) (by dsimp only; omega)).trans d10
  replace d11 := (hb.cell (p := ⟨w.heap.size + 1, 1, none⟩) (by dsimp only; omega)).trans d11
  replace d12 := (hb.cell (p := ⟨w.heap.size + 1, 2, none⟩) (by dsimp only; omega)).trans d12
  replace d13 := (hb.cell (p := ⟨w.heap.size + 1, 3, none⟩) (by dsimp only; omega)).trans d13
  replace d14 := (hb.cell (p := ⟨w.heap.size + 1, 4, none⟩) (by dsimp only; omega)).trans d14
  replace d15 := (hb.cell (p := ⟨w.heap.size + 1, 5, none⟩) (by dsimp only; omega)).trans d15
  replace d16 := (hb.cell (p := ⟨w.heap.size + 1, 6, none⟩) (by dsimp only; omega)).trans d16
  replace d17 := (hb.cell (p := ⟨w.heap.size + 1, 7, none⟩) (by dsimp only; omega)).trans d17
  have HB1 := Lib.hid (HB0.out.trans (hb.mono (by omega)))
  have hs1 := hb.size
  have R1 := Lib.hid r1
  have R2 := Lib.hid r2
  clear he r1 r2 hb
  go_wp2_with fail
  refine (rcells_any c2 s2 o2 p2 x2 n2 a2 b2 w1 h2).mono ?_
  rintro e w2 ⟨v3, v4, he, r3, r4, hb⟩
  rw [he.out]
  have HB2 := Lib.hid (HB1.out.trans (hb.mono (by omega)))
  have S1 := Lib.hid (R1.out.below hb)
  have S2 := Lib.hid (R2.out.below hb)
  have S3 := Lib.hid r3
  have S4 := Lib.hid r4
  have l1 : Hid ((rds o1 p1).length ≤ 100) := Lib.hid (by have := rds_len o1 p1; omega)
  have l2 : Hid ((wrs o1 p1).length ≤ 100) := Lib.hid (by have := wrs_len o1 p1; omega)
  have l3 : Hid ((rds o2 p2).length ≤ 100) := Lib.hid (by have := rds_len o2 p2; omega)
  have l4 : Hid ((wrs o2 p2).length ≤ 100) := Lib.hid (by have := wrs_len o2 p2; omega)
  have HM := Lib.hid hm
  clear he r3 r4 hb hm hD R1 R2 d00 d01 d02 d03 d04 d05 d06 d07 d10 d11 d12 d13 d14 d15 d16 d17 hs1 hz3
  go_wp2_with fail
  cases e1 : meetC (wrs o1 p1) (rds o2 p2) with
  | true =>
    have hc := rmeet_any v2 v3 _ _ w2 S2.out S3.out l2.out l3.out
    rw [e1] at hc
    refine hc.mono ?_
    rintro e w3 ⟨rfl, hb⟩
    have HB3 := Lib.hid (HB2.out.trans (hb.mono HB2.out.size))
    have HD : Hid (D = true) := Lib.hid (by rw [← HM.out, e1]; rfl)
    clear hc hb e1
    go_wp2
    go_ret
    exact ⟨ret_bool (by rw [HD.out]), HB3.out⟩
  | false =>
    have hc := rmeet_any v2 v3 _ _ w2 S2.out S3.out l2.out l3.out
    rw [e1] at hc
    refine hc.mono ?_
    rintro e w3 ⟨rfl, hb⟩
    have HB3 := Lib.hid (HB2.out.trans (hb.mono HB2.out.size))
    have T3 := Lib.hid hb
    have HM2 : Hid ((meetC (wrs o1 p1) (wrs o2 p2) || meetC (wrs o2 p2) (rds o1 p1)) = D) := Lib.hid (by rw [← HM.out, e1]; rfl)
    clear hc hb e1
    go_wp2_with fail
    cases e2 : meetC (wrs o1 p1) (wrs o2 p2) with
    | true =>
      have hc := rmeet_any v2 v4 _ _ w3 (S2.out.below T3.out) (S4.out.below T3.out) l2.out l4.out
      rw [e2] at hc
      refine hc.mono ?_
      rintro e w4 ⟨rfl, hb⟩
      have HB4 := Lib.hid (HB3.out.trans (hb.mono HB3.out.size))
      have HD : Hid (D = true) := Lib.hid (by rw [← HM2.out, e2]; rfl)
      clear hc hb e2
      go_wp2
      go_ret
      exact ⟨ret_bool (by rw [HD.out]), HB4.out⟩
    | false =>
      have hc := rmeet_any v2 v4 _ _ w3 (S2.out.below T3.out) (S4.out.below T3.out) l2.out l4.out
      rw [e2] at hc
      refine hc.mono ?_
      rintro e w4 ⟨rfl, hb⟩
      have HB4 := Lib.hid (HB3.out.trans (hb.mono HB3.out.size))
      have T4 := Lib.hid hb
      have HM3 : Hid (meetC (wrs o2 p2) (rds o1 p1) = D) := Lib.hid (by rw [← HM2.out, e2]; rfl)
      clear hc hb e2
      go_wp2_with fail
      have hc := rmeet_any v4 v1 _ _ w4 ((S4.out.below T3.out).below T4.out) ((S1.out.below T3.out).below T4.out) l4.out l1.out
      rw [HM3.out] at hc
      refine hc.mono ?_
      rintro e w5 ⟨rfl, hb⟩
      have HB5 := Lib.hid (HB4.out.trans (hb.mono HB4.out.size))
      clear hc hb
      go_wp2
      go_ret
      exact ⟨rfl, HB5.out⟩
set_option maxRecDepth 100000 in
set_option maxHeartbeats 4000000 in
theorem rb_z1 (c1 s1 o1 : Int) (p1 x1 : ByteArray) (n1 a1 b1 : Int) (c2 s2 o2 : Int) (p2 x2 : ByteArray) (n2 a2 b2 : Int) (w : World) (h1 : p1.size ≤ 1000) (h2 : p2.size ≤ 1000) (z1 : (o1 == 0) = true) :
    Calls Try.prog 17 #[.agg #[.int .i64 c1, .int .i64 s1, .int .i64 o1, .string p1, .string x1, .int .i64 n1, .int .i64 a1, .int .i64 b1], .agg #[.int .i64 c2, .int .i64 s2, .int .i64 o2, .string p2, .string x2, .int .i64 n2, .int .i64 a2, .int .i64 b2]] w fun e w' => e = .returned (.bool false) ∧ Below w.heap.size w w' := by
  have HB0 := Lib.hid (two_below w (.cells #[.int .i64 c1, .int .i64 s1, .int .i64 o1, .string p1, .string x1, .int .i64 n1, .int .i64 a1, .int .i64 b1] 24) (.cells #[.int .i64 c2, .int .i64 s2, .int .i64 o2, .string p2, .string x2, .int .i64 n2, .int .i64 a2, .int .i64 b2] 24))
  have hz3 : ((w.alloc (.cells #[.int .i64 c1, .int .i64 s1, .int .i64 o1, .string p1, .string x1, .int .i64 n1, .int .i64 a1, .int .i64 b1] 24)).alloc (.cells #[.int .i64 c2, .int .i64 s2, .int .i64 o2, .string p2, .string x2, .int .i64 n2, .int .i64 a2, .int .i64 b2] 24)).heap.size = w.heap.size + 2 := by simp
  have d00 : ((w.alloc (.cells #[.int .i64 c1, .int .i64 s1, .int .i64 o1, .string p1, .string x1, .int .i64 n1, .int .i64 a1, .int .i64 b1] 24)).alloc (.cells #[.int .i64 c2, .int .i64 s2, .int .i64 o2, .string p2, .string x2, .int .i64 n2, .int .i64 a2, .int .i64 b2] 24)).cell? ⟨w.heap.size, 0, none⟩ = some (.int .i64 c1) := (two_cells w _ _ _ _).1 0
  have d01 : ((w.alloc (.cells #[.int .i64 c1, .int .i64 s1, .int .i64 o1, .string p1, .string x1, .int .i64 n1, .int .i64 a1, .int .i64 b1] 24)).alloc (.cells #[.int .i64 c2, .int .i64 s2, .int .i64 o2, .string p2, .string x2, .int .i64 n2, .int .i64 a2, .int .i64 b2] 24)).cell? ⟨w.heap.size, 1, none⟩ = some (.int .i64 s1) := (two_cells w _ _ _ _).1 1
  have d02 : ((w.alloc (.cells #[.int .i64 c1, .int .i64 s1, .int .i64 o1, .string p1, .string x1, .int .i64 n1, .int .i64 a1, .int .i64 b1] 24)).alloc (.cells #[.int .i64 c2, .int .i64 s2, .int .i64 o2, .string p2, .string x2, .int .i64 n2, .int .i64 a2, .int .i64 b2] 24)).cell? ⟨w.heap.size, 2, none⟩ = some (.int .i64 o1) := (two_cells w _ _ _ _).1 2
  have d03 : ((w.alloc (.cells #[.int .i64 c1, .int .i64 s1, .int .i64 o1, .string p1, .string x1, .int .i64 n1, .int .i64 a1, .int .i64 b1] 24)).alloc (.cells #[.int .i64 c2, .int .i64 s2, .int .i64 o2, .string p2, .string x2, .int .i64 n2, .int .i64 a2, .int .i64 b2] 24)).cell? ⟨w.heap.size, 3, none⟩ = some (.string p1) := (two_cells w _ _ _ _).1 3
  have d04 : ((w.alloc (.cells #[.int .i64 c1, .int .i64 s1, .int .i64 o1, .string p1, .string x1, .int .i64 n1, .int .i64 a1, .int .i64 b1] 24)).alloc (.cells #[.int .i64 c2, .int .i64 s2, .int .i64 o2, .string p2, .string x2, .int .i64 n2, .int .i64 a2, .int .i64 b2] 24)).cell? ⟨w.heap.size, 4, none⟩ = some (.string x1) := (two_cells w _ _ _ _).1 4
  have d05 : ((w.alloc (.cells #[.int .i64 c1, .int .i64 s1, .int .i64 o1, .string p1, .string x1, .int .i64 n1, .int .i64 a1, .int .i64 b1] 24)).alloc (.cells #[.int .i64 c2, .int .i64 s2, .int .i64 o2, .string p2, .string x2, .int .i64 n2, .int .i64 a2, .int .i64 b2] 24)).cell? ⟨w.heap.size, 5, none⟩ = some (.int .i64 n1) := (two_cells w _ _ _ _).1 5
  have d06 : ((w.alloc (.cells #[.int .i64 c1, .int .i64 s1, .int .i64 o1, .string p1, .string x1, .int .i64 n1, .int .i64 a1, .int .i64 b1] 24)).alloc (.cells #[.int .i64 c2, .int .i64 s2, .int .i64 o2, .string p2, .string x2, .int .i64 n2, .int .i64 a2, .int .i64 b2] 24)).cell? ⟨w.heap.size, 6, none⟩ = some (.int .i64 a1) := (two_cells w _ _ _ _).1 6
  have d07 : ((w.alloc (.cells #[.int .i64 c1, .int .i64 s1, .int .i64 o1, .string p1, .string x1, .int .i64 n1, .int .i64 a1, .int .i64 b1] 24)).alloc (.cells #[.int .i64 c2, .int .i64 s2, .int .i64 o2, .string p2, .string x2, .int .i64 n2, .int .i64 a2, .int .i64 b2] 24)).cell? ⟨w.heap.size, 7, none⟩ = some (.int .i64 b1) := (two_cells w _ _ _ _).1 7
  have d10 : ((w.alloc (.cells #[.int .i64 c1, .int .i64 s1, .int .i64 o1, .string p1, .string x1, .int .i64 n1, .int .i64 a1, .int .i64 b1] 24)).alloc (.cells #[.int .i64 c2, .int .i64 s2, .int .i64 o2, .string p2, .string x2, .int .i64 n2, .int .i64 a2, .int .i64 b2] 24)).cell? ⟨w.heap.size + 1, 0, none⟩ = some (.int .i64 c2) := (two_cells w _ _ _ _).2 0
  have d11 : ((w.alloc (.cells #[.int .i64 c1, .int .i64 s1, .int .i64 o1, .string p1, .string x1, .int .i64 n1, .int .i64 a1, .int .i64 b1] 24)).alloc (.cells #[.int .i64 c2, .int .i64 s2, .int .i64 o2, .string p2, .string x2, .int .i64 n2, .int .i64 a2, .int .i64 b2] 24)).cell? ⟨w.heap.size + 1, 1, none⟩ = some (.int .i64 s2) := (two_cells w _ _ _ _).2 1
  have d12 : ((w.alloc (.cells #[.int .i64 c1, .int .i64 s1, .int .i64 o1, .string p1, .string x1, .int .i64 n1, .int .i64 a1, .int .i64 b1] 24)).alloc (.cells #[.int .i64 c2, .int .i64 s2, .int .i64 o2, .string p2, .string x2, .int .i64 n2, .int .i64 a2, .int .i64 b2] 24)).cell? ⟨w.heap.size + 1, 2, none⟩ = some (.int .i64 o2) := (two_cells w _ _ _ _).2 2
  have d13 : ((w.alloc (.cells #[.int .i64 c1, .int .i64 s1, .int .i64 o1, .string p1, .string x1, .int .i64 n1, .int .i64 a1, .int .i64 b1] 24)).alloc (.cells #[.int .i64 c2, .int .i64 s2, .int .i64 o2, .string p2, .string x2, .int .i64 n2, .int .i64 a2, .int .i64 b2] 24)).cell? ⟨w.heap.size + 1, 3, none⟩ = some (.string p2) := (two_cells w _ _ _ _).2 3
  have d14 : ((w.alloc (.cells #[.int .i64 c1, .int .i64 s1, .int .i64 o1, .string p1, .string x1, .int .i64 n1, .int .i64 a1, .int .i64 b1] 24)).alloc (.cells #[.int .i64 c2, .int .i64 s2, .int .i64 o2, .string p2, .string x2, .int .i64 n2, .int .i64 a2, .int .i64 b2] 24)).cell? ⟨w.heap.size + 1, 4, none⟩ = some (.string x2) := (two_cells w _ _ _ _).2 4
  have d15 : ((w.alloc (.cells #[.int .i64 c1, .int .i64 s1, .int .i64 o1, .string p1, .string x1, .int .i64 n1, .int .i64 a1, .int .i64 b1] 24)).alloc (.cells #[.int .i64 c2, .int .i64 s2, .int .i64 o2, .string p2, .string x2, .int .i64 n2, .int .i64 a2, .int .i64 b2] 24)).cell? ⟨w.heap.size + 1, 5, none⟩ = some (.int .i64 n2) := (two_cells w _ _ _ _).2 5
  have d16 : ((w.alloc (.cells #[.int .i64 c1, .int .i64 s1, .int .i64 o1, .string p1, .string x1, .int .i64 n1, .int .i64 a1, .int .i64 b1] 24)).alloc (.cells #[.int .i64 c2, .int .i64 s2, .int .i64 o2, .string p2, .string x2, .int .i64 n2, .int .i64 a2, .int .i64 b2] 24)).cell? ⟨w.heap.size + 1, 6, none⟩ = some (.int .i64 a2) := (two_cells w _ _ _ _).2 6
  have d17 : ((w.alloc (.cells #[.int .i64 c1, .int .i64 s1, .int .i64 o1, .string p1, .string x1, .int .i64 n1, .int .i64 a1, .int .i64 b1] 24)).alloc (.cells #[.int .i64 c2, .int .i64 s2, .int .i64 o2, .string p2, .string x2, .int .i64 n2, .int .i64 a2, .int .i64 b2] 24)).cell? ⟨w.heap.size + 1, 7, none⟩ = some (.int .i64 b2) := (two_cells w _ _ _ _).2 7
  go_enter Try.func17, Try.ntmps17
  go_wp2
  go_ret
  exact ⟨rfl, HB0.out⟩
set_option maxRecDepth 100000 in
set_option maxHeartbeats 4000000 in
theorem rb_z2 (c1 s1 o1 : Int) (p1 x1 : ByteArray) (n1 a1 b1 : Int) (c2 s2 o2 : Int) (p2 x2 : ByteArray) (n2 a2 b2 : Int) (w : World) (h1 : p1.size ≤ 1000) (h2 : p2.size ≤ 1000) (z1 : (o1 == 0) = false) (z2 : (o2 == 0) = true) :
    Calls Try.prog 17 #[.agg #[.int .i64 c1, .int .i64 s1, .int .i64 o1, .string p1, .string x1, .int .i64 n1, .int .i64 a1, .int .i64 b1], .agg #[.int .i64 c2, .int .i64 s2, .int .i64 o2, .string p2, .string x2, .int .i64 n2, .int .i64 a2, .int .i64 b2]] w fun e w' => e = .returned (.bool false) ∧ Below w.heap.size w w' := by
  have HB0 := Lib.hid (two_below w (.cells #[.int .i64 c1, .int .i64 s1, .int .i64 o1, .string p1, .string x1, .int .i64 n1, .int .i64 a1, .int .i64 b1] 24) (.cells #[.int .i64 c2, .int .i64 s2, .int .i64 o2, .string p2, .string x2, .int .i64 n2, .int .i64 a2, .int .i64 b2] 24))
  have hz3 : ((w.alloc (.cells #[.int .i64 c1, .int .i64 s1, .int .i64 o1, .string p1, .string x1, .int .i64 n1, .int .i64 a1, .int .i64 b1] 24)).alloc (.cells #[.int .i64 c2, .int .i64 s2, .int .i64 o2, .string p2, .string x2, .int .i64 n2, .int .i64 a2, .int .i64 b2] 24)).heap.size = w.heap.size + 2 := by simp
  have d00 : ((w.alloc (.cells #[.int .i64 c1, .int .i64 s1, .int .i64 o1, .string p1, .string x1, .int .i64 n1, .int .i64 a1, .int .i64 b1] 24)).alloc (.cells #[.int .i64 c2, .int .i64 s2, .int .i64 o2, .string p2, .string x2, .int .i64 n2, .int .i64 a2, .int .i64 b2] 24)).cell? ⟨w.heap.size, 0, none⟩ = some (.int .i64 c1) := (two_cells w _ _ _ _).1 0
  have d01 : ((w.alloc (.cells #[.int .i64 c1, .int .i64 s1, .int .i64 o1, .string p1, .string x1, .int .i64 n1, .int .i64 a1, .int .i64 b1] 24)).alloc (.cells #[.int .i64 c2, .int .i64 s2, .int .i64 o2, .string p2, .string x2, .int .i64 n2, .int .i64 a2, .int .i64 b2] 24)).cell? ⟨w.heap.size, 1, none⟩ = some (.int .i64 s1) := (two_cells w _ _ _ _).1 1
  have d02 : ((w.alloc (.cells #[.int .i64 c1, .int .i64 s1, .int .i64 o1, .string p1, .string x1, .int .i64 n1, .int .i64 a1, .int .i64 b1] 24)).alloc (.cells #[.int .i64 c2, .int .i64 s2, .int .i64 o2, .string p2, .string x2, .int .i64 n2, .int .i64 a2, .int .i64 b2] 24)).cell? ⟨w.heap.size, 2, none⟩ = some (.int .i64 o1) := (two_cells w _ _ _ _).1 2
  have d03 : ((w.alloc (.cells #[.int .i64 c1, .int .i64 s1, .int .i64 o1, .string p1, .string x1, .int .i64 n1, .int .i64 a1, .int .i64 b1] 24)).alloc (.cells #[.int .i64 c2, .int .i64 s2, .int .i64 o2, .string p2, .string x2, .int .i64 n2, .int .i64 a2, .int .i64 b2] 24)).cell? ⟨w.heap.size, 3, none⟩ = some (.string p1) := (two_cells w _ _ _ _).1 3
  have d04 : ((w.alloc (.cells #[.int .i64 c1, .int .i64 s1, .int .i64 o1, .string p1, .string x1, .int .i64 n1, .int .i64 a1, .int .i64 b1] 24)).alloc (.cells #[.int .i64 c2, .int .i64 s2, .int .i64 o2, .string p2, .string x2, .int .i64 n2, .int .i64 a2, .int .i64 b2] 24)).cell? ⟨w.heap.size, 4, none⟩ = some (.string x1) := (two_cells w _ _ _ _).1 4
  have d05 : ((w.alloc (.cells #[.int .i64 c1, .int .i64 s1, .int .i64 o1, .string p1, .string x1, .int .i64 n1, .int .i64 a1, .int .i64 b1] 24)).alloc (.cells #[.int .i64 c2, .int .i64 s2, .int .i64 o2, .string p2, .string x2, .int .i64 n2, .int .i64 a2, .int .i64 b2] 24)).cell? ⟨w.heap.size, 5, none⟩ = some (.int .i64 n1) := (two_cells w _ _ _ _).1 5
  have d06 : ((w.alloc (.cells #[.int .i64 c1, .int .i64 s1, .int .i64 o1, .string p1, .string x1, .int .i64 n1, .int .i64 a1, .int .i64 b1] 24)).alloc (.cells #[.int .i64 c2, .int .i64 s2, .int .i64 o2, .string p2, .string x2, .int .i64 n2, .int .i64 a2, .int .i64 b2] 24)).cell? ⟨w.heap.size, 6, none⟩ = some (.int .i64 a1) := (two_cells w _ _ _ _).1 6
  have d07 : ((w.alloc (.cells #[.int .i64 c1, .int .i64 s1, .int .i64 o1, .string p1, .string x1, .int .i64 n1, .int .i64 a1, .int .i64 b1] 24)).alloc (.cells #[.int .i64 c2, .int .i64 s2, .int .i64 o2, .string p2, .string x2, .int .i64 n2, .int .i64 a2, .int .i64 b2] 24)).cell? ⟨w.heap.size, 7, none⟩ = some (.int .i64 b1) := (two_cells w _ _ _ _).1 7
  have d10 : ((w.alloc (.cells #[.int .i64 c1, .int .i64 s1, .int .i64 o1, .string p1, .string x1, .int .i64 n1, .int .i64 a1, .int .i64 b1] 24)).alloc (.cells #[.int .i64 c2, .int .i64 s2, .int .i64 o2, .string p2, .string x2, .int .i64 n2, .int .i64 a2, .int .i64 b2] 24)).cell? ⟨w.heap.size + 1, 0, none⟩ = some (.int .i64 c2) := (two_cells w _ _ _ _).2 0
  have d11 : ((w.alloc (.cells #[.int .i64 c1, .int .i64 s1, .int .i64 o1, .string p1, .string x1, .int .i64 n1, .int .i64 a1, .int .i64 b1] 24)).alloc (.cells #[.int .i64 c2, .int .i64 s2, .int .i64 o2, .string p2, .string x2, .int .i64 n2, .int .i64 a2, .int .i64 b2] 24)).cell? ⟨w.heap.size + 1, 1, none⟩ = some (.int .i64 s2) := (two_cells w _ _ _ _).2 1
  have d12 : ((w.alloc (.cells #[.int .i64 c1, .int .i64 s1, .int .i64 o1, .string p1, .string x1, .int .i64 n1, .int .i64 a1, .int .i64 b1] 24)).alloc (.cells #[.int .i64 c2, .int .i64 s2, .int .i64 o2, .string p2, .string x2, .int .i64 n2, .int .i64 a2, .int .i64 b2] 24)).cell? ⟨w.heap.size + 1, 2, none⟩ = some (.int .i64 o2) := (two_cells w _ _ _ _).2 2
  have d13 : ((w.alloc (.cells #[.int .i64 c1, .int .i64 s1, .int .i64 o1, .string p1, .string x1, .int .i64 n1, .int .i64 a1, .int .i64 b1] 24)).alloc (.cells #[.int .i64 c2, .int .i64 s2, .int .i64 o2, .string p2, .string x2, .int .i64 n2, .int .i64 a2, .int .i64 b2] 24)).cell? ⟨w.heap.size + 1, 3, none⟩ = some (.string p2) := (two_cells w _ _ _ _).2 3
  have d14 : ((w.alloc (.cells #[.int .i64 c1, .int .i64 s1, .int .i64 o1, .string p1, .string x1, .int .i64 n1, .int .i64 a1, .int .i64 b1] 24)).alloc (.cells #[.int .i64 c2, .int .i64 s2, .int .i64 o2, .string p2, .string x2, .int .i64 n2, .int .i64 a2, .int .i64 b2] 24)).cell? ⟨w.heap.size + 1, 4, none⟩ = some (.string x2) := (two_cells w _ _ _ _).2 4
  have d15 : ((w.alloc (.cells #[.int .i64 c1, .int .i64 s1, .int .i64 o1, .string p1, .string x1, .int .i64 n1, .int .i64 a1, .int .i64 b1] 24)).alloc (.cells #[.int .i64 c2, .int .i64 s2, .int .i64 o2, .string p2, .string x2, .int .i64 n2, .int .i64 a2, .int .i64 b2] 24)).cell? ⟨w.heap.size + 1, 5, none⟩ = some (.int .i64 n2) := (two_cells w _ _ _ _).2 5
  have d16 : ((w.alloc (.cells #[.int .i64 c1, .int .i64 s1, .int .i64 o1, .string p1, .string x1, .int .i64 n1, .int .i64 a1, .int .i64 b1] 24)).alloc (.cells #[.int .i64 c2, .int .i64 s2, .int .i64 o2, .string p2, .string x2, .int .i64 n2, .int .i64 a2, .int .i64 b2] 24)).cell? ⟨w.heap.size + 1, 6, none⟩ = some (.int .i64 a2) := (two_cells w _ _ _ _).2 6
  have d17 : ((w.alloc (.cells #[.int .i64 c1, .int .i64 s1, .int .i64 o1, .string p1, .string x1, .int .i64 n1, .int .i64 a1, .int .i64 b1] 24)).alloc (.cells #[.int .i64 c2, .int .i64 s2, .int .i64 o2, .string p2, .string x2, .int .i64 n2, .int .i64 a2, .int .i64 b2] 24)).cell? ⟨w.heap.size + 1, 7, none⟩ = some (.int .i64 b2) := (two_cells w _ _ _ _).2 7
  go_enter Try.func17, Try.ntmps17
  go_wp2
  go_ret
  exact ⟨rfl, HB0.out⟩
set_option maxRecDepth 100000 in
set_option maxHeartbeats 4000000 in
theorem rb_c1 (c1 s1 o1 : Int) (p1 x1 : ByteArray) (n1 a1 b1 : Int) (c2 s2 o2 : Int) (p2 x2 : ByteArray) (n2 a2 b2 : Int) (w : World) (h1 : p1.size ≤ 1000) (h2 : p2.size ≤ 1000) (z1 : (o1 == 0) = false) (z2 : (o2 == 0) = false) (k1 : ctl o1 = true) :
    Calls Try.prog 17 #[.agg #[.int .i64 c1, .int .i64 s1, .int .i64 o1, .string p1, .string x1, .int .i64 n1, .int .i64 a1, .int .i64 b1], .agg #[.int .i64 c2, .int .i64 s2, .int .i64 o2, .string p2, .string x2, .int .i64 n2, .int .i64 a2, .int .i64 b2]] w fun e w' => e = .returned (.bool true) ∧ Below w.heap.size w w' := by
  have HB0 := Lib.hid (two_below w (.cells #[.int .i64 c1, .int .i64 s1, .int .i64 o1, .string p1, .string x1, .int .i64 n1, .int .i64 a1, .int .i64 b1] 24) (.cells #[.int .i64 c2, .int .i64 s2, .int .i64 o2, .string p2, .string x2, .int .i64 n2, .int .i64 a2, .int .i64 b2] 24))
  have hz3 : ((w.alloc (.cells #[.int .i64 c1, .int .i64 s1, .int .i64 o1, .string p1, .string x1, .int .i64 n1, .int .i64 a1, .int .i64 b1] 24)).alloc (.cells #[.int .i64 c2, .int .i64 s2, .int .i64 o2, .string p2, .string x2, .int .i64 n2, .int .i64 a2, .int .i64 b2] 24)).heap.size = w.heap.size + 2 := by simp
  have d00 : ((w.alloc (.cells #[.int .i64 c1, .int .i64 s1, .int .i64 o1, .string p1, .string x1, .int .i64 n1, .int .i64 a1, .int .i64 b1] 24)).alloc (.cells #[.int .i64 c2, .int .i64 s2, .int .i64 o2, .string p2, .string x2, .int .i64 n2, .int .i64 a2, .int .i64 b2] 24)).cell? ⟨w.heap.size, 0, none⟩ = some (.int .i64 c1) := (two_cells w _ _ _ _).1 0
  have d01 : ((w.alloc (.cells #[.int .i64 c1, .int .i64 s1, .int .i64 o1, .string p1, .string x1, .int .i64 n1, .int .i64 a1, .int .i64 b1] 24)).alloc (.cells #[.int .i64 c2, .int .i64 s2, .int .i64 o2, .string p2, .string x2, .int .i64 n2, .int .i64 a2, .int .i64 b2] 24)).cell? ⟨w.heap.size, 1, none⟩ = some (.int .i64 s1) := (two_cells w _ _ _ _).1 1
  have d02 : ((w.alloc (.cells #[.int .i64 c1, .int .i64 s1, .int .i64 o1, .string p1, .string x1, .int .i64 n1, .int .i64 a1, .int .i64 b1] 24)).alloc (.cells #[.int .i64 c2, .int .i64 s2, .int .i64 o2, .string p2, .string x2, .int .i64 n2, .int .i64 a2, .int .i64 b2] 24)).cell? ⟨w.heap.size, 2, none⟩ = some (.int .i64 o1) := (two_cells w _ _ _ _).1 2
  have d03 : ((w.alloc (.cells #[.int .i64 c1, .int .i64 s1, .int .i64 o1, .string p1, .string x1, .int .i64 n1, .int .i64 a1, .int .i64 b1] 24)).alloc (.cells #[.int .i64 c2, .int .i64 s2, .int .i64 o2, .string p2, .string x2, .int .i64 n2, .int .i64 a2, .int .i64 b2] 24)).cell? ⟨w.heap.size, 3, none⟩ = some (.string p1) := (two_cells w _ _ _ _).1 3
  have d04 : ((w.alloc (.cells #[.int .i64 c1, .int .i64 s1, .int .i64 o1, .string p1, .string x1, .int .i64 n1, .int .i64 a1, .int .i64 b1] 24)).alloc (.cells #[.int .i64 c2, .int .i64 s2, .int .i64 o2, .string p2, .string x2, .int .i64 n2, .int .i64 a2, .int .i64 b2] 24)).cell? ⟨w.heap.size, 4, none⟩ = some (.string x1) := (two_cells w _ _ _ _).1 4
  have d05 : ((w.alloc (.cells #[.int .i64 c1, .int .i64 s1, .int .i64 o1, .string p1, .string x1, .int .i64 n1, .int .i64 a1, .int .i64 b1] 24)).alloc (.cells #[.int .i64 c2, .int .i64 s2, .int .i64 o2, .string p2, .string x2, .int .i64 n2, .int .i64 a2, .int .i64 b2] 24)).cell? ⟨w.heap.size, 5, none⟩ = some (.int .i64 n1) := (two_cells w _ _ _ _).1 5
  have d06 : ((w.alloc (.cells #[.int .i64 c1, .int .i64 s1, .int .i64 o1, .string p1, .string x1, .int .i64 n1, .int .i64 a1, .int .i64 b1] 24)).alloc (.cells #[.int .i64 c2, .int .i64 s2, .int .i64 o2, .string p2, .string x2, .int .i64 n2, .int .i64 a2, .int .i64 b2] 24)).cell? ⟨w.heap.size, 6, none⟩ = some (.int .i64 a1) := (two_cells w _ _ _ _).1 6
  have d07 : ((w.alloc (.cells #[.int .i64 c1, .int .i64 s1, .int .i64 o1, .string p1, .string x1, .int .i64 n1, .int .i64 a1, .int .i64 b1] 24)).alloc (.cells #[.int .i64 c2, .int .i64 s2, .int .i64 o2, .string p2, .string x2, .int .i64 n2, .int .i64 a2, .int .i64 b2] 24)).cell? ⟨w.heap.size, 7, none⟩ = some (.int .i64 b1) := (two_cells w _ _ _ _).1 7
  have d10 : ((w.alloc (.cells #[.int .i64 c1, .int .i64 s1, .int .i64 o1, .string p1, .string x1, .int .i64 n1, .int .i64 a1, .int .i64 b1] 24)).alloc (.cells #[.int .i64 c2, .int .i64 s2, .int .i64 o2, .string p2, .string x2, .int .i64 n2, .int .i64 a2, .int .i64 b2] 24)).cell? ⟨w.heap.size + 1, 0, none⟩ = some (.int .i64 c2) := (two_cells w _ _ _ _).2 0
  have d11 : ((w.alloc (.cells #[.int .i64 c1, .int .i64 s1, .int .i64 o1, .string p1, .string x1, .int .i64 n1, .int .i64 a1, .int .i64 b1] 24)).alloc (.cells #[.int .i64 c2, .int .i64 s2, .int .i64 o2, .string p2, .string x2, .int .i64 n2, .int .i64 a2, .int .i64 b2] 24)).cell? ⟨w.heap.size + 1, 1, none⟩ = some (.int .i64 s2) := (two_cells w _ _ _ _).2 1
  have d12 : ((w.alloc (.cells #[.int .i64 c1, .int .i64 s1, .int .i64 o1, .string p1, .string x1, .int .i64 n1, .int .i64 a1, .int .i64 b1] 24)).alloc (.cells #[.int .i64 c2, .int .i64 s2, .int .i64 o2, .string p2, .string x2, .int .i64 n2, .int .i64 a2, .int .i64 b2] 24)).cell? ⟨w.heap.size + 1, 2, none⟩ = some (.int .i64 o2) := (two_cells w _ _ _ _).2 2
  have d13 : ((w.alloc (.cells #[.int .i64 c1, .int .i64 s1, .int .i64 o1, .string p1, .string x1, .int .i64 n1, .int .i64 a1, .int .i64 b1] 24)).alloc (.cells #[.int .i64 c2, .int .i64 s2, .int .i64 o2, .string p2, .string x2, .int .i64 n2, .int .i64 a2, .int .i64 b2] 24)).cell? ⟨w.heap.size + 1, 3, none⟩ = some (.string p2) := (two_cells w _ _ _ _).2 3
  have d14 : ((w.alloc (.cells #[.int .i64 c1, .int .i64 s1, .int .i64 o1, .string p1, .string x1, .int .i64 n1, .int .i64 a1, .int .i64 b1] 24)).alloc (.cells #[.int .i64 c2, .int .i64 s2, .int .i64 o2, .string p2, .string x2, .int .i64 n2, .int .i64 a2, .int .i64 b2] 24)).cell? ⟨w.heap.size + 1, 4, none⟩ = some (.string x2) := (two_cells w _ _ _ _).2 4
  have d15 : ((w.alloc (.cells #[.int .i64 c1, .int .i64 s1, .int .i64 o1, .string p1, .string x1, .int .i64 n1, .int .i64 a1, .int .i64 b1] 24)).alloc (.cells #[.int .i64 c2, .int .i64 s2, .int .i64 o2, .string p2, .string x2, .int .i64 n2, .int .i64 a2, .int .i64 b2] 24)).cell? ⟨w.heap.size + 1, 5, none⟩ = some (.int .i64 n2) := (two_cells w _ _ _ _).2 5
  have d16 : ((w.alloc (.cells #[.int .i64 c1, .int .i64 s1, .int .i64 o1, .string p1, .string x1, .int .i64 n1, .int .i64 a1, .int .i64 b1] 24)).alloc (.cells #[.int .i64 c2, .int .i64 s2, .int .i64 o2, .string p2, .string x2, .int .i64 n2, .int .i64 a2, .int .i64 b2] 24)).cell? ⟨w.heap.size + 1, 6, none⟩ = some (.int .i64 a2) := (two_cells w _ _ _ _).2 6
  have d17 : ((w.alloc (.cells #[.int .i64 c1, .int .i64 s1, .int .i64 o1, .string p1, .string x1, .int .i64 n1, .int .i64 a1, .int .i64 b1] 24)).alloc (.cells #[.int .i64 c2, .int .i64 s2, .int .i64 o2, .string p2, .string x2, .int .i64 n2, .int .i64 a2, .int .i64 b2] 24)).cell? ⟨w.heap.size + 1, 7, none⟩ = some (.int .i64 b2) := (two_cells w _ _ _ _).2 7
  go_enter Try.func17, Try.ntmps17
  go_wp2_with fail
  generalize ((w.alloc (.cells #[.int .i64 c1, .int .i64 s1, .int .i64 o1, .string p1, .string x1, .int .i64 n1, .int .i64 a1, .int .i64 b1] 24)).alloc (.cells #[.int .i64 c2, .int .i64 s2, .int .i64 o2, .string p2, .string x2, .int .i64 n2, .int .i64 a2, .int .i64 b2] 24)) = X0 at *
  have hc := rcontrol_any c1 s1 o1 p1 x1 n1 a1 b1 X0
  rw [k1] at hc
  refine hc.mono ?_
  rintro e w1 ⟨rfl, hb⟩
  clear hc
  replace d00 := (hb.cell (p := ⟨w.heap.size, 0, none⟩) (by dsimp only; omega)).trans d00
  replace d01 := (hb.cell (p := ⟨w.heap.size, 1, none⟩) (by dsimp only; omega)).trans d01
  replace d02 := (hb.cell (p := ⟨w.heap.size, 2, none⟩) (by dsimp only; omega)).trans d02
  replace d03 := (hb.cell (p := ⟨w.heap.size, 3, none⟩) (by dsimp only; omega)).trans d03
  replace d04 := (hb.cell (p := ⟨w.heap.size, 4, none⟩) (by dsimp only; omega)).trans d04
  replace d05 := (hb.cell (p := ⟨w.heap.size, 5, none⟩) (by dsimp only; omega)).trans d05
  replace d06 := (hb.cell (p := ⟨w.heap.size, 6, none⟩) (by dsimp only; omega)).trans d06
  replace d07 := (hb.cell (p := ⟨w.heap.size, 7, none⟩) (by dsimp only; omega)).trans d07
  replace d10 := (hb.cell (p := ⟨w.heap.size + 1, 0, none⟩) (by dsimp only; omega)).trans d10
  replace d11 := (hb.cell (p := ⟨w.heap.size + 1, 1, none⟩) (by dsimp only; omega)).trans d11
  replace d12 := (hb.cell (p := ⟨w.heap.size + 1, 2, none⟩) (by dsimp only; omega)).trans d12
  replace d13 := (hb.cell (p := ⟨w.heap.size + 1, 3, none⟩) (by dsimp only; omega)).trans d13
  replace d14 := (hb.cell (p := ⟨w.heap.size + 1, 4, none⟩) (by dsimp only; omega)).trans d14
  replace d15 := (hb.cell (p := ⟨w.heap.size + 1, 5, none⟩) (by dsimp only; omega)).trans d15
  replace d16 := (hb.cell (p := ⟨w.heap.size + 1, 6, none⟩) (by dsimp only; omega)).trans d16
  replace d17 := (hb.cell (p := ⟨w.heap.size + 1, 7, none⟩) (by dsimp only; omega)).trans d17
  have HBw1 := Lib.hid (HB0.out.trans (hb.mono (by omega)))
  have hsw1 := hb.size
  clear hb
  go_wp2
  go_ret
  exact ⟨rfl, HBw1.out⟩
set_option maxRecDepth 100000 in
set_option maxHeartbeats 4000000 in
theorem rb_c2 (c1 s1 o1 : Int) (p1 x1 : ByteArray) (n1 a1 b1 : Int) (c2 s2 o2 : Int) (p2 x2 : ByteArray) (n2 a2 b2 : Int) (w : World) (h1 : p1.size ≤ 1000) (h2 : p2.size ≤ 1000) (z1 : (o1 == 0) = false) (z2 : (o2 == 0) = false) (k1 : ctl o1 = false) (k2 : ctl o2 = true) :
    Calls Try.prog 17 #[.agg #[.int .i64 c1, .int .i64 s1, .int .i64 o1, .string p1, .string x1, .int .i64 n1, .int .i64 a1, .int .i64 b1], .agg #[.int .i64 c2, .int .i64 s2, .int .i64 o2, .string p2, .string x2, .int .i64 n2, .int .i64 a2, .int .i64 b2]] w fun e w' => e = .returned (.bool true) ∧ Below w.heap.size w w' := by
  have HB0 := Lib.hid (two_below w (.cells #[.int .i64 c1, .int .i64 s1, .int .i64 o1, .string p1, .string x1, .int .i64 n1, .int .i64 a1, .int .i64 b1] 24) (.cells #[.int .i64 c2, .int .i64 s2, .int .i64 o2, .string p2, .string x2, .int .i64 n2, .int .i64 a2, .int .i64 b2] 24))
  have hz3 : ((w.alloc (.cells #[.int .i64 c1, .int .i64 s1, .int .i64 o1, .string p1, .string x1, .int .i64 n1, .int .i64 a1, .int .i64 b1] 24)).alloc (.cells #[.int .i64 c2, .int .i64 s2, .int .i64 o2, .string p2, .string x2, .int .i64 n2, .int .i64 a2, .int .i64 b2] 24)).heap.size = w.heap.size + 2 := by simp
  have d00 : ((w.alloc (.cells #[.int .i64 c1, .int .i64 s1, .int .i64 o1, .string p1, .string x1, .int .i64 n1, .int .i64 a1, .int .i64 b1] 24)).alloc (.cells #[.int .i64 c2, .int .i64 s2, .int .i64 o2, .string p2, .string x2, .int .i64 n2, .int .i64 a2, .int .i64 b2] 24)).cell? ⟨w.heap.size, 0, none⟩ = some (.int .i64 c1) := (two_cells w _ _ _ _).1 0
  have d01 : ((w.alloc (.cells #[.int .i64 c1, .int .i64 s1, .int .i64 o1, .string p1, .string x1, .int .i64 n1, .int .i64 a1, .int .i64 b1] 24)).alloc (.cells #[.int .i64 c2, .int .i64 s2, .int .i64 o2, .string p2, .string x2, .int .i64 n2, .int .i64 a2, .int .i64 b2] 24)).cell? ⟨w.heap.size, 1, none⟩ = some (.int .i64 s1) := (two_cells w _ _ _ _).1 1
  have d02 : ((w.alloc (.cells #[.int .i64 c1, .int .i64 s1, .int .i64 o1, .string p1, .string x1, .int .i64 n1, .int .i64 a1, .int .i64 b1] 24)).alloc (.cells #[.int .i64 c2, .int .i64 s2, .int .i64 o2, .string p2, .string x2, .int .i64 n2, .int .i64 a2, .int .i64 b2] 24)).cell? ⟨w.heap.size, 2, none⟩ = some (.int .i64 o1) := (two_cells w _ _ _ _).1 2
  have d03 : ((w.alloc (.cells #[.int .i64 c1, .int .i64 s1, .int .i64 o1, .string p1, .string x1, .int .i64 n1, .int .i64 a1, .int .i64 b1] 24)).alloc (.cells #[.int .i64 c2, .int .i64 s2, .int .i64 o2, .string p2, .string x2, .int .i64 n2, .int .i64 a2, .int .i64 b2] 24)).cell? ⟨w.heap.size, 3, none⟩ = some (.string p1) := (two_cells w _ _ _ _).1 3
  have d04 : ((w.alloc (.cells #[.int .i64 c1, .int .i64 s1, .int .i64 o1, .string p1, .string x1, .int .i64 n1, .int .i64 a1, .int .i64 b1] 24)).alloc (.cells #[.int .i64 c2, .int .i64 s2, .int .i64 o2, .string p2, .string x2, .int .i64 n2, .int .i64 a2, .int .i64 b2] 24)).cell? ⟨w.heap.size, 4, none⟩ = some (.string x1) := (two_cells w _ _ _ _).1 4
  have d05 : ((w.alloc (.cells #[.int .i64 c1, .int .i64 s1, .int .i64 o1, .string p1, .string x1, .int .i64 n1, .int .i64 a1, .int .i64 b1] 24)).alloc (.cells #[.int .i64 c2, .int .i64 s2, .int .i64 o2, .string p2, .string x2, .int .i64 n2, .int .i64 a2, .int .i64 b2] 24)).cell? ⟨w.heap.size, 5, none⟩ = some (.int .i64 n1) := (two_cells w _ _ _ _).1 5
  have d06 : ((w.alloc (.cells #[.int .i64 c1, .int .i64 s1, .int .i64 o1, .string p1, .string x1, .int .i64 n1, .int .i64 a1, .int .i64 b1] 24)).alloc (.cells #[.int .i64 c2, .int .i64 s2, .int .i64 o2, .string p2, .string x2, .int .i64 n2, .int .i64 a2, .int .i64 b2] 24)).cell? ⟨w.heap.size, 6, none⟩ = some (.int .i64 a1) := (two_cells w _ _ _ _).1 6
  have d07 : ((w.alloc (.cells #[.int .i64 c1, .int .i64 s1, .int .i64 o1, .string p1, .string x1, .int .i64 n1, .int .i64 a1, .int .i64 b1] 24)).alloc (.cells #[.int .i64 c2, .int .i64 s2, .int .i64 o2, .string p2, .string x2, .int .i64 n2, .int .i64 a2, .int .i64 b2] 24)).cell? ⟨w.heap.size, 7, none⟩ = some (.int .i64 b1) := (two_cells w _ _ _ _).1 7
  have d10 : ((w.alloc (.cells #[.int .i64 c1, .int .i64 s1, .int .i64 o1, .string p1, .string x1, .int .i64 n1, .int .i64 a1, .int .i64 b1] 24)).alloc (.cells #[.int .i64 c2, .int .i64 s2, .int .i64 o2, .string p2, .string x2, .int .i64 n2, .int .i64 a2, .int .i64 b2] 24)).cell? ⟨w.heap.size + 1, 0, none⟩ = some (.int .i64 c2) := (two_cells w _ _ _ _).2 0
  have d11 : ((w.alloc (.cells #[.int .i64 c1, .int .i64 s1, .int .i64 o1, .string p1, .string x1, .int .i64 n1, .int .i64 a1, .int .i64 b1] 24)).alloc (.cells #[.int .i64 c2, .int .i64 s2, .int .i64 o2, .string p2, .string x2, .int .i64 n2, .int .i64 a2, .int .i64 b2] 24)).cell? ⟨w.heap.size + 1, 1, none⟩ = some (.int .i64 s2) := (two_cells w _ _ _ _).2 1
  have d12 : ((w.alloc (.cells #[.int .i64 c1, .int .i64 s1, .int .i64 o1, .string p1, .string x1, .int .i64 n1, .int .i64 a1, .int .i64 b1] 24)).alloc (.cells #[.int .i64 c2, .int .i64 s2, .int .i64 o2, .string p2, .string x2, .int .i64 n2, .int .i64 a2, .int .i64 b2] 24)).cell? ⟨w.heap.size + 1, 2, none⟩ = some (.int .i64 o2) := (two_cells w _ _ _ _).2 2
  have d13 : ((w.alloc (.cells #[.int .i64 c1, .int .i64 s1, .int .i64 o1, .string p1, .string x1, .int .i64 n1, .int .i64 a1, .int .i64 b1] 24)).alloc (.cells #[.int .i64 c2, .int .i64 s2, .int .i64 o2, .string p2, .string x2, .int .i64 n2, .int .i64 a2, .int .i64 b2] 24)).cell? ⟨w.heap.size + 1, 3, none⟩ = some (.string p2) := (two_cells w _ _ _ _).2 3
  have d14 : ((w.alloc (.cells #[.int .i64 c1, .int .i64 s1, .int .i64 o1, .string p1, .string x1, .int .i64 n1, .int .i64 a1, .int .i64 b1] 24)).alloc (.cells #[.int .i64 c2, .int .i64 s2, .int .i64 o2, .string p2, .string x2, .int .i64 n2, .int .i64 a2, .int .i64 b2] 24)).cell? ⟨w.heap.size + 1, 4, none⟩ = some (.string x2) := (two_cells w _ _ _ _).2 4
  have d15 : ((w.alloc (.cells #[.int .i64 c1, .int .i64 s1, .int .i64 o1, .string p1, .string x1, .int .i64 n1, .int .i64 a1, .int .i64 b1] 24)).alloc (.cells #[.int .i64 c2, .int .i64 s2, .int .i64 o2, .string p2, .string x2, .int .i64 n2, .int .i64 a2, .int .i64 b2] 24)).cell? ⟨w.heap.size + 1, 5, none⟩ = some (.int .i64 n2) := (two_cells w _ _ _ _).2 5
  have d16 : ((w.alloc (.cells #[.int .i64 c1, .int .i64 s1, .int .i64 o1, .string p1, .string x1, .int .i64 n1, .int .i64 a1, .int .i64 b1] 24)).alloc (.cells #[.int .i64 c2, .int .i64 s2, .int .i64 o2, .string p2, .string x2, .int .i64 n2, .int .i64 a2, .int .i64 b2] 24)).cell? ⟨w.heap.size + 1, 6, none⟩ = some (.int .i64 a2) := (two_cells w _ _ _ _).2 6
  have d17 : ((w.alloc (.cells #[.int .i64 c1, .int .i64 s1, .int .i64 o1, .string p1, .string x1, .int .i64 n1, .int .i64 a1, .int .i64 b1] 24)).alloc (.cells #[.int .i64 c2, .int .i64 s2, .int .i64 o2, .string p2, .string x2, .int .i64 n2, .int .i64 a2, .int .i64 b2] 24)).cell? ⟨w.heap.size + 1, 7, none⟩ = some (.int .i64 b2) := (two_cells w _ _ _ _).2 7
  go_enter Try.func17, Try.ntmps17
  go_wp2_with fail
  generalize ((w.alloc (.cells #[.int .i64 c1, .int .i64 s1, .int .i64 o1, .string p1, .string x1, .int .i64 n1, .int .i64 a1, .int .i64 b1] 24)).alloc (.cells #[.int .i64 c2, .int .i64 s2, .int .i64 o2, .string p2, .string x2, .int .i64 n2, .int .i64 a2, .int .i64 b2] 24)) = X0 at *
  have hc := rcontrol_any c1 s1 o1 p1 x1 n1 a1 b1 X0
  rw [k1] at hc
  refine hc.mono ?_
  rintro e w1 ⟨rfl, hb⟩
  clear hc
  replace d00 := (hb.cell (p := ⟨w.heap.size, 0, none⟩) (by dsimp only; omega)).trans d00
  replace d01 := (hb.cell (p := ⟨w.heap.size, 1, none⟩) (by dsimp only; omega)).trans d01
  replace d02 := (hb.cell (p := ⟨w.heap.size, 2, none⟩) (by dsimp only; omega)).trans d02
  replace d03 := (hb.cell (p := ⟨w.heap.size, 3, none⟩) (by dsimp only; omega)).trans d03
  replace d04 := (hb.cell (p := ⟨w.heap.size, 4, none⟩) (by dsimp only; omega)).trans d04
  replace d05 := (hb.cell (p := ⟨w.heap.size, 5, none⟩) (by dsimp only; omega)).trans d05
  replace d06 := (hb.cell (p := ⟨w.heap.size, 6, none⟩) (by dsimp only; omega)).trans d06
  replace d07 := (hb.cell (p := ⟨w.heap.size, 7, none⟩) (by dsimp only; omega)).trans d07
  replace d10 := (hb.cell (p := ⟨w.heap.size + 1, 0, none⟩) (by dsimp only; omega)).trans d10
  replace d11 := (hb.cell (p := ⟨w.heap.size + 1, 1, none⟩) (by dsimp only; omega)).trans d11
  replace d12 := (hb.cell (p := ⟨w.heap.size + 1, 2, none⟩) (by dsimp only; omega)).trans d12
  replace d13 := (hb.cell (p := ⟨w.heap.size + 1, 3, none⟩) (by dsimp only; omega)).trans d13
  replace d14 := (hb.cell (p := ⟨w.heap.size + 1, 4, none⟩) (by dsimp only; omega)).trans d14
  replace d15 := (hb.cell (p := ⟨w.heap.size + 1, 5, none⟩) (by dsimp only; omega)).trans d15
  replace d16 := (hb.cell (p := ⟨w.heap.size + 1, 6, none⟩) (by dsimp only; omega)).trans d16
  replace d17 := (hb.cell (p := ⟨w.heap.size + 1, 7, none⟩) (by dsimp only; omega)).trans d17
  have HBw1 := Lib.hid (HB0.out.trans (hb.mono (by omega)))
  have hsw1 := hb.size
  clear hb
  go_wp2_with fail
  have hc := rcontrol_any c2 s2 o2 p2 x2 n2 a2 b2 w1
  rw [k2] at hc
  refine hc.mono ?_
  rintro e w2 ⟨rfl, hb⟩
  clear hc
  replace d00 := (hb.cell (p := ⟨w.heap.size, 0, none⟩) (by dsimp only; omega)).trans d00
  replace d01 := (hb.cell (p := ⟨w.heap.size, 1, none⟩) (by dsimp only; omega)).trans d01
  replace d02 := (hb.cell (p := ⟨w.heap.size, 2, none⟩) (by dsimp only; omega)).trans d02
  replace d03 := (hb.cell (p := ⟨w.heap.size, 3, none⟩) (by dsimp only; omega)).trans d03
  replace d04 := (hb.cell (p := ⟨w.heap.size, 4, none⟩) (by dsimp only; omega)).trans d04
  replace d05 := (hb.cell (p := ⟨w.heap.size, 5, none⟩) (by dsimp only; omega)).trans d05
  replace d06 := (hb.cell (p := ⟨w.heap.size, 6, none⟩) (by dsimp only; omega)).trans d06
  replace d07 := (hb.cell (p := ⟨w.heap.size, 7, none⟩) (by dsimp only; omega)).trans d07
  replace d10 := (hb.cell (p := ⟨w.heap.size + 1, 0, none⟩) (by dsimp only; omega)).trans d10
  replace d11 := (hb.cell (p := ⟨w.heap.size + 1, 1, none⟩) (by dsimp only; omega)).trans d11
  replace d12 := (hb.cell (p := ⟨w.heap.size + 1, 2, none⟩) (by dsimp only; omega)).trans d12
  replace d13 := (hb.cell (p := ⟨w.heap.size + 1, 3, none⟩) (by dsimp only; omega)).trans d13
  replace d14 := (hb.cell (p := ⟨w.heap.size + 1, 4, none⟩) (by dsimp only; omega)).trans d14
  replace d15 := (hb.cell (p := ⟨w.heap.size + 1, 5, none⟩) (by dsimp only; omega)).trans d15
  replace d16 := (hb.cell (p := ⟨w.heap.size + 1, 6, none⟩) (by dsimp only; omega)).trans d16
  replace d17 := (hb.cell (p := ⟨w.heap.size + 1, 7, none⟩) (by dsimp only; omega)).trans d17
  have HBw2 := Lib.hid (HBw1.out.trans (hb.mono (by omega)))
  have hsw2 := hb.size
  clear hb
  go_wp2
  go_ret
  exact ⟨rfl, HBw2.out⟩
set_option maxRecDepth 100000 in
set_option maxHeartbeats 4000000 in
theorem rb_cl (c1 s1 o1 : Int) (p1 x1 : ByteArray) (n1 a1 b1 : Int) (c2 s2 o2 : Int) (p2 x2 : ByteArray) (n2 a2 b2 : Int) (w : World) (h1 : p1.size ≤ 1000) (h2 : p2.size ≤ 1000) (z1 : (o1 == 0) = false) (z2 : (o2 == 0) = false) (k1 : ctl o1 = false) (k2 : ctl o2 = false) (hcc : (c1 == c2) = true) :
    Calls Try.prog 17 #[.agg #[.int .i64 c1, .int .i64 s1, .int .i64 o1, .string p1, .string x1, .int .i64 n1, .int .i64 a1, .int .i64 b1], .agg #[.int .i64 c2, .int .i64 s2, .int .i64 o2, .string p2, .string x2, .int .i64 n2, .int .i64 a2, .int .i64 b2]] w fun e w' => e = .returned (.bool true) ∧ Below w.heap.size w w' := by
  have HB0 := Lib.hid (two_below w (.cells #[.int .i64 c1, .int .i64 s1, .int .i64 o1, .string p1, .string x1, .int .i64 n1, .int .i64 a1, .int .i64 b1] 24) (.cells #[.int .i64 c2, .int .i64 s2, .int .i64 o2, .string p2, .string x2, .int .i64 n2, .int .i64 a2, .int .i64 b2] 24))
  have hz3 : ((w.alloc (.cells #[.int .i64 c1, .int .i64 s1, .int .i64 o1, .string p1, .string x1, .int .i64 n1, .int .i64 a1, .int .i64 b1] 24)).alloc (.cells #[.int .i64 c2, .int .i64 s2, .int .i64 o2, .string p2, .string x2, .int .i64 n2, .int .i64 a2, .int .i64 b2] 24)).heap.size = w.heap.size + 2 := by simp
  have d00 : ((w.alloc (.cells #[.int .i64 c1, .int .i64 s1, .int .i64 o1, .string p1, .string x1, .int .i64 n1, .int .i64 a1, .int .i64 b1] 24)).alloc (.cells #[.int .i64 c2, .int .i64 s2, .int .i64 o2, .string p2, .string x2, .int .i64 n2, .int .i64 a2, .int .i64 b2] 24)).cell? ⟨w.heap.size, 0, none⟩ = some (.int .i64 c1) := (two_cells w _ _ _ _).1 0
  have d01 : ((w.alloc (.cells #[.int .i64 c1, .int .i64 s1, .int .i64 o1, .string p1, .string x1, .int .i64 n1, .int .i64 a1, .int .i64 b1] 24)).alloc (.cells #[.int .i64 c2, .int .i64 s2, .int .i64 o2, .string p2, .string x2, .int .i64 n2, .int .i64 a2, .int .i64 b2] 24)).cell? ⟨w.heap.size, 1, none⟩ = some (.int .i64 s1) := (two_cells w _ _ _ _).1 1
  have d02 : ((w.alloc (.cells #[.int .i64 c1, .int .i64 s1, .int .i64 o1, .string p1, .string x1, .int .i64 n1, .int .i64 a1, .int .i64 b1] 24)).alloc (.cells #[.int .i64 c2, .int .i64 s2, .int .i64 o2, .string p2, .string x2, .int .i64 n2, .int .i64 a2, .int .i64 b2] 24)).cell? ⟨w.heap.size, 2, none⟩ = some (.int .i64 o1) := (two_cells w _ _ _ _).1 2
  have d03 : ((w.alloc (.cells #[.int .i64 c1, .int .i64 s1, .int .i64 o1, .string p1, .string x1, .int .i64 n1, .int .i64 a1, .int .i64 b1] 24)).alloc (.cells #[.int .i64 c2, .int .i64 s2, .int .i64 o2, .string p2, .string x2, .int .i64 n2, .int .i64 a2, .int .i64 b2] 24)).cell? ⟨w.heap.size, 3, none⟩ = some (.string p1) := (two_cells w _ _ _ _).1 3
  have d04 : ((w.alloc (.cells #[.int .i64 c1, .int .i64 s1, .int .i64 o1, .string p1, .string x1, .int .i64 n1, .int .i64 a1, .int .i64 b1] 24)).alloc (.cells #[.int .i64 c2, .int .i64 s2, .int .i64 o2, .string p2, .string x2, .int .i64 n2, .int .i64 a2, .int .i64 b2] 24)).cell? ⟨w.heap.size, 4, none⟩ = some (.string x1) := (two_cells w _ _ _ _).1 4
  have d05 : ((w.alloc (.cells #[.int .i64 c1, .int .i64 s1, .int .i64 o1, .string p1, .string x1, .int .i64 n1, .int .i64 a1, .int .i64 b1] 24)).alloc (.cells #[.int .i64 c2, .int .i64 s2, .int .i64 o2, .string p2, .string x2, .int .i64 n2, .int .i64 a2, .int .i64 b2] 24)).cell? ⟨w.heap.size, 5, none⟩ = some (.int .i64 n1) := (two_cells w _ _ _ _).1 5
  have d06 : ((w.alloc (.cells #[.int .i64 c1, .int .i64 s1, .int .i64 o1, .string p1, .string x1, .int .i64 n1, .int .i64 a1, .int .i64 b1] 24)).alloc (.cells #[.int .i64 c2, .int .i64 s2, .int .i64 o2, .string p2, .string x2, .int .i64 n2, .int .i64 a2, .int .i64 b2] 24)).cell? ⟨w.heap.size, 6, none⟩ = some (.int .i64 a1) := (two_cells w _ _ _ _).1 6
  have d07 : ((w.alloc (.cells #[.int .i64 c1, .int .i64 s1, .int .i64 o1, .string p1, .string x1, .int .i64 n1, .int .i64 a1, .int .i64 b1] 24)).alloc (.cells #[.int .i64 c2, .int .i64 s2, .int .i64 o2, .string p2, .string x2, .int .i64 n2, .int .i64 a2, .int .i64 b2] 24)).cell? ⟨w.heap.size, 7, none⟩ = some (.int .i64 b1) := (two_cells w _ _ _ _).1 7
  have d10 : ((w.alloc (.cells #[.int .i64 c1, .int .i64 s1, .int .i64 o1, .string p1, .string x1, .int .i64 n1, .int .i64 a1, .int .i64 b1] 24)).alloc (.cells #[.int .i64 c2, .int .i64 s2, .int .i64 o2, .string p2, .string x2, .int .i64 n2, .int .i64 a2, .int .i64 b2] 24)).cell? ⟨w.heap.size + 1, 0, none⟩ = some (.int .i64 c2) := (two_cells w _ _ _ _).2 0
  have d11 : ((w.alloc (.cells #[.int .i64 c1, .int .i64 s1, .int .i64 o1, .string p1, .string x1, .int .i64 n1, .int .i64 a1, .int .i64 b1] 24)).alloc (.cells #[.int .i64 c2, .int .i64 s2, .int .i64 o2, .string p2, .string x2, .int .i64 n2, .int .i64 a2, .int .i64 b2] 24)).cell? ⟨w.heap.size + 1, 1, none⟩ = some (.int .i64 s2) := (two_cells w _ _ _ _).2 1
  have d12 : ((w.alloc (.cells #[.int .i64 c1, .int .i64 s1, .int .i64 o1, .string p1, .string x1, .int .i64 n1, .int .i64 a1, .int .i64 b1] 24)).alloc (.cells #[.int .i64 c2, .int .i64 s2, .int .i64 o2, .string p2, .string x2, .int .i64 n2, .int .i64 a2, .int .i64 b2] 24)).cell? ⟨w.heap.size + 1, 2, none⟩ = some (.int .i64 o2) := (two_cells w _ _ _ _).2 2
  have d13 : ((w.alloc (.cells #[.int .i64 c1, .int .i64 s1, .int .i64 o1, .string p1, .string x1, .int .i64 n1, .int .i64 a1, .int .i64 b1] 24)).alloc (.cells #[.int .i64 c2, .int .i64 s2, .int .i64 o2, .string p2, .string x2, .int .i64 n2, .int .i64 a2, .int .i64 b2] 24)).cell? ⟨w.heap.size + 1, 3, none⟩ = some (.string p2) := (two_cells w _ _ _ _).2 3
  have d14 : ((w.alloc (.cells #[.int .i64 c1, .int .i64 s1, .int .i64 o1, .string p1, .string x1, .int .i64 n1, .int .i64 a1, .int .i64 b1] 24)).alloc (.cells #[.int .i64 c2, .int .i64 s2, .int .i64 o2, .string p2, .string x2, .int .i64 n2, .int .i64 a2, .int .i64 b2] 24)).cell? ⟨w.heap.size + 1, 4, none⟩ = some (.string x2) := (two_cells w _ _ _ _).2 4
  have d15 : ((w.alloc (.cells #[.int .i64 c1, .int .i64 s1, .int .i64 o1, .string p1, .string x1, .int .i64 n1, .int .i64 a1, .int .i64 b1] 24)).alloc (.cells #[.int .i64 c2, .int .i64 s2, .int .i64 o2, .string p2, .string x2, .int .i64 n2, .int .i64 a2, .int .i64 b2] 24)).cell? ⟨w.heap.size + 1, 5, none⟩ = some (.int .i64 n2) := (two_cells w _ _ _ _).2 5
  have d16 : ((w.alloc (.cells #[.int .i64 c1, .int .i64 s1, .int .i64 o1, .string p1, .string x1, .int .i64 n1, .int .i64 a1, .int .i64 b1] 24)).alloc (.cells #[.int .i64 c2, .int .i64 s2, .int .i64 o2, .string p2, .string x2, .int .i64 n2, .int .i64 a2, .int .i64 b2] 24)).cell? ⟨w.heap.size + 1, 6, none⟩ = some (.int .i64 a2) := (two_cells w _ _ _ _).2 6
  have d17 : ((w.alloc (.cells #[.int .i64 c1, .int .i64 s1, .int .i64 o1, .string p1, .string x1, .int .i64 n1, .int .i64 a1, .int .i64 b1] 24)).alloc (.cells #[.int .i64 c2, .int .i64 s2, .int .i64 o2, .string p2, .string x2, .int .i64 n2, .int .i64 a2, .int .i64 b2] 24)).cell? ⟨w.heap.size + 1, 7, none⟩ = some (.int .i64 b2) := (two_cells w _ _ _ _).2 7
  go_enter Try.func17, Try.ntmps17
  go_wp2_with fail
  generalize ((w.alloc (.cells #[.int .i64 c1, .int .i64 s1, .int .i64 o1, .string p1, .string x1, .int .i64 n1, .int .i64 a1, .int .i64 b1] 24)).alloc (.cells #[.int .i64 c2, .int .i64 s2, .int .i64 o2, .string p2, .string x2, .int .i64 n2, .int .i64 a2, .int .i64 b2] 24)) = X0 at *
  have hc := rcontrol_any c1 s1 o1 p1 x1 n1 a1 b1 X0
  rw [k1] at hc
  refine hc.mono ?_
  rintro e w1 ⟨rfl, hb⟩
  clear hc
  replace d00 := (hb.cell (p := ⟨w.heap.size, 0, none⟩) (by dsimp only; omega)).trans d00
  replace d01 := (hb.cell (p := ⟨w.heap.size, 1, none⟩) (by dsimp only; omega)).trans d01
  replace d02 := (hb.cell (p := ⟨w.heap.size, 2, none⟩) (by dsimp only; omega)).trans d02
  replace d03 := (hb.cell (p := ⟨w.heap.size, 3, none⟩) (by dsimp only; omega)).trans d03
  replace d04 := (hb.cell (p := ⟨w.heap.size, 4, none⟩) (by dsimp only; omega)).trans d04
  replace d05 := (hb.cell (p := ⟨w.heap.size, 5, none⟩) (by dsimp only; omega)).trans d05
  replace d06 := (hb.cell (p := ⟨w.heap.size, 6, none⟩) (by dsimp only; omega)).trans d06
  replace d07 := (hb.cell (p := ⟨w.heap.size, 7, none⟩) (by dsimp only; omega)).trans d07
  replace d10 := (hb.cell (p := ⟨w.heap.size + 1, 0, none⟩) (by dsimp only; omega)).trans d10
  replace d11 := (hb.cell (p := ⟨w.heap.size + 1, 1, none⟩) (by dsimp only; omega)).trans d11
  replace d12 := (hb.cell (p := ⟨w.heap.size + 1, 2, none⟩) (by dsimp only; omega)).trans d12
  replace d13 := (hb.cell (p := ⟨w.heap.size + 1, 3, none⟩) (by dsimp only; omega)).trans d13
  replace d14 := (hb.cell (p := ⟨w.heap.size + 1, 4, none⟩) (by dsimp only; omega)).trans d14
  replace d15 := (hb.cell (p := ⟨w.heap.size + 1, 5, none⟩) (by dsimp only; omega)).trans d15
  replace d16 := (hb.cell (p := ⟨w.heap.size + 1, 6, none⟩) (by dsimp only; omega)).trans d16
  replace d17 := (hb.cell (p := ⟨w.heap.size + 1, 7, none⟩) (by dsimp only; omega)).trans d17
  have HBw1 := Lib.hid (HB0.out.trans (hb.mono (by omega)))
  have hsw1 := hb.size
  clear hb
  go_wp2_with fail
  have hc := rcontrol_any c2 s2 o2 p2 x2 n2 a2 b2 w1
  rw [k2] at hc
  refine hc.mono ?_
  rintro e w2 ⟨rfl, hb⟩
  clear hc
  replace d00 := (hb.cell (p := ⟨w.heap.size, 0, none⟩) (by dsimp only; omega)).trans d00
  replace d01 := (hb.cell (p := ⟨w.heap.size, 1, none⟩) (by dsimp only; omega)).trans d01
  replace d02 := (hb.cell (p := ⟨w.heap.size, 2, none⟩) (by dsimp only; omega)).trans d02
  replace d03 := (hb.cell (p := ⟨w.heap.size, 3, none⟩) (by dsimp only; omega)).trans d03
  replace d04 := (hb.cell (p := ⟨w.heap.size, 4, none⟩) (by dsimp only; omega)).trans d04
  replace d05 := (hb.cell (p := ⟨w.heap.size, 5, none⟩) (by dsimp only; omega)).trans d05
  replace d06 := (hb.cell (p := ⟨w.heap.size, 6, none⟩) (by dsimp only; omega)).trans d06
  replace d07 := (hb.cell (p := ⟨w.heap.size, 7, none⟩) (by dsimp only; omega)).trans d07
  replace d10 := (hb.cell (p := ⟨w.heap.size + 1, 0, none⟩) (by dsimp only; omega)).trans d10
  replace d11 := (hb.cell (p := ⟨w.heap.size + 1, 1, none⟩) (by dsimp only; omega)).trans d11
  replace d12 := (hb.cell (p := ⟨w.heap.size + 1, 2, none⟩) (by dsimp only; omega)).trans d12
  replace d13 := (hb.cell (p := ⟨w.heap.size + 1, 3, none⟩) (by dsimp only; omega)).trans d13
  replace d14 := (hb.cell (p := ⟨w.heap.size + 1, 4, none⟩) (by dsimp only; omega)).trans d14
  replace d15 := (hb.cell (p := ⟨w.heap.size + 1, 5, none⟩) (by dsimp only; omega)).trans d15
  replace d16 := (hb.cell (p := ⟨w.heap.size + 1, 6, none⟩) (by dsimp only; omega)).trans d16
  replace d17 := (hb.cell (p := ⟨w.heap.size + 1, 7, none⟩) (by dsimp only; omega)).trans d17
  have HBw2 := Lib.hid (HBw1.out.trans (hb.mono (by omega)))
  have hsw2 := hb.size
  clear hb
  go_wp2
  go_ret
  exact ⟨rfl, HBw2.out⟩
set_option maxRecDepth 100000 in
set_option maxHeartbeats 4000000 in
theorem rb_pt (c1 s1 o1 : Int) (p1 x1 : ByteArray) (n1 a1 b1 : Int) (c2 s2 o2 : Int) (p2 x2 : ByteArray) (n2 a2 b2 : Int) (w : World) (h1 : p1.size ≤ 1000) (h2 : p2.size ≤ 1000) (z1 : (o1 == 0) = false) (z2 : (o2 == 0) = false) (k1 : ctl o1 = false) (k2 : ctl o2 = false) (hcc : (c1 == c2) = false) (D : Bool) (hD : mtr o1 p1 o2 p2 = D) :
    Calls Try.prog 17 #[.agg #[.int .i64 c1, .int .i64 s1, .int .i64 o1, .string p1, .string x1, .int .i64 n1, .int .i64 a1, .int .i64 b1], .agg #[.int .i64 c2, .int .i64 s2, .int .i64 o2, .string p2, .string x2, .int .i64 n2, .int .i64 a2, .int .i64 b2]] w fun e w' => e = .returned (.bool D) ∧ Below w.heap.size w w' := by
  have HB0 := Lib.hid (two_below w (.cells #[.int .i64 c1, .int .i64 s1, .int .i64 o1, .string p1, .string x1, .int .i64 n1, .int .i64 a1, .int .i64 b1] 24) (.cells #[.int .i64 c2, .int .i64 s2, .int .i64 o2, .string p2, .string x2, .int .i64 n2, .int .i64 a2, .int .i64 b2] 24))
  have hz3 : ((w.alloc (.cells #[.int .i64 c1, .int .i64 s1, .int .i64 o1, .string p1, .string x1, .int .i64 n1, .int .i64 a1, .int .i64 b1] 24)).alloc (.cells #[.int .i64 c2, .int .i64 s2, .int .i64 o2, .string p2, .string x2, .int .i64 n2, .int .i64 a2, .int .i64 b2] 24)).heap.size = w.heap.size + 2 := by simp
  have d00 : ((w.alloc (.cells #[.int .i64 c1, .int .i64 s1, .int .i64 o1, .string p1, .string x1, .int .i64 n1, .int .i64 a1, .int .i64 b1] 24)).alloc (.cells #[.int .i64 c2, .int .i64 s2, .int .i64 o2, .string p2, .string x2, .int .i64 n2, .int .i64 a2, .int .i64 b2] 24)).cell? ⟨w.heap.size, 0, none⟩ = some (.int .i64 c1) := (two_cells w _ _ _ _).1 0
  have d01 : ((w.alloc (.cells #[.int .i64 c1, .int .i64 s1, .int .i64 o1, .string p1, .string x1, .int .i64 n1, .int .i64 a1, .int .i64 b1] 24)).alloc (.cells #[.int .i64 c2, .int .i64 s2, .int .i64 o2, .string p2, .string x2, .int .i64 n2, .int .i64 a2, .int .i64 b2] 24)).cell? ⟨w.heap.size, 1, none⟩ = some (.int .i64 s1) := (two_cells w _ _ _ _).1 1
  have d02 : ((w.alloc (.cells #[.int .i64 c1, .int .i64 s1, .int .i64 o1, .string p1, .string x1, .int .i64 n1, .int .i64 a1, .int .i64 b1] 24)).alloc (.cells #[.int .i64 c2, .int .i64 s2, .int .i64 o2, .string p2, .string x2, .int .i64 n2, .int .i64 a2, .int .i64 b2] 24)).cell? ⟨w.heap.size, 2, none⟩ = some (.int .i64 o1) := (two_cells w _ _ _ _).1 2
  have d03 : ((w.alloc (.cells #[.int .i64 c1, .int .i64 s1, .int .i64 o1, .string p1, .string x1, .int .i64 n1, .int .i64 a1, .int .i64 b1] 24)).alloc (.cells #[.int .i64 c2, .int .i64 s2, .int .i64 o2, .string p2, .string x2, .int .i64 n2, .int .i64 a2, .int .i64 b2] 24)).cell? ⟨w.heap.size, 3, none⟩ = some (.string p1) := (two_cells w _ _ _ _).1 3
  have d04 : ((w.alloc (.cells #[.int .i64 c1, .int .i64 s1, .int .i64 o1, .string p1, .string x1, .int .i64 n1, .int .i64 a1, .int .i64 b1] 24)).alloc (.cells #[.int .i64 c2, .int .i64 s2, .int .i64 o2, .string p2, .string x2, .int .i64 n2, .int .i64 a2, .int .i64 b2] 24)).cell? ⟨w.heap.size, 4, none⟩ = some (.string x1) := (two_cells w _ _ _ _).1 4
  have d05 : ((w.alloc (.cells #[.int .i64 c1, .int .i64 s1, .int .i64 o1, .string p1, .string x1, .int .i64 n1, .int .i64 a1, .int .i64 b1] 24)).alloc (.cells #[.int .i64 c2, .int .i64 s2, .int .i64 o2, .string p2, .string x2, .int .i64 n2, .int .i64 a2, .int .i64 b2] 24)).cell? ⟨w.heap.size, 5, none⟩ = some (.int .i64 n1) := (two_cells w _ _ _ _).1 5
  have d06 : ((w.alloc (.cells #[.int .i64 c1, .int .i64 s1, .int .i64 o1, .string p1, .string x1, .int .i64 n1, .int .i64 a1, .int .i64 b1] 24)).alloc (.cells #[.int .i64 c2, .int .i64 s2, .int .i64 o2, .string p2, .string x2, .int .i64 n2, .int .i64 a2, .int .i64 b2] 24)).cell? ⟨w.heap.size, 6, none⟩ = some (.int .i64 a1) := (two_cells w _ _ _ _).1 6
  have d07 : ((w.alloc (.cells #[.int .i64 c1, .int .i64 s1, .int .i64 o1, .string p1, .string x1, .int .i64 n1, .int .i64 a1, .int .i64 b1] 24)).alloc (.cells #[.int .i64 c2, .int .i64 s2, .int .i64 o2, .string p2, .string x2, .int .i64 n2, .int .i64 a2, .int .i64 b2] 24)).cell? ⟨w.heap.size, 7, none⟩ = some (.int .i64 b1) := (two_cells w _ _ _ _).1 7
  have d10 : ((w.alloc (.cells #[.int .i64 c1, .int .i64 s1, .int .i64 o1, .string p1, .string x1, .int .i64 n1, .int .i64 a1, .int .i64 b1] 24)).alloc (.cells #[.int .i64 c2, .int .i64 s2, .int .i64 o2, .string p2, .string x2, .int .i64 n2, .int .i64 a2, .int .i64 b2] 24)).cell? ⟨w.heap.size + 1, 0, none⟩ = some (.int .i64 c2) := (two_cells w _ _ _ _).2 0
  have d11 : ((w.alloc (.cells #[.int .i64 c1, .int .i64 s1, .int .i64 o1, .string p1, .string x1, .int .i64 n1, .int .i64 a1, .int .i64 b1] 24)).alloc (.cells #[.int .i64 c2, .int .i64 s2, .int .i64 o2, .string p2, .string x2, .int .i64 n2, .int .i64 a2, .int .i64 b2] 24)).cell? ⟨w.heap.size + 1, 1, none⟩ = some (.int .i64 s2) := (two_cells w _ _ _ _).2 1
  have d12 : ((w.alloc (.cells #[.int .i64 c1, .int .i64 s1, .int .i64 o1, .string p1, .string x1, .int .i64 n1, .int .i64 a1, .int .i64 b1] 24)).alloc (.cells #[.int .i64 c2, .int .i64 s2, .int .i64 o2, .string p2, .string x2, .int .i64 n2, .int .i64 a2, .int .i64 b2] 24)).cell? ⟨w.heap.size + 1, 2, none⟩ = some (.int .i64 o2) := (two_cells w _ _ _ _).2 2
  have d13 : ((w.alloc (.cells #[.int .i64 c1, .int .i64 s1, .int .i64 o1, .string p1, .string x1, .int .i64 n1, .int .i64 a1, .int .i64 b1] 24)).alloc (.cells #[.int .i64 c2, .int .i64 s2, .int .i64 o2, .string p2, .string x2, .int .i64 n2, .int .i64 a2, .int .i64 b2] 24)).cell? ⟨w.heap.size + 1, 3, none⟩ = some (.string p2) := (two_cells w _ _ _ _).2 3
  have d14 : ((w.alloc (.cells #[.int .i64 c1, .int .i64 s1, .int .i64 o1, .string p1, .string x1, .int .i64 n1, .int .i64 a1, .int .i64 b1] 24)).alloc (.cells #[.int .i64 c2, .int .i64 s2, .int .i64 o2, .string p2, .string x2, .int .i64 n2, .int .i64 a2, .int .i64 b2] 24)).cell? ⟨w.heap.size + 1, 4, none⟩ = some (.string x2) := (two_cells w _ _ _ _).2 4
  have d15 : ((w.alloc (.cells #[.int .i64 c1, .int .i64 s1, .int .i64 o1, .string p1, .string x1, .int .i64 n1, .int .i64 a1, .int .i64 b1] 24)).alloc (.cells #[.int .i64 c2, .int .i64 s2, .int .i64 o2, .string p2, .string x2, .int .i64 n2, .int .i64 a2, .int .i64 b2] 24)).cell? ⟨w.heap.size + 1, 5, none⟩ = some (.int .i64 n2) := (two_cells w _ _ _ _).2 5
  have d16 : ((w.alloc (.cells #[.int .i64 c1, .int .i64 s1, .int .i64 o1, .string p1, .string x1, .int .i64 n1, .int .i64 a1, .int .i64 b1] 24)).alloc (.cells #[.int .i64 c2, .int .i64 s2, .int .i64 o2, .string p2, .string x2, .int .i64 n2, .int .i64 a2, .int .i64 b2] 24)).cell? ⟨w.heap.size + 1, 6, none⟩ = some (.int .i64 a2) := (two_cells w _ _ _ _).2 6
  have d17 : ((w.alloc (.cells #[.int .i64 c1, .int .i64 s1, .int .i64 o1, .string p1, .string x1, .int .i64 n1, .int .i64 a1, .int .i64 b1] 24)).alloc (.cells #[.int .i64 c2, .int .i64 s2, .int .i64 o2, .string p2, .string x2, .int .i64 n2, .int .i64 a2, .int .i64 b2] 24)).cell? ⟨w.heap.size + 1, 7, none⟩ = some (.int .i64 b2) := (two_cells w _ _ _ _).2 7
  go_enter Try.func17, Try.ntmps17
  go_wp2_with fail
  generalize ((w.alloc (.cells #[.int .i64 c1, .int .i64 s1, .int .i64 o1, .string p1, .string x1, .int .i64 n1, .int .i64 a1, .int .i64 b1] 24)).alloc (.cells #[.int .i64 c2, .int .i64 s2, .int .i64 o2, .string p2, .string x2, .int .i64 n2, .int .i64 a2, .int .i64 b2] 24)) = X0 at *
  have hc := rcontrol_any c1 s1 o1 p1 x1 n1 a1 b1 X0
  rw [k1] at hc
  refine hc.mono ?_
  rintro e w1 ⟨rfl, hb⟩
  clear hc
  replace d00 := (hb.cell (p := ⟨w.heap.size, 0, none⟩) (by dsimp only; omega)).trans d00
  replace d01 := (hb.cell (p := ⟨w.heap.size, 1, none⟩) (by dsimp only; omega)).trans d01
  replace d02 := (hb.cell (p := ⟨w.heap.size, 2, none⟩) (by dsimp only; omega)).trans d02
  replace d03 := (hb.cell (p := ⟨w.heap.size, 3, none⟩) (by dsimp only; omega)).trans d03
  replace d04 := (hb.cell (p := ⟨w.heap.size, 4, none⟩) (by dsimp only; omega)).trans d04
  replace d05 := (hb.cell (p := ⟨w.heap.size, 5, none⟩) (by dsimp only; omega)).trans d05
  replace d06 := (hb.cell (p := ⟨w.heap.size, 6, none⟩) (by dsimp only; omega)).trans d06
  replace d07 := (hb.cell (p := ⟨w.heap.size, 7, none⟩) (by dsimp only; omega)).trans d07
  replace d10 := (hb.cell (p := ⟨w.heap.size + 1, 0, none⟩) (by dsimp only; omega)).trans d10
  replace d11 := (hb.cell (p := ⟨w.heap.size + 1, 1, none⟩) (by dsimp only; omega)).trans d11
  replace d12 := (hb.cell (p := ⟨w.heap.size + 1, 2, none⟩) (by dsimp only; omega)).trans d12
  replace d13 := (hb.cell (p := ⟨w.heap.size + 1, 3, none⟩) (by dsimp only; omega)).trans d13
  replace d14 := (hb.cell (p := ⟨w.heap.size + 1, 4, none⟩) (by dsimp only; omega)).trans d14
  replace d15 := (hb.cell (p := ⟨w.heap.size + 1, 5, none⟩) (by dsimp only; omega)).trans d15
  replace d16 := (hb.cell (p := ⟨w.heap.size + 1, 6, none⟩) (by dsimp only; omega)).trans d16
  replace d17 := (hb.cell (p := ⟨w.heap.size + 1, 7, none⟩) (by dsimp only; omega)).trans d17
  have HBw1 := Lib.hid (HB0.out.trans (hb.mono (by omega)))
  have hsw1 := hb.size
  clear hb
  go_wp2_with fail
  have hc := rcontrol_any c2 s2 o2 p2 x2 n2 a2 b2 w1
  rw [k2] at hc
  refine hc.mono ?_
  rintro e w2 ⟨rfl, hb⟩
  clear hc
  replace d00 := (hb.cell (p := ⟨w.heap.size, 0, none⟩) (by dsimp only; omega)).trans d00
  replace d01 := (hb.cell (p := ⟨w.heap.size, 1, none⟩) (by dsimp only; omega)).trans d01
  replace d02 := (hb.cell (p := ⟨w.heap.size, 2, none⟩) (by dsimp only; omega)).trans d02
  replace d03 := (hb.cell (p := ⟨w.heap.size, 3, none⟩) (by dsimp only; omega)).trans d03
  replace d04 := (hb.cell (p := ⟨w.heap.size, 4, none⟩) (by dsimp only; omega)).trans d04
  replace d05 := (hb.cell (p := ⟨w.heap.size, 5, none⟩) (by dsimp only; omega)).trans d05
  replace d06 := (hb.cell (p := ⟨w.heap.size, 6, none⟩) (by dsimp only; omega)).trans d06
  replace d07 := (hb.cell (p := ⟨w.heap.size, 7, none⟩) (by dsimp only; omega)).trans d07
  replace d10 := (hb.cell (p := ⟨w.heap.size + 1, 0, none⟩) (by dsimp only; omega)).trans d10
  replace d11 := (hb.cell (p := ⟨w.heap.size + 1, 1, none⟩) (by dsimp only; omega)).trans d11
  replace d12 := (hb.cell (p := ⟨w.heap.size + 1, 2, none⟩) (by dsimp only; omega)).trans d12
  replace d13 := (hb.cell (p := ⟨w.heap.size + 1, 3, none⟩) (by dsimp only; omega)).trans d13
  replace d14 := (hb.cell (p := ⟨w.heap.size + 1, 4, none⟩) (by dsimp only; omega)).trans d14
  replace d15 := (hb.cell (p := ⟨w.heap.size + 1, 5, none⟩) (by dsimp only; omega)).trans d15
  replace d16 := (hb.cell (p := ⟨w.heap.size + 1, 6, none⟩) (by dsimp only; omega)).trans d16
  replace d17 := (hb.cell (p := ⟨w.heap.size + 1, 7, none⟩) (by dsimp only; omega)).trans d17
  have HBw2 := Lib.hid (HBw1.out.trans (hb.mono (by omega)))
  have hsw2 := hb.size
  clear hb
  go_wp2_with fail
  have hc := rpaths_any c1 s1 o1 p1 x1 n1 a1 b1 c2 s2 o2 p2 x2 n2 a2 b2 w2 h1 h2
  rw [hD] at hc
  refine hc.mono ?_
  rintro e w3 ⟨rfl, hb⟩
  clear hc
  replace d00 := (hb.cell (p := ⟨w.heap.size, 0, none⟩) (by dsimp only; omega)).trans d00
  replace d01 := (hb.cell (p := ⟨w.heap.size, 1, none⟩) (by dsimp only; omega)).trans d01
  replace d02 := (hb.cell (p := ⟨w.heap.size, 2, none⟩) (by dsimp only; omega)).trans d02
  replace d03 := (hb.cell (p := ⟨w.heap.size, 3, none⟩) (by dsimp only; omega)).trans d03
  replace d04 := (hb.cell (p := ⟨w.heap.size, 4, none⟩) (by dsimp only; omega)).trans d04
  replace d05 := (hb.cell (p := ⟨w.heap.size, 5, none⟩) (by dsimp only; omega)).trans d05
  replace d06 := (hb.cell (p := ⟨w.heap.size, 6, none⟩) (by dsimp only; omega)).trans d06
  replace d07 := (hb.cell (p := ⟨w.heap.size, 7, none⟩) (by dsimp only; omega)).trans d07
  replace d10 := (hb.cell (p := ⟨w.heap.size + 1, 0, none⟩) (by dsimp only; omega)).trans d10
  replace d11 := (hb.cell (p := ⟨w.heap.size + 1, 1, none⟩) (by dsimp only; omega)).trans d11
  replace d12 := (hb.cell (p := ⟨w.heap.size + 1, 2, none⟩) (by dsimp only; omega)).trans d12
  replace d13 := (hb.cell (p := ⟨w.heap.size + 1, 3, none⟩) (by dsimp only; omega)).trans d13
  replace d14 := (hb.cell (p := ⟨w.heap.size + 1, 4, none⟩) (by dsimp only; omega)).trans d14
  replace d15 := (hb.cell (p := ⟨w.heap.size + 1, 5, none⟩) (by dsimp only; omega)).trans d15
  replace d16 := (hb.cell (p := ⟨w.heap.size + 1, 6, none⟩) (by dsimp only; omega)).trans d16
  replace d17 := (hb.cell (p := ⟨w.heap.size + 1, 7, none⟩) (by dsimp only; omega)).trans d17
  have HBw3 := Lib.hid (HBw2.out.trans (hb.mono (by omega)))
  have hsw3 := hb.size
  clear hb
  go_wp2
  go_ret
  exact ⟨rfl, HBw3.out⟩
theorem rboth_any (c1 s1 o1 : Int) (p1 x1 : ByteArray) (n1 a1 b1 : Int) (c2 s2 o2 : Int) (p2 x2 : ByteArray) (n2 a2 b2 : Int) (w : World) (h1 : p1.size ≤ 1000) (h2 : p2.size ≤ 1000) :
    Calls Try.prog 17 #[.agg #[.int .i64 c1, .int .i64 s1, .int .i64 o1, .string p1, .string x1, .int .i64 n1, .int .i64 a1, .int .i64 b1], .agg #[.int .i64 c2, .int .i64 s2, .int .i64 o2, .string p2, .string x2, .int .i64 n2, .int .i64 a2, .int .i64 b2]] w fun e w' => e = .returned (.bool (bth c1 o1 p1 c2 o2 p2)) ∧ Below w.heap.size w w' := by
  by_cases z1 : o1 = 0
  · have e : bth c1 o1 p1 c2 o2 p2 = false := by unfold bth; simp [z1]
    rw [e]; exact rb_z1 c1 s1 o1 p1 x1 n1 a1 b1 c2 s2 o2 p2 x2 n2 a2 b2 w h1 h2 (by simpa using z1)
  · by_cases z2 : o2 = 0
    · have e : bth c1 o1 p1 c2 o2 p2 = false := by unfold bth; simp [z2]
      rw [e]; exact rb_z2 c1 s1 o1 p1 x1 n1 a1 b1 c2 s2 o2 p2 x2 n2 a2 b2 w h1 h2 (by simpa using z1) (by simpa using z2)
    · cases k1 : ctl o1 with
      | true =>
        have e : bth c1 o1 p1 c2 o2 p2 = true := by unfold bth; simp [z1, z2, k1]
        rw [e]; exact rb_c1 c1 s1 o1 p1 x1 n1 a1 b1 c2 s2 o2 p2 x2 n2 a2 b2 w h1 h2 (by simpa using z1) (by simpa using z2) k1
      | false =>
        cases k2 : ctl o2 with
        | true =>
          have e : bth c1 o1 p1 c2 o2 p2 = true := by unfold bth; simp [z1, z2, k1, k2]
          rw [e]; exact rb_c2 c1 s1 o1 p1 x1 n1 a1 b1 c2 s2 o2 p2 x2 n2 a2 b2 w h1 h2 (by simpa using z1) (by simpa using z2) k1 k2
        | false =>
          by_cases h3 : c1 = c2
          · have e : bth c1 o1 p1 c2 o2 p2 = true := by unfold bth; simp [z1, z2, k1, k2, h3]
            rw [e]; exact rb_cl c1 s1 o1 p1 x1 n1 a1 b1 c2 s2 o2 p2 x2 n2 a2 b2 w h1 h2 (by simpa using z1) (by simpa using z2) k1 k2 (by simpa using h3)
          · have e : bth c1 o1 p1 c2 o2 p2 = mtr o1 p1 o2 p2 := by unfold bth; simp [z1, z2, k1, k2, h3]
            rw [e]; exact rb_pt c1 s1 o1 p1 x1 n1 a1 b1 c2 s2 o2 p2 x2 n2 a2 b2 w h1 h2 (by simpa using z1) (by simpa using z2) k1 k2 (by simpa using h3) _ rfl
set_option maxRecDepth 100000 in
set_option maxHeartbeats 8000000 in
theorem tells_law (c1 s1 o1 : Int) (p1 x1 : ByteArray) (n1 a1 b1 : Int) (c2 s2 o2 : Int) (p2 x2 : ByteArray) (n2 a2 b2 : Int) (w : World) (hm : ML w) : Calls Try.prog 3 #[.agg #[.int .i64 c1, .int .i64 s1, .int .i64 o1, .string p1, .string x1, .int .i64 n1, .int .i64 a1, .int .i64 b1], .agg #[.int .i64 c2, .int .i64 s2, .int .i64 o2, .string p2, .string x2, .int .i64 n2, .int .i64 a2, .int .i64 b2]] w fun e w' => e = .returned (.bool true) ∧ Below w.heap.size w w' := by
  have HM0 : Hid (ML ((w.alloc (.cells #[.int .i64 c1, .int .i64 s1, .int .i64 o1, .string p1, .string x1, .int .i64 n1, .int .i64 a1, .int .i64 b1] 24)).alloc (.cells #[.int .i64 c2, .int .i64 s2, .int .i64 o2, .string p2, .string x2, .int .i64 n2, .int .i64 a2, .int .i64 b2] 24))) := Lib.hid (hm.below (two_below _ _ _))
  have HB0 := Lib.hid (two_below w (.cells #[.int .i64 c1, .int .i64 s1, .int .i64 o1, .string p1, .string x1, .int .i64 n1, .int .i64 a1, .int .i64 b1] 24) (.cells #[.int .i64 c2, .int .i64 s2, .int .i64 o2, .string p2, .string x2, .int .i64 n2, .int .i64 a2, .int .i64 b2] 24))
  have hz3 : ((w.alloc (.cells #[.int .i64 c1, .int .i64 s1, .int .i64 o1, .string p1, .string x1, .int .i64 n1, .int .i64 a1, .int .i64 b1] 24)).alloc (.cells #[.int .i64 c2, .int .i64 s2, .int .i64 o2, .string p2, .string x2, .int .i64 n2, .int .i64 a2, .int .i64 b2] 24)).heap.size = w.heap.size + 2 := by simp
  have d00 : ((w.alloc (.cells #[.int .i64 c1, .int .i64 s1, .int .i64 o1, .string p1, .string x1, .int .i64 n1, .int .i64 a1, .int .i64 b1] 24)).alloc (.cells #[.int .i64 c2, .int .i64 s2, .int .i64 o2, .string p2, .string x2, .int .i64 n2, .int .i64 a2, .int .i64 b2] 24)).cell? ⟨w.heap.size, 0, none⟩ = some (.int .i64 c1) := (two_cells w _ _ _ _).1 0
  have d01 : ((w.alloc (.cells #[.int .i64 c1, .int .i64 s1, .int .i64 o1, .string p1, .string x1, .int .i64 n1, .int .i64 a1, .int .i64 b1] 24)).alloc (.cells #[.int .i64 c2, .int .i64 s2, .int .i64 o2, .string p2, .string x2, .int .i64 n2, .int .i64 a2, .int .i64 b2] 24)).cell? ⟨w.heap.size, 1, none⟩ = some (.int .i64 s1) := (two_cells w _ _ _ _).1 1
  have d02 : ((w.alloc (.cells #[.int .i64 c1, .int .i64 s1, .int .i64 o1, .string p1, .string x1, .int .i64 n1, .int .i64 a1, .int .i64 b1] 24)).alloc (.cells #[.int .i64 c2, .int .i64 s2, .int .i64 o2, .string p2, .string x2, .int .i64 n2, .int .i64 a2, .int .i64 b2] 24)).cell? ⟨w.heap.size, 2, none⟩ = some (.int .i64 o1) := (two_cells w _ _ _ _).1 2
  have d03 : ((w.alloc (.cells #[.int .i64 c1, .int .i64 s1, .int .i64 o1, .string p1, .string x1, .int .i64 n1, .int .i64 a1, .int .i64 b1] 24)).alloc (.cells #[.int .i64 c2, .int .i64 s2, .int .i64 o2, .string p2, .string x2, .int .i64 n2, .int .i64 a2, .int .i64 b2] 24)).cell? ⟨w.heap.size, 3, none⟩ = some (.string p1) := (two_cells w _ _ _ _).1 3
  have d04 : ((w.alloc (.cells #[.int .i64 c1, .int .i64 s1, .int .i64 o1, .string p1, .string x1, .int .i64 n1, .int .i64 a1, .int .i64 b1] 24)).alloc (.cells #[.int .i64 c2, .int .i64 s2, .int .i64 o2, .string p2, .string x2, .int .i64 n2, .int .i64 a2, .int .i64 b2] 24)).cell? ⟨w.heap.size, 4, none⟩ = some (.string x1) := (two_cells w _ _ _ _).1 4
  have d05 : ((w.alloc (.cells #[.int .i64 c1, .int .i64 s1, .int .i64 o1, .string p1, .string x1, .int .i64 n1, .int .i64 a1, .int .i64 b1] 24)).alloc (.cells #[.int .i64 c2, .int .i64 s2, .int .i64 o2, .string p2, .string x2, .int .i64 n2, .int .i64 a2, .int .i64 b2] 24)).cell? ⟨w.heap.size, 5, none⟩ = some (.int .i64 n1) := (two_cells w _ _ _ _).1 5
  have d06 : ((w.alloc (.cells #[.int .i64 c1, .int .i64 s1, .int .i64 o1, .string p1, .string x1, .int .i64 n1, .int .i64 a1, .int .i64 b1] 24)).alloc (.cells #[.int .i64 c2, .int .i64 s2, .int .i64 o2, .string p2, .string x2, .int .i64 n2, .int .i64 a2, .int .i64 b2] 24)).cell? ⟨w.heap.size, 6, none⟩ = some (.int .i64 a1) := (two_cells w _ _ _ _).1 6
  have d07 : ((w.alloc (.cells #[.int .i64 c1, .int .i64 s1, .int .i64 o1, .string p1, .string x1, .int .i64 n1, .int .i64 a1, .int .i64 b1] 24)).alloc (.cells #[.int .i64 c2, .int .i64 s2, .int .i64 o2, .string p2, .string x2, .int .i64 n2, .int .i64 a2, .int .i64 b2] 24)).cell? ⟨w.heap.size, 7, none⟩ = some (.int .i64 b1) := (two_cells w _ _ _ _).1 7
  have d10 : ((w.alloc (.cells #[.int .i64 c1, .int .i64 s1, .int .i64 o1, .string p1, .string x1, .int .i64 n1, .int .i64 a1, .int .i64 b1] 24)).alloc (.cells #[.int .i64 c2, .int .i64 s2, .int .i64 o2, .string p2, .string x2, .int .i64 n2, .int .i64 a2, .int .i64 b2] 24)).cell? ⟨w.heap.size + 1, 0, none⟩ = some (.int .i64 c2) := (two_cells w _ _ _ _).2 0
  have d11 : ((w.alloc (.cells #[.int .i64 c1, .int .i64 s1, .int .i64 o1, .string p1, .string x1, .int .i64 n1, .int .i64 a1, .int .i64 b1] 24)).alloc (.cells #[.int .i64 c2, .int .i64 s2, .int .i64 o2, .string p2, .string x2, .int .i64 n2, .int .i64 a2, .int .i64 b2] 24)).cell? ⟨w.heap.size + 1, 1, none⟩ = some (.int .i64 s2) := (two_cells w _ _ _ _).2 1
  have d12 : ((w.alloc (.cells #[.int .i64 c1, .int .i64 s1, .int .i64 o1, .string p1, .string x1, .int .i64 n1, .int .i64 a1, .int .i64 b1] 24)).alloc (.cells #[.int .i64 c2, .int .i64 s2, .int .i64 o2, .string p2, .string x2, .int .i64 n2, .int .i64 a2, .int .i64 b2] 24)).cell? ⟨w.heap.size + 1, 2, none⟩ = some (.int .i64 o2) := (two_cells w _ _ _ _).2 2
  have d13 : ((w.alloc (.cells #[.int .i64 c1, .int .i64 s1, .int .i64 o1, .string p1, .string x1, .int .i64 n1, .int .i64 a1, .int .i64 b1] 24)).alloc (.cells #[.int .i64 c2, .int .i64 s2, .int .i64 o2, .string p2, .string x2, .int .i64 n2, .int .i64 a2, .int .i64 b2] 24)).cell? ⟨w.heap.size + 1, 3, none⟩ = some (.string p2) := (two_cells w _ _ _ _).2 3
  have d14 : ((w.alloc (.cells #[.int .i64 c1, .int .i64 s1, .int .i64 o1, .string p1, .string x1, .int .i64 n1, .int .i64 a1, .int .i64 b1] 24)).alloc (.cells #[.int .i64 c2, .int .i64 s2, .int .i64 o2, .string p2, .string x2, .int .i64 n2, .int .i64 a2, .int .i64 b2] 24)).cell? ⟨w.heap.size + 1, 4, none⟩ = some (.string x2) := (two_cells w _ _ _ _).2 4
  have d15 : ((w.alloc (.cells #[.int .i64 c1, .int .i64 s1, .int .i64 o1, .string p1, .string x1, .int .i64 n1, .int .i64 a1, .int .i64 b1] 24)).alloc (.cells #[.int .i64 c2, .int .i64 s2, .int .i64 o2, .string p2, .string x2, .int .i64 n2, .int .i64 a2, .int .i64 b2] 24)).cell? ⟨w.heap.size + 1, 5, none⟩ = some (.int .i64 n2) := (two_cells w _ _ _ _).2 5
  have d16 : ((w.alloc (.cells #[.int .i64 c1, .int .i64 s1, .int .i64 o1, .string p1, .string x1, .int .i64 n1, .int .i64 a1, .int .i64 b1] 24)).alloc (.cells #[.int .i64 c2, .int .i64 s2, .int .i64 o2, .string p2, .string x2, .int .i64 n2, .int .i64 a2, .int .i64 b2] 24)).cell? ⟨w.heap.size + 1, 6, none⟩ = some (.int .i64 a2) := (two_cells w _ _ _ _).2 6
  have d17 : ((w.alloc (.cells #[.int .i64 c1, .int .i64 s1, .int .i64 o1, .string p1, .string x1, .int .i64 n1, .int .i64 a1, .int .i64 b1] 24)).alloc (.cells #[.int .i64 c2, .int .i64 s2, .int .i64 o2, .string p2, .string x2, .int .i64 n2, .int .i64 a2, .int .i64 b2] 24)).cell? ⟨w.heap.size + 1, 7, none⟩ = some (.int .i64 b2) := (two_cells w _ _ _ _).2 7
  clear hm
  go_enter Try.func3, Try.ntmps3
  go_wp2_with fail
  generalize ((w.alloc (.cells #[.int .i64 c1, .int .i64 s1, .int .i64 o1, .string p1, .string x1, .int .i64 n1, .int .i64 a1, .int .i64 b1] 24)).alloc (.cells #[.int .i64 c2, .int .i64 s2, .int .i64 o2, .string p2, .string x2, .int .i64 n2, .int .i64 a2, .int .i64 b2] 24)) = X0 at *
  have hl0 : w.heap.size < X0.heap.size := by omega
  have hl1 : w.heap.size + 1 < X0.heap.size := by omega
  refine (works_any X0 HM0.out).mono ?_
  rintro e w1 ⟨rfl, hb⟩
  replace d00 := (hb.cell (p := ⟨w.heap.size, 0, none⟩) (by dsimp only; omega)).trans d00
  replace d01 := (hb.cell (p := ⟨w.heap.size, 1, none⟩) (by dsimp only; omega)).trans d01
  replace d02 := (hb.cell (p := ⟨w.heap.size, 2, none⟩) (by dsimp only; omega)).trans d02
  replace d03 := (hb.cell (p := ⟨w.heap.size, 3, none⟩) (by dsimp only; omega)).trans d03
  replace d04 := (hb.cell (p := ⟨w.heap.size, 4, none⟩) (by dsimp only; omega)).trans d04
  replace d05 := (hb.cell (p := ⟨w.heap.size, 5, none⟩) (by dsimp only; omega)).trans d05
  replace d06 := (hb.cell (p := ⟨w.heap.size, 6, none⟩) (by dsimp only; omega)).trans d06
  replace d07 := (hb.cell (p := ⟨w.heap.size, 7, none⟩) (by dsimp only; omega)).trans d07
  replace d10 := (hb.cell (p := ⟨w.heap.size + 1, 0, none⟩) (by dsimp only; omega)).trans d10
  replace d11 := (hb.cell (p := ⟨w.heap.size + 1, 1, none⟩) (by dsimp only; omega)).trans d11
  replace d12 := (hb.cell (p := ⟨w.heap.size + 1, 2, none⟩) (by dsimp only; omega)).trans d12
  replace d13 := (hb.cell (p := ⟨w.heap.size + 1, 3, none⟩) (by dsimp only; omega)).trans d13
  replace d14 := (hb.cell (p := ⟨w.heap.size + 1, 4, none⟩) (by dsimp only; omega)).trans d14
  replace d15 := (hb.cell (p := ⟨w.heap.size + 1, 5, none⟩) (by dsimp only; omega)).trans d15
  replace d16 := (hb.cell (p := ⟨w.heap.size + 1, 6, none⟩) (by dsimp only; omega)).trans d16
  replace d17 := (hb.cell (p := ⟨w.heap.size + 1, 7, none⟩) (by dsimp only; omega)).trans d17
  have Bw1 := Lib.hid hb
  have hsw1 := hb.size
  clear hb hz3
  cases hO : ovr p1 x1 p2 x2 with
  | true =>
    go_wp2_with fail
    refine (over2_any _ p1 x1 p2 x2 _ (by simp [go_sem]) (by simp [go_sem]) (by simp [go_sem]) (by simp [go_sem])).mono ?_
    rw [hO]
    rintro e w2 ⟨rfl, hb⟩
    subst hb
    go_wp2
    go_ret
    exact ⟨rfl, HB0.out.trans ((Bw1.out.mono (Nat.le_of_lt hl0)).alloc (by omega) _)⟩
  | false =>
    have g1 : p1.size ≤ 1000 := by unfold ovr at hO; simp at hO; omega
    have g2 : p2.size ≤ 1000 := by unfold ovr at hO; simp at hO; omega
    go_wp2_with fail
    refine (over2_any _ p1 x1 p2 x2 _ (by simp [go_sem]) (by simp [go_sem]) (by simp [go_sem]) (by simp [go_sem])).mono ?_
    rw [hO]
    rintro e w2 ⟨rfl, hb⟩
    subst hb
    clear hO
    have hb : Below w1.heap.size w1 (w1.alloc (.cells #[.int .i64 c1, .int .i64 s1, .int .i64 o1, .string p1, .string x1, .int .i64 n1, .int .i64 a1, .int .i64 b1, .int .i64 c2, .int .i64 s2, .int .i64 o2, .string p2, .string x2, .int .i64 n2, .int .i64 a2, .int .i64 b2] 24)) := (Below.refl _ _).alloc (Nat.le_refl _) _
    generalize (w1.alloc (.cells #[.int .i64 c1, .int .i64 s1, .int .i64 o1, .string p1, .string x1, .int .i64 n1, .int .i64 a1, .int .i64 b1, .int .i64 c2, .int .i64 s2, .int .i64 o2, .string p2, .string x2, .int .i64 n2, .int .i64 a2, .int .i64 b2] 24)) = w2 at *
    replace d00 := (hb.cell (p := ⟨w.heap.size, 0, none⟩) (by dsimp only; omega)).trans d00
    replace d01 := (hb.cell (p := ⟨w.heap.size, 1, none⟩) (by dsimp only; omega)).trans d01
    replace d02 := (hb.cell (p := ⟨w.heap.size, 2, none⟩) (by dsimp only; omega)).trans d02
    replace d03 := (hb.cell (p := ⟨w.heap.size, 3, none⟩) (by dsimp only; omega)).trans d03
    replace d04 := (hb.cell (p := ⟨w.heap.size, 4, none⟩) (by dsimp only; omega)).trans d04
    replace d05 := (hb.cell (p := ⟨w.heap.size, 5, none⟩) (by dsimp only; omega)).trans d05
    replace d06 := (hb.cell (p := ⟨w.heap.size, 6, none⟩) (by dsimp only; omega)).trans d06
    replace d07 := (hb.cell (p := ⟨w.heap.size, 7, none⟩) (by dsimp only; omega)).trans d07
    replace d10 := (hb.cell (p := ⟨w.heap.size + 1, 0, none⟩) (by dsimp only; omega)).trans d10
    replace d11 := (hb.cell (p := ⟨w.heap.size + 1, 1, none⟩) (by dsimp only; omega)).trans d11
    replace d12 := (hb.cell (p := ⟨w.heap.size + 1, 2, none⟩) (by dsimp only; omega)).trans d12
    replace d13 := (hb.cell (p := ⟨w.heap.size + 1, 3, none⟩) (by dsimp only; omega)).trans d13
    replace d14 := (hb.cell (p := ⟨w.heap.size + 1, 4, none⟩) (by dsimp only; omega)).trans d14
    replace d15 := (hb.cell (p := ⟨w.heap.size + 1, 5, none⟩) (by dsimp only; omega)).trans d15
    replace d16 := (hb.cell (p := ⟨w.heap.size + 1, 6, none⟩) (by dsimp only; omega)).trans d16
    replace d17 := (hb.cell (p := ⟨w.heap.size + 1, 7, none⟩) (by dsimp only; omega)).trans d17
    have Bw2 := Lib.hid (Bw1.out.trans (hb.mono Bw1.out.size))
    have hsw2 := hb.size
    clear hb
    go_wp2_with fail
    refine (rcells_any c1 s1 o1 p1 x1 n1 a1 b1 w2 g1).mono ?_
    rintro e X ⟨v1, v2, he, r1, r2, hb⟩
    rw [he.out]
    replace d00 := (hb.cell (p := ⟨w.heap.size, 0, none⟩) (by dsimp only; omega)).trans d00
    replace d01 := (hb.cell (p := ⟨w.heap.size, 1, none⟩) (by dsimp only; omega)).trans d01
    replace d02 := (hb.cell (p := ⟨w.heap.size, 2, none⟩) (by dsimp only; omega)).trans d02
    replace d03 := (hb.cell (p := ⟨w.heap.size, 3, none⟩) (by dsimp only; omega)).trans d03
    replace d04 := (hb.cell (p := ⟨w.heap.size, 4, none⟩) (by dsimp only; omega)).trans d04
    replace d05 := (hb.cell (p := ⟨w.heap.size, 5, none⟩) (by dsimp only; omega)).trans d05
    replace d06 := (hb.cell (p := ⟨w.heap.size, 6, none⟩) (by dsimp only; omega)).trans d06
    replace d07 := (hb.cell (p := ⟨w.heap.size, 7, none⟩) (by dsimp only; omega)).trans d07
    replace d10 := (hb.cell (p := ⟨w.heap.size + 1, 0, none⟩) (by dsimp only; omega)).trans d10
    replace d11 := (hb.cell (p := ⟨w.heap.size + 1, 1, none⟩) (by dsimp only; omega)).trans d11
    replace d12 := (hb.cell (p := ⟨w.heap.size + 1, 2, none⟩) (by dsimp only; omega)).trans d12
    replace d13 := (hb.cell (p := ⟨w.heap.size + 1, 3, none⟩) (by dsimp only; omega)).trans d13
    replace d14 := (hb.cell (p := ⟨w.heap.size + 1, 4, none⟩) (by dsimp only; omega)).trans d14
    replace d15 := (hb.cell (p := ⟨w.heap.size + 1, 5, none⟩) (by dsimp only; omega)).trans d15
    replace d16 := (hb.cell (p := ⟨w.heap.size + 1, 6, none⟩) (by dsimp only; omega)).trans d16
    replace d17 := (hb.cell (p := ⟨w.heap.size + 1, 7, none⟩) (by dsimp only; omega)).trans d17
    have BX := Lib.hid (Bw2.out.trans (hb.mono Bw2.out.size))
    have hsX := hb.size
    have hX0 : w.heap.size < X.heap.size := by omega
    have hX1 : w.heap.size + 1 < X.heap.size := by omega
    have BXX := Lib.hid (HB0.out.trans (BX.out.mono (Nat.le_of_lt hl0)))
    have HMX := Lib.hid (HM0.out.below BX.out)
    have RX1 := Lib.hid r1
    have RX2 := Lib.hid r2
    clear he r1 r2 hb
    have HC : Hid (∀ w' : World, Below X.heap.size X w' → (w'.cell? ⟨w.heap.size, 0, none⟩ = some (.int .i64 c1) ∧ w'.cell? ⟨w.heap.size, 1, none⟩ = some (.int .i64 s1) ∧ w'.cell? ⟨w.heap.size, 2, none⟩ = some (.int .i64 o1) ∧ w'.cell? ⟨w.heap.size, 3, none⟩ = some (.string p1) ∧ w'.cell? ⟨w.heap.size, 4, none⟩ = some (.string x1) ∧ w'.cell? ⟨w.heap.size, 5, none⟩ = some (.int .i64 n1) ∧ w'.cell? ⟨w.heap.size, 6, none⟩ = some (.int .i64 a1) ∧ w'.cell? ⟨w.heap.size, 7, none⟩ = some (.int .i64 b1) ∧ w'.cell? ⟨w.heap.size + 1, 0, none⟩ = some (.int .i64 c2) ∧ w'.cell? ⟨w.heap.size + 1, 1, none⟩ = some (.int .i64 s2) ∧ w'.cell? ⟨w.heap.size + 1, 2, none⟩ = some (.int .i64 o2) ∧ w'.cell? ⟨w.heap.size + 1, 3, none⟩ = some (.string p2) ∧ w'.cell? ⟨w.heap.size + 1, 4, none⟩ = some (.string x2) ∧ w'.cell? ⟨w.heap.size + 1, 5, none⟩ = some (.int .i64 n2) ∧ w'.cell? ⟨w.heap.size + 1, 6, none⟩ = some (.int .i64 a2) ∧ w'.cell? ⟨w.heap.size + 1, 7, none⟩ = some (.int .i64 b2) ∧ Below X.heap.size X w')) := Lib.hid (fun w' hb => ⟨(hb.cell (p := ⟨w.heap.size, 0, none⟩) hX0).trans d00, (hb.cell (p := ⟨w.heap.size, 1, none⟩) hX0).trans d01, (hb.cell (p := ⟨w.heap.size, 2, none⟩) hX0).trans d02, (hb.cell (p := ⟨w.heap.size, 3, none⟩) hX0).trans d03, (hb.cell (p := ⟨w.heap.size, 4, none⟩) hX0).trans d04, (hb.cell (p := ⟨w.heap.size, 5, none⟩) hX0).trans d05, (hb.cell (p := ⟨w.heap.size, 6, none⟩) hX0).trans d06, (hb.cell (p := ⟨w.heap.size, 7, none⟩) hX0).trans d07, (hb.cell (p := ⟨w.heap.size + 1, 0, none⟩) hX1).trans d10, (hb.cell (p := ⟨w.heap.size + 1, 1, none⟩) hX1).trans d11, (hb.cell (p := ⟨w.heap.size + 1, 2, none⟩) hX1).trans d12, (hb.cell (p := ⟨w.heap.size + 1, 3, none⟩) hX1).trans d13, (hb.cell (p := ⟨w.heap.size + 1, 4, none⟩) hX1).trans d14, (hb.cell (p := ⟨w.heap.size + 1, 5, none⟩) hX1).trans d15, (hb.cell (p := ⟨w.heap.size + 1, 6, none⟩) hX1).trans d16, (hb.cell (p := ⟨w.heap.size + 1, 7, none⟩) hX1).trans d17, hb⟩)
    obtain ⟨D, hD⟩ : ∃ D, mtr o1 p1 o2 p2 = D := ⟨_, rfl⟩
    obtain ⟨E, hE⟩ : ∃ E, bth c1 o1 p1 c2 o2 p2 = E := ⟨_, rfl⟩
    obtain ⟨G, hG⟩ : ∃ G, ctl o1 = G := ⟨_, rfl⟩
    have eD : (D == D) = true := by cases D <;> rfl
    have eE : (E == E) = true := by cases E <;> rfl
    have eG : (G == G) = true := by cases G <;> rfl
    have C1 : Hid (∀ W : World, Below X.heap.size X W → Calls Try.prog 14 #[.agg #[.int .i64 c1, .int .i64 s1, .int .i64 o1, .string p1, .string x1, .int .i64 n1, .int .i64 a1, .int .i64 b1], .agg #[.int .i64 c2, .int .i64 s2, .int .i64 o2, .string p2, .string x2, .int .i64 n2, .int .i64 a2, .int .i64 b2]] W fun e w' => e = .returned (.bool D) ∧ Below W.heap.size W w') := Lib.hid (fun W hW => by have h := tpaths_any c1 s1 o1 p1 x1 n1 a1 b1 c2 s2 o2 p2 x2 n2 a2 b2 W g1 g2 (HMX.out.below hW); rw [hD] at h; exact h)
    have C2 : Hid (∀ W : World, Below X.heap.size X W → Calls Try.prog 15 #[.agg #[.int .i64 c1, .int .i64 s1, .int .i64 o1, .string p1, .string x1, .int .i64 n1, .int .i64 a1, .int .i64 b1], .agg #[.int .i64 c2, .int .i64 s2, .int .i64 o2, .string p2, .string x2, .int .i64 n2, .int .i64 a2, .int .i64 b2]] W fun e w' => e = .returned (.bool D) ∧ Below W.heap.size W w') := Lib.hid (fun W hW => by have h := rpaths_any c1 s1 o1 p1 x1 n1 a1 b1 c2 s2 o2 p2 x2 n2 a2 b2 W g1 g2; rw [hD] at h; exact h)
    have C3 : Hid (∀ W : World, Below X.heap.size X W → Calls Try.prog 16 #[.agg #[.int .i64 c1, .int .i64 s1, .int .i64 o1, .string p1, .string x1, .int .i64 n1, .int .i64 a1, .int .i64 b1], .agg #[.int .i64 c2, .int .i64 s2, .int .i64 o2, .string p2, .string x2, .int .i64 n2, .int .i64 a2, .int .i64 b2]] W fun e w' => e = .returned (.bool E) ∧ Below W.heap.size W w') := Lib.hid (fun W hW => by have h := both_any c1 s1 o1 p1 x1 n1 a1 b1 c2 s2 o2 p2 x2 n2 a2 b2 W g1 g2 (HMX.out.below hW); rw [hE] at h; exact h)
    have C4 : Hid (∀ W : World, Below X.heap.size X W → Calls Try.prog 17 #[.agg #[.int .i64 c1, .int .i64 s1, .int .i64 o1, .string p1, .string x1, .int .i64 n1, .int .i64 a1, .int .i64 b1], .agg #[.int .i64 c2, .int .i64 s2, .int .i64 o2, .string p2, .string x2, .int .i64 n2, .int .i64 a2, .int .i64 b2]] W fun e w' => e = .returned (.bool E) ∧ Below W.heap.size W w') := Lib.hid (fun W hW => by have h := rboth_any c1 s1 o1 p1 x1 n1 a1 b1 c2 s2 o2 p2 x2 n2 a2 b2 W g1 g2; rw [hE] at h; exact h)
    have C5 : Hid (∀ W : World, Below X.heap.size X W → Calls Try.prog 18 #[.agg #[.int .i64 c1, .int .i64 s1, .int .i64 o1, .string p1, .string x1, .int .i64 n1, .int .i64 a1, .int .i64 b1]] W fun e w' => e = .returned (.bool G) ∧ Below W.heap.size W w') := Lib.hid (fun W hW => by have h := control_any c1 s1 o1 p1 x1 n1 a1 b1 W; rw [hG] at h; exact h)
    have C6 : Hid (∀ W : World, Below X.heap.size X W → Calls Try.prog 19 #[.agg #[.int .i64 c1, .int .i64 s1, .int .i64 o1, .string p1, .string x1, .int .i64 n1, .int .i64 a1, .int .i64 b1]] W fun e w' => e = .returned (.bool G) ∧ Below W.heap.size W w') := Lib.hid (fun W hW => by have h := rcontrol_any c1 s1 o1 p1 x1 n1 a1 b1 W; rw [hG] at h; exact h)
    have C7 : Hid (∀ W : World, Below X.heap.size X W → Calls Try.prog 12 #[.agg #[.int .i64 c1, .int .i64 s1, .int .i64 o1, .string p1, .string x1, .int .i64 n1, .int .i64 a1, .int .i64 b1]] W (ClP (rds o1 p1) W)) := Lib.hid (fun W hW => reads_any c1 s1 o1 p1 x1 n1 a1 b1 W g1 (HMX.out.below hW))
    have C8 : Hid (∀ W : World, Below X.heap.size X W → Calls Try.prog 13 #[.agg #[.int .i64 c1, .int .i64 s1, .int .i64 o1, .string p1, .string x1, .int .i64 n1, .int .i64 a1, .int .i64 b1]] W (ClP (wrs o1 p1) W)) := Lib.hid (fun W hW => writes_any c1 s1 o1 p1 x1 n1 a1 b1 W g1 (HMX.out.below hW))
    have C9 : Hid (∀ (u : Value) (W : World), CK.Rd W u (rds o1 p1) → Below X.heap.size X W → Calls Try.prog 11 #[u, v1] W fun e w' => e = .returned (.bool true) ∧ Below W.heap.size W w') := Lib.hid (fun u W hu hW => cells_same u v1 (rds o1 p1) W hu (RX1.out.below hW) (by have := rds_len o1 p1; omega))
    have C0 : Hid (∀ (u : Value) (W : World), CK.Rd W u (wrs o1 p1) → Below X.heap.size X W → Calls Try.prog 11 #[u, v2] W fun e w' => e = .returned (.bool true) ∧ Below W.heap.size W w') := Lib.hid (fun u W hu hW => cells_same u v2 (wrs o1 p1) W hu (RX2.out.below hW) (by have := wrs_len o1 p1; omega))
    clear hD hE hG d00 d01 d02 d03 d04 d05 d06 d07 d10 d11 d12 d13 d14 d15 d16 d17 hX1 hl0 hl1 hsw1 hsw2 hsX g1 g2 RX1 RX2
    go_wp2_with fail
    go_region_held3 (fun w' => w'.cell? ⟨w.heap.size, 0, none⟩ = some (.int .i64 c1) ∧ w'.cell? ⟨w.heap.size, 1, none⟩ = some (.int .i64 s1) ∧ w'.cell? ⟨w.heap.size, 2, none⟩ = some (.int .i64 o1) ∧ w'.cell? ⟨w.heap.size, 3, none⟩ = some (.string p1) ∧ w'.cell? ⟨w.heap.size, 4, none⟩ = some (.string x1) ∧ w'.cell? ⟨w.heap.size, 5, none⟩ = some (.int .i64 n1) ∧ w'.cell? ⟨w.heap.size, 6, none⟩ = some (.int .i64 a1) ∧ w'.cell? ⟨w.heap.size, 7, none⟩ = some (.int .i64 b1) ∧ w'.cell? ⟨w.heap.size + 1, 0, none⟩ = some (.int .i64 c2) ∧ w'.cell? ⟨w.heap.size + 1, 1, none⟩ = some (.int .i64 s2) ∧ w'.cell? ⟨w.heap.size + 1, 2, none⟩ = some (.int .i64 o2) ∧ w'.cell? ⟨w.heap.size + 1, 3, none⟩ = some (.string p2) ∧ w'.cell? ⟨w.heap.size + 1, 4, none⟩ = some (.string x2) ∧ w'.cell? ⟨w.heap.size + 1, 5, none⟩ = some (.int .i64 n2) ∧ w'.cell? ⟨w.heap.size + 1, 6, none⟩ = some (.int .i64 a2) ∧ w'.cell? ⟨w.heap.size + 1, 7, none⟩ = some (.int .i64 b2) ∧ Below X.heap.size X w')
      (first
        | exact HC.out _ (Below.refl _ _)
        | exact HC.out _ (Below.refl _ _).drew
        | (go_split_ands; exact HC.out _ (below_self (by assumption) (by assumption)))
        | (go_split_ands; exact HC.out _ (Below.drew (by assumption)))
        | (go_split_ands; exact HC.out _ (by assumption)))
      (first
        | (go_at_call 12; go_split_ands; refine (C7.out _ (by assumption)).mono ?_; rintro e w5 ⟨ur, he, ho, hbw5⟩; subst he; have hRr := Lib.hid ho.ck.rd; have hS5 : Below X.heap.size X w5 := below_self (by assumption) hbw5)
        | (go_at_call 13; go_split_ands; refine (C8.out _ (by assumption)).mono ?_; rintro e w5 ⟨uw, he, ho, hbw5⟩; subst he; have hRw := Lib.hid ho.ck.rd; have hS5 : Below X.heap.size X w5 := below_self (by assumption) hbw5)
        | (have hx0 := hRw; clear hx0; go_at_call 11; go_split_ands; refine (C0.out _ _ hRw.out (by assumption)).mono ?_; rintro e w5 ⟨rfl, hbw5⟩; have hS5 : Below X.heap.size X w5 := below_self (by assumption) hbw5)
        | (have hx0 := hRr; clear hx0; go_at_call 11; go_split_ands; refine (C9.out _ _ hRr.out (by assumption)).mono ?_; rintro e w5 ⟨rfl, hbw5⟩; have hS5 : Below X.heap.size X w5 := below_self (by assumption) hbw5)
        | (go_at_call 14; go_split_ands; refine (C1.out _ (by assumption)).mono ?_; rintro e w5 ⟨rfl, hbw5⟩; have hS5 : Below X.heap.size X w5 := below_self (by assumption) hbw5)
        | (go_at_call 15; go_split_ands; refine (C2.out _ (by assumption)).mono ?_; rintro e w5 ⟨rfl, hbw5⟩; have hS5 : Below X.heap.size X w5 := below_self (by assumption) hbw5)
        | (go_at_call 16; go_split_ands; refine (C3.out _ (by assumption)).mono ?_; rintro e w5 ⟨rfl, hbw5⟩; have hS5 : Below X.heap.size X w5 := below_self (by assumption) hbw5)
        | (go_at_call 17; go_split_ands; refine (C4.out _ (by assumption)).mono ?_; rintro e w5 ⟨rfl, hbw5⟩; have hS5 : Below X.heap.size X w5 := below_self (by assumption) hbw5)
        | (go_at_call 18; go_split_ands; refine (C5.out _ (by assumption)).mono ?_; rintro e w5 ⟨rfl, hbw5⟩; have hS5 : Below X.heap.size X w5 := below_self (by assumption) hbw5)
        | (go_at_call 19; go_split_ands; refine (C6.out _ (by assumption)).mono ?_; rintro e w5 ⟨rfl, hbw5⟩; have hS5 : Below X.heap.size X w5 := below_self (by assumption) hbw5)
        | fail)
    go_split_ands
    go_wp2
    go_ret
    exact ⟨rfl, BXX.out.trans (Below.mono (by assumption) (Nat.le_of_lt hX0))⟩
end Go.Proofs.Ytphddigohmdbnaa
