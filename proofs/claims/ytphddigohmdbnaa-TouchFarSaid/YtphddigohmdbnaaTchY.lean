/-
  The law TouchFar walked.
-/
import Derived.Test.YtphddigohmdbnaaTchX
namespace Go.Proofs.Ytphddigohmdbnaa
open Go.RowKit
set_option linter.unusedSimpArgs false
set_option linter.unusedVariables false

def anyC (x : Cl) (l : List Cl) : Bool := l.any fun y => decide (x = y)
def M1 (s x w : List Cl) : Bool := w.any fun c => anyC c s || anyC c x
def M2 (x r : List Cl) : Bool := r.any fun c => anyC c x
theorem below_dq {B : Nat} {a w : World} (h : Below B a w) (q : Nat) : Below B a (w.drewN q) := ⟨h.os, h.tape, h.output, h.size, h.block⟩
theorem anyC_iff (x : Cl) (l : List Cl) : anyC x l = true ↔ x ∈ l := by unfold anyC; simp
theorem anyC_take (x : Cl) (l : List Cl) (j : Nat) (hj : j < l.length) (y : Cl) (hy : l.getD j (ByteArray.empty, 0) = y) : anyC x (l.take (j + 1)) = (anyC x (l.take j) || decide (x = y)) := by
  unfold anyC
  rw [List.take_succ_eq_append_getElem hj, List.any_append]
  have : l[j] = y := by rw [← hy]; simp [List.getD, hj]
  rw [this]; simp
theorem M1_take (s x w : List Cl) (k : Nat) (hk : k < w.length) (c : Cl) (hc : w.getD k (ByteArray.empty, 0) = c) : M1 s x (w.take (k + 1)) = (M1 s x (w.take k) || (anyC c s || anyC c x)) := by
  unfold M1
  rw [List.take_succ_eq_append_getElem hk, List.any_append]
  have : w[k] = c := by rw [← hc]; simp [List.getD, hk]
  rw [this]; simp
theorem M2_take (x r : List Cl) (k : Nat) (hk : k < r.length) (c : Cl) (hc : r.getD k (ByteArray.empty, 0) = c) : M2 x (r.take (k + 1)) = (M2 x (r.take k) || anyC c x) := by
  unfold M2
  rw [List.take_succ_eq_append_getElem hk, List.any_append]
  have : r[k] = c := by rw [← hc]; simp [List.getD, hk]
  rw [this]; simp
theorem far_eq (o1 : Int) (p1 : ByteArray) (o2 : Int) (p2 : ByteArray) : (M1 (rds o2 p2) (wrs o2 p2) (wrs o1 p1) || M2 (wrs o2 p2) (rds o1 p1)) = mtr o1 p1 o2 p2 := by
  unfold mtr dst
  rw [Bool.eq_iff_iff, Bool.or_eq_true, Bool.or_eq_true]
  unfold M1 M2 memB
  simp only [List.any_eq_true, Bool.or_eq_true, anyC_iff, decide_eq_true_eq, List.mem_append]
  constructor
  · rintro (⟨c, hc, h | h⟩ | ⟨c, hc, h⟩)
    · exact .inl ⟨c, .inl h, c, hc, rfl⟩
    · exact .inl ⟨c, .inr h, c, hc, rfl⟩
    · exact .inr ⟨c, .inl hc, c, h, rfl⟩
  · rintro (⟨c, h | h, d, hd, rfl⟩ | ⟨c, h | h, d, hd, rfl⟩)
    · exact .inl ⟨d, hd, .inl h⟩
    · exact .inl ⟨d, hd, .inr h⟩
    · exact .inr ⟨d, h, hd⟩
    · exact .inl ⟨d, h, .inr hd⟩
set_option maxRecDepth 100000 in
set_option maxHeartbeats 8000000 in
theorem far_law (c1 s1 o1 : Int) (p1 x1 : ByteArray) (n1 a1 b1 : Int) (c2 s2 o2 : Int) (p2 x2 : ByteArray) (n2 a2 b2 : Int) (w : World) (hm : ML w) : Calls Try.prog 6 #[.agg #[.int .i64 c1, .int .i64 s1, .int .i64 o1, .string p1, .string x1, .int .i64 n1, .int .i64 a1, .int .i64 b1], .agg #[.int .i64 c2, .int .i64 s2, .int .i64 o2, .string p2, .string x2, .int .i64 n2, .int .i64 a2, .int .i64 b2]] w fun e w' => e = .returned (.bool true) ∧ Below w.heap.size w w' := by
  have HM0 : Hid (ML ((w.alloc (.cells #[.int .i64 c1, .int .i64 s1, .int .i64 o1, .string p1, .string x1, .int .i64 n1, .int .i64 a1, .int .i64 b1] 24)).alloc (.cells #[.int .i64 c2, .int .i64 s2, .int .i64 o2, .string p2, .string x2, .int .i64 n2, .int .i64 a2, .int .i64 b2] 24))) := Lib.hid (hm.below (two_below _ _ _))
  have HB0 := Lib.hid (two_below w (.cells #[.int .i64 c1, .int .i64 s1, .int .i64 o1, .string p1, .string x1, .int .i64 n1, .int .i64 a1, .int .i64 b1] 24) (.cells #[.int .i64 c2, .int .i64 s2, .int .i64 o2, .string p2, .string x2, .int .i64 n2, .int .i64 a2, .int .i64 b2] 24))
  have hz3 : ((w.alloc (.cells #[.int .i64 c1, .int .i64 s1, .int .i64 o1, .string p1, .string x1, .int .i64 n1, .int .i64 a1, .int .i64 b1] 24)).alloc (.cells #[.int .i64 c2, .int .i64 s2, .int .i64 o2, .string p2, .string x2, .int .i64 n2, .int .i64 a2, .int .i64 b2] 24)).heap.size = w.heap.size + 2 := by simp
  have d00 : ((w.alloc (.cells #[.int .i64 c1, .int .i64 s1, .int .i64 o1, .string p1, .string x1, .int .i64 n1, .int .i64 a1, .int .i64 b1] 24)).alloc (.cells #[.int .i64 c2, .int .i64 s2, .int .i64 o2, .string p2, .string x2, .int .i64 n2, .int .i64 a2, .int .i64 b2] 24)).cell? ⟨w.heap.size, 0, none⟩ = some (.int .i64 c1) := (two_cells w _ _ _ _).1 0
  have d01 : ((w.alloc (.cells #[.int .i64 c1, .int .i64 s1, .int .i64 o1, .string p1, .string x1, .int .i64 n1, .int .i64 a1, .int .i64 b1] 24)).alloc (.cells #[.int .i64 c2, .int .i64 s2, .int .i64 o2, .string p2, .string x2, .int .i64 n2, .int .i64 a2, .int .i64 b2] 24)).cell? ⟨w.heap.size, 1, none⟩ = some (.int .i64 s1) := (two_cells w _ _ _ _).1 1
  have d02 : ((w.alloc (.cells #[.int .i64 c1, .int .i64 s1, .int .i64 o1, .string p1, .string x1, .int .i64 n1, .int .i64 a1, .int .i64 b1] 24)).alloc (.cells #[.int .i64 c2, .int .i64 s2, .int .i64 o2, .string p2, .string x2, .int .i64 n2, .int .i64 a2, .int .i64 b2] 24)).cell? ⟨w.heap.size, 2, none⟩ = some (.int .i64 o1) := (two_cells w _ _ _ _).1 2
  have d03 : ((w.alloc (.cells #[.int .i64 c1, .int .i64 s1, .int .i64 o1, .string p1, .string x1, .int .i64 n1, .int .i64 a1, .int .i64 b1] 24)).alloc (.cells #[.int .i64 c2, .int .i64 s2, .int .i64 o2, .string p2, .string x2, .int .i64 n2, .int .i64 a2, .int .i64 b2] 24)).cell? ⟨w.heap.size, 3, none⟩ = some (.string p1) := (two_cells w _ _ _ _).1 3
  have d04 : ((w.alloc (.cells #[.int .i64 c1, .int .i64 s1, .int .i64 o1, .string p1, .string x1, .int .i64 n1, .int .i64 a1, .int .i64 b1] 24)).alloc (.cells #[.int .i64 c2, .int .i64 s2, .int .i64 o2, .string p2, .string x2, .int .i64 n2, .int .i64 a2, .int .i64 b2] 24)).cell? ⟨w.heap.size, 4, none⟩ = some (.string x1) := (two_cells w _ _ _ _).1 4
  have d05 : ((w.alloc (.cells #[.int .i64 c1, .int .i64 s1, .int .i64 o1, .string p1, .string x1, .int .i64 n1, .int .i64 a1, .int .i64 b1] 24)).alloc (.cells #[.int .i64 c2, .int .i64 s2, .int .i64 o2, .string p2, .string x2, .int .i64 n2, .int .i64 a2, .int .i64 b2] 24)).cell? ⟨w.heap.size, 5, none⟩ = some (.int .i64 n1) := (two_cells w _ _ _ _).1 5
  have d06 : ((w.alloc (.cells #[.int .i64 c1, .int .i64 s1, .int .i64 o1, .string p1, .string x1, .int .i64 n1, .int .i64 a1, .int .i64 b1] 24)).alloc (.cells #[.int .i64 c2, .int .i64 s2, .int .i64 o2, .string p2, .string x2, .int .i64 n2, .int .i64 a2, .int .i64 b2] 24)).cell? ⟨w.heap.size, 6, none⟩ = some (.int .i64 a1) := (two_cells w _ _ _ _).1 6
  have d07 : ((w.alloc (.cells #[.int .i64 c1, .int .i64 s1, .int .i64 o1, .string p1, .string x1, .int .i64 n1, .int .i64 a1, .int .i64 b1] 24)).alloc (.cells #[.int .i64 c2, .int .i64 s2, .int .i64 o2, .string p2, .string x2, .int .i64 n2, .int .i64 a2, .int .i64 b2] 24)).cell? ⟨w.heap.size, 7, none⟩ = some (.int .i64 b1) := (two_cells w _ _ _ _).1 7
  have d10 : ((w.alloc (.cells #[.int .i64 c1, .int .i64 s1, .int .i64 o1, .string p1, .string x1, .int .i64 n1, .int .i64 a1, .int .i64 b1] 24)).alloc (.cells #[.int .i64 c2, .int .i64 s2, .int .i64 o2, .string p2, .string x2, .int .i64 n2, .int .i64 a2, .int .i64 b2] 24)).cell? ⟨w.heap.size + 1, 0, none⟩ = some (.int .i64 c2) := (two_cells w _ _ _ _).2 0
  have d11 : ((w.alloc (.cells #[.int .i64 c1, .int .i64 s1, .int .i64 o1, .string p1, .string x1, .int .i64 n1, .int .i64 a1, .int .i64 b1] 24)).alloc (.cells #[.int .i64 c2, .int .i64 s2, .int .i64 o2, .string p2, .string x2, .int .i64 n2, .int .i64 a2, .int .i64 b2] 24)).cell? ⟨w.heap.size + 1, 1, none⟩ = some (.int .i64 s2) := (two_cells w _ _ _ _).2 1
  have d12 : ((w.alloc (.cells #[.int .i64 c1, .int .i64 s1, .int .i64 o1, .string p1, .string x1, .int .i64 n1, .int .i64 a1, .int .i64 b1] 24)).alloc (.cells #[.int .i64 c2, .int .i64 s2, .int .i64 o2, .string p2, .string x2, .int .i64 n2, .int .i64 a2, .int .i64 b2] 24)).cell? ⟨w.heap.size + 1, 2, none⟩ = some (.int .i64 o2) := (two_cells w _ _ _ _).2 2
  have d13 : ((w.alloc (.cells #[.int .i64 c1, .int .i64 s1, .int .i64 o1, .string p1, .string x1, .int .i64 n1, .int .i64 a1, .int .i64 b1] 24)).alloc (.cells #[.int .i64 c2, .int .i64 s2, .int .i64 o2, .string p2, .string x2, .int .i64 n2, .int .i64 a2, .int .i64 b2] 24)).cell? ⟨w.heap.size + 1, 3, none⟩ = some (.string p2) := (two_cells w _ _ _ _).2 3
  have d14 : ((w.alloc (.cells #[.int .i64 c1, .int .i64 s1, .int .i64 o1, .string p1, .string x1, .int .i64 n1, .int .i64 a1, .int .i64 b1] 24)).alloc (.cells #[.int .i64 c2, .int .i64 s2, .int .i64 o2, .string p2, .string x2, .int .i64 n2, .int .i64 a2, .int .i64 b2] 24)).cell? ⟨w.heap.size + 1, 4, none⟩ = some (.string x2) := (two_cells w _ _ _ _).2 4
  have d15 : ((w.alloc (.cells #[.int .i64 c1, .int .i64 s1, .int .i64 o1, .string p1, .string x1, .int .i64 n1, .int .i64 a1, .int .i64 b1] 24)).alloc (.cells #[.int .i64 c2, .int .i64 s2, .int .i64 o2, .string p2, .string x2, .int .i64 n2, .int .i64 a2, .int .i64 b2] 24)).cell? ⟨w.heap.size + 1, 5, none⟩ = some (.int .i64 n2) := (two_cells w _ _ _ _).2 5
  have d16 : ((w.alloc (.cells #[.int .i64 c1, .int .i64 s1, .int .i64 o1, .string p1, .string x1, .int .i64 n1, .int .i64 a1, .int .i64 b1] 24)).alloc (.cells #[.int .i64 c2, .int .i64 s2, .int .i64 o2, .string p2, .string x2, .int .i64 n2, .int .i64 a2, .int .i64 b2] 24)).cell? ⟨w.heap.size + 1, 6, none⟩ = some (.int .i64 a2) := (two_cells w _ _ _ _).2 6
  have d17 : ((w.alloc (.cells #[.int .i64 c1, .int .i64 s1, .int .i64 o1, .string p1, .string x1, .int .i64 n1, .int .i64 a1, .int .i64 b1] 24)).alloc (.cells #[.int .i64 c2, .int .i64 s2, .int .i64 o2, .string p2, .string x2, .int .i64 n2, .int .i64 a2, .int .i64 b2] 24)).cell? ⟨w.heap.size + 1, 7, none⟩ = some (.int .i64 b2) := (two_cells w _ _ _ _).2 7
  clear hm
  go_enter Try.func6, Try.ntmps6
  go_wp2_with fail
  generalize ((w.alloc (.cells #[.int .i64 c1, .int .i64 s1, .int .i64 o1, .string p1, .string x1, .int .i64 n1, .int .i64 a1, .int .i64 b1] 24)).alloc (.cells #[.int .i64 c2, .int .i64 s2, .int .i64 o2, .string p2, .string x2, .int .i64 n2, .int .i64 a2, .int .i64 b2] 24)) = X0 at *
  have hl0 : w.heap.size < X0.heap.size := by omega
  have hl1 : w.heap.size + 1 < X0.heap.size := by omega
  refine (works_any X0 HM0.out).mono ?_
  rintro e w1 ⟨rfl, hb⟩
  replace d00 := (hb.cell (p := ⟨w.heap.size, 0, none⟩) (by dsimp only; omega)).trans d00
  replace d01 := (hb.cell (p := ⟨w.heap.size, 1, none⟩) (by dsimp only; omega)).trans d01
  replace d02 := (hb.cell (p := ⟨w.heap.size, 2, none⟩) (by dsimp only; omega)).trans d02
  replace d03 := (hb.cell (p := ⟨w.heap.size, 3, none⟩) (by dsimp only; omega)).trans d03
  replace d04 := (hb.cell (p := ⟨w.heap.size, 4, none⟩) (by dsimp only; omega)).trans d04
  replace d05 := (hb.cell (p := ⟨w.heap.size, 5, none⟩) (by dsimp only; omega)).trans d05
  replace d06 := (hb.cell (p := ⟨w.heap.size, 6, none⟩) (by dsimp only; omega)).trans d06
  replace d07 := (hb.cell (p := ⟨w.heap.size, 7, none⟩) (by dsimp only; omega)).trans d07
  replace d10 := (hb.cell (p := ⟨w.heap.size + 1, 0, none⟩) (by dsimp only; omega)).trans d10
  replace d11 := (hb.cell (p := ⟨w.heap.size + 1, 1, none⟩) (by dsimp only; omega)).trans d11
  replace d12 := (hb.cell (p := ⟨w.heap.size + 1, 2, none⟩) (by dsimp only; omega)).trans d12
  replace d13 := (hb.cell (p := ⟨w.heap.size + 1, 3, none⟩) (by dsimp only; omega)).trans d13
  replace d14 := (hb.cell (p := ⟨w.heap.size + 1, 4, none⟩) (by dsimp only; omega)).trans d14
  replace d15 := (hb.cell (p := ⟨w.heap.size + 1, 5, none⟩) (by dsimp only; omega)).trans d15
  replace d16 := (hb.cell (p := ⟨w.heap.size + 1, 6, none⟩) (by dsimp only; omega)).trans d16
  replace d17 := (hb.cell (p := ⟨w.heap.size + 1, 7, none⟩) (by dsimp only; omega)).trans d17
  have Bw1 := Lib.hid hb
  have hsw1 := hb.size
  clear hb hz3
  cases hO : ovr p1 x1 p2 x2 with
  | true =>
    go_wp2_with fail
    refine (over2_any _ p1 x1 p2 x2 _ (by simp [go_sem]) (by simp [go_sem]) (by simp [go_sem]) (by simp [go_sem])).mono ?_
    rw [hO]
    rintro e w2 ⟨rfl, hb⟩
    subst hb
    go_wp2
    go_ret
    exact ⟨rfl, HB0.out.trans ((Bw1.out.mono (Nat.le_of_lt hl0)).alloc (by omega) _)⟩
  | false =>
    have q1 : Hid (p1.size ≤ 1000) := Lib.hid (by unfold ovr at hO; simp at hO; omega)
    have q2 : Hid (p2.size ≤ 1000) := Lib.hid (by unfold ovr at hO; simp at hO; omega)
    go_wp2_with fail
    refine (over2_any _ p1 x1 p2 x2 _ (by simp [go_sem]) (by simp [go_sem]) (by simp [go_sem]) (by simp [go_sem])).mono ?_
    rw [hO]
    rintro e w2 ⟨rfl, hb⟩
    subst hb
    clear hO
    have hb : Below w1.heap.size w1 (w1.alloc (.cells #[.int .i64 c1, .int .i64 s1, .int .i64 o1, .string p1, .string x1, .int .i64 n1, .int .i64 a1, .int .i64 b1, .int .i64 c2, .int .i64 s2, .int .i64 o2, .string p2, .string x2, .int .i64 n2, .int .i64 a2, .int .i64 b2] 24)) := (Below.refl _ _).alloc (Nat.le_refl _) _
    generalize (w1.alloc (.cells #[.int .i64 c1, .int .i64 s1, .int .i64 o1, .string p1, .string x1, .int .i64 n1, .int .i64 a1, .int .i64 b1, .int .i64 c2, .int .i64 s2, .int .i64 o2, .string p2, .string x2, .int .i64 n2, .int .i64 a2, .int .i64 b2] 24)) = w2 at *
    replace d00 := (hb.cell (p := ⟨w.heap.size, 0, none⟩) (by dsimp only; omega)).trans d00
    replace d01 := (hb.cell (p := ⟨w.heap.size, 1, none⟩) (by dsimp only; omega)).trans d01
    replace d02 := (hb.cell (p := ⟨w.heap.size, 2, none⟩) (by dsimp only; omega)).trans d02
    replace d03 := (hb.cell (p := ⟨w.heap.size, 3, none⟩) (by dsimp only; omega)).trans d03
    replace d04 := (hb.cell (p := ⟨w.heap.size, 4, none⟩) (by dsimp only; omega)).trans d04
    replace d05 := (hb.cell (p := ⟨w.heap.size, 5, none⟩) (by dsimp only; omega)).trans d05
    replace d06 := (hb.cell (p := ⟨w.heap.size, 6, none⟩) (by dsimp only; omega)).trans d06
    replace d07 := (hb.cell (p := ⟨w.heap.size, 7, none⟩) (by dsimp only; omega)).trans d07
    replace d10 := (hb.cell (p := ⟨w.heap.size + 1, 0, none⟩) (by dsimp only; omega)).trans d10
    replace d11 := (hb.cell (p := ⟨w.heap.size + 1, 1, none⟩) (by dsimp only; omega)).trans d11
    replace d12 := (hb.cell (p := ⟨w.heap.size + 1, 2, none⟩) (by dsimp only; omega)).trans d12
    replace d13 := (hb.cell (p := ⟨w.heap.size + 1, 3, none⟩) (by dsimp only; omega)).trans d13
    replace d14 := (hb.cell (p := ⟨w.heap.size + 1, 4, none⟩) (by dsimp only; omega)).trans d14
    replace d15 := (hb.cell (p := ⟨w.heap.size + 1, 5, none⟩) (by dsimp only; omega)).trans d15
    replace d16 := (hb.cell (p := ⟨w.heap.size + 1, 6, none⟩) (by dsimp only; omega)).trans d16
    replace d17 := (hb.cell (p := ⟨w.heap.size + 1, 7, none⟩) (by dsimp only; omega)).trans d17
    have Bw2 := Lib.hid (Bw1.out.trans (hb.mono Bw1.out.size))
    have hsw2 := hb.size
    clear hb
    go_wp2_with fail
    refine (reads_any c1 s1 o1 p1 x1 n1 a1 b1 w2 q1.out (HM0.out.below Bw2.out)).mono ?_
    rintro e w3 ⟨v1, he, ho, hb⟩
    rw [he.out]
    replace d00 := (hb.cell (p := ⟨w.heap.size, 0, none⟩) (by dsimp only; omega)).trans d00
    replace d01 := (hb.cell (p := ⟨w.heap.size, 1, none⟩) (by dsimp only; omega)).trans d01
    replace d02 := (hb.cell (p := ⟨w.heap.size, 2, none⟩) (by dsimp only; omega)).trans d02
    replace d03 := (hb.cell (p := ⟨w.heap.size, 3, none⟩) (by dsimp only; omega)).trans d03
    replace d04 := (hb.cell (p := ⟨w.heap.size, 4, none⟩) (by dsimp only; omega)).trans d04
    replace d05 := (hb.cell (p := ⟨w.heap.size, 5, none⟩) (by dsimp only; omega)).trans d05
    replace d06 := (hb.cell (p := ⟨w.heap.size, 6, none⟩) (by dsimp only; omega)).trans d06
    replace d07 := (hb.cell (p := ⟨w.heap.size, 7, none⟩) (by dsimp only; omega)).trans d07
    replace d10 := (hb.cell (p := ⟨w.heap.size + 1, 0, none⟩) (by dsimp only; omega)).trans d10
    replace d11 := (hb.cell (p := ⟨w.heap.size + 1, 1, none⟩) (by dsimp only; omega)).trans d11
    replace d12 := (hb.cell (p := ⟨w.heap.size + 1, 2, none⟩) (by dsimp only; omega)).trans d12
    replace d13 := (hb.cell (p := ⟨w.heap.size + 1, 3, none⟩) (by dsimp only; omega)).trans d13
    replace d14 := (hb.cell (p := ⟨w.heap.size + 1, 4, none⟩) (by dsimp only; omega)).trans d14
    replace d15 := (hb.cell (p := ⟨w.heap.size + 1, 5, none⟩) (by dsimp only; omega)).trans d15
    replace d16 := (hb.cell (p := ⟨w.heap.size + 1, 6, none⟩) (by dsimp only; omega)).trans d16
    replace d17 := (hb.cell (p := ⟨w.heap.size + 1, 7, none⟩) (by dsimp only; omega)).trans d17
    have ho' := ho.ck.rd
    obtain ⟨t1, cc1, e⟩ := ho'.slice
    subst e
    obtain ⟨N1, hN1⟩ : ∃ n, (rds o1 p1).length = n := ⟨_, rfl⟩
    rw [hN1] at ho' ⊢
    have R1 := Lib.hid ho'
    have HN1 := Lib.hid hN1
    have Bw3 := Lib.hid (Bw2.out.trans (hb.mono Bw2.out.size))
    have Tw3 := Lib.hid hb
    have hsw3 := Bw3.out.size
    clear he ho ho' hb hN1
    go_wp2_with fail
    refine (writes_any c1 s1 o1 p1 x1 n1 a1 b1 w3 q1.out (HM0.out.below Bw3.out)).mono ?_
    rintro e w4 ⟨v2, he, ho, hb⟩
    rw [he.out]
    replace d00 := (hb.cell (p := ⟨w.heap.size, 0, none⟩) (by dsimp only; omega)).trans d00
    replace d01 := (hb.cell (p := ⟨w.heap.size, 1, none⟩) (by dsimp only; omega)).trans d01
    replace d02 := (hb.cell (p := ⟨w.heap.size, 2, none⟩) (by dsimp only; omega)).trans d02
    replace d03 := (hb.cell (p := ⟨w.heap.size, 3, none⟩) (by dsimp only; omega)).trans d03
    replace d04 := (hb.cell (p := ⟨w.heap.size, 4, none⟩) (by dsimp only; omega)).trans d04
    replace d05 := (hb.cell (p := ⟨w.heap.size, 5, none⟩) (by dsimp only; omega)).trans d05
    replace d06 := (hb.cell (p := ⟨w.heap.size, 6, none⟩) (by dsimp only; omega)).trans d06
    replace d07 := (hb.cell (p := ⟨w.heap.size, 7, none⟩) (by dsimp only; omega)).trans d07
    replace d10 := (hb.cell (p := ⟨w.heap.size + 1, 0, none⟩) (by dsimp only; omega)).trans d10
    replace d11 := (hb.cell (p := ⟨w.heap.size + 1, 1, none⟩) (by dsimp only; omega)).trans d11
    replace d12 := (hb.cell (p := ⟨w.heap.size + 1, 2, none⟩) (by dsimp only; omega)).trans d12
    replace d13 := (hb.cell (p := ⟨w.heap.size + 1, 3, none⟩) (by dsimp only; omega)).trans d13
    replace d14 := (hb.cell (p := ⟨w.heap.size + 1, 4, none⟩) (by dsimp only; omega)).trans d14
    replace d15 := (hb.cell (p := ⟨w.heap.size + 1, 5, none⟩) (by dsimp only; omega)).trans d15
    replace d16 := (hb.cell (p := ⟨w.heap.size + 1, 6, none⟩) (by dsimp only; omega)).trans d16
    replace d17 := (hb.cell (p := ⟨w.heap.size + 1, 7, none⟩) (by dsimp only; omega)).trans d17
    have ho' := ho.ck.rd
    obtain ⟨t2, cc2, e⟩ := ho'.slice
    subst e
    obtain ⟨N2, hN2⟩ : ∃ n, (wrs o1 p1).length = n := ⟨_, rfl⟩
    rw [hN2] at ho' ⊢
    have R2 := Lib.hid ho'
    have HN2 := Lib.hid hN2
    have Bw4 := Lib.hid (Bw3.out.trans (hb.mono Bw3.out.size))
    have Tw4 := Lib.hid hb
    have hsw4 := Bw4.out.size
    clear he ho ho' hb hN2
    go_wp2_with fail
    refine (reads_any c2 s2 o2 p2 x2 n2 a2 b2 w4 q2.out (HM0.out.below Bw4.out)).mono ?_
    rintro e w5 ⟨v3, he, ho, hb⟩
    rw [he.out]
    replace d00 := (hb.cell (p := ⟨w.heap.size, 0, none⟩) (by dsimp only; omega)).trans d00
    replace d01 := (hb.cell (p := ⟨w.heap.size, 1, none⟩) (by dsimp only; omega)).trans d01
    replace d02 := (hb.cell (p := ⟨w.heap.size, 2, none⟩) (by dsimp only; omega)).trans d02
    replace d03 := (hb.cell (p := ⟨w.heap.size, 3, none⟩) (by dsimp only; omega)).trans d03
    replace d04 := (hb.cell (p := ⟨w.heap.size, 4, none⟩) (by dsimp only; omega)).trans d04
    replace d05 := (hb.cell (p := ⟨w.heap.size, 5, none⟩) (by dsimp only; omega)).trans d05
    replace d06 := (hb.cell (p := ⟨w.heap.size, 6, none⟩) (by dsimp only; omega)).trans d06
    replace d07 := (hb.cell (p := ⟨w.heap.size, 7, none⟩) (by dsimp only; omega)).trans d07
    replace d10 := (hb.cell (p := ⟨w.heap.size + 1, 0, none⟩) (by dsimp only; omega)).trans d10
    replace d11 := (hb.cell (p := ⟨w.heap.size + 1, 1, none⟩) (by dsimp only; omega)).trans d11
    replace d12 := (hb.cell (p := ⟨w.heap.size + 1, 2, none⟩) (by dsimp only; omega)).trans d12
    replace d13 := (hb.cell (p := ⟨w.heap.size + 1, 3, none⟩) (by dsimp only; omega)).trans d13
    replace d14 := (hb.cell (p := ⟨w.heap.size + 1, 4, none⟩) (by dsimp only; omega)).trans d14
    replace d15 := (hb.cell (p := ⟨w.heap.size + 1, 5, none⟩) (by dsimp only; omega)).trans d15
    replace d16 := (hb.cell (p := ⟨w.heap.size + 1, 6, none⟩) (by dsimp only; omega)).trans d16
    replace d17 := (hb.cell (p := ⟨w.heap.size + 1, 7, none⟩) (by dsimp only; omega)).trans d17
    have ho' := ho.ck.rd
    obtain ⟨t3, cc3, e⟩ := ho'.slice
    subst e
    obtain ⟨N3, hN3⟩ : ∃ n, (rds o2 p2).length = n := ⟨_, rfl⟩
    rw [hN3] at ho' ⊢
    have R3 := Lib.hid ho'
    have HN3 := Lib.hid hN3
    have Bw5 := Lib.hid (Bw4.out.trans (hb.mono Bw4.out.size))
    have Tw5 := Lib.hid hb
    have hsw5 := Bw5.out.size
    clear he ho ho' hb hN3
    go_wp2_with fail
    refine (writes_any c2 s2 o2 p2 x2 n2 a2 b2 w5 q2.out (HM0.out.below Bw5.out)).mono ?_
    rintro e X ⟨v4, he, ho, hb⟩
    rw [he.out]
    replace d00 := (hb.cell (p := ⟨w.heap.size, 0, none⟩) (by dsimp only; omega)).trans d00
    replace d01 := (hb.cell (p := ⟨w.heap.size, 1, none⟩) (by dsimp only; omega)).trans d01
    replace d02 := (hb.cell (p := ⟨w.heap.size, 2, none⟩) (by dsimp only; omega)).trans d02
    replace d03 := (hb.cell (p := ⟨w.heap.size, 3, none⟩) (by dsimp only; omega)).trans d03
    replace d04 := (hb.cell (p := ⟨w.heap.size, 4, none⟩) (by dsimp only; omega)).trans d04
    replace d05 := (hb.cell (p := ⟨w.heap.size, 5, none⟩) (by dsimp only; omega)).trans d05
    replace d06 := (hb.cell (p := ⟨w.heap.size, 6, none⟩) (by dsimp only; omega)).trans d06
    replace d07 := (hb.cell (p := ⟨w.heap.size, 7, none⟩) (by dsimp only; omega)).trans d07
    replace d10 := (hb.cell (p := ⟨w.heap.size + 1, 0, none⟩) (by dsimp only; omega)).trans d10
    replace d11 := (hb.cell (p := ⟨w.heap.size + 1, 1, none⟩) (by dsimp only; omega)).trans d11
    replace d12 := (hb.cell (p := ⟨w.heap.size + 1, 2, none⟩) (by dsimp only; omega)).trans d12
    replace d13 := (hb.cell (p := ⟨w.heap.size + 1, 3, none⟩) (by dsimp only; omega)).trans d13
    replace d14 := (hb.cell (p := ⟨w.heap.size + 1, 4, none⟩) (by dsimp only; omega)).trans d14
    replace d15 := (hb.cell (p := ⟨w.heap.size + 1, 5, none⟩) (by dsimp only; omega)).trans d15
    replace d16 := (hb.cell (p := ⟨w.heap.size + 1, 6, none⟩) (by dsimp only; omega)).trans d16
    replace d17 := (hb.cell (p := ⟨w.heap.size + 1, 7, none⟩) (by dsimp only; omega)).trans d17
    have ho' := ho.ck.rd
    obtain ⟨t4, cc4, e⟩ := ho'.slice
    subst e
    obtain ⟨N4, hN4⟩ : ∃ n, (wrs o2 p2).length = n := ⟨_, rfl⟩
    rw [hN4] at ho' ⊢
    have R4 := Lib.hid ho'
    have HN4 := Lib.hid hN4
    have BX := Lib.hid (Bw5.out.trans (hb.mono Bw5.out.size))
    have TX := Lib.hid hb
    have hsX := BX.out.size
    clear he ho ho' hb hN4
    go_wp2_with fail
    have RX1 := Lib.hid (((R1.out.below Tw4.out).below Tw5.out).below TX.out)
    have RX2 := Lib.hid ((R2.out.below Tw5.out).below TX.out)
    have RX3 := Lib.hid (R3.out.below TX.out)
    have RX4 := R4
    have hN1 : N1 ≤ 2 := by have := rds_len o1 p1; have := HN1.out; omega
    have hN2 : N2 ≤ 3 := by have := wrs_len o1 p1; have := HN2.out; omega
    have hN3 : N3 ≤ 2 := by have := rds_len o2 p2; have := HN3.out; omega
    have hN4 : N4 ≤ 3 := by have := wrs_len o2 p2; have := HN4.out; omega
    obtain ⟨L1, hL1⟩ : ∃ l, rds o1 p1 = l := ⟨_, rfl⟩
    obtain ⟨L2, hL2⟩ : ∃ l, wrs o1 p1 = l := ⟨_, rfl⟩
    obtain ⟨L3, hL3⟩ : ∃ l, rds o2 p2 = l := ⟨_, rfl⟩
    obtain ⟨L4, hL4⟩ : ∃ l, wrs o2 p2 = l := ⟨_, rfl⟩
    have hfar := far_eq o1 p1 o2 p2
    rw [hL1, hL2, hL3, hL4] at hfar
    rw [hL1] at RX1 HN1
    rw [hL2] at RX2 HN2
    rw [hL3] at RX3 HN3
    rw [hL4] at RX4 HN4
    have HFAR := Lib.hid hfar
    have HD0 : Hid (∀ W, Below X.heap.size X W → W.cell? ⟨w.heap.size, 0, none⟩ = some (.int .i64 c1) ∧ W.cell? ⟨w.heap.size, 1, none⟩ = some (.int .i64 s1) ∧ W.cell? ⟨w.heap.size, 2, none⟩ = some (.int .i64 o1) ∧ W.cell? ⟨w.heap.size, 3, none⟩ = some (.string p1) ∧ W.cell? ⟨w.heap.size, 4, none⟩ = some (.string x1) ∧ W.cell? ⟨w.heap.size, 5, none⟩ = some (.int .i64 n1) ∧ W.cell? ⟨w.heap.size, 6, none⟩ = some (.int .i64 a1) ∧ W.cell? ⟨w.heap.size, 7, none⟩ = some (.int .i64 b1) ∧ W.cell? ⟨w.heap.size + 1, 0, none⟩ = some (.int .i64 c2) ∧ W.cell? ⟨w.heap.size + 1, 1, none⟩ = some (.int .i64 s2) ∧ W.cell? ⟨w.heap.size + 1, 2, none⟩ = some (.int .i64 o2) ∧ W.cell? ⟨w.heap.size + 1, 3, none⟩ = some (.string p2) ∧ W.cell? ⟨w.heap.size + 1, 4, none⟩ = some (.string x2) ∧ W.cell? ⟨w.heap.size + 1, 5, none⟩ = some (.int .i64 n2) ∧ W.cell? ⟨w.heap.size + 1, 6, none⟩ = some (.int .i64 a2) ∧ W.cell? ⟨w.heap.size + 1, 7, none⟩ = some (.int .i64 b2)) := Lib.hid (fun W hb => ⟨(hb.cell (p := ⟨w.heap.size, 0, none⟩) (by dsimp only; omega)).trans d00, (hb.cell (p := ⟨w.heap.size, 1, none⟩) (by dsimp only; omega)).trans d01, (hb.cell (p := ⟨w.heap.size, 2, none⟩) (by dsimp only; omega)).trans d02, (hb.cell (p := ⟨w.heap.size, 3, none⟩) (by dsimp only; omega)).trans d03, (hb.cell (p := ⟨w.heap.size, 4, none⟩) (by dsimp only; omega)).trans d04, (hb.cell (p := ⟨w.heap.size, 5, none⟩) (by dsimp only; omega)).trans d05, (hb.cell (p := ⟨w.heap.size, 6, none⟩) (by dsimp only; omega)).trans d06, (hb.cell (p := ⟨w.heap.size, 7, none⟩) (by dsimp only; omega)).trans d07, (hb.cell (p := ⟨w.heap.size + 1, 0, none⟩) (by dsimp only; omega)).trans d10, (hb.cell (p := ⟨w.heap.size + 1, 1, none⟩) (by dsimp only; omega)).trans d11, (hb.cell (p := ⟨w.heap.size + 1, 2, none⟩) (by dsimp only; omega)).trans d12, (hb.cell (p := ⟨w.heap.size + 1, 3, none⟩) (by dsimp only; omega)).trans d13, (hb.cell (p := ⟨w.heap.size + 1, 4, none⟩) (by dsimp only; omega)).trans d14, (hb.cell (p := ⟨w.heap.size + 1, 5, none⟩) (by dsimp only; omega)).trans d15, (hb.cell (p := ⟨w.heap.size + 1, 6, none⟩) (by dsimp only; omega)).trans d16, (hb.cell (p := ⟨w.heap.size + 1, 7, none⟩) (by dsimp only; omega)).trans d17⟩)
    have BXX := Lib.hid (HB0.out.trans (BX.out.mono (Nat.le_of_lt hl0)))
    have HMX := Lib.hid (HM0.out.below BX.out)
    clear hL1 hL2 hL3 hL4 hfar R1 R2 R3 R4 d00 d01 d02 d03 d04 d05 d06 d07 d10 d11 d12 d13 d14 d15 d16 d17
    clear hl0 hl1 hsw1 hsw2 hsw3 hsw4 hsw5 hsX
    go_loopw [10, 11] (fun m i wr => ∃ (k : Nat) (b : Bool), m = .bool b ∧ k ≤ N2 ∧ i = .int .i64 k ∧ Hid (b = M1 L3 L4 (L2.take k)) ∧ Hid (Below X.heap.size X wr)) (fun _ i _ => N2 - (intOf i).toNat)
    case atStart => exact ⟨0, _, rfl, Nat.zero_le _, rfl, Lib.hid rfl, Lib.hid (Below.refl _ _)⟩
    case round =>
      skip
      obtain ⟨k, b, rfl, hk, rfl, hbm, hB⟩ := hrel
      by_cases hlt : k < N2
      · have hlt' : (k : Int) < (N2 : Int) := by omega
        have hkb : (k : Int) ≤ 10 := by omega
        have hkl : k < L2.length := by rw [HN2.out]; exact hlt
        obtain ⟨⟨y1, y2⟩, hX⟩ : ∃ X, L2.getD k (ByteArray.empty, 0) = X := ⟨_, rfl⟩
        have HX := Lib.hid hX
        have HMK := Lib.hid (M1_take L3 L4 L2 k hkl _ hX)
        clear hX hkl
        go_wp2_with fail
        obtain ⟨wo, hwo⟩ : ∃ wo : World, wo = wr := ⟨_, rfl⟩
        subst hwo
        go_loopw [10, 12] (fun m i wr => ∃ (j : Nat) (b : Bool), m = .bool b ∧ j ≤ N3 ∧ i = .int .i64 j ∧ Hid (b = (M1 L3 L4 (L2.take k) || anyC (y1, y2) (L3.take j))) ∧ Hid (Below X.heap.size X wr)) (fun _ i _ => N3 - (intOf i).toNat)
        case atStart => exact ⟨0, _, rfl, Nat.zero_le _, rfl, Lib.hid (by simp [anyC, hbm.out]), hB⟩
        case round =>
          clear hB hbm
          obtain ⟨j, b, rfl, hj, rfl, hbm, hB⟩ := hrel
          by_cases hltj : j < N3
          · have hltj' : (j : Int) < (N3 : Int) := by omega
            have hjb : (j : Int) ≤ 10 := by omega
            obtain ⟨e1, g3, off3, hdb, hg3, u1, u2, hjm⟩ := clCell (RX3.out.below hB.out) j hltj
            obtain ⟨⟨z1, z2⟩, hZ⟩ : ∃ X, L3.getD j (ByteArray.empty, 0) = X := ⟨_, rfl⟩
            rw [hZ] at u1 u2
            obtain ⟨e2, g4, off4, hda, hg4, t1', t2', hjk⟩ := clCell (RX2.out.below hB.out) k hlt
            rw [HX.out] at t1' t2'
            have HTK := Lib.hid (anyC_take (y1, y2) L3 j hjm _ hZ)
            obtain ⟨he, hgd⟩ := eqC_run y1 y2 z1 z2
            subst hda
            subst hdb
            clear hZ hjm hjk e1 e2
            cases b with
            | true =>
              have hb2 : Hid (true = (M1 L3 L4 (L2.take k) || anyC (y1, y2) (L3.take (j + 1)))) := Lib.hid (by rw [HTK.out, ← Bool.or_assoc, ← hbm.out]; rfl)
              clear he hgd
              go_wp2_with fail
              go_quiet (fail)
              go_wp2
              go_roundw
              case rel => exact ⟨j + 1, true, rfl, by omega, by go_num, hb2, Lib.hid (below_dq hB.out _)⟩
              case measure => simp [intOf]; omega
            | false =>
              cases hq : decide (((y1, y2) : Cl) = (z1, z2)) with
              | true =>
                rw [hq] at he
                have hb2 : Hid (true = (M1 L3 L4 (L2.take k) || anyC (y1, y2) (L3.take (j + 1)))) := Lib.hid (by rw [HTK.out, hq]; simp)
                clear hq
                go_wp2_with fail
                go_quiet (fail)
                go_wp2
                go_roundw
                case rel => exact ⟨j + 1, true, rfl, by omega, by go_num, hb2, Lib.hid (below_dq hB.out _)⟩
                case measure => simp [intOf]; omega
              | false =>
                rw [hq] at he
                have hb2 : Hid (false = (M1 L3 L4 (L2.take k) || anyC (y1, y2) (L3.take (j + 1)))) := Lib.hid (by rw [HTK.out, hq, ← Bool.or_assoc, ← hbm.out]; rfl)
                clear hq
                go_wp2_with fail
                go_quiet (fail)
                go_wp2
                go_roundw
                case rel => exact ⟨j + 1, false, rfl, by omega, by go_num, hb2, Lib.hid (below_dq hB.out _)⟩
                case measure => simp [intOf]; omega
          · obtain rfl : j = N3 := by omega
            have hb2 := hbm.out
            rw [List.take_of_length_le (l := L3) (by rw [HN3.out]; exact Nat.le_refl _)] at hb2
            have hbm := Lib.hid hb2
            clear hb2
            go_wp2_with fail
            obtain ⟨wp, hwp⟩ : ∃ wp : World, wp = wr := ⟨_, rfl⟩
            subst hwp
            go_loopw [10, 13] (fun m i wr => ∃ (j : Nat) (b : Bool), m = .bool b ∧ j ≤ N4 ∧ i = .int .i64 j ∧ Hid (b = ((M1 L3 L4 (L2.take k) || anyC (y1, y2) L3) || anyC (y1, y2) (L4.take j))) ∧ Hid (Below X.heap.size X wr)) (fun _ i _ => N4 - (intOf i).toNat)
            case atStart => exact ⟨0, _, rfl, Nat.zero_le _, rfl, Lib.hid (by simp [anyC, hbm.out]), hB⟩
            case round =>
              clear hB hbm
              obtain ⟨j, b, rfl, hj, rfl, hbm, hB⟩ := hrel
              by_cases hltj : j < N4
              · have hltj' : (j : Int) < (N4 : Int) := by omega
                have hjb : (j : Int) ≤ 10 := by omega
                obtain ⟨e1, g3, off3, hdb, hg3, u1, u2, hjm⟩ := clCell (RX4.out.below hB.out) j hltj
                obtain ⟨⟨z1, z2⟩, hZ⟩ : ∃ X, L4.getD j (ByteArray.empty, 0) = X := ⟨_, rfl⟩
                rw [hZ] at u1 u2
                obtain ⟨e2, g4, off4, hda, hg4, t1', t2', hjk⟩ := clCell (RX2.out.below hB.out) k hlt
                rw [HX.out] at t1' t2'
                have HTK := Lib.hid (anyC_take (y1, y2) L4 j hjm _ hZ)
                obtain ⟨he, hgd⟩ := eqC_run y1 y2 z1 z2
                subst hda
                subst hdb
                clear hZ hjm hjk e1 e2
                cases b with
                | true =>
                  have hb2 : Hid (true = ((M1 L3 L4 (L2.take k) || anyC (y1, y2) L3) || anyC (y1, y2) (L4.take (j + 1)))) := Lib.hid (by rw [HTK.out, ← Bool.or_assoc, ← hbm.out]; rfl)
                  clear he hgd
                  go_wp2_with fail
                  go_quiet (fail)
                  go_wp2
                  go_roundw
                  case rel => exact ⟨j + 1, true, rfl, by omega, by go_num, hb2, Lib.hid (below_dq hB.out _)⟩
                  case measure => simp [intOf]; omega
                | false =>
                  cases hq : decide (((y1, y2) : Cl) = (z1, z2)) with
                  | true =>
                    rw [hq] at he
                    have hb2 : Hid (true = ((M1 L3 L4 (L2.take k) || anyC (y1, y2) L3) || anyC (y1, y2) (L4.take (j + 1)))) := Lib.hid (by rw [HTK.out, hq]; simp)
                    clear hq
                    go_wp2_with fail
                    go_quiet (fail)
                    go_wp2
                    go_roundw
                    case rel => exact ⟨j + 1, true, rfl, by omega, by go_num, hb2, Lib.hid (below_dq hB.out _)⟩
                    case measure => simp [intOf]; omega
                  | false =>
                    rw [hq] at he
                    have hb2 : Hid (false = ((M1 L3 L4 (L2.take k) || anyC (y1, y2) L3) || anyC (y1, y2) (L4.take (j + 1)))) := Lib.hid (by rw [HTK.out, hq, ← Bool.or_assoc, ← hbm.out]; rfl)
                    clear hq
                    go_wp2_with fail
                    go_quiet (fail)
                    go_wp2
                    go_roundw
                    case rel => exact ⟨j + 1, false, rfl, by omega, by go_num, hb2, Lib.hid (below_dq hB.out _)⟩
                    case measure => simp [intOf]; omega
              · obtain rfl : j = N4 := by omega
                have hb2 := hbm.out
                rw [List.take_of_length_le (l := L4) (by rw [HN4.out]; exact Nat.le_refl _)] at hb2
                have hbm := Lib.hid hb2
                clear hb2
                have hbk : Hid (b = M1 L3 L4 (L2.take (k + 1))) := Lib.hid (by rw [HMK.out, hbm.out]; simp [Bool.or_assoc])
                clear hbm
                go_wp2
                go_roundw
                case rel => exact ⟨k + 1, b, rfl, by omega, by go_num, hbk, hB⟩
                case measure => simp [intOf]; omega
      · obtain rfl : k = N2 := by omega
        have hb2 := hbm.out
        rw [List.take_of_length_le (l := L2) (by rw [HN2.out]; exact Nat.le_refl _)] at hb2
        have hbm := Lib.hid hb2
        clear hb2
        go_wp2_with fail
        obtain ⟨wq, hwq⟩ : ∃ wq : World, wq = wr := ⟨_, rfl⟩
        subst hwq
        go_loopw [10, 14] (fun m i wr => ∃ (k : Nat) (b : Bool), m = .bool b ∧ k ≤ N1 ∧ i = .int .i64 k ∧ Hid (b = (M1 L3 L4 L2 || M2 L4 (L1.take k))) ∧ Hid (Below X.heap.size X wr)) (fun _ i _ => N1 - (intOf i).toNat)
        case atStart => exact ⟨0, _, rfl, Nat.zero_le _, rfl, Lib.hid (by simp [M2, hbm.out]), hB⟩
        case round =>
          clear hB hbm
          obtain ⟨k, b, rfl, hk, rfl, hbm, hB⟩ := hrel
          by_cases hlt : k < N1
          · have hlt' : (k : Int) < (N1 : Int) := by omega
            have hkb : (k : Int) ≤ 10 := by omega
            have hkl : k < L1.length := by rw [HN1.out]; exact hlt
            obtain ⟨⟨y1, y2⟩, hX⟩ : ∃ X, L1.getD k (ByteArray.empty, 0) = X := ⟨_, rfl⟩
            have HX := Lib.hid hX
            have HMK := Lib.hid (M2_take L4 L1 k hkl _ hX)
            clear hX hkl
            go_wp2_with fail
            obtain ⟨wo, hwo⟩ : ∃ wo : World, wo = wr := ⟨_, rfl⟩
            subst hwo
            go_loopw [10, 15] (fun m i wr => ∃ (j : Nat) (b : Bool), m = .bool b ∧ j ≤ N4 ∧ i = .int .i64 j ∧ Hid (b = ((M1 L3 L4 L2 || M2 L4 (L1.take k)) || anyC (y1, y2) (L4.take j))) ∧ Hid (Below X.heap.size X wr)) (fun _ i _ => N4 - (intOf i).toNat)
            case atStart => exact ⟨0, _, rfl, Nat.zero_le _, rfl, Lib.hid (by simp [anyC, hbm.out]), hB⟩
            case round =>
              clear hB hbm
              obtain ⟨j, b, rfl, hj, rfl, hbm, hB⟩ := hrel
              by_cases hltj : j < N4
              · have hltj' : (j : Int) < (N4 : Int) := by omega
                have hjb : (j : Int) ≤ 10 := by omega
                obtain ⟨e1, g3, off3, hdb, hg3, u1, u2, hjm⟩ := clCell (RX4.out.below hB.out) j hltj
                obtain ⟨⟨z1, z2⟩, hZ⟩ : ∃ X, L4.getD j (ByteArray.empty, 0) = X := ⟨_, rfl⟩
                rw [hZ] at u1 u2
                obtain ⟨e2, g4, off4, hda, hg4, t1', t2', hjk⟩ := clCell (RX1.out.below hB.out) k hlt
                rw [HX.out] at t1' t2'
                have HTK := Lib.hid (anyC_take (y1, y2) L4 j hjm _ hZ)
                obtain ⟨he, hgd⟩ := eqC_run y1 y2 z1 z2
                subst hda
                subst hdb
                clear hZ hjm hjk e1 e2
                cases b with
                | true =>
                  have hb2 : Hid (true = ((M1 L3 L4 L2 || M2 L4 (L1.take k)) || anyC (y1, y2) (L4.take (j + 1)))) := Lib.hid (by rw [HTK.out, ← Bool.or_assoc, ← hbm.out]; rfl)
                  clear he hgd
                  go_wp2_with fail
                  go_quiet (fail)
                  go_wp2
                  go_roundw
                  case rel => exact ⟨j + 1, true, rfl, by omega, by go_num, hb2, Lib.hid (below_dq hB.out _)⟩
                  case measure => simp [intOf]; omega
                | false =>
                  cases hq : decide (((y1, y2) : Cl) = (z1, z2)) with
                  | true =>
                    rw [hq] at he
                    have hb2 : Hid (true = ((M1 L3 L4 L2 || M2 L4 (L1.take k)) || anyC (y1, y2) (L4.take (j + 1)))) := Lib.hid (by rw [HTK.out, hq]; simp)
                    clear hq
                    go_wp2_with fail
                    go_quiet (fail)
                    go_wp2
                    go_roundw
                    case rel => exact ⟨j + 1, true, rfl, by omega, by go_num, hb2, Lib.hid (below_dq hB.out _)⟩
                    case measure => simp [intOf]; omega
                  | false =>
                    rw [hq] at he
                    have hb2 : Hid (false = ((M1 L3 L4 L2 || M2 L4 (L1.take k)) || anyC (y1, y2) (L4.take (j + 1)))) := Lib.hid (by rw [HTK.out, hq, ← Bool.or_assoc, ← hbm.out]; rfl)
                    clear hq
                    go_wp2_with fail
                    go_quiet (fail)
                    go_wp2
                    go_roundw
                    case rel => exact ⟨j + 1, false, rfl, by omega, by go_num, hb2, Lib.hid (below_dq hB.out _)⟩
                    case measure => simp [intOf]; omega
              · obtain rfl : j = N4 := by omega
                have hb2 := hbm.out
                rw [List.take_of_length_le (l := L4) (by rw [HN4.out]; exact Nat.le_refl _)] at hb2
                have hbm := Lib.hid hb2
                clear hb2
                have hbk : Hid (b = (M1 L3 L4 L2 || M2 L4 (L1.take (k + 1)))) := Lib.hid (by rw [HMK.out, hbm.out]; simp [Bool.or_assoc])
                clear hbm
                go_wp2
                go_roundw
                case rel => exact ⟨k + 1, b, rfl, by omega, by go_num, hbk, hB⟩
                case measure => simp [intOf]; omega
          · obtain rfl : k = N1 := by omega
            have hb2 := hbm.out
            rw [List.take_of_length_le (l := L1) (by rw [HN1.out]; exact Nat.le_refl _)] at hb2
            have hbm := Lib.hid hb2
            clear hb2
            obtain ⟨d00, d01, d02, d03, d04, d05, d06, d07, d10, d11, d12, d13, d14, d15, d16, d17⟩ := HD0.out wr hB.out
            have hbm2 : b = mtr o1 p1 o2 p2 := by rw [hbm.out, HFAR.out]
            have hcp := tpaths_any c1 s1 o1 p1 x1 n1 a1 b1 c2 s2 o2 p2 x2 n2 a2 b2 wr q1.out q2.out (HMX.out.below hB.out)
            rw [← hbm2] at hcp
            have HCP := Lib.hid hcp
            have hbb : (b == b) = true := by cases b <;> rfl
            clear hbm2 hcp hbm
            go_wp2_with fail
            refine HCP.out.mono ?_
            rintro e w9 ⟨rfl, hb⟩
            have B9 := Lib.hid (hB.out.trans (hb.mono hB.out.size))
            clear hb
            go_wp2
            go_ret
            exact ⟨by first | rfl | (rw [hbb]) | simp, BXX.out.trans (B9.out.mono BXX.out.size)⟩
end Go.Proofs.Ytphddigohmdbnaa
