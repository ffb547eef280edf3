/-
  The walk of TouchBoth, way by way.
-/
import Derived.Test.YtphddigohmdbnaaTchB
namespace Go.Proofs.Ytphddigohmdbnaa
open Go.RowKit
set_option linter.unusedSimpArgs false
set_option linter.unusedVariables false

set_option maxRecDepth 100000 in
set_option maxHeartbeats 8000000 in
theorem tb_t54 (c1 s1 o1 : Int) (p1 x1 : ByteArray) (n1 a1 b1 : Int) (c2 s2 o2 : Int) (p2 x2 : ByteArray) (n2 a2 b2 : Int) (w : World) (hm : ML w) (q1 : p1.size ≤ 1000) (q2 : p2.size ≤ 1000) (hO : ovr p1 x1 p2 x2 = false) (R D : Bool) (y1 : (o1 == 4) = false) (y2 : (o1 == 5) = true) (y3 : (o2 == 4) = true) (y4 : (o2 == 5) = false) (hR : bth c1 o1 p1 c2 o2 p2 = R) (hD : mtr o1 p1 o2 p2 = D) (hE : (c1 == c2) = R) : Calls Try.prog 5 #[.agg #[.int .i64 c1, .int .i64 s1, .int .i64 o1, .string p1, .string x1, .int .i64 n1, .int .i64 a1, .int .i64 b1], .agg #[.int .i64 c2, .int .i64 s2, .int .i64 o2, .string p2, .string x2, .int .i64 n2, .int .i64 a2, .int .i64 b2]] w fun e w' => e = .returned (.bool true) ∧ Below w.heap.size w w' := by
  have HM0 : Hid (ML ((w.alloc (.cells #[.int .i64 c1, .int .i64 s1, .int .i64 o1, .string p1, .string x1, .int .i64 n1, .int .i64 a1, .int .i64 b1] 24)).alloc (.cells #[.int .i64 c2, .int .i64 s2, .int .i64 o2, .string p2, .string x2, .int .i64 n2, .int .i64 a2, .int .i64 b2] 24))) := Lib.hid (hm.below (two_below _ _ _))
  have HB0 := Lib.hid (two_below w (.cells #[.int .i64 c1, .int .i64 s1, .int .i64 o1, .string p1, .string x1, .int .i64 n1, .int .i64 a1, .int .i64 b1] 24) (.cells #[.int .i64 c2, .int .i64 s2, .int .i64 o2, .string p2, .string x2, .int .i64 n2, .int .i64 a2, .int .i64 b2] 24))
  have HS : Hid (((w.alloc (.cells #[.int .i64 c1, .int .i64 s1, .int .i64 o1, .string p1, .string x1, .int .i64 n1, .int .i64 a1, .int .i64 b1] 24)).alloc (.cells #[.int .i64 c2, .int .i64 s2, .int .i64 o2, .string p2, .string x2, .int .i64 n2, .int .i64 a2, .int .i64 b2] 24)).heap.size = w.heap.size + 2) := Lib.hid (by simp)
  clear hm
  go_enter Try.func5, Try.ntmps5
  go_wp2_with fail
  refine (works_any _ HM0.out).mono ?_
  rintro e w1 ⟨rfl, hb⟩
  have HB1 := Lib.hid (HB0.out.trans (hb.mono (by simp; omega)))
  have HM1 := Lib.hid (HM0.out.below hb)
  obtain ⟨hcb, hfb⟩ := bcell hb
  have hl0 : w.heap.size < w1.heap.size := Nat.lt_of_lt_of_le (by simp; omega) hb.size
  have hl1 : w.heap.size + 1 < w1.heap.size := Nat.lt_of_lt_of_le (by simp) hb.size
  have d00 : w1.cell? ⟨w.heap.size, 0, none⟩ = some (.int .i64 c1) := (hcb _ _ (by simp <;> omega)).trans (by simp [go_sem])
  have d01 : w1.cell? ⟨w.heap.size, 1, none⟩ = some (.int .i64 s1) := (hcb _ _ (by simp <;> omega)).trans (by simp [go_sem])
  have d02 : w1.cell? ⟨w.heap.size, 2, none⟩ = some (.int .i64 o1) := (hcb _ _ (by simp <;> omega)).trans (by simp [go_sem])
  have d03 : w1.cell? ⟨w.heap.size, 3, none⟩ = some (.string p1) := (hcb _ _ (by simp <;> omega)).trans (by simp [go_sem])
  have d04 : w1.cell? ⟨w.heap.size, 4, none⟩ = some (.string x1) := (hcb _ _ (by simp <;> omega)).trans (by simp [go_sem])
  have d05 : w1.cell? ⟨w.heap.size, 5, none⟩ = some (.int .i64 n1) := (hcb _ _ (by simp <;> omega)).trans (by simp [go_sem])
  have d06 : w1.cell? ⟨w.heap.size, 6, none⟩ = some (.int .i64 a1) := (hcb _ _ (by simp <;> omega)).trans (by simp [go_sem])
  have d07 : w1.cell? ⟨w.heap.size, 7, none⟩ = some (.int .i64 b1) := (hcb _ _ (by simp <;> omega)).trans (by simp [go_sem])
  have d10 : w1.cell? ⟨w.heap.size + 1, 0, none⟩ = some (.int .i64 c2) := (hcb _ _ (by simp <;> omega)).trans (by simp [go_sem])
  have d11 : w1.cell? ⟨w.heap.size + 1, 1, none⟩ = some (.int .i64 s2) := (hcb _ _ (by simp <;> omega)).trans (by simp [go_sem])
  have d12 : w1.cell? ⟨w.heap.size + 1, 2, none⟩ = some (.int .i64 o2) := (hcb _ _ (by simp <;> omega)).trans (by simp [go_sem])
  have d13 : w1.cell? ⟨w.heap.size + 1, 3, none⟩ = some (.string p2) := (hcb _ _ (by simp <;> omega)).trans (by simp [go_sem])
  have d14 : w1.cell? ⟨w.heap.size + 1, 4, none⟩ = some (.string x2) := (hcb _ _ (by simp <;> omega)).trans (by simp [go_sem])
  have d15 : w1.cell? ⟨w.heap.size + 1, 5, none⟩ = some (.int .i64 n2) := (hcb _ _ (by simp <;> omega)).trans (by simp [go_sem])
  have d16 : w1.cell? ⟨w.heap.size + 1, 6, none⟩ = some (.int .i64 a2) := (hcb _ _ (by simp <;> omega)).trans (by simp [go_sem])
  have d17 : w1.cell? ⟨w.heap.size + 1, 7, none⟩ = some (.int .i64 b2) := (hcb _ _ (by simp <;> omega)).trans (by simp [go_sem])
  clear hb hcb hfb
  go_wp2_with fail
  refine (over2_any _ p1 x1 p2 x2 _ (by simp [go_sem]) (by simp [go_sem]) (by simp [go_sem]) (by simp [go_sem])).mono ?_
  rw [hO]
  rintro e w2 ⟨rfl, hb⟩
  subst hb
  go_wp2_with fail
  have HBR : Hid (Below w.heap.size w ((w1.alloc (Obj.cells #[(.int .i64 c1), (.int .i64 s1), (.int .i64 o1), (.string p1), (.string x1), (.int .i64 n1), (.int .i64 a1), (.int .i64 b1), (.int .i64 c2), (.int .i64 s2), (.int .i64 o2), (.string p2), (.string x2), (.int .i64 n2), (.int .i64 a2), (.int .i64 b2)] 24)).alloc (Obj.cells #[(.int .i64 c1), (.int .i64 s1), (.int .i64 0), (.string p1), (.string x1), (.int .i64 n1), (.int .i64 a1), (.int .i64 b1)] 24))) := Lib.hid ((HB1.out.alloc (Nat.le_of_lt hl0) _).alloc (by simp; omega) _)
  have HMR : Hid (ML ((w1.alloc (Obj.cells #[(.int .i64 c1), (.int .i64 s1), (.int .i64 o1), (.string p1), (.string x1), (.int .i64 n1), (.int .i64 a1), (.int .i64 b1), (.int .i64 c2), (.int .i64 s2), (.int .i64 o2), (.string p2), (.string x2), (.int .i64 n2), (.int .i64 a2), (.int .i64 b2)] 24)).alloc (Obj.cells #[(.int .i64 c1), (.int .i64 s1), (.int .i64 0), (.string p1), (.string x1), (.int .i64 n1), (.int .i64 a1), (.int .i64 b1)] 24))) := Lib.hid (HM1.out.below (two_below _ _ _))
  have hz : ((w1.alloc (Obj.cells #[(.int .i64 c1), (.int .i64 s1), (.int .i64 o1), (.string p1), (.string x1), (.int .i64 n1), (.int .i64 a1), (.int .i64 b1), (.int .i64 c2), (.int .i64 s2), (.int .i64 o2), (.string p2), (.string x2), (.int .i64 n2), (.int .i64 a2), (.int .i64 b2)] 24)).alloc (Obj.cells #[(.int .i64 c1), (.int .i64 s1), (.int .i64 0), (.string p1), (.string x1), (.int .i64 n1), (.int .i64 a1), (.int .i64 b1)] 24)).heap.size = w1.heap.size + 2 := by simp
  have g00 : ((w1.alloc (Obj.cells #[(.int .i64 c1), (.int .i64 s1), (.int .i64 o1), (.string p1), (.string x1), (.int .i64 n1), (.int .i64 a1), (.int .i64 b1), (.int .i64 c2), (.int .i64 s2), (.int .i64 o2), (.string p2), (.string x2), (.int .i64 n2), (.int .i64 a2), (.int .i64 b2)] 24)).alloc (Obj.cells #[(.int .i64 c1), (.int .i64 s1), (.int .i64 0), (.string p1), (.string x1), (.int .i64 n1), (.int .i64 a1), (.int .i64 b1)] 24)).cell? ⟨w.heap.size, 0, none⟩ = some (.int .i64 c1) := by simp [go_sem, *]
  have g01 : ((w1.alloc (Obj.cells #[(.int .i64 c1), (.int .i64 s1), (.int .i64 o1), (.string p1), (.string x1), (.int .i64 n1), (.int .i64 a1), (.int .i64 b1), (.int .i64 c2), (.int .i64 s2), (.int .i64 o2), (.string p2), (.string x2), (.int .i64 n2), (.int .i64 a2), (.int .i64 b2)] 24)).alloc (Obj.cells #[(.int .i64 c1), (.int .i64 s1), (.int .i64 0), (.string p1), (.string x1), (.int .i64 n1), (.int .i64 a1), (.int .i64 b1)] 24)).cell? ⟨w.heap.size, 1, none⟩ = some (.int .i64 s1) := by simp [go_sem, *]
  have g02 : ((w1.alloc (Obj.cells #[(.int .i64 c1), (.int .i64 s1), (.int .i64 o1), (.string p1), (.string x1), (.int .i64 n1), (.int .i64 a1), (.int .i64 b1), (.int .i64 c2), (.int .i64 s2), (.int .i64 o2), (.string p2), (.string x2), (.int .i64 n2), (.int .i64 a2), (.int .i64 b2)] 24)).alloc (Obj.cells #[(.int .i64 c1), (.int .i64 s1), (.int .i64 0), (.string p1), (.string x1), (.int .i64 n1), (.int .i64 a1), (.int .i64 b1)] 24)).cell? ⟨w.heap.size, 2, none⟩ = some (.int .i64 o1) := by simp [go_sem, *]
  have g03 : ((w1.alloc (Obj.cells #[(.int .i64 c1), (.int .i64 s1), (.int .i64 o1), (.string p1), (.string x1), (.int .i64 n1), (.int .i64 a1), (.int .i64 b1), (.int .i64 c2), (.int .i64 s2), (.int .i64 o2), (.string p2), (.string x2), (.int .i64 n2), (.int .i64 a2), (.int .i64 b2)] 24)).alloc (Obj.cells #[(.int .i64 c1), (.int .i64 s1), (.int .i64 0), (.string p1), (.string x1), (.int .i64 n1), (.int .i64 a1), (.int .i64 b1)] 24)).cell? ⟨w.heap.size, 3, none⟩ = some (.string p1) := by simp [go_sem, *]
  have g04 : ((w1.alloc (Obj.cells #[(.int .i64 c1), (.int .i64 s1), (.int .i64 o1), (.string p1), (.string x1), (.int .i64 n1), (.int .i64 a1), (.int .i64 b1), (.int .i64 c2), (.int .i64 s2), (.int .i64 o2), (.string p2), (.string x2), (.int .i64 n2), (.int .i64 a2), (.int .i64 b2)] 24)).alloc (Obj.cells #[(.int .i64 c1), (.int .i64 s1), (.int .i64 0), (.string p1), (.string x1), (.int .i64 n1), (.int .i64 a1), (.int .i64 b1)] 24)).cell? ⟨w.heap.size, 4, none⟩ = some (.string x1) := by simp [go_sem, *]
  have g05 : ((w1.alloc (Obj.cells #[(.int .i64 c1), (.int .i64 s1), (.int .i64 o1), (.string p1), (.string x1), (.int .i64 n1), (.int .i64 a1), (.int .i64 b1), (.int .i64 c2), (.int .i64 s2), (.int .i64 o2), (.string p2), (.string x2), (.int .i64 n2), (.int .i64 a2), (.int .i64 b2)] 24)).alloc (Obj.cells #[(.int .i64 c1), (.int .i64 s1), (.int .i64 0), (.string p1), (.string x1), (.int .i64 n1), (.int .i64 a1), (.int .i64 b1)] 24)).cell? ⟨w.heap.size, 5, none⟩ = some (.int .i64 n1) := by simp [go_sem, *]
  have g06 : ((w1.alloc (Obj.cells #[(.int .i64 c1), (.int .i64 s1), (.int .i64 o1), (.string p1), (.string x1), (.int .i64 n1), (.int .i64 a1), (.int .i64 b1), (.int .i64 c2), (.int .i64 s2), (.int .i64 o2), (.string p2), (.string x2), (.int .i64 n2), (.int .i64 a2), (.int .i64 b2)] 24)).alloc (Obj.cells #[(.int .i64 c1), (.int .i64 s1), (.int .i64 0), (.string p1), (.string x1), (.int .i64 n1), (.int .i64 a1), (.int .i64 b1)] 24)).cell? ⟨w.heap.size, 6, none⟩ = some (.int .i64 a1) := by simp [go_sem, *]
  have g07 : ((w1.alloc (Obj.cells #[(.int .i64 c1), (.int .i64 s1), (.int .i64 o1), (.string p1), (.string x1), (.int .i64 n1), (.int .i64 a1), (.int .i64 b1), (.int .i64 c2), (.int .i64 s2), (.int .i64 o2), (.string p2), (.string x2), (.int .i64 n2), (.int .i64 a2), (.int .i64 b2)] 24)).alloc (Obj.cells #[(.int .i64 c1), (.int .i64 s1), (.int .i64 0), (.string p1), (.string x1), (.int .i64 n1), (.int .i64 a1), (.int .i64 b1)] 24)).cell? ⟨w.heap.size, 7, none⟩ = some (.int .i64 b1) := by simp [go_sem, *]
  have g10 : ((w1.alloc (Obj.cells #[(.int .i64 c1), (.int .i64 s1), (.int .i64 o1), (.string p1), (.string x1), (.int .i64 n1), (.int .i64 a1), (.int .i64 b1), (.int .i64 c2), (.int .i64 s2), (.int .i64 o2), (.string p2), (.string x2), (.int .i64 n2), (.int .i64 a2), (.int .i64 b2)] 24)).alloc (Obj.cells #[(.int .i64 c1), (.int .i64 s1), (.int .i64 0), (.string p1), (.string x1), (.int .i64 n1), (.int .i64 a1), (.int .i64 b1)] 24)).cell? ⟨w.heap.size + 1, 0, none⟩ = some (.int .i64 c2) := by simp [go_sem, *]
  have g11 : ((w1.alloc (Obj.cells #[(.int .i64 c1), (.int .i64 s1), (.int .i64 o1), (.string p1), (.string x1), (.int .i64 n1), (.int .i64 a1), (.int .i64 b1), (.int .i64 c2), (.int .i64 s2), (.int .i64 o2), (.string p2), (.string x2), (.int .i64 n2), (.int .i64 a2), (.int .i64 b2)] 24)).alloc (Obj.cells #[(.int .i64 c1), (.int .i64 s1), (.int .i64 0), (.string p1), (.string x1), (.int .i64 n1), (.int .i64 a1), (.int .i64 b1)] 24)).cell? ⟨w.heap.size + 1, 1, none⟩ = some (.int .i64 s2) := by simp [go_sem, *]
  have g12 : ((w1.alloc (Obj.cells #[(.int .i64 c1), (.int .i64 s1), (.int .i64 o1), (.string p1), (.string x1), (.int .i64 n1), (.int .i64 a1), (.int .i64 b1), (.int .i64 c2), (.int .i64 s2), (.int .i64 o2), (.string p2), (.string x2), (.int .i64 n2), (.int .i64 a2), (.int .i64 b2)] 24)).alloc (Obj.cells #[(.int .i64 c1), (.int .i64 s1), (.int .i64 0), (.string p1), (.string x1), (.int .i64 n1), (.int .i64 a1), (.int .i64 b1)] 24)).cell? ⟨w.heap.size + 1, 2, none⟩ = some (.int .i64 o2) := by simp [go_sem, *]
  have g13 : ((w1.alloc (Obj.cells #[(.int .i64 c1), (.int .i64 s1), (.int .i64 o1), (.string p1), (.string x1), (.int .i64 n1), (.int .i64 a1), (.int .i64 b1), (.int .i64 c2), (.int .i64 s2), (.int .i64 o2), (.string p2), (.string x2), (.int .i64 n2), (.int .i64 a2), (.int .i64 b2)] 24)).alloc (Obj.cells #[(.int .i64 c1), (.int .i64 s1), (.int .i64 0), (.string p1), (.string x1), (.int .i64 n1), (.int .i64 a1), (.int .i64 b1)] 24)).cell? ⟨w.heap.size + 1, 3, none⟩ = some (.string p2) := by simp [go_sem, *]
  have g14 : ((w1.alloc (Obj.cells #[(.int .i64 c1), (.int .i64 s1), (.int .i64 o1), (.string p1), (.string x1), (.int .i64 n1), (.int .i64 a1), (.int .i64 b1), (.int .i64 c2), (.int .i64 s2), (.int .i64 o2), (.string p2), (.string x2), (.int .i64 n2), (.int .i64 a2), (.int .i64 b2)] 24)).alloc (Obj.cells #[(.int .i64 c1), (.int .i64 s1), (.int .i64 0), (.string p1), (.string x1), (.int .i64 n1), (.int .i64 a1), (.int .i64 b1)] 24)).cell? ⟨w.heap.size + 1, 4, none⟩ = some (.string x2) := by simp [go_sem, *]
  have g15 : ((w1.alloc (Obj.cells #[(.int .i64 c1), (.int .i64 s1), (.int .i64 o1), (.string p1), (.string x1), (.int .i64 n1), (.int .i64 a1), (.int .i64 b1), (.int .i64 c2), (.int .i64 s2), (.int .i64 o2), (.string p2), (.string x2), (.int .i64 n2), (.int .i64 a2), (.int .i64 b2)] 24)).alloc (Obj.cells #[(.int .i64 c1), (.int .i64 s1), (.int .i64 0), (.string p1), (.string x1), (.int .i64 n1), (.int .i64 a1), (.int .i64 b1)] 24)).cell? ⟨w.heap.size + 1, 5, none⟩ = some (.int .i64 n2) := by simp [go_sem, *]
  have g16 : ((w1.alloc (Obj.cells #[(.int .i64 c1), (.int .i64 s1), (.int .i64 o1), (.string p1), (.string x1), (.int .i64 n1), (.int .i64 a1), (.int .i64 b1), (.int .i64 c2), (.int .i64 s2), (.int .i64 o2), (.string p2), (.string x2), (.int .i64 n2), (.int .i64 a2), (.int .i64 b2)] 24)).alloc (Obj.cells #[(.int .i64 c1), (.int .i64 s1), (.int .i64 0), (.string p1), (.string x1), (.int .i64 n1), (.int .i64 a1), (.int .i64 b1)] 24)).cell? ⟨w.heap.size + 1, 6, none⟩ = some (.int .i64 a2) := by simp [go_sem, *]
  have g17 : ((w1.alloc (Obj.cells #[(.int .i64 c1), (.int .i64 s1), (.int .i64 o1), (.string p1), (.string x1), (.int .i64 n1), (.int .i64 a1), (.int .i64 b1), (.int .i64 c2), (.int .i64 s2), (.int .i64 o2), (.string p2), (.string x2), (.int .i64 n2), (.int .i64 a2), (.int .i64 b2)] 24)).alloc (Obj.cells #[(.int .i64 c1), (.int .i64 s1), (.int .i64 0), (.string p1), (.string x1), (.int .i64 n1), (.int .i64 a1), (.int .i64 b1)] 24)).cell? ⟨w.heap.size + 1, 7, none⟩ = some (.int .i64 b2) := by simp [go_sem, *]
  have g20 : ((w1.alloc (Obj.cells #[(.int .i64 c1), (.int .i64 s1), (.int .i64 o1), (.string p1), (.string x1), (.int .i64 n1), (.int .i64 a1), (.int .i64 b1), (.int .i64 c2), (.int .i64 s2), (.int .i64 o2), (.string p2), (.string x2), (.int .i64 n2), (.int .i64 a2), (.int .i64 b2)] 24)).alloc (Obj.cells #[(.int .i64 c1), (.int .i64 s1), (.int .i64 0), (.string p1), (.string x1), (.int .i64 n1), (.int .i64 a1), (.int .i64 b1)] 24)).cell? ⟨w1.heap.size + 1, 0, none⟩ = some (.int .i64 c1) := by simp [go_sem]
  have g21 : ((w1.alloc (Obj.cells #[(.int .i64 c1), (.int .i64 s1), (.int .i64 o1), (.string p1), (.string x1), (.int .i64 n1), (.int .i64 a1), (.int .i64 b1), (.int .i64 c2), (.int .i64 s2), (.int .i64 o2), (.string p2), (.string x2), (.int .i64 n2), (.int .i64 a2), (.int .i64 b2)] 24)).alloc (Obj.cells #[(.int .i64 c1), (.int .i64 s1), (.int .i64 0), (.string p1), (.string x1), (.int .i64 n1), (.int .i64 a1), (.int .i64 b1)] 24)).cell? ⟨w1.heap.size + 1, 1, none⟩ = some (.int .i64 s1) := by simp [go_sem]
  have g22 : ((w1.alloc (Obj.cells #[(.int .i64 c1), (.int .i64 s1), (.int .i64 o1), (.string p1), (.string x1), (.int .i64 n1), (.int .i64 a1), (.int .i64 b1), (.int .i64 c2), (.int .i64 s2), (.int .i64 o2), (.string p2), (.string x2), (.int .i64 n2), (.int .i64 a2), (.int .i64 b2)] 24)).alloc (Obj.cells #[(.int .i64 c1), (.int .i64 s1), (.int .i64 0), (.string p1), (.string x1), (.int .i64 n1), (.int .i64 a1), (.int .i64 b1)] 24)).cell? ⟨w1.heap.size + 1, 2, none⟩ = some (.int .i64 0) := by simp [go_sem]
  have g23 : ((w1.alloc (Obj.cells #[(.int .i64 c1), (.int .i64 s1), (.int .i64 o1), (.string p1), (.string x1), (.int .i64 n1), (.int .i64 a1), (.int .i64 b1), (.int .i64 c2), (.int .i64 s2), (.int .i64 o2), (.string p2), (.string x2), (.int .i64 n2), (.int .i64 a2), (.int .i64 b2)] 24)).alloc (Obj.cells #[(.int .i64 c1), (.int .i64 s1), (.int .i64 0), (.string p1), (.string x1), (.int .i64 n1), (.int .i64 a1), (.int .i64 b1)] 24)).cell? ⟨w1.heap.size + 1, 3, none⟩ = some (.string p1) := by simp [go_sem]
  have g24 : ((w1.alloc (Obj.cells #[(.int .i64 c1), (.int .i64 s1), (.int .i64 o1), (.string p1), (.string x1), (.int .i64 n1), (.int .i64 a1), (.int .i64 b1), (.int .i64 c2), (.int .i64 s2), (.int .i64 o2), (.string p2), (.string x2), (.int .i64 n2), (.int .i64 a2), (.int .i64 b2)] 24)).alloc (Obj.cells #[(.int .i64 c1), (.int .i64 s1), (.int .i64 0), (.string p1), (.string x1), (.int .i64 n1), (.int .i64 a1), (.int .i64 b1)] 24)).cell? ⟨w1.heap.size + 1, 4, none⟩ = some (.string x1) := by simp [go_sem]
  have g25 : ((w1.alloc (Obj.cells #[(.int .i64 c1), (.int .i64 s1), (.int .i64 o1), (.string p1), (.string x1), (.int .i64 n1), (.int .i64 a1), (.int .i64 b1), (.int .i64 c2), (.int .i64 s2), (.int .i64 o2), (.string p2), (.string x2), (.int .i64 n2), (.int .i64 a2), (.int .i64 b2)] 24)).alloc (Obj.cells #[(.int .i64 c1), (.int .i64 s1), (.int .i64 0), (.string p1), (.string x1), (.int .i64 n1), (.int .i64 a1), (.int .i64 b1)] 24)).cell? ⟨w1.heap.size + 1, 5, none⟩ = some (.int .i64 n1) := by simp [go_sem]
  have g26 : ((w1.alloc (Obj.cells #[(.int .i64 c1), (.int .i64 s1), (.int .i64 o1), (.string p1), (.string x1), (.int .i64 n1), (.int .i64 a1), (.int .i64 b1), (.int .i64 c2), (.int .i64 s2), (.int .i64 o2), (.string p2), (.string x2), (.int .i64 n2), (.int .i64 a2), (.int .i64 b2)] 24)).alloc (Obj.cells #[(.int .i64 c1), (.int .i64 s1), (.int .i64 0), (.string p1), (.string x1), (.int .i64 n1), (.int .i64 a1), (.int .i64 b1)] 24)).cell? ⟨w1.heap.size + 1, 6, none⟩ = some (.int .i64 a1) := by simp [go_sem]
  have g27 : ((w1.alloc (Obj.cells #[(.int .i64 c1), (.int .i64 s1), (.int .i64 o1), (.string p1), (.string x1), (.int .i64 n1), (.int .i64 a1), (.int .i64 b1), (.int .i64 c2), (.int .i64 s2), (.int .i64 o2), (.string p2), (.string x2), (.int .i64 n2), (.int .i64 a2), (.int .i64 b2)] 24)).alloc (Obj.cells #[(.int .i64 c1), (.int .i64 s1), (.int .i64 0), (.string p1), (.string x1), (.int .i64 n1), (.int .i64 a1), (.int .i64 b1)] 24)).cell? ⟨w1.heap.size + 1, 7, none⟩ = some (.int .i64 b1) := by simp [go_sem]
  clear d00 d01 d02 d03 d04 d05 d06 d07 d10 d11 d12 d13 d14 d15 d16 d17
  generalize ((w1.alloc (Obj.cells #[(.int .i64 c1), (.int .i64 s1), (.int .i64 o1), (.string p1), (.string x1), (.int .i64 n1), (.int .i64 a1), (.int .i64 b1), (.int .i64 c2), (.int .i64 s2), (.int .i64 o2), (.string p2), (.string x2), (.int .i64 n2), (.int .i64 a2), (.int .i64 b2)] 24)).alloc (Obj.cells #[(.int .i64 c1), (.int .i64 s1), (.int .i64 0), (.string p1), (.string x1), (.int .i64 n1), (.int .i64 a1), (.int .i64 b1)] 24)) = X at *
  have hX0 : w.heap.size < X.heap.size := by omega
  have hX1 : w.heap.size + 1 < X.heap.size := by omega
  have hX2 : w1.heap.size + 1 < X.heap.size := by omega
  have HC : Hid (∀ w' : World, Below X.heap.size X w' → (w'.cell? ⟨w.heap.size, 0, none⟩ = some (.int .i64 c1) ∧ w'.cell? ⟨w.heap.size, 1, none⟩ = some (.int .i64 s1) ∧ w'.cell? ⟨w.heap.size, 2, none⟩ = some (.int .i64 o1) ∧ w'.cell? ⟨w.heap.size, 3, none⟩ = some (.string p1) ∧ w'.cell? ⟨w.heap.size, 4, none⟩ = some (.string x1) ∧ w'.cell? ⟨w.heap.size, 5, none⟩ = some (.int .i64 n1) ∧ w'.cell? ⟨w.heap.size, 6, none⟩ = some (.int .i64 a1) ∧ w'.cell? ⟨w.heap.size, 7, none⟩ = some (.int .i64 b1) ∧ w'.cell? ⟨w.heap.size + 1, 0, none⟩ = some (.int .i64 c2) ∧ w'.cell? ⟨w.heap.size + 1, 1, none⟩ = some (.int .i64 s2) ∧ w'.cell? ⟨w.heap.size + 1, 2, none⟩ = some (.int .i64 o2) ∧ w'.cell? ⟨w.heap.size + 1, 3, none⟩ = some (.string p2) ∧ w'.cell? ⟨w.heap.size + 1, 4, none⟩ = some (.string x2) ∧ w'.cell? ⟨w.heap.size + 1, 5, none⟩ = some (.int .i64 n2) ∧ w'.cell? ⟨w.heap.size + 1, 6, none⟩ = some (.int .i64 a2) ∧ w'.cell? ⟨w.heap.size + 1, 7, none⟩ = some (.int .i64 b2) ∧ w'.cell? ⟨w1.heap.size + 1, 0, none⟩ = some (.int .i64 c1) ∧ w'.cell? ⟨w1.heap.size + 1, 1, none⟩ = some (.int .i64 s1) ∧ w'.cell? ⟨w1.heap.size + 1, 2, none⟩ = some (.int .i64 0) ∧ w'.cell? ⟨w1.heap.size + 1, 3, none⟩ = some (.string p1) ∧ w'.cell? ⟨w1.heap.size + 1, 4, none⟩ = some (.string x1) ∧ w'.cell? ⟨w1.heap.size + 1, 5, none⟩ = some (.int .i64 n1) ∧ w'.cell? ⟨w1.heap.size + 1, 6, none⟩ = some (.int .i64 a1) ∧ w'.cell? ⟨w1.heap.size + 1, 7, none⟩ = some (.int .i64 b1) ∧ Below X.heap.size X w')) := by
    refine Lib.hid (fun w' hb => ?_)
    obtain ⟨hc, hf⟩ := bcell hb
    exact ⟨(hc _ _ hX0).trans g00, (hc _ _ hX0).trans g01, (hc _ _ hX0).trans g02, (hc _ _ hX0).trans g03, (hc _ _ hX0).trans g04, (hc _ _ hX0).trans g05, (hc _ _ hX0).trans g06, (hc _ _ hX0).trans g07, (hc _ _ hX1).trans g10, (hc _ _ hX1).trans g11, (hc _ _ hX1).trans g12, (hc _ _ hX1).trans g13, (hc _ _ hX1).trans g14, (hc _ _ hX1).trans g15, (hc _ _ hX1).trans g16, (hc _ _ hX1).trans g17, (hc _ _ hX2).trans g20, (hc _ _ hX2).trans g21, (hc _ _ hX2).trans g22, (hc _ _ hX2).trans g23, (hc _ _ hX2).trans g24, (hc _ _ hX2).trans g25, (hc _ _ hX2).trans g26, (hc _ _ hX2).trans g27, hb⟩
  have hR2 : bth c2 o2 p2 c1 o1 p1 = R := by rw [bth_comm]; exact hR
  have hD2 : mtr o2 p2 o1 p1 = D := by rw [mtr_comm]; exact hD
  have cB1 : Hid (∀ W : World, Below X.heap.size X W → Calls Try.prog 16 #[.agg #[.int .i64 c1, .int .i64 s1, .int .i64 o1, .string p1, .string x1, .int .i64 n1, .int .i64 a1, .int .i64 b1], .agg #[.int .i64 c2, .int .i64 s2, .int .i64 o2, .string p2, .string x2, .int .i64 n2, .int .i64 a2, .int .i64 b2]] W fun e w' => e = .returned (.bool R) ∧ Below W.heap.size W w') := Lib.hid (fun W hb => by have h := both_any c1 s1 o1 p1 x1 n1 a1 b1 c2 s2 o2 p2 x2 n2 a2 b2 W q1 q2 (HMR.out.below hb); rw [hR] at h; exact h)
  have cB2 : Hid (∀ W : World, Below X.heap.size X W → Calls Try.prog 16 #[.agg #[.int .i64 c2, .int .i64 s2, .int .i64 o2, .string p2, .string x2, .int .i64 n2, .int .i64 a2, .int .i64 b2], .agg #[.int .i64 c1, .int .i64 s1, .int .i64 o1, .string p1, .string x1, .int .i64 n1, .int .i64 a1, .int .i64 b1]] W fun e w' => e = .returned (.bool R) ∧ Below W.heap.size W w') := Lib.hid (fun W hb => by have h := both_any c2 s2 o2 p2 x2 n2 a2 b2 c1 s1 o1 p1 x1 n1 a1 b1 W q2 q1 (HMR.out.below hb); rw [hR2] at h; exact h)
  have cP1 : Hid (∀ W : World, Below X.heap.size X W → Calls Try.prog 14 #[.agg #[.int .i64 c1, .int .i64 s1, .int .i64 o1, .string p1, .string x1, .int .i64 n1, .int .i64 a1, .int .i64 b1], .agg #[.int .i64 c2, .int .i64 s2, .int .i64 o2, .string p2, .string x2, .int .i64 n2, .int .i64 a2, .int .i64 b2]] W fun e w' => e = .returned (.bool D) ∧ Below W.heap.size W w') := Lib.hid (fun W hb => by have h := tpaths_any c1 s1 o1 p1 x1 n1 a1 b1 c2 s2 o2 p2 x2 n2 a2 b2 W q1 q2 (HMR.out.below hb); rw [hD] at h; exact h)
  have cP2 : Hid (∀ W : World, Below X.heap.size X W → Calls Try.prog 14 #[.agg #[.int .i64 c2, .int .i64 s2, .int .i64 o2, .string p2, .string x2, .int .i64 n2, .int .i64 a2, .int .i64 b2], .agg #[.int .i64 c1, .int .i64 s1, .int .i64 o1, .string p1, .string x1, .int .i64 n1, .int .i64 a1, .int .i64 b1]] W fun e w' => e = .returned (.bool D) ∧ Below W.heap.size W w') := Lib.hid (fun W hb => by have h := tpaths_any c2 s2 o2 p2 x2 n2 a2 b2 c1 s1 o1 p1 x1 n1 a1 b1 W q2 q1 (HMR.out.below hb); rw [hD2] at h; exact h)
  have cZ1 : Hid (∀ W : World, Below X.heap.size X W → Calls Try.prog 16 #[.agg #[.int .i64 c1, .int .i64 s1, .int .i64 0, .string p1, .string x1, .int .i64 n1, .int .i64 a1, .int .i64 b1], .agg #[.int .i64 c2, .int .i64 s2, .int .i64 o2, .string p2, .string x2, .int .i64 n2, .int .i64 a2, .int .i64 b2]] W fun e w' => e = .returned (.bool false) ∧ Below W.heap.size W w') := Lib.hid (fun W hb => by have h := both_any c1 s1 0 p1 x1 n1 a1 b1 c2 s2 o2 p2 x2 n2 a2 b2 W q1 q2 (HMR.out.below hb); rw [bth_none_l] at h; exact h)
  have cZ2 : Hid (∀ W : World, Below X.heap.size X W → Calls Try.prog 16 #[.agg #[.int .i64 c2, .int .i64 s2, .int .i64 o2, .string p2, .string x2, .int .i64 n2, .int .i64 a2, .int .i64 b2], .agg #[.int .i64 c1, .int .i64 s1, .int .i64 0, .string p1, .string x1, .int .i64 n1, .int .i64 a1, .int .i64 b1]] W fun e w' => e = .returned (.bool false) ∧ Below W.heap.size W w') := Lib.hid (fun W hb => by have h := both_any c2 s2 o2 p2 x2 n2 a2 b2 c1 s1 0 p1 x1 n1 a1 b1 W q2 q1 (HMR.out.below hb); rw [bth_none_r] at h; exact h)
  have eR : (R == R) = true := by cases R <;> rfl
  have eD : (D == D) = true := by cases D <;> rfl
  clear hR hR2 hD hD2 hO q1 q2 HMR HM1 HM0 HB0 HS HB1 hz
  clear g00 g01 g02 g03 g04 g05 g06 g07 g10 g11 g12 g13 g14 g15 g16 g17 g20 g21 g22 g23 g24 g25 g26 g27
  refine wp_region_held_drew (S := (fun w' => w'.cell? ⟨w.heap.size, 0, none⟩ = some (.int .i64 c1) ∧ w'.cell? ⟨w.heap.size, 1, none⟩ = some (.int .i64 s1) ∧ w'.cell? ⟨w.heap.size, 2, none⟩ = some (.int .i64 o1) ∧ w'.cell? ⟨w.heap.size, 3, none⟩ = some (.string p1) ∧ w'.cell? ⟨w.heap.size, 4, none⟩ = some (.string x1) ∧ w'.cell? ⟨w.heap.size, 5, none⟩ = some (.int .i64 n1) ∧ w'.cell? ⟨w.heap.size, 6, none⟩ = some (.int .i64 a1) ∧ w'.cell? ⟨w.heap.size, 7, none⟩ = some (.int .i64 b1) ∧ w'.cell? ⟨w.heap.size + 1, 0, none⟩ = some (.int .i64 c2) ∧ w'.cell? ⟨w.heap.size + 1, 1, none⟩ = some (.int .i64 s2) ∧ w'.cell? ⟨w.heap.size + 1, 2, none⟩ = some (.int .i64 o2) ∧ w'.cell? ⟨w.heap.size + 1, 3, none⟩ = some (.string p2) ∧ w'.cell? ⟨w.heap.size + 1, 4, none⟩ = some (.string x2) ∧ w'.cell? ⟨w.heap.size + 1, 5, none⟩ = some (.int .i64 n2) ∧ w'.cell? ⟨w.heap.size + 1, 6, none⟩ = some (.int .i64 a2) ∧ w'.cell? ⟨w.heap.size + 1, 7, none⟩ = some (.int .i64 b2) ∧ w'.cell? ⟨w1.heap.size + 1, 0, none⟩ = some (.int .i64 c1) ∧ w'.cell? ⟨w1.heap.size + 1, 1, none⟩ = some (.int .i64 s1) ∧ w'.cell? ⟨w1.heap.size + 1, 2, none⟩ = some (.int .i64 0) ∧ w'.cell? ⟨w1.heap.size + 1, 3, none⟩ = some (.string p1) ∧ w'.cell? ⟨w1.heap.size + 1, 4, none⟩ = some (.string x1) ∧ w'.cell? ⟨w1.heap.size + 1, 5, none⟩ = some (.int .i64 n1) ∧ w'.cell? ⟨w1.heap.size + 1, 6, none⟩ = some (.int .i64 a1) ∧ w'.cell? ⟨w1.heap.size + 1, 7, none⟩ = some (.int .i64 b1) ∧ Below X.heap.size X w')) (by kernel_rfl) ?_ (fun hHeld => ?_)
  · ((first
      | exact HC.out _ (Below.refl _ _)
      | exact HC.out _ (Below.refl _ _).drew
      | (go_split_ands; exact HC.out _ (below_self (by assumption) (by assumption)))
      | (go_split_ands; exact HC.out _ (Below.drew (by assumption)))
      | (go_split_ands; exact HC.out _ (by assumption))))
  refine wpAnyH_take (i := 0) (v := ?_) rfl (by kernel_rfl) (by kernel_rfl) (by kernel_rfl) (fun _ _ _ h => h) (Or.inl ⟨by rfl, ?_⟩) (by assumption) ?_
  rotate_left
  · (intro w hSw; (try dsimp only at hSw); go_simp; try rfl)
  try simp only [Act.put, List.setIfInBounds_toArray, List.set_cons_zero, List.set_cons_succ, List.getElem_toArray, List.getElem_cons_zero, List.getElem_cons_succ]
  refine wpAnyH_take (i := 1) (v := ?_) rfl (by kernel_rfl) (by kernel_rfl) (by kernel_rfl) (fun _ _ _ h => h) (Or.inl ⟨by rfl, ?_⟩) (by assumption) ?_
  rotate_left
  · (intro w hSw; (try dsimp only at hSw); go_simp; try rfl)
  try simp only [Act.put, List.setIfInBounds_toArray, List.set_cons_zero, List.set_cons_succ, List.getElem_toArray, List.getElem_cons_zero, List.getElem_cons_succ]
  refine wpAnyH_take (i := 2) (v := ?_) rfl (by kernel_rfl) (by kernel_rfl) (by kernel_rfl) (fun _ _ _ h => h) (Or.inl ⟨by rfl, ?_⟩) (by assumption) ?_
  rotate_left
  · (intro w hSw; (try dsimp only at hSw); go_simp; try rfl)
  try simp only [Act.put, List.setIfInBounds_toArray, List.set_cons_zero, List.set_cons_succ, List.getElem_toArray, List.getElem_cons_zero, List.getElem_cons_succ]
  refine wpAnyH_take (i := 3) (v := ?_) rfl (by kernel_rfl) (by kernel_rfl) (by kernel_rfl) (fun _ _ _ h => h) (Or.inl ⟨by rfl, ?_⟩) (by assumption) ?_
  rotate_left
  · (intro w hSw; (try dsimp only at hSw); go_simp; try rfl)
  try simp only [Act.put, List.setIfInBounds_toArray, List.set_cons_zero, List.set_cons_succ, List.getElem_toArray, List.getElem_cons_zero, List.getElem_cons_succ]
  refine wpAnyH_take (i := 5) (v := ?_) rfl (by kernel_rfl) (by kernel_rfl) (by kernel_rfl) (fun _ _ _ h => h) (Or.inl ⟨by rfl, ?_⟩) (by assumption) ?_
  rotate_left
  · (intro w hSw; (try dsimp only at hSw); go_simp; try rfl)
  try simp only [Act.put, List.setIfInBounds_toArray, List.set_cons_zero, List.set_cons_succ, List.getElem_toArray, List.getElem_cons_zero, List.getElem_cons_succ]
  refine wpAnyH_take (i := 6) (v := ?_) rfl (by kernel_rfl) (by kernel_rfl) (by kernel_rfl) (fun _ _ _ h => h) (Or.inl ⟨by rfl, ?_⟩) (by assumption) ?_
  rotate_left
  · (intro w hSw; (try dsimp only at hSw); go_simp; try rfl)
  try simp only [Act.put, List.setIfInBounds_toArray, List.set_cons_zero, List.set_cons_succ, List.getElem_toArray, List.getElem_cons_zero, List.getElem_cons_succ]
  refine wpAnyH_ready (rs := [4]) (by kernel_rfl) (by simp) ?_
  refine (AllReadyH.cons rfl (fun K hK => ?_) AllReadyH.nil)
  go_simp
  (go_at_call 16; go_split_ands; refine (cB1.out _ (by assumption)).mono ?_; rintro e w5 ⟨rfl, hbw5⟩)
  refine hK.out _ _ ?_ (fun hHeld => ?_)
  · ((first
      | exact HC.out _ (Below.refl _ _)
      | exact HC.out _ (Below.refl _ _).drew
      | (go_split_ands; exact HC.out _ (below_self (by assumption) (by assumption)))
      | (go_split_ands; exact HC.out _ (Below.drew (by assumption)))
      | (go_split_ands; exact HC.out _ (by assumption))))
  clear hK K
  try simp only [Act.put, List.setIfInBounds_toArray, List.set_cons_zero, List.set_cons_succ, List.getElem_toArray, List.getElem_cons_zero, List.getElem_cons_succ]
  refine wpAnyH_ready (rs := [7]) (by kernel_rfl) (by simp) ?_
  refine (AllReadyH.cons rfl (fun K hK => ?_) AllReadyH.nil)
  go_simp
  (go_at_call 16; go_split_ands; refine (cB2.out _ (by assumption)).mono ?_; rintro e w5 ⟨rfl, hbw5⟩)
  refine hK.out _ _ ?_ (fun hHeld => ?_)
  · ((first
      | exact HC.out _ (Below.refl _ _)
      | exact HC.out _ (Below.refl _ _).drew
      | (go_split_ands; exact HC.out _ (below_self (by assumption) (by assumption)))
      | (go_split_ands; exact HC.out _ (Below.drew (by assumption)))
      | (go_split_ands; exact HC.out _ (by assumption))))
  clear hK K
  try simp only [Act.put, List.setIfInBounds_toArray, List.set_cons_zero, List.set_cons_succ, List.getElem_toArray, List.getElem_cons_zero, List.getElem_cons_succ]
  refine wpAnyH_take (i := 8) (v := ?_) rfl (by kernel_rfl) (by kernel_rfl) (by kernel_rfl) (fun _ _ _ h => h) (Or.inl ⟨by rfl, ?_⟩) (by assumption) ?_
  rotate_left
  · (intro w hSw; (try dsimp only at hSw); go_simp; try rfl)
  try simp only [Act.put, List.setIfInBounds_toArray, List.set_cons_zero, List.set_cons_succ, List.getElem_toArray, List.getElem_cons_zero, List.getElem_cons_succ]
  refine wpAnyH_take (i := 9) (v := ?_) rfl (by kernel_rfl) (by kernel_rfl) (by kernel_rfl) (fun _ _ _ h => h) (Or.inl ⟨by rfl, ?_⟩) (by assumption) ?_
  rotate_left
  · (intro w hSw; (try dsimp only at hSw); go_simp; try rfl)
  try simp only [Act.put, List.setIfInBounds_toArray, List.set_cons_zero, List.set_cons_succ, List.getElem_toArray, List.getElem_cons_zero, List.getElem_cons_succ]
  refine wpAnyH_take (i := 10) (v := ?_) rfl (by kernel_rfl) (by kernel_rfl) (by kernel_rfl) (fun _ _ _ h => h) (Or.inl ⟨by rfl, ?_⟩) (by assumption) ?_
  rotate_left
  · (intro w hSw; (try dsimp only at hSw); go_simp; try rfl)
  try simp only [Act.put, List.setIfInBounds_toArray, List.set_cons_zero, List.set_cons_succ, List.getElem_toArray, List.getElem_cons_zero, List.getElem_cons_succ]
  refine wpAnyH_take (i := 11) (v := ?_) rfl (by kernel_rfl) (by kernel_rfl) (by kernel_rfl) (fun _ _ _ h => h) (Or.inl ⟨by rfl, ?_⟩) (by assumption) ?_
  rotate_left
  · (intro w hSw; (try dsimp only at hSw); go_simp; try rfl)
  try simp only [Act.put, List.setIfInBounds_toArray, List.set_cons_zero, List.set_cons_succ, List.getElem_toArray, List.getElem_cons_zero, List.getElem_cons_succ]
  refine wpAnyH_take (i := 12) (v := ?_) rfl (by kernel_rfl) (by kernel_rfl) (by kernel_rfl) (fun _ _ _ h => h) (Or.inl ⟨by rfl, ?_⟩) (by assumption) ?_
  rotate_left
  · (intro w hSw; (try dsimp only at hSw); go_simp; try rfl)
  try simp only [Act.put, List.setIfInBounds_toArray, List.set_cons_zero, List.set_cons_succ, List.getElem_toArray, List.getElem_cons_zero, List.getElem_cons_succ]
  refine wpAnyH_take (i := 14) (v := ?_) rfl (by kernel_rfl) (by kernel_rfl) (by kernel_rfl) (fun _ _ _ h => h) (Or.inl ⟨by rfl, ?_⟩) (by assumption) ?_
  rotate_left
  · (intro w hSw; (try dsimp only at hSw); go_simp; try rfl)
  try simp only [Act.put, List.setIfInBounds_toArray, List.set_cons_zero, List.set_cons_succ, List.getElem_toArray, List.getElem_cons_zero, List.getElem_cons_succ]
  refine wpAnyH_take (i := 15) (v := ?_) rfl (by kernel_rfl) (by kernel_rfl) (by kernel_rfl) (fun _ _ _ h => h) (Or.inl ⟨by rfl, ?_⟩) (by assumption) ?_
  rotate_left
  · (intro w hSw; (try dsimp only at hSw); go_simp; try rfl)
  try simp only [Act.put, List.setIfInBounds_toArray, List.set_cons_zero, List.set_cons_succ, List.getElem_toArray, List.getElem_cons_zero, List.getElem_cons_succ]
  refine wpAnyH_ready (rs := [13]) (by kernel_rfl) (by simp) ?_
  refine (AllReadyH.cons rfl (fun K hK => ?_) AllReadyH.nil)
  go_simp
  (go_at_call 14; go_split_ands; refine (cP1.out _ (by assumption)).mono ?_; rintro e w5 ⟨rfl, hbw5⟩)
  refine hK.out _ _ ?_ (fun hHeld => ?_)
  · ((first
      | exact HC.out _ (Below.refl _ _)
      | exact HC.out _ (Below.refl _ _).drew
      | (go_split_ands; exact HC.out _ (below_self (by assumption) (by assumption)))
      | (go_split_ands; exact HC.out _ (Below.drew (by assumption)))
      | (go_split_ands; exact HC.out _ (by assumption))))
  clear hK K
  try simp only [Act.put, List.setIfInBounds_toArray, List.set_cons_zero, List.set_cons_succ, List.getElem_toArray, List.getElem_cons_zero, List.getElem_cons_succ]
  refine wpAnyH_ready (rs := [16]) (by kernel_rfl) (by simp) ?_
  refine (AllReadyH.cons rfl (fun K hK => ?_) AllReadyH.nil)
  go_simp
  (go_at_call 14; go_split_ands; refine (cP2.out _ (by assumption)).mono ?_; rintro e w5 ⟨rfl, hbw5⟩)
  refine hK.out _ _ ?_ (fun hHeld => ?_)
  · ((first
      | exact HC.out _ (Below.refl _ _)
      | exact HC.out _ (Below.refl _ _).drew
      | (go_split_ands; exact HC.out _ (below_self (by assumption) (by assumption)))
      | (go_split_ands; exact HC.out _ (Below.drew (by assumption)))
      | (go_split_ands; exact HC.out _ (by assumption))))
  clear hK K
  try simp only [Act.put, List.setIfInBounds_toArray, List.set_cons_zero, List.set_cons_succ, List.getElem_toArray, List.getElem_cons_zero, List.getElem_cons_succ]
  refine wpAnyH_take (i := 17) (v := ?_) rfl (by kernel_rfl) (by kernel_rfl) (by kernel_rfl) (fun _ _ _ h => h) (Or.inl ⟨by rfl, ?_⟩) (by assumption) ?_
  rotate_left
  · (intro w hSw; (try dsimp only at hSw); go_simp; try rfl)
  try simp only [Act.put, List.setIfInBounds_toArray, List.set_cons_zero, List.set_cons_succ, List.getElem_toArray, List.getElem_cons_zero, List.getElem_cons_succ]
  refine wpAnyH_take (i := 18) (v := ?_) rfl (by kernel_rfl) (by kernel_rfl) (by kernel_rfl) (fun _ _ _ h => h) (Or.inl ⟨by rfl, ?_⟩) (by assumption) ?_
  rotate_left
  · (intro w hSw; (try dsimp only at hSw); go_simp; try rfl)
  try simp only [Act.put, List.setIfInBounds_toArray, List.set_cons_zero, List.set_cons_succ, List.getElem_toArray, List.getElem_cons_zero, List.getElem_cons_succ]
  refine wpAnyH_take (i := 19) (v := ?_) rfl (by kernel_rfl) (by kernel_rfl) (by kernel_rfl) (fun _ _ _ h => h) (Or.inl ⟨by rfl, ?_⟩) (by assumption) ?_
  rotate_left
  · (intro w hSw; (try dsimp only at hSw); go_simp; try rfl)
  try simp only [Act.put, List.setIfInBounds_toArray, List.set_cons_zero, List.set_cons_succ, List.getElem_toArray, List.getElem_cons_zero, List.getElem_cons_succ]
  refine wpAnyH_take (i := 20) (v := ?_) rfl (by kernel_rfl) (by kernel_rfl) (by kernel_rfl) (fun _ _ _ h => h) (Or.inl ⟨by rfl, ?_⟩) (by assumption) ?_
  rotate_left
  · (intro w hSw; (try dsimp only at hSw); go_simp; try rfl)
  try simp only [Act.put, List.setIfInBounds_toArray, List.set_cons_zero, List.set_cons_succ, List.getElem_toArray, List.getElem_cons_zero, List.getElem_cons_succ]
  refine wpAnyH_take (i := 21) (v := ?_) rfl (by kernel_rfl) (by kernel_rfl) (by kernel_rfl) (fun _ _ _ h => h) (Or.inl ⟨by rfl, ?_⟩) (by assumption) ?_
  rotate_left
  · (intro w hSw; (try dsimp only at hSw); go_simp; try rfl)
  try simp only [Act.put, List.setIfInBounds_toArray, List.set_cons_zero, List.set_cons_succ, List.getElem_toArray, List.getElem_cons_zero, List.getElem_cons_succ]
  refine wpAnyH_take (i := 22) (v := ?_) rfl (by kernel_rfl) (by kernel_rfl) (by kernel_rfl) (fun _ _ _ h => h) (Or.inl ⟨by rfl, ?_⟩) (by assumption) ?_
  rotate_left
  · (intro w hSw; (try dsimp only at hSw); go_simp; try rfl)
  try simp only [Act.put, List.setIfInBounds_toArray, List.set_cons_zero, List.set_cons_succ, List.getElem_toArray, List.getElem_cons_zero, List.getElem_cons_succ]
  refine wpAnyH_take (i := 23) (v := ?_) rfl (by kernel_rfl) (by kernel_rfl) (by kernel_rfl) (fun _ _ _ h => h) (Or.inl ⟨by rfl, ?_⟩) (by assumption) ?_
  rotate_left
  · (intro w hSw; (try dsimp only at hSw); go_simp; try rfl)
  try simp only [Act.put, List.setIfInBounds_toArray, List.set_cons_zero, List.set_cons_succ, List.getElem_toArray, List.getElem_cons_zero, List.getElem_cons_succ]
  refine wpAnyH_take (i := 24) (v := ?_) rfl (by kernel_rfl) (by kernel_rfl) (by kernel_rfl) (fun _ _ _ h => h) (Or.inl ⟨by rfl, ?_⟩) (by assumption) ?_
  rotate_left
  · (intro w hSw; (try dsimp only at hSw); go_simp; try rfl)
  try simp only [Act.put, List.setIfInBounds_toArray, List.set_cons_zero, List.set_cons_succ, List.getElem_toArray, List.getElem_cons_zero, List.getElem_cons_succ]
  refine wpAnyH_take (i := 26) (v := ?_) rfl (by kernel_rfl) (by kernel_rfl) (by kernel_rfl) (fun _ _ _ h => h) (Or.inl ⟨by rfl, ?_⟩) (by assumption) ?_
  rotate_left
  · (intro w hSw; (try dsimp only at hSw); go_simp; try rfl)
  try simp only [Act.put, List.setIfInBounds_toArray, List.set_cons_zero, List.set_cons_succ, List.getElem_toArray, List.getElem_cons_zero, List.getElem_cons_succ]
  refine wpAnyH_take (i := 27) (v := ?_) rfl (by kernel_rfl) (by kernel_rfl) (by kernel_rfl) (fun _ _ _ h => h) (Or.inl ⟨by rfl, ?_⟩) (by assumption) ?_
  rotate_left
  · (intro w hSw; (try dsimp only at hSw); go_simp; try rfl)
  try simp only [Act.put, List.setIfInBounds_toArray, List.set_cons_zero, List.set_cons_succ, List.getElem_toArray, List.getElem_cons_zero, List.getElem_cons_succ]
  refine wpAnyH_take (i := 28) (v := ?_) rfl (by kernel_rfl) (by kernel_rfl) (by kernel_rfl) (fun _ _ _ h => h) (Or.inl ⟨by rfl, ?_⟩) (by assumption) ?_
  rotate_left
  · (intro w hSw; (try dsimp only at hSw); go_simp; try rfl)
  try simp only [Act.put, List.setIfInBounds_toArray, List.set_cons_zero, List.set_cons_succ, List.getElem_toArray, List.getElem_cons_zero, List.getElem_cons_succ]
  refine wpAnyH_take (i := 29) (v := ?_) rfl (by kernel_rfl) (by kernel_rfl) (by kernel_rfl) (fun _ _ _ h => h) (Or.inl ⟨by rfl, ?_⟩) (by assumption) ?_
  rotate_left
  · (intro w hSw; (try dsimp only at hSw); go_simp; try rfl)
  try simp only [Act.put, List.setIfInBounds_toArray, List.set_cons_zero, List.set_cons_succ, List.getElem_toArray, List.getElem_cons_zero, List.getElem_cons_succ]
  refine wpAnyH_take (i := 30) (v := ?_) rfl (by kernel_rfl) (by kernel_rfl) (by kernel_rfl) (fun _ _ _ h => h) (Or.inl ⟨by rfl, ?_⟩) (by assumption) ?_
  rotate_left
  · (intro w hSw; (try dsimp only at hSw); go_simp; try rfl)
  try simp only [Act.put, List.setIfInBounds_toArray, List.set_cons_zero, List.set_cons_succ, List.getElem_toArray, List.getElem_cons_zero, List.getElem_cons_succ]
  refine wpAnyH_ready (rs := [25]) (by kernel_rfl) (by simp) ?_
  refine (AllReadyH.cons rfl (fun K hK => ?_) AllReadyH.nil)
  go_simp
  (go_at_call 16; go_split_ands; refine (cB1.out _ (by assumption)).mono ?_; rintro e w5 ⟨rfl, hbw5⟩)
  refine hK.out _ _ ?_ (fun hHeld => ?_)
  · ((first
      | exact HC.out _ (Below.refl _ _)
      | exact HC.out _ (Below.refl _ _).drew
      | (go_split_ands; exact HC.out _ (below_self (by assumption) (by assumption)))
      | (go_split_ands; exact HC.out _ (Below.drew (by assumption)))
      | (go_split_ands; exact HC.out _ (by assumption))))
  clear hK K
  try simp only [Act.put, List.setIfInBounds_toArray, List.set_cons_zero, List.set_cons_succ, List.getElem_toArray, List.getElem_cons_zero, List.getElem_cons_succ]
  refine wpAnyH_take (i := 31) (v := ?_) rfl (by kernel_rfl) (by kernel_rfl) (by kernel_rfl) (fun _ _ _ h => h) (Or.inl ⟨by rfl, ?_⟩) (by assumption) ?_
  rotate_left
  · (intro w hSw; (try dsimp only at hSw); go_simp; try rfl)
  try simp only [Act.put, List.setIfInBounds_toArray, List.set_cons_zero, List.set_cons_succ, List.getElem_toArray, List.getElem_cons_zero, List.getElem_cons_succ]
  refine wpAnyH_take (i := 32) (v := ?_) rfl (by kernel_rfl) (by kernel_rfl) (by kernel_rfl) (fun _ _ _ h => h) (Or.inl ⟨by rfl, ?_⟩) (by assumption) ?_
  rotate_left
  · (intro w hSw; (try dsimp only at hSw); go_simp; try rfl)
  try simp only [Act.put, List.setIfInBounds_toArray, List.set_cons_zero, List.set_cons_succ, List.getElem_toArray, List.getElem_cons_zero, List.getElem_cons_succ]
  refine wpAnyH_take (i := 33) (v := ?_) rfl (by kernel_rfl) (by kernel_rfl) (by kernel_rfl) (fun _ _ _ h => h) (Or.inl ⟨by rfl, ?_⟩) (by assumption) ?_
  rotate_left
  · (intro w hSw; (try dsimp only at hSw); go_simp; try rfl)
  try simp only [Act.put, List.setIfInBounds_toArray, List.set_cons_zero, List.set_cons_succ, List.getElem_toArray, List.getElem_cons_zero, List.getElem_cons_succ]
  refine wpAnyH_take (i := 34) (v := ?_) rfl (by kernel_rfl) (by kernel_rfl) (by kernel_rfl) (fun _ _ _ h => h) (Or.inl ⟨by rfl, ?_⟩) (by assumption) ?_
  rotate_left
  · (intro w hSw; (try dsimp only at hSw); go_simp; try rfl)
  try simp only [Act.put, List.setIfInBounds_toArray, List.set_cons_zero, List.set_cons_succ, List.getElem_toArray, List.getElem_cons_zero, List.getElem_cons_succ]
  refine wpAnyH_take (i := 35) (v := ?_) rfl (by kernel_rfl) (by kernel_rfl) (by kernel_rfl) (fun _ _ _ h => h) (Or.inl ⟨by rfl, ?_⟩) (by assumption) ?_
  rotate_left
  · (intro w hSw; (try dsimp only at hSw); go_simp; try rfl)
  try simp only [Act.put, List.setIfInBounds_toArray, List.set_cons_zero, List.set_cons_succ, List.getElem_toArray, List.getElem_cons_zero, List.getElem_cons_succ]
  refine wpAnyH_take (i := 36) (v := ?_) rfl (by kernel_rfl) (by kernel_rfl) (by kernel_rfl) (fun _ _ _ h => h) (Or.inl ⟨by rfl, ?_⟩) (by assumption) ?_
  rotate_left
  · (intro w hSw; (try dsimp only at hSw); go_simp; try rfl)
  try simp only [Act.put, List.setIfInBounds_toArray, List.set_cons_zero, List.set_cons_succ, List.getElem_toArray, List.getElem_cons_zero, List.getElem_cons_succ]
  refine wpAnyH_ready (rs := [37]) (by kernel_rfl) (by simp) ?_
  refine (AllReadyH.cons rfl (fun K hK => ?_) AllReadyH.nil)
  go_simp
  (go_at_call 16; go_split_ands; refine (cZ1.out _ (by assumption)).mono ?_; rintro e w5 ⟨rfl, hbw5⟩)
  refine hK.out _ _ ?_ (fun hHeld => ?_)
  · ((first
      | exact HC.out _ (Below.refl _ _)
      | exact HC.out _ (Below.refl _ _).drew
      | (go_split_ands; exact HC.out _ (below_self (by assumption) (by assumption)))
      | (go_split_ands; exact HC.out _ (Below.drew (by assumption)))
      | (go_split_ands; exact HC.out _ (by assumption))))
  clear hK K
  try simp only [Act.put, List.setIfInBounds_toArray, List.set_cons_zero, List.set_cons_succ, List.getElem_toArray, List.getElem_cons_zero, List.getElem_cons_succ]
  refine wpAnyH_take (i := 38) (v := ?_) rfl (by kernel_rfl) (by kernel_rfl) (by kernel_rfl) (fun _ _ _ h => h) (Or.inl ⟨by rfl, ?_⟩) (by assumption) ?_
  rotate_left
  · (intro w hSw; (try dsimp only at hSw); go_simp; try rfl)
  try simp only [Act.put, List.setIfInBounds_toArray, List.set_cons_zero, List.set_cons_succ, List.getElem_toArray, List.getElem_cons_zero, List.getElem_cons_succ]
  refine wpAnyH_take (i := 39) (v := ?_) rfl (by kernel_rfl) (by kernel_rfl) (by kernel_rfl) (fun _ _ _ h => h) (Or.inl ⟨by rfl, ?_⟩) (by assumption) ?_
  rotate_left
  · (intro w hSw; (try dsimp only at hSw); go_simp; try rfl)
  try simp only [Act.put, List.setIfInBounds_toArray, List.set_cons_zero, List.set_cons_succ, List.getElem_toArray, List.getElem_cons_zero, List.getElem_cons_succ]
  refine wpAnyH_take (i := 40) (v := ?_) rfl (by kernel_rfl) (by kernel_rfl) (by kernel_rfl) (fun _ _ _ h => h) (Or.inl ⟨by rfl, ?_⟩) (by assumption) ?_
  rotate_left
  · (intro w hSw; (try dsimp only at hSw); go_simp; try rfl)
  try simp only [Act.put, List.setIfInBounds_toArray, List.set_cons_zero, List.set_cons_succ, List.getElem_toArray, List.getElem_cons_zero, List.getElem_cons_succ]
  refine wpAnyH_take (i := 41) (v := ?_) rfl (by kernel_rfl) (by kernel_rfl) (by kernel_rfl) (fun _ _ _ h => h) (Or.inl ⟨by rfl, ?_⟩) (by assumption) ?_
  rotate_left
  · (intro w hSw; (try dsimp only at hSw); go_simp; try rfl)
  try simp only [Act.put, List.setIfInBounds_toArray, List.set_cons_zero, List.set_cons_succ, List.getElem_toArray, List.getElem_cons_zero, List.getElem_cons_succ]
  refine wpAnyH_take (i := 42) (v := ?_) rfl (by kernel_rfl) (by kernel_rfl) (by kernel_rfl) (fun _ _ _ h => h) (Or.inl ⟨by rfl, ?_⟩) (by assumption) ?_
  rotate_left
  · (intro w hSw; (try dsimp only at hSw); go_simp; try rfl)
  try simp only [Act.put, List.setIfInBounds_toArray, List.set_cons_zero, List.set_cons_succ, List.getElem_toArray, List.getElem_cons_zero, List.getElem_cons_succ]
  refine wpAnyH_ready (rs := [43]) (by kernel_rfl) (by simp) ?_
  refine (AllReadyH.cons rfl (fun K hK => ?_) AllReadyH.nil)
  go_simp
  (go_at_call 16; go_split_ands; refine (cZ2.out _ (by assumption)).mono ?_; rintro e w5 ⟨rfl, hbw5⟩)
  refine hK.out _ _ ?_ (fun hHeld => ?_)
  · ((first
      | exact HC.out _ (Below.refl _ _)
      | exact HC.out _ (Below.refl _ _).drew
      | (go_split_ands; exact HC.out _ (below_self (by assumption) (by assumption)))
      | (go_split_ands; exact HC.out _ (Below.drew (by assumption)))
      | (go_split_ands; exact HC.out _ (by assumption))))
  clear hK K
  try simp only [Act.put, List.setIfInBounds_toArray, List.set_cons_zero, List.set_cons_succ, List.getElem_toArray, List.getElem_cons_zero, List.getElem_cons_succ]
  refine wpAnyH_take (i := 44) (v := ?_) rfl (by kernel_rfl) (by kernel_rfl) (by kernel_rfl) (fun _ _ _ h => h) (Or.inl ⟨by rfl, ?_⟩) (by assumption) ?_
  rotate_left
  · (intro w hSw; (try dsimp only at hSw); go_simp; try rfl)
  try simp only [Act.put, List.setIfInBounds_toArray, List.set_cons_zero, List.set_cons_succ, List.getElem_toArray, List.getElem_cons_zero, List.getElem_cons_succ]
  refine wpAnyH_take (i := 45) (v := ?_) rfl (by kernel_rfl) (by kernel_rfl) (by kernel_rfl) (fun _ _ _ h => h) (Or.inl ⟨by rfl, ?_⟩) (by assumption) ?_
  rotate_left
  · (intro w hSw; (try dsimp only at hSw); go_simp; try rfl)
  try simp only [Act.put, List.setIfInBounds_toArray, List.set_cons_zero, List.set_cons_succ, List.getElem_toArray, List.getElem_cons_zero, List.getElem_cons_succ]
  refine wpAnyH_take (i := 46) (v := ?_) rfl (by kernel_rfl) (by kernel_rfl) (by kernel_rfl) (fun _ _ _ h => h) (Or.inl ⟨by rfl, ?_⟩) (by assumption) ?_
  rotate_left
  · (intro w hSw; (try dsimp only at hSw); go_simp; try rfl)
  try simp only [Act.put, List.setIfInBounds_toArray, List.set_cons_zero, List.set_cons_succ, List.getElem_toArray, List.getElem_cons_zero, List.getElem_cons_succ]
  refine wpAnyH_done (by kernel_rfl) ?_ _
  go_split_ands
  go_wp2
  go_ret
  exact ⟨rfl, HBR.out.trans (Below.mono (by assumption) (Nat.le_of_lt hX0))⟩
set_option maxRecDepth 100000 in
set_option maxHeartbeats 8000000 in
theorem tb_t55 (c1 s1 o1 : Int) (p1 x1 : ByteArray) (n1 a1 b1 : Int) (c2 s2 o2 : Int) (p2 x2 : ByteArray) (n2 a2 b2 : Int) (w : World) (hm : ML w) (q1 : p1.size ≤ 1000) (q2 : p2.size ≤ 1000) (hO : ovr p1 x1 p2 x2 = false) (R D : Bool) (y1 : (o1 == 4) = false) (y2 : (o1 == 5) = true) (y3 : (o2 == 4) = false) (y4 : (o2 == 5) = true) (hR : bth c1 o1 p1 c2 o2 p2 = R) (hD : mtr o1 p1 o2 p2 = D) (hE : (c1 == c2) = R) : Calls Try.prog 5 #[.agg #[.int .i64 c1, .int .i64 s1, .int .i64 o1, .string p1, .string x1, .int .i64 n1, .int .i64 a1, .int .i64 b1], .agg #[.int .i64 c2, .int .i64 s2, .int .i64 o2, .string p2, .string x2, .int .i64 n2, .int .i64 a2, .int .i64 b2]] w fun e w' => e = .returned (.bool true) ∧ Below w.heap.size w w' := by
  have HM0 : Hid (ML ((w.alloc (.cells #[.int .i64 c1, .int .i64 s1, .int .i64 o1, .string p1, .string x1, .int .i64 n1, .int .i64 a1, .int .i64 b1] 24)).alloc (.cells #[.int .i64 c2, .int .i64 s2, .int .i64 o2, .string p2, .string x2, .int .i64 n2, .int .i64 a2, .int .i64 b2] 24))) := Lib.hid (hm.below (two_below _ _ _))
  have HB0 := Lib.hid (two_below w (.cells #[.int .i64 c1, .int .i64 s1, .int .i64 o1, .string p1, .string x1, .int .i64 n1, .int .i64 a1, .int .i64 b1] 24) (.cells #[.int .i64 c2, .int .i64 s2, .int .i64 o2, .string p2, .string x2, .int .i64 n2, .int .i64 a2, .int .i64 b2] 24))
  have HS : Hid (((w.alloc (.cells #[.int .i64 c1, .int .i64 s1, .int .i64 o1, .string p1, .string x1, .int .i64 n1, .int .i64 a1, .int .i64 b1] 24)).alloc (.cells #[.int .i64 c2, .int .i64 s2, .int .i64 o2, .string p2, .string x2, .int .i64 n2, .int .i64 a2, .int .i64 b2] 24)).heap.size = w.heap.size + 2) := Lib.hid (by simp)
  clear hm
  go_enter Try.func5, Try.ntmps5
  go_wp2_with fail
  refine (works_any _ HM0.out).mono ?_
  rintro e w1 ⟨rfl, hb⟩
  have HB1 := Lib.hid (HB0.out.trans (hb.mono (by simp; omega)))
  have HM1 := Lib.hid (HM0.out.below hb)
  obtain ⟨hcb, hfb⟩ := bcell hb
  have hl0 : w.heap.size < w1.heap.size := Nat.lt_of_lt_of_le (by simp; omega) hb.size
  have hl1 : w.heap.size + 1 < w1.heap.size := Nat.lt_of_lt_of_le (by simp) hb.size
  have d00 : w1.cell? ⟨w.heap.size, 0, none⟩ = some (.int .i64 c1) := (hcb _ _ (by simp <;> omega)).trans (by simp [go_sem])
  have d01 : w1.cell? ⟨w.heap.size, 1, none⟩ = some (.int .i64 s1) := (hcb _ _ (by simp <;> omega)).trans (by simp [go_sem])
  have d02 : w1.cell? ⟨w.heap.size, 2, none⟩ = some (.int .i64 o1) := (hcb _ _ (by simp <;> omega)).trans (by simp [go_sem])
  have d03 : w1.cell? ⟨w.heap.size, 3, none⟩ = some (.string p1) := (hcb _ _ (by simp <;> omega)).trans (by simp [go_sem])
  have d04 : w1.cell? ⟨w.heap.size, 4, none⟩ = some (.string x1) := (hcb _ _ (by simp <;> omega)).trans (by simp [go_sem])
  have d05 : w1.cell? ⟨w.heap.size, 5, none⟩ = some (.int .i64 n1) := (hcb _ _ (by simp <;> omega)).trans (by simp [go_sem])
  have d06 : w1.cell? ⟨w.heap.size, 6, none⟩ = some (.int .i64 a1) := (hcb _ _ (by simp <;> omega)).trans (by simp [go_sem])
  have d07 : w1.cell? ⟨w.heap.size, 7, none⟩ = some (.int .i64 b1) := (hcb _ _ (by simp <;> omega)).trans (by simp [go_sem])
  have d10 : w1.cell? ⟨w.heap.size + 1, 0, none⟩ = some (.int .i64 c2) := (hcb _ _ (by simp <;> omega)).trans (by simp [go_sem])
  have d11 : w1.cell? ⟨w.heap.size + 1, 1, none⟩ = some (.int .i64 s2) := (hcb _ _ (by simp <;> omega)).trans (by simp [go_sem])
  have d12 : w1.cell? ⟨w.heap.size + 1, 2, none⟩ = some (.int .i64 o2) := (hcb _ _ (by simp <;> omega)).trans (by simp [go_sem])
  have d13 : w1.cell? ⟨w.heap.size + 1, 3, none⟩ = some (.string p2) := (hcb _ _ (by simp <;> omega)).trans (by simp [go_sem])
  have d14 : w1.cell? ⟨w.heap.size + 1, 4, none⟩ = some (.string x2) := (hcb _ _ (by simp <;> omega)).trans (by simp [go_sem])
  have d15 : w1.cell? ⟨w.heap.size + 1, 5, none⟩ = some (.int .i64 n2) := (hcb _ _ (by simp <;> omega)).trans (by simp [go_sem])
  have d16 : w1.cell? ⟨w.heap.size + 1, 6, none⟩ = some (.int .i64 a2) := (hcb _ _ (by simp <;> omega)).trans (by simp [go_sem])
  have d17 : w1.cell? ⟨w.heap.size + 1, 7, none⟩ = some (.int .i64 b2) := (hcb _ _ (by simp <;> omega)).trans (by simp [go_sem])
  clear hb hcb hfb
  go_wp2_with fail
  refine (over2_any _ p1 x1 p2 x2 _ (by simp [go_sem]) (by simp [go_sem]) (by simp [go_sem]) (by simp [go_sem])).mono ?_
  rw [hO]
  rintro e w2 ⟨rfl, hb⟩
  subst hb
  go_wp2_with fail
  have HBR : Hid (Below w.heap.size w ((w1.alloc (Obj.cells #[(.int .i64 c1), (.int .i64 s1), (.int .i64 o1), (.string p1), (.string x1), (.int .i64 n1), (.int .i64 a1), (.int .i64 b1), (.int .i64 c2), (.int .i64 s2), (.int .i64 o2), (.string p2), (.string x2), (.int .i64 n2), (.int .i64 a2), (.int .i64 b2)] 24)).alloc (Obj.cells #[(.int .i64 c1), (.int .i64 s1), (.int .i64 0), (.string p1), (.string x1), (.int .i64 n1), (.int .i64 a1), (.int .i64 b1)] 24))) := Lib.hid ((HB1.out.alloc (Nat.le_of_lt hl0) _).alloc (by simp; omega) _)
  have HMR : Hid (ML ((w1.alloc (Obj.cells #[(.int .i64 c1), (.int .i64 s1), (.int .i64 o1), (.string p1), (.string x1), (.int .i64 n1), (.int .i64 a1), (.int .i64 b1), (.int .i64 c2), (.int .i64 s2), (.int .i64 o2), (.string p2), (.string x2), (.int .i64 n2), (.int .i64 a2), (.int .i64 b2)] 24)).alloc (Obj.cells #[(.int .i64 c1), (.int .i64 s1), (.int .i64 0), (.string p1), (.string x1), (.int .i64 n1), (.int .i64 a1), (.int .i64 b1)] 24))) := Lib.hid (HM1.out.below (two_below _ _ _))
  have hz : ((w1.alloc (Obj.cells #[(.int .i64 c1), (.int .i64 s1), (.int .i64 o1), (.string p1), (.string x1), (.int .i64 n1), (.int .i64 a1), (.int .i64 b1), (.int .i64 c2), (.int .i64 s2), (.int .i64 o2), (.string p2), (.string x2), (.int .i64 n2), (.int .i64 a2), (.int .i64 b2)] 24)).alloc (Obj.cells #[(.int .i64 c1), (.int .i64 s1), (.int .i64 0), (.string p1), (.string x1), (.int .i64 n1), (.int .i64 a1), (.int .i64 b1)] 24)).heap.size = w1.heap.size + 2 := by simp
  have g00 : ((w1.alloc (Obj.cells #[(.int .i64 c1), (.int .i64 s1), (.int .i64 o1), (.string p1), (.string x1), (.int .i64 n1), (.int .i64 a1), (.int .i64 b1), (.int .i64 c2), (.int .i64 s2), (.int .i64 o2), (.string p2), (.string x2), (.int .i64 n2), (.int .i64 a2), (.int .i64 b2)] 24)).alloc (Obj.cells #[(.int .i64 c1), (.int .i64 s1), (.int .i64 0), (.string p1), (.string x1), (.int .i64 n1), (.int .i64 a1), (.int .i64 b1)] 24)).cell? ⟨w.heap.size, 0, none⟩ = some (.int .i64 c1) := by simp [go_sem, *]
  have g01 : ((w1.alloc (Obj.cells #[(.int .i64 c1), (.int .i64 s1), (.int .i64 o1), (.string p1), (.string x1), (.int .i64 n1), (.int .i64 a1), (.int .i64 b1), (.int .i64 c2), (.int .i64 s2), (.int .i64 o2), (.string p2), (.string x2), (.int .i64 n2), (.int .i64 a2), (.int .i64 b2)] 24)).alloc (Obj.cells #[(.int .i64 c1), (.int .i64 s1), (.int .i64 0), (.string p1), (.string x1), (.int .i64 n1), (.int .i64 a1), (.int .i64 b1)] 24)).cell? ⟨w.heap.size, 1, none⟩ = some (.int .i64 s1) := by simp [go_sem, *]
  have g02 : ((w1.alloc (Obj.cells #[(.int .i64 c1), (.int .i64 s1), (.int .i64 o1), (.string p1), (.string x1), (.int .i64 n1), (.int .i64 a1), (.int .i64 b1), (.int .i64 c2), (.int .i64 s2), (.int .i64 o2), (.string p2), (.string x2), (.int .i64 n2), (.int .i64 a2), (.int .i64 b2)] 24)).alloc (Obj.cells #[(.int .i64 c1), (.int .i64 s1), (.int .i64 0), (.string p1), (.string x1), (.int .i64 n1), (.int .i64 a1), (.int .i64 b1)] 24)).cell? ⟨w.heap.size, 2, none⟩ = some (.int .i64 o1) := by simp [go_sem, *]
  have g03 : ((w1.alloc (Obj.cells #[(.int .i64 c1), (.int .i64 s1), (.int .i64 o1), (.string p1), (.string x1), (.int .i64 n1), (.int .i64 a1), (.int .i64 b1), (.int .i64 c2), (.int .i64 s2), (.int .i64 o2), (.string p2), (.string x2), (.int .i64 n2), (.int .i64 a2), (.int .i64 b2)] 24)).alloc (Obj.cells #[(.int .i64 c1), (.int .i64 s1), (.int .i64 0), (.string p1), (.string x1), (.int .i64 n1), (.int .i64 a1), (.int .i64 b1)] 24)).cell? ⟨w.heap.size, 3, none⟩ = some (.string p1) := by simp [go_sem, *]
  have g04 : ((w1.alloc (Obj.cells #[(.int .i64 c1), (.int .i64 s1), (.int .i64 o1), (.string p1), (.string x1), (.int .i64 n1), (.int .i64 a1), (.int .i64 b1), (.int .i64 c2), (.int .i64 s2), (.int .i64 o2), (.string p2), (.string x2), (.int .i64 n2), (.int .i64 a2), (.int .i64 b2)] 24)).alloc (Obj.cells #[(.int .i64 c1), (.int .i64 s1), (.int .i64 0), (.string p1), (.string x1), (.int .i64 n1), (.int .i64 a1), (.int .i64 b1)] 24)).cell? ⟨w.heap.size, 4, none⟩ = some (.string x1) := by simp [go_sem, *]
  have g05 : ((w1.alloc (Obj.cells #[(.int .i64 c1), (.int .i64 s1), (.int .i64 o1), (.string p1), (.string x1), (.int .i64 n1), (.int .i64 a1), (.int .i64 b1), (.int .i64 c2), (.int .i64 s2), (.int .i64 o2), (.string p2), (.string x2), (.int .i64 n2), (.int .i64 a2), (.int .i64 b2)] 24)).alloc (Obj.cells #[(.int .i64 c1), (.int .i64 s1), (.int .i64 0), (.string p1), (.string x1), (.int .i64 n1), (.int .i64 a1), (.int .i64 b1)] 24)).cell? ⟨w.heap.size, 5, none⟩ = some (.int .i64 n1) := by simp [go_sem, *]
  have g06 : ((w1.alloc (Obj.cells #[(.int .i64 c1), (.int .i64 s1), (.int .i64 o1), (.string p1), (.string x1), (.int .i64 n1), (.int .i64 a1), (.int .i64 b1), (.int .i64 c2), (.int .i64 s2), (.int .i64 o2), (.string p2), (.string x2), (.int .i64 n2), (.int .i64 a2), (.int .i64 b2)] 24)).alloc (Obj.cells #[(.int .i64 c1), (.int .i64 s1), (.int .i64 0), (.string p1), (.string x1), (.int .i64 n1), (.int .i64 a1), (.int .i64 b1)] 24)).cell? ⟨w.heap.size, 6, none⟩ = some (.int .i64 a1) := by simp [go_sem, *]
  have g07 : ((w1.alloc (Obj.cells #[(.int .i64 c1), (.int .i64 s1), (.int .i64 o1), (.string p1), (.string x1), (.int .i64 n1), (.int .i64 a1), (.int .i64 b1), (.int .i64 c2), (.int .i64 s2), (.int .i64 o2), (.string p2), (.string x2), (.int .i64 n2), (.int .i64 a2), (.int .i64 b2)] 24)).alloc (Obj.cells #[(.int .i64 c1), (.int .i64 s1), (.int .i64 0), (.string p1), (.string x1), (.int .i64 n1), (.int .i64 a1), (.int .i64 b1)] 24)).cell? ⟨w.heap.size, 7, none⟩ = some (.int .i64 b1) := by simp [go_sem, *]
  have g10 : ((w1.alloc (Obj.cells #[(.int .i64 c1), (.int .i64 s1), (.int .i64 o1), (.string p1), (.string x1), (.int .i64 n1), (.int .i64 a1), (.int .i64 b1), (.int .i64 c2), (.int .i64 s2), (.int .i64 o2), (.string p2), (.string x2), (.int .i64 n2), (.int .i64 a2), (.int .i64 b2)] 24)).alloc (Obj.cells #[(.int .i64 c1), (.int .i64 s1), (.int .i64 0), (.string p1), (.string x1), (.int .i64 n1), (.int .i64 a1), (.int .i64 b1)] 24)).cell? ⟨w.heap.size + 1, 0, none⟩ = some (.int .i64 c2) := by simp [go_sem, *]
  have g11 : ((w1.alloc (Obj.cells #[(.int .i64 c1), (.int .i64 s1), (.int .i64 o1), (.string p1), (.string x1), (.int .i64 n1), (.int .i64 a1), (.int .i64 b1), (.int .i64 c2), (.int .i64 s2), (.int .i64 o2), (.string p2), (.string x2), (.int .i64 n2), (.int .i64 a2), (.int .i64 b2)] 24)).alloc (Obj.cells #[(.int .i64 c1), (.int .i64 s1), (.int .i64 0), (.string p1), (.string x1), (.int .i64 n1), (.int .i64 a1), (.int .i64 b1)] 24)).cell? ⟨w.heap.size + 1, 1, none⟩ = some (.int .i64 s2) := by simp [go_sem, *]
  have g12 : ((w1.alloc (Obj.cells #[(.int .i64 c1), (.int .i64 s1), (.int .i64 o1), (.string p1), (.string x1), (.int .i64 n1), (.int .i64 a1), (.int .i64 b1), (.int .i64 c2), (.int .i64 s2), (.int .i64 o2), (.string p2), (.string x2), (.int .i64 n2), (.int .i64 a2), (.int .i64 b2)] 24)).alloc (Obj.cells #[(.int .i64 c1), (.int .i64 s1), (.int .i64 0), (.string p1), (.string x1), (.int .i64 n1), (.int .i64 a1), (.int .i64 b1)] 24)).cell? ⟨w.heap.size + 1, 2, none⟩ = some (.int .i64 o2) := by simp [go_sem, *]
  have g13 : ((w1.alloc (Obj.cells #[(.int .i64 c1), (.int .i64 s1), (.int .i64 o1), (.string p1), (.string x1), (.int .i64 n1), (.int .i64 a1), (.int .i64 b1), (.int .i64 c2), (.int .i64 s2), (.int .i64 o2), (.string p2), (.string x2), (.int .i64 n2), (.int .i64 a2), (.int .i64 b2)] 24)).alloc (Obj.cells #[(.int .i64 c1), (.int .i64 s1), (.int .i64 0), (.string p1), (.string x1), (.int .i64 n1), (.int .i64 a1), (.int .i64 b1)] 24)).cell? ⟨w.heap.size + 1, 3, none⟩ = some (.string p2) := by simp [go_sem, *]
  have g14 : ((w1.alloc (Obj.cells #[(.int .i64 c1), (.int .i64 s1), (.int .i64 o1), (.string p1), (.string x1), (.int .i64 n1), (.int .i64 a1), (.int .i64 b1), (.int .i64 c2), (.int .i64 s2), (.int .i64 o2), (.string p2), (.string x2), (.int .i64 n2), (.int .i64 a2), (.int .i64 b2)] 24)).alloc (Obj.cells #[(.int .i64 c1), (.int .i64 s1), (.int .i64 0), (.string p1), (.string x1), (.int .i64 n1), (.int .i64 a1), (.int .i64 b1)] 24)).cell? ⟨w.heap.size + 1, 4, none⟩ = some (.string x2) := by simp [go_sem, *]
  have g15 : ((w1.alloc (Obj.cells #[(.int .i64 c1), (.int .i64 s1), (.int .i64 o1), (.string p1), (.string x1), (.int .i64 n1), (.int .i64 a1), (.int .i64 b1), (.int .i64 c2), (.int .i64 s2), (.int .i64 o2), (.string p2), (.string x2), (.int .i64 n2), (.int .i64 a2), (.int .i64 b2)] 24)).alloc (Obj.cells #[(.int .i64 c1), (.int .i64 s1), (.int .i64 0), (.string p1), (.string x1), (.int .i64 n1), (.int .i64 a1), (.int .i64 b1)] 24)).cell? ⟨w.heap.size + 1, 5, none⟩ = some (.int .i64 n2) := by simp [go_sem, *]
  have g16 : ((w1.alloc (Obj.cells #[(.int .i64 c1), (.int .i64 s1), (.int .i64 o1), (.string p1), (.string x1), (.int .i64 n1), (.int .i64 a1), (.int .i64 b1), (.int .i64 c2), (.int .i64 s2), (.int .i64 o2), (.string p2), (.string x2), (.int .i64 n2), (.int .i64 a2), (.int .i64 b2)] 24)).alloc (Obj.cells #[(.int .i64 c1), (.int .i64 s1), (.int .i64 0), (.string p1), (.string x1), (.int .i64 n1), (.int .i64 a1), (.int .i64 b1)] 24)).cell? ⟨w.heap.size + 1, 6, none⟩ = some (.int .i64 a2) := by simp [go_sem, *]
  have g17 : ((w1.alloc (Obj.cells #[(.int .i64 c1), (.int .i64 s1), (.int .i64 o1), (.string p1), (.string x1), (.int .i64 n1), (.int .i64 a1), (.int .i64 b1), (.int .i64 c2), (.int .i64 s2), (.int .i64 o2), (.string p2), (.string x2), (.int .i64 n2), (.int .i64 a2), (.int .i64 b2)] 24)).alloc (Obj.cells #[(.int .i64 c1), (.int .i64 s1), (.int .i64 0), (.string p1), (.string x1), (.int .i64 n1), (.int .i64 a1), (.int .i64 b1)] 24)).cell? ⟨w.heap.size + 1, 7, none⟩ = some (.int .i64 b2) := by simp [go_sem, *]
  have g20 : ((w1.alloc (Obj.cells #[(.int .i64 c1), (.int .i64 s1), (.int .i64 o1), (.string p1), (.string x1), (.int .i64 n1), (.int .i64 a1), (.int .i64 b1), (.int .i64 c2), (.int .i64 s2), (.int .i64 o2), (.string p2), (.string x2), (.int .i64 n2), (.int .i64 a2), (.int .i64 b2)] 24)).alloc (Obj.cells #[(.int .i64 c1), (.int .i64 s1), (.int .i64 0), (.string p1), (.string x1), (.int .i64 n1), (.int .i64 a1), (.int .i64 b1)] 24)).cell? ⟨w1.heap.size + 1, 0, none⟩ = some (.int .i64 c1) := by simp [go_sem]
  have g21 : ((w1.alloc (Obj.cells #[(.int .i64 c1), (.int .i64 s1), (.int .i64 o1), (.string p1), (.string x1), (.int .i64 n1), (.int .i64 a1), (.int .i64 b1), (.int .i64 c2), (.int .i64 s2), (.int .i64 o2), (.string p2), (.string x2), (.int .i64 n2), (.int .i64 a2), (.int .i64 b2)] 24)).alloc (Obj.cells #[(.int .i64 c1), (.int .i64 s1), (.int .i64 0), (.string p1), (.string x1), (.int .i64 n1), (.int .i64 a1), (.int .i64 b1)] 24)).cell? ⟨w1.heap.size + 1, 1, none⟩ = some (.int .i64 s1) := by simp [go_sem]
  have g22 : ((w1.alloc (Obj.cells #[(.int .i64 c1), (.int .i64 s1), (.int .i64 o1), (.string p1), (.string x1), (.int .i64 n1), (.int .i64 a1), (.int .i64 b1), (.int .i64 c2), (.int .i64 s2), (.int .i64 o2), (.string p2), (.string x2), (.int .i64 n2), (.int .i64 a2), (.int .i64 b2)] 24)).alloc (Obj.cells #[(.int .i64 c1), (.int .i64 s1), (.int .i64 0), (.string p1), (.string x1), (.int .i64 n1), (.int .i64 a1), (.int .i64 b1)] 24)).cell? ⟨w1.heap.size + 1, 2, none⟩ = some (.int .i64 0) := by simp [go_sem]
  have g23 : ((w1.alloc (Obj.cells #[(.int .i64 c1), (.int .i64 s1), (.int .i64 o1), (.string p1), (.string x1), (.int .i64 n1), (.int .i64 a1), (.int .i64 b1), (.int .i64 c2), (.int .i64 s2), (.int .i64 o2), (.string p2), (.string x2), (.int .i64 n2), (.int .i64 a2), (.int .i64 b2)] 24)).alloc (Obj.cells #[(.int .i64 c1), (.int .i64 s1), (.int .i64 0), (.string p1), (.string x1), (.int .i64 n1), (.int .i64 a1), (.int .i64 b1)] 24)).cell? ⟨w1.heap.size + 1, 3, none⟩ = some (.string p1) := by simp [go_sem]
  have g24 : ((w1.alloc (Obj.cells #[(.int .i64 c1), (.int .i64 s1), (.int .i64 o1), (.string p1), (.string x1), (.int .i64 n1), (.int .i64 a1), (.int .i64 b1), (.int .i64 c2), (.int .i64 s2), (.int .i64 o2), (.string p2), (.string x2), (.int .i64 n2), (.int .i64 a2), (.int .i64 b2)] 24)).alloc (Obj.cells #[(.int .i64 c1), (.int .i64 s1), (.int .i64 0), (.string p1), (.string x1), (.int .i64 n1), (.int .i64 a1), (.int .i64 b1)] 24)).cell? ⟨w1.heap.size + 1, 4, none⟩ = some (.string x1) := by simp [go_sem]
  have g25 : ((w1.alloc (Obj.cells #[(.int .i64 c1), (.int .i64 s1), (.int .i64 o1), (.string p1), (.string x1), (.int .i64 n1), (.int .i64 a1), (.int .i64 b1), (.int .i64 c2), (.int .i64 s2), (.int .i64 o2), (.string p2), (.string x2), (.int .i64 n2), (.int .i64 a2), (.int .i64 b2)] 24)).alloc (Obj.cells #[(.int .i64 c1), (.int .i64 s1), (.int .i64 0), (.string p1), (.string x1), (.int .i64 n1), (.int .i64 a1), (.int .i64 b1)] 24)).cell? ⟨w1.heap.size + 1, 5, none⟩ = some (.int .i64 n1) := by simp [go_sem]
  have g26 : ((w1.alloc (Obj.cells #[(.int .i64 c1), (.int .i64 s1), (.int .i64 o1), (.string p1), (.string x1), (.int .i64 n1), (.int .i64 a1), (.int .i64 b1), (.int .i64 c2), (.int .i64 s2), (.int .i64 o2), (.string p2), (.string x2), (.int .i64 n2), (.int .i64 a2), (.int .i64 b2)] 24)).alloc (Obj.cells #[(.int .i64 c1), (.int .i64 s1), (.int .i64 0), (.string p1), (.string x1), (.int .i64 n1), (.int .i64 a1), (.int .i64 b1)] 24)).cell? ⟨w1.heap.size + 1, 6, none⟩ = some (.int .i64 a1) := by simp [go_sem]
  have g27 : ((w1.alloc (Obj.cells #[(.int .i64 c1), (.int .i64 s1), (.int .i64 o1), (.string p1), (.string x1), (.int .i64 n1), (.int .i64 a1), (.int .i64 b1), (.int .i64 c2), (.int .i64 s2), (.int .i64 o2), (.string p2), (.string x2), (.int .i64 n2), (.int .i64 a2), (.int .i64 b2)] 24)).alloc (Obj.cells #[(.int .i64 c1), (.int .i64 s1), (.int .i64 0), (.string p1), (.string x1), (.int .i64 n1), (.int .i64 a1), (.int .i64 b1)] 24)).cell? ⟨w1.heap.size + 1, 7, none⟩ = some (.int .i64 b1) := by simp [go_sem]
  clear d00 d01 d02 d03 d04 d05 d06 d07 d10 d11 d12 d13 d14 d15 d16 d17
  generalize ((w1.alloc (Obj.cells #[(.int .i64 c1), (.int .i64 s1), (.int .i64 o1), (.string p1), (.string x1), (.int .i64 n1), (.int .i64 a1), (.int .i64 b1), (.int .i64 c2), (.int .i64 s2), (.int .i64 o2), (.string p2), (.string x2), (.int .i64 n2), (.int .i64 a2), (.int .i64 b2)] 24)).alloc (Obj.cells #[(.int .i64 c1), (.int .i64 s1), (.int .i64 0), (.string p1), (.string x1), (.int .i64 n1), (.int .i64 a1), (.int .i64 b1)] 24)) = X at *
  have hX0 : w.heap.size < X.heap.size := by omega
  have hX1 : w.heap.size + 1 < X.heap.size := by omega
  have hX2 : w1.heap.size + 1 < X.heap.size := by omega
  have HC : Hid (∀ w' : World, Below X.heap.size X w' → (w'.cell? ⟨w.heap.size, 0, none⟩ = some (.int .i64 c1) ∧ w'.cell? ⟨w.heap.size, 1, none⟩ = some (.int .i64 s1) ∧ w'.cell? ⟨w.heap.size, 2, none⟩ = some (.int .i64 o1) ∧ w'.cell? ⟨w.heap.size, 3, none⟩ = some (.string p1) ∧ w'.cell? ⟨w.heap.size, 4, none⟩ = some (.string x1) ∧ w'.cell? ⟨w.heap.size, 5, none⟩ = some (.int .i64 n1) ∧ w'.cell? ⟨w.heap.size, 6, none⟩ = some (.int .i64 a1) ∧ w'.cell? ⟨w.heap.size, 7, none⟩ = some (.int .i64 b1) ∧ w'.cell? ⟨w.heap.size + 1, 0, none⟩ = some (.int .i64 c2) ∧ w'.cell? ⟨w.heap.size + 1, 1, none⟩ = some (.int .i64 s2) ∧ w'.cell? ⟨w.heap.size + 1, 2, none⟩ = some (.int .i64 o2) ∧ w'.cell? ⟨w.heap.size + 1, 3, none⟩ = some (.string p2) ∧ w'.cell? ⟨w.heap.size + 1, 4, none⟩ = some (.string x2) ∧ w'.cell? ⟨w.heap.size + 1, 5, none⟩ = some (.int .i64 n2) ∧ w'.cell? ⟨w.heap.size + 1, 6, none⟩ = some (.int .i64 a2) ∧ w'.cell? ⟨w.heap.size + 1, 7, none⟩ = some (.int .i64 b2) ∧ w'.cell? ⟨w1.heap.size + 1, 0, none⟩ = some (.int .i64 c1) ∧ w'.cell? ⟨w1.heap.size + 1, 1, none⟩ = some (.int .i64 s1) ∧ w'.cell? ⟨w1.heap.size + 1, 2, none⟩ = some (.int .i64 0) ∧ w'.cell? ⟨w1.heap.size + 1, 3, none⟩ = some (.string p1) ∧ w'.cell? ⟨w1.heap.size + 1, 4, none⟩ = some (.string x1) ∧ w'.cell? ⟨w1.heap.size + 1, 5, none⟩ = some (.int .i64 n1) ∧ w'.cell? ⟨w1.heap.size + 1, 6, none⟩ = some (.int .i64 a1) ∧ w'.cell? ⟨w1.heap.size + 1, 7, none⟩ = some (.int .i64 b1) ∧ Below X.heap.size X w')) := by
    refine Lib.hid (fun w' hb => ?_)
    obtain ⟨hc, hf⟩ := bcell hb
    exact ⟨(hc _ _ hX0).trans g00, (hc _ _ hX0).trans g01, (hc _ _ hX0).trans g02, (hc _ _ hX0).trans g03, (hc _ _ hX0).trans g04, (hc _ _ hX0).trans g05, (hc _ _ hX0).trans g06, (hc _ _ hX0).trans g07, (hc _ _ hX1).trans g10, (hc _ _ hX1).trans g11, (hc _ _ hX1).trans g12, (hc _ _ hX1).trans g13, (hc _ _ hX1).trans g14, (hc _ _ hX1).trans g15, (hc _ _ hX1).trans g16, (hc _ _ hX1).trans g17, (hc _ _ hX2).trans g20, (hc _ _ hX2).trans g21, (hc _ _ hX2).trans g22, (hc _ _ hX2).trans g23, (hc _ _ hX2).trans g24, (hc _ _ hX2).trans g25, (hc _ _ hX2).trans g26, (hc _ _ hX2).trans g27, hb⟩
  have hR2 : bth c2 o2 p2 c1 o1 p1 = R := by rw [bth_comm]; exact hR
  have hD2 : mtr o2 p2 o1 p1 = D := by rw [mtr_comm]; exact hD
  have cB1 : Hid (∀ W : World, Below X.heap.size X W → Calls Try.prog 16 #[.agg #[.int .i64 c1, .int .i64 s1, .int .i64 o1, .string p1, .string x1, .int .i64 n1, .int .i64 a1, .int .i64 b1], .agg #[.int .i64 c2, .int .i64 s2, .int .i64 o2, .string p2, .string x2, .int .i64 n2, .int .i64 a2, .int .i64 b2]] W fun e w' => e = .returned (.bool R) ∧ Below W.heap.size W w') := Lib.hid (fun W hb => by have h := both_any c1 s1 o1 p1 x1 n1 a1 b1 c2 s2 o2 p2 x2 n2 a2 b2 W q1 q2 (HMR.out.below hb); rw [hR] at h; exact h)
  have cB2 : Hid (∀ W : World, Below X.heap.size X W → Calls Try.prog 16 #[.agg #[.int .i64 c2, .int .i64 s2, .int .i64 o2, .string p2, .string x2, .int .i64 n2, .int .i64 a2, .int .i64 b2], .agg #[.int .i64 c1, .int .i64 s1, .int .i64 o1, .string p1, .string x1, .int .i64 n1, .int .i64 a1, .int .i64 b1]] W fun e w' => e = .returned (.bool R) ∧ Below W.heap.size W w') := Lib.hid (fun W hb => by have h := both_any c2 s2 o2 p2 x2 n2 a2 b2 c1 s1 o1 p1 x1 n1 a1 b1 W q2 q1 (HMR.out.below hb); rw [hR2] at h; exact h)
  have cP1 : Hid (∀ W : World, Below X.heap.size X W → Calls Try.prog 14 #[.agg #[.int .i64 c1, .int .i64 s1, .int .i64 o1, .string p1, .string x1, .int .i64 n1, .int .i64 a1, .int .i64 b1], .agg #[.int .i64 c2, .int .i64 s2, .int .i64 o2, .string p2, .string x2, .int .i64 n2, .int .i64 a2, .int .i64 b2]] W fun e w' => e = .returned (.bool D) ∧ Below W.heap.size W w') := Lib.hid (fun W hb => by have h := tpaths_any c1 s1 o1 p1 x1 n1 a1 b1 c2 s2 o2 p2 x2 n2 a2 b2 W q1 q2 (HMR.out.below hb); rw [hD] at h; exact h)
  have cP2 : Hid (∀ W : World, Below X.heap.size X W → Calls Try.prog 14 #[.agg #[.int .i64 c2, .int .i64 s2, .int .i64 o2, .string p2, .string x2, .int .i64 n2, .int .i64 a2, .int .i64 b2], .agg #[.int .i64 c1, .int .i64 s1, .int .i64 o1, .string p1, .string x1, .int .i64 n1, .int .i64 a1, .int .i64 b1]] W fun e w' => e = .returned (.bool D) ∧ Below W.heap.size W w') := Lib.hid (fun W hb => by have h := tpaths_any c2 s2 o2 p2 x2 n2 a2 b2 c1 s1 o1 p1 x1 n1 a1 b1 W q2 q1 (HMR.out.below hb); rw [hD2] at h; exact h)
  have cZ1 : Hid (∀ W : World, Below X.heap.size X W → Calls Try.prog 16 #[.agg #[.int .i64 c1, .int .i64 s1, .int .i64 0, .string p1, .string x1, .int .i64 n1, .int .i64 a1, .int .i64 b1], .agg #[.int .i64 c2, .int .i64 s2, .int .i64 o2, .string p2, .string x2, .int .i64 n2, .int .i64 a2, .int .i64 b2]] W fun e w' => e = .returned (.bool false) ∧ Below W.heap.size W w') := Lib.hid (fun W hb => by have h := both_any c1 s1 0 p1 x1 n1 a1 b1 c2 s2 o2 p2 x2 n2 a2 b2 W q1 q2 (HMR.out.below hb); rw [bth_none_l] at h; exact h)
  have cZ2 : Hid (∀ W : World, Below X.heap.size X W → Calls Try.prog 16 #[.agg #[.int .i64 c2, .int .i64 s2, .int .i64 o2, .string p2, .string x2, .int .i64 n2, .int .i64 a2, .int .i64 b2], .agg #[.int .i64 c1, .int .i64 s1, .int .i64 0, .string p1, .string x1, .int .i64 n1, .int .i64 a1, .int .i64 b1]] W fun e w' => e = .returned (.bool false) ∧ Below W.heap.size W w') := Lib.hid (fun W hb => by have h := both_any c2 s2 o2 p2 x2 n2 a2 b2 c1 s1 0 p1 x1 n1 a1 b1 W q2 q1 (HMR.out.below hb); rw [bth_none_r] at h; exact h)
  have eR : (R == R) = true := by cases R <;> rfl
  have eD : (D == D) = true := by cases D <;> rfl
  clear hR hR2 hD hD2 hO q1 q2 HMR HM1 HM0 HB0 HS HB1 hz
  clear g00 g01 g02 g03 g04 g05 g06 g07 g10 g11 g12 g13 g14 g15 g16 g17 g20 g21 g22 g23 g24 g25 g26 g27
  refine wp_region_held_drew (S := (fun w' => w'.cell? ⟨w.heap.size, 0, none⟩ = some (.int .i64 c1) ∧ w'.cell? ⟨w.heap.size, 1, none⟩ = some (.int .i64 s1) ∧ w'.cell? ⟨w.heap.size, 2, none⟩ = some (.int .i64 o1) ∧ w'.cell? ⟨w.heap.size, 3, none⟩ = some (.string p1) ∧ w'.cell? ⟨w.heap.size, 4, none⟩ = some (.string x1) ∧ w'.cell? ⟨w.heap.size, 5, none⟩ = some (.int .i64 n1) ∧ w'.cell? ⟨w.heap.size, 6, none⟩ = some (.int .i64 a1) ∧ w'.cell? ⟨w.heap.size, 7, none⟩ = some (.int .i64 b1) ∧ w'.cell? ⟨w.heap.size + 1, 0, none⟩ = some (.int .i64 c2) ∧ w'.cell? ⟨w.heap.size + 1, 1, none⟩ = some (.int .i64 s2) ∧ w'.cell? ⟨w.heap.size + 1, 2, none⟩ = some (.int .i64 o2) ∧ w'.cell? ⟨w.heap.size + 1, 3, none⟩ = some (.string p2) ∧ w'.cell? ⟨w.heap.size + 1, 4, none⟩ = some (.string x2) ∧ w'.cell? ⟨w.heap.size + 1, 5, none⟩ = some (.int .i64 n2) ∧ w'.cell? ⟨w.heap.size + 1, 6, none⟩ = some (.int .i64 a2) ∧ w'.cell? ⟨w.heap.size + 1, 7, none⟩ = some (.int .i64 b2) ∧ w'.cell? ⟨w1.heap.size + 1, 0, none⟩ = some (.int .i64 c1) ∧ w'.cell? ⟨w1.heap.size + 1, 1, none⟩ = some (.int .i64 s1) ∧ w'.cell? ⟨w1.heap.size + 1, 2, none⟩ = some (.int .i64 0) ∧ w'.cell? ⟨w1.heap.size + 1, 3, none⟩ = some (.string p1) ∧ w'.cell? ⟨w1.heap.size + 1, 4, none⟩ = some (.string x1) ∧ w'.cell? ⟨w1.heap.size + 1, 5, none⟩ = some (.int .i64 n1) ∧ w'.cell? ⟨w1.heap.size + 1, 6, none⟩ = some (.int .i64 a1) ∧ w'.cell? ⟨w1.heap.size + 1, 7, none⟩ = some (.int .i64 b1) ∧ Below X.heap.size X w')) (by kernel_rfl) ?_ (fun hHeld => ?_)
  · ((first
      | exact HC.out _ (Below.refl _ _)
      | exact HC.out _ (Below.refl _ _).drew
      | (go_split_ands; exact HC.out _ (below_self (by assumption) (by assumption)))
      | (go_split_ands; exact HC.out _ (Below.drew (by assumption)))
      | (go_split_ands; exact HC.out _ (by assumption))))
  refine wpAnyH_take (i := 0) (v := ?_) rfl (by kernel_rfl) (by kernel_rfl) (by kernel_rfl) (fun _ _ _ h => h) (Or.inl ⟨by rfl, ?_⟩) (by assumption) ?_
  rotate_left
  · (intro w hSw; (try dsimp only at hSw); go_simp; try rfl)
  try simp only [Act.put, List.setIfInBounds_toArray, List.set_cons_zero, List.set_cons_succ, List.getElem_toArray, List.getElem_cons_zero, List.getElem_cons_succ]
  refine wpAnyH_take (i := 1) (v := ?_) rfl (by kernel_rfl) (by kernel_rfl) (by kernel_rfl) (fun _ _ _ h => h) (Or.inl ⟨by rfl, ?_⟩) (by assumption) ?_
  rotate_left
  · (intro w hSw; (try dsimp only at hSw); go_simp; try rfl)
  try simp only [Act.put, List.setIfInBounds_toArray, List.set_cons_zero, List.set_cons_succ, List.getElem_toArray, List.getElem_cons_zero, List.getElem_cons_succ]
  refine wpAnyH_take (i := 2) (v := ?_) rfl (by kernel_rfl) (by kernel_rfl) (by kernel_rfl) (fun _ _ _ h => h) (Or.inl ⟨by rfl, ?_⟩) (by assumption) ?_
  rotate_left
  · (intro w hSw; (try dsimp only at hSw); go_simp; try rfl)
  try simp only [Act.put, List.setIfInBounds_toArray, List.set_cons_zero, List.set_cons_succ, List.getElem_toArray, List.getElem_cons_zero, List.getElem_cons_succ]
  refine wpAnyH_take (i := 3) (v := ?_) rfl (by kernel_rfl) (by kernel_rfl) (by kernel_rfl) (fun _ _ _ h => h) (Or.inl ⟨by rfl, ?_⟩) (by assumption) ?_
  rotate_left
  · (intro w hSw; (try dsimp only at hSw); go_simp; try rfl)
  try simp only [Act.put, List.setIfInBounds_toArray, List.set_cons_zero, List.set_cons_succ, List.getElem_toArray, List.getElem_cons_zero, List.getElem_cons_succ]
  refine wpAnyH_take (i := 5) (v := ?_) rfl (by kernel_rfl) (by kernel_rfl) (by kernel_rfl) (fun _ _ _ h => h) (Or.inl ⟨by rfl, ?_⟩) (by assumption) ?_
  rotate_left
  · (intro w hSw; (try dsimp only at hSw); go_simp; try rfl)
  try simp only [Act.put, List.setIfInBounds_toArray, List.set_cons_zero, List.set_cons_succ, List.getElem_toArray, List.getElem_cons_zero, List.getElem_cons_succ]
  refine wpAnyH_take (i := 6) (v := ?_) rfl (by kernel_rfl) (by kernel_rfl) (by kernel_rfl) (fun _ _ _ h => h) (Or.inl ⟨by rfl, ?_⟩) (by assumption) ?_
  rotate_left
  · (intro w hSw; (try dsimp only at hSw); go_simp; try rfl)
  try simp only [Act.put, List.setIfInBounds_toArray, List.set_cons_zero, List.set_cons_succ, List.getElem_toArray, List.getElem_cons_zero, List.getElem_cons_succ]
  refine wpAnyH_ready (rs := [4]) (by kernel_rfl) (by simp) ?_
  refine (AllReadyH.cons rfl (fun K hK => ?_) AllReadyH.nil)
  go_simp
  (go_at_call 16; go_split_ands; refine (cB1.out _ (by assumption)).mono ?_; rintro e w5 ⟨rfl, hbw5⟩)
  refine hK.out _ _ ?_ (fun hHeld => ?_)
  · ((first
      | exact HC.out _ (Below.refl _ _)
      | exact HC.out _ (Below.refl _ _).drew
      | (go_split_ands; exact HC.out _ (below_self (by assumption) (by assumption)))
      | (go_split_ands; exact HC.out _ (Below.drew (by assumption)))
      | (go_split_ands; exact HC.out _ (by assumption))))
  clear hK K
  try simp only [Act.put, List.setIfInBounds_toArray, List.set_cons_zero, List.set_cons_succ, List.getElem_toArray, List.getElem_cons_zero, List.getElem_cons_succ]
  refine wpAnyH_ready (rs := [7]) (by kernel_rfl) (by simp) ?_
  refine (AllReadyH.cons rfl (fun K hK => ?_) AllReadyH.nil)
  go_simp
  (go_at_call 16; go_split_ands; refine (cB2.out _ (by assumption)).mono ?_; rintro e w5 ⟨rfl, hbw5⟩)
  refine hK.out _ _ ?_ (fun hHeld => ?_)
  · ((first
      | exact HC.out _ (Below.refl _ _)
      | exact HC.out _ (Below.refl _ _).drew
      | (go_split_ands; exact HC.out _ (below_self (by assumption) (by assumption)))
      | (go_split_ands; exact HC.out _ (Below.drew (by assumption)))
      | (go_split_ands; exact HC.out _ (by assumption))))
  clear hK K
  try simp only [Act.put, List.setIfInBounds_toArray, List.set_cons_zero, List.set_cons_succ, List.getElem_toArray, List.getElem_cons_zero, List.getElem_cons_succ]
  refine wpAnyH_take (i := 8) (v := ?_) rfl (by kernel_rfl) (by kernel_rfl) (by kernel_rfl) (fun _ _ _ h => h) (Or.inl ⟨by rfl, ?_⟩) (by assumption) ?_
  rotate_left
  · (intro w hSw; (try dsimp only at hSw); go_simp; try rfl)
  try simp only [Act.put, List.setIfInBounds_toArray, List.set_cons_zero, List.set_cons_succ, List.getElem_toArray, List.getElem_cons_zero, List.getElem_cons_succ]
  refine wpAnyH_take (i := 9) (v := ?_) rfl (by kernel_rfl) (by kernel_rfl) (by kernel_rfl) (fun _ _ _ h => h) (Or.inl ⟨by rfl, ?_⟩) (by assumption) ?_
  rotate_left
  · (intro w hSw; (try dsimp only at hSw); go_simp; try rfl)
  try simp only [Act.put, List.setIfInBounds_toArray, List.set_cons_zero, List.set_cons_succ, List.getElem_toArray, List.getElem_cons_zero, List.getElem_cons_succ]
  refine wpAnyH_take (i := 10) (v := ?_) rfl (by kernel_rfl) (by kernel_rfl) (by kernel_rfl) (fun _ _ _ h => h) (Or.inl ⟨by rfl, ?_⟩) (by assumption) ?_
  rotate_left
  · (intro w hSw; (try dsimp only at hSw); go_simp; try rfl)
  try simp only [Act.put, List.setIfInBounds_toArray, List.set_cons_zero, List.set_cons_succ, List.getElem_toArray, List.getElem_cons_zero, List.getElem_cons_succ]
  refine wpAnyH_take (i := 11) (v := ?_) rfl (by kernel_rfl) (by kernel_rfl) (by kernel_rfl) (fun _ _ _ h => h) (Or.inl ⟨by rfl, ?_⟩) (by assumption) ?_
  rotate_left
  · (intro w hSw; (try dsimp only at hSw); go_simp; try rfl)
  try simp only [Act.put, List.setIfInBounds_toArray, List.set_cons_zero, List.set_cons_succ, List.getElem_toArray, List.getElem_cons_zero, List.getElem_cons_succ]
  refine wpAnyH_take (i := 12) (v := ?_) rfl (by kernel_rfl) (by kernel_rfl) (by kernel_rfl) (fun _ _ _ h => h) (Or.inl ⟨by rfl, ?_⟩) (by assumption) ?_
  rotate_left
  · (intro w hSw; (try dsimp only at hSw); go_simp; try rfl)
  try simp only [Act.put, List.setIfInBounds_toArray, List.set_cons_zero, List.set_cons_succ, List.getElem_toArray, List.getElem_cons_zero, List.getElem_cons_succ]
  refine wpAnyH_take (i := 14) (v := ?_) rfl (by kernel_rfl) (by kernel_rfl) (by kernel_rfl) (fun _ _ _ h => h) (Or.inl ⟨by rfl, ?_⟩) (by assumption) ?_
  rotate_left
  · (intro w hSw; (try dsimp only at hSw); go_simp; try rfl)
  try simp only [Act.put, List.setIfInBounds_toArray, List.set_cons_zero, List.set_cons_succ, List.getElem_toArray, List.getElem_cons_zero, List.getElem_cons_succ]
  refine wpAnyH_take (i := 15) (v := ?_) rfl (by kernel_rfl) (by kernel_rfl) (by kernel_rfl) (fun _ _ _ h => h) (Or.inl ⟨by rfl, ?_⟩) (by assumption) ?_
  rotate_left
  · (intro w hSw; (try dsimp only at hSw); go_simp; try rfl)
  try simp only [Act.put, List.setIfInBounds_toArray, List.set_cons_zero, List.set_cons_succ, List.getElem_toArray, List.getElem_cons_zero, List.getElem_cons_succ]
  refine wpAnyH_ready (rs := [13]) (by kernel_rfl) (by simp) ?_
  refine (AllReadyH.cons rfl (fun K hK => ?_) AllReadyH.nil)
  go_simp
  (go_at_call 14; go_split_ands; refine (cP1.out _ (by assumption)).mono ?_; rintro e w5 ⟨rfl, hbw5⟩)
  refine hK.out _ _ ?_ (fun hHeld => ?_)
  · ((first
      | exact HC.out _ (Below.refl _ _)
      | exact HC.out _ (Below.refl _ _).drew
      | (go_split_ands; exact HC.out _ (below_self (by assumption) (by assumption)))
      | (go_split_ands; exact HC.out _ (Below.drew (by assumption)))
      | (go_split_ands; exact HC.out _ (by assumption))))
  clear hK K
  try simp only [Act.put, List.setIfInBounds_toArray, List.set_cons_zero, List.set_cons_succ, List.getElem_toArray, List.getElem_cons_zero, List.getElem_cons_succ]
  refine wpAnyH_ready (rs := [16]) (by kernel_rfl) (by simp) ?_
  refine (AllReadyH.cons rfl (fun K hK => ?_) AllReadyH.nil)
  go_simp
  (go_at_call 14; go_split_ands; refine (cP2.out _ (by assumption)).mono ?_; rintro e w5 ⟨rfl, hbw5⟩)
  refine hK.out _ _ ?_ (fun hHeld => ?_)
  · ((first
      | exact HC.out _ (Below.refl _ _)
      | exact HC.out _ (Below.refl _ _).drew
      | (go_split_ands; exact HC.out _ (below_self (by assumption) (by assumption)))
      | (go_split_ands; exact HC.out _ (Below.drew (by assumption)))
      | (go_split_ands; exact HC.out _ (by assumption))))
  clear hK K
  try simp only [Act.put, List.setIfInBounds_toArray, List.set_cons_zero, List.set_cons_succ, List.getElem_toArray, List.getElem_cons_zero, List.getElem_cons_succ]
  refine wpAnyH_take (i := 17) (v := ?_) rfl (by kernel_rfl) (by kernel_rfl) (by kernel_rfl) (fun _ _ _ h => h) (Or.inl ⟨by rfl, ?_⟩) (by assumption) ?_
  rotate_left
  · (intro w hSw; (try dsimp only at hSw); go_simp; try rfl)
  try simp only [Act.put, List.setIfInBounds_toArray, List.set_cons_zero, List.set_cons_succ, List.getElem_toArray, List.getElem_cons_zero, List.getElem_cons_succ]
  refine wpAnyH_take (i := 18) (v := ?_) rfl (by kernel_rfl) (by kernel_rfl) (by kernel_rfl) (fun _ _ _ h => h) (Or.inl ⟨by rfl, ?_⟩) (by assumption) ?_
  rotate_left
  · (intro w hSw; (try dsimp only at hSw); go_simp; try rfl)
  try simp only [Act.put, List.setIfInBounds_toArray, List.set_cons_zero, List.set_cons_succ, List.getElem_toArray, List.getElem_cons_zero, List.getElem_cons_succ]
  refine wpAnyH_take (i := 19) (v := ?_) rfl (by kernel_rfl) (by kernel_rfl) (by kernel_rfl) (fun _ _ _ h => h) (Or.inl ⟨by rfl, ?_⟩) (by assumption) ?_
  rotate_left
  · (intro w hSw; (try dsimp only at hSw); go_simp; try rfl)
  try simp only [Act.put, List.setIfInBounds_toArray, List.set_cons_zero, List.set_cons_succ, List.getElem_toArray, List.getElem_cons_zero, List.getElem_cons_succ]
  refine wpAnyH_take (i := 20) (v := ?_) rfl (by kernel_rfl) (by kernel_rfl) (by kernel_rfl) (fun _ _ _ h => h) (Or.inl ⟨by rfl, ?_⟩) (by assumption) ?_
  rotate_left
  · (intro w hSw; (try dsimp only at hSw); go_simp; try rfl)
  try simp only [Act.put, List.setIfInBounds_toArray, List.set_cons_zero, List.set_cons_succ, List.getElem_toArray, List.getElem_cons_zero, List.getElem_cons_succ]
  refine wpAnyH_take (i := 21) (v := ?_) rfl (by kernel_rfl) (by kernel_rfl) (by kernel_rfl) (fun _ _ _ h => h) (Or.inl ⟨by rfl, ?_⟩) (by assumption) ?_
  rotate_left
  · (intro w hSw; (try dsimp only at hSw); go_simp; try rfl)
  try simp only [Act.put, List.setIfInBounds_toArray, List.set_cons_zero, List.set_cons_succ, List.getElem_toArray, List.getElem_cons_zero, List.getElem_cons_succ]
  refine wpAnyH_take (i := 22) (v := ?_) rfl (by kernel_rfl) (by kernel_rfl) (by kernel_rfl) (fun _ _ _ h => h) (Or.inl ⟨by rfl, ?_⟩) (by assumption) ?_
  rotate_left
  · (intro w hSw; (try dsimp only at hSw); go_simp; try rfl)
  try simp only [Act.put, List.setIfInBounds_toArray, List.set_cons_zero, List.set_cons_succ, List.getElem_toArray, List.getElem_cons_zero, List.getElem_cons_succ]
  refine wpAnyH_take (i := 23) (v := ?_) rfl (by kernel_rfl) (by kernel_rfl) (by kernel_rfl) (fun _ _ _ h => h) (Or.inl ⟨by rfl, ?_⟩) (by assumption) ?_
  rotate_left
  · (intro w hSw; (try dsimp only at hSw); go_simp; try rfl)
  try simp only [Act.put, List.setIfInBounds_toArray, List.set_cons_zero, List.set_cons_succ, List.getElem_toArray, List.getElem_cons_zero, List.getElem_cons_succ]
  refine wpAnyH_take (i := 24) (v := ?_) rfl (by kernel_rfl) (by kernel_rfl) (by kernel_rfl) (fun _ _ _ h => h) (Or.inl ⟨by rfl, ?_⟩) (by assumption) ?_
  rotate_left
  · (intro w hSw; (try dsimp only at hSw); go_simp; try rfl)
  try simp only [Act.put, List.setIfInBounds_toArray, List.set_cons_zero, List.set_cons_succ, List.getElem_toArray, List.getElem_cons_zero, List.getElem_cons_succ]
  refine wpAnyH_take (i := 26) (v := ?_) rfl (by kernel_rfl) (by kernel_rfl) (by kernel_rfl) (fun _ _ _ h => h) (Or.inl ⟨by rfl, ?_⟩) (by assumption) ?_
  rotate_left
  · (intro w hSw; (try dsimp only at hSw); go_simp; try rfl)
  try simp only [Act.put, List.setIfInBounds_toArray, List.set_cons_zero, List.set_cons_succ, List.getElem_toArray, List.getElem_cons_zero, List.getElem_cons_succ]
  refine wpAnyH_take (i := 27) (v := ?_) rfl (by kernel_rfl) (by kernel_rfl) (by kernel_rfl) (fun _ _ _ h => h) (Or.inl ⟨by rfl, ?_⟩) (by assumption) ?_
  rotate_left
  · (intro w hSw; (try dsimp only at hSw); go_simp; try rfl)
  try simp only [Act.put, List.setIfInBounds_toArray, List.set_cons_zero, List.set_cons_succ, List.getElem_toArray, List.getElem_cons_zero, List.getElem_cons_succ]
  refine wpAnyH_take (i := 28) (v := ?_) rfl (by kernel_rfl) (by kernel_rfl) (by kernel_rfl) (fun _ _ _ h => h) (Or.inl ⟨by rfl, ?_⟩) (by assumption) ?_
  rotate_left
  · (intro w hSw; (try dsimp only at hSw); go_simp; try rfl)
  try simp only [Act.put, List.setIfInBounds_toArray, List.set_cons_zero, List.set_cons_succ, List.getElem_toArray, List.getElem_cons_zero, List.getElem_cons_succ]
  refine wpAnyH_take (i := 29) (v := ?_) rfl (by kernel_rfl) (by kernel_rfl) (by kernel_rfl) (fun _ _ _ h => h) (Or.inl ⟨by rfl, ?_⟩) (by assumption) ?_
  rotate_left
  · (intro w hSw; (try dsimp only at hSw); go_simp; try rfl)
  try simp only [Act.put, List.setIfInBounds_toArray, List.set_cons_zero, List.set_cons_succ, List.getElem_toArray, List.getElem_cons_zero, List.getElem_cons_succ]
  refine wpAnyH_take (i := 30) (v := ?_) rfl (by kernel_rfl) (by kernel_rfl) (by kernel_rfl) (fun _ _ _ h => h) (Or.inl ⟨by rfl, ?_⟩) (by assumption) ?_
  rotate_left
  · (intro w hSw; (try dsimp only at hSw); go_simp; try rfl)
  try simp only [Act.put, List.setIfInBounds_toArray, List.set_cons_zero, List.set_cons_succ, List.getElem_toArray, List.getElem_cons_zero, List.getElem_cons_succ]
  refine wpAnyH_ready (rs := [25]) (by kernel_rfl) (by simp) ?_
  refine (AllReadyH.cons rfl (fun K hK => ?_) AllReadyH.nil)
  go_simp
  (go_at_call 16; go_split_ands; refine (cB1.out _ (by assumption)).mono ?_; rintro e w5 ⟨rfl, hbw5⟩)
  refine hK.out _ _ ?_ (fun hHeld => ?_)
  · ((first
      | exact HC.out _ (Below.refl _ _)
      | exact HC.out _ (Below.refl _ _).drew
      | (go_split_ands; exact HC.out _ (below_self (by assumption) (by assumption)))
      | (go_split_ands; exact HC.out _ (Below.drew (by assumption)))
      | (go_split_ands; exact HC.out _ (by assumption))))
  clear hK K
  try simp only [Act.put, List.setIfInBounds_toArray, List.set_cons_zero, List.set_cons_succ, List.getElem_toArray, List.getElem_cons_zero, List.getElem_cons_succ]
  refine wpAnyH_take (i := 31) (v := ?_) rfl (by kernel_rfl) (by kernel_rfl) (by kernel_rfl) (fun _ _ _ h => h) (Or.inl ⟨by rfl, ?_⟩) (by assumption) ?_
  rotate_left
  · (intro w hSw; (try dsimp only at hSw); go_simp; try rfl)
  try simp only [Act.put, List.setIfInBounds_toArray, List.set_cons_zero, List.set_cons_succ, List.getElem_toArray, List.getElem_cons_zero, List.getElem_cons_succ]
  refine wpAnyH_take (i := 32) (v := ?_) rfl (by kernel_rfl) (by kernel_rfl) (by kernel_rfl) (fun _ _ _ h => h) (Or.inl ⟨by rfl, ?_⟩) (by assumption) ?_
  rotate_left
  · (intro w hSw; (try dsimp only at hSw); go_simp; try rfl)
  try simp only [Act.put, List.setIfInBounds_toArray, List.set_cons_zero, List.set_cons_succ, List.getElem_toArray, List.getElem_cons_zero, List.getElem_cons_succ]
  refine wpAnyH_take (i := 33) (v := ?_) rfl (by kernel_rfl) (by kernel_rfl) (by kernel_rfl) (fun _ _ _ h => h) (Or.inl ⟨by rfl, ?_⟩) (by assumption) ?_
  rotate_left
  · (intro w hSw; (try dsimp only at hSw); go_simp; try rfl)
  try simp only [Act.put, List.setIfInBounds_toArray, List.set_cons_zero, List.set_cons_succ, List.getElem_toArray, List.getElem_cons_zero, List.getElem_cons_succ]
  refine wpAnyH_take (i := 34) (v := ?_) rfl (by kernel_rfl) (by kernel_rfl) (by kernel_rfl) (fun _ _ _ h => h) (Or.inl ⟨by rfl, ?_⟩) (by assumption) ?_
  rotate_left
  · (intro w hSw; (try dsimp only at hSw); go_simp; try rfl)
  try simp only [Act.put, List.setIfInBounds_toArray, List.set_cons_zero, List.set_cons_succ, List.getElem_toArray, List.getElem_cons_zero, List.getElem_cons_succ]
  refine wpAnyH_take (i := 35) (v := ?_) rfl (by kernel_rfl) (by kernel_rfl) (by kernel_rfl) (fun _ _ _ h => h) (Or.inl ⟨by rfl, ?_⟩) (by assumption) ?_
  rotate_left
  · (intro w hSw; (try dsimp only at hSw); go_simp; try rfl)
  try simp only [Act.put, List.setIfInBounds_toArray, List.set_cons_zero, List.set_cons_succ, List.getElem_toArray, List.getElem_cons_zero, List.getElem_cons_succ]
  refine wpAnyH_take (i := 36) (v := ?_) rfl (by kernel_rfl) (by kernel_rfl) (by kernel_rfl) (fun _ _ _ h => h) (Or.inl ⟨by rfl, ?_⟩) (by assumption) ?_
  rotate_left
  · (intro w hSw; (try dsimp only at hSw); go_simp; try rfl)
  try simp only [Act.put, List.setIfInBounds_toArray, List.set_cons_zero, List.set_cons_succ, List.getElem_toArray, List.getElem_cons_zero, List.getElem_cons_succ]
  refine wpAnyH_ready (rs := [37]) (by kernel_rfl) (by simp) ?_
  refine (AllReadyH.cons rfl (fun K hK => ?_) AllReadyH.nil)
  go_simp
  (go_at_call 16; go_split_ands; refine (cZ1.out _ (by assumption)).mono ?_; rintro e w5 ⟨rfl, hbw5⟩)
  refine hK.out _ _ ?_ (fun hHeld => ?_)
  · ((first
      | exact HC.out _ (Below.refl _ _)
      | exact HC.out _ (Below.refl _ _).drew
      | (go_split_ands; exact HC.out _ (below_self (by assumption) (by assumption)))
      | (go_split_ands; exact HC.out _ (Below.drew (by assumption)))
      | (go_split_ands; exact HC.out _ (by assumption))))
  clear hK K
  try simp only [Act.put, List.setIfInBounds_toArray, List.set_cons_zero, List.set_cons_succ, List.getElem_toArray, List.getElem_cons_zero, List.getElem_cons_succ]
  refine wpAnyH_take (i := 38) (v := ?_) rfl (by kernel_rfl) (by kernel_rfl) (by kernel_rfl) (fun _ _ _ h => h) (Or.inl ⟨by rfl, ?_⟩) (by assumption) ?_
  rotate_left
  · (intro w hSw; (try dsimp only at hSw); go_simp; try rfl)
  try simp only [Act.put, List.setIfInBounds_toArray, List.set_cons_zero, List.set_cons_succ, List.getElem_toArray, List.getElem_cons_zero, List.getElem_cons_succ]
  refine wpAnyH_take (i := 39) (v := ?_) rfl (by kernel_rfl) (by kernel_rfl) (by kernel_rfl) (fun _ _ _ h => h) (Or.inl ⟨by rfl, ?_⟩) (by assumption) ?_
  rotate_left
  · (intro w hSw; (try dsimp only at hSw); go_simp; try rfl)
  try simp only [Act.put, List.setIfInBounds_toArray, List.set_cons_zero, List.set_cons_succ, List.getElem_toArray, List.getElem_cons_zero, List.getElem_cons_succ]
  refine wpAnyH_take (i := 40) (v := ?_) rfl (by kernel_rfl) (by kernel_rfl) (by kernel_rfl) (fun _ _ _ h => h) (Or.inl ⟨by rfl, ?_⟩) (by assumption) ?_
  rotate_left
  · (intro w hSw; (try dsimp only at hSw); go_simp; try rfl)
  try simp only [Act.put, List.setIfInBounds_toArray, List.set_cons_zero, List.set_cons_succ, List.getElem_toArray, List.getElem_cons_zero, List.getElem_cons_succ]
  refine wpAnyH_take (i := 41) (v := ?_) rfl (by kernel_rfl) (by kernel_rfl) (by kernel_rfl) (fun _ _ _ h => h) (Or.inl ⟨by rfl, ?_⟩) (by assumption) ?_
  rotate_left
  · (intro w hSw; (try dsimp only at hSw); go_simp; try rfl)
  try simp only [Act.put, List.setIfInBounds_toArray, List.set_cons_zero, List.set_cons_succ, List.getElem_toArray, List.getElem_cons_zero, List.getElem_cons_succ]
  refine wpAnyH_take (i := 42) (v := ?_) rfl (by kernel_rfl) (by kernel_rfl) (by kernel_rfl) (fun _ _ _ h => h) (Or.inl ⟨by rfl, ?_⟩) (by assumption) ?_
  rotate_left
  · (intro w hSw; (try dsimp only at hSw); go_simp; try rfl)
  try simp only [Act.put, List.setIfInBounds_toArray, List.set_cons_zero, List.set_cons_succ, List.getElem_toArray, List.getElem_cons_zero, List.getElem_cons_succ]
  refine wpAnyH_ready (rs := [43]) (by kernel_rfl) (by simp) ?_
  refine (AllReadyH.cons rfl (fun K hK => ?_) AllReadyH.nil)
  go_simp
  (go_at_call 16; go_split_ands; refine (cZ2.out _ (by assumption)).mono ?_; rintro e w5 ⟨rfl, hbw5⟩)
  refine hK.out _ _ ?_ (fun hHeld => ?_)
  · ((first
      | exact HC.out _ (Below.refl _ _)
      | exact HC.out _ (Below.refl _ _).drew
      | (go_split_ands; exact HC.out _ (below_self (by assumption) (by assumption)))
      | (go_split_ands; exact HC.out _ (Below.drew (by assumption)))
      | (go_split_ands; exact HC.out _ (by assumption))))
  clear hK K
  try simp only [Act.put, List.setIfInBounds_toArray, List.set_cons_zero, List.set_cons_succ, List.getElem_toArray, List.getElem_cons_zero, List.getElem_cons_succ]
  refine wpAnyH_take (i := 44) (v := ?_) rfl (by kernel_rfl) (by kernel_rfl) (by kernel_rfl) (fun _ _ _ h => h) (Or.inl ⟨by rfl, ?_⟩) (by assumption) ?_
  rotate_left
  · (intro w hSw; (try dsimp only at hSw); go_simp; try rfl)
  try simp only [Act.put, List.setIfInBounds_toArray, List.set_cons_zero, List.set_cons_succ, List.getElem_toArray, List.getElem_cons_zero, List.getElem_cons_succ]
  refine wpAnyH_take (i := 45) (v := ?_) rfl (by kernel_rfl) (by kernel_rfl) (by kernel_rfl) (fun _ _ _ h => h) (Or.inl ⟨by rfl, ?_⟩) (by assumption) ?_
  rotate_left
  · (intro w hSw; (try dsimp only at hSw); go_simp; try rfl)
  try simp only [Act.put, List.setIfInBounds_toArray, List.set_cons_zero, List.set_cons_succ, List.getElem_toArray, List.getElem_cons_zero, List.getElem_cons_succ]
  refine wpAnyH_take (i := 46) (v := ?_) rfl (by kernel_rfl) (by kernel_rfl) (by kernel_rfl) (fun _ _ _ h => h) (Or.inl ⟨by rfl, ?_⟩) (by assumption) ?_
  rotate_left
  · (intro w hSw; (try dsimp only at hSw); go_simp; try rfl)
  try simp only [Act.put, List.setIfInBounds_toArray, List.set_cons_zero, List.set_cons_succ, List.getElem_toArray, List.getElem_cons_zero, List.getElem_cons_succ]
  refine wpAnyH_done (by kernel_rfl) ?_ _
  go_split_ands
  go_wp2
  go_ret
  exact ⟨rfl, HBR.out.trans (Below.mono (by assumption) (Nat.le_of_lt hX0))⟩
end Go.Proofs.Ytphddigohmdbnaa
