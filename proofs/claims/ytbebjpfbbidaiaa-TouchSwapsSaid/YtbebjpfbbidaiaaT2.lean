/-
  Texts put together: TchW.
-/
import Derived.Test.YtbebjpfbbidaiaaT1
namespace Go.Proofs.Ytbebjpfbbidaiaa.Tc
open Go.RowKit
set_option linter.unusedSimpArgs false
set_option linter.unusedVariables false

theorem four_below (w : World) (o1 o2 o3 o4 : Obj) : Below w.heap.size w ((((w.alloc o1).alloc o2).alloc o3).alloc o4) := ((((Below.refl _ _).alloc (Nat.le_refl _) _).alloc (by simp) _).alloc (by simp; omega) _).alloc (by simp; omega) _
theorem ex_b1 : bth 1 3 { data := #[47, 97] } 2 4 { data := #[47, 98] } = false := by decide +kernel
theorem ex_b2 : bth 3 1 { data := #[47, 97, 47, 98] } 4 5 { data := #[47, 97] } = true := by decide +kernel
theorem ex_b3 : bth 1 3 { data := #[47, 97] } 1 3 { data := #[47, 97] } = true := by decide +kernel
theorem ex_m4 : mtr 5 { data := #[47, 97] } 1 { data := #[47, 97, 47, 98] } = true := by decide +kernel
theorem ex_w0 : wrs 1 { data := #[47, 97, 47, 98] } = [({ data := #[47, 97, 47, 98] }, 101), ({ data := #[47, 97, 47, 98] }, 118), ({ data := #[47, 97] }, 107)] := by decide +kernel
theorem ex_r5 : rds 5 { data := #[47, 97] } = [({ data := #[47, 97] }, 101), ({ data := #[47, 97] }, 107)] := by decide +kernel
theorem ex_k6 : ctl 7 = true := by decide +kernel
theorem ex_b7 : bth 0 7 { data := #[] } 1 3 { data := #[47, 97] } = true := by decide +kernel
theorem ex_b8 : bth 0 0 { data := #[] } 1 3 { data := #[47, 97] } = false := by decide +kernel
set_option maxRecDepth 100000 in
set_option maxHeartbeats 8000000 in
theorem works_any (w : World) (hm : ML w) : Calls Try.prog 4 #[] w fun e w' => e = .returned (.bool true) ∧ Below w.heap.size w w' := by
  have HM := Lib.hid hm
  clear hm
  go_enter Try.func4, Try.ntmps4
  go_wp2_with fail
  have HBX := Lib.hid (four_below w (.cells #[.int .i64 1, .int .i64 0, .int .i64 3, .string { data := #[47, 97] }, .string { data := #[] }, .int .i64 0, .int .i64 0, .int .i64 0] 25) (.cells #[.int .i64 2, .int .i64 0, .int .i64 4, .string { data := #[47, 98] }, .string { data := #[] }, .int .i64 0, .int .i64 0, .int .i64 0] 25) (.cells #[.int .i64 3, .int .i64 0, .int .i64 1, .string { data := #[47, 97, 47, 98] }, .string { data := #[] }, .int .i64 0, .int .i64 0, .int .i64 0] 25) (.cells #[.int .i64 4, .int .i64 0, .int .i64 5, .string { data := #[47, 97] }, .string { data := #[] }, .int .i64 0, .int .i64 0, .int .i64 0] 25))
  refine (writes_any _ _ _ _ _ _ _ _ _ (by decide) (HM.out.below HBX.out)).mono ?_
  rw [ex_w0]
  rintro e w1 ⟨v1, he, ho, hb⟩
  subst he
  obtain ⟨g1, cc1, e1, hg1, _, hcl⟩ := ho.cells (by simp)
  have r1 := hcl 4 _ rfl
  have r2 := hcl 5 _ rfl
  have e1' : v1 = .slice (some ⟨g1, 0, none⟩) 3 cc1 := e1
  subst e1'
  have HB1 := Lib.hid (HBX.out.trans (hb.mono (by simp; omega)))
  have HM1 := Lib.hid (HM.out.below HB1.out)
  obtain ⟨hcb1, hfb1⟩ := bcell hb
  have hl0 : w.heap.size < w1.heap.size := Nat.lt_of_lt_of_le (by first | (simp; done) | (simp; omega)) hb.size
  have hl1 : w.heap.size + 1 < w1.heap.size := Nat.lt_of_lt_of_le (by first | (simp; done) | (simp; omega)) hb.size
  have hl2 : w.heap.size + 1 + 1 < w1.heap.size := Nat.lt_of_lt_of_le (by first | (simp; done) | (simp; omega)) hb.size
  have hl3 : w.heap.size + 1 + 1 + 1 < w1.heap.size := Nat.lt_of_lt_of_le (by simp) hb.size
  have d00 : w1.cell? ⟨w.heap.size, 0, none⟩ = some (.int .i64 1) := (hcb1 _ _ (by simp <;> omega)).trans (by simp [go_sem])
  have d01 : w1.cell? ⟨w.heap.size, 1, none⟩ = some (.int .i64 0) := (hcb1 _ _ (by simp <;> omega)).trans (by simp [go_sem])
  have d02 : w1.cell? ⟨w.heap.size, 2, none⟩ = some (.int .i64 3) := (hcb1 _ _ (by simp <;> omega)).trans (by simp [go_sem])
  have d03 : w1.cell? ⟨w.heap.size, 3, none⟩ = some (.string { data := #[47, 97] }) := (hcb1 _ _ (by simp <;> omega)).trans (by simp [go_sem])
  have d04 : w1.cell? ⟨w.heap.size, 4, none⟩ = some (.string { data := #[] }) := (hcb1 _ _ (by simp <;> omega)).trans (by simp [go_sem])
  have d05 : w1.cell? ⟨w.heap.size, 5, none⟩ = some (.int .i64 0) := (hcb1 _ _ (by simp <;> omega)).trans (by simp [go_sem])
  have d06 : w1.cell? ⟨w.heap.size, 6, none⟩ = some (.int .i64 0) := (hcb1 _ _ (by simp <;> omega)).trans (by simp [go_sem])
  have d07 : w1.cell? ⟨w.heap.size, 7, none⟩ = some (.int .i64 0) := (hcb1 _ _ (by simp <;> omega)).trans (by simp [go_sem])
  have d10 : w1.cell? ⟨w.heap.size + 1, 0, none⟩ = some (.int .i64 2) := (hcb1 _ _ (by simp <;> omega)).trans (by simp [go_sem])
  have d11 : w1.cell? ⟨w.heap.size + 1, 1, none⟩ = some (.int .i64 0) := (hcb1 _ _ (by simp <;> omega)).trans (by simp [go_sem])
  have d12 : w1.cell? ⟨w.heap.size + 1, 2, none⟩ = some (.int .i64 4) := (hcb1 _ _ (by simp <;> omega)).trans (by simp [go_sem])
  have d13 : w1.cell? ⟨w.heap.size + 1, 3, none⟩ = some (.string { data := #[47, 98] }) := (hcb1 _ _ (by simp <;> omega)).trans (by simp [go_sem])
  have d14 : w1.cell? ⟨w.heap.size + 1, 4, none⟩ = some (.string { data := #[] }) := (hcb1 _ _ (by simp <;> omega)).trans (by simp [go_sem])
  have d15 : w1.cell? ⟨w.heap.size + 1, 5, none⟩ = some (.int .i64 0) := (hcb1 _ _ (by simp <;> omega)).trans (by simp [go_sem])
  have d16 : w1.cell? ⟨w.heap.size + 1, 6, none⟩ = some (.int .i64 0) := (hcb1 _ _ (by simp <;> omega)).trans (by simp [go_sem])
  have d17 : w1.cell? ⟨w.heap.size + 1, 7, none⟩ = some (.int .i64 0) := (hcb1 _ _ (by simp <;> omega)).trans (by simp [go_sem])
  have d20 : w1.cell? ⟨w.heap.size + 1 + 1, 0, none⟩ = some (.int .i64 3) := (hcb1 _ _ (by simp <;> omega)).trans (by simp [go_sem])
  have d21 : w1.cell? ⟨w.heap.size + 1 + 1, 1, none⟩ = some (.int .i64 0) := (hcb1 _ _ (by simp <;> omega)).trans (by simp [go_sem])
  have d22 : w1.cell? ⟨w.heap.size + 1 + 1, 2, none⟩ = some (.int .i64 1) := (hcb1 _ _ (by simp <;> omega)).trans (by simp [go_sem])
  have d23 : w1.cell? ⟨w.heap.size + 1 + 1, 3, none⟩ = some (.string { data := #[47, 97, 47, 98] }) := (hcb1 _ _ (by simp <;> omega)).trans (by simp [go_sem])
  have d24 : w1.cell? ⟨w.heap.size + 1 + 1, 4, none⟩ = some (.string { data := #[] }) := (hcb1 _ _ (by simp <;> omega)).trans (by simp [go_sem])
  have d25 : w1.cell? ⟨w.heap.size + 1 + 1, 5, none⟩ = some (.int .i64 0) := (hcb1 _ _ (by simp <;> omega)).trans (by simp [go_sem])
  have d26 : w1.cell? ⟨w.heap.size + 1 + 1, 6, none⟩ = some (.int .i64 0) := (hcb1 _ _ (by simp <;> omega)).trans (by simp [go_sem])
  have d27 : w1.cell? ⟨w.heap.size + 1 + 1, 7, none⟩ = some (.int .i64 0) := (hcb1 _ _ (by simp <;> omega)).trans (by simp [go_sem])
  have d30 : w1.cell? ⟨w.heap.size + 1 + 1 + 1, 0, none⟩ = some (.int .i64 4) := (hcb1 _ _ (by simp <;> omega)).trans (by simp [go_sem])
  have d31 : w1.cell? ⟨w.heap.size + 1 + 1 + 1, 1, none⟩ = some (.int .i64 0) := (hcb1 _ _ (by simp <;> omega)).trans (by simp [go_sem])
  have d32 : w1.cell? ⟨w.heap.size + 1 + 1 + 1, 2, none⟩ = some (.int .i64 5) := (hcb1 _ _ (by simp <;> omega)).trans (by simp [go_sem])
  have d33 : w1.cell? ⟨w.heap.size + 1 + 1 + 1, 3, none⟩ = some (.string { data := #[47, 97] }) := (hcb1 _ _ (by simp <;> omega)).trans (by simp [go_sem])
  have d34 : w1.cell? ⟨w.heap.size + 1 + 1 + 1, 4, none⟩ = some (.string { data := #[] }) := (hcb1 _ _ (by simp <;> omega)).trans (by simp [go_sem])
  have d35 : w1.cell? ⟨w.heap.size + 1 + 1 + 1, 5, none⟩ = some (.int .i64 0) := (hcb1 _ _ (by simp <;> omega)).trans (by simp [go_sem])
  have d36 : w1.cell? ⟨w.heap.size + 1 + 1 + 1, 6, none⟩ = some (.int .i64 0) := (hcb1 _ _ (by simp <;> omega)).trans (by simp [go_sem])
  have d37 : w1.cell? ⟨w.heap.size + 1 + 1 + 1, 7, none⟩ = some (.int .i64 0) := (hcb1 _ _ (by simp <;> omega)).trans (by simp [go_sem])
  clear hb hcb1 hfb1 hcl ho e1
  go_wp2_with fail
  refine (both_any _ _ _ _ _ _ _ _ _ _ _ _ _ _ _ _ _ (by decide) (by decide) HM1.out).mono ?_
  rw [ex_b1]
  rintro e w2 ⟨rfl, hb⟩
  have HB2 := Lib.hid (below_self HB1.out hb)
  have HM2 := Lib.hid (HM1.out.below hb)
  obtain ⟨hcb2, hfb2⟩ := bcell hb
  have hs2 := hb.size
  have hl0_2 : w.heap.size < w2.heap.size := by omega
  have hl1_2 : w.heap.size + 1 < w2.heap.size := by omega
  have hl2_2 : w.heap.size + 1 + 1 < w2.heap.size := by omega
  have hl3_2 : w.heap.size + 1 + 1 + 1 < w2.heap.size := by omega
  have hg_2 : g1 < w2.heap.size := by omega
  clear hb
  go_wp2_with fail
  refine (both_any _ _ _ _ _ _ _ _ _ _ _ _ _ _ _ _ _ (by decide) (by decide) HM2.out).mono ?_
  rw [ex_b2]
  rintro e w3 ⟨rfl, hb⟩
  have HB3 := Lib.hid (below_self HB2.out hb)
  have HM3 := Lib.hid (HM2.out.below hb)
  obtain ⟨hcb3, hfb3⟩ := bcell hb
  have hs3 := hb.size
  have hl0_3 : w.heap.size < w3.heap.size := by omega
  have hl1_3 : w.heap.size + 1 < w3.heap.size := by omega
  have hl2_3 : w.heap.size + 1 + 1 < w3.heap.size := by omega
  have hl3_3 : w.heap.size + 1 + 1 + 1 < w3.heap.size := by omega
  have hg_3 : g1 < w3.heap.size := by omega
  clear hb
  go_wp2_with fail
  refine (both_any _ _ _ _ _ _ _ _ _ _ _ _ _ _ _ _ _ (by decide) (by decide) HM3.out).mono ?_
  rw [ex_b3]
  rintro e w4 ⟨rfl, hb⟩
  have HB4 := Lib.hid (below_self HB3.out hb)
  have HM4 := Lib.hid (HM3.out.below hb)
  obtain ⟨hcb4, hfb4⟩ := bcell hb
  have hs4 := hb.size
  have hl0_4 : w.heap.size < w4.heap.size := by omega
  have hl1_4 : w.heap.size + 1 < w4.heap.size := by omega
  have hl2_4 : w.heap.size + 1 + 1 < w4.heap.size := by omega
  have hl3_4 : w.heap.size + 1 + 1 + 1 < w4.heap.size := by omega
  have hg_4 : g1 < w4.heap.size := by omega
  clear hb
  go_wp2_with fail
  refine (tpaths_any _ _ _ _ _ _ _ _ _ _ _ _ _ _ _ _ _ (by decide) (by decide) HM4.out).mono ?_
  rw [ex_m4]
  rintro e w5 ⟨rfl, hb⟩
  have HB5 := Lib.hid (below_self HB4.out hb)
  have HM5 := Lib.hid (HM4.out.below hb)
  obtain ⟨hcb5, hfb5⟩ := bcell hb
  have hs5 := hb.size
  have hl0_5 : w.heap.size < w5.heap.size := by omega
  have hl1_5 : w.heap.size + 1 < w5.heap.size := by omega
  have hl2_5 : w.heap.size + 1 + 1 < w5.heap.size := by omega
  have hl3_5 : w.heap.size + 1 + 1 + 1 < w5.heap.size := by omega
  have hg_5 : g1 < w5.heap.size := by omega
  clear hb
  go_wp2_with fail
  refine (reads_any _ _ _ _ _ _ _ _ _ (by decide) HM5.out).mono ?_
  rw [ex_r5]
  rintro e w6 ⟨v6, he, ho, hb⟩
  subst he
  obtain ⟨a6, cc6, e6⟩ := ho.slice
  have e6' : v6 = .slice a6 2 cc6 := e6
  subst e6'
  have HB6 := Lib.hid (below_self HB5.out hb)
  have HM6 := Lib.hid (HM5.out.below hb)
  obtain ⟨hcb6, hfb6⟩ := bcell hb
  have hs6 := hb.size
  have hl0_6 : w.heap.size < w6.heap.size := by omega
  clear hb ho e6
  go_wp2_with fail
  refine (control_any _ _ _ _ _ _ _ _ _).mono ?_
  rw [ex_k6]
  rintro e w7 ⟨rfl, hb⟩
  have HB7 := Lib.hid (below_self HB6.out hb)
  have HM7 := Lib.hid (HM6.out.below hb)
  obtain ⟨hcb7, hfb7⟩ := bcell hb
  have hs7 := hb.size
  have hl0_7 : w.heap.size < w7.heap.size := by omega
  clear hb
  go_wp2_with fail
  refine (both_any _ _ _ _ _ _ _ _ _ _ _ _ _ _ _ _ _ (by decide) (by decide) HM7.out).mono ?_
  rw [ex_b7]
  rintro e w8 ⟨rfl, hb⟩
  have HB8 := Lib.hid (below_self HB7.out hb)
  have HM8 := Lib.hid (HM7.out.below hb)
  obtain ⟨hcb8, hfb8⟩ := bcell hb
  have hs8 := hb.size
  have hl0_8 : w.heap.size < w8.heap.size := by omega
  clear hb
  go_wp2_with fail
  refine (both_any _ _ _ _ _ _ _ _ _ _ _ _ _ _ _ _ _ (by decide) (by decide) HM8.out).mono ?_
  rw [ex_b8]
  rintro e w9 ⟨rfl, hb⟩
  have HB9 := Lib.hid (below_self HB8.out hb)
  have HM9 := Lib.hid (HM8.out.below hb)
  obtain ⟨hcb9, hfb9⟩ := bcell hb
  have hs9 := hb.size
  have hl0_9 : w.heap.size < w9.heap.size := by omega
  clear hb
  go_wp2
  go_ret
  exact ⟨rfl, HB9.out⟩
end Go.Proofs.Ytbebjpfbbidaiaa.Tc
