/-
  The walks of package touch: whether two commands matter to each other.
-/
import Derived.Test.YtphddigohmdbnaaTchN
namespace Go.Proofs.Ytphddigohmdbnaa
open Go.RowKit
set_option linter.unusedSimpArgs false
set_option linter.unusedVariables false

theorem two_below (w : World) (o1 o2 : Obj) : Below w.heap.size w ((w.alloc o1).alloc o2) := ((Below.refl _ _).alloc (Nat.le_refl _) _).alloc (by simp) _
set_option maxRecDepth 100000 in
set_option maxHeartbeats 4000000 in
theorem tpaths_any (c1 s1 o1 : Int) (p1 x1 : ByteArray) (n1 a1 b1 : Int) (c2 s2 o2 : Int) (p2 x2 : ByteArray) (n2 a2 b2 : Int) (w : World) (hp1 : p1.size ≤ 1000) (hp2 : p2.size ≤ 1000) (hm : ML w) :
    Calls Try.prog 14 #[.agg #[.int .i64 c1, .int .i64 s1, .int .i64 o1, .string p1, .string x1, .int .i64 n1, .int .i64 a1, .int .i64 b1], .agg #[.int .i64 c2, .int .i64 s2, .int .i64 o2, .string p2, .string x2, .int .i64 n2, .int .i64 a2, .int .i64 b2]] w fun e w' => e = .returned (.bool (mtr o1 p1 o2 p2)) ∧ Below w.heap.size w w' := by
  have hM1 : ML ((w.alloc (.cells #[.int .i64 c1, .int .i64 s1, .int .i64 o1, .string p1, .string x1, .int .i64 n1, .int .i64 a1, .int .i64 b1] 24)).alloc (.cells #[.int .i64 c2, .int .i64 s2, .int .i64 o2, .string p2, .string x2, .int .i64 n2, .int .i64 a2, .int .i64 b2] 24)) := hm.below (two_below _ _ _)
  have HM1 := Lib.hid hM1
  have cD := disturbs_try c1 s1 o1 p1 x1 n1 a1 b1 c2 s2 o2 p2 x2 n2 a2 b2 ((w.alloc (.cells #[.int .i64 c1, .int .i64 s1, .int .i64 o1, .string p1, .string x1, .int .i64 n1, .int .i64 a1, .int .i64 b1] 24)).alloc (.cells #[.int .i64 c2, .int .i64 s2, .int .i64 o2, .string p2, .string x2, .int .i64 n2, .int .i64 a2, .int .i64 b2] 24)) hp1 hp2 hM1
  cases h1 : dst o1 p1 o2 p2 with
  | true =>
    have e : mtr o1 p1 o2 p2 = true := by unfold mtr; rw [h1]; rfl
    rw [e]
    rw [h1] at cD
    clear e h1 hM1 hm
    go_enter Try.func14, Try.ntmps14
    go_wp2_with fail
    refine cD.mono ?_
    rintro e w1 ⟨rfl, hb⟩
    have HB := Lib.hid ((two_below _ _ _).trans (hb.mono (by simp; omega)))
    obtain ⟨hcb, hfb⟩ := bcell hb
    clear cD hb
    go_wp2
    go_ret
    exact ⟨rfl, HB.out⟩
  | false =>
    have e : mtr o1 p1 o2 p2 = dst o2 p2 o1 p1 := by unfold mtr; rw [h1]; rfl
    obtain ⟨D, hD⟩ : ∃ D, dst o2 p2 o1 p1 = D := ⟨_, rfl⟩
    rw [e, hD]
    rw [h1] at cD
    have HD := Lib.hid hD
    clear e h1 hM1 hm hD
    go_enter Try.func14, Try.ntmps14
    go_wp2_with fail
    refine cD.mono ?_
    rintro e w1 ⟨rfl, hb⟩
    have cE := disturbs_try c2 s2 o2 p2 x2 n2 a2 b2 c1 s1 o1 p1 x1 n1 a1 b1 w1 hp2 hp1 (HM1.out.below hb)
    rw [HD.out] at cE
    have HB := Lib.hid ((two_below _ _ _).trans (hb.mono (by simp; omega)))
    obtain ⟨hcb, hfb⟩ := bcell hb
    clear cD hb
    go_wp2_with fail
    refine cE.mono ?_
    rintro e w2 ⟨rfl, hb2⟩
    have HB2 := Lib.hid (below_self HB.out hb2)
    clear cE hb2
    go_wp2
    go_ret
    exact ⟨rfl, HB2.out⟩
set_option maxRecDepth 100000 in
set_option maxHeartbeats 4000000 in
theorem both_z1 (c1 s1 o1 : Int) (p1 x1 : ByteArray) (n1 a1 b1 : Int) (c2 s2 o2 : Int) (p2 x2 : ByteArray) (n2 a2 b2 : Int) (w : World) (hp1 : p1.size ≤ 1000) (hp2 : p2.size ≤ 1000) (hm : ML w) (h1 : o1 = 0) :
    Calls Try.prog 16 #[.agg #[.int .i64 c1, .int .i64 s1, .int .i64 o1, .string p1, .string x1, .int .i64 n1, .int .i64 a1, .int .i64 b1], .agg #[.int .i64 c2, .int .i64 s2, .int .i64 o2, .string p2, .string x2, .int .i64 n2, .int .i64 a2, .int .i64 b2]] w fun e w' => e = .returned (.bool (false)) ∧ Below w.heap.size w w' := by
  have hM1 : ML ((w.alloc (.cells #[.int .i64 c1, .int .i64 s1, .int .i64 o1, .string p1, .string x1, .int .i64 n1, .int .i64 a1, .int .i64 b1] 24)).alloc (.cells #[.int .i64 c2, .int .i64 s2, .int .i64 o2, .string p2, .string x2, .int .i64 n2, .int .i64 a2, .int .i64 b2] 24)) := hm.below (two_below _ _ _)
  have HM1 := Lib.hid hM1
  have HB0 := Lib.hid (two_below w (.cells #[.int .i64 c1, .int .i64 s1, .int .i64 o1, .string p1, .string x1, .int .i64 n1, .int .i64 a1, .int .i64 b1] 24) (.cells #[.int .i64 c2, .int .i64 s2, .int .i64 o2, .string p2, .string x2, .int .i64 n2, .int .i64 a2, .int .i64 b2] 24))
  have z1 : (o1 == 0) = true := by simpa using h1
  clear h1
  clear hm hM1
  go_enter Try.func16, Try.ntmps16
  go_wp2
  go_ret
  exact ⟨rfl, HB0.out⟩
set_option maxRecDepth 100000 in
set_option maxHeartbeats 4000000 in
theorem both_z2 (c1 s1 o1 : Int) (p1 x1 : ByteArray) (n1 a1 b1 : Int) (c2 s2 o2 : Int) (p2 x2 : ByteArray) (n2 a2 b2 : Int) (w : World) (hp1 : p1.size ≤ 1000) (hp2 : p2.size ≤ 1000) (hm : ML w) (h1 : o1 ≠ 0) (h2 : o2 = 0) :
    Calls Try.prog 16 #[.agg #[.int .i64 c1, .int .i64 s1, .int .i64 o1, .string p1, .string x1, .int .i64 n1, .int .i64 a1, .int .i64 b1], .agg #[.int .i64 c2, .int .i64 s2, .int .i64 o2, .string p2, .string x2, .int .i64 n2, .int .i64 a2, .int .i64 b2]] w fun e w' => e = .returned (.bool (false)) ∧ Below w.heap.size w w' := by
  have hM1 : ML ((w.alloc (.cells #[.int .i64 c1, .int .i64 s1, .int .i64 o1, .string p1, .string x1, .int .i64 n1, .int .i64 a1, .int .i64 b1] 24)).alloc (.cells #[.int .i64 c2, .int .i64 s2, .int .i64 o2, .string p2, .string x2, .int .i64 n2, .int .i64 a2, .int .i64 b2] 24)) := hm.below (two_below _ _ _)
  have HM1 := Lib.hid hM1
  have HB0 := Lib.hid (two_below w (.cells #[.int .i64 c1, .int .i64 s1, .int .i64 o1, .string p1, .string x1, .int .i64 n1, .int .i64 a1, .int .i64 b1] 24) (.cells #[.int .i64 c2, .int .i64 s2, .int .i64 o2, .string p2, .string x2, .int .i64 n2, .int .i64 a2, .int .i64 b2] 24))
  have z1 : (o1 == 0) = false := by simpa using h1
  have z2 : (o2 == 0) = true := by simpa using h2
  clear h1 h2
  clear hm hM1
  go_enter Try.func16, Try.ntmps16
  go_wp2
  go_ret
  exact ⟨rfl, HB0.out⟩
set_option maxRecDepth 100000 in
set_option maxHeartbeats 4000000 in
theorem both_c1 (c1 s1 o1 : Int) (p1 x1 : ByteArray) (n1 a1 b1 : Int) (c2 s2 o2 : Int) (p2 x2 : ByteArray) (n2 a2 b2 : Int) (w : World) (hp1 : p1.size ≤ 1000) (hp2 : p2.size ≤ 1000) (hm : ML w) (h1 : o1 ≠ 0) (h2 : o2 ≠ 0) (k1 : ctl o1 = true) :
    Calls Try.prog 16 #[.agg #[.int .i64 c1, .int .i64 s1, .int .i64 o1, .string p1, .string x1, .int .i64 n1, .int .i64 a1, .int .i64 b1], .agg #[.int .i64 c2, .int .i64 s2, .int .i64 o2, .string p2, .string x2, .int .i64 n2, .int .i64 a2, .int .i64 b2]] w fun e w' => e = .returned (.bool (true)) ∧ Below w.heap.size w w' := by
  have hM1 : ML ((w.alloc (.cells #[.int .i64 c1, .int .i64 s1, .int .i64 o1, .string p1, .string x1, .int .i64 n1, .int .i64 a1, .int .i64 b1] 24)).alloc (.cells #[.int .i64 c2, .int .i64 s2, .int .i64 o2, .string p2, .string x2, .int .i64 n2, .int .i64 a2, .int .i64 b2] 24)) := hm.below (two_below _ _ _)
  have HM1 := Lib.hid hM1
  have HB0 := Lib.hid (two_below w (.cells #[.int .i64 c1, .int .i64 s1, .int .i64 o1, .string p1, .string x1, .int .i64 n1, .int .i64 a1, .int .i64 b1] 24) (.cells #[.int .i64 c2, .int .i64 s2, .int .i64 o2, .string p2, .string x2, .int .i64 n2, .int .i64 a2, .int .i64 b2] 24))
  have z1 : (o1 == 0) = false := by simpa using h1
  have z2 : (o2 == 0) = false := by simpa using h2
  clear h1 h2
  clear hm hM1
  go_enter Try.func16, Try.ntmps16
  go_wp2_with fail
  refine (control_any c1 s1 o1 p1 x1 n1 a1 b1 _).mono ?_
  rw [k1]
  rintro e w1 ⟨rfl, hb⟩
  have HB1 := Lib.hid (HB0.out.trans (hb.mono (by simp; omega)))
  have HM2 := Lib.hid (HM1.out.below hb)
  obtain ⟨hcb, hfb⟩ := bcell hb
  have hl1 : w.heap.size < w1.heap.size := Nat.lt_of_lt_of_le (by simp; omega) hb.size
  have hl2 : w.heap.size + 1 < w1.heap.size := Nat.lt_of_lt_of_le (by simp) hb.size
  clear hb
  go_wp2
  go_ret
  exact ⟨rfl, HB1.out⟩
set_option maxRecDepth 100000 in
set_option maxHeartbeats 4000000 in
theorem both_c2 (c1 s1 o1 : Int) (p1 x1 : ByteArray) (n1 a1 b1 : Int) (c2 s2 o2 : Int) (p2 x2 : ByteArray) (n2 a2 b2 : Int) (w : World) (hp1 : p1.size ≤ 1000) (hp2 : p2.size ≤ 1000) (hm : ML w) (h1 : o1 ≠ 0) (h2 : o2 ≠ 0) (k1 : ctl o1 = false) (k2 : ctl o2 = true) :
    Calls Try.prog 16 #[.agg #[.int .i64 c1, .int .i64 s1, .int .i64 o1, .string p1, .string x1, .int .i64 n1, .int .i64 a1, .int .i64 b1], .agg #[.int .i64 c2, .int .i64 s2, .int .i64 o2, .string p2, .string x2, .int .i64 n2, .int .i64 a2, .int .i64 b2]] w fun e w' => e = .returned (.bool (true)) ∧ Below w.heap.size w w' := by
  have hM1 : ML ((w.alloc (.cells #[.int .i64 c1, .int .i64 s1, .int .i64 o1, .string p1, .string x1, .int .i64 n1, .int .i64 a1, .int .i64 b1] 24)).alloc (.cells #[.int .i64 c2, .int .i64 s2, .int .i64 o2, .string p2, .string x2, .int .i64 n2, .int .i64 a2, .int .i64 b2] 24)) := hm.below (two_below _ _ _)
  have HM1 := Lib.hid hM1
  have HB0 := Lib.hid (two_below w (.cells #[.int .i64 c1, .int .i64 s1, .int .i64 o1, .string p1, .string x1, .int .i64 n1, .int .i64 a1, .int .i64 b1] 24) (.cells #[.int .i64 c2, .int .i64 s2, .int .i64 o2, .string p2, .string x2, .int .i64 n2, .int .i64 a2, .int .i64 b2] 24))
  have z1 : (o1 == 0) = false := by simpa using h1
  have z2 : (o2 == 0) = false := by simpa using h2
  clear h1 h2
  clear hm hM1
  go_enter Try.func16, Try.ntmps16
  go_wp2_with fail
  refine (control_any c1 s1 o1 p1 x1 n1 a1 b1 _).mono ?_
  rw [k1]
  rintro e w1 ⟨rfl, hb⟩
  have HB1 := Lib.hid (HB0.out.trans (hb.mono (by simp; omega)))
  have HM2 := Lib.hid (HM1.out.below hb)
  obtain ⟨hcb, hfb⟩ := bcell hb
  have hl1 : w.heap.size < w1.heap.size := Nat.lt_of_lt_of_le (by simp; omega) hb.size
  have hl2 : w.heap.size + 1 < w1.heap.size := Nat.lt_of_lt_of_le (by simp) hb.size
  clear hb
  go_wp2_with fail
  refine (control_any c2 s2 o2 p2 x2 n2 a2 b2 _).mono ?_
  rw [k2]
  rintro e w2 ⟨rfl, hb⟩
  have HB2 := Lib.hid (below_self HB1.out hb)
  have HM3 := Lib.hid (HM2.out.below hb)
  obtain ⟨hcb2, hfb2⟩ := bcell hb
  clear hb
  go_wp2
  go_ret
  exact ⟨rfl, HB2.out⟩
set_option maxRecDepth 100000 in
set_option maxHeartbeats 4000000 in
theorem both_cl (c1 s1 o1 : Int) (p1 x1 : ByteArray) (n1 a1 b1 : Int) (c2 s2 o2 : Int) (p2 x2 : ByteArray) (n2 a2 b2 : Int) (w : World) (hp1 : p1.size ≤ 1000) (hp2 : p2.size ≤ 1000) (hm : ML w) (h1 : o1 ≠ 0) (h2 : o2 ≠ 0) (k1 : ctl o1 = false) (k2 : ctl o2 = false) (h3 : c1 = c2) :
    Calls Try.prog 16 #[.agg #[.int .i64 c1, .int .i64 s1, .int .i64 o1, .string p1, .string x1, .int .i64 n1, .int .i64 a1, .int .i64 b1], .agg #[.int .i64 c2, .int .i64 s2, .int .i64 o2, .string p2, .string x2, .int .i64 n2, .int .i64 a2, .int .i64 b2]] w fun e w' => e = .returned (.bool (true)) ∧ Below w.heap.size w w' := by
  have hM1 : ML ((w.alloc (.cells #[.int .i64 c1, .int .i64 s1, .int .i64 o1, .string p1, .string x1, .int .i64 n1, .int .i64 a1, .int .i64 b1] 24)).alloc (.cells #[.int .i64 c2, .int .i64 s2, .int .i64 o2, .string p2, .string x2, .int .i64 n2, .int .i64 a2, .int .i64 b2] 24)) := hm.below (two_below _ _ _)
  have HM1 := Lib.hid hM1
  have HB0 := Lib.hid (two_below w (.cells #[.int .i64 c1, .int .i64 s1, .int .i64 o1, .string p1, .string x1, .int .i64 n1, .int .i64 a1, .int .i64 b1] 24) (.cells #[.int .i64 c2, .int .i64 s2, .int .i64 o2, .string p2, .string x2, .int .i64 n2, .int .i64 a2, .int .i64 b2] 24))
  have z1 : (o1 == 0) = false := by simpa using h1
  have z2 : (o2 == 0) = false := by simpa using h2
  clear h1 h2
  have z3 : (c1 == c2) = true := by simpa using h3
  clear h3
  clear hm hM1
  go_enter Try.func16, Try.ntmps16
  go_wp2_with fail
  refine (control_any c1 s1 o1 p1 x1 n1 a1 b1 _).mono ?_
  rw [k1]
  rintro e w1 ⟨rfl, hb⟩
  have HB1 := Lib.hid (HB0.out.trans (hb.mono (by simp; omega)))
  have HM2 := Lib.hid (HM1.out.below hb)
  obtain ⟨hcb, hfb⟩ := bcell hb
  have hl1 : w.heap.size < w1.heap.size := Nat.lt_of_lt_of_le (by simp; omega) hb.size
  have hl2 : w.heap.size + 1 < w1.heap.size := Nat.lt_of_lt_of_le (by simp) hb.size
  clear hb
  go_wp2_with fail
  refine (control_any c2 s2 o2 p2 x2 n2 a2 b2 _).mono ?_
  rw [k2]
  rintro e w2 ⟨rfl, hb⟩
  have HB2 := Lib.hid (below_self HB1.out hb)
  have HM3 := Lib.hid (HM2.out.below hb)
  obtain ⟨hcb2, hfb2⟩ := bcell hb
  clear hb
  go_wp2
  go_ret
  exact ⟨rfl, HB2.out⟩
set_option maxRecDepth 100000 in
set_option maxHeartbeats 4000000 in
theorem both_pt (c1 s1 o1 : Int) (p1 x1 : ByteArray) (n1 a1 b1 : Int) (c2 s2 o2 : Int) (p2 x2 : ByteArray) (n2 a2 b2 : Int) (w : World) (hp1 : p1.size ≤ 1000) (hp2 : p2.size ≤ 1000) (hm : ML w) (h1 : o1 ≠ 0) (h2 : o2 ≠ 0) (k1 : ctl o1 = false) (k2 : ctl o2 = false) (h3 : c1 ≠ c2) (D : Bool) (hD : mtr o1 p1 o2 p2 = D) :
    Calls Try.prog 16 #[.agg #[.int .i64 c1, .int .i64 s1, .int .i64 o1, .string p1, .string x1, .int .i64 n1, .int .i64 a1, .int .i64 b1], .agg #[.int .i64 c2, .int .i64 s2, .int .i64 o2, .string p2, .string x2, .int .i64 n2, .int .i64 a2, .int .i64 b2]] w fun e w' => e = .returned (.bool (D)) ∧ Below w.heap.size w w' := by
  have hM1 : ML ((w.alloc (.cells #[.int .i64 c1, .int .i64 s1, .int .i64 o1, .string p1, .string x1, .int .i64 n1, .int .i64 a1, .int .i64 b1] 24)).alloc (.cells #[.int .i64 c2, .int .i64 s2, .int .i64 o2, .string p2, .string x2, .int .i64 n2, .int .i64 a2, .int .i64 b2] 24)) := hm.below (two_below _ _ _)
  have HM1 := Lib.hid hM1
  have HB0 := Lib.hid (two_below w (.cells #[.int .i64 c1, .int .i64 s1, .int .i64 o1, .string p1, .string x1, .int .i64 n1, .int .i64 a1, .int .i64 b1] 24) (.cells #[.int .i64 c2, .int .i64 s2, .int .i64 o2, .string p2, .string x2, .int .i64 n2, .int .i64 a2, .int .i64 b2] 24))
  have z1 : (o1 == 0) = false := by simpa using h1
  have z2 : (o2 == 0) = false := by simpa using h2
  clear h1 h2
  have z3 : (c1 == c2) = false := by simpa using h3
  clear h3
  clear hm hM1
  go_enter Try.func16, Try.ntmps16
  go_wp2_with fail
  refine (control_any c1 s1 o1 p1 x1 n1 a1 b1 _).mono ?_
  rw [k1]
  rintro e w1 ⟨rfl, hb⟩
  have HB1 := Lib.hid (HB0.out.trans (hb.mono (by simp; omega)))
  have HM2 := Lib.hid (HM1.out.below hb)
  obtain ⟨hcb, hfb⟩ := bcell hb
  have hl1 : w.heap.size < w1.heap.size := Nat.lt_of_lt_of_le (by simp; omega) hb.size
  have hl2 : w.heap.size + 1 < w1.heap.size := Nat.lt_of_lt_of_le (by simp) hb.size
  clear hb
  go_wp2_with fail
  refine (control_any c2 s2 o2 p2 x2 n2 a2 b2 _).mono ?_
  rw [k2]
  rintro e w2 ⟨rfl, hb⟩
  have HB2 := Lib.hid (below_self HB1.out hb)
  have HM3 := Lib.hid (HM2.out.below hb)
  obtain ⟨hcb2, hfb2⟩ := bcell hb
  clear hb
  go_wp2_with fail
  refine (tpaths_any c1 s1 o1 p1 x1 n1 a1 b1 c2 s2 o2 p2 x2 n2 a2 b2 _ hp1 hp2 HM3.out).mono ?_
  rw [hD]
  rintro e w3 ⟨rfl, hb⟩
  have HB3 := Lib.hid (below_self HB2.out hb)
  obtain ⟨hcb3, hfb3⟩ := bcell hb
  clear hb
  go_wp2
  go_ret
  exact ⟨rfl, HB3.out⟩
theorem both_any (c1 s1 o1 : Int) (p1 x1 : ByteArray) (n1 a1 b1 : Int) (c2 s2 o2 : Int) (p2 x2 : ByteArray) (n2 a2 b2 : Int) (w : World) (hp1 : p1.size ≤ 1000) (hp2 : p2.size ≤ 1000) (hm : ML w) :
    Calls Try.prog 16 #[.agg #[.int .i64 c1, .int .i64 s1, .int .i64 o1, .string p1, .string x1, .int .i64 n1, .int .i64 a1, .int .i64 b1], .agg #[.int .i64 c2, .int .i64 s2, .int .i64 o2, .string p2, .string x2, .int .i64 n2, .int .i64 a2, .int .i64 b2]] w fun e w' => e = .returned (.bool (bth c1 o1 p1 c2 o2 p2)) ∧ Below w.heap.size w w' := by
  by_cases h1 : o1 = 0
  · have e : bth c1 o1 p1 c2 o2 p2 = false := by rw [h1]; rfl
    rw [e]; exact both_z1 c1 s1 o1 p1 x1 n1 a1 b1 c2 s2 o2 p2 x2 n2 a2 b2 w hp1 hp2 hm h1
  · by_cases h2 : o2 = 0
    · have e : bth c1 o1 p1 c2 o2 p2 = false := by rw [h2]; exact bth_none_r _ _ _ _ _
      rw [e]; exact both_z2 c1 s1 o1 p1 x1 n1 a1 b1 c2 s2 o2 p2 x2 n2 a2 b2 w hp1 hp2 hm h1 h2
    · have e : bth c1 o1 p1 c2 o2 p2 = (ctl o1 || ctl o2 || decide (c1 = c2) || mtr o1 p1 o2 p2) := by unfold bth; simp [h1, h2]
      rw [e]
      cases k1 : ctl o1 with
      | true => exact both_c1 c1 s1 o1 p1 x1 n1 a1 b1 c2 s2 o2 p2 x2 n2 a2 b2 w hp1 hp2 hm h1 h2 k1
      | false =>
        cases k2 : ctl o2 with
        | true => exact both_c2 c1 s1 o1 p1 x1 n1 a1 b1 c2 s2 o2 p2 x2 n2 a2 b2 w hp1 hp2 hm h1 h2 k1 k2
        | false =>
          by_cases h3 : c1 = c2
          · rw [decide_eq_true h3]; exact both_cl c1 s1 o1 p1 x1 n1 a1 b1 c2 s2 o2 p2 x2 n2 a2 b2 w hp1 hp2 hm h1 h2 k1 k2 h3
          · rw [decide_eq_false h3]; exact both_pt c1 s1 o1 p1 x1 n1 a1 b1 c2 s2 o2 p2 x2 n2 a2 b2 w hp1 hp2 hm h1 h2 k1 k2 h3 _ rfl
end Go.Proofs.Ytphddigohmdbnaa
