/-
  The walk of NumSizes.
-/
import Derived.Test.YtckjlglinmmohaaNumP
namespace Go.Proofs.Ytckjlglinmmohaa
open Go.RowKit
set_option linter.unusedSimpArgs false
set_option linter.unusedVariables false

theorem num_bad (b : Nat) (n : Int) (w : World) (hW : WrAt w b [] false) (h : ¬ okN n) :
    Calls Try.prog 19 #[.pointer (some ⟨b, 0, none⟩), .int .i64 n] w fun e w' => e = .returned (.pointer (some ⟨b, 0, none⟩)) ∧ WrAt w' b [] true ∧ Below b w w' :=
  wnum_bad b n [] false w hW h
theorem str_eq (a b : Int) (ha : okN a) (hb : okN b) : ((strB (enc a)).toList == (strB (enc b)).toList) = (a == b) := by
  rw [ByteArray.toList_eq, ByteArray.toList_eq]
  by_cases h : a = b
  · subst h; simp
  · have : (strB (enc a)).data.toList ≠ (strB (enc b)).data.toList := by
      intro e
      exact h ((str_enc ha hb).1 (by
        have := Array.toList_inj.1 e
        cases hx : strB (enc a); cases hy : strB (enc b); simp_all))
    rw [show (a == b) = false from by simpa using h]
    simpa using this
theorem num_one (b : Nat) (n : Int) (w : World) (hW : WrAt w b [] false) (h : okN n) :
    Calls Try.prog 19 #[.pointer (some ⟨b, 0, none⟩), .int .i64 n] w fun e w' => e = .returned (.pointer (some ⟨b, 0, none⟩)) ∧ WrAt w' b (enc n) false ∧ Below b w w' :=
  (wnum_good b n [] w hW h.1 h.2 (by simp)).mono fun e w' q => ⟨q.1, by simpa using q.2.1, q.2.2⟩

set_option maxHeartbeats 8000000 in
theorem sizes_good (a b : Int) (w : World) (ha : okN a) (hb : okN b) :
    Calls Try.prog 6 #[.int .i64 a, .int .i64 b] w fun e w' => e = .returned (.bool true) ∧ Below w.heap.size w w' := by
  have la := enc_length a ha.1 ha.2
  have sa := sizeN_seven ha
  have LA := Lib.hid la
  clear la
  have lb := enc_length b hb.1 hb.2
  have sb := sizeN_seven hb
  have LB := Lib.hid lb
  clear lb
  have hq := str_eq a b ha hb
  have hm : a ≤ b → sizeN a ≤ sizeN b := sizeN_mono ha hb
  have HQ := Lib.hid hq
  have HM := Lib.hid hm
  clear hq hm
  go_enter Try.func6, Try.ntmps6
  go_wp2_with fail
  refine (works_any _).mono ?_
  rintro e w0 ⟨rfl, hb0⟩
  have HB0 := Lib.hid hb0
  clear hb0
  go_wp2_with fail
  refine (new_any _).mono ?_
  rintro e w1 ⟨rfl, hz1, hW1, hb1⟩
  have HW1 := Lib.hid hW1
  have HB1 := Lib.hid hb1
  clear hW1 hb1
  go_wp2_with fail
  refine (num_one _ _ _ HW1.out ha).mono ?_
  rintro e w2 ⟨rfl, hW2, hb2⟩
  have HW2 := Lib.hid hW2
  have HB2 := Lib.hid hb2
  clear hW2 hb2
  go_wp2_with fail
  refine (wbytes_good _ _ _ HW2.out (by have := LA.out; omega)).mono ?_
  rintro e w3 ⟨⟨v3, he3, ho3⟩, hb3⟩
  obtain ⟨a3, cap3, rfl, hr3, hf3⟩ := brd_of_owns ho3 (by have := LA.out; omega)
  rw [he3.out]
  have HB3 := Lib.hid hb3
  have HR3 := Lib.hid hr3
  have HF3 := Lib.hid hf3
  clear hb3 hr3 hf3 ho3 he3
  go_wp2_with fail
  refine (new_any _).mono ?_
  rintro e w4 ⟨rfl, hz4, hW4, hb4⟩
  have HW4 := Lib.hid hW4
  have HB4 := Lib.hid hb4
  clear hW4 hb4
  go_wp2_with fail
  refine (num_one _ _ _ HW4.out hb).mono ?_
  rintro e w5 ⟨rfl, hW5, hb5⟩
  have HW5 := Lib.hid hW5
  have HB5 := Lib.hid hb5
  clear hW5 hb5
  go_wp2_with fail
  refine (wbytes_good _ _ _ HW5.out (by have := LB.out; omega)).mono ?_
  rintro e w6 ⟨⟨v6, he6, ho6⟩, hb6⟩
  obtain ⟨a6, cap6, rfl, hr6, hf6⟩ := brd_of_owns ho6 (by have := LB.out; omega)
  rw [he6.out]
  have HB6 := Lib.hid hb6
  have HR6 := Lib.hid hr6
  have HF6 := Lib.hid hf6
  clear hb6 hr6 hf6 ho6 he6
  cases a3 with
  | none => exact absurd HF3.out.2.1 (by have := HF3.out.1 rfl; have := LA.out; omega)
  | some ad3 =>
  cases a6 with
  | none => exact absurd HF6.out.2.1 (by have := HF6.out.1 rfl; have := LB.out; omega)
  | some ad6 =>
  obtain ⟨g3, o3, s3⟩ := ad3
  have hsp3 : s3 = none := HF3.out.2.2.2 _ rfl
  subst hsp3
  obtain ⟨g6, o6, s6⟩ := ad6
  have hsp6 : s6 = none := HF6.out.2.2.2 _ rfl
  subst hsp6
  have z4 := HB4.out.size
  have z5 := HB5.out.size
  have h36 : Below w3.heap.size w3 w6 := HB4.out.trans (HB5.out.trans (HB6.out.mono (by omega)))
  have H36 := Lib.hid h36
  clear h36
  have hr36 := HR3.out.below H36.out
  have hcv3 := conv_brd (c := cap3) hr36
  have hcv6 := conv_brd (c := cap6) HR6.out
  have hB : Below w.heap.size w w6 := HB0.out.trans ((HB1.out.mono HB0.out.size).trans ((HB2.out.mono HB0.out.size).trans ((HB3.out.mono (by have := HB0.out.size; have := HB1.out.size; have := HB2.out.size; omega)).trans (H36.out.mono (by have := HB0.out.size; have := HB1.out.size; have := HB2.out.size; have := HB3.out.size; omega)))))
  have HB := Lib.hid hB
  clear hB
  go_wp2_with (first | (go_at_call 21; refine (size_any _ _).mono ?_; rintro e w8 ⟨rfl, rfl⟩))
  all_goals go_ret
  all_goals first
    | exact ⟨rfl, HB.out⟩
    | (refine ⟨?_, HB.out⟩; have q1 := HQ.out; have q2 := HM.out; simp; omega)
    | (refine ⟨?_, HB.out⟩; have q1 := HQ.out; have q2 := HM.out; exfalso; omega)
    | (refine ⟨?_, HB.out⟩; have q1 := HQ.out; have q2 := HM.out; simp_all; done)
    | (refine ⟨?_, HB.out⟩; have q1 := HQ.out; have q2 := HM.out; exfalso; simp_all; done)
set_option maxHeartbeats 8000000 in
theorem sizes_badB (a b : Int) (w : World) (ha : okN a) (hb : ¬ okN b) :
    Calls Try.prog 6 #[.int .i64 a, .int .i64 b] w fun e w' => e = .returned (.bool true) ∧ Below w.heap.size w w' := by
  have la := enc_length a ha.1 ha.2
  have sa := sizeN_seven ha
  have LA := Lib.hid la
  clear la
  have sb := sizeN_bad hb
  go_enter Try.func6, Try.ntmps6
  go_wp2_with fail
  refine (works_any _).mono ?_
  rintro e w0 ⟨rfl, hb0⟩
  have HB0 := Lib.hid hb0
  clear hb0
  go_wp2_with fail
  refine (new_any _).mono ?_
  rintro e w1 ⟨rfl, hz1, hW1, hb1⟩
  have HW1 := Lib.hid hW1
  have HB1 := Lib.hid hb1
  clear hW1 hb1
  go_wp2_with fail
  refine (num_one _ _ _ HW1.out ha).mono ?_
  rintro e w2 ⟨rfl, hW2, hb2⟩
  have HW2 := Lib.hid hW2
  have HB2 := Lib.hid hb2
  clear hW2 hb2
  go_wp2_with fail
  refine (wbytes_good _ _ _ HW2.out (by have := LA.out; omega)).mono ?_
  rintro e w3 ⟨⟨v3, he3, ho3⟩, hb3⟩
  obtain ⟨a3, cap3, rfl, hr3, hf3⟩ := brd_of_owns ho3 (by have := LA.out; omega)
  rw [he3.out]
  have HB3 := Lib.hid hb3
  have HR3 := Lib.hid hr3
  have HF3 := Lib.hid hf3
  clear hb3 hr3 hf3 ho3 he3
  go_wp2_with fail
  refine (new_any _).mono ?_
  rintro e w4 ⟨rfl, hz4, hW4, hb4⟩
  have HW4 := Lib.hid hW4
  have HB4 := Lib.hid hb4
  clear hW4 hb4
  go_wp2_with fail
  refine (num_bad _ _ _ HW4.out hb).mono ?_
  rintro e w5 ⟨rfl, hW5, hb5⟩
  have HW5 := Lib.hid hW5
  have HB5 := Lib.hid hb5
  clear hW5 hb5
  go_wp2_with fail
  refine (wbytes_bad _ _ HW5.out).mono ?_
  rintro e w6 ⟨rfl, rfl⟩
  go_wp2_with (first | (go_at_call 21; refine (size_any _ _).mono ?_; rintro e w8 ⟨rfl, rfl⟩))
  all_goals go_ret
  all_goals have z0 := HB0.out.size
  all_goals have z1 := HB1.out.size
  all_goals have z2 := HB2.out.size
  all_goals have z3 := HB3.out.size
  all_goals have z4 := HB4.out.size
  all_goals have z5 := HB5.out.size
  all_goals exact ⟨by simp [sa, sb], ((HB0.out).trans ((HB1.out.mono (by omega)).trans ((HB2.out.mono (by omega)).trans ((HB3.out.mono (by omega)).trans ((HB4.out.mono (by omega)).trans (HB5.out.mono (by omega)))))))⟩
set_option maxHeartbeats 8000000 in
theorem sizes_badA (a b : Int) (w : World) (ha : ¬ okN a) (hb : okN b) :
    Calls Try.prog 6 #[.int .i64 a, .int .i64 b] w fun e w' => e = .returned (.bool true) ∧ Below w.heap.size w w' := by
  have sa := sizeN_bad ha
  have lb := enc_length b hb.1 hb.2
  have sb := sizeN_seven hb
  have LB := Lib.hid lb
  clear lb
  go_enter Try.func6, Try.ntmps6
  go_wp2_with fail
  refine (works_any _).mono ?_
  rintro e w0 ⟨rfl, hb0⟩
  have HB0 := Lib.hid hb0
  clear hb0
  go_wp2_with fail
  refine (new_any _).mono ?_
  rintro e w1 ⟨rfl, hz1, hW1, hb1⟩
  have HW1 := Lib.hid hW1
  have HB1 := Lib.hid hb1
  clear hW1 hb1
  go_wp2_with fail
  refine (num_bad _ _ _ HW1.out ha).mono ?_
  rintro e w2 ⟨rfl, hW2, hb2⟩
  have HW2 := Lib.hid hW2
  have HB2 := Lib.hid hb2
  clear hW2 hb2
  go_wp2_with fail
  refine (wbytes_bad _ _ HW2.out).mono ?_
  rintro e w3 ⟨rfl, rfl⟩
  go_wp2_with fail
  refine (new_any _).mono ?_
  rintro e w4 ⟨rfl, hz4, hW4, hb4⟩
  have HW4 := Lib.hid hW4
  have HB4 := Lib.hid hb4
  clear hW4 hb4
  go_wp2_with fail
  refine (num_one _ _ _ HW4.out hb).mono ?_
  rintro e w5 ⟨rfl, hW5, hb5⟩
  have HW5 := Lib.hid hW5
  have HB5 := Lib.hid hb5
  clear hW5 hb5
  go_wp2_with fail
  refine (wbytes_good _ _ _ HW5.out (by have := LB.out; omega)).mono ?_
  rintro e w6 ⟨⟨v6, he6, ho6⟩, hb6⟩
  obtain ⟨a6, cap6, rfl, hr6, hf6⟩ := brd_of_owns ho6 (by have := LB.out; omega)
  rw [he6.out]
  have HB6 := Lib.hid hb6
  have HR6 := Lib.hid hr6
  have HF6 := Lib.hid hf6
  clear hb6 hr6 hf6 ho6 he6
  go_wp2_with (first | (go_at_call 21; refine (size_any _ _).mono ?_; rintro e w8 ⟨rfl, rfl⟩))
  all_goals go_ret
  all_goals have z0 := HB0.out.size
  all_goals have z1 := HB1.out.size
  all_goals have z2 := HB2.out.size
  all_goals have z4 := HB4.out.size
  all_goals have z5 := HB5.out.size
  all_goals exact ⟨by simp [sa, sb], ((HB0.out).trans ((HB1.out.mono (by omega)).trans ((HB2.out.mono (by omega)).trans ((HB4.out.mono (by omega)).trans ((HB5.out.mono (by omega)).trans (HB6.out.mono (by omega)))))))⟩
set_option maxHeartbeats 8000000 in
theorem sizes_bad (a b : Int) (w : World) (ha : ¬ okN a) (hb : ¬ okN b) :
    Calls Try.prog 6 #[.int .i64 a, .int .i64 b] w fun e w' => e = .returned (.bool true) ∧ Below w.heap.size w w' := by
  have sa := sizeN_bad ha
  have sb := sizeN_bad hb
  go_enter Try.func6, Try.ntmps6
  go_wp2_with fail
  refine (works_any _).mono ?_
  rintro e w0 ⟨rfl, hb0⟩
  have HB0 := Lib.hid hb0
  clear hb0
  go_wp2_with fail
  refine (new_any _).mono ?_
  rintro e w1 ⟨rfl, hz1, hW1, hb1⟩
  have HW1 := Lib.hid hW1
  have HB1 := Lib.hid hb1
  clear hW1 hb1
  go_wp2_with fail
  refine (num_bad _ _ _ HW1.out ha).mono ?_
  rintro e w2 ⟨rfl, hW2, hb2⟩
  have HW2 := Lib.hid hW2
  have HB2 := Lib.hid hb2
  clear hW2 hb2
  go_wp2_with fail
  refine (wbytes_bad _ _ HW2.out).mono ?_
  rintro e w3 ⟨rfl, rfl⟩
  go_wp2_with fail
  refine (new_any _).mono ?_
  rintro e w4 ⟨rfl, hz4, hW4, hb4⟩
  have HW4 := Lib.hid hW4
  have HB4 := Lib.hid hb4
  clear hW4 hb4
  go_wp2_with fail
  refine (num_bad _ _ _ HW4.out hb).mono ?_
  rintro e w5 ⟨rfl, hW5, hb5⟩
  have HW5 := Lib.hid hW5
  have HB5 := Lib.hid hb5
  clear hW5 hb5
  go_wp2_with fail
  refine (wbytes_bad _ _ HW5.out).mono ?_
  rintro e w6 ⟨rfl, rfl⟩
  go_wp2_with (first | (go_at_call 21; refine (size_any _ _).mono ?_; rintro e w8 ⟨rfl, rfl⟩))
  all_goals go_ret
  all_goals have z0 := HB0.out.size
  all_goals have z1 := HB1.out.size
  all_goals have z2 := HB2.out.size
  all_goals have z4 := HB4.out.size
  all_goals have z5 := HB5.out.size
  all_goals exact ⟨by simp [sa, sb], ((HB0.out).trans ((HB1.out.mono (by omega)).trans ((HB2.out.mono (by omega)).trans ((HB4.out.mono (by omega)).trans (HB5.out.mono (by omega))))))⟩
theorem sizes_law (a b : Int) (w : World) :
    Calls Try.prog 6 #[.int .i64 a, .int .i64 b] w fun e w' => e = .returned (.bool true) ∧ Below w.heap.size w w' := by
  by_cases ha : okN a
  · by_cases hb : okN b
    · exact sizes_good a b w ha hb
    · exact sizes_badB a b w ha hb
  · by_cases hb : okN b
    · exact sizes_badA a b w ha hb
    · exact sizes_bad a b w ha hb
end Go.Proofs.Ytckjlglinmmohaa
