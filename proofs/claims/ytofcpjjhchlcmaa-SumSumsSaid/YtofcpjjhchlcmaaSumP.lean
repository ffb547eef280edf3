/-
  The walk of SumParts.
-/
import Derived.Test.YtofcpjjhchlcmaaSumL
namespace Go.Proofs.Ytofcpjjhchlcmaa
open Go.RowKit
set_option linter.unusedSimpArgs false
set_option linter.unusedVariables false

theorem sum_parts (s : Nat) (a b : List Int) (hs : s < 4294967296) (ha : ∀ x ∈ a, 0 ≤ x ∧ x ≤ 255) : sumN s (a ++ b) = sumN (sumN s a) b := by
  have l : mor (4294967295 - s) (a.map Int.toNat) < 4294967296 := mor_lt _ _ (by omega) (by
    intro c hc
    simp only [List.mem_map] at hc
    obtain ⟨z, hz, rfl⟩ := hc
    have := ha z hz
    omega)
  unfold sumN
  rw [List.map_append, mor_append]
  congr 2
  omega

set_option maxHeartbeats 4000000 in
theorem parts_law (a b : ByteArray) (s : Int) (w : World) (ha : a.size ≤ maxLen) (hb : b.size ≤ maxLen) (hs : (Lit.int .u32 s).wf = true) :
    Calls Try.prog 4 #[.string a, .string b, .int .u32 s] w fun e w' => e = .returned (.bool true) ∧ Below w.heap.size w w' := by
  obtain ⟨s, rfl, hs1⟩ := u32_wf hs
  unfold maxLen at ha hb
  by_cases hl : (3000 : Int) < a.size
  · have t1 : decide ((3000 : Int) < a.size) = true := by simpa using hl
    go_enter Try.func4, Try.ntmps4
    go_wp2_with (go_at_call 9; refine (works_any _).mono ?_; rintro e w1 ⟨rfl, hb1⟩)
    go_ret
    exact ⟨rfl, hb1⟩
  have t1 : decide ((3000 : Int) < a.size) = false := by simp; omega
  by_cases hk : (3000 : Int) < b.size
  · have t2 : decide ((3000 : Int) < b.size) = true := by simpa using hk
    go_enter Try.func4, Try.ntmps4
    go_wp2_with (go_at_call 9; refine (works_any _).mono ?_; rintro e w1 ⟨rfl, hb1⟩)
    go_ret
    exact ⟨rfl, hb1⟩
  have t2 : decide ((3000 : Int) < b.size) = false := by simp; omega
  have nx : ¬ (9223372036854775807 < a.size + b.size) := by omega
  have z1 : a.size ≤ 9223372036854775807 := by omega
  have z2 : b.size ≤ 9223372036854775807 := by omega
  have z3 : (a ++ b).size ≤ 9223372036854775807 := by rw [ByteArray.size_append]; omega
  have Q1 := Lib.hid (sum_parts 0 (byt a) (byt b) (by decide) (byt_range a))
  have Q2 := Lib.hid (sum_parts s (byt a) (byt b) hs1 (byt_range a))
  have RR : Hid (∀ z ∈ byt a ++ byt b, 0 ≤ z ∧ z ≤ 255) := by
    intro z hz
    rcases List.mem_append.1 hz with h | h
    · exact byt_range a z h
    · exact byt_range b z h
  clear ha hb hl hk
  go_enter Try.func4, Try.ntmps4
  go_wp2_with fail
  refine (works_any _).mono ?_
  rintro e w1 ⟨rfl, hb1⟩
  have HB1 := Lib.hid hb1
  clear hb1
  go_wp2_with (refine wpList_bytes_g (o := ⟨some 25, _, _, _, _, _⟩) rfl 9 27 _ rfl 5 Try.underlying9 Try.underlying27 Try.underlying5 _ rfl z3 ?_)
  intro v2 w2 ht2 hz2 hb2
  have HT2 := Lib.hid ht2
  have HB2 : Hid (Below w.heap.size w w2) := below_self HB1.out hb2
  clear ht2 hb2 HB1
  have ht2 := HT2.out
  rw [byt_append] at ht2
  go_wp2_with fail
  refine (of_any _ (byt a ++ byt b) _ ht2 RR.out).mono ?_
  rw [Q1.out]
  rintro e w3 ⟨rfl, hb3⟩
  have HB3 : Hid (Below w.heap.size w w3) := below_self HB2.out hb3
  clear hb3 HB2
  clear ht2 HT2
  go_wp2_with (refine wpList_bytes_g (o := ⟨some 28, _, _, _, _, _⟩) rfl 9 27 _ rfl 5 Try.underlying9 Try.underlying27 Try.underlying5 _ rfl z1 ?_)
  intro v4 w4 ht4 hz4 hb4
  have HT4 := Lib.hid ht4
  have HB4 : Hid (Below w.heap.size w w4) := below_self HB3.out hb4
  clear ht4 hb4 HB3
  go_wp2_with fail
  refine (of_any _ _ _ HT4.out (byt_range a)).mono ?_
  rintro e w5 ⟨rfl, hb5⟩
  have HB5 : Hid (Below w.heap.size w w5) := below_self HB4.out hb5
  clear hb5 HB4
  clear HT4
  go_wp2_with (refine wpList_bytes_g (o := ⟨some 31, _, _, _, _, _⟩) rfl 9 27 _ rfl 5 Try.underlying9 Try.underlying27 Try.underlying5 _ rfl z2 ?_)
  intro v6 w6 ht6 hz6 hb6
  have HT6 := Lib.hid ht6
  have HB6 : Hid (Below w.heap.size w w6) := below_self HB5.out hb6
  clear ht6 hb6 HB5
  go_wp2_with fail
  refine (more_any _ _ _ _ (sumN_lt _ _) HT6.out (byt_range b)).mono ?_
  rintro e w7 ⟨rfl, hb7⟩
  have HB7 : Hid (Below w.heap.size w w7) := below_self HB6.out hb7
  clear hb7 HB6
  clear HT6
  go_wp2_with (refine wpList_bytes_g (o := ⟨some 40, _, _, _, _, _⟩) rfl 9 27 _ rfl 5 Try.underlying9 Try.underlying27 Try.underlying5 _ rfl z3 ?_)
  intro v8 w8 ht8 hz8 hb8
  have HT8 := Lib.hid ht8
  have HB8 : Hid (Below w.heap.size w w8) := below_self HB7.out hb8
  clear ht8 hb8 HB7
  have ht8 := HT8.out
  rw [byt_append] at ht8
  go_wp2_with fail
  refine (more_any _ _ (byt a ++ byt b) _ hs1 ht8 RR.out).mono ?_
  rw [Q2.out]
  rintro e w9 ⟨rfl, hb9⟩
  have HB9 : Hid (Below w.heap.size w w9) := below_self HB8.out hb9
  clear hb9 HB8
  clear ht8 HT8
  go_wp2_with (refine wpList_bytes_g (o := ⟨some 44, _, _, _, _, _⟩) rfl 9 27 _ rfl 5 Try.underlying9 Try.underlying27 Try.underlying5 _ rfl z1 ?_)
  intro v10 w10 ht10 hz10 hb10
  have HT10 := Lib.hid ht10
  have HB10 : Hid (Below w.heap.size w w10) := below_self HB9.out hb10
  clear ht10 hb10 HB9
  go_wp2_with fail
  refine (more_any _ _ _ _ hs1 HT10.out (byt_range a)).mono ?_
  rintro e w11 ⟨rfl, hb11⟩
  have HB11 : Hid (Below w.heap.size w w11) := below_self HB10.out hb11
  clear hb11 HB10
  clear HT10
  go_wp2_with (refine wpList_bytes_g (o := ⟨some 47, _, _, _, _, _⟩) rfl 9 27 _ rfl 5 Try.underlying9 Try.underlying27 Try.underlying5 _ rfl z2 ?_)
  intro v12 w12 ht12 hz12 hb12
  have HT12 := Lib.hid ht12
  have HB12 : Hid (Below w.heap.size w w12) := below_self HB11.out hb12
  clear ht12 hb12 HB11
  go_wp2_with fail
  refine (more_any _ _ _ _ (sumN_lt _ _) HT12.out (byt_range b)).mono ?_
  rintro e w13 ⟨rfl, hb13⟩
  have HB13 : Hid (Below w.heap.size w w13) := below_self HB12.out hb13
  clear hb13 HB12
  clear HT12
  go_wp2
  go_ret
  exact ⟨rfl, HB13.out⟩
end Go.Proofs.Ytofcpjjhchlcmaa
