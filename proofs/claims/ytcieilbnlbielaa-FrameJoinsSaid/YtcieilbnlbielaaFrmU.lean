/-
  The walk of FramePuts.
-/
import Derived.Test.YtcieilbnlbielaaFrmR2
namespace Go.Proofs.Ytcieilbnlbielaa
open Go.RowKit
set_option linter.unusedSimpArgs false
set_option linter.unusedVariables false

theorem Bt.text {w : World} {v : Value} {xs : List Int} (h : Bt w v xs) : (convert 23 9 v).run Try.prog w = .ok (.string (txt xs)) w := by
  obtain ⟨ad, cap, rfl, h1, h2⟩ := h.row
  exact run_text h1 h2 Try.underlying23 Try.underlying5 Try.underlying9
theorem tk_range {b : List Int} (h : ∀ x ∈ b, 0 ≤ x ∧ x ≤ 255) : ∀ x ∈ (tkN b).1, 0 ≤ x ∧ x ≤ 255 := by
  intro x hx
  unfold tkN tkG at hx
  split at hx
  · simp at hx
  split at hx
  · simp at hx
  split at hx
  · simp at hx
  split at hx
  · simp at hx
  exact h x (List.mem_of_mem_take (List.mem_of_mem_drop hx))
theorem txt_full {l : List Int} (h : ∀ x ∈ l, 0 ≤ x ∧ x ≤ 255) (hl : l ≠ []) : ¬ (txt l).toList = [] := by
  intro q
  have e : ((txt l).toList == ByteArray.empty.toList) = true := by rw [q]; simp
  rw [toList_eq_iff, byt_txt h] at e
  exact hl (by simpa [byt] using e)
set_option maxRecDepth 100000 in
set_option maxHeartbeats 4000000 in
/-- What comes behind Put, whatever it answered. -/
theorem puts_good (s b : ByteArray) (w : World) (hs : s.size ≤ 500) (hb : b.size ≤ 500) :
    Calls Try.prog 3 #[.string s, .string b] w fun e w' => e = .returned (.bool true) ∧ Below w.heap.size w w' := by
  have t1 : decide ((500 : Int) < s.size) = false := by simp; omega
  have t2 : decide ((500 : Int) < b.size) = false := by simp; omega
  have z1 : s.size ≤ 9223372036854775807 := by omega
  have z2 : b.size ≤ 9223372036854775807 := by omega
  have hp16 : (byt s).length ≤ 16777215 := by rw [byt_length]; exact Nat.le_trans hs (by decide)
  have HP16 := Lib.hid hp16
  have hm1 : b.size ≤ 1000000 := by omega
  have hne := txt_full (frm_range (byt_range s) (by rw [byt_length]; omega)) (by simp [frm, f4])
  have hne2 : ((txt (frm (byt s))).toList == []) = false := by simpa using hne
  obtain ⟨X, hX⟩ : ∃ X, (tkN (byt b)).1 = X := ⟨_, rfl⟩
  obtain ⟨m, hm⟩ : ∃ m, (tkN (byt b)).2.1 = m := ⟨_, rfl⟩
  obtain ⟨er, her⟩ : ∃ er, (tkN (byt b)).2.2 = er := ⟨_, rfl⟩
  have htk : tkN (byt b) = (X, m, er) := Prod.ext hX (Prod.ext hm her)
  have hxl : X.length ≤ 500 := by rw [← hX]; have := tk_len (byt b); rw [byt_length] at this; omega
  have HTK := Lib.hid htk
  have q1 : ((txt (frm (byt s))).toList == (txt (frm (byt s))).toList) = true := by simp
  have q2 : ((txt X).toList == (txt X).toList) = true := by simp
  clear hX hm her htk hp16
  go_enter Try.func3, Try.ntmps3
  go_wp2_with fail
  refine (works_any _).mono ?_
  rintro e w1 ⟨rfl, hb1⟩
  have HB1 := Lib.hid hb1
  clear hb1
  go_wp2_with (refine wpList_bytes_g (o := ⟨some 34, _, _, _, _, _⟩) rfl 9 23 _ rfl 5 Try.underlying9 Try.underlying23 Try.underlying5 _ rfl z1 ?_)
  intro v2 w2 ht2 hz2 hb2
  have HT2 := Lib.hid ht2
  have HB2 : Hid (Below w.heap.size w w2) := below_self HB1.out hb2
  clear ht2 hb2 HB1
  go_wp2_with fail
  refine (put_good _ (byt s) _ HT2.out (byt_range s) HP16.out).mono ?_
  rintro e w4 ⟨vf, he4, ht4, hb4⟩
  rw [he4.out]
  have HT4 := Lib.hid ht4
  have HB4 : Hid (Below w.heap.size w w4) := below_self HB2.out hb4
  clear he4 ht4 hb4 HB2 HT2
  go_wp2_with fail
  refine (rput_good s _ hs).mono ?_
  rintro e w5 ⟨rfl, hb5⟩
  have HT5 := Lib.hid (HT4.out.below hb5)
  have HB5 : Hid (Below w.heap.size w w5) := below_self HB4.out hb5
  clear hb5 HT4 HB4
  go_wp2_with (refine wpList_bytes_g (o := ⟨some 56, _, _, _, _, _⟩) rfl 9 23 _ rfl 5 Try.underlying9 Try.underlying23 Try.underlying5 _ rfl z2 ?_)
  intro v6 w6 ht6 hz6 hb6
  have HTf6 := Lib.hid (HT5.out.below hb6)
  have HT6 := Lib.hid ht6
  have HB6 : Hid (Below w.heap.size w w6) := below_self HB5.out hb6
  clear ht6 hb6 HB5
  clear HT5
  go_wp2_with fail
  refine (take_any _ (byt b) _ HT6.out (byt_range b) (by rw [byt_length]; omega)).mono ?_
  rw [HTK.out]
  rintro e w7 ⟨vx, he7, ho7, hb7⟩
  rw [he7.out]
  have ho7' : Own8 w7 _ vx X := ho7
  have HX7 := Lib.hid (ho7'.bt (by omega))
  have HT7 := Lib.hid (HTf6.out.below hb7)
  have HB7 : Hid (Below w.heap.size w w7) := below_self HB6.out hb7
  clear he7 ho7 ho7' hb7 HB6 HTf6 HT6
  go_wp2_with fail
  refine (rtake_any b _ hm1).mono ?_
  rw [HTK.out]
  rintro e w8 ⟨rfl, hb8⟩
  have HT := Lib.hid (HT7.out.below hb8)
  have HX := Lib.hid (HX7.out.below hb8)
  have HB : Hid (Below w.heap.size w w8) := below_self HB7.out hb8
  clear hb8 HT7 HX7 HB7 HTK
  have kf := HT.out.text
  have kx := HX.out.text
  go_wp2
  go_ret
  exact ⟨rfl, HB.out⟩
set_option maxRecDepth 100000 in
set_option maxHeartbeats 4000000 in
theorem puts_long (s b : ByteArray) (w : World) (hs : (16777215 : Int) < s.size) (hsm : s.size ≤ 9223372036854775807) (hb : b.size ≤ 500) :
    Calls Try.prog 3 #[.string s, .string b] w fun e w' => e = .returned (.bool true) ∧ Below w.heap.size w w' := by
  have t1 : decide ((500 : Int) < s.size) = true := by simp; omega
  have t3 : decide ((s.size : Int) ≤ 16777215) = false := by simp; omega
  have t2 : decide ((500 : Int) < b.size) = false := by simp; omega
  have z2 : b.size ≤ 9223372036854775807 := by omega
  have hp16 : ¬ (byt s).length ≤ 16777215 := by rw [byt_length]; omega
  have HP16 := Lib.hid hp16
  have HS := Lib.hid hs
  have HSM := Lib.hid hsm
  have hm1 : b.size ≤ 1000000 := by omega
  obtain ⟨X, hX⟩ : ∃ X, (tkN (byt b)).1 = X := ⟨_, rfl⟩
  obtain ⟨m, hm⟩ : ∃ m, (tkN (byt b)).2.1 = m := ⟨_, rfl⟩
  obtain ⟨er, her⟩ : ∃ er, (tkN (byt b)).2.2 = er := ⟨_, rfl⟩
  have htk : tkN (byt b) = (X, m, er) := Prod.ext hX (Prod.ext hm her)
  have hxl : X.length ≤ 500 := by rw [← hX]; have := tk_len (byt b); rw [byt_length] at this; omega
  have HTK := Lib.hid htk
  have q2 : ((txt X).toList == (txt X).toList) = true := by simp
  clear hX hm her htk hp16 hs
  go_enter Try.func3, Try.ntmps3
  go_wp2_with fail
  refine (works_any _).mono ?_
  rintro e w1 ⟨rfl, hb1⟩
  have HB1 := Lib.hid hb1
  clear hb1
  go_wp2_with (refine wpList_bytes_g (o := ⟨some 34, _, _, _, _, _⟩) rfl 9 23 _ rfl 5 Try.underlying9 Try.underlying23 Try.underlying5 _ rfl HSM.out ?_)
  intro v2 w2 ht2 hz2 hb2
  have HT2 := Lib.hid ht2
  have HB2 : Hid (Below w.heap.size w w2) := below_self HB1.out hb2
  clear ht2 hb2 HB1
  go_wp2_with fail
  refine (put_long _ (byt s) _ HT2.out HP16.out).mono ?_
  rintro e w4 ⟨rfl, rfl⟩
  clear HT2
  go_wp2_with fail
  refine (rput_long s _ HS.out).mono ?_
  rintro e w5 ⟨rfl, rfl⟩
  go_wp2_with (refine wpList_bytes_g (o := ⟨some 56, _, _, _, _, _⟩) rfl 9 23 _ rfl 5 Try.underlying9 Try.underlying23 Try.underlying5 _ rfl z2 ?_)
  intro v6 w6 ht6 hz6 hb6
  have HT6 := Lib.hid ht6
  have HB6 : Hid (Below w.heap.size w w6) := below_self HB2.out hb6
  clear ht6 hb6 HB2
  go_wp2_with fail
  refine (take_any _ (byt b) _ HT6.out (byt_range b) (by rw [byt_length]; omega)).mono ?_
  rw [HTK.out]
  rintro e w7 ⟨vx, he7, ho7, hb7⟩
  rw [he7.out]
  have ho7' : Own8 w7 _ vx X := ho7
  have HX7 := Lib.hid (ho7'.bt (by omega))
  have HB7 : Hid (Below w.heap.size w w7) := below_self HB6.out hb7
  clear he7 ho7 ho7' hb7 HB6 HT6
  go_wp2_with fail
  refine (rtake_any b _ hm1).mono ?_
  rw [HTK.out]
  rintro e w8 ⟨rfl, hb8⟩
  have HX := Lib.hid (HX7.out.below hb8)
  have HB : Hid (Below w.heap.size w w8) := below_self HB7.out hb8
  clear hb8 HX7 HB7 HTK
  have kf := (Bt.nil w8).text
  have kx := HX.out.text
  have kz : txt [] = ByteArray.empty := rfl
  rw [kz] at kf
  go_wp2
  go_ret
  exact ⟨rfl, HB.out⟩
theorem puts_law (s b : ByteArray) (w : World) (hs : s.size ≤ maxLen) (hb : b.size ≤ maxLen) :
    Calls Try.prog 3 #[.string s, .string b] w fun e w' => e = .returned (.bool true) ∧ Below w.heap.size w w' := by
  unfold maxLen at hs hb
  by_cases c1 : s.size ≤ 500
  · by_cases c2 : b.size ≤ 500
    · exact puts_good s b w c1 c2
    have t1 : decide ((500 : Int) < s.size) = false := by simp; omega
    have t2 : decide ((500 : Int) < b.size) = true := by simp; omega
    go_enter Try.func3, Try.ntmps3
    go_wp2_with (go_at_call 9; refine (works_any _).mono ?_; rintro e w1 ⟨rfl, hb1⟩)
    go_ret
    exact ⟨rfl, hb1⟩
  have t1 : decide ((500 : Int) < s.size) = true := by simp; omega
  by_cases c3 : (s.size : Int) ≤ 16777215
  · have t3 : decide ((s.size : Int) ≤ 16777215) = true := by simpa using c3
    go_enter Try.func3, Try.ntmps3
    go_wp2_with (go_at_call 9; refine (works_any _).mono ?_; rintro e w1 ⟨rfl, hb1⟩)
    go_ret
    exact ⟨rfl, hb1⟩
  by_cases c2 : b.size ≤ 500
  · exact puts_long s b w (by omega) (by omega) c2
  have t3 : decide ((s.size : Int) ≤ 16777215) = false := by simpa using c3
  have t2 : decide ((500 : Int) < b.size) = true := by simp; omega
  go_enter Try.func3, Try.ntmps3
  go_wp2_with (go_at_call 9; refine (works_any _).mono ?_; rintro e w1 ⟨rfl, hb1⟩)
  go_ret
  exact ⟨rfl, hb1⟩
end Go.Proofs.Ytcieilbnlbielaa
