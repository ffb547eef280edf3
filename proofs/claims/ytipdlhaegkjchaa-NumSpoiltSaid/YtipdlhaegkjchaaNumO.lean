/-
  The walk of NumOnce.
-/
import Derived.Test.YtipdlhaegkjchaaNumQ
import Derived.Test.YtipdlhaegkjchaaNumW
namespace Go.Proofs.Ytipdlhaegkjchaa
open Go.RowKit
set_option linter.unusedSimpArgs false
set_option linter.unusedVariables false

theorem bt_text {w : World} {v : Value} {xs : List Int} (h : Bt w v xs) : (convert 33 9 v).run Try.prog w = .ok (.string (txt xs)) w := by
  obtain ⟨a, cap, rfl, h1, h2⟩ := h.row
  exact run_text h1 h2 Try.underlying33 Try.underlying5 Try.underlying9
theorem nof_bt (v : Value) (xs : List Int) (w : World) (h : Bt w v xs) (hl : xs.length ≤ 1000000000) : Calls Try.prog 16 #[v] w (OfPost xs w) := by
  obtain ⟨a, cap, rfl, h1, h2⟩ := h.row
  exact of_any a cap xs w h1 h2 hl
def BytesPost (xs : List Int) (w : World) (e : Ending) (w' : World) : Prop := ∃ v, Hid (e = .returned (.tuple #[v, .int .i64 0])) ∧ Bt w' v xs ∧ Below w.heap.size w w'
theorem wbytes_bt (b : Nat) (xs : List Int) (w : World) (hW : WrAt w b xs false) (hl : xs.length ≤ 1000000000) : Calls Try.prog 15 #[.pointer (some ⟨b, 0, none⟩)] w (BytesPost xs w) :=
  (wbytes_good b xs w hW hl).mono fun e w' q => by
    obtain ⟨⟨v, he, ho⟩, hb⟩ := q
    exact ⟨v, he, bt_of_owns ho (by omega), hb⟩
theorem rnum_of (b : Nat) (xs : List Int) (w : World) (n k er : Int) (h : RdAt w b xs 0) (hx : ∀ x ∈ xs, 0 ≤ x ∧ x ≤ 255) (hN : numG 8 0 0 xs = (n, k, er)) :
    Calls Try.prog 18 #[.pointer (some ⟨b, 0, none⟩)] w fun e w' => e = .returned (.int .i64 n) ∧ RdAt w' b (xs.drop k.toNat) er ∧ Below b w w' :=
  (rnum_any b xs w h hx).mono fun e w' q => by rw [hN] at q; exact q
theorem rtext_of (b : Nat) (most : Int) (xs t l : List Int) (er : Int) (w : World) (h : RdAt w b xs 0) (hx : ∀ x ∈ xs, 0 ≤ x ∧ x ≤ 255) (hl : xs.length ≤ 1000000000) (hN : textN most xs = (t, l, er)) :
    Calls Try.prog 17 #[.pointer (some ⟨b, 0, none⟩), .int .i64 most] w fun e w' => e = .returned (.string (txt t)) ∧ RdAt w' b l er ∧ Below b w w' :=
  (rtext_any b most xs w h hx hl).mono fun e w' q => by rw [hN] at q; exact q
theorem num_one (b : Nat) (n : Int) (w : World) (hW : WrAt w b [] false) (h : okN n) :
    Calls Try.prog 12 #[.pointer (some ⟨b, 0, none⟩), .int .i64 n] w fun e w' => e = .returned (.pointer (some ⟨b, 0, none⟩)) ∧ WrAt w' b (enc n) false ∧ Below b w w' :=
  (wnum_good b n [] w hW h.1 h.2 (by simp)).mono fun e w' q => ⟨q.1, by simpa using q.2.1, q.2.2⟩
theorem text_back (b : Nat) (s : ByteArray) (w : World) (hW : WrAt w b [] false) (hs : s.size ≤ 100000000) :
    Calls Try.prog 10 #[.pointer (some ⟨b, 0, none⟩), .string s] w fun e w' => e = .returned (.pointer (some ⟨b, 0, none⟩)) ∧ WrAt w' b (enc s.size ++ byt s) false ∧ Below b w w' :=
  (wtext_good b s [] w hW (by simp) hs).mono fun e w' q => ⟨q.1, by simpa using q.2.1, q.2.2⟩
theorem endN_zero {xs : List Int} {er : Int} (h : endN xs er = 0) : er = 0 ∧ xs = [] := by
  unfold endN at h
  by_cases q : er = 0
  · subst q
    refine ⟨rfl, List.eq_nil_of_length_eq_zero ?_⟩
    by_cases z : 0 < xs.length
    · rw [if_pos ⟨rfl, z⟩] at h; omega
    · omega
  · rw [if_neg (by omega)] at h; exact absurd h q
theorem once_num (xs : List Int) (hx : ∀ x ∈ xs, 0 ≤ x ∧ x ≤ 255) (n k er : Int) (hN : numG 8 0 0 xs = (n, k, er)) (he : endN (xs.drop k.toNat) er = 0) : okN n ∧ enc n = xs ∧ sizeN n = xs.length := by
  obtain ⟨h1, h2⟩ := endN_zero he
  obtain ⟨m, q1, q2, q3, q4, q5, q6⟩ := numG_enc xs hx (by rw [hN]; exact h1)
  rw [hN] at q3 q4 q5 q6
  simp only at q3 q4 q5 q6
  subst q3
  have hl : xs.length ≤ m := by
    have := congrArg List.length h2
    simp at this
    omega
  refine ⟨q4, ?_, by omega⟩
  rw [q5]; exact List.take_of_length_le hl
theorem once_text (xs t l : List Int) (hx : ∀ x ∈ xs, 0 ≤ x ∧ x ≤ 255) (er most : Int) (hN : textN most xs = (t, l, er)) (he : endN l er = 0) (hl : xs.length ≤ 3000) : t.length ≤ 3000 ∧ (∀ x ∈ t, 0 ≤ x ∧ x ≤ 255) ∧ enc t.length ++ t = xs := by
  obtain ⟨h1, h2⟩ := endN_zero he
  subst h1 h2
  unfold textN at hN
  by_cases c1 : (numG 8 0 0 xs).2.2 ≠ 0
  · rw [if_pos c1] at hN
    have e := congrArg (fun z => z.2.2) hN
    exact absurd e c1
  rw [if_neg c1] at hN
  by_cases c2 : most < (numG 8 0 0 xs).1
  · rw [if_pos c2] at hN; simp at hN
  rw [if_neg c2] at hN
  by_cases c3 : (xs.length : Int) - (numG 8 0 0 xs).2.1 < (numG 8 0 0 xs).1
  · rw [if_pos c3] at hN; simp at hN
  rw [if_neg c3] at hN
  obtain ⟨m, q1, q2, q3, q4, q5, q6⟩ := numG_enc xs hx (by simpa using c1)
  rw [q3] at hN c3
  obtain ⟨n, hn⟩ := Int.eq_ofNat_of_zero_le q4.1
  rw [hn] at hN c3 q5
  have e1 := congrArg (fun z => z.1) hN
  have e2 := congrArg (fun z => z.2.1) hN
  simp only [Int.toNat_natCast] at e1 e2
  have e3 := congrArg List.length e2
  simp at e3
  have hn2 : n = xs.length - m := by omega
  have ht : t = xs.drop m := by rw [← e1]; exact List.take_of_length_le (by simp; omega)
  subst ht
  refine ⟨by simp; omega, fun x h => hx x (List.mem_of_mem_drop h), ?_⟩
  rw [show ((xs.drop m).length : Int) = ((n : Nat) : Int) from by simp; omega, q5, List.take_append_drop]
set_option maxRecDepth 100000 in
set_option maxHeartbeats 8000000 in
theorem once_gg (s : ByteArray) (w : World) (hs : s.size ≤ 3000) (n k er er2 : Int) (t l : List Int) (hN : numG 8 0 0 (byt s) = (n, k, er)) (hT : textN 3000 (byt s) = (t, l, er2))
    (ha : endN ((byt s).drop k.toNat) er = 0) (hb : endN l er2 = 0) :
    Calls Try.prog 5 #[.string s] w fun e w' => e = .returned (.bool true) ∧ Below w.heap.size w w' := by
  have t1 : ¬ (3000 : Int) < s.size := by omega
  have z1 : s.size ≤ 9223372036854775807 := by omega
  have HX := Lib.hid (byt_range s)
  have hl : (byt s).length ≤ 1000000000 := by rw [byt_length]; omega
  have HN := Lib.hid hN
  have HT := Lib.hid hT
  obtain ⟨ok1, en1, sz1⟩ := once_num (byt s) HX.out n k er hN ha
  rw [byt_length] at sz1
  have OK1 := Lib.hid ok1
  have EN1 := Lib.hid en1
  have SZ1 := Lib.hid sz1
  have E1 := Lib.hid ha
  clear ok1 en1 sz1
  obtain ⟨tl, tr, en2⟩ := once_text (byt s) t l HX.out er2 3000 hT hb (by rw [byt_length]; exact hs)
  have EN2 : Hid (enc (txt t).size ++ byt (txt t) = byt s) := by unfold Hid; rw [byt_txt tr, txt_size]; exact en2
  have tz : (txt t).size ≤ 100000000 := by rw [txt_size]; omega
  have TZ := Lib.hid tz
  have E2 := Lib.hid hb
  clear tl tr en2 tz
  clear hN hT ha hb
  go_enter Try.func5, Try.ntmps5
  go_wp2_with fail
  refine (works_any _).mono ?_
  rintro e w1 ⟨rfl, hb1⟩
  have HB1 := Lib.hid hb1
  clear hb1
  go_wp2_with (refine wpList_bytes_g (o := ⟨some 20, _, _, _, _, _⟩) rfl 9 33 _ rfl 5 Try.underlying9 Try.underlying33 Try.underlying5 _ rfl z1 ?_)
  intro v2 w2 ht2 hz2 hb2
  have HT2 := Lib.hid ht2
  have HB2 : Hid (Below w.heap.size w w2) := below_self HB1.out hb2
  clear ht2 hb2 HB1
  go_wp2_with fail
  refine (nof_bt _ _ _ HT2.out hl).mono ?_
  rintro e w3 ⟨b3, rfl, hs3, hr3, hb3⟩
  have HR3 := Lib.hid hr3
  have HB3 : Hid (Below w.heap.size w w3) := below_self HB2.out hb3
  clear hr3 hb3 HT2
  go_wp2_with fail
  refine (rnum_of _ _ _ n k er HR3.out HX.out HN.out).mono ?_
  rintro e w4 ⟨rfl, hr4, hb4⟩
  have HR4 := Lib.hid hr4
  have HB4 : Hid (Below w.heap.size w w4) := HB3.out.trans (hb4.mono (by have := HB2.out.size; omega))
  clear hb4
  clear hr4 HR3
  go_wp2_with fail
  refine (end_any _ _ _ _ HR4.out).mono ?_
  rintro e w5 ⟨rfl, rfl⟩
  clear HR4 HB3
  rw [E1.out]
  go_wp2_with fail
  refine (new_any _).mono ?_
  rintro e w5 ⟨rfl, hz5, hW5, hb5⟩
  have HW5 := Lib.hid hW5
  have HB5 : Hid (Below w.heap.size w w5) := below_self HB4.out hb5
  clear hW5 hb5
  go_wp2_with fail
  refine (num_one _ n _ HW5.out OK1.out).mono ?_
  rintro e w6 ⟨rfl, hW6, hb6⟩
  have HW6 := Lib.hid hW6
  have HB6 : Hid (Below w.heap.size w w6) := HB5.out.trans (hb6.mono (by have := HB4.out.size; omega))
  clear hb6
  clear hW6 HW5
  go_wp2_with fail
  refine (wbytes_bt _ _ _ HW6.out (by rw [EN1.out]; exact hl)).mono ?_
  rintro e w7 ⟨v7, he7, ht7, hb7⟩
  rw [he7.out]
  have HB7 : Hid (Below w.heap.size w w7) := below_self HB6.out hb7
  have hcv7 := bt_text ht7
  rw [EN1.out, txt_byt] at hcv7
  clear he7 ht7 hb7 HW6 HB5 HB4 HB6
  go_wp2_with (first | (go_at_call 14; refine (size_any _ _).mono ?_; rw [SZ1.out]; rintro e w8 ⟨rfl, rfl⟩) | (refine wpList_bytes_g (o := ⟨some 50, _, _, _, _, _⟩) rfl 9 33 _ rfl 5 Try.underlying9 Try.underlying33 Try.underlying5 _ rfl z1 ?_))
  intro v12 w12 ht12 hz12 hb12
  have HT12 := Lib.hid ht12
  have HB12 : Hid (Below w.heap.size w w12) := below_self HB7.out hb12
  clear ht12 hb12 HB7
  clear hcv7
  go_wp2_with fail
  refine (nof_bt _ _ _ HT12.out hl).mono ?_
  rintro e w13 ⟨b13, rfl, hs13, hr13, hb13⟩
  have HR13 := Lib.hid hr13
  have HB13 : Hid (Below w.heap.size w w13) := below_self HB12.out hb13
  clear hr13 hb13 HT12
  go_wp2_with fail
  refine (rtext_of _ 3000 _ t l er2 _ HR13.out HX.out hl HT.out).mono ?_
  rintro e w14 ⟨rfl, hr14, hb14⟩
  have HR14 := Lib.hid hr14
  have HB14 : Hid (Below w.heap.size w w14) := HB13.out.trans (hb14.mono (by have := HB12.out.size; omega))
  clear hb14
  clear hr14 HR13
  go_wp2_with fail
  refine (end_any _ _ _ _ HR14.out).mono ?_
  rintro e w15 ⟨rfl, rfl⟩
  clear HR14 HB13
  rw [E2.out]
  go_wp2_with fail
  refine (new_any _).mono ?_
  rintro e w15 ⟨rfl, hz15, hW15, hb15⟩
  have HW15 := Lib.hid hW15
  have HB15 : Hid (Below w.heap.size w w15) := below_self HB14.out hb15
  clear hW15 hb15
  go_wp2_with fail
  refine (text_back _ (txt t) _ HW15.out TZ.out).mono ?_
  rintro e w16 ⟨rfl, hW16, hb16⟩
  have HW16 := Lib.hid hW16
  have HB16 : Hid (Below w.heap.size w w16) := HB15.out.trans (hb16.mono (by have := HB14.out.size; omega))
  clear hb16
  clear hW16 HW15
  go_wp2_with fail
  refine (wbytes_bt _ _ _ HW16.out (by rw [EN2.out]; exact hl)).mono ?_
  rintro e w17 ⟨v17, he17, ht17, hb17⟩
  rw [he17.out]
  have HB17 : Hid (Below w.heap.size w w17) := below_self HB16.out hb17
  have hcv17 := bt_text ht17
  rw [EN2.out, txt_byt] at hcv17
  clear he17 ht17 hb17 HW16 HB15 HB14 HB16
  go_wp2
  go_ret
  exact ⟨rfl, HB17.out⟩
set_option maxRecDepth 100000 in
set_option maxHeartbeats 8000000 in
theorem once_gb (s : ByteArray) (w : World) (hs : s.size ≤ 3000) (n k er er2 : Int) (t l : List Int) (hN : numG 8 0 0 (byt s) = (n, k, er)) (hT : textN 3000 (byt s) = (t, l, er2))
    (ha : endN ((byt s).drop k.toNat) er = 0) (hb : ¬ endN l er2 = 0) :
    Calls Try.prog 5 #[.string s] w fun e w' => e = .returned (.bool true) ∧ Below w.heap.size w w' := by
  have t1 : ¬ (3000 : Int) < s.size := by omega
  have z1 : s.size ≤ 9223372036854775807 := by omega
  have HX := Lib.hid (byt_range s)
  have hl : (byt s).length ≤ 1000000000 := by rw [byt_length]; omega
  have HN := Lib.hid hN
  have HT := Lib.hid hT
  obtain ⟨ok1, en1, sz1⟩ := once_num (byt s) HX.out n k er hN ha
  rw [byt_length] at sz1
  have OK1 := Lib.hid ok1
  have EN1 := Lib.hid en1
  have SZ1 := Lib.hid sz1
  have E1 := Lib.hid ha
  clear ok1 en1 sz1
  have E2 : Hid ((endN l er2 == 0) = false) := by unfold Hid; simpa using hb
  clear hN hT ha hb
  go_enter Try.func5, Try.ntmps5
  go_wp2_with fail
  refine (works_any _).mono ?_
  rintro e w1 ⟨rfl, hb1⟩
  have HB1 := Lib.hid hb1
  clear hb1
  go_wp2_with (refine wpList_bytes_g (o := ⟨some 20, _, _, _, _, _⟩) rfl 9 33 _ rfl 5 Try.underlying9 Try.underlying33 Try.underlying5 _ rfl z1 ?_)
  intro v2 w2 ht2 hz2 hb2
  have HT2 := Lib.hid ht2
  have HB2 : Hid (Below w.heap.size w w2) := below_self HB1.out hb2
  clear ht2 hb2 HB1
  go_wp2_with fail
  refine (nof_bt _ _ _ HT2.out hl).mono ?_
  rintro e w3 ⟨b3, rfl, hs3, hr3, hb3⟩
  have HR3 := Lib.hid hr3
  have HB3 : Hid (Below w.heap.size w w3) := below_self HB2.out hb3
  clear hr3 hb3 HT2
  go_wp2_with fail
  refine (rnum_of _ _ _ n k er HR3.out HX.out HN.out).mono ?_
  rintro e w4 ⟨rfl, hr4, hb4⟩
  have HR4 := Lib.hid hr4
  have HB4 : Hid (Below w.heap.size w w4) := HB3.out.trans (hb4.mono (by have := HB2.out.size; omega))
  clear hb4
  clear hr4 HR3
  go_wp2_with fail
  refine (end_any _ _ _ _ HR4.out).mono ?_
  rintro e w5 ⟨rfl, rfl⟩
  clear HR4 HB3
  rw [E1.out]
  go_wp2_with fail
  refine (new_any _).mono ?_
  rintro e w5 ⟨rfl, hz5, hW5, hb5⟩
  have HW5 := Lib.hid hW5
  have HB5 : Hid (Below w.heap.size w w5) := below_self HB4.out hb5
  clear hW5 hb5
  go_wp2_with fail
  refine (num_one _ n _ HW5.out OK1.out).mono ?_
  rintro e w6 ⟨rfl, hW6, hb6⟩
  have HW6 := Lib.hid hW6
  have HB6 : Hid (Below w.heap.size w w6) := HB5.out.trans (hb6.mono (by have := HB4.out.size; omega))
  clear hb6
  clear hW6 HW5
  go_wp2_with fail
  refine (wbytes_bt _ _ _ HW6.out (by rw [EN1.out]; exact hl)).mono ?_
  rintro e w7 ⟨v7, he7, ht7, hb7⟩
  rw [he7.out]
  have HB7 : Hid (Below w.heap.size w w7) := below_self HB6.out hb7
  have hcv7 := bt_text ht7
  rw [EN1.out, txt_byt] at hcv7
  clear he7 ht7 hb7 HW6 HB5 HB4 HB6
  go_wp2_with (first | (go_at_call 14; refine (size_any _ _).mono ?_; rw [SZ1.out]; rintro e w8 ⟨rfl, rfl⟩) | (refine wpList_bytes_g (o := ⟨some 50, _, _, _, _, _⟩) rfl 9 33 _ rfl 5 Try.underlying9 Try.underlying33 Try.underlying5 _ rfl z1 ?_))
  intro v12 w12 ht12 hz12 hb12
  have HT12 := Lib.hid ht12
  have HB12 : Hid (Below w.heap.size w w12) := below_self HB7.out hb12
  clear ht12 hb12 HB7
  clear hcv7
  go_wp2_with fail
  refine (nof_bt _ _ _ HT12.out hl).mono ?_
  rintro e w13 ⟨b13, rfl, hs13, hr13, hb13⟩
  have HR13 := Lib.hid hr13
  have HB13 : Hid (Below w.heap.size w w13) := below_self HB12.out hb13
  clear hr13 hb13 HT12
  go_wp2_with fail
  refine (rtext_of _ 3000 _ t l er2 _ HR13.out HX.out hl HT.out).mono ?_
  rintro e w14 ⟨rfl, hr14, hb14⟩
  have HR14 := Lib.hid hr14
  have HB14 : Hid (Below w.heap.size w w14) := HB13.out.trans (hb14.mono (by have := HB12.out.size; omega))
  clear hb14
  clear hr14 HR13
  go_wp2_with fail
  refine (end_any _ _ _ _ HR14.out).mono ?_
  rintro e w15 ⟨rfl, rfl⟩
  clear HR14 HB13
  have e2 := E2.out
  go_wp2
  go_ret
  exact ⟨rfl, HB14.out⟩
set_option maxRecDepth 100000 in
set_option maxHeartbeats 8000000 in
theorem once_bg (s : ByteArray) (w : World) (hs : s.size ≤ 3000) (n k er er2 : Int) (t l : List Int) (hN : numG 8 0 0 (byt s) = (n, k, er)) (hT : textN 3000 (byt s) = (t, l, er2))
    (ha : ¬ endN ((byt s).drop k.toNat) er = 0) (hb : endN l er2 = 0) :
    Calls Try.prog 5 #[.string s] w fun e w' => e = .returned (.bool true) ∧ Below w.heap.size w w' := by
  have t1 : ¬ (3000 : Int) < s.size := by omega
  have z1 : s.size ≤ 9223372036854775807 := by omega
  have HX := Lib.hid (byt_range s)
  have hl : (byt s).length ≤ 1000000000 := by rw [byt_length]; omega
  have HN := Lib.hid hN
  have HT := Lib.hid hT
  have E1 : Hid ((endN ((byt s).drop k.toNat) er == 0) = false) := by unfold Hid; simpa using ha
  obtain ⟨tl, tr, en2⟩ := once_text (byt s) t l HX.out er2 3000 hT hb (by rw [byt_length]; exact hs)
  have EN2 : Hid (enc (txt t).size ++ byt (txt t) = byt s) := by unfold Hid; rw [byt_txt tr, txt_size]; exact en2
  have tz : (txt t).size ≤ 100000000 := by rw [txt_size]; omega
  have TZ := Lib.hid tz
  have E2 := Lib.hid hb
  clear tl tr en2 tz
  clear hN hT ha hb
  go_enter Try.func5, Try.ntmps5
  go_wp2_with fail
  refine (works_any _).mono ?_
  rintro e w1 ⟨rfl, hb1⟩
  have HB1 := Lib.hid hb1
  clear hb1
  go_wp2_with (refine wpList_bytes_g (o := ⟨some 20, _, _, _, _, _⟩) rfl 9 33 _ rfl 5 Try.underlying9 Try.underlying33 Try.underlying5 _ rfl z1 ?_)
  intro v2 w2 ht2 hz2 hb2
  have HT2 := Lib.hid ht2
  have HB2 : Hid (Below w.heap.size w w2) := below_self HB1.out hb2
  clear ht2 hb2 HB1
  go_wp2_with fail
  refine (nof_bt _ _ _ HT2.out hl).mono ?_
  rintro e w3 ⟨b3, rfl, hs3, hr3, hb3⟩
  have HR3 := Lib.hid hr3
  have HB3 : Hid (Below w.heap.size w w3) := below_self HB2.out hb3
  clear hr3 hb3 HT2
  go_wp2_with fail
  refine (rnum_of _ _ _ n k er HR3.out HX.out HN.out).mono ?_
  rintro e w4 ⟨rfl, hr4, hb4⟩
  have HR4 := Lib.hid hr4
  have HB4 : Hid (Below w.heap.size w w4) := HB3.out.trans (hb4.mono (by have := HB2.out.size; omega))
  clear hb4
  clear hr4 HR3
  go_wp2_with fail
  refine (end_any _ _ _ _ HR4.out).mono ?_
  rintro e w5 ⟨rfl, rfl⟩
  clear HR4 HB3
  have e1 := E1.out
  go_wp2_with (refine wpList_bytes_g (o := ⟨some 50, _, _, _, _, _⟩) rfl 9 33 _ rfl 5 Try.underlying9 Try.underlying33 Try.underlying5 _ rfl z1 ?_)
  intro v12 w12 ht12 hz12 hb12
  have HT12 := Lib.hid ht12
  have HB12 : Hid (Below w.heap.size w w12) := below_self HB4.out hb12
  clear ht12 hb12 HB4
  go_wp2_with fail
  refine (nof_bt _ _ _ HT12.out hl).mono ?_
  rintro e w13 ⟨b13, rfl, hs13, hr13, hb13⟩
  have HR13 := Lib.hid hr13
  have HB13 : Hid (Below w.heap.size w w13) := below_self HB12.out hb13
  clear hr13 hb13 HT12
  go_wp2_with fail
  refine (rtext_of _ 3000 _ t l er2 _ HR13.out HX.out hl HT.out).mono ?_
  rintro e w14 ⟨rfl, hr14, hb14⟩
  have HR14 := Lib.hid hr14
  have HB14 : Hid (Below w.heap.size w w14) := HB13.out.trans (hb14.mono (by have := HB12.out.size; omega))
  clear hb14
  clear hr14 HR13
  go_wp2_with fail
  refine (end_any _ _ _ _ HR14.out).mono ?_
  rintro e w15 ⟨rfl, rfl⟩
  clear HR14 HB13
  rw [E2.out]
  go_wp2_with fail
  refine (new_any _).mono ?_
  rintro e w15 ⟨rfl, hz15, hW15, hb15⟩
  have HW15 := Lib.hid hW15
  have HB15 : Hid (Below w.heap.size w w15) := below_self HB14.out hb15
  clear hW15 hb15
  go_wp2_with fail
  refine (text_back _ (txt t) _ HW15.out TZ.out).mono ?_
  rintro e w16 ⟨rfl, hW16, hb16⟩
  have HW16 := Lib.hid hW16
  have HB16 : Hid (Below w.heap.size w w16) := HB15.out.trans (hb16.mono (by have := HB14.out.size; omega))
  clear hb16
  clear hW16 HW15
  go_wp2_with fail
  refine (wbytes_bt _ _ _ HW16.out (by rw [EN2.out]; exact hl)).mono ?_
  rintro e w17 ⟨v17, he17, ht17, hb17⟩
  rw [he17.out]
  have HB17 : Hid (Below w.heap.size w w17) := below_self HB16.out hb17
  have hcv17 := bt_text ht17
  rw [EN2.out, txt_byt] at hcv17
  clear he17 ht17 hb17 HW16 HB15 HB14 HB16
  go_wp2
  go_ret
  exact ⟨rfl, HB17.out⟩
set_option maxRecDepth 100000 in
set_option maxHeartbeats 8000000 in
theorem once_bb (s : ByteArray) (w : World) (hs : s.size ≤ 3000) (n k er er2 : Int) (t l : List Int) (hN : numG 8 0 0 (byt s) = (n, k, er)) (hT : textN 3000 (byt s) = (t, l, er2))
    (ha : ¬ endN ((byt s).drop k.toNat) er = 0) (hb : ¬ endN l er2 = 0) :
    Calls Try.prog 5 #[.string s] w fun e w' => e = .returned (.bool true) ∧ Below w.heap.size w w' := by
  have t1 : ¬ (3000 : Int) < s.size := by omega
  have z1 : s.size ≤ 9223372036854775807 := by omega
  have HX := Lib.hid (byt_range s)
  have hl : (byt s).length ≤ 1000000000 := by rw [byt_length]; omega
  have HN := Lib.hid hN
  have HT := Lib.hid hT
  have E1 : Hid ((endN ((byt s).drop k.toNat) er == 0) = false) := by unfold Hid; simpa using ha
  have E2 : Hid ((endN l er2 == 0) = false) := by unfold Hid; simpa using hb
  clear hN hT ha hb
  go_enter Try.func5, Try.ntmps5
  go_wp2_with fail
  refine (works_any _).mono ?_
  rintro e w1 ⟨rfl, hb1⟩
  have HB1 := Lib.hid hb1
  clear hb1
  go_wp2_with (refine wpList_bytes_g (o := ⟨some 20, _, _, _, _, _⟩) rfl 9 33 _ rfl 5 Try.underlying9 Try.underlying33 Try.underlying5 _ rfl z1 ?_)
  intro v2 w2 ht2 hz2 hb2
  have HT2 := Lib.hid ht2
  have HB2 : Hid (Below w.heap.size w w2) := below_self HB1.out hb2
  clear ht2 hb2 HB1
  go_wp2_with fail
  refine (nof_bt _ _ _ HT2.out hl).mono ?_
  rintro e w3 ⟨b3, rfl, hs3, hr3, hb3⟩
  have HR3 := Lib.hid hr3
  have HB3 : Hid (Below w.heap.size w w3) := below_self HB2.out hb3
  clear hr3 hb3 HT2
  go_wp2_with fail
  refine (rnum_of _ _ _ n k er HR3.out HX.out HN.out).mono ?_
  rintro e w4 ⟨rfl, hr4, hb4⟩
  have HR4 := Lib.hid hr4
  have HB4 : Hid (Below w.heap.size w w4) := HB3.out.trans (hb4.mono (by have := HB2.out.size; omega))
  clear hb4
  clear hr4 HR3
  go_wp2_with fail
  refine (end_any _ _ _ _ HR4.out).mono ?_
  rintro e w5 ⟨rfl, rfl⟩
  clear HR4 HB3
  have e1 := E1.out
  go_wp2_with (refine wpList_bytes_g (o := ⟨some 50, _, _, _, _, _⟩) rfl 9 33 _ rfl 5 Try.underlying9 Try.underlying33 Try.underlying5 _ rfl z1 ?_)
  intro v12 w12 ht12 hz12 hb12
  have HT12 := Lib.hid ht12
  have HB12 : Hid (Below w.heap.size w w12) := below_self HB4.out hb12
  clear ht12 hb12 HB4
  go_wp2_with fail
  refine (nof_bt _ _ _ HT12.out hl).mono ?_
  rintro e w13 ⟨b13, rfl, hs13, hr13, hb13⟩
  have HR13 := Lib.hid hr13
  have HB13 : Hid (Below w.heap.size w w13) := below_self HB12.out hb13
  clear hr13 hb13 HT12
  go_wp2_with fail
  refine (rtext_of _ 3000 _ t l er2 _ HR13.out HX.out hl HT.out).mono ?_
  rintro e w14 ⟨rfl, hr14, hb14⟩
  have HR14 := Lib.hid hr14
  have HB14 : Hid (Below w.heap.size w w14) := HB13.out.trans (hb14.mono (by have := HB12.out.size; omega))
  clear hb14
  clear hr14 HR13
  go_wp2_with fail
  refine (end_any _ _ _ _ HR14.out).mono ?_
  rintro e w15 ⟨rfl, rfl⟩
  clear HR14 HB13
  have e2 := E2.out
  go_wp2
  go_ret
  exact ⟨rfl, HB14.out⟩
theorem once_law (s : ByteArray) (w : World) (hs : s.size ≤ maxLen) : Calls Try.prog 5 #[.string s] w fun e w' => e = .returned (.bool true) ∧ Below w.heap.size w w' := by
  by_cases hl : s.size ≤ 3000
  · obtain ⟨n, k, er, hN⟩ : ∃ n k er, numG 8 0 0 (byt s) = (n, k, er) := ⟨_, _, _, rfl⟩
    obtain ⟨t, l, er2, hT⟩ : ∃ t l er, textN 3000 (byt s) = (t, l, er) := ⟨_, _, _, rfl⟩
    by_cases ha : endN ((byt s).drop k.toNat) er = 0
    · by_cases hb : endN l er2 = 0
      · exact once_gg s w hl n k er er2 t l hN hT ha hb
      · exact once_gb s w hl n k er er2 t l hN hT ha hb
    · by_cases hb : endN l er2 = 0
      · exact once_bg s w hl n k er er2 t l hN hT ha hb
      · exact once_bb s w hl n k er er2 t l hN hT ha hb
  · have t1 : (3000 : Int) < s.size := by omega
    go_enter Try.func5, Try.ntmps5
    go_wp2_with (go_at_call 8; refine (works_any _).mono ?_; rintro e w1 ⟨rfl, hb1⟩)
    go_ret
    exact ⟨rfl, hb1⟩
end Go.Proofs.Ytipdlhaegkjchaa
