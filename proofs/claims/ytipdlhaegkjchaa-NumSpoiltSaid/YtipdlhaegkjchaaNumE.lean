/-
  The walk of NumWrites.
-/
import Derived.Test.YtipdlhaegkjchaaNumF
namespace Go.Proofs.Ytipdlhaegkjchaa
open Go.RowKit
set_option linter.unusedSimpArgs false
set_option linter.unusedVariables false

theorem refnum_ok (n : Int) (w : World) (h : okN n) : Calls Try.prog 13 #[.int .i64 n] w fun e w' => e = .returned (.string (txt (enc n))) ∧ Below w.heap.size w w' :=
  refnum_any 7 n w h.1 (by have p : (128 : Int) ^ (7 + 1) = 72057594037927936 := by decide
                           rw [p]; have := h.2; omega) h.2 (by omega)
set_option maxHeartbeats 1600000 in
theorem refnum_bad (n : Int) (w : World) (h : ¬ okN n) : Calls Try.prog 13 #[.int .i64 n] w fun e w' => e = .returned (.string ⟨#[]⟩) ∧ Below w.heap.size w w' := by
  by_cases q : n < 0
  · have t1 : decide (n < 0) = true := by simpa using q
    go_enter Try.func13, Try.ntmps13
    go_wp2
    go_ret
    exact ⟨rfl, Below.refl _ _⟩
  · have t1 : decide (n < 0) = false := by simpa using q
    have t2 : decide ((281474976710656 : Int) < n) = true := by
      simp; have : ¬ (0 ≤ n ∧ n ≤ 281474976710656) := h
      omega
    go_enter Try.func13, Try.ntmps13
    go_wp2
    go_ret
    exact ⟨rfl, Below.refl _ _⟩
set_option maxHeartbeats 1600000 in
theorem reftext_any (s : ByteArray) (w : World) (h : s.size ≤ 100000000) : Calls Try.prog 11 #[.string s] w fun e w' => e = .returned (.string (txt (enc s.size ++ byt s))) ∧ Below w.heap.size w w' := by
  have zn : ¬ (9223372036854775807 < (txt (enc s.size)).size + s.size) := by rw [txt_size]; have := enc_len8 s.size; omega
  have HE : Hid (txt (enc s.size) ++ s = txt (enc s.size ++ byt s)) := by unfold Hid; rw [txt_append, txt_byt]
  go_enter Try.func11, Try.ntmps11
  go_wp2_with (go_at_call 13; refine (refnum_ok _ _ ⟨by omega, by omega⟩).mono ?_; rintro e w1 ⟨rfl, hb1⟩)
  go_ret
  exact ⟨ret_str HE.out, hb1⟩

/-- Is one of the first things such that it can't be written? -/
def badB (ts : List Th) (k : Nat) : Bool := (ts.take k).any fun t => (encT t).isNone
theorem badB_succ (ts : List Th) (k : Nat) (h : k < ts.length) : badB ts (k + 1) = (badB ts k || (encT (ts.getD k default)).isNone) := by
  unfold badB
  rw [List.take_succ_eq_append_getElem h, List.any_append]
  simp [List.getD, h]
theorem wst_flag (t : Th) (st : List Int × Bool) : (wst st t).2 = (st.2 || (encT t).isNone) := by
  unfold wst
  by_cases q : st.2 = true
  · rw [if_pos q, q]; rfl
  · rw [if_neg q]
    have : st.2 = false := by simpa using q
    rw [this]
    cases encT t <;> rfl
theorem wsts_flag (ts : List Th) : ∀ k, k ≤ ts.length → (wsts ts k).2 = badB ts k
  | 0, _ => rfl
  | k + 1, h => by rw [wsts_succ ts k (by omega), wst_flag, wsts_flag ts k (by omega), badB_succ ts k (by omega)]
theorem encs_take (ts : List Th) (k : Nat) (h : k < ts.length) : encs (ts.take (k + 1)) = encs (ts.take k) ++ (encT (ts.getD k default)).getD [] := by
  rw [List.take_succ_eq_append_getElem h, show ts.getD k default = ts[k] from by simp [List.getD, h]]
  simp only [encs, List.map_append, List.flatten_append, List.map_cons, List.map_nil, List.flatten_cons, List.flatten_nil, List.append_nil]
theorem encT_len (t : Th) (h : t.2.2.size ≤ 3000) : ((encT t).getD []).length ≤ 3008 := by
  unfold encT
  by_cases c : t.1 = true
  · rw [if_pos c]
    have := enc_len8 t.2.2.size
    simp [byt_length]; omega
  · rw [if_neg c]
    split
    · have := enc_len8 t.2.1
      simp; omega
    · simp
theorem encs_len (ts : List Th) : ∀ k, k ≤ ts.length → (∀ j, j < k → (ts.getD j default).2.2.size ≤ 3000) → (encs (ts.take k)).length ≤ 4000 * k
  | 0, _, _ => by simp [encs]
  | k + 1, h, hs => by
    rw [encs_take ts k (by omega), List.length_append]
    have a1 := encs_len ts k (by omega) (fun j hj => hs j (by omega))
    have a2 := encT_len _ (hs k (by omega))
    omega
theorem enc_ne (n : Int) : (txt (enc n)).toList.isEmpty = false := by
  have h := enc_pos n
  rw [ByteArray.toList_eq]
  simp only [txt]
  cases he : enc n with
  | nil => rw [he] at h; simp at h
  | cons x r => simp
theorem owns_below {w w' : World} {base e size n : Nat} {v : Value} {xs : List Value} (h : w.ownsRow base e size v n xs) (hb : Below w.heap.size w w') : w'.ownsRow base e size v n xs := by
  obtain ⟨h1, h2⟩ := h
  refine ⟨h1, ?_⟩
  rcases h2 with h2 | ⟨g, cap, cur, hv, hg, hh, hr⟩
  · exact .inl h2
  · refine .inr ⟨g, cap, cur, hv, hg, ?_, hr⟩
    have : g < w.heap.size := by
      by_cases q : g < w.heap.size
      · exact q
      · have : w.heap[g]? = none := by simp; omega
        rw [this] at hh; cases hh
    rw [hb.block g this]; exact hh
theorem wrat_below {w w' : World} {b : Nat} {xs : List Int} {sp : Bool} (h : WrAt w b xs sp) (hb : Below w.heap.size w w') : WrAt w' b xs sp := by
  obtain ⟨c1, f0, f1, hs, v, c0, ho⟩ := h
  exact ⟨(hb.cell (p := ⟨b, 1, none⟩) hs).trans c1, (hb.frozen (p := ⟨b, 0, none⟩) hs).trans f0, (hb.frozen (p := ⟨b, 1, none⟩) hs).trans f1, Nat.lt_of_lt_of_le hs hb.size, v, (hb.cell (p := ⟨b, 0, none⟩) hs).trans c0, owns_below ho hb⟩
set_option maxRecDepth 100000 in
set_option maxHeartbeats 8000000 in
theorem writes_in (a : Option Addr) (cap : Nat) (ts : List Th) (w : World) (hr : TRd w a ts) (hl : ts.length ≤ 300) (hok : ∀ t ∈ ts, ThOk t) :
    Calls Try.prog 3 #[.slice a ts.length cap] w fun e w' => e = .returned (.bool true) ∧ Below w.heap.size w w' := by
  have t1 : ¬ (300 : Int) < ts.length := by omega
  have HR := Lib.hid hr
  have HO := Lib.hid hok
  clear hr hok
  go_enter Try.func3, Try.ntmps3
  go_wp2_with fail
  refine (works_any _).mono ?_
  rintro e w1 ⟨rfl, hb1⟩
  have HB1 := Lib.hid hb1
  clear hb1
  go_wp2_with fail
  refine (new_any _).mono ?_
  rintro e w2 ⟨rfl, hz2, hW2, hb2⟩
  have HW2 := Lib.hid hW2
  have HB2 : Hid (Below w.heap.size w w2) := below_self HB1.out hb2
  have hz1 := HB1.out.size
  clear hW2 hb2
  go_wp2
  go_loopw [5, 6, 7] (fun s f c wr => ∃ k : Nat, k ≤ ts.length ∧ s = .string (txt (encs (ts.take k))) ∧ f = .bool (badB ts k) ∧ c = .int .i64 k ∧ w1.heap.size < wr.heap.size ∧ Hid (WrAt wr w1.heap.size (wsts ts k).1 (wsts ts k).2) ∧ Hid (∀ j, j < k → (ts.getD j default).2.2.size ≤ 3000) ∧ Hid (Below w.heap.size w wr)) (fun _ _ c _ => ts.length - (intOf c).toNat)
  case atStart => exact ⟨0, by omega, rfl, rfl, rfl, by omega, HW2, (fun j hj => by omega), HB2⟩
  case round =>
    clear HW2 HB2 HB1
    obtain ⟨k, hk, rfl, rfl, rfl, hz3, hWr, hsm, hB⟩ := hrel
    by_cases hlt : k < ts.length
    · obtain ⟨g, off, rfl, hg, c0, c1, c2⟩ := trd_at HR.out hlt
      have d0 := (hB.out.cell (p := ⟨g, off + k * 3, none⟩) hg).trans c0
      have d1 := (hB.out.cell (p := ⟨g, off + k * 3 + 1, none⟩) hg).trans c1
      have d2 := (hB.out.cell (p := ⟨g, off + k * 3 + 2, none⟩) hg).trans c2
      have hst := wsts_succ ts k hlt
      have hsk := wsts_ok ts k (by omega) hsm.out
      have hbs := badB_succ ts k hlt
      have hes := encs_take ts k hlt
      have hel := encs_len ts k (by omega) hsm.out
      obtain ⟨t, ht⟩ : ∃ t, ts.getD k default = t := ⟨_, rfl⟩
      rw [ht] at c0 c1 c2 d0 d1 d2 hst hbs hes
      have HT := Lib.hid ht
      have HST := Lib.hid hst
      have HSK := Lib.hid hsk
      have HBS := Lib.hid hbs
      have HES := Lib.hid hes
      clear ht hst hsk hbs hes
      obtain ⟨bo, n, s⟩ := t
      by_cases hs : (3000 : Int) < s.size
      · go_wp2
        go_ret
        exact ⟨rfl, hB.out⟩
      · have hs2 : s.size ≤ 3000 := by omega
        have HS2 : Hid (∀ j, j < k + 1 → (ts.getD j default).2.2.size ≤ 3000) := by
          intro j hj
          by_cases q : j < k
          · exact hsm.out j q
          · obtain rfl : j = k := by omega
            rw [HT.out]; exact hs2
        cases bo with
        | true =>
          have zt : (txt (enc s.size ++ byt s)).size ≤ 3008 := by rw [txt_size, List.length_append, byt_length]; have := enc_len8 s.size; omega
          have zn : ¬ (9223372036854775807 < (txt (encs (ts.take k))).size + (txt (enc s.size ++ byt s)).size) := by rw [txt_size (encs _)]; omega
          have HS3 : Hid (txt (encs (ts.take k)) ++ txt (enc s.size ++ byt s) = txt (encs (ts.take (k + 1)))) := by
            unfold Hid
            rw [HES.out, ← txt_append]
            rfl
          have HB3 : Hid (badB ts (k + 1) = badB ts k) := by unfold Hid; rw [HBS.out]; simp [encT]
          go_wp2_with fail
          refine (wr_text _ k _ (true, n, s) _ hWr.out HSK.out (by omega) hs2 rfl).mono ?_
          rintro e w3 ⟨rfl, hW3, hb3⟩
          have hz4 := hb3.size
          have HBw : Hid (Below w.heap.size w w3) := hB.out.trans (hb3.mono (by omega))
          have HW3 := Lib.hid hW3
          clear hW3 hb3
          have f2 := (HBw.out.cell (p := ⟨g, off + k * 3 + 2, none⟩) hg).trans c2
          go_wp2_with fail
          refine (reftext_any _ _ (by omega)).mono ?_
          rintro e w4 ⟨rfl, hb4⟩
          have hz5 := hb4.size
          have HBx : Hid (Below w.heap.size w w4) := below_self HBw.out hb4
          have HW4 : Hid (WrAt w4 w1.heap.size (wst (wsts ts k) (true, n, s)).1 (wst (wsts ts k) (true, n, s)).2) := wrat_below HW3.out hb4
          clear hb4 HBw HW3
          go_wp2
          go_roundw
          case rel => exact ⟨k + 1, by omega, by rw [HS3.out], by rw [HB3.out], by go_num, by omega, by unfold Hid; rw [HST.out]; exact HW4.out, HS2, HBx⟩
          case measure => simp [intOf]; omega
        | false =>
          by_cases ok : okN n
          · have et : encT (false, n, s) = some (enc n) := by unfold encT; rw [if_neg (by simp), if_pos ok]
            have zt : (txt (enc n)).size ≤ 8 := by rw [txt_size]; exact enc_len8 n
            have zn : ¬ (9223372036854775807 < (txt (encs (ts.take k))).size + (txt (enc n)).size) := by rw [txt_size (encs _)]; omega
            have HS3 : Hid (txt (encs (ts.take k)) ++ txt (enc n) = txt (encs (ts.take (k + 1)))) := by
              unfold Hid
              rw [HES.out, et, ← txt_append]
              rfl
            have HB3 : Hid (badB ts (k + 1) = badB ts k) := by unfold Hid; rw [HBS.out, et]; simp
            have HSZ : Hid (sizeN n = ((txt (enc n)).size : Int)) := by unfold Hid; rw [txt_size, enc_length n ok.1 ok.2]
            have hne := enc_ne n
            clear et
            go_wp2_with fail
            refine (wr_num _ k _ (false, n, s) _ hWr.out HSK.out (by omega) rfl).mono ?_
            rintro e w3 ⟨rfl, hW3, hb3⟩
            have hz4 := hb3.size
            have HBw : Hid (Below w.heap.size w w3) := hB.out.trans (hb3.mono (by omega))
            have HW3 := Lib.hid hW3
            clear hW3 hb3
            have f1 := (HBw.out.cell (p := ⟨g, off + k * 3 + 1, none⟩) hg).trans c1
            go_wp2_with fail
            refine (refnum_ok _ _ ok).mono ?_
            rintro e w4 ⟨rfl, hb4⟩
            have hz5 := hb4.size
            have HBx : Hid (Below w.heap.size w w4) := below_self HBw.out hb4
            have HW4 : Hid (WrAt w4 w1.heap.size (wst (wsts ts k) (false, n, s)).1 (wst (wsts ts k) (false, n, s)).2) := wrat_below HW3.out hb4
            clear hb4 HBw HW3 f1
            have f1 := (HBx.out.cell (p := ⟨g, off + k * 3 + 1, none⟩) hg).trans c1
            obtain ⟨q, hq⟩ : ∃ q, badB ts k = q := ⟨_, rfl⟩
            rw [hq] at HB3 ⊢
            clear hq
            cases q
            all_goals
              go_wp2_with (go_at_call 14; refine (size_any _ _).mono ?_; rw [HSZ.out]; rintro e w8 ⟨rfl, rfl⟩)
              go_roundw
              case rel => exact ⟨k + 1, by omega, by rw [HS3.out], by rw [HB3.out], by go_num, by omega, by unfold Hid; rw [HST.out]; exact HW4.out, HS2, HBx⟩
              case measure => simp [intOf]; omega
          · have et : encT (false, n, s) = none := by unfold encT; rw [if_neg (by simp), if_neg ok]
            have zn : ¬ (9223372036854775807 < (txt (encs (ts.take k))).size) := by rw [txt_size]; omega
            have HS3 : Hid (txt (encs (ts.take k)) ++ ⟨#[]⟩ = txt (encs (ts.take (k + 1)))) := by
              unfold Hid
              rw [HES.out, et, show (none : Option (List Int)).getD [] = [] from rfl, List.append_nil]
              apply ByteArray.ext
              simp
            have HB3 : Hid (badB ts (k + 1) = true) := by unfold Hid; rw [HBS.out, et]; simp
            have HSZ : Hid (sizeN n = 0) := sizeN_bad ok
            clear et
            go_wp2_with fail
            refine (wr_num _ k _ (false, n, s) _ hWr.out HSK.out (by omega) rfl).mono ?_
            rintro e w3 ⟨rfl, hW3, hb3⟩
            have hz4 := hb3.size
            have HBw : Hid (Below w.heap.size w w3) := hB.out.trans (hb3.mono (by omega))
            have HW3 := Lib.hid hW3
            clear hW3 hb3
            have f1 := (HBw.out.cell (p := ⟨g, off + k * 3 + 1, none⟩) hg).trans c1
            go_wp2_with fail
            refine (refnum_bad _ _ ok).mono ?_
            rintro e w4 ⟨rfl, hb4⟩
            have hz5 := hb4.size
            have HBx : Hid (Below w.heap.size w w4) := below_self HBw.out hb4
            have HW4 : Hid (WrAt w4 w1.heap.size (wst (wsts ts k) (false, n, s)).1 (wst (wsts ts k) (false, n, s)).2) := wrat_below HW3.out hb4
            clear hb4 HBw HW3 f1
            have f1 := (HBx.out.cell (p := ⟨g, off + k * 3 + 1, none⟩) hg).trans c1
            obtain ⟨q, hq⟩ : ∃ q, badB ts k = q := ⟨_, rfl⟩
            rw [hq]
            clear hq
            cases q
            all_goals
              go_wp2_with (go_at_call 14; refine (size_any _ _).mono ?_; rw [HSZ.out]; rintro e w8 ⟨rfl, rfl⟩)
              go_roundw
              case rel => exact ⟨k + 1, by omega, by rw [HS3.out], by rw [HB3.out], by go_num, by omega, by unfold Hid; rw [HST.out]; exact HW4.out, HS2, HBx⟩
              case measure => simp [intOf]; omega
    · have e : k = ts.length := by omega
      subst e
      have hsk := wsts_ok ts ts.length (by omega) hsm.out
      have hfl := wsts_flag ts ts.length (by omega)
      rw [List.take_length]
      by_cases hg : (wsts ts ts.length).2 = false
      · obtain ⟨q1, q2⟩ := wsts_good ts hg
        have hW := hWr.out
        have hel : (encs ts).length ≤ 1200000 := by rw [← q1]; have := hsk.1; omega
        rw [q1, hg] at hW
        have HW := Lib.hid hW
        rw [← hfl, hg]
        clear hW q1 q2 hg hWr hsk hfl
        go_wp2_with fail
        refine (wbytes_bt _ _ _ HW.out (by omega)).mono ?_
        rintro e w3 ⟨v3, he3, ht3, hb3⟩
        rw [he3.out]
        have HB3 : Hid (Below w.heap.size w w3) := below_self hB.out hb3
        have hcv := bt_text ht3
        clear he3 hb3 HW hB ht3
        go_wp2
        go_ret
        exact ⟨rfl, HB3.out⟩
      · have hgt : (wsts ts ts.length).2 = true := by simpa using hg
        have hW := hWr.out
        rw [hsk.2 hgt, hgt] at hW
        have HW := Lib.hid hW
        rw [← hfl, hgt]
        clear hW hg hgt hWr hsk hfl
        go_wp2_with (go_at_call 15; refine (wbytes_bad _ _ HW.out).mono ?_; rintro e w3 ⟨rfl, rfl⟩)
        go_ret
        exact ⟨rfl, hB.out⟩
theorem writes_law (a : Option Addr) (cap : Nat) (ts : List Th) (w : World) (hr : TRd w a ts) (hok : ∀ t ∈ ts, ThOk t) :
    Calls Try.prog 3 #[.slice a ts.length cap] w fun e w' => e = .returned (.bool true) ∧ Below w.heap.size w w' := by
  by_cases hl : ts.length ≤ 300
  · exact writes_in a cap ts w hr hl hok
  · have t1 : (300 : Int) < ts.length := by omega
    go_enter Try.func3, Try.ntmps3
    go_wp2_with (go_at_call 8; refine (works_any _).mono ?_; rintro e w1 ⟨rfl, hb1⟩)
    go_ret
    exact ⟨rfl, hb1⟩
end Go.Proofs.Ytipdlhaegkjchaa
