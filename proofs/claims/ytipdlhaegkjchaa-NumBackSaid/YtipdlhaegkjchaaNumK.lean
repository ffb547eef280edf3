/-
  The walk of NumBack.
-/
import Derived.Test.YtipdlhaegkjchaaNumR
import Derived.Deep.RegionHeld3
namespace Go.Proofs.Ytipdlhaegkjchaa
open Go.RowKit
set_option linter.unusedSimpArgs false
set_option linter.unusedVariables false

/-- What is kept of a world by whoever changes nothing below a block: a cell below what was there, and all that was there. -/
def KB (w : World) (b : Nat) (p : Addr) (v : Value) (w' : World) : Prop := w'.cell? p = some v ∧ p.block < w.heap.size ∧ w.heap.size ≤ b ∧ Below w.heap.size w w'
theorem KB.below {w w1 w2 : World} {b : Nat} {p : Addr} {v : Value} (h : KB w b p v w1) (hb : Below b w1 w2) : KB w b p v w2 :=
  ⟨(hb.cell (p := p) (by have := h.2.1; have := h.2.2.1; omega)).trans h.1, h.2.1, h.2.2.1, h.2.2.2.trans (hb.mono h.2.2.1)⟩
theorem KB.drew {w w1 : World} {b : Nat} {p : Addr} {v : Value} (h : KB w b p v w1) : KB w b p v w1.drew := h.below (Below.refl _ _).drew
theorem KB.parts {w w1 : World} {b : Nat} {p : Addr} {v : Value} (h : KB w b p v w1) : w1.cell? p = some v ∧ KB w b p v w1 := ⟨h.1, h⟩
set_option maxRecDepth 100000 in
set_option maxHeartbeats 8000000 in
theorem back_in (a : Option Addr) (cap : Nat) (ts : List Th) (w : World) (hr : TRd w a ts) (hl : ts.length ≤ 300) (hok : ∀ t ∈ ts, ThOk t) :
    Calls Try.prog 4 #[.slice a ts.length cap] w fun e w' => e = .returned (.bool true) ∧ Below w.heap.size w w' := by
  have t1 : ¬ (300 : Int) < ts.length := by omega
  have HR := Lib.hid hr
  have HO := Lib.hid hok
  clear hr hok
  go_enter Try.func4, Try.ntmps4
  go_wp2_with fail
  refine (works_any _).mono ?_
  rintro e w1 ⟨rfl, hb1⟩
  have HB1 := Lib.hid hb1
  clear hb1
  go_wp2_with fail
  refine (new_any _).mono ?_
  rintro e w2 ⟨rfl, hz2, hW2, hb2⟩
  have HW2 := Lib.hid hW2
  have HB2 : Hid (Below w.heap.size w w2) := below_self HB1.out hb2
  have hz1 := HB1.out.size
  clear hW2 hb2
  go_wp2
  go_loopw [5] (fun c wr => ∃ k : Nat, k ≤ ts.length ∧ c = .int .i64 k ∧ Hid (WrAt wr w1.heap.size (wsts ts k).1 (wsts ts k).2) ∧ Hid (∀ j, j < k → (ts.getD j default).2.2.size ≤ 3000) ∧ Hid (Below w.heap.size w wr)) (fun c _ => ts.length - (intOf c).toNat)
  case atStart => exact ⟨0, by omega, rfl, HW2, (fun j hj => by omega), HB2⟩
  case round =>
    clear HW2 HB2 HB1
    obtain ⟨k, hk, rfl, hWr, hsm, hB⟩ := hrel
    by_cases hlt : k < ts.length
    · obtain ⟨g, off, rfl, hg, c0, c1, c2⟩ := trd_at HR.out hlt
      have d0 := (hB.out.cell (p := ⟨g, off + k * 3, none⟩) hg).trans c0
      have d1 := (hB.out.cell (p := ⟨g, off + k * 3 + 1, none⟩) hg).trans c1
      have d2 := (hB.out.cell (p := ⟨g, off + k * 3 + 2, none⟩) hg).trans c2
      clear c0 c1 c2
      have hst := wsts_succ ts k hlt
      have hsk := wsts_ok ts k (by omega) hsm.out
      obtain ⟨t, ht⟩ : ∃ t, ts.getD k default = t := ⟨_, rfl⟩
      rw [ht] at d0 d1 d2 hst
      have HT := Lib.hid ht
      have HST := Lib.hid hst
      have HSK := Lib.hid hsk
      clear ht hst hsk
      obtain ⟨bo, n, s⟩ := t
      by_cases hs : (3000 : Int) < s.size
      · go_wp2
        go_ret
        exact ⟨rfl, hB.out⟩
      · have hs2 : s.size ≤ 3000 := by omega
        have HS2 : Hid (∀ j, j < k + 1 → (ts.getD j default).2.2.size ≤ 3000) := by
          intro j hj
          by_cases q : j < k
          · exact hsm.out j q
          · obtain rfl : j = k := by omega
            rw [HT.out]; exact hs2
        cases bo with
        | true =>
          go_wp2_with (go_at_call 10; refine (wr_text _ k _ (true, n, s) _ hWr.out HSK.out (by omega) hs2 rfl).mono ?_; rintro e w3 ⟨rfl, hW3, hb3⟩)
          go_roundw
          case rel => exact ⟨k + 1, by omega, by go_num, by unfold Hid; rw [HST.out]; exact hW3, HS2, hB.out.trans (hb3.mono (by omega))⟩
          case measure => simp [intOf]; omega
        | false =>
          go_wp2_with (go_at_call 12; refine (wr_num _ k _ (false, n, s) _ hWr.out HSK.out (by omega) rfl).mono ?_; rintro e w3 ⟨rfl, hW3, hb3⟩)
          go_roundw
          case rel => exact ⟨k + 1, by omega, by go_num, by unfold Hid; rw [HST.out]; exact hW3, HS2, hB.out.trans (hb3.mono (by omega))⟩
          case measure => simp [intOf]; omega
    · have e : k = ts.length := by omega
      subst e
      have hsk := wsts_ok ts ts.length (by omega) hsm.out
      have HSK := Lib.hid hsk
      clear hsk
      by_cases hg : (wsts ts ts.length).2 = false
      · obtain ⟨q1, q2⟩ := wsts_good ts hg
        have hW := hWr.out
        rw [q1, hg] at hW
        have HW := Lib.hid hW
        have HE := Lib.hid q2
        have hel : (encs ts).length ≤ 1200000 := by rw [← q1]; have := HSK.out.1; omega
        have HX := fun k => Lib.hid (encs_range (ts.drop k))
        clear hW q1 q2 hg hWr HSK
        go_wp2_with fail
        refine (wbytes_bt _ _ _ HW.out (by omega)).mono ?_
        rintro e w3 ⟨v3, he3, ht3, hb3⟩
        rw [he3.out]
        have HB3 : Hid (Below w.heap.size w w3) := below_self hB.out hb3
        have HT3 := Lib.hid ht3
        obtain ⟨a3, cap3, rfl, _, _⟩ := ht3.row
        clear he3 hb3 HW hB ht3
        go_wp2_with fail
        refine (nof_bt _ _ _ HT3.out (by omega)).mono ?_
        rintro e w4 ⟨b4, rfl, hs4, hr4, hb4⟩
        have HR4 : Hid (RdAt w4 b4 (encs (ts.drop 0)) 0) := hr4
        have HB4 : Hid (Below w.heap.size w w4) := below_self HB3.out hb4
        have hbw : w.heap.size ≤ b4 := by have := HB3.out.size; omega
        clear hr4 hb4 HT3 HB3
        go_wp2
        go_loopw [9] (fun c wr => ∃ k : Nat, k ≤ ts.length ∧ c = .int .i64 k ∧ Hid (RdAt wr b4 (encs (ts.drop k)) 0) ∧ Hid (Below w.heap.size w wr)) (fun c _ => ts.length - (intOf c).toNat)
        case atStart => exact ⟨0, by omega, rfl, HR4, HB4⟩
        case round =>
          clear HR4 HB4
          obtain ⟨k, hk, rfl, hRd, hB⟩ := hrel
          by_cases hlt : k < ts.length
          · obtain ⟨g, off, rfl, hg, c0, c1, c2⟩ := trd_at HR.out hlt
            have d0 := (hB.out.cell (p := ⟨g, off + k * 3, none⟩) hg).trans c0
            have d1 := (hB.out.cell (p := ⟨g, off + k * 3 + 1, none⟩) hg).trans c1
            have d2 := (hB.out.cell (p := ⟨g, off + k * 3 + 2, none⟩) hg).trans c2
            clear c0 c1 c2
            have hed := encs_drop ts k hlt
            have hem : ∃ e, encT (ts.getD k default) = some e := HE.out _ (by simp [List.getD, hlt])
            have hsz := hsm.out k hlt
            have hrl : (encs (ts.drop (k + 1))).length ≤ 1200000 := by
              have := encs_le ts (k + 1)
              omega
            obtain ⟨t, ht⟩ : ∃ t, ts.getD k default = t := ⟨_, rfl⟩
            rw [ht] at d0 d1 d2 hed hem hsz
            clear ht
            obtain ⟨bo, n, s⟩ := t
            have HRK := Lib.hid (encs_range (ts.drop k))
            cases bo with
            | true =>
              have hed2 : encs (ts.drop k) = enc s.size ++ byt s ++ encs (ts.drop (k + 1)) := hed
              have hb := textN_back s (encs (ts.drop (k + 1))) s.size (by simp only at hsz; omega) (by omega)
              have hkl : (encs (ts.drop k)).length ≤ 1000000000 := by have := encs_le ts k; omega
              have hrd := hRd.out
              rw [← hed2] at hb
              have HBK := Lib.hid hb
              have HRD := Lib.hid hrd
              clear hed hed2 hb hrd hRd hem hsz hrl
              go_wp2
              go_region_held3 (fun w' => w'.cell? ⟨g, off + k * 3 + 2, none⟩ = some (.string s) ∧ KB w b4 ⟨g, off + k * 3 + 2, none⟩ (.string s) w')
                (first | exact KB.parts ⟨d2, hg, hbw, hB.out⟩ | exact KB.parts (KB.drew ⟨d2, hg, hbw, hB.out⟩) | (go_split_ands; first | exact KB.parts (KB.below (by assumption) (by assumption)) | exact KB.parts (by assumption)))
                (first
                  | (go_at_call 17; refine (rtext_of _ s.size _ _ _ _ _ (RdAt.drew HRD.out) HRK.out hkl HBK.out).mono ?_; rw [txt_byt]; rintro e w5 ⟨rfl, hr5, hb5⟩)
                  | (go_at_call 17; refine (rtext_of _ s.size _ _ _ _ _ HRD.out HRK.out hkl HBK.out).mono ?_; rw [txt_byt]; rintro e w5 ⟨rfl, hr5, hb5⟩))
              go_split_ands
              have hKB : KB w b4 ⟨g, off + k * 3 + 2, none⟩ (.string s) w5 := by assumption
              have hB5 := Lib.hid hKB.2.2.2
              have HR5 := Lib.hid hr5
              clear hr5 hb5 hKB
              go_wp2
              go_roundw
              case rel => exact ⟨k + 1, by omega, by go_num, HR5, hB5⟩
              case measure => simp [intOf]; omega
            | false =>
              obtain ⟨e, he⟩ := hem
              have hokn : okN n := by
                unfold encT at he
                rw [if_neg (by simp)] at he
                by_cases c : 0 ≤ n ∧ n ≤ 281474976710656
                · exact c
                · rw [if_neg c] at he; cases he
              have hed2 : encs (ts.drop k) = enc n ++ encs (ts.drop (k + 1)) := by
                rw [hed]
                unfold encT
                rw [if_neg (by simp), if_pos hokn]
                rfl
              have hb := numG_back n (encs (ts.drop (k + 1))) hokn
              have hln := enc_length n hokn.1 hokn.2
              have hrd := hRd.out
              rw [← hed2] at hb
              have hdr : (encs (ts.drop k)).drop (sizeN n).toNat = encs (ts.drop (k + 1)) := by
                rw [hed2, show (sizeN n).toNat = (enc n).length from by omega, List.drop_left]
              have HBK := Lib.hid hb
              have HRD := Lib.hid hrd
              have HDR := Lib.hid hdr
              clear hed hed2 hb hrd hRd he hsz hrl hokn hln hdr
              go_wp2
              go_region_held3 (fun w' => w'.cell? ⟨g, off + k * 3 + 1, none⟩ = some (.int .i64 n) ∧ KB w b4 ⟨g, off + k * 3 + 1, none⟩ (.int .i64 n) w')
                (first | exact KB.parts ⟨d1, hg, hbw, hB.out⟩ | exact KB.parts (KB.drew ⟨d1, hg, hbw, hB.out⟩) | (go_split_ands; first | exact KB.parts (KB.below (by assumption) (by assumption)) | exact KB.parts (by assumption)))
                (first
                  | (go_at_call 18; refine (rnum_of _ _ _ _ _ _ (RdAt.drew HRD.out) HRK.out HBK.out).mono ?_; rw [HDR.out]; rintro e w5 ⟨rfl, hr5, hb5⟩)
                  | (go_at_call 18; refine (rnum_of _ _ _ _ _ _ HRD.out HRK.out HBK.out).mono ?_; rw [HDR.out]; rintro e w5 ⟨rfl, hr5, hb5⟩))
              go_split_ands
              have hKB : KB w b4 ⟨g, off + k * 3 + 1, none⟩ (.int .i64 n) w5 := by assumption
              have hB5 := Lib.hid hKB.2.2.2
              have HR5 := Lib.hid hr5
              clear hr5 hb5 hKB
              go_wp2
              go_roundw
              case rel => exact ⟨k + 1, by omega, by go_num, HR5, hB5⟩
              case measure => simp [intOf]; omega
          · have e : k = ts.length := by omega
            subst e
            have hR0 := hRd.out
            rw [List.drop_length] at hR0
            have HR0 : Hid (RdAt wr b4 [] 0) := hR0
            clear hR0 hRd
            go_wp2_with (first
              | (go_at_call 19; refine (end0 _ _ HR0.out).mono ?_; rintro e w8 ⟨rfl, rfl⟩)
              | (go_at_call 20; refine (left0 _ _ HR0.out).mono ?_; rintro e w8 ⟨rfl, rfl⟩))
            go_ret
            exact ⟨rfl, hB.out⟩
      · have hgt : (wsts ts ts.length).2 = true := by simpa using hg
        have hW := hWr.out
        rw [HSK.out.2 hgt, hgt] at hW
        have HW := Lib.hid hW
        clear hW hg hgt hWr HSK
        go_wp2_with (go_at_call 15; refine (wbytes_bad _ _ HW.out).mono ?_; rintro e w3 ⟨rfl, rfl⟩)
        go_ret
        exact ⟨rfl, hB.out⟩
theorem back_law (a : Option Addr) (cap : Nat) (ts : List Th) (w : World) (hr : TRd w a ts) (hok : ∀ t ∈ ts, ThOk t) :
    Calls Try.prog 4 #[.slice a ts.length cap] w fun e w' => e = .returned (.bool true) ∧ Below w.heap.size w w' := by
  by_cases hl : ts.length ≤ 300
  · exact back_in a cap ts w hr hl hok
  · have t1 : (300 : Int) < ts.length := by omega
    go_enter Try.func4, Try.ntmps4
    go_wp2_with (go_at_call 8; refine (works_any _).mono ?_; rintro e w1 ⟨rfl, hb1⟩)
    go_ret
    exact ⟨rfl, hb1⟩
end Go.Proofs.Ytipdlhaegkjchaa
