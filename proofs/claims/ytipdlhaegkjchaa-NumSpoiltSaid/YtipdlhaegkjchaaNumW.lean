/-
  The document's examples of layer 1 come out true.
-/
import Derived.Test.YtipdlhaegkjchaaNum9
namespace Go.Proofs.Ytipdlhaegkjchaa
open Go.RowKit
set_option linter.unusedSimpArgs false
set_option linter.unusedVariables false

theorem ex_enc : enc 300 = [172, 2] := by decide
theorem ex_num : numG 8 0 0 [172, 2, 2, 104, 105] = (300, 2, 0) := by decide +kernel
theorem ex_text : textN 9 [2, 104, 105] = ([104, 105], [], 0) := by decide +kernel
theorem ex_size : sizeN 300 = 2 := by decide +kernel
theorem ex_bytes : ([] ++ enc 300) ++ (enc (ByteArray.size ⟨#[104, 105]⟩) ++ byt ⟨#[104, 105]⟩) = [172, 2, 2, 104, 105] := by decide +kernel

theorem num300 (b : Nat) (w : World) (hW : WrAt w b [] false) :
    Calls Try.prog 12 #[.pointer (some ⟨b, 0, none⟩), .int .i64 300] w fun e w' => e = .returned (.pointer (some ⟨b, 0, none⟩)) ∧ WrAt w' b ([] ++ enc 300) false ∧ Below b w w' := wnum_good b 300 [] w hW (by omega) (by omega) (by simp)
theorem texthi (b : Nat) (w : World) (hW : WrAt w b ([] ++ enc 300) false) :
    Calls Try.prog 10 #[.pointer (some ⟨b, 0, none⟩), .string ⟨#[104, 105]⟩] w fun e w' => e = .returned (.pointer (some ⟨b, 0, none⟩)) ∧ WrAt w' b [172, 2, 2, 104, 105] false ∧ Below b w w' :=
  (wtext_good b ⟨#[104, 105]⟩ ([] ++ enc 300) w hW (by rw [ex_enc]; simp) (by decide)).mono fun e w' h => ⟨h.1, by have := h.2.1; rw [ex_bytes] at this; exact this, h.2.2⟩

theorem of5 (a : Option Addr) (cap : Nat) (w : World) (hr : BRd w a [172, 2, 2, 104, 105]) (hn : Fits a [172, 2, 2, 104, 105] cap) : Calls Try.prog 16 #[.slice a 5 cap] w (OfPost [172, 2, 2, 104, 105] w) := of_any a cap [172, 2, 2, 104, 105] w hr hn (by simp)
theorem rnum5 (b : Nat) (w : World) (h : RdAt w b [172, 2, 2, 104, 105] 0) :
    Calls Try.prog 18 #[.pointer (some ⟨b, 0, none⟩)] w fun e w' => e = .returned (.int .i64 300) ∧ RdAt w' b [2, 104, 105] 0 ∧ Below b w w' :=
  (rnum_any b _ w h (by simp)).mono fun e w' q => by rw [ex_num] at q; exact ⟨q.1, q.2.1, q.2.2⟩
theorem rtext3 (b : Nat) (w : World) (h : RdAt w b [2, 104, 105] 0) :
    Calls Try.prog 17 #[.pointer (some ⟨b, 0, none⟩), .int .i64 9] w fun e w' => e = .returned (.string ⟨#[104, 105]⟩) ∧ RdAt w' b [] 0 ∧ Below b w w' :=
  (rtext_any b 9 _ w h (by simp) (by simp)).mono fun e w' q => by rw [ex_text, show txt [104, 105] = ⟨#[104, 105]⟩ from by decide +kernel] at q; exact ⟨q.1, q.2.1, q.2.2⟩
theorem end0 (b : Nat) (w : World) (h : RdAt w b [] 0) : Calls Try.prog 19 #[.pointer (some ⟨b, 0, none⟩)] w fun e w' => e = .returned (.int .i64 0) ∧ w = w' := end_any b [] 0 w h
theorem left0 (b : Nat) (w : World) (h : RdAt w b [] 0) : Calls Try.prog 20 #[.pointer (some ⟨b, 0, none⟩)] w fun e w' => e = .returned (.int .i64 0) ∧ w = w' := left_any b [] 0 w h
theorem size300 (w : World) : Calls Try.prog 14 #[.int .i64 300] w fun e w' => e = .returned (.int .i64 2) ∧ w = w' := (size_any 300 w).mono fun e w' q => by rw [ex_size] at q; exact q

set_option maxHeartbeats 4000000 in
theorem works_any (w : World) : Calls Try.prog 8 #[] w fun e w' => e = .returned (.bool true) ∧ Below w.heap.size w w' := by
  go_enter Try.func8, Try.ntmps8
  go_wp2_with fail
  refine (new_any _).mono ?_
  rintro e w1 ⟨rfl, hz1, hW1, hb1⟩
  have HW1 := Lib.hid hW1
  have HB1 := Lib.hid hb1
  clear hW1 hb1
  go_wp2_with fail
  refine (num300 _ _ HW1.out).mono ?_
  rintro e w2 ⟨rfl, hW2, hb2⟩
  have HW2 := Lib.hid hW2
  have HB2 := Lib.hid hb2
  clear hW2 hb2
  go_wp2_with fail
  refine (texthi _ _ HW2.out).mono ?_
  rintro e w3 ⟨rfl, hW3, hb3⟩
  have HW3 := Lib.hid hW3
  have HB3 := Lib.hid hb3
  clear hW3 hb3
  go_wp2_with fail
  refine (wbytes_good _ _ _ HW3.out (by simp)).mono ?_
  rintro e w4 ⟨⟨v4, he4, ho4⟩, hb4⟩
  obtain ⟨a4, cap4, rfl, hr4, hf4⟩ := brd_of_owns (xs := [172, 2, 2, 104, 105]) ho4 (by simp)
  rw [he4.out]
  have HB4 := Lib.hid hb4
  have HR4 := Lib.hid hr4
  have HF4 := Lib.hid hf4
  clear hb4 hr4 hf4 ho4 he4
  go_wp2_with fail
  refine (of5 _ _ _ HR4.out HF4.out).mono ?_
  rintro e w5 ⟨b5, rfl, hs5, hr5, hb5⟩
  have HR5 := Lib.hid hr5
  have HB5 := Lib.hid hb5
  clear hr5 hb5
  go_wp2_with fail
  refine (rnum5 _ _ HR5.out).mono ?_
  rintro e w6 ⟨rfl, hr6, hb6⟩
  have HR6 := Lib.hid hr6
  have HB6 := Lib.hid hb6
  clear hr6 hb6
  go_wp2_with fail
  refine (rtext3 _ _ HR6.out).mono ?_
  rintro e w7 ⟨rfl, hr7, hb7⟩
  have HR7 := Lib.hid hr7
  have HB7 := Lib.hid hb7
  clear hr7 hb7
  have h47 : Below w4.heap.size w4 w7 := HB5.out.trans ((HB6.out.mono hs5).trans (HB7.out.mono hs5))
  have H47 := Lib.hid h47
  clear h47
  have hr47 := HR4.out.below H47.out
  cases a4 with
  | none => exact absurd HF4.out.2.1 (by have := HF4.out.1 rfl; simp; omega)
  | some ad =>
    obtain ⟨g4, o4, spot⟩ := ad
    have hsp : spot = none := HF4.out.2.2.2 _ rfl
    subst hsp
    have hcv := conv_brd (c := cap4) hr47
    rw [show txt [172, 2, 2, 104, 105] = ⟨#[172, 2, 2, 104, 105]⟩ from by decide +kernel, show ([172, 2, 2, 104, 105] : List Int).length = 5 from rfl] at hcv
    clear hr47
    go_wp2_with (first
      | (go_at_call 19; refine (end0 _ _ HR7.out).mono ?_; rintro e w8 ⟨rfl, rfl⟩)
      | (go_at_call 20; refine (left0 _ _ HR7.out).mono ?_; rintro e w8 ⟨rfl, rfl⟩)
      | (go_at_call 14; refine (size300 _).mono ?_; rintro e w8 ⟨rfl, rfl⟩))
    go_ret
    refine ⟨rfl, ?_⟩
    have z1 := HB1.out.size
    have z2 := HB2.out.size
    have z3 := HB3.out.size
    exact HB1.out.trans ((HB2.out.trans (HB3.out.trans ((HB4.out.mono (by omega)).trans (H47.out.mono (by have := HB4.out.size; omega))))))
end Go.Proofs.Ytipdlhaegkjchaa
