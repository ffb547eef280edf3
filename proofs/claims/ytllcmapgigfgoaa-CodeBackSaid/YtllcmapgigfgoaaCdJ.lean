/-
  The walk of CodeBack.
-/
import Derived.Test.YtllcmapgigfgoaaCdV
import Derived.Test.YtllcmapgigfgoaaCdI
namespace Go.Proofs.Ytllcmapgigfgoaa
open Go.RowKit
set_option linter.unusedSimpArgs false
set_option linter.unusedVariables false

theorem rch_of_oks {x : Msg7} (h : Oks (msC.fs x)) : RchI x.2.2.2.2.2.1 x.2.2.2.2.2.2 := by
  obtain ⟨_, h1⟩ := oks_pair h
  obtain ⟨_, h2⟩ := oks_pair h1
  obtain ⟨_, h3⟩ := oks_pair h2
  obtain ⟨_, h4⟩ := oks_pair h3
  obtain ⟨_, h5⟩ := oks_pair h4
  obtain ⟨h6, h7⟩ := oks_pair h5
  have a := sml_in h6
  have b := sml_of h7
  exact ⟨by omega, by omega, fun y hy => by have := b.e2 y hy; omega, fun y hy => ⟨by have := b.e3 y hy; omega, fun t ht => by have := (b.e3 y hy).2.2 t ht; omega⟩⟩
/-- What is read of bytes is what would be written so. -/
theorem ms_inv {xs : List Int} (hb : BytL xs) (h : endE (msC.rd (xs, 0)).2 = 0) : Oks (msC.fs (msC.rd (xs, 0)).1) ∧ eF (msC.fs (msC.rd (xs, 0)).1) = xs := by
  obtain ⟨h1, h2⟩ := endE_ok h
  obtain ⟨h3, h4⟩ := msC.inv xs hb h1
  rw [h2, List.append_nil] at h4
  exact ⟨h3, h4.symm⟩
theorem build1C (x : Int) (w : World) : (Instr.buildSlice 49 1 #[(0, .int .u8 x)]).run Try.prog w = .ok (.slice (some ⟨w.heap.size, 0, none⟩) 1 1) (w.alloc (.cells #[.int .u8 x] 5)) := by kernel_rfl
set_option maxRecDepth 100000 in
set_option maxHeartbeats 8000000 in
theorem back_bad (v0 : Value) (x0 : Msg7) (s : ByteArray) (w : World) (h0 : MsgIs w v0 x0) (z0 : RchI x0.2.2.2.2.2.1 x0.2.2.2.2.2.2) (hs : s.size ≤ maxLen) (q : ¬ Oks (msC.fs x0)) :
    Calls Try.prog 5 #[v0, .string s] w (TruP w) := by
  have Q0 := Lib.hid q
  clear q
  have HM0' := h0
  have HZr0 := Lib.hid z0
  obtain ⟨cs0, rfl, hs0⟩ := h0
  have HI0 : Hid ((Try.prog.info? 44).map (·.size) = some cs0.size) := Lib.hid (by rw [ms_size hs0]; kernel_rfl)
  have HX0 := Lib.hid (bka_new w 44 cs0)
  have HB : Hid (Below w.heap.size w (w.alloc (.cells cs0 44))) := Lib.hid ((Below.refl _ _).alloc (Nat.le_refl _) _)
  have HM0 := Lib.hid (HM0'.on HB.out)
  have hsm : (s.size : Int) ≤ 9223372036854775807 := by unfold maxLen at hs; omega
  clear hs0 z0 HM0' hs
  go_enter Try.func5, Try.ntmps5
  go_wp2_with fail
  refine (works_any _).mono ?_
  rintro e w1 ⟨rfl, hb⟩
  have HX0' := Lib.hid ((hb.block _ (Array.getElem?_eq_some_iff.1 HX0.out).1).trans HX0.out)
  have HB' := Lib.hid (HB.out.trans (hb.mono HB.out.size))
  have HM0' := Lib.hid (HM0.out.on hb)
  clear hb HX0 HB HM0
  have HX0 := HX0'
  have HB := HB'
  have HM0 := HM0'
  clear HX0' HB' HM0'
  go_wp2_with (first | refine wpList_load_rowG rfl _ _ rfl (w.heap.size) rfl 44 cs0 (0, 0) _ HX0.out Try.underlying44 rfl HI0.out ?_ | fail)
  refine (few_any _ x0 _ HM0.out).mono ?_
  rintro e wf ⟨R, he, hF, hb⟩
  rw [he.out]
  clear he
  have HF := Lib.hid hF
  clear hF
  have HX0' := Lib.hid ((hb.block _ (Array.getElem?_eq_some_iff.1 HX0.out).1).trans HX0.out)
  have HB' := Lib.hid (HB.out.trans (hb.mono HB.out.size))
  have HM0' := Lib.hid (HM0.out.on hb)
  clear hb HX0 HB HM0
  have HX0 := HX0'
  have HB := HB'
  have HM0 := HM0'
  clear HX0' HB' HM0'
  cases R with
  | false =>
    go_wp2_with fail
    go_ret
    exact ⟨rfl, HB.out⟩
  | true =>
  by_cases q0 : 3000 < s.size
  · have s1 : decide ((3000 : Int) < (s.size : Int)) = true := decide_eq_true (by omega)
    have s2 : (3000 : Int) < (s.size : Int) := by omega
    have s3 : decide (3000 < s.size) = true := decide_eq_true q0
    go_wp2_with fail
    go_ret
    exact ⟨rfl, HB.out⟩
  have s1 : decide ((3000 : Int) < (s.size : Int)) = false := decide_eq_false (by omega)
  have s3 : decide (3000 < s.size) = false := decide_eq_false q0
  have HS3 := Lib.hid (show s.size ≤ 3000 by omega)
  clear q0
  go_wp2_with (first | refine wpList_load_rowG rfl _ _ rfl (w.heap.size) rfl 44 cs0 (0, 0) _ HX0.out Try.underlying44 rfl HI0.out ?_ | fail)
  refine (msg_any _ x0 _ HM0.out).mono ?_
  rintro e wm hP
  obtain ⟨_, he, hb⟩ := hP.resolve_left (fun h => Q0.out h.1)
  rw [he.out]
  clear he hP
  have HX0' := Lib.hid ((hb.block _ (Array.getElem?_eq_some_iff.1 HX0.out).1).trans HX0.out)
  have HB' := Lib.hid (HB.out.trans (hb.mono HB.out.size))
  have HM0' := Lib.hid (HM0.out.on hb)
  clear hb HX0 HB HM0
  have HX0 := HX0'
  have HB := HB'
  have HM0 := HM0'
  clear HX0' HB' HM0'
  go_wp2_with (first | refine wpList_load_rowG rfl _ _ rfl (w.heap.size) rfl 44 cs0 (0, 0) _ HX0.out Try.underlying44 rfl HI0.out ?_ | refine wpList_bytes_g (o := ⟨some 91, _, _, _, _, _⟩) rfl 9 49 _ rfl 5 Try.underlying9 Try.underlying49 Try.underlying5 _ rfl (by omega) ?_)
  intro v9 w9 hT hz9 hb
  have HT9 := Lib.hid hT
  clear hT hz9
  have HX0' := Lib.hid ((hb.block _ (Array.getElem?_eq_some_iff.1 HX0.out).1).trans HX0.out)
  have HB' := Lib.hid (HB.out.trans (hb.mono HB.out.size))
  have HM0' := Lib.hid (HM0.out.on hb)
  clear hb HX0 HB HM0
  have HX0 := HX0'
  have HB := HB'
  have HM0 := HM0'
  clear HX0' HB' HM0'
  by_cases qe : endE (msC.rd (byt s, 0)).2 = 0
  · have HQE := Lib.hid (ms_inv (byt_range s) qe)
    have HE0 := Lib.hid qe
    clear qe
    go_wp2_with (first | refine wpList_load_rowG rfl _ _ rfl (w.heap.size) rfl 44 cs0 (0, 0) _ HX0.out Try.underlying44 rfl HI0.out ?_ | fail)
    refine (ofmsg_c _ (byt s) _ HT9.out (byt_range s) (by rw [byt_length]; have := HS3.out; omega)).mono ?_
    rintro e wr1 ⟨cs9, he, hsz, hone, hb, hm⟩
    rw [he.out]
    rw [HE0.out] at hm ⊢
    clear he
    have HI9 : Hid ((Try.prog.info? 44).map (·.size) = some cs9.size) := Lib.hid (by rw [hsz]; kernel_rfl)
    have HZ9 : Hid (((#[.int .i64 0, .int .i64 0, .int .i64 0, .int .i64 0, .int .i64 0, .int .i64 0, .int .i64 0, .int .i64 0, .int .i64 0, .int .i64 0, .int .i64 0, .int .i64 0, .int .i64 0, .int .i64 0, .int .i64 0, .int .i64 0, .string ⟨#[]⟩, .string ⟨#[]⟩, .int .i64 0, .int .i64 0, .int .i64 0, .int .i64 0, .slice none 0 0, .int .i64 0, .slice none 0 0, .slice none 0 0, .slice none 0 0] : Array Value)).size = cs9.size) := Lib.hid (by rw [hsz]; rfl)
    have HO9 := Lib.hid hone
    have HA9 := Lib.hid (bka_new wr1 44 (#[.int .i64 0, .int .i64 0, .int .i64 0, .int .i64 0, .int .i64 0, .int .i64 0, .int .i64 0, .int .i64 0, .int .i64 0, .int .i64 0, .int .i64 0, .int .i64 0, .int .i64 0, .int .i64 0, .int .i64 0, .int .i64 0, .string ⟨#[]⟩, .string ⟨#[]⟩, .int .i64 0, .int .i64 0, .int .i64 0, .int .i64 0, .slice none 0 0, .int .i64 0, .slice none 0 0, .slice none 0 0, .slice none 0 0] : Array Value))
    have HX9 := Lib.hid (box_row wr1 44 (#[.int .i64 0, .int .i64 0, .int .i64 0, .int .i64 0, .int .i64 0, .int .i64 0, .int .i64 0, .int .i64 0, .int .i64 0, .int .i64 0, .int .i64 0, .int .i64 0, .int .i64 0, .int .i64 0, .int .i64 0, .int .i64 0, .string ⟨#[]⟩, .string ⟨#[]⟩, .int .i64 0, .int .i64 0, .int .i64 0, .int .i64 0, .slice none 0 0, .int .i64 0, .slice none 0 0, .slice none 0 0, .slice none 0 0] : Array Value) cs9)
    have hb := hb.trans ((box_below wr1 44 (#[.int .i64 0, .int .i64 0, .int .i64 0, .int .i64 0, .int .i64 0, .int .i64 0, .int .i64 0, .int .i64 0, .int .i64 0, .int .i64 0, .int .i64 0, .int .i64 0, .int .i64 0, .int .i64 0, .int .i64 0, .int .i64 0, .string ⟨#[]⟩, .string ⟨#[]⟩, .int .i64 0, .int .i64 0, .int .i64 0, .int .i64 0, .slice none 0 0, .int .i64 0, .slice none 0 0, .slice none 0 0, .slice none 0 0] : Array Value) cs9).mono hb.size)
    have HM9 : Hid (MsgIs ((wr1.alloc (.cells (#[.int .i64 0, .int .i64 0, .int .i64 0, .int .i64 0, .int .i64 0, .int .i64 0, .int .i64 0, .int .i64 0, .int .i64 0, .int .i64 0, .int .i64 0, .int .i64 0, .int .i64 0, .int .i64 0, .int .i64 0, .int .i64 0, .string ⟨#[]⟩, .string ⟨#[]⟩, .int .i64 0, .int .i64 0, .int .i64 0, .int .i64 0, .slice none 0 0, .int .i64 0, .slice none 0 0, .slice none 0 0, .slice none 0 0] : Array Value) 44)).setRow wr1.heap.size cs9) (.agg cs9) (msC.rd (byt s, 0)).1) := Lib.hid ⟨cs9, rfl, hm rfl _ (fun j _ hj => (box_below wr1 44 (#[.int .i64 0, .int .i64 0, .int .i64 0, .int .i64 0, .int .i64 0, .int .i64 0, .int .i64 0, .int .i64 0, .int .i64 0, .int .i64 0, .int .i64 0, .int .i64 0, .int .i64 0, .int .i64 0, .int .i64 0, .int .i64 0, .string ⟨#[]⟩, .string ⟨#[]⟩, .int .i64 0, .int .i64 0, .int .i64 0, .int .i64 0, .slice none 0 0, .int .i64 0, .slice none 0 0, .slice none 0 0, .slice none 0 0] : Array Value) cs9).block j hj)⟩
    clear hsz hone hm
    have HX0' := Lib.hid ((hb.block _ (Array.getElem?_eq_some_iff.1 HX0.out).1).trans HX0.out)
    have HB' := Lib.hid (HB.out.trans (hb.mono HB.out.size))
    have HM0' := Lib.hid (HM0.out.on hb)
    clear hb HX0 HB HM0
    have HX0 := HX0'
    have HB := HB'
    have HM0 := HM0'
    clear HX0' HB' HM0'
    go_wp2_with (first | refine wpList_store_row rfl 44 _ _ rfl wr1.heap.size rfl cs9 rfl (#[.int .i64 0, .int .i64 0, .int .i64 0, .int .i64 0, .int .i64 0, .int .i64 0, .int .i64 0, .int .i64 0, .int .i64 0, .int .i64 0, .int .i64 0, .int .i64 0, .int .i64 0, .int .i64 0, .int .i64 0, .int .i64 0, .string ⟨#[]⟩, .string ⟨#[]⟩, .int .i64 0, .int .i64 0, .int .i64 0, .int .i64 0, .slice none 0 0, .int .i64 0, .slice none 0 0, .slice none 0 0, .slice none 0 0] : Array Value) 44 HA9.out HI9.out HZ9.out HO9.out ?_ | refine wpList_load_rowG rfl _ _ rfl (w.heap.size) rfl 44 cs0 (0, 0) _ HX0.out Try.underlying44 rfl HI0.out ?_ | refine wpList_load_rowG rfl _ _ rfl (wr1.heap.size) rfl 44 cs9 (0, 0) _ HX9.out Try.underlying44 rfl HI9.out ?_ | fail)
    generalize ((wr1.alloc (.cells (#[.int .i64 0, .int .i64 0, .int .i64 0, .int .i64 0, .int .i64 0, .int .i64 0, .int .i64 0, .int .i64 0, .int .i64 0, .int .i64 0, .int .i64 0, .int .i64 0, .int .i64 0, .int .i64 0, .int .i64 0, .int .i64 0, .string ⟨#[]⟩, .string ⟨#[]⟩, .int .i64 0, .int .i64 0, .int .i64 0, .int .i64 0, .slice none 0 0, .int .i64 0, .slice none 0 0, .slice none 0 0, .slice none 0 0] : Array Value) 44)).setRow wr1.heap.size cs9) = wz9 at *
    refine (msg_any _ _ _ HM9.out).mono ?_
    rintro e wq hP
    obtain ⟨_, uq, he, ho, hb⟩ := hP.resolve_right (fun k => k.1 HQE.out.1)
    rw [he.out]
    clear he hP
    rw [HQE.out.2] at ho
    obtain ⟨aq, cq, hv⟩ := ho.slice
    subst hv
    have h1 := bt_str (ho.bt (by rw [byt_length]; omega))
    rw [txt_byt] at h1
    clear ho
    have HX0' := Lib.hid ((hb.block _ (Array.getElem?_eq_some_iff.1 HX0.out).1).trans HX0.out)
    have HB' := Lib.hid (HB.out.trans (hb.mono HB.out.size))
    have HM0' := Lib.hid (HM0.out.on hb)
    have HX9' := Lib.hid ((hb.block _ (Array.getElem?_eq_some_iff.1 HX9.out).1).trans HX9.out)
    have HM9' := Lib.hid (HM9.out.on hb)
    clear hb HX0 HB HM0 HX9 HM9
    have HX0 := HX0'
    have HB := HB'
    have HM0 := HM0'
    have HX9 := HX9'
    have HM9 := HM9'
    clear HX0' HB' HM0' HX9' HM9'
    go_wp2_with fail
    go_ret
    exact ⟨rfl, HB.out⟩
  · have HE0 := Lib.hid qe
    clear qe
    go_wp2_with (first | refine wpList_load_rowG rfl _ _ rfl (w.heap.size) rfl 44 cs0 (0, 0) _ HX0.out Try.underlying44 rfl HI0.out ?_ | fail)
    refine (ofmsg_c _ (byt s) _ HT9.out (byt_range s) (by rw [byt_length]; have := HS3.out; omega)).mono ?_
    rintro e wr51 ⟨cs9, he, hsz, hone, hb, hm⟩
    obtain ⟨er, her⟩ : ∃ er, endE (msC.rd (byt s, 0)).2 = er := ⟨_, rfl⟩
    have hne := HE0.out
    rw [her] at hne he
    rw [he.out]
    have t6 : (er == 0) = false := by simpa using hne
    have t7 : (er != 0) = true := by simpa using hne
    clear he her hne
    have HI9 : Hid ((Try.prog.info? 44).map (·.size) = some cs9.size) := Lib.hid (by rw [hsz]; kernel_rfl)
    have HZ9 : Hid (((#[.int .i64 0, .int .i64 0, .int .i64 0, .int .i64 0, .int .i64 0, .int .i64 0, .int .i64 0, .int .i64 0, .int .i64 0, .int .i64 0, .int .i64 0, .int .i64 0, .int .i64 0, .int .i64 0, .int .i64 0, .int .i64 0, .string ⟨#[]⟩, .string ⟨#[]⟩, .int .i64 0, .int .i64 0, .int .i64 0, .int .i64 0, .slice none 0 0, .int .i64 0, .slice none 0 0, .slice none 0 0, .slice none 0 0] : Array Value)).size = cs9.size) := Lib.hid (by rw [hsz]; rfl)
    have HO9 := Lib.hid hone
    have HA9 := Lib.hid (bka_new wr51 44 (#[.int .i64 0, .int .i64 0, .int .i64 0, .int .i64 0, .int .i64 0, .int .i64 0, .int .i64 0, .int .i64 0, .int .i64 0, .int .i64 0, .int .i64 0, .int .i64 0, .int .i64 0, .int .i64 0, .int .i64 0, .int .i64 0, .string ⟨#[]⟩, .string ⟨#[]⟩, .int .i64 0, .int .i64 0, .int .i64 0, .int .i64 0, .slice none 0 0, .int .i64 0, .slice none 0 0, .slice none 0 0, .slice none 0 0] : Array Value))
    have HX9 := Lib.hid (box_row wr51 44 (#[.int .i64 0, .int .i64 0, .int .i64 0, .int .i64 0, .int .i64 0, .int .i64 0, .int .i64 0, .int .i64 0, .int .i64 0, .int .i64 0, .int .i64 0, .int .i64 0, .int .i64 0, .int .i64 0, .int .i64 0, .int .i64 0, .string ⟨#[]⟩, .string ⟨#[]⟩, .int .i64 0, .int .i64 0, .int .i64 0, .int .i64 0, .slice none 0 0, .int .i64 0, .slice none 0 0, .slice none 0 0, .slice none 0 0] : Array Value) cs9)
    have hb := hb.trans ((box_below wr51 44 (#[.int .i64 0, .int .i64 0, .int .i64 0, .int .i64 0, .int .i64 0, .int .i64 0, .int .i64 0, .int .i64 0, .int .i64 0, .int .i64 0, .int .i64 0, .int .i64 0, .int .i64 0, .int .i64 0, .int .i64 0, .int .i64 0, .string ⟨#[]⟩, .string ⟨#[]⟩, .int .i64 0, .int .i64 0, .int .i64 0, .int .i64 0, .slice none 0 0, .int .i64 0, .slice none 0 0, .slice none 0 0, .slice none 0 0] : Array Value) cs9).mono hb.size)
    clear hsz hone hm
    have HX0' := Lib.hid ((hb.block _ (Array.getElem?_eq_some_iff.1 HX0.out).1).trans HX0.out)
    have HB' := Lib.hid (HB.out.trans (hb.mono HB.out.size))
    have HM0' := Lib.hid (HM0.out.on hb)
    clear hb HX0 HB HM0
    have HX0 := HX0'
    have HB := HB'
    have HM0 := HM0'
    clear HX0' HB' HM0'
    go_wp2_with (first | refine wpList_store_row rfl 44 _ _ rfl wr51.heap.size rfl cs9 rfl (#[.int .i64 0, .int .i64 0, .int .i64 0, .int .i64 0, .int .i64 0, .int .i64 0, .int .i64 0, .int .i64 0, .int .i64 0, .int .i64 0, .int .i64 0, .int .i64 0, .int .i64 0, .int .i64 0, .int .i64 0, .int .i64 0, .string ⟨#[]⟩, .string ⟨#[]⟩, .int .i64 0, .int .i64 0, .int .i64 0, .int .i64 0, .slice none 0 0, .int .i64 0, .slice none 0 0, .slice none 0 0, .slice none 0 0] : Array Value) 44 HA9.out HI9.out HZ9.out HO9.out ?_ | refine wpList_load_rowG rfl _ _ rfl (w.heap.size) rfl 44 cs0 (0, 0) _ HX0.out Try.underlying44 rfl HI0.out ?_ | refine wpList_load_rowG rfl _ _ rfl (wr51.heap.size) rfl 44 cs9 (0, 0) _ HX9.out Try.underlying44 rfl HI9.out ?_ | fail)
    go_ret
    exact ⟨rfl, HB.out⟩
set_option maxRecDepth 100000 in
set_option maxHeartbeats 16000000 in
theorem back_good (v0 : Value) (x0 : Msg7) (s : ByteArray) (w : World) (h0 : MsgIs w v0 x0) (z0 : RchI x0.2.2.2.2.2.1 x0.2.2.2.2.2.2) (hs : s.size ≤ maxLen) (q : Oks (msC.fs x0)) :
    Calls Try.prog 5 #[v0, .string s] w (TruP w) := by
  have Q0 := Lib.hid q
  clear q
  have HM0' := h0
  have HZr0 := Lib.hid z0
  obtain ⟨cs0, rfl, hs0⟩ := h0
  have HI0 : Hid ((Try.prog.info? 44).map (·.size) = some cs0.size) := Lib.hid (by rw [ms_size hs0]; kernel_rfl)
  have HX0 := Lib.hid (bka_new w 44 cs0)
  have HB : Hid (Below w.heap.size w (w.alloc (.cells cs0 44))) := Lib.hid ((Below.refl _ _).alloc (Nat.le_refl _) _)
  have HM0 := Lib.hid (HM0'.on HB.out)
  have hsm : (s.size : Int) ≤ 9223372036854775807 := by unfold maxLen at hs; omega
  clear hs0 z0 HM0' hs
  go_enter Try.func5, Try.ntmps5
  go_wp2_with fail
  refine (works_any _).mono ?_
  rintro e w1 ⟨rfl, hb⟩
  have HX0' := Lib.hid ((hb.block _ (Array.getElem?_eq_some_iff.1 HX0.out).1).trans HX0.out)
  have HB' := Lib.hid (HB.out.trans (hb.mono HB.out.size))
  have HM0' := Lib.hid (HM0.out.on hb)
  clear hb HX0 HB HM0
  have HX0 := HX0'
  have HB := HB'
  have HM0 := HM0'
  clear HX0' HB' HM0'
  go_wp2_with (first | refine wpList_load_rowG rfl _ _ rfl (w.heap.size) rfl 44 cs0 (0, 0) _ HX0.out Try.underlying44 rfl HI0.out ?_ | fail)
  refine (few_any _ x0 _ HM0.out).mono ?_
  rintro e wf ⟨R, he, hF, hb⟩
  rw [he.out]
  clear he
  have HF := Lib.hid hF
  clear hF
  have HX0' := Lib.hid ((hb.block _ (Array.getElem?_eq_some_iff.1 HX0.out).1).trans HX0.out)
  have HB' := Lib.hid (HB.out.trans (hb.mono HB.out.size))
  have HM0' := Lib.hid (HM0.out.on hb)
  clear hb HX0 HB HM0
  have HX0 := HX0'
  have HB := HB'
  have HM0 := HM0'
  clear HX0' HB' HM0'
  cases R with
  | false =>
    go_wp2_with fail
    go_ret
    exact ⟨rfl, HB.out⟩
  | true =>
  by_cases q0 : 3000 < s.size
  · have s1 : decide ((3000 : Int) < (s.size : Int)) = true := decide_eq_true (by omega)
    have s2 : (3000 : Int) < (s.size : Int) := by omega
    have s3 : decide (3000 < s.size) = true := decide_eq_true q0
    go_wp2_with fail
    go_ret
    exact ⟨rfl, HB.out⟩
  have s1 : decide ((3000 : Int) < (s.size : Int)) = false := decide_eq_false (by omega)
  have s3 : decide (3000 < s.size) = false := decide_eq_false q0
  have HS3 := Lib.hid (show s.size ≤ 3000 by omega)
  clear q0
  go_wp2_with (first | refine wpList_load_rowG rfl _ _ rfl (w.heap.size) rfl 44 cs0 (0, 0) _ HX0.out Try.underlying44 rfl HI0.out ?_ | fail)
  refine (msg_any _ x0 _ HM0.out).mono ?_
  rintro e wm hP
  obtain ⟨_, u0, he, ho, hb⟩ := hP.resolve_right (fun h => h.1 Q0.out)
  rw [he.out]
  clear he hP
  have hlen := few_len Q0.out (HF.out (by first | rfl | trivial))
  obtain ⟨a0, c0, hv⟩ := ho.slice
  subst hv
  have HU0 := Lib.hid (ho.bt (by omega))
  have HLn := Lib.hid hlen
  clear ho hlen
  have HX0' := Lib.hid ((hb.block _ (Array.getElem?_eq_some_iff.1 HX0.out).1).trans HX0.out)
  have HB' := Lib.hid (HB.out.trans (hb.mono HB.out.size))
  have HM0' := Lib.hid (HM0.out.on hb)
  clear hb HX0 HB HM0
  have HX0 := HX0'
  have HB := HB'
  have HM0 := HM0'
  clear HX0' HB' HM0'
  go_wp2_with (first | refine wpList_load_rowG rfl _ _ rfl (w.heap.size) rfl 44 cs0 (0, 0) _ HX0.out Try.underlying44 rfl HI0.out ?_ | fail)
  refine (ofmsg_c _ (eF (msC.fs x0)) _ HU0.out (eF_byte Q0.out) (by have := HLn.out; omega)).mono ?_
  rw [Pc.ms_back Q0.out]
  rintro e wr1 ⟨cs8, he, hsz, hone, hb, hm⟩
  rw [he.out, show endE (x0, (([] : List Int), (0 : Int))).2 = 0 from rfl]
  clear he
  have HI8 : Hid ((Try.prog.info? 44).map (·.size) = some cs8.size) := Lib.hid (by rw [hsz]; kernel_rfl)
  have HZ8 : Hid (((#[.int .i64 0, .int .i64 0, .int .i64 0, .int .i64 0, .int .i64 0, .int .i64 0, .int .i64 0, .int .i64 0, .int .i64 0, .int .i64 0, .int .i64 0, .int .i64 0, .int .i64 0, .int .i64 0, .int .i64 0, .int .i64 0, .string ⟨#[]⟩, .string ⟨#[]⟩, .int .i64 0, .int .i64 0, .int .i64 0, .int .i64 0, .slice none 0 0, .int .i64 0, .slice none 0 0, .slice none 0 0, .slice none 0 0] : Array Value)).size = cs8.size) := Lib.hid (by rw [hsz]; rfl)
  have HO8 := Lib.hid hone
  have HA8 := Lib.hid (bka_new wr1 44 (#[.int .i64 0, .int .i64 0, .int .i64 0, .int .i64 0, .int .i64 0, .int .i64 0, .int .i64 0, .int .i64 0, .int .i64 0, .int .i64 0, .int .i64 0, .int .i64 0, .int .i64 0, .int .i64 0, .int .i64 0, .int .i64 0, .string ⟨#[]⟩, .string ⟨#[]⟩, .int .i64 0, .int .i64 0, .int .i64 0, .int .i64 0, .slice none 0 0, .int .i64 0, .slice none 0 0, .slice none 0 0, .slice none 0 0] : Array Value))
  have HX8 := Lib.hid (box_row wr1 44 (#[.int .i64 0, .int .i64 0, .int .i64 0, .int .i64 0, .int .i64 0, .int .i64 0, .int .i64 0, .int .i64 0, .int .i64 0, .int .i64 0, .int .i64 0, .int .i64 0, .int .i64 0, .int .i64 0, .int .i64 0, .int .i64 0, .string ⟨#[]⟩, .string ⟨#[]⟩, .int .i64 0, .int .i64 0, .int .i64 0, .int .i64 0, .slice none 0 0, .int .i64 0, .slice none 0 0, .slice none 0 0, .slice none 0 0] : Array Value) cs8)
  have hb := hb.trans ((box_below wr1 44 (#[.int .i64 0, .int .i64 0, .int .i64 0, .int .i64 0, .int .i64 0, .int .i64 0, .int .i64 0, .int .i64 0, .int .i64 0, .int .i64 0, .int .i64 0, .int .i64 0, .int .i64 0, .int .i64 0, .int .i64 0, .int .i64 0, .string ⟨#[]⟩, .string ⟨#[]⟩, .int .i64 0, .int .i64 0, .int .i64 0, .int .i64 0, .slice none 0 0, .int .i64 0, .slice none 0 0, .slice none 0 0, .slice none 0 0] : Array Value) cs8).mono hb.size)
  have HM8 : Hid (MsgIs ((wr1.alloc (.cells (#[.int .i64 0, .int .i64 0, .int .i64 0, .int .i64 0, .int .i64 0, .int .i64 0, .int .i64 0, .int .i64 0, .int .i64 0, .int .i64 0, .int .i64 0, .int .i64 0, .int .i64 0, .int .i64 0, .int .i64 0, .int .i64 0, .string ⟨#[]⟩, .string ⟨#[]⟩, .int .i64 0, .int .i64 0, .int .i64 0, .int .i64 0, .slice none 0 0, .int .i64 0, .slice none 0 0, .slice none 0 0, .slice none 0 0] : Array Value) 44)).setRow wr1.heap.size cs8) (.agg cs8) x0) := Lib.hid ⟨cs8, rfl, hm rfl _ (fun j _ hj => (box_below wr1 44 (#[.int .i64 0, .int .i64 0, .int .i64 0, .int .i64 0, .int .i64 0, .int .i64 0, .int .i64 0, .int .i64 0, .int .i64 0, .int .i64 0, .int .i64 0, .int .i64 0, .int .i64 0, .int .i64 0, .int .i64 0, .int .i64 0, .string ⟨#[]⟩, .string ⟨#[]⟩, .int .i64 0, .int .i64 0, .int .i64 0, .int .i64 0, .slice none 0 0, .int .i64 0, .slice none 0 0, .slice none 0 0, .slice none 0 0] : Array Value) cs8).block j hj)⟩
  clear hsz hone hm
  have HX0' := Lib.hid ((hb.block _ (Array.getElem?_eq_some_iff.1 HX0.out).1).trans HX0.out)
  have HB' := Lib.hid (HB.out.trans (hb.mono HB.out.size))
  have HM0' := Lib.hid (HM0.out.on hb)
  have HU0' := Lib.hid (HU0.out.below hb)
  clear hb HX0 HB HM0 HU0
  have HX0 := HX0'
  have HB := HB'
  have HM0 := HM0'
  have HU0 := HU0'
  clear HX0' HB' HM0' HU0'
  go_wp2_with (first | refine wpList_store_row rfl 44 _ _ rfl wr1.heap.size rfl cs8 rfl (#[.int .i64 0, .int .i64 0, .int .i64 0, .int .i64 0, .int .i64 0, .int .i64 0, .int .i64 0, .int .i64 0, .int .i64 0, .int .i64 0, .int .i64 0, .int .i64 0, .int .i64 0, .int .i64 0, .int .i64 0, .int .i64 0, .string ⟨#[]⟩, .string ⟨#[]⟩, .int .i64 0, .int .i64 0, .int .i64 0, .int .i64 0, .slice none 0 0, .int .i64 0, .slice none 0 0, .slice none 0 0, .slice none 0 0] : Array Value) 44 HA8.out HI8.out HZ8.out HO8.out ?_ | refine wpList_load_rowG rfl _ _ rfl (w.heap.size) rfl 44 cs0 (0, 0) _ HX0.out Try.underlying44 rfl HI0.out ?_ | refine wpList_load_rowG rfl _ _ rfl (wr1.heap.size) rfl 44 cs8 (0, 0) _ HX8.out Try.underlying44 rfl HI8.out ?_ | fail)
  generalize ((wr1.alloc (.cells (#[.int .i64 0, .int .i64 0, .int .i64 0, .int .i64 0, .int .i64 0, .int .i64 0, .int .i64 0, .int .i64 0, .int .i64 0, .int .i64 0, .int .i64 0, .int .i64 0, .int .i64 0, .int .i64 0, .int .i64 0, .int .i64 0, .string ⟨#[]⟩, .string ⟨#[]⟩, .int .i64 0, .int .i64 0, .int .i64 0, .int .i64 0, .slice none 0 0, .int .i64 0, .slice none 0 0, .slice none 0 0, .slice none 0 0] : Array Value) 44)).setRow wr1.heap.size cs8) = w8 at *
  refine (frame_any _ x0 _ HM0.out).mono ?_
  rintro e w10 hP
  obtain ⟨_, _, t0, he, ho, hb⟩ := hP.resolve_right (fun h => h.elim (fun k => k.2.1 (by have := HLn.out; omega)) (fun k => k.1 Q0.out))
  rw [he.out]
  clear he hP
  obtain ⟨ar, cr, hv, _⟩ := ho.row
  subst hv
  have HT0 := Lib.hid ho
  clear ho
  have HX0' := Lib.hid ((hb.block _ (Array.getElem?_eq_some_iff.1 HX0.out).1).trans HX0.out)
  have HB' := Lib.hid (HB.out.trans (hb.mono HB.out.size))
  have HM0' := Lib.hid (HM0.out.on hb)
  have HU0' := Lib.hid (HU0.out.below hb)
  have HX8' := Lib.hid ((hb.block _ (Array.getElem?_eq_some_iff.1 HX8.out).1).trans HX8.out)
  have HM8' := Lib.hid (HM8.out.on hb)
  clear hb HX0 HB HM0 HU0 HX8 HM8
  have HX0 := HX0'
  have HB := HB'
  have HM0 := HM0'
  have HU0 := HU0'
  have HX8 := HX8'
  have HM8 := HM8'
  clear HX0' HB' HM0' HU0' HX8' HM8'
  have hfr := Pc.ofE_frame Q0.out (by have := HLn.out; omega)
  have HFR := Lib.hid hfr
  clear hfr
  go_wp2_with (first | refine wpList_load_rowG rfl _ _ rfl (w.heap.size) rfl 44 cs0 (0, 0) _ HX0.out Try.underlying44 rfl HI0.out ?_ | refine wpList_load_rowG rfl _ _ rfl (wr1.heap.size) rfl 44 cs8 (0, 0) _ HX8.out Try.underlying44 rfl HI8.out ?_ | fail)
  refine (offrame_any _ (frm (eF (msC.fs x0))) _ HT0.out (frm_range (eF_byte Q0.out) (by have := HLn.out; omega)) (by rw [frm_length]; have := HLn.out; omega)).mono ?_
  rw [HFR.out.2, HFR.out.1]
  simp only
  rw [Pc.ms_back Q0.out]
  rintro e wr2 ⟨cs7, he, hsz, hone, hb, hm⟩
  rw [he.out]
  clear he
  have HI7 : Hid ((Try.prog.info? 44).map (·.size) = some cs7.size) := Lib.hid (by rw [hsz]; kernel_rfl)
  have HZ7 : Hid (((#[.int .i64 0, .int .i64 0, .int .i64 0, .int .i64 0, .int .i64 0, .int .i64 0, .int .i64 0, .int .i64 0, .int .i64 0, .int .i64 0, .int .i64 0, .int .i64 0, .int .i64 0, .int .i64 0, .int .i64 0, .int .i64 0, .string ⟨#[]⟩, .string ⟨#[]⟩, .int .i64 0, .int .i64 0, .int .i64 0, .int .i64 0, .slice none 0 0, .int .i64 0, .slice none 0 0, .slice none 0 0, .slice none 0 0] : Array Value)).size = cs7.size) := Lib.hid (by rw [hsz]; rfl)
  have HO7 := Lib.hid hone
  have HA7 := Lib.hid (bka_new wr2 44 (#[.int .i64 0, .int .i64 0, .int .i64 0, .int .i64 0, .int .i64 0, .int .i64 0, .int .i64 0, .int .i64 0, .int .i64 0, .int .i64 0, .int .i64 0, .int .i64 0, .int .i64 0, .int .i64 0, .int .i64 0, .int .i64 0, .string ⟨#[]⟩, .string ⟨#[]⟩, .int .i64 0, .int .i64 0, .int .i64 0, .int .i64 0, .slice none 0 0, .int .i64 0, .slice none 0 0, .slice none 0 0, .slice none 0 0] : Array Value))
  have HX7 := Lib.hid (box_row wr2 44 (#[.int .i64 0, .int .i64 0, .int .i64 0, .int .i64 0, .int .i64 0, .int .i64 0, .int .i64 0, .int .i64 0, .int .i64 0, .int .i64 0, .int .i64 0, .int .i64 0, .int .i64 0, .int .i64 0, .int .i64 0, .int .i64 0, .string ⟨#[]⟩, .string ⟨#[]⟩, .int .i64 0, .int .i64 0, .int .i64 0, .int .i64 0, .slice none 0 0, .int .i64 0, .slice none 0 0, .slice none 0 0, .slice none 0 0] : Array Value) cs7)
  have hb := hb.trans ((box_below wr2 44 (#[.int .i64 0, .int .i64 0, .int .i64 0, .int .i64 0, .int .i64 0, .int .i64 0, .int .i64 0, .int .i64 0, .int .i64 0, .int .i64 0, .int .i64 0, .int .i64 0, .int .i64 0, .int .i64 0, .int .i64 0, .int .i64 0, .string ⟨#[]⟩, .string ⟨#[]⟩, .int .i64 0, .int .i64 0, .int .i64 0, .int .i64 0, .slice none 0 0, .int .i64 0, .slice none 0 0, .slice none 0 0, .slice none 0 0] : Array Value) cs7).mono hb.size)
  have HM7 : Hid (MsgIs ((wr2.alloc (.cells (#[.int .i64 0, .int .i64 0, .int .i64 0, .int .i64 0, .int .i64 0, .int .i64 0, .int .i64 0, .int .i64 0, .int .i64 0, .int .i64 0, .int .i64 0, .int .i64 0, .int .i64 0, .int .i64 0, .int .i64 0, .int .i64 0, .string ⟨#[]⟩, .string ⟨#[]⟩, .int .i64 0, .int .i64 0, .int .i64 0, .int .i64 0, .slice none 0 0, .int .i64 0, .slice none 0 0, .slice none 0 0, .slice none 0 0] : Array Value) 44)).setRow wr2.heap.size cs7) (.agg cs7) x0) := Lib.hid ⟨cs7, rfl, hm rfl _ (fun j _ hj => (box_below wr2 44 (#[.int .i64 0, .int .i64 0, .int .i64 0, .int .i64 0, .int .i64 0, .int .i64 0, .int .i64 0, .int .i64 0, .int .i64 0, .int .i64 0, .int .i64 0, .int .i64 0, .int .i64 0, .int .i64 0, .int .i64 0, .int .i64 0, .string ⟨#[]⟩, .string ⟨#[]⟩, .int .i64 0, .int .i64 0, .int .i64 0, .int .i64 0, .slice none 0 0, .int .i64 0, .slice none 0 0, .slice none 0 0, .slice none 0 0] : Array Value) cs7).block j hj)⟩
  clear hsz hone hm
  have HX0' := Lib.hid ((hb.block _ (Array.getElem?_eq_some_iff.1 HX0.out).1).trans HX0.out)
  have HB' := Lib.hid (HB.out.trans (hb.mono HB.out.size))
  have HM0' := Lib.hid (HM0.out.on hb)
  have HU0' := Lib.hid (HU0.out.below hb)
  have HX8' := Lib.hid ((hb.block _ (Array.getElem?_eq_some_iff.1 HX8.out).1).trans HX8.out)
  have HM8' := Lib.hid (HM8.out.on hb)
  have HT0' := Lib.hid (HT0.out.below hb)
  clear hb HX0 HB HM0 HU0 HX8 HM8 HT0
  have HX0 := HX0'
  have HB := HB'
  have HM0 := HM0'
  have HU0 := HU0'
  have HX8 := HX8'
  have HM8 := HM8'
  have HT0 := HT0'
  clear HX0' HB' HM0' HU0' HX8' HM8' HT0'
  go_upto_region 11 with (refine wpList_store_row rfl 44 _ _ rfl wr2.heap.size rfl cs7 rfl (#[.int .i64 0, .int .i64 0, .int .i64 0, .int .i64 0, .int .i64 0, .int .i64 0, .int .i64 0, .int .i64 0, .int .i64 0, .int .i64 0, .int .i64 0, .int .i64 0, .int .i64 0, .int .i64 0, .int .i64 0, .int .i64 0, .string ⟨#[]⟩, .string ⟨#[]⟩, .int .i64 0, .int .i64 0, .int .i64 0, .int .i64 0, .slice none 0 0, .int .i64 0, .slice none 0 0, .slice none 0 0, .slice none 0 0] : Array Value) 44 HA7.out HI7.out HZ7.out HO7.out ?_)
  generalize ((wr2.alloc (.cells (#[.int .i64 0, .int .i64 0, .int .i64 0, .int .i64 0, .int .i64 0, .int .i64 0, .int .i64 0, .int .i64 0, .int .i64 0, .int .i64 0, .int .i64 0, .int .i64 0, .int .i64 0, .int .i64 0, .int .i64 0, .int .i64 0, .string ⟨#[]⟩, .string ⟨#[]⟩, .int .i64 0, .int .i64 0, .int .i64 0, .int .i64 0, .slice none 0 0, .int .i64 0, .slice none 0 0, .slice none 0 0, .slice none 0 0] : Array Value) 44)).setRow wr2.heap.size cs7) = wA at *
  go_cut [77] from 54 to 77 (fun s wx => s = .bool false ∧ Hid (Below wA.heap.size wA wx))
  case first =>
    have HC8 : Hid (∀ W, Below wA.heap.size wA W → Calls Try.prog 21 #[.agg cs8] W (TxP (msC.fs x0) W)) := Lib.hid (fun W hW => ro_texts _ x0 W (HM8.out.on hW) HZr0.out)
    have HC0 : Hid (∀ W, Below wA.heap.size wA W → Calls Try.prog 21 #[.agg cs0] W (TxP (msC.fs x0) W)) := Lib.hid (fun W hW => ro_texts _ x0 W (HM0.out.on hW) HZr0.out)
    have HC7 : Hid (∀ W, Below wA.heap.size wA W → Calls Try.prog 21 #[.agg cs7] W (TxP (msC.fs x0) W)) := Lib.hid (fun W hW => ro_texts _ x0 W (HM7.out.on hW) HZr0.out)
    refine wp_region_held_drew (S := fun w' => Below wA.heap.size wA w') (by kernel_rfl) ?_ (fun hHeld => ?_)
    · (first | exact Below.refl _ _ | exact (Below.refl _ _).drew | assumption | exact below_self (by assumption) (by assumption))
    refine wpAnyH_take (i := 0) (v := ?_) rfl (by kernel_rfl) (by kernel_rfl) (by kernel_rfl) (fun _ _ _ h => h) (Or.inl ⟨by rfl, ?_⟩) (by assumption) ?_
    rotate_left
    · (intro w hSw; (try dsimp only at hSw); go_simp; try rfl)
    try simp only [Act.put, List.setIfInBounds_toArray, List.set_cons_zero, List.set_cons_succ, List.getElem_toArray, List.getElem_cons_zero, List.getElem_cons_succ]
    refine wpAnyH_take (i := 1) (v := ?_) rfl (by kernel_rfl) (by kernel_rfl) (by kernel_rfl) (fun _ _ _ h => h) (Or.inl ⟨by rfl, ?_⟩) (by assumption) ?_
    rotate_left
    · (intro w hSw; (try dsimp only at hSw); go_simp; try rfl)
    try simp only [Act.put, List.setIfInBounds_toArray, List.set_cons_zero, List.set_cons_succ, List.getElem_toArray, List.getElem_cons_zero, List.getElem_cons_succ]
    refine wpAnyH_take (i := 2) (v := ?_) rfl (by kernel_rfl) (by kernel_rfl) (by kernel_rfl) (fun _ _ _ h => h) (Or.inl ⟨by rfl, ?_⟩) (by assumption) ?_
    rotate_left
    · (intro w hSw; (try dsimp only at hSw); go_simp; try rfl)
    try simp only [Act.put, List.setIfInBounds_toArray, List.set_cons_zero, List.set_cons_succ, List.getElem_toArray, List.getElem_cons_zero, List.getElem_cons_succ]
    refine wpAnyH_ready (rs := [3, 5]) (by kernel_rfl) (by simp) ?_
    refine (AllReadyH.cons rfl (fun K hK => ?_) (AllReadyH.cons rfl (fun K hK => ?_) AllReadyH.nil))
    ·
      refine step_loadC (by rfl) _ _ rfl (wr1.heap.size) rfl 44 cs8 (0, 0) _ (((by assumption : Below wA.heap.size wA _).block _ (Array.getElem?_eq_some_iff.1 HX8.out).1).trans HX8.out) Try.underlying44 HI8.out ?_
      refine hK.out _ _ ?_ (fun hHeld => ?_)
      · (first | exact Below.refl _ _ | exact (Below.refl _ _).drew | assumption | exact below_self (by assumption) (by assumption))
      clear hK K
      try simp only [Act.put, List.setIfInBounds_toArray, List.set_cons_zero, List.set_cons_succ, List.getElem_toArray, List.getElem_cons_zero, List.getElem_cons_succ]
      refine wpAnyH_ready (rs := [4, 5]) (by kernel_rfl) (by simp) ?_
      refine (AllReadyH.cons rfl (fun K hK => ?_) (AllReadyH.cons rfl (fun K hK => ?_) AllReadyH.nil))
      ·
        go_simp
        (go_at_call 21; refine (HC8.out _ (by assumption)).mono ?_; rintro e y ⟨he, hy⟩; rw [he.out]; clear he; have hy := below_self (by assumption) hy)
        refine hK.out _ _ ?_ (fun hHeld => ?_)
        · (first | exact Below.refl _ _ | exact (Below.refl _ _).drew | assumption | exact below_self (by assumption) (by assumption))
        clear hK K
        try simp only [Act.put, List.setIfInBounds_toArray, List.set_cons_zero, List.set_cons_succ, List.getElem_toArray, List.getElem_cons_zero, List.getElem_cons_succ]
        refine wpAnyH_ready (rs := [5]) (by kernel_rfl) (by simp) ?_
        refine (AllReadyH.cons rfl (fun K hK => ?_) AllReadyH.nil)
        refine step_loadC (by rfl) _ _ rfl (w.heap.size) rfl 44 cs0 (0, 0) _ (((by assumption : Below wA.heap.size wA _).block _ (Array.getElem?_eq_some_iff.1 HX0.out).1).trans HX0.out) Try.underlying44 HI0.out ?_
        refine hK.out _ _ ?_ (fun hHeld => ?_)
        · (first | exact Below.refl _ _ | exact (Below.refl _ _).drew | assumption | exact below_self (by assumption) (by assumption))
        clear hK K
        try simp only [Act.put, List.setIfInBounds_toArray, List.set_cons_zero, List.set_cons_succ, List.getElem_toArray, List.getElem_cons_zero, List.getElem_cons_succ]
        refine wpAnyH_ready (rs := [6]) (by kernel_rfl) (by simp) ?_
        refine (AllReadyH.cons rfl (fun K hK => ?_) AllReadyH.nil)
        go_simp
        (go_at_call 21; refine (HC0.out _ (by assumption)).mono ?_; rintro e y ⟨he, hy⟩; rw [he.out]; clear he; have hy := below_self (by assumption) hy)
        refine hK.out _ _ ?_ (fun hHeld => ?_)
        · (first | exact Below.refl _ _ | exact (Below.refl _ _).drew | assumption | exact below_self (by assumption) (by assumption))
        clear hK K
        try simp only [Act.put, List.setIfInBounds_toArray, List.set_cons_zero, List.set_cons_succ, List.getElem_toArray, List.getElem_cons_zero, List.getElem_cons_succ]
        refine wpAnyH_take (i := 7) (v := ?_) rfl (by kernel_rfl) (by kernel_rfl) (by kernel_rfl) (fun _ _ _ h => h) (Or.inl ⟨by rfl, ?_⟩) (by assumption) ?_
        rotate_left
        · (intro w hSw; (try dsimp only at hSw); go_simp; try rfl)
        try simp only [Act.put, List.setIfInBounds_toArray, List.set_cons_zero, List.set_cons_succ, List.getElem_toArray, List.getElem_cons_zero, List.getElem_cons_succ]
        refine wpAnyH_take (i := 8) (v := ?_) rfl (by kernel_rfl) (by kernel_rfl) (by kernel_rfl) (fun _ _ _ h => h) (Or.inl ⟨by rfl, ?_⟩) (by assumption) ?_
        rotate_left
        · (intro w hSw; (try dsimp only at hSw); go_simp; try rfl)
        try simp only [Act.put, List.setIfInBounds_toArray, List.set_cons_zero, List.set_cons_succ, List.getElem_toArray, List.getElem_cons_zero, List.getElem_cons_succ]
        refine wpAnyH_take (i := 9) (v := ?_) rfl (by kernel_rfl) (by kernel_rfl) (by kernel_rfl) (fun _ _ _ h => h) (Or.inl ⟨by rfl, ?_⟩) (by assumption) ?_
        rotate_left
        · (intro w hSw; (try dsimp only at hSw); go_simp; try rfl)
        try simp only [Act.put, List.setIfInBounds_toArray, List.set_cons_zero, List.set_cons_succ, List.getElem_toArray, List.getElem_cons_zero, List.getElem_cons_succ]
        refine wpAnyH_take (i := 10) (v := ?_) rfl (by kernel_rfl) (by kernel_rfl) (by kernel_rfl) (fun _ _ _ h => h) (Or.inl ⟨by rfl, ?_⟩) (by assumption) ?_
        rotate_left
        · (intro w hSw; (try dsimp only at hSw); go_simp; try rfl)
        try simp only [Act.put, List.setIfInBounds_toArray, List.set_cons_zero, List.set_cons_succ, List.getElem_toArray, List.getElem_cons_zero, List.getElem_cons_succ]
        refine wpAnyH_take (i := 11) (v := ?_) rfl (by kernel_rfl) (by kernel_rfl) (by kernel_rfl) (fun _ _ _ h => h) (Or.inl ⟨by rfl, ?_⟩) (by assumption) ?_
        rotate_left
        · (intro w hSw; (try dsimp only at hSw); go_simp; try rfl)
        try simp only [Act.put, List.setIfInBounds_toArray, List.set_cons_zero, List.set_cons_succ, List.getElem_toArray, List.getElem_cons_zero, List.getElem_cons_succ]
        refine wpAnyH_take (i := 12) (v := ?_) rfl (by kernel_rfl) (by kernel_rfl) (by kernel_rfl) (fun _ _ _ h => h) (Or.inl ⟨by rfl, ?_⟩) (by assumption) ?_
        rotate_left
        · (intro w hSw; (try dsimp only at hSw); go_simp; try rfl)
        try simp only [Act.put, List.setIfInBounds_toArray, List.set_cons_zero, List.set_cons_succ, List.getElem_toArray, List.getElem_cons_zero, List.getElem_cons_succ]
        refine wpAnyH_take (i := 13) (v := ?_) rfl (by kernel_rfl) (by kernel_rfl) (by kernel_rfl) (fun _ _ _ h => h) (Or.inl ⟨by rfl, ?_⟩) (by assumption) ?_
        rotate_left
        · (intro w hSw; (try dsimp only at hSw); go_simp; try rfl)
        try simp only [Act.put, List.setIfInBounds_toArray, List.set_cons_zero, List.set_cons_succ, List.getElem_toArray, List.getElem_cons_zero, List.getElem_cons_succ]
        refine wpAnyH_take (i := 14) (v := ?_) rfl (by kernel_rfl) (by kernel_rfl) (by kernel_rfl) (fun _ _ _ h => h) (Or.inl ⟨by rfl, ?_⟩) (by assumption) ?_
        rotate_left
        · (intro w hSw; (try dsimp only at hSw); go_simp; try rfl)
        try simp only [Act.put, List.setIfInBounds_toArray, List.set_cons_zero, List.set_cons_succ, List.getElem_toArray, List.getElem_cons_zero, List.getElem_cons_succ]
        refine wpAnyH_take (i := 15) (v := ?_) rfl (by kernel_rfl) (by kernel_rfl) (by kernel_rfl) (fun _ _ _ h => h) (Or.inl ⟨by rfl, ?_⟩) (by assumption) ?_
        rotate_left
        · (intro w hSw; (try dsimp only at hSw); go_simp; try rfl)
        try simp only [Act.put, List.setIfInBounds_toArray, List.set_cons_zero, List.set_cons_succ, List.getElem_toArray, List.getElem_cons_zero, List.getElem_cons_succ]
        refine wpAnyH_take (i := 16) (v := ?_) rfl (by kernel_rfl) (by kernel_rfl) (by kernel_rfl) (fun _ _ _ h => h) (Or.inl ⟨by rfl, ?_⟩) (by assumption) ?_
        rotate_left
        · (intro w hSw; (try dsimp only at hSw); go_simp; try rfl)
        try simp only [Act.put, List.setIfInBounds_toArray, List.set_cons_zero, List.set_cons_succ, List.getElem_toArray, List.getElem_cons_zero, List.getElem_cons_succ]
        refine wpAnyH_take (i := 17) (v := ?_) rfl (by kernel_rfl) (by kernel_rfl) (by kernel_rfl) (fun _ _ _ h => h) (Or.inl ⟨by rfl, ?_⟩) (by assumption) ?_
        rotate_left
        · (intro w hSw; (try dsimp only at hSw); go_simp; try rfl)
        try simp only [Act.put, List.setIfInBounds_toArray, List.set_cons_zero, List.set_cons_succ, List.getElem_toArray, List.getElem_cons_zero, List.getElem_cons_succ]
        refine wpAnyH_ready (rs := [18, 20]) (by kernel_rfl) (by simp) ?_
        refine (AllReadyH.cons rfl (fun K hK => ?_) (AllReadyH.cons rfl (fun K hK => ?_) AllReadyH.nil))
        ·
          refine step_loadC (by rfl) _ _ rfl (wr2.heap.size) rfl 44 cs7 (0, 0) _ (((by assumption : Below wA.heap.size wA _).block _ (Array.getElem?_eq_some_iff.1 HX7.out).1).trans HX7.out) Try.underlying44 HI7.out ?_
          refine hK.out _ _ ?_ (fun hHeld => ?_)
          · (first | exact Below.refl _ _ | exact (Below.refl _ _).drew | assumption | exact below_self (by assumption) (by assumption))
          clear hK K
          try simp only [Act.put, List.setIfInBounds_toArray, List.set_cons_zero, List.set_cons_succ, List.getElem_toArray, List.getElem_cons_zero, List.getElem_cons_succ]
          refine wpAnyH_ready (rs := [19, 20]) (by kernel_rfl) (by simp) ?_
          refine (AllReadyH.cons rfl (fun K hK => ?_) (AllReadyH.cons rfl (fun K hK => ?_) AllReadyH.nil))
          ·
            go_simp
            (go_at_call 21; refine (HC7.out _ (by assumption)).mono ?_; rintro e y ⟨he, hy⟩; rw [he.out]; clear he; have hy := below_self (by assumption) hy)
            refine hK.out _ _ ?_ (fun hHeld => ?_)
            · (first | exact Below.refl _ _ | exact (Below.refl _ _).drew | assumption | exact below_self (by assumption) (by assumption))
            clear hK K
            try simp only [Act.put, List.setIfInBounds_toArray, List.set_cons_zero, List.set_cons_succ, List.getElem_toArray, List.getElem_cons_zero, List.getElem_cons_succ]
            refine wpAnyH_ready (rs := [20]) (by kernel_rfl) (by simp) ?_
            refine (AllReadyH.cons rfl (fun K hK => ?_) AllReadyH.nil)
            refine step_loadC (by rfl) _ _ rfl (w.heap.size) rfl 44 cs0 (0, 0) _ (((by assumption : Below wA.heap.size wA _).block _ (Array.getElem?_eq_some_iff.1 HX0.out).1).trans HX0.out) Try.underlying44 HI0.out ?_
            refine hK.out _ _ ?_ (fun hHeld => ?_)
            · (first | exact Below.refl _ _ | exact (Below.refl _ _).drew | assumption | exact below_self (by assumption) (by assumption))
            clear hK K
            try simp only [Act.put, List.setIfInBounds_toArray, List.set_cons_zero, List.set_cons_succ, List.getElem_toArray, List.getElem_cons_zero, List.getElem_cons_succ]
            refine wpAnyH_ready (rs := [21]) (by kernel_rfl) (by simp) ?_
            refine (AllReadyH.cons rfl (fun K hK => ?_) AllReadyH.nil)
            go_simp
            (go_at_call 21; refine (HC0.out _ (by assumption)).mono ?_; rintro e y ⟨he, hy⟩; rw [he.out]; clear he; have hy := below_self (by assumption) hy)
            refine hK.out _ _ ?_ (fun hHeld => ?_)
            · (first | exact Below.refl _ _ | exact (Below.refl _ _).drew | assumption | exact below_self (by assumption) (by assumption))
            clear hK K
            try simp only [Act.put, List.setIfInBounds_toArray, List.set_cons_zero, List.set_cons_succ, List.getElem_toArray, List.getElem_cons_zero, List.getElem_cons_succ]
            refine wpAnyH_take (i := 22) (v := ?_) rfl (by kernel_rfl) (by kernel_rfl) (by kernel_rfl) (fun _ _ _ h => h) (Or.inl ⟨by rfl, ?_⟩) (by assumption) ?_
            rotate_left
            · (intro w hSw; (try dsimp only at hSw); go_simp; try rfl)
            try simp only [Act.put, List.setIfInBounds_toArray, List.set_cons_zero, List.set_cons_succ, List.getElem_toArray, List.getElem_cons_zero, List.getElem_cons_succ]
            refine wpAnyH_take (i := 23) (v := ?_) rfl (by kernel_rfl) (by kernel_rfl) (by kernel_rfl) (fun _ _ _ h => h) (Or.inl ⟨by rfl, ?_⟩) (by assumption) ?_
            rotate_left
            · (intro w hSw; (try dsimp only at hSw); go_simp; try rfl)
            try simp only [Act.put, List.setIfInBounds_toArray, List.set_cons_zero, List.set_cons_succ, List.getElem_toArray, List.getElem_cons_zero, List.getElem_cons_succ]
            refine wpAnyH_done (by kernel_rfl) ?_ _
            go_wp2_with fail
            go_meet
            exact ⟨by simp, Lib.hid (by assumption)⟩
          ·
            refine step_loadC (by rfl) _ _ rfl (w.heap.size) rfl 44 cs0 (0, 0) _ (((by assumption : Below wA.heap.size wA _).block _ (Array.getElem?_eq_some_iff.1 HX0.out).1).trans HX0.out) Try.underlying44 HI0.out ?_
            refine hK.out _ _ ?_ (fun hHeld => ?_)
            · (first | exact Below.refl _ _ | exact (Below.refl _ _).drew | assumption | exact below_self (by assumption) (by assumption))
            clear hK K
            try simp only [Act.put, List.setIfInBounds_toArray, List.set_cons_zero, List.set_cons_succ, List.getElem_toArray, List.getElem_cons_zero, List.getElem_cons_succ]
            refine wpAnyH_ready (rs := [19]) (by kernel_rfl) (by simp) ?_
            refine (AllReadyH.cons rfl (fun K hK => ?_) AllReadyH.nil)
            go_simp
            (go_at_call 21; refine (HC7.out _ (by assumption)).mono ?_; rintro e y ⟨he, hy⟩; rw [he.out]; clear he; have hy := below_self (by assumption) hy)
            refine hK.out _ _ ?_ (fun hHeld => ?_)
            · (first | exact Below.refl _ _ | exact (Below.refl _ _).drew | assumption | exact below_self (by assumption) (by assumption))
            clear hK K
            try simp only [Act.put, List.setIfInBounds_toArray, List.set_cons_zero, List.set_cons_succ, List.getElem_toArray, List.getElem_cons_zero, List.getElem_cons_succ]
            refine wpAnyH_ready (rs := [21]) (by kernel_rfl) (by simp) ?_
            refine (AllReadyH.cons rfl (fun K hK => ?_) AllReadyH.nil)
            go_simp
            (go_at_call 21; refine (HC0.out _ (by assumption)).mono ?_; rintro e y ⟨he, hy⟩; rw [he.out]; clear he; have hy := below_self (by assumption) hy)
            refine hK.out _ _ ?_ (fun hHeld => ?_)
            · (first | exact Below.refl _ _ | exact (Below.refl _ _).drew | assumption | exact below_self (by assumption) (by assumption))
            clear hK K
            try simp only [Act.put, List.setIfInBounds_toArray, List.set_cons_zero, List.set_cons_succ, List.getElem_toArray, List.getElem_cons_zero, List.getElem_cons_succ]
            refine wpAnyH_take (i := 22) (v := ?_) rfl (by kernel_rfl) (by kernel_rfl) (by kernel_rfl) (fun _ _ _ h => h) (Or.inl ⟨by rfl, ?_⟩) (by assumption) ?_
            rotate_left
            · (intro w hSw; (try dsimp only at hSw); go_simp; try rfl)
            try simp only [Act.put, List.setIfInBounds_toArray, List.set_cons_zero, List.set_cons_succ, List.getElem_toArray, List.getElem_cons_zero, List.getElem_cons_succ]
            refine wpAnyH_take (i := 23) (v := ?_) rfl (by kernel_rfl) (by kernel_rfl) (by kernel_rfl) (fun _ _ _ h => h) (Or.inl ⟨by rfl, ?_⟩) (by assumption) ?_
            rotate_left
            · (intro w hSw; (try dsimp only at hSw); go_simp; try rfl)
            try simp only [Act.put, List.setIfInBounds_toArray, List.set_cons_zero, List.set_cons_succ, List.getElem_toArray, List.getElem_cons_zero, List.getElem_cons_succ]
            refine wpAnyH_done (by kernel_rfl) ?_ _
            go_wp2_with fail
            go_meet
            exact ⟨by simp, Lib.hid (by assumption)⟩
        ·
          refine step_loadC (by rfl) _ _ rfl (w.heap.size) rfl 44 cs0 (0, 0) _ (((by assumption : Below wA.heap.size wA _).block _ (Array.getElem?_eq_some_iff.1 HX0.out).1).trans HX0.out) Try.underlying44 HI0.out ?_
          refine hK.out _ _ ?_ (fun hHeld => ?_)
          · (first | exact Below.refl _ _ | exact (Below.refl _ _).drew | assumption | exact below_self (by assumption) (by assumption))
          clear hK K
          try simp only [Act.put, List.setIfInBounds_toArray, List.set_cons_zero, List.set_cons_succ, List.getElem_toArray, List.getElem_cons_zero, List.getElem_cons_succ]
          refine wpAnyH_ready (rs := [18]) (by kernel_rfl) (by simp) ?_
          refine (AllReadyH.cons rfl (fun K hK => ?_) AllReadyH.nil)
          refine step_loadC (by rfl) _ _ rfl (wr2.heap.size) rfl 44 cs7 (0, 0) _ (((by assumption : Below wA.heap.size wA _).block _ (Array.getElem?_eq_some_iff.1 HX7.out).1).trans HX7.out) Try.underlying44 HI7.out ?_
          refine hK.out _ _ ?_ (fun hHeld => ?_)
          · (first | exact Below.refl _ _ | exact (Below.refl _ _).drew | assumption | exact below_self (by assumption) (by assumption))
          clear hK K
          try simp only [Act.put, List.setIfInBounds_toArray, List.set_cons_zero, List.set_cons_succ, List.getElem_toArray, List.getElem_cons_zero, List.getElem_cons_succ]
          refine wpAnyH_ready (rs := [19]) (by kernel_rfl) (by simp) ?_
          refine (AllReadyH.cons rfl (fun K hK => ?_) AllReadyH.nil)
          go_simp
          (go_at_call 21; refine (HC7.out _ (by assumption)).mono ?_; rintro e y ⟨he, hy⟩; rw [he.out]; clear he; have hy := below_self (by assumption) hy)
          refine hK.out _ _ ?_ (fun hHeld => ?_)
          · (first | exact Below.refl _ _ | exact (Below.refl _ _).drew | assumption | exact below_self (by assumption) (by assumption))
          clear hK K
          try simp only [Act.put, List.setIfInBounds_toArray, List.set_cons_zero, List.set_cons_succ, List.getElem_toArray, List.getElem_cons_zero, List.getElem_cons_succ]
          refine wpAnyH_ready (rs := [21]) (by kernel_rfl) (by simp) ?_
          refine (AllReadyH.cons rfl (fun K hK => ?_) AllReadyH.nil)
          go_simp
          (go_at_call 21; refine (HC0.out _ (by assumption)).mono ?_; rintro e y ⟨he, hy⟩; rw [he.out]; clear he; have hy := below_self (by assumption) hy)
          refine hK.out _ _ ?_ (fun hHeld => ?_)
          · (first | exact Below.refl _ _ | exact (Below.refl _ _).drew | assumption | exact below_self (by assumption) (by assumption))
          clear hK K
          try simp only [Act.put, List.setIfInBounds_toArray, List.set_cons_zero, List.set_cons_succ, List.getElem_toArray, List.getElem_cons_zero, List.getElem_cons_succ]
          refine wpAnyH_take (i := 22) (v := ?_) rfl (by kernel_rfl) (by kernel_rfl) (by kernel_rfl) (fun _ _ _ h => h) (Or.inl ⟨by rfl, ?_⟩) (by assumption) ?_
          rotate_left
          · (intro w hSw; (try dsimp only at hSw); go_simp; try rfl)
          try simp only [Act.put, List.setIfInBounds_toArray, List.set_cons_zero, List.set_cons_succ, List.getElem_toArray, List.getElem_cons_zero, List.getElem_cons_succ]
          refine wpAnyH_take (i := 23) (v := ?_) rfl (by kernel_rfl) (by kernel_rfl) (by kernel_rfl) (fun _ _ _ h => h) (Or.inl ⟨by rfl, ?_⟩) (by assumption) ?_
          rotate_left
          · (intro w hSw; (try dsimp only at hSw); go_simp; try rfl)
          try simp only [Act.put, List.setIfInBounds_toArray, List.set_cons_zero, List.set_cons_succ, List.getElem_toArray, List.getElem_cons_zero, List.getElem_cons_succ]
          refine wpAnyH_done (by kernel_rfl) ?_ _
          go_wp2_with fail
          go_meet
          exact ⟨by simp, Lib.hid (by assumption)⟩
      ·
        refine step_loadC (by rfl) _ _ rfl (w.heap.size) rfl 44 cs0 (0, 0) _ (((by assumption : Below wA.heap.size wA _).block _ (Array.getElem?_eq_some_iff.1 HX0.out).1).trans HX0.out) Try.underlying44 HI0.out ?_
        refine hK.out _ _ ?_ (fun hHeld => ?_)
        · (first | exact Below.refl _ _ | exact (Below.refl _ _).drew | assumption | exact below_self (by assumption) (by assumption))
        clear hK K
        try simp only [Act.put, List.setIfInBounds_toArray, List.set_cons_zero, List.set_cons_succ, List.getElem_toArray, List.getElem_cons_zero, List.getElem_cons_succ]
        refine wpAnyH_ready (rs := [4]) (by kernel_rfl) (by simp) ?_
        refine (AllReadyH.cons rfl (fun K hK => ?_) AllReadyH.nil)
        go_simp
        (go_at_call 21; refine (HC8.out _ (by assumption)).mono ?_; rintro e y ⟨he, hy⟩; rw [he.out]; clear he; have hy := below_self (by assumption) hy)
        refine hK.out _ _ ?_ (fun hHeld => ?_)
        · (first | exact Below.refl _ _ | exact (Below.refl _ _).drew | assumption | exact below_self (by assumption) (by assumption))
        clear hK K
        try simp only [Act.put, List.setIfInBounds_toArray, List.set_cons_zero, List.set_cons_succ, List.getElem_toArray, List.getElem_cons_zero, List.getElem_cons_succ]
        refine wpAnyH_ready (rs := [6]) (by kernel_rfl) (by simp) ?_
        refine (AllReadyH.cons rfl (fun K hK => ?_) AllReadyH.nil)
        go_simp
        (go_at_call 21; refine (HC0.out _ (by assumption)).mono ?_; rintro e y ⟨he, hy⟩; rw [he.out]; clear he; have hy := below_self (by assumption) hy)
        refine hK.out _ _ ?_ (fun hHeld => ?_)
        · (first | exact Below.refl _ _ | exact (Below.refl _ _).drew | assumption | exact below_self (by assumption) (by assumption))
        clear hK K
        try simp only [Act.put, List.setIfInBounds_toArray, List.set_cons_zero, List.set_cons_succ, List.getElem_toArray, List.getElem_cons_zero, List.getElem_cons_succ]
        refine wpAnyH_take (i := 7) (v := ?_) rfl (by kernel_rfl) (by kernel_rfl) (by kernel_rfl) (fun _ _ _ h => h) (Or.inl ⟨by rfl, ?_⟩) (by assumption) ?_
        rotate_left
        · (intro w hSw; (try dsimp only at hSw); go_simp; try rfl)
        try simp only [Act.put, List.setIfInBounds_toArray, List.set_cons_zero, List.set_cons_succ, List.getElem_toArray, List.getElem_cons_zero, List.getElem_cons_succ]
        refine wpAnyH_take (i := 8) (v := ?_) rfl (by kernel_rfl) (by kernel_rfl) (by kernel_rfl) (fun _ _ _ h => h) (Or.inl ⟨by rfl, ?_⟩) (by assumption) ?_
        rotate_left
        · (intro w hSw; (try dsimp only at hSw); go_simp; try rfl)
        try simp only [Act.put, List.setIfInBounds_toArray, List.set_cons_zero, List.set_cons_succ, List.getElem_toArray, List.getElem_cons_zero, List.getElem_cons_succ]
        refine wpAnyH_take (i := 9) (v := ?_) rfl (by kernel_rfl) (by kernel_rfl) (by kernel_rfl) (fun _ _ _ h => h) (Or.inl ⟨by rfl, ?_⟩) (by assumption) ?_
        rotate_left
        · (intro w hSw; (try dsimp only at hSw); go_simp; try rfl)
        try simp only [Act.put, List.setIfInBounds_toArray, List.set_cons_zero, List.set_cons_succ, List.getElem_toArray, List.getElem_cons_zero, List.getElem_cons_succ]
        refine wpAnyH_take (i := 10) (v := ?_) rfl (by kernel_rfl) (by kernel_rfl) (by kernel_rfl) (fun _ _ _ h => h) (Or.inl ⟨by rfl, ?_⟩) (by assumption) ?_
        rotate_left
        · (intro w hSw; (try dsimp only at hSw); go_simp; try rfl)
        try simp only [Act.put, List.setIfInBounds_toArray, List.set_cons_zero, List.set_cons_succ, List.getElem_toArray, List.getElem_cons_zero, List.getElem_cons_succ]
        refine wpAnyH_take (i := 11) (v := ?_) rfl (by kernel_rfl) (by kernel_rfl) (by kernel_rfl) (fun _ _ _ h => h) (Or.inl ⟨by rfl, ?_⟩) (by assumption) ?_
        rotate_left
        · (intro w hSw; (try dsimp only at hSw); go_simp; try rfl)
        try simp only [Act.put, List.setIfInBounds_toArray, List.set_cons_zero, List.set_cons_succ, List.getElem_toArray, List.getElem_cons_zero, List.getElem_cons_succ]
        refine wpAnyH_take (i := 12) (v := ?_) rfl (by kernel_rfl) (by kernel_rfl) (by kernel_rfl) (fun _ _ _ h => h) (Or.inl ⟨by rfl, ?_⟩) (by assumption) ?_
        rotate_left
        · (intro w hSw; (try dsimp only at hSw); go_simp; try rfl)
        try simp only [Act.put, List.setIfInBounds_toArray, List.set_cons_zero, List.set_cons_succ, List.getElem_toArray, List.getElem_cons_zero, List.getElem_cons_succ]
        refine wpAnyH_take (i := 13) (v := ?_) rfl (by kernel_rfl) (by kernel_rfl) (by kernel_rfl) (fun _ _ _ h => h) (Or.inl ⟨by rfl, ?_⟩) (by assumption) ?_
        rotate_left
        · (intro w hSw; (try dsimp only at hSw); go_simp; try rfl)
        try simp only [Act.put, List.setIfInBounds_toArray, List.set_cons_zero, List.set_cons_succ, List.getElem_toArray, List.getElem_cons_zero, List.getElem_cons_succ]
        refine wpAnyH_take (i := 14) (v := ?_) rfl (by kernel_rfl) (by kernel_rfl) (by kernel_rfl) (fun _ _ _ h => h) (Or.inl ⟨by rfl, ?_⟩) (by assumption) ?_
        rotate_left
        · (intro w hSw; (try dsimp only at hSw); go_simp; try rfl)
        try simp only [Act.put, List.setIfInBounds_toArray, List.set_cons_zero, List.set_cons_succ, List.getElem_toArray, List.getElem_cons_zero, List.getElem_cons_succ]
        refine wpAnyH_take (i := 15) (v := ?_) rfl (by kernel_rfl) (by kernel_rfl) (by kernel_rfl) (fun _ _ _ h => h) (Or.inl ⟨by rfl, ?_⟩) (by assumption) ?_
        rotate_left
        · (intro w hSw; (try dsimp only at hSw); go_simp; try rfl)
        try simp only [Act.put, List.setIfInBounds_toArray, List.set_cons_zero, List.set_cons_succ, List.getElem_toArray, List.getElem_cons_zero, List.getElem_cons_succ]
        refine wpAnyH_take (i := 16) (v := ?_) rfl (by kernel_rfl) (by kernel_rfl) (by kernel_rfl) (fun _ _ _ h => h) (Or.inl ⟨by rfl, ?_⟩) (by assumption) ?_
        rotate_left
        · (intro w hSw; (try dsimp only at hSw); go_simp; try rfl)
        try simp only [Act.put, List.setIfInBounds_toArray, List.set_cons_zero, List.set_cons_succ, List.getElem_toArray, List.getElem_cons_zero, List.getElem_cons_succ]
        refine wpAnyH_take (i := 17) (v := ?_) rfl (by kernel_rfl) (by kernel_rfl) (by kernel_rfl) (fun _ _ _ h => h) (Or.inl ⟨by rfl, ?_⟩) (by assumption) ?_
        rotate_left
        · (intro w hSw; (try dsimp only at hSw); go_simp; try rfl)
        try simp only [Act.put, List.setIfInBounds_toArray, List.set_cons_zero, List.set_cons_succ, List.getElem_toArray, List.getElem_cons_zero, List.getElem_cons_succ]
        refine wpAnyH_ready (rs := [18, 20]) (by kernel_rfl) (by simp) ?_
        refine (AllReadyH.cons rfl (fun K hK => ?_) (AllReadyH.cons rfl (fun K hK => ?_) AllReadyH.nil))
        ·
          refine step_loadC (by rfl) _ _ rfl (wr2.heap.size) rfl 44 cs7 (0, 0) _ (((by assumption : Below wA.heap.size wA _).block _ (Array.getElem?_eq_some_iff.1 HX7.out).1).trans HX7.out) Try.underlying44 HI7.out ?_
          refine hK.out _ _ ?_ (fun hHeld => ?_)
          · (first | exact Below.refl _ _ | exact (Below.refl _ _).drew | assumption | exact below_self (by assumption) (by assumption))
          clear hK K
          try simp only [Act.put, List.setIfInBounds_toArray, List.set_cons_zero, List.set_cons_succ, List.getElem_toArray, List.getElem_cons_zero, List.getElem_cons_succ]
          refine wpAnyH_ready (rs := [19, 20]) (by kernel_rfl) (by simp) ?_
          refine (AllReadyH.cons rfl (fun K hK => ?_) (AllReadyH.cons rfl (fun K hK => ?_) AllReadyH.nil))
          ·
            go_simp
            (go_at_call 21; refine (HC7.out _ (by assumption)).mono ?_; rintro e y ⟨he, hy⟩; rw [he.out]; clear he; have hy := below_self (by assumption) hy)
            refine hK.out _ _ ?_ (fun hHeld => ?_)
            · (first | exact Below.refl _ _ | exact (Below.refl _ _).drew | assumption | exact below_self (by assumption) (by assumption))
            clear hK K
            try simp only [Act.put, List.setIfInBounds_toArray, List.set_cons_zero, List.set_cons_succ, List.getElem_toArray, List.getElem_cons_zero, List.getElem_cons_succ]
            refine wpAnyH_ready (rs := [20]) (by kernel_rfl) (by simp) ?_
            refine (AllReadyH.cons rfl (fun K hK => ?_) AllReadyH.nil)
            refine step_loadC (by rfl) _ _ rfl (w.heap.size) rfl 44 cs0 (0, 0) _ (((by assumption : Below wA.heap.size wA _).block _ (Array.getElem?_eq_some_iff.1 HX0.out).1).trans HX0.out) Try.underlying44 HI0.out ?_
            refine hK.out _ _ ?_ (fun hHeld => ?_)
            · (first | exact Below.refl _ _ | exact (Below.refl _ _).drew | assumption | exact below_self (by assumption) (by assumption))
            clear hK K
            try simp only [Act.put, List.setIfInBounds_toArray, List.set_cons_zero, List.set_cons_succ, List.getElem_toArray, List.getElem_cons_zero, List.getElem_cons_succ]
            refine wpAnyH_ready (rs := [21]) (by kernel_rfl) (by simp) ?_
            refine (AllReadyH.cons rfl (fun K hK => ?_) AllReadyH.nil)
            go_simp
            (go_at_call 21; refine (HC0.out _ (by assumption)).mono ?_; rintro e y ⟨he, hy⟩; rw [he.out]; clear he; have hy := below_self (by assumption) hy)
            refine hK.out _ _ ?_ (fun hHeld => ?_)
            · (first | exact Below.refl _ _ | exact (Below.refl _ _).drew | assumption | exact below_self (by assumption) (by assumption))
            clear hK K
            try simp only [Act.put, List.setIfInBounds_toArray, List.set_cons_zero, List.set_cons_succ, List.getElem_toArray, List.getElem_cons_zero, List.getElem_cons_succ]
            refine wpAnyH_take (i := 22) (v := ?_) rfl (by kernel_rfl) (by kernel_rfl) (by kernel_rfl) (fun _ _ _ h => h) (Or.inl ⟨by rfl, ?_⟩) (by assumption) ?_
            rotate_left
            · (intro w hSw; (try dsimp only at hSw); go_simp; try rfl)
            try simp only [Act.put, List.setIfInBounds_toArray, List.set_cons_zero, List.set_cons_succ, List.getElem_toArray, List.getElem_cons_zero, List.getElem_cons_succ]
            refine wpAnyH_take (i := 23) (v := ?_) rfl (by kernel_rfl) (by kernel_rfl) (by kernel_rfl) (fun _ _ _ h => h) (Or.inl ⟨by rfl, ?_⟩) (by assumption) ?_
            rotate_left
            · (intro w hSw; (try dsimp only at hSw); go_simp; try rfl)
            try simp only [Act.put, List.setIfInBounds_toArray, List.set_cons_zero, List.set_cons_succ, List.getElem_toArray, List.getElem_cons_zero, List.getElem_cons_succ]
            refine wpAnyH_done (by kernel_rfl) ?_ _
            go_wp2_with fail
            go_meet
            exact ⟨by simp, Lib.hid (by assumption)⟩
          ·
            refine step_loadC (by rfl) _ _ rfl (w.heap.size) rfl 44 cs0 (0, 0) _ (((by assumption : Below wA.heap.size wA _).block _ (Array.getElem?_eq_some_iff.1 HX0.out).1).trans HX0.out) Try.underlying44 HI0.out ?_
            refine hK.out _ _ ?_ (fun hHeld => ?_)
            · (first | exact Below.refl _ _ | exact (Below.refl _ _).drew | assumption | exact below_self (by assumption) (by assumption))
            clear hK K
            try simp only [Act.put, List.setIfInBounds_toArray, List.set_cons_zero, List.set_cons_succ, List.getElem_toArray, List.getElem_cons_zero, List.getElem_cons_succ]
            refine wpAnyH_ready (rs := [19]) (by kernel_rfl) (by simp) ?_
            refine (AllReadyH.cons rfl (fun K hK => ?_) AllReadyH.nil)
            go_simp
            (go_at_call 21; refine (HC7.out _ (by assumption)).mono ?_; rintro e y ⟨he, hy⟩; rw [he.out]; clear he; have hy := below_self (by assumption) hy)
            refine hK.out _ _ ?_ (fun hHeld => ?_)
            · (first | exact Below.refl _ _ | exact (Below.refl _ _).drew | assumption | exact below_self (by assumption) (by assumption))
            clear hK K
            try simp only [Act.put, List.setIfInBounds_toArray, List.set_cons_zero, List.set_cons_succ, List.getElem_toArray, List.getElem_cons_zero, List.getElem_cons_succ]
            refine wpAnyH_ready (rs := [21]) (by kernel_rfl) (by simp) ?_
            refine (AllReadyH.cons rfl (fun K hK => ?_) AllReadyH.nil)
            go_simp
            (go_at_call 21; refine (HC0.out _ (by assumption)).mono ?_; rintro e y ⟨he, hy⟩; rw [he.out]; clear he; have hy := below_self (by assumption) hy)
            refine hK.out _ _ ?_ (fun hHeld => ?_)
            · (first | exact Below.refl _ _ | exact (Below.refl _ _).drew | assumption | exact below_self (by assumption) (by assumption))
            clear hK K
            try simp only [Act.put, List.setIfInBounds_toArray, List.set_cons_zero, List.set_cons_succ, List.getElem_toArray, List.getElem_cons_zero, List.getElem_cons_succ]
            refine wpAnyH_take (i := 22) (v := ?_) rfl (by kernel_rfl) (by kernel_rfl) (by kernel_rfl) (fun _ _ _ h => h) (Or.inl ⟨by rfl, ?_⟩) (by assumption) ?_
            rotate_left
            · (intro w hSw; (try dsimp only at hSw); go_simp; try rfl)
            try simp only [Act.put, List.setIfInBounds_toArray, List.set_cons_zero, List.set_cons_succ, List.getElem_toArray, List.getElem_cons_zero, List.getElem_cons_succ]
            refine wpAnyH_take (i := 23) (v := ?_) rfl (by kernel_rfl) (by kernel_rfl) (by kernel_rfl) (fun _ _ _ h => h) (Or.inl ⟨by rfl, ?_⟩) (by assumption) ?_
            rotate_left
            · (intro w hSw; (try dsimp only at hSw); go_simp; try rfl)
            try simp only [Act.put, List.setIfInBounds_toArray, List.set_cons_zero, List.set_cons_succ, List.getElem_toArray, List.getElem_cons_zero, List.getElem_cons_succ]
            refine wpAnyH_done (by kernel_rfl) ?_ _
            go_wp2_with fail
            go_meet
            exact ⟨by simp, Lib.hid (by assumption)⟩
        ·
          refine step_loadC (by rfl) _ _ rfl (w.heap.size) rfl 44 cs0 (0, 0) _ (((by assumption : Below wA.heap.size wA _).block _ (Array.getElem?_eq_some_iff.1 HX0.out).1).trans HX0.out) Try.underlying44 HI0.out ?_
          refine hK.out _ _ ?_ (fun hHeld => ?_)
          · (first | exact Below.refl _ _ | exact (Below.refl _ _).drew | assumption | exact below_self (by assumption) (by assumption))
          clear hK K
          try simp only [Act.put, List.setIfInBounds_toArray, List.set_cons_zero, List.set_cons_succ, List.getElem_toArray, List.getElem_cons_zero, List.getElem_cons_succ]
          refine wpAnyH_ready (rs := [18]) (by kernel_rfl) (by simp) ?_
          refine (AllReadyH.cons rfl (fun K hK => ?_) AllReadyH.nil)
          refine step_loadC (by rfl) _ _ rfl (wr2.heap.size) rfl 44 cs7 (0, 0) _ (((by assumption : Below wA.heap.size wA _).block _ (Array.getElem?_eq_some_iff.1 HX7.out).1).trans HX7.out) Try.underlying44 HI7.out ?_
          refine hK.out _ _ ?_ (fun hHeld => ?_)
          · (first | exact Below.refl _ _ | exact (Below.refl _ _).drew | assumption | exact below_self (by assumption) (by assumption))
          clear hK K
          try simp only [Act.put, List.setIfInBounds_toArray, List.set_cons_zero, List.set_cons_succ, List.getElem_toArray, List.getElem_cons_zero, List.getElem_cons_succ]
          refine wpAnyH_ready (rs := [19]) (by kernel_rfl) (by simp) ?_
          refine (AllReadyH.cons rfl (fun K hK => ?_) AllReadyH.nil)
          go_simp
          (go_at_call 21; refine (HC7.out _ (by assumption)).mono ?_; rintro e y ⟨he, hy⟩; rw [he.out]; clear he; have hy := below_self (by assumption) hy)
          refine hK.out _ _ ?_ (fun hHeld => ?_)
          · (first | exact Below.refl _ _ | exact (Below.refl _ _).drew | assumption | exact below_self (by assumption) (by assumption))
          clear hK K
          try simp only [Act.put, List.setIfInBounds_toArray, List.set_cons_zero, List.set_cons_succ, List.getElem_toArray, List.getElem_cons_zero, List.getElem_cons_succ]
          refine wpAnyH_ready (rs := [21]) (by kernel_rfl) (by simp) ?_
          refine (AllReadyH.cons rfl (fun K hK => ?_) AllReadyH.nil)
          go_simp
          (go_at_call 21; refine (HC0.out _ (by assumption)).mono ?_; rintro e y ⟨he, hy⟩; rw [he.out]; clear he; have hy := below_self (by assumption) hy)
          refine hK.out _ _ ?_ (fun hHeld => ?_)
          · (first | exact Below.refl _ _ | exact (Below.refl _ _).drew | assumption | exact below_self (by assumption) (by assumption))
          clear hK K
          try simp only [Act.put, List.setIfInBounds_toArray, List.set_cons_zero, List.set_cons_succ, List.getElem_toArray, List.getElem_cons_zero, List.getElem_cons_succ]
          refine wpAnyH_take (i := 22) (v := ?_) rfl (by kernel_rfl) (by kernel_rfl) (by kernel_rfl) (fun _ _ _ h => h) (Or.inl ⟨by rfl, ?_⟩) (by assumption) ?_
          rotate_left
          · (intro w hSw; (try dsimp only at hSw); go_simp; try rfl)
          try simp only [Act.put, List.setIfInBounds_toArray, List.set_cons_zero, List.set_cons_succ, List.getElem_toArray, List.getElem_cons_zero, List.getElem_cons_succ]
          refine wpAnyH_take (i := 23) (v := ?_) rfl (by kernel_rfl) (by kernel_rfl) (by kernel_rfl) (fun _ _ _ h => h) (Or.inl ⟨by rfl, ?_⟩) (by assumption) ?_
          rotate_left
          · (intro w hSw; (try dsimp only at hSw); go_simp; try rfl)
          try simp only [Act.put, List.setIfInBounds_toArray, List.set_cons_zero, List.set_cons_succ, List.getElem_toArray, List.getElem_cons_zero, List.getElem_cons_succ]
          refine wpAnyH_done (by kernel_rfl) ?_ _
          go_wp2_with fail
          go_meet
          exact ⟨by simp, Lib.hid (by assumption)⟩
    ·
      refine step_loadC (by rfl) _ _ rfl (w.heap.size) rfl 44 cs0 (0, 0) _ (((by assumption : Below wA.heap.size wA _).block _ (Array.getElem?_eq_some_iff.1 HX0.out).1).trans HX0.out) Try.underlying44 HI0.out ?_
      refine hK.out _ _ ?_ (fun hHeld => ?_)
      · (first | exact Below.refl _ _ | exact (Below.refl _ _).drew | assumption | exact below_self (by assumption) (by assumption))
      clear hK K
      try simp only [Act.put, List.setIfInBounds_toArray, List.set_cons_zero, List.set_cons_succ, List.getElem_toArray, List.getElem_cons_zero, List.getElem_cons_succ]
      refine wpAnyH_ready (rs := [3]) (by kernel_rfl) (by simp) ?_
      refine (AllReadyH.cons rfl (fun K hK => ?_) AllReadyH.nil)
      refine step_loadC (by rfl) _ _ rfl (wr1.heap.size) rfl 44 cs8 (0, 0) _ (((by assumption : Below wA.heap.size wA _).block _ (Array.getElem?_eq_some_iff.1 HX8.out).1).trans HX8.out) Try.underlying44 HI8.out ?_
      refine hK.out _ _ ?_ (fun hHeld => ?_)
      · (first | exact Below.refl _ _ | exact (Below.refl _ _).drew | assumption | exact below_self (by assumption) (by assumption))
      clear hK K
      try simp only [Act.put, List.setIfInBounds_toArray, List.set_cons_zero, List.set_cons_succ, List.getElem_toArray, List.getElem_cons_zero, List.getElem_cons_succ]
      refine wpAnyH_ready (rs := [4]) (by kernel_rfl) (by simp) ?_
      refine (AllReadyH.cons rfl (fun K hK => ?_) AllReadyH.nil)
      go_simp
      (go_at_call 21; refine (HC8.out _ (by assumption)).mono ?_; rintro e y ⟨he, hy⟩; rw [he.out]; clear he; have hy := below_self (by assumption) hy)
      refine hK.out _ _ ?_ (fun hHeld => ?_)
      · (first | exact Below.refl _ _ | exact (Below.refl _ _).drew | assumption | exact below_self (by assumption) (by assumption))
      clear hK K
      try simp only [Act.put, List.setIfInBounds_toArray, List.set_cons_zero, List.set_cons_succ, List.getElem_toArray, List.getElem_cons_zero, List.getElem_cons_succ]
      refine wpAnyH_ready (rs := [6]) (by kernel_rfl) (by simp) ?_
      refine (AllReadyH.cons rfl (fun K hK => ?_) AllReadyH.nil)
      go_simp
      (go_at_call 21; refine (HC0.out _ (by assumption)).mono ?_; rintro e y ⟨he, hy⟩; rw [he.out]; clear he; have hy := below_self (by assumption) hy)
      refine hK.out _ _ ?_ (fun hHeld => ?_)
      · (first | exact Below.refl _ _ | exact (Below.refl _ _).drew | assumption | exact below_self (by assumption) (by assumption))
      clear hK K
      try simp only [Act.put, List.setIfInBounds_toArray, List.set_cons_zero, List.set_cons_succ, List.getElem_toArray, List.getElem_cons_zero, List.getElem_cons_succ]
      refine wpAnyH_take (i := 7) (v := ?_) rfl (by kernel_rfl) (by kernel_rfl) (by kernel_rfl) (fun _ _ _ h => h) (Or.inl ⟨by rfl, ?_⟩) (by assumption) ?_
      rotate_left
      · (intro w hSw; (try dsimp only at hSw); go_simp; try rfl)
      try simp only [Act.put, List.setIfInBounds_toArray, List.set_cons_zero, List.set_cons_succ, List.getElem_toArray, List.getElem_cons_zero, List.getElem_cons_succ]
      refine wpAnyH_take (i := 8) (v := ?_) rfl (by kernel_rfl) (by kernel_rfl) (by kernel_rfl) (fun _ _ _ h => h) (Or.inl ⟨by rfl, ?_⟩) (by assumption) ?_
      rotate_left
      · (intro w hSw; (try dsimp only at hSw); go_simp; try rfl)
      try simp only [Act.put, List.setIfInBounds_toArray, List.set_cons_zero, List.set_cons_succ, List.getElem_toArray, List.getElem_cons_zero, List.getElem_cons_succ]
      refine wpAnyH_take (i := 9) (v := ?_) rfl (by kernel_rfl) (by kernel_rfl) (by kernel_rfl) (fun _ _ _ h => h) (Or.inl ⟨by rfl, ?_⟩) (by assumption) ?_
      rotate_left
      · (intro w hSw; (try dsimp only at hSw); go_simp; try rfl)
      try simp only [Act.put, List.setIfInBounds_toArray, List.set_cons_zero, List.set_cons_succ, List.getElem_toArray, List.getElem_cons_zero, List.getElem_cons_succ]
      refine wpAnyH_take (i := 10) (v := ?_) rfl (by kernel_rfl) (by kernel_rfl) (by kernel_rfl) (fun _ _ _ h => h) (Or.inl ⟨by rfl, ?_⟩) (by assumption) ?_
      rotate_left
      · (intro w hSw; (try dsimp only at hSw); go_simp; try rfl)
      try simp only [Act.put, List.setIfInBounds_toArray, List.set_cons_zero, List.set_cons_succ, List.getElem_toArray, List.getElem_cons_zero, List.getElem_cons_succ]
      refine wpAnyH_take (i := 11) (v := ?_) rfl (by kernel_rfl) (by kernel_rfl) (by kernel_rfl) (fun _ _ _ h => h) (Or.inl ⟨by rfl, ?_⟩) (by assumption) ?_
      rotate_left
      · (intro w hSw; (try dsimp only at hSw); go_simp; try rfl)
      try simp only [Act.put, List.setIfInBounds_toArray, List.set_cons_zero, List.set_cons_succ, List.getElem_toArray, List.getElem_cons_zero, List.getElem_cons_succ]
      refine wpAnyH_take (i := 12) (v := ?_) rfl (by kernel_rfl) (by kernel_rfl) (by kernel_rfl) (fun _ _ _ h => h) (Or.inl ⟨by rfl, ?_⟩) (by assumption) ?_
      rotate_left
      · (intro w hSw; (try dsimp only at hSw); go_simp; try rfl)
      try simp only [Act.put, List.setIfInBounds_toArray, List.set_cons_zero, List.set_cons_succ, List.getElem_toArray, List.getElem_cons_zero, List.getElem_cons_succ]
      refine wpAnyH_take (i := 13) (v := ?_) rfl (by kernel_rfl) (by kernel_rfl) (by kernel_rfl) (fun _ _ _ h => h) (Or.inl ⟨by rfl, ?_⟩) (by assumption) ?_
      rotate_left
      · (intro w hSw; (try dsimp only at hSw); go_simp; try rfl)
      try simp only [Act.put, List.setIfInBounds_toArray, List.set_cons_zero, List.set_cons_succ, List.getElem_toArray, List.getElem_cons_zero, List.getElem_cons_succ]
      refine wpAnyH_take (i := 14) (v := ?_) rfl (by kernel_rfl) (by kernel_rfl) (by kernel_rfl) (fun _ _ _ h => h) (Or.inl ⟨by rfl, ?_⟩) (by assumption) ?_
      rotate_left
      · (intro w hSw; (try dsimp only at hSw); go_simp; try rfl)
      try simp only [Act.put, List.setIfInBounds_toArray, List.set_cons_zero, List.set_cons_succ, List.getElem_toArray, List.getElem_cons_zero, List.getElem_cons_succ]
      refine wpAnyH_take (i := 15) (v := ?_) rfl (by kernel_rfl) (by kernel_rfl) (by kernel_rfl) (fun _ _ _ h => h) (Or.inl ⟨by rfl, ?_⟩) (by assumption) ?_
      rotate_left
      · (intro w hSw; (try dsimp only at hSw); go_simp; try rfl)
      try simp only [Act.put, List.setIfInBounds_toArray, List.set_cons_zero, List.set_cons_succ, List.getElem_toArray, List.getElem_cons_zero, List.getElem_cons_succ]
      refine wpAnyH_take (i := 16) (v := ?_) rfl (by kernel_rfl) (by kernel_rfl) (by kernel_rfl) (fun _ _ _ h => h) (Or.inl ⟨by rfl, ?_⟩) (by assumption) ?_
      rotate_left
      · (intro w hSw; (try dsimp only at hSw); go_simp; try rfl)
      try simp only [Act.put, List.setIfInBounds_toArray, List.set_cons_zero, List.set_cons_succ, List.getElem_toArray, List.getElem_cons_zero, List.getElem_cons_succ]
      refine wpAnyH_take (i := 17) (v := ?_) rfl (by kernel_rfl) (by kernel_rfl) (by kernel_rfl) (fun _ _ _ h => h) (Or.inl ⟨by rfl, ?_⟩) (by assumption) ?_
      rotate_left
      · (intro w hSw; (try dsimp only at hSw); go_simp; try rfl)
      try simp only [Act.put, List.setIfInBounds_toArray, List.set_cons_zero, List.set_cons_succ, List.getElem_toArray, List.getElem_cons_zero, List.getElem_cons_succ]
      refine wpAnyH_ready (rs := [18, 20]) (by kernel_rfl) (by simp) ?_
      refine (AllReadyH.cons rfl (fun K hK => ?_) (AllReadyH.cons rfl (fun K hK => ?_) AllReadyH.nil))
      ·
        refine step_loadC (by rfl) _ _ rfl (wr2.heap.size) rfl 44 cs7 (0, 0) _ (((by assumption : Below wA.heap.size wA _).block _ (Array.getElem?_eq_some_iff.1 HX7.out).1).trans HX7.out) Try.underlying44 HI7.out ?_
        refine hK.out _ _ ?_ (fun hHeld => ?_)
        · (first | exact Below.refl _ _ | exact (Below.refl _ _).drew | assumption | exact below_self (by assumption) (by assumption))
        clear hK K
        try simp only [Act.put, List.setIfInBounds_toArray, List.set_cons_zero, List.set_cons_succ, List.getElem_toArray, List.getElem_cons_zero, List.getElem_cons_succ]
        refine wpAnyH_ready (rs := [19, 20]) (by kernel_rfl) (by simp) ?_
        refine (AllReadyH.cons rfl (fun K hK => ?_) (AllReadyH.cons rfl (fun K hK => ?_) AllReadyH.nil))
        ·
          go_simp
          (go_at_call 21; refine (HC7.out _ (by assumption)).mono ?_; rintro e y ⟨he, hy⟩; rw [he.out]; clear he; have hy := below_self (by assumption) hy)
          refine hK.out _ _ ?_ (fun hHeld => ?_)
          · (first | exact Below.refl _ _ | exact (Below.refl _ _).drew | assumption | exact below_self (by assumption) (by assumption))
          clear hK K
          try simp only [Act.put, List.setIfInBounds_toArray, List.set_cons_zero, List.set_cons_succ, List.getElem_toArray, List.getElem_cons_zero, List.getElem_cons_succ]
          refine wpAnyH_ready (rs := [20]) (by kernel_rfl) (by simp) ?_
          refine (AllReadyH.cons rfl (fun K hK => ?_) AllReadyH.nil)
          refine step_loadC (by rfl) _ _ rfl (w.heap.size) rfl 44 cs0 (0, 0) _ (((by assumption : Below wA.heap.size wA _).block _ (Array.getElem?_eq_some_iff.1 HX0.out).1).trans HX0.out) Try.underlying44 HI0.out ?_
          refine hK.out _ _ ?_ (fun hHeld => ?_)
          · (first | exact Below.refl _ _ | exact (Below.refl _ _).drew | assumption | exact below_self (by assumption) (by assumption))
          clear hK K
          try simp only [Act.put, List.setIfInBounds_toArray, List.set_cons_zero, List.set_cons_succ, List.getElem_toArray, List.getElem_cons_zero, List.getElem_cons_succ]
          refine wpAnyH_ready (rs := [21]) (by kernel_rfl) (by simp) ?_
          refine (AllReadyH.cons rfl (fun K hK => ?_) AllReadyH.nil)
          go_simp
          (go_at_call 21; refine (HC0.out _ (by assumption)).mono ?_; rintro e y ⟨he, hy⟩; rw [he.out]; clear he; have hy := below_self (by assumption) hy)
          refine hK.out _ _ ?_ (fun hHeld => ?_)
          · (first | exact Below.refl _ _ | exact (Below.refl _ _).drew | assumption | exact below_self (by assumption) (by assumption))
          clear hK K
          try simp only [Act.put, List.setIfInBounds_toArray, List.set_cons_zero, List.set_cons_succ, List.getElem_toArray, List.getElem_cons_zero, List.getElem_cons_succ]
          refine wpAnyH_take (i := 22) (v := ?_) rfl (by kernel_rfl) (by kernel_rfl) (by kernel_rfl) (fun _ _ _ h => h) (Or.inl ⟨by rfl, ?_⟩) (by assumption) ?_
          rotate_left
          · (intro w hSw; (try dsimp only at hSw); go_simp; try rfl)
          try simp only [Act.put, List.setIfInBounds_toArray, List.set_cons_zero, List.set_cons_succ, List.getElem_toArray, List.getElem_cons_zero, List.getElem_cons_succ]
          refine wpAnyH_take (i := 23) (v := ?_) rfl (by kernel_rfl) (by kernel_rfl) (by kernel_rfl) (fun _ _ _ h => h) (Or.inl ⟨by rfl, ?_⟩) (by assumption) ?_
          rotate_left
          · (intro w hSw; (try dsimp only at hSw); go_simp; try rfl)
          try simp only [Act.put, List.setIfInBounds_toArray, List.set_cons_zero, List.set_cons_succ, List.getElem_toArray, List.getElem_cons_zero, List.getElem_cons_succ]
          refine wpAnyH_done (by kernel_rfl) ?_ _
          go_wp2_with fail
          go_meet
          exact ⟨by simp, Lib.hid (by assumption)⟩
        ·
          refine step_loadC (by rfl) _ _ rfl (w.heap.size) rfl 44 cs0 (0, 0) _ (((by assumption : Below wA.heap.size wA _).block _ (Array.getElem?_eq_some_iff.1 HX0.out).1).trans HX0.out) Try.underlying44 HI0.out ?_
          refine hK.out _ _ ?_ (fun hHeld => ?_)
          · (first | exact Below.refl _ _ | exact (Below.refl _ _).drew | assumption | exact below_self (by assumption) (by assumption))
          clear hK K
          try simp only [Act.put, List.setIfInBounds_toArray, List.set_cons_zero, List.set_cons_succ, List.getElem_toArray, List.getElem_cons_zero, List.getElem_cons_succ]
          refine wpAnyH_ready (rs := [19]) (by kernel_rfl) (by simp) ?_
          refine (AllReadyH.cons rfl (fun K hK => ?_) AllReadyH.nil)
          go_simp
          (go_at_call 21; refine (HC7.out _ (by assumption)).mono ?_; rintro e y ⟨he, hy⟩; rw [he.out]; clear he; have hy := below_self (by assumption) hy)
          refine hK.out _ _ ?_ (fun hHeld => ?_)
          · (first | exact Below.refl _ _ | exact (Below.refl _ _).drew | assumption | exact below_self (by assumption) (by assumption))
          clear hK K
          try simp only [Act.put, List.setIfInBounds_toArray, List.set_cons_zero, List.set_cons_succ, List.getElem_toArray, List.getElem_cons_zero, List.getElem_cons_succ]
          refine wpAnyH_ready (rs := [21]) (by kernel_rfl) (by simp) ?_
          refine (AllReadyH.cons rfl (fun K hK => ?_) AllReadyH.nil)
          go_simp
          (go_at_call 21; refine (HC0.out _ (by assumption)).mono ?_; rintro e y ⟨he, hy⟩; rw [he.out]; clear he; have hy := below_self (by assumption) hy)
          refine hK.out _ _ ?_ (fun hHeld => ?_)
          · (first | exact Below.refl _ _ | exact (Below.refl _ _).drew | assumption | exact below_self (by assumption) (by assumption))
          clear hK K
          try simp only [Act.put, List.setIfInBounds_toArray, List.set_cons_zero, List.set_cons_succ, List.getElem_toArray, List.getElem_cons_zero, List.getElem_cons_succ]
          refine wpAnyH_take (i := 22) (v := ?_) rfl (by kernel_rfl) (by kernel_rfl) (by kernel_rfl) (fun _ _ _ h => h) (Or.inl ⟨by rfl, ?_⟩) (by assumption) ?_
          rotate_left
          · (intro w hSw; (try dsimp only at hSw); go_simp; try rfl)
          try simp only [Act.put, List.setIfInBounds_toArray, List.set_cons_zero, List.set_cons_succ, List.getElem_toArray, List.getElem_cons_zero, List.getElem_cons_succ]
          refine wpAnyH_take (i := 23) (v := ?_) rfl (by kernel_rfl) (by kernel_rfl) (by kernel_rfl) (fun _ _ _ h => h) (Or.inl ⟨by rfl, ?_⟩) (by assumption) ?_
          rotate_left
          · (intro w hSw; (try dsimp only at hSw); go_simp; try rfl)
          try simp only [Act.put, List.setIfInBounds_toArray, List.set_cons_zero, List.set_cons_succ, List.getElem_toArray, List.getElem_cons_zero, List.getElem_cons_succ]
          refine wpAnyH_done (by kernel_rfl) ?_ _
          go_wp2_with fail
          go_meet
          exact ⟨by simp, Lib.hid (by assumption)⟩
      ·
        refine step_loadC (by rfl) _ _ rfl (w.heap.size) rfl 44 cs0 (0, 0) _ (((by assumption : Below wA.heap.size wA _).block _ (Array.getElem?_eq_some_iff.1 HX0.out).1).trans HX0.out) Try.underlying44 HI0.out ?_
        refine hK.out _ _ ?_ (fun hHeld => ?_)
        · (first | exact Below.refl _ _ | exact (Below.refl _ _).drew | assumption | exact below_self (by assumption) (by assumption))
        clear hK K
        try simp only [Act.put, List.setIfInBounds_toArray, List.set_cons_zero, List.set_cons_succ, List.getElem_toArray, List.getElem_cons_zero, List.getElem_cons_succ]
        refine wpAnyH_ready (rs := [18]) (by kernel_rfl) (by simp) ?_
        refine (AllReadyH.cons rfl (fun K hK => ?_) AllReadyH.nil)
        refine step_loadC (by rfl) _ _ rfl (wr2.heap.size) rfl 44 cs7 (0, 0) _ (((by assumption : Below wA.heap.size wA _).block _ (Array.getElem?_eq_some_iff.1 HX7.out).1).trans HX7.out) Try.underlying44 HI7.out ?_
        refine hK.out _ _ ?_ (fun hHeld => ?_)
        · (first | exact Below.refl _ _ | exact (Below.refl _ _).drew | assumption | exact below_self (by assumption) (by assumption))
        clear hK K
        try simp only [Act.put, List.setIfInBounds_toArray, List.set_cons_zero, List.set_cons_succ, List.getElem_toArray, List.getElem_cons_zero, List.getElem_cons_succ]
        refine wpAnyH_ready (rs := [19]) (by kernel_rfl) (by simp) ?_
        refine (AllReadyH.cons rfl (fun K hK => ?_) AllReadyH.nil)
        go_simp
        (go_at_call 21; refine (HC7.out _ (by assumption)).mono ?_; rintro e y ⟨he, hy⟩; rw [he.out]; clear he; have hy := below_self (by assumption) hy)
        refine hK.out _ _ ?_ (fun hHeld => ?_)
        · (first | exact Below.refl _ _ | exact (Below.refl _ _).drew | assumption | exact below_self (by assumption) (by assumption))
        clear hK K
        try simp only [Act.put, List.setIfInBounds_toArray, List.set_cons_zero, List.set_cons_succ, List.getElem_toArray, List.getElem_cons_zero, List.getElem_cons_succ]
        refine wpAnyH_ready (rs := [21]) (by kernel_rfl) (by simp) ?_
        refine (AllReadyH.cons rfl (fun K hK => ?_) AllReadyH.nil)
        go_simp
        (go_at_call 21; refine (HC0.out _ (by assumption)).mono ?_; rintro e y ⟨he, hy⟩; rw [he.out]; clear he; have hy := below_self (by assumption) hy)
        refine hK.out _ _ ?_ (fun hHeld => ?_)
        · (first | exact Below.refl _ _ | exact (Below.refl _ _).drew | assumption | exact below_self (by assumption) (by assumption))
        clear hK K
        try simp only [Act.put, List.setIfInBounds_toArray, List.set_cons_zero, List.set_cons_succ, List.getElem_toArray, List.getElem_cons_zero, List.getElem_cons_succ]
        refine wpAnyH_take (i := 22) (v := ?_) rfl (by kernel_rfl) (by kernel_rfl) (by kernel_rfl) (fun _ _ _ h => h) (Or.inl ⟨by rfl, ?_⟩) (by assumption) ?_
        rotate_left
        · (intro w hSw; (try dsimp only at hSw); go_simp; try rfl)
        try simp only [Act.put, List.setIfInBounds_toArray, List.set_cons_zero, List.set_cons_succ, List.getElem_toArray, List.getElem_cons_zero, List.getElem_cons_succ]
        refine wpAnyH_take (i := 23) (v := ?_) rfl (by kernel_rfl) (by kernel_rfl) (by kernel_rfl) (fun _ _ _ h => h) (Or.inl ⟨by rfl, ?_⟩) (by assumption) ?_
        rotate_left
        · (intro w hSw; (try dsimp only at hSw); go_simp; try rfl)
        try simp only [Act.put, List.setIfInBounds_toArray, List.set_cons_zero, List.set_cons_succ, List.getElem_toArray, List.getElem_cons_zero, List.getElem_cons_succ]
        refine wpAnyH_done (by kernel_rfl) ?_ _
        go_wp2_with fail
        go_meet
        exact ⟨by simp, Lib.hid (by assumption)⟩
  case rest =>
  obtain ⟨rfl, hbc⟩ := hcut
  have hb := hbc.out
  clear hbc
  have HX0' := Lib.hid ((hb.block _ (Array.getElem?_eq_some_iff.1 HX0.out).1).trans HX0.out)
  have HB' := Lib.hid (HB.out.trans (hb.mono HB.out.size))
  have HM0' := Lib.hid (HM0.out.on hb)
  have HU0' := Lib.hid (HU0.out.below hb)
  have HX8' := Lib.hid ((hb.block _ (Array.getElem?_eq_some_iff.1 HX8.out).1).trans HX8.out)
  have HM8' := Lib.hid (HM8.out.on hb)
  have HT0' := Lib.hid (HT0.out.below hb)
  have HX7' := Lib.hid ((hb.block _ (Array.getElem?_eq_some_iff.1 HX7.out).1).trans HX7.out)
  have HM7' := Lib.hid (HM7.out.on hb)
  clear hb HX0 HB HM0 HU0 HX8 HM8 HT0 HX7 HM7
  have HX0 := HX0'
  have HB := HB'
  have HM0 := HM0'
  have HU0 := HU0'
  have HX8 := HX8'
  have HM8 := HM8'
  have HT0 := HT0'
  have HX7 := HX7'
  have HM7 := HM7'
  clear HX0' HB' HM0' HU0' HX8' HM8' HT0' HX7' HM7'
  have hlF : (frm (eF (msC.fs x0))).length ≤ 600000 := by rw [frm_length]; have := HLn.out; omega
  have HLF := Lib.hid hlF
  clear hlF
  have hw0 := HB.out.size
  have HBc := Lib.hid HB.out
  go_wp2_with (refine wpList_app (o := ⟨some 81, _, _, _, _, _⟩) rfl _ _ rfl wc.heap.size _ [] rfl (own8_emptyC _ _ (Nat.le_refl _)) _ (frm (eF (msC.fs x0))) rfl (HT0.out.below ((Below.refl _ _).alloc (Nat.le_refl _) _)) (by have := HLF.out; simp; omega) (by simp) ?_)
  intro v11 w11 ho11 hb11 hz11
  have ho11' : Own8 w11 wc.heap.size v11 (frm (eF (msC.fs x0))) := ho11
  obtain ⟨a11, c11, hv11⟩ := ho11'.slice
  subst hv11
  have hb := ((Below.refl _ wc).alloc (Nat.le_refl _) _).trans hb11
  have hz : wc.heap.size ≤ w11.heap.size := hb.size
  have HO11 := Lib.hid ho11'
  have HZ11 := Lib.hid hz
  have HWc : Hid (Below wc.heap.size wc w11) := Lib.hid hb
  clear ho11 ho11' hb11 hz11 hz hw0
  have HX0' := Lib.hid ((hb.block _ (Array.getElem?_eq_some_iff.1 HX0.out).1).trans HX0.out)
  have HB' := Lib.hid (HB.out.trans (hb.mono HB.out.size))
  have HM0' := Lib.hid (HM0.out.on hb)
  have HU0' := Lib.hid (HU0.out.below hb)
  have HX8' := Lib.hid ((hb.block _ (Array.getElem?_eq_some_iff.1 HX8.out).1).trans HX8.out)
  have HM8' := Lib.hid (HM8.out.on hb)
  have HT0' := Lib.hid (HT0.out.below hb)
  have HX7' := Lib.hid ((hb.block _ (Array.getElem?_eq_some_iff.1 HX7.out).1).trans HX7.out)
  have HM7' := Lib.hid (HM7.out.on hb)
  clear hb HX0 HB HM0 HU0 HX8 HM8 HT0 HX7 HM7
  have HX0 := HX0'
  have HB := HB'
  have HM0 := HM0'
  have HU0 := HU0'
  have HX8 := HX8'
  have HM8 := HM8'
  have HT0 := HT0'
  have HX7 := HX7'
  have HM7 := HM7'
  clear HX0' HB' HM0' HU0' HX8' HM8' HT0' HX7' HM7'
  go_wp2_with (refine wpList_app (o := ⟨some 83, _, _, _, _, _⟩) rfl _ _ rfl wc.heap.size _ (frm (eF (msC.fs x0))) rfl (HO11.out.below ((Below.refl _ _).alloc (Nat.le_refl _) _)) _ [0] rfl (bt_lit w11 [0] 5 (0, 0) (by simp)) (by have := HLF.out; simp only [List.length_cons, List.length_nil]; omega) (by have := HZ11.out; rw [World.size_alloc]; omega) ?_)
  intro v12 w12 ho12 hb12 hz12
  have hb : Below w.heap.size w w12 := HB.out.trans ((((Below.refl w.heap.size w11).alloc HB.out.size _).trans (hb12.mono (by have := HBc.out.size; omega))))
  have HBz := Lib.hid hb
  have HU12 := Lib.hid (ho12.bt (by have := HLF.out; simp; omega))
  clear hb ho12 hb12 hz12 HO11
  clear HB
  have HB := HBz
  clear HBz
  go_wp2_with fail
  refine (offrame_any _ (frm (eF (msC.fs x0)) ++ [0]) _ HU12.out (fun z hz => by rcases List.mem_append.1 hz with hz | hz
                                                                                 · exact frm_range (eF_byte Q0.out) (by have := HLn.out; omega) z hz
                                                                                 · simp at hz; subst hz; decide) (by have := HLF.out; simp; omega)).mono ?_
  rw [Pc.ofE_more _ _ (by have := HLn.out; omega) (by simp)]
  rintro e wr3 ⟨cs6, he, hsz, hone, hb, hm⟩
  rw [he.out]
  clear he
  have HI6 : Hid ((Try.prog.info? 44).map (·.size) = some cs6.size) := Lib.hid (by rw [hsz]; kernel_rfl)
  have HZ6 : Hid (((#[.int .i64 0, .int .i64 0, .int .i64 0, .int .i64 0, .int .i64 0, .int .i64 0, .int .i64 0, .int .i64 0, .int .i64 0, .int .i64 0, .int .i64 0, .int .i64 0, .int .i64 0, .int .i64 0, .int .i64 0, .int .i64 0, .string ⟨#[]⟩, .string ⟨#[]⟩, .int .i64 0, .int .i64 0, .int .i64 0, .int .i64 0, .slice none 0 0, .int .i64 0, .slice none 0 0, .slice none 0 0, .slice none 0 0] : Array Value)).size = cs6.size) := Lib.hid (by rw [hsz]; rfl)
  have HO6 := Lib.hid hone
  have HA6 := Lib.hid (bka_new wr3 44 (#[.int .i64 0, .int .i64 0, .int .i64 0, .int .i64 0, .int .i64 0, .int .i64 0, .int .i64 0, .int .i64 0, .int .i64 0, .int .i64 0, .int .i64 0, .int .i64 0, .int .i64 0, .int .i64 0, .int .i64 0, .int .i64 0, .string ⟨#[]⟩, .string ⟨#[]⟩, .int .i64 0, .int .i64 0, .int .i64 0, .int .i64 0, .slice none 0 0, .int .i64 0, .slice none 0 0, .slice none 0 0, .slice none 0 0] : Array Value))
  have HX6 := Lib.hid (box_row wr3 44 (#[.int .i64 0, .int .i64 0, .int .i64 0, .int .i64 0, .int .i64 0, .int .i64 0, .int .i64 0, .int .i64 0, .int .i64 0, .int .i64 0, .int .i64 0, .int .i64 0, .int .i64 0, .int .i64 0, .int .i64 0, .int .i64 0, .string ⟨#[]⟩, .string ⟨#[]⟩, .int .i64 0, .int .i64 0, .int .i64 0, .int .i64 0, .slice none 0 0, .int .i64 0, .slice none 0 0, .slice none 0 0, .slice none 0 0] : Array Value) cs6)
  have hb := hb.trans ((box_below wr3 44 (#[.int .i64 0, .int .i64 0, .int .i64 0, .int .i64 0, .int .i64 0, .int .i64 0, .int .i64 0, .int .i64 0, .int .i64 0, .int .i64 0, .int .i64 0, .int .i64 0, .int .i64 0, .int .i64 0, .int .i64 0, .int .i64 0, .string ⟨#[]⟩, .string ⟨#[]⟩, .int .i64 0, .int .i64 0, .int .i64 0, .int .i64 0, .slice none 0 0, .int .i64 0, .slice none 0 0, .slice none 0 0, .slice none 0 0] : Array Value) cs6).mono hb.size)
  clear hsz hone hm
  have HB' := Lib.hid (HB.out.trans (hb.mono HB.out.size))
  clear hb HB
  have HB := HB'
  clear HB'
  go_wp2_with (first | refine wpList_store_row rfl 44 _ _ rfl wr3.heap.size rfl cs6 rfl (#[.int .i64 0, .int .i64 0, .int .i64 0, .int .i64 0, .int .i64 0, .int .i64 0, .int .i64 0, .int .i64 0, .int .i64 0, .int .i64 0, .int .i64 0, .int .i64 0, .int .i64 0, .int .i64 0, .int .i64 0, .int .i64 0, .string ⟨#[]⟩, .string ⟨#[]⟩, .int .i64 0, .int .i64 0, .int .i64 0, .int .i64 0, .slice none 0 0, .int .i64 0, .slice none 0 0, .slice none 0 0, .slice none 0 0] : Array Value) 44 HA6.out HI6.out HZ6.out HO6.out ?_ | refine wpList_bytes_g (o := ⟨some 91, _, _, _, _, _⟩) rfl 9 49 _ rfl 5 Try.underlying9 Try.underlying49 Try.underlying5 _ rfl (by omega) ?_)
  intro v9 w9 hT hz9 hb
  have HT9 := Lib.hid hT
  clear hT hz9
  have hb : Below ((wr3.alloc (.cells (#[.int .i64 0, .int .i64 0, .int .i64 0, .int .i64 0, .int .i64 0, .int .i64 0, .int .i64 0, .int .i64 0, .int .i64 0, .int .i64 0, .int .i64 0, .int .i64 0, .int .i64 0, .int .i64 0, .int .i64 0, .int .i64 0, .string ⟨#[]⟩, .string ⟨#[]⟩, .int .i64 0, .int .i64 0, .int .i64 0, .int .i64 0, .slice none 0 0, .int .i64 0, .slice none 0 0, .slice none 0 0, .slice none 0 0] : Array Value) 44)).setRow wr3.heap.size cs6).heap.size ((wr3.alloc (.cells (#[.int .i64 0, .int .i64 0, .int .i64 0, .int .i64 0, .int .i64 0, .int .i64 0, .int .i64 0, .int .i64 0, .int .i64 0, .int .i64 0, .int .i64 0, .int .i64 0, .int .i64 0, .int .i64 0, .int .i64 0, .int .i64 0, .string ⟨#[]⟩, .string ⟨#[]⟩, .int .i64 0, .int .i64 0, .int .i64 0, .int .i64 0, .slice none 0 0, .int .i64 0, .slice none 0 0, .slice none 0 0, .slice none 0 0] : Array Value) 44)).setRow wr3.heap.size cs6) w9 := by rw [box_size]; exact hb
  have HB' := Lib.hid (HB.out.trans (hb.mono HB.out.size))
  clear hb HB
  have HB := HB'
  clear HB'
  by_cases qe : endE (msC.rd (byt s, 0)).2 = 0
  · have HQE := Lib.hid (ms_inv (byt_range s) qe)
    have HE0 := Lib.hid qe
    clear qe
    go_wp2_with fail
    refine (ofmsg_c _ (byt s) _ HT9.out (byt_range s) (by rw [byt_length]; have := HS3.out; omega)).mono ?_
    rintro e wr4 ⟨cs9, he, hsz, hone, hb, hm⟩
    rw [he.out]
    rw [HE0.out] at hm ⊢
    clear he
    have HI9 : Hid ((Try.prog.info? 44).map (·.size) = some cs9.size) := Lib.hid (by rw [hsz]; kernel_rfl)
    have HZ9 : Hid (((#[.int .i64 0, .int .i64 0, .int .i64 0, .int .i64 0, .int .i64 0, .int .i64 0, .int .i64 0, .int .i64 0, .int .i64 0, .int .i64 0, .int .i64 0, .int .i64 0, .int .i64 0, .int .i64 0, .int .i64 0, .int .i64 0, .string ⟨#[]⟩, .string ⟨#[]⟩, .int .i64 0, .int .i64 0, .int .i64 0, .int .i64 0, .slice none 0 0, .int .i64 0, .slice none 0 0, .slice none 0 0, .slice none 0 0] : Array Value)).size = cs9.size) := Lib.hid (by rw [hsz]; rfl)
    have HO9 := Lib.hid hone
    have HA9 := Lib.hid (bka_new wr4 44 (#[.int .i64 0, .int .i64 0, .int .i64 0, .int .i64 0, .int .i64 0, .int .i64 0, .int .i64 0, .int .i64 0, .int .i64 0, .int .i64 0, .int .i64 0, .int .i64 0, .int .i64 0, .int .i64 0, .int .i64 0, .int .i64 0, .string ⟨#[]⟩, .string ⟨#[]⟩, .int .i64 0, .int .i64 0, .int .i64 0, .int .i64 0, .slice none 0 0, .int .i64 0, .slice none 0 0, .slice none 0 0, .slice none 0 0] : Array Value))
    have HX9 := Lib.hid (box_row wr4 44 (#[.int .i64 0, .int .i64 0, .int .i64 0, .int .i64 0, .int .i64 0, .int .i64 0, .int .i64 0, .int .i64 0, .int .i64 0, .int .i64 0, .int .i64 0, .int .i64 0, .int .i64 0, .int .i64 0, .int .i64 0, .int .i64 0, .string ⟨#[]⟩, .string ⟨#[]⟩, .int .i64 0, .int .i64 0, .int .i64 0, .int .i64 0, .slice none 0 0, .int .i64 0, .slice none 0 0, .slice none 0 0, .slice none 0 0] : Array Value) cs9)
    have hb := hb.trans ((box_below wr4 44 (#[.int .i64 0, .int .i64 0, .int .i64 0, .int .i64 0, .int .i64 0, .int .i64 0, .int .i64 0, .int .i64 0, .int .i64 0, .int .i64 0, .int .i64 0, .int .i64 0, .int .i64 0, .int .i64 0, .int .i64 0, .int .i64 0, .string ⟨#[]⟩, .string ⟨#[]⟩, .int .i64 0, .int .i64 0, .int .i64 0, .int .i64 0, .slice none 0 0, .int .i64 0, .slice none 0 0, .slice none 0 0, .slice none 0 0] : Array Value) cs9).mono hb.size)
    have HM9 : Hid (MsgIs ((wr4.alloc (.cells (#[.int .i64 0, .int .i64 0, .int .i64 0, .int .i64 0, .int .i64 0, .int .i64 0, .int .i64 0, .int .i64 0, .int .i64 0, .int .i64 0, .int .i64 0, .int .i64 0, .int .i64 0, .int .i64 0, .int .i64 0, .int .i64 0, .string ⟨#[]⟩, .string ⟨#[]⟩, .int .i64 0, .int .i64 0, .int .i64 0, .int .i64 0, .slice none 0 0, .int .i64 0, .slice none 0 0, .slice none 0 0, .slice none 0 0] : Array Value) 44)).setRow wr4.heap.size cs9) (.agg cs9) (msC.rd (byt s, 0)).1) := Lib.hid ⟨cs9, rfl, hm rfl _ (fun j _ hj => (box_below wr4 44 (#[.int .i64 0, .int .i64 0, .int .i64 0, .int .i64 0, .int .i64 0, .int .i64 0, .int .i64 0, .int .i64 0, .int .i64 0, .int .i64 0, .int .i64 0, .int .i64 0, .int .i64 0, .int .i64 0, .int .i64 0, .int .i64 0, .string ⟨#[]⟩, .string ⟨#[]⟩, .int .i64 0, .int .i64 0, .int .i64 0, .int .i64 0, .slice none 0 0, .int .i64 0, .slice none 0 0, .slice none 0 0, .slice none 0 0] : Array Value) cs9).block j hj)⟩
    clear hsz hone hm
    have HB' := Lib.hid (HB.out.trans (hb.mono HB.out.size))
    clear hb HB
    have HB := HB'
    clear HB'
    go_wp2_with (first | refine wpList_store_row rfl 44 _ _ rfl wr4.heap.size rfl cs9 rfl (#[.int .i64 0, .int .i64 0, .int .i64 0, .int .i64 0, .int .i64 0, .int .i64 0, .int .i64 0, .int .i64 0, .int .i64 0, .int .i64 0, .int .i64 0, .int .i64 0, .int .i64 0, .int .i64 0, .int .i64 0, .int .i64 0, .string ⟨#[]⟩, .string ⟨#[]⟩, .int .i64 0, .int .i64 0, .int .i64 0, .int .i64 0, .slice none 0 0, .int .i64 0, .slice none 0 0, .slice none 0 0, .slice none 0 0] : Array Value) 44 HA9.out HI9.out HZ9.out HO9.out ?_ | refine wpList_load_rowG rfl _ _ rfl (wr4.heap.size) rfl 44 cs9 (0, 0) _ HX9.out Try.underlying44 rfl HI9.out ?_ | fail)
    generalize ((wr4.alloc (.cells (#[.int .i64 0, .int .i64 0, .int .i64 0, .int .i64 0, .int .i64 0, .int .i64 0, .int .i64 0, .int .i64 0, .int .i64 0, .int .i64 0, .int .i64 0, .int .i64 0, .int .i64 0, .int .i64 0, .int .i64 0, .int .i64 0, .string ⟨#[]⟩, .string ⟨#[]⟩, .int .i64 0, .int .i64 0, .int .i64 0, .int .i64 0, .slice none 0 0, .int .i64 0, .slice none 0 0, .slice none 0 0, .slice none 0 0] : Array Value) 44)).setRow wr4.heap.size cs9) = wz9 at *
    refine (msg_any _ _ _ HM9.out).mono ?_
    rintro e wq hP
    obtain ⟨_, uq, he, ho, hb⟩ := hP.resolve_right (fun k => k.1 HQE.out.1)
    rw [he.out]
    clear he hP
    rw [HQE.out.2] at ho
    obtain ⟨aq, cq, hv⟩ := ho.slice
    subst hv
    have h1 := bt_str (ho.bt (by rw [byt_length]; omega))
    rw [txt_byt] at h1
    clear ho
    have HB' := Lib.hid (HB.out.trans (hb.mono HB.out.size))
    have HX9' := Lib.hid ((hb.block _ (Array.getElem?_eq_some_iff.1 HX9.out).1).trans HX9.out)
    have HM9' := Lib.hid (HM9.out.on hb)
    clear hb HB HX9 HM9
    have HB := HB'
    have HX9 := HX9'
    have HM9 := HM9'
    clear HB' HX9' HM9'
    go_wp2_with fail
    go_ret
    exact ⟨rfl, HB.out⟩
  · have HE0 := Lib.hid qe
    clear qe
    go_wp2_with fail
    refine (ofmsg_c _ (byt s) _ HT9.out (byt_range s) (by rw [byt_length]; have := HS3.out; omega)).mono ?_
    rintro e wr54 ⟨cs9, he, hsz, hone, hb, hm⟩
    obtain ⟨er, her⟩ : ∃ er, endE (msC.rd (byt s, 0)).2 = er := ⟨_, rfl⟩
    have hne := HE0.out
    rw [her] at hne he
    rw [he.out]
    have t6 : (er == 0) = false := by simpa using hne
    have t7 : (er != 0) = true := by simpa using hne
    clear he her hne
    have HI9 : Hid ((Try.prog.info? 44).map (·.size) = some cs9.size) := Lib.hid (by rw [hsz]; kernel_rfl)
    have HZ9 : Hid (((#[.int .i64 0, .int .i64 0, .int .i64 0, .int .i64 0, .int .i64 0, .int .i64 0, .int .i64 0, .int .i64 0, .int .i64 0, .int .i64 0, .int .i64 0, .int .i64 0, .int .i64 0, .int .i64 0, .int .i64 0, .int .i64 0, .string ⟨#[]⟩, .string ⟨#[]⟩, .int .i64 0, .int .i64 0, .int .i64 0, .int .i64 0, .slice none 0 0, .int .i64 0, .slice none 0 0, .slice none 0 0, .slice none 0 0] : Array Value)).size = cs9.size) := Lib.hid (by rw [hsz]; rfl)
    have HO9 := Lib.hid hone
    have HA9 := Lib.hid (bka_new wr54 44 (#[.int .i64 0, .int .i64 0, .int .i64 0, .int .i64 0, .int .i64 0, .int .i64 0, .int .i64 0, .int .i64 0, .int .i64 0, .int .i64 0, .int .i64 0, .int .i64 0, .int .i64 0, .int .i64 0, .int .i64 0, .int .i64 0, .string ⟨#[]⟩, .string ⟨#[]⟩, .int .i64 0, .int .i64 0, .int .i64 0, .int .i64 0, .slice none 0 0, .int .i64 0, .slice none 0 0, .slice none 0 0, .slice none 0 0] : Array Value))
    have HX9 := Lib.hid (box_row wr54 44 (#[.int .i64 0, .int .i64 0, .int .i64 0, .int .i64 0, .int .i64 0, .int .i64 0, .int .i64 0, .int .i64 0, .int .i64 0, .int .i64 0, .int .i64 0, .int .i64 0, .int .i64 0, .int .i64 0, .int .i64 0, .int .i64 0, .string ⟨#[]⟩, .string ⟨#[]⟩, .int .i64 0, .int .i64 0, .int .i64 0, .int .i64 0, .slice none 0 0, .int .i64 0, .slice none 0 0, .slice none 0 0, .slice none 0 0] : Array Value) cs9)
    have hb := hb.trans ((box_below wr54 44 (#[.int .i64 0, .int .i64 0, .int .i64 0, .int .i64 0, .int .i64 0, .int .i64 0, .int .i64 0, .int .i64 0, .int .i64 0, .int .i64 0, .int .i64 0, .int .i64 0, .int .i64 0, .int .i64 0, .int .i64 0, .int .i64 0, .string ⟨#[]⟩, .string ⟨#[]⟩, .int .i64 0, .int .i64 0, .int .i64 0, .int .i64 0, .slice none 0 0, .int .i64 0, .slice none 0 0, .slice none 0 0, .slice none 0 0] : Array Value) cs9).mono hb.size)
    clear hsz hone hm
    have HB' := Lib.hid (HB.out.trans (hb.mono HB.out.size))
    clear hb HB
    have HB := HB'
    clear HB'
    go_wp2_with (first | refine wpList_store_row rfl 44 _ _ rfl wr54.heap.size rfl cs9 rfl (#[.int .i64 0, .int .i64 0, .int .i64 0, .int .i64 0, .int .i64 0, .int .i64 0, .int .i64 0, .int .i64 0, .int .i64 0, .int .i64 0, .int .i64 0, .int .i64 0, .int .i64 0, .int .i64 0, .int .i64 0, .int .i64 0, .string ⟨#[]⟩, .string ⟨#[]⟩, .int .i64 0, .int .i64 0, .int .i64 0, .int .i64 0, .slice none 0 0, .int .i64 0, .slice none 0 0, .slice none 0 0, .slice none 0 0] : Array Value) 44 HA9.out HI9.out HZ9.out HO9.out ?_ | refine wpList_load_rowG rfl _ _ rfl (wr54.heap.size) rfl 44 cs9 (0, 0) _ HX9.out Try.underlying44 rfl HI9.out ?_ | fail)
    go_ret
    exact ⟨rfl, HB.out⟩
theorem back_law (v0 : Value) (x0 : Msg7) (s : ByteArray) (w : World) (h0 : MsgIs w v0 x0) (z0 : RchI x0.2.2.2.2.2.1 x0.2.2.2.2.2.2) (hs : s.size ≤ maxLen) :
    Calls Try.prog 5 #[v0, .string s] w (TruP w) := by
  by_cases q : Oks (msC.fs x0)
  · exact back_good v0 x0 s w h0 z0 hs q
  · exact back_bad v0 x0 s w h0 z0 hs q
end Go.Proofs.Ytllcmapgigfgoaa
