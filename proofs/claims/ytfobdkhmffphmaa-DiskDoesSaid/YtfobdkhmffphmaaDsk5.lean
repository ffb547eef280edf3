/-
  Bodies held against their texts; the document's example of package disk.
-/
import Derived.Test.YtfobdkhmffphmaaDsk4
import Derived.Deep.RegionHeld3
import Derived.Lib.SlBytesConst
namespace Go.Proofs.Ytfobdkhmffphmaa
open Go.RowKit
set_option linter.unusedSimpArgs false
set_option linter.unusedVariables false

theorem getD_byt (ss : List ByteArray) (k : Nat) (h : k < ss.length) : (ss.map byt).getD k [] = byt (ss.getD k ByteArray.empty) := by simp [List.getD, h]
theorem Bt.text {w : World} {v : Value} {xs : List Int} (h : Bt w v xs) : (convert 27 9 v).run Try.prog w = .ok (.string (txt xs)) w := by
  obtain ⟨a, c, rfl, h1, h2⟩ := h.row
  exact run_text h1 h2 Try.underlying27 Try.underlying5 Try.underlying9
/-- A round of comparing a body with its text. -/
theorem body_cell {w0 wr : World} {L : List (List Int)} {n : Nat} {a5 : Option Addr} {c5 : Nat} (hR : AllRow w0 (.slice a5 n c5) L) (hB : Below w0.heap.size w0 wr) (k : Nat) (hk : k < L.length) (s : ByteArray) (hs : L.getD k [] = byt s) :
    ∃ g xv, a5 = some ⟨g, 0, none⟩ ∧ wr.cell? ⟨g, k, none⟩ = some xv ∧ (convert 27 9 xv).run Try.prog wr.drew = .ok (.string s) wr.drew ∧ (convert 27 9 xv).run Try.prog wr = .ok (.string s) wr := by
  obtain ⟨g, c, xv, e, hg, hc, ht⟩ := hR.cell k hk
  simp only [Value.slice.injEq] at e
  obtain ⟨rfl, _, rfl⟩ := e
  rw [hs] at ht
  have ht1 := ht.below hB
  have q1 := ht1.text
  have q2 := (ht1.below (Below.refl _ _).drew).text
  rw [txt_byt] at q1 q2
  exact ⟨g, xv, rfl, (hB.cell (p := ⟨g, k, none⟩) hg).trans hc, q2, q1⟩
set_option maxHeartbeats 2000000 in
theorem texts_true (lv : Value) (a2 : Option Addr) (c2 : Nat) (ss : List ByteArray) (w : World) (hr : AllRow w lv (ss.map byt)) (hs : SRd w a2 ss) : Calls Try.prog 13 #[lv, .slice a2 ss.length c2] w fun e w' => e = .returned (.bool true) ∧ Below w.heap.size w w' := by
  have HR := Lib.hid hr
  have HS := Lib.hid hs
  have hl := hs.1
  obtain ⟨a, c, rfl⟩ := hr.row
  rw [List.length_map] at HR ⊢
  clear hr hs
  have t0 : ((ss.length : Int) != ss.length) = false := by simp
  go_enter Try.func13, Try.ntmps13
  go_wp2
  go_loopw [5] (fun i wr => ∃ k : Nat, k ≤ ss.length ∧ i = .int .i64 k ∧ Hid (Below w.heap.size w wr)) (fun i _ => ss.length - (intOf i).toNat)
  case atStart => exact ⟨0, Nat.zero_le _, rfl, Lib.hid (Below.refl _ _)⟩
  case round =>
    obtain ⟨k, hk, rfl, hB⟩ := hrel
    by_cases hlt : k < ss.length
    · obtain ⟨s, hsk⟩ : ∃ s, ss.getD k ByteArray.empty = s := ⟨_, rfl⟩
      have hLk : (ss.map byt).getD k [] = byt s := by rw [getD_byt ss k hlt, hsk]
      obtain ⟨g5, xv, rfl, hc5, kx, kx2⟩ := body_cell HR.out hB.out k (by simpa using hlt) s hLk
      obtain ⟨g6, off, rfl, hg6, hc6⟩ := HS.out.cell k hlt
      rw [hsk] at hc6
      have hc6' : wr.cell? ⟨g6, off + k, none⟩ = some (.string s) := (hB.out.cell (p := ⟨g6, off + k, none⟩) hg6).trans hc6
      have hc5d : wr.drew.cell? ⟨g5, k, none⟩ = some xv := hc5
      have hc6d : wr.drew.cell? ⟨g6, off + k, none⟩ = some (.string s) := hc6'
      have q1 : (s.toList == s.toList) = true := by simp
      have q2 : (s.toList != s.toList) = false := by simp
      have hkn' : (k : Int) < (ss.length : Int) := by omega
      clear hsk hLk hc6
      go_wp2
      go_region
      go_wp2
      go_roundw
      case rel => exact ⟨k + 1, by omega, by go_num, Lib.hid (hB.out.drew)⟩
      case measure => simp [intOf]; omega
    · obtain rfl : k = ss.length := by omega
      go_wp2
      go_ret
      exact ⟨rfl, hB.out⟩
theorem DAt.foot {w w' : World} {B p : Nat} {v : Value} {bs : List Int} {last : Nat} (h : DAt w B p v bs last) (hf : Foot w w' p v) : Below B w w' :=
  hf.below h.low (own8_from h.own) (by have := h.lt; have := h.low; omega)
theorem DAt.up {w : World} {B p : Nat} {v : Value} {bs : List Int} {last : Nat} (h : DAt w B p v bs last) : B ≤ w.heap.size := by have := h.lt; have := h.low; omega
theorem ex1 : (frm [97] ++ frm [98]).length = 18 := by decide +kernel
theorem ex2 : allN ((frm [97] ++ frm [98]).take 17) = [[97]] := by decide +kernel
theorem ex3 : ((frm [97] ++ frm [98]).take 17).length = 17 := by decide +kernel
theorem ex4 : totL [[97]] = 9 := by decide +kernel
theorem ex5 : (((frm [97] ++ frm [98]).take 17).take 9).length = 9 := by decide +kernel
theorem ex6 : ∀ x ∈ (frm [97] ++ frm [98]).take 17, 0 ≤ x ∧ x ≤ 255 := by decide +kernel
theorem ex7 : (frm [97]).length = 9 := by decide +kernel
set_option maxRecDepth 100000 in
set_option maxHeartbeats 2000000 in
theorem works_any (w : World) : Calls Try.prog 4 #[] w fun e w' => e = .returned (.bool true) ∧ Below w.heap.size w w' := by
  have kc := fun (w : World) (C : Array Value) (n c : Nat) => Lib.run_convert_bytes_const (P := Try.prog) w 27 5 C n c Try.underlying27 Try.underlying5
  go_enter Try.func4, Try.ntmps4
  go_wp2_with fail
  refine (dnew_any _).mono ?_
  rintro e w1 ⟨p, v, he, hd, hb⟩
  subst he
  have HD1 := Lib.hid (hd.below ((Below.refl _ _).alloc (Nat.le_refl _) (.cells #[.int .u8 97] 5 (1, 2))))
  have HB1 := Lib.hid (hb.alloc hb.size (.cells #[.int .u8 97] 5 (1, 2)))
  have HL1 := Lib.hid (bt_lit w1 [97] 5 (1, 2) (by simp))
  clear hd hb
  go_wp2_with fail
  refine (append_any _ p v [] _ _ [97] _ HD1.out (by simp) HL1.out (by simp) (by simp)).mono ?_
  rintro e w2 ⟨he, v2, hd, hf⟩
  subst he
  have HB2 := Lib.hid (HB1.out.trans (HD1.out.foot hf))
  have HD2 : Hid (DAt w2 w.heap.size p v2 (frm [97]) 0) := Lib.hid hd
  clear hd hf HB1 HD1 HL1
  go_wp2_with fail
  refine (sync_any _ p v2 (frm [97]) _ _ HD2.out (by rw [ex7]; decide)).mono ?_
  rintro e w3 ⟨he, hd, hf⟩
  subst he
  rw [ex7] at hd
  have HB3 := Lib.hid ((HB2.out.trans (HD2.out.foot hf)).alloc (Nat.le_trans HD2.out.up hf.size) (.cells #[.int .u8 98] 5 (1, 2)))
  have HD3 := Lib.hid (hd.below ((Below.refl _ _).alloc (Nat.le_refl _) (.cells #[.int .u8 98] 5 (1, 2))))
  have HL3 := Lib.hid (bt_lit w3 [98] 5 (1, 2) (by simp))
  clear hd hf HB2 HD2
  go_wp2_with fail
  refine (append_any _ p v2 (frm [97]) _ _ [98] _ HD3.out (by rw [ex7]; decide) HL3.out (by simp) (by simp)).mono ?_
  rintro e w4 ⟨he, v4, hd, hf⟩
  subst he
  have HB4 := Lib.hid (HB3.out.trans (HD3.out.foot hf))
  have HD4 := Lib.hid hd
  clear hd hf HB3 HD3 HL3
  go_wp2_with fail
  refine (dirty_any _ p v4 (frm [97] ++ frm [98]) _ _ HD4.out (by rw [ex1]; decide) (by rw [ex1]; decide)).mono ?_
  rw [ex1]
  rintro e w5 ⟨he, hb⟩
  subst he
  have HD5 := Lib.hid (HD4.out.below hb)
  have HB5 := Lib.hid (HB4.out.trans (hb.mono HD4.out.up))
  clear hb HD4 HB4
  go_wp2_with fail
  refine (crash_any _ p v4 (frm [97] ++ frm [98]) _ 8 _ HD5.out (by rw [ex1]; decide) (by rw [ex1]; decide)).mono ?_
  rw [ex1]
  rintro e w6 ⟨he, v6, hv, hd, hf⟩
  subst he
  have hd' : DAt w6 w.heap.size p v6 ((frm [97] ++ frm [98]).take 17) ((frm [97] ++ frm [98]).take 17).length := hd
  rw [ex3] at hd'
  have HD6 := Lib.hid hd'
  have HB6 := Lib.hid (HB5.out.trans (HD5.out.foot hf))
  clear hd hd' hf hv HD5 HB5
  go_wp2_with fail
  refine (open_any _ p v6 ((frm [97] ++ frm [98]).take 17) _ _ HD6.out (by rw [ex3]; decide) ex6).mono ?_
  rintro e w7 ⟨lv, v7, he, hr, hv, hd, hf⟩
  subst he
  rw [ex2] at hr
  have hr := hr.row
  rw [ex2, ex4] at hd
  have HB7 := Lib.hid (HB6.out.trans (HD6.out.foot hf))
  have HD7 := Lib.hid hd
  have HR7 := Lib.hid hr
  obtain ⟨al, cl, rfl⟩ := hr.row
  obtain ⟨g5, xv, rfl, hc5, kx, kx2⟩ := body_cell hr (Below.refl _ _) 0 (by simp) ⟨#[97]⟩ rfl
  clear hd hf hv hr HD6 HB6
  have hl1 : ([[97]] : List (List Int)).length = 1 := rfl
  go_wp2_with fail
  refine (dbytes_any _ p v7 (((frm [97] ++ frm [98]).take 17).take 9) _ _ HD7.out (by rw [ex5]; decide)).mono ?_
  rintro e w8 ⟨v8, he, ho, hb⟩
  subst he
  obtain ⟨a8, c8, e8⟩ := ho.slice
  rw [ex5] at e8
  subst e8
  have HD8 := Lib.hid (HD7.out.below hb)
  have HB8 := Lib.hid (HB7.out.trans (hb.mono HD7.out.up))
  clear ho hb HD7 HB7 hc5 kx kx2
  go_wp2_with fail
  refine (dirty_any _ p v7 (((frm [97] ++ frm [98]).take 17).take 9) _ _ HD8.out (by rw [ex5]; decide) (by rw [ex5]; decide)).mono ?_
  rw [ex5]
  rintro e w9 ⟨he, hb⟩
  subst he
  have HB9 := Lib.hid (HB8.out.trans (hb.mono HD8.out.up))
  clear hb
  go_wp2
  go_ret
  exact ⟨rfl, HB9.out⟩
end Go.Proofs.Ytfobdkhmffphmaa
