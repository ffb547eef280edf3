/-
  The walk of FrameTurned.
-/
import Derived.Test.YtcieilbnlbielaaFrmF
namespace Go.Proofs.Ytcieilbnlbielaa
open Go.RowKit
set_option linter.unusedSimpArgs false
set_option linter.unusedVariables false

/-- A cell of an own row of bytes, written. -/
theorem Own8.set {w : World} {base g n cap : Nat} {xs : List Int} (h : Own8 w base (.slice (some ⟨g, 0, none⟩) n cap) xs) (k : Nat) (hk : k < xs.length) (x : Int) :
    Own8 (w.setCell ⟨g, k, none⟩ (.int .u8 x)) base (.slice (some ⟨g, 0, none⟩) n cap) (xs.set k x) := by
  obtain ⟨h1, h | ⟨g', cap', cur, e, hg, hh, hn, hmx, hs, hx⟩⟩ := h
  · cases h.1
  simp only [Value.slice.injEq, Option.some.injEq, Addr.mk.injEq] at e
  obtain ⟨⟨rfl, _, _⟩, rfl, rfl⟩ := e
  refine ⟨by simp, .inr ⟨g, cap, cur.setIfInBounds k (.int .u8 x), by simp, hg, ?_, by simpa using hn, hmx, by simpa using hs, ?_⟩⟩
  · have hgl : g < w.heap.size := (Array.getElem?_eq_some_iff.1 hh).1
    have hh2 : w.heap[g] = .cells cur 5 (0, 0) := by rw [Array.getElem?_eq_getElem hgl] at hh; exact Option.some.inj hh
    simp [World.setCell, hh, hgl, Array.getElem_modify, hh2]
  · rw [Array.toList_setIfInBounds, List.length_set, List.take_set, hx]
    simp [u8v, List.map_set]
theorem own8_block {w : World} {base : Nat} {v : Value} {xs : List Int} (h : Own8 w base v xs) (hk : 0 < xs.length) : ∃ g cap, v = .slice (some ⟨g, 0, none⟩) xs.length cap ∧ base ≤ g ∧ g < w.heap.size := by
  rcases h.2 with ⟨rfl, h0⟩ | ⟨g, cap, cur, e, hg, hh, _⟩
  · omega
  · exact ⟨g, cap, e, hg, (Array.getElem?_eq_some_iff.1 hh).1⟩
theorem own8_thaw {w : World} {base g n cap k : Nat} {xs : List Int} (h : Own8 w base (.slice (some ⟨g, 0, none⟩) n cap) xs) : w.frozen? ⟨g, k, none⟩ = false := by
  obtain ⟨h1, h | ⟨g', cap', cur, e, hg, hh, hn, hmx, hs, hx⟩⟩ := h
  · cases h.1
  simp only [Value.slice.injEq, Option.some.injEq, Addr.mk.injEq] at e
  obtain ⟨⟨rfl, _, _⟩, rfl, rfl⟩ := e
  simp [World.frozen?, hh]
theorem nat_bytes {l : List Int} (h : ∀ x ∈ l, 0 ≤ x ∧ x ≤ 255) : ∀ c ∈ l.map Int.toNat, c < 256 := by
  intro c hc
  simp only [List.mem_map] at hc
  obtain ⟨z, hz, rfl⟩ := hc
  have := h z hz
  omega
theorem xor_turned {y n x : Int} (hy : 0 ≤ y ∧ y ≤ 255) (hn : 0 ≤ n ∧ n ≤ 255) (h : bits BinOp.xor IntKind.u8 y n = x) : 0 ≤ x ∧ x ≤ 255 ∧ (x = y ↔ n = 0) := by
  rw [u8_xor _ _ (by omega) (by omega) (by omega) (by omega)] at h
  have lt := Nat.xor_lt_two_pow (n := 8) (x := y.toNat) (y := n.toNat) (by omega) (by omega)
  refine ⟨by omega, by omega, ?_⟩
  constructor
  · intro e
    have e2 : y.toNat ^^^ n.toNat = y.toNat ^^^ 0 := by rw [Nat.xor_zero]; omega
    have := xor_inj_l.1 e2
    omega
  · rintro rfl
    rw [show (0 : Int).toNat = 0 from rfl, Nat.xor_zero] at h
    omega
theorem sum_set {xs : List Int} {k : Nat} {x : Int} (h : ∀ x ∈ xs, 0 ≤ x ∧ x ≤ 255) (hk : k < xs.length) (hx : 0 ≤ x ∧ x ≤ 255) (hne : x ≠ xs.getD k 0) : sumN 0 (xs.set k x) ≠ sumN 0 xs := by
  have hy := getD_range h k
  have e1 : xs = xs.take k ++ [xs.getD k 0] ++ xs.drop (k + 1) := by
    have e : xs.getD k 0 = xs[k] := by simp [List.getD, hk]
    rw [e]; simp
  have e2 : xs.set k x = xs.take k ++ [x] ++ xs.drop (k + 1) := by
    rw [List.set_eq_take_append_cons_drop, if_pos hk]; simp
  have hp : ∀ z ∈ xs.take k, 0 ≤ z ∧ z ≤ 255 := fun z q => h z (List.mem_of_mem_take q)
  have hq : ∀ z ∈ xs.drop (k + 1), 0 ≤ z ∧ z ≤ 255 := fun z q => h z (List.mem_of_mem_drop q)
  have la := mor_lt ((xs.set k x).map Int.toNat) 4294967295 (by omega) (nat_bytes (by
    intro z q
    rcases List.mem_or_eq_of_mem_set q with q | q
    · exact h z q
    · rw [q]; exact hx))
  have lb := mor_lt (xs.map Int.toNat) 4294967295 (by omega) (nat_bytes h)
  have key : mor 4294967295 ((xs.set k x).map Int.toNat) = mor 4294967295 (xs.map Int.toNat) ↔ x.toNat = (xs.getD k 0).toNat := by
    rw [e2]
    conv => lhs; rhs; rw [e1]
    simp only [List.map_append, List.map_cons, List.map_nil]
    exact mor_turned _ _ _ x.toNat (xs.getD k 0).toNat (by decide) (nat_bytes hp) (nat_bytes hq) (by omega) (by omega)
  intro e
  unfold sumN at e
  simp only [Nat.sub_zero] at e
  have := key.1 (by omega)
  omega
theorem frm_turned (xs : List Int) (k : Nat) (x : Int) (h : ∀ x ∈ xs, 0 ≤ x ∧ x ≤ 255) (hl : xs.length ≤ 500) (h4 : 4 ≤ k) (hk : k < xs.length + 8) (hx : 0 ≤ x ∧ x ≤ 255) (hne : x ≠ (frm xs).getD k 0) :
    tkN ((frm xs).set k x) = ([], 0, 12) := by
  have hfl := f4_range (sumN_lt 0 xs)
  have e : (frm xs).set k x = f4 xs.length ++ (f4 (sumN 0 xs) ++ xs).set (k - 4) x := by
    unfold frm
    rw [List.append_assoc, List.set_append_right _ _ (by simp [f4]; omega)]
    simp [f4]
  have hd : dec4 ((frm xs).set k x) = xs.length := by rw [e]; exact dec4_f4 _ _ (by omega)
  have hlen : ((frm xs).set k x).length = xs.length + 8 := by rw [List.length_set, frm_length]
  have hdr : ((frm xs).set k x).drop 4 = (f4 (sumN 0 xs) ++ xs).set (k - 4) x := by rw [e]; simp [f4]
  have hdr8 : ((frm xs).set k x).drop 8 = ((f4 (sumN 0 xs) ++ xs).set (k - 4) x).drop 4 := by rw [← hdr, List.drop_drop]
  unfold tkN tkG
  rw [hd]
  rw [if_neg (by omega), if_neg (by omega), if_neg (by omega), if_pos]
  rw [List.take_of_length_le (by omega), hdr8, hdr]
  by_cases c : k < 8
  · have e1 : (f4 (sumN 0 xs) ++ xs).set (k - 4) x = (f4 (sumN 0 xs)).set (k - 4) x ++ xs := List.set_append_left _ _ (by simp [f4]; omega)
    rw [e1]
    have e2 : ((f4 (sumN 0 xs)).set (k - 4) x ++ xs).drop 4 = xs := by
      rw [List.drop_append_of_le_length (by simp [f4]), List.drop_of_length_le (by simp [f4])]; rfl
    rw [e2]
    intro q
    have r : ∀ z ∈ (f4 (sumN 0 xs)).set (k - 4) x ++ xs, 0 ≤ z ∧ z ≤ 255 := by
      intro z hz
      rcases List.mem_append.1 hz with hz | hz
      · rcases List.mem_or_eq_of_mem_set hz with hz | hz
        · exact hfl z hz
        · rw [hz]; exact hx
      · exact h z hz
    have r2 := f4_dec4 r (by simp [f4])
    rw [← q, List.take_append_of_le_length (by simp [f4]), List.take_of_length_le (by simp [f4])] at r2
    have r3 : (f4 (sumN 0 xs)).getD (k - 4) 0 = x := by
      rw [r2]
      have : k - 4 < 4 := by omega
      simp [List.getD, f4, List.getElem?_set, this]
    apply hne
    rw [← r3]
    unfold frm
    simp only [List.getD]
    rw [List.append_assoc, List.getElem?_append_right (by simp [f4]; omega), List.getElem?_append_left (by simp [f4]; omega)]
    rfl
  · have e1 : (f4 (sumN 0 xs) ++ xs).set (k - 4) x = f4 (sumN 0 xs) ++ xs.set (k - 8) x := by
      rw [List.set_append_right _ _ (by simp [f4]; omega)]
      simp [f4, show k - 4 - 4 = k - 8 by omega]
    rw [e1, dec4_f4 _ _ (sumN_lt 0 xs)]
    have e2 : (f4 (sumN 0 xs) ++ xs.set (k - 8) x).drop 4 = xs.set (k - 8) x := by simp [f4]
    rw [e2]
    refine sum_set h (by omega) hx ?_
    intro q
    apply hne
    rw [q]
    unfold frm
    simp only [List.getD]
    rw [List.append_assoc, List.getElem?_append_right (by simp [f4]; omega), List.getElem?_append_right (by simp [f4]; omega)]
    simp [f4, show k - 4 - 4 = k - 8 by omega]
theorem u8_wf' {x : Int} (h : (Lit.int .u8 x).wf = true) : 0 ≤ x ∧ x ≤ 255 := by
  simpa [Lit.wf, IntKind.min, IntKind.max, IntKind.signed, IntKind.bits] using h
set_option maxRecDepth 100000 in
set_option maxHeartbeats 8000000 in
theorem turned_in (b : ByteArray) (k : Nat) (n : Int) (w : World) (hb : b.size ≤ 500) (h4 : 4 ≤ k) (hk : k < b.size + 8) (hn : 0 ≤ n ∧ n ≤ 255) (hn0 : n ≠ 0) :
    Calls Try.prog 6 #[.string b, .int .i64 k, .int .u8 n] w fun e w' => e = .returned (.bool true) ∧ Below w.heap.size w w' := by
  have t1 : decide ((500 : Int) < b.size) = false := by simp; omega
  have t2 : decide ((k : Int) < 4) = false := by simp; omega
  have t3 : decide ((b.size : Int) + 8 ≤ (k : Int)) = false := by simp; omega
  have t4 : (n == 0) = false := by simpa using hn0
  have z1 : b.size ≤ 9223372036854775807 := by omega
  have z2 : IntKind.i64.wrap ((b.size : Int) + 8) = (b.size : Int) + 8 := IntWalk.i64_in _ (by omega)
  have hbl : (byt b).length = b.size := byt_length b
  have hfl : (frm (byt b)).length = b.size + 8 := by rw [frm_length, byt_length]
  have hr := frm_range (byt_range b) (by rw [byt_length]; omega)
  have hy := getD_range hr k
  obtain ⟨y, hy1⟩ : ∃ y, (frm (byt b)).getD k 0 = y := ⟨_, rfl⟩
  rw [hy1] at hy
  obtain ⟨x, hx⟩ : ∃ x, bits BinOp.xor IntKind.u8 y n = x := ⟨_, rfl⟩
  have hx2 := xor_turned hy hn hx
  have hx3 : 0 ≤ x ∧ x ≤ 255 := ⟨hx2.1, hx2.2.1⟩
  have htk := frm_turned (byt b) k x (byt_range b) (by omega) h4 (by omega) hx3 (fun q => hn0 (hx2.2.2.1 (by rw [q, hy1])))
  have hsr : ∀ z ∈ (frm (byt b)).set k x, 0 ≤ z ∧ z ≤ 255 := by
    intro z hz
    rcases List.mem_or_eq_of_mem_set hz with hz | hz
    · exact hr z hz
    · rw [hz]; exact hx3
  have hsl : ((frm (byt b)).set k x).length = b.size + 8 := by rw [List.length_set, hfl]
  have HTK := Lib.hid htk
  have HSR := Lib.hid hsr
  have HR := Lib.hid hr
  have HSL := Lib.hid hsl
  have HFL := Lib.hid hfl
  have HY := Lib.hid hy1
  have HX := Lib.hid hx
  have hp16 : (byt b).length ≤ 16777215 := Nat.le_trans (Nat.le_of_eq hbl) (Nat.le_trans hb (by decide))
  have HP16 := Lib.hid hp16
  clear htk hsr hsl hx2 hr hfl hy1 hx hp16
  go_enter Try.func6, Try.ntmps6
  go_wp2_with fail
  refine (works_any _).mono ?_
  rintro e w1 ⟨rfl, hb1⟩
  have HB1 := Lib.hid hb1
  clear hb1
  go_wp2_with (refine wpList_bytes_g (o := ⟨some 38, _, _, _, _, _⟩) rfl 9 23 _ rfl 5 Try.underlying9 Try.underlying23 Try.underlying5 _ rfl z1 ?_)
  intro v2 w2 ht2 hz2 hb2
  have HT2 := Lib.hid ht2
  have HB2 : Hid (Below w.heap.size w w2) := below_self HB1.out hb2
  clear ht2 hb2 HB1
  go_wp2_with fail
  refine (put_good _ (byt b) _ HT2.out (byt_range b) HP16.out).mono ?_
  rintro e w4 ⟨vf, he4, ht4, hb4⟩
  rw [he4.out]
  have HT := Lib.hid ht4
  have HB : Hid (Below w.heap.size w w4) := below_self HB2.out hb4
  obtain ⟨a4, c4, hv4, _, _⟩ := ht4.row
  rw [HFL.out] at hv4
  subst hv4
  clear he4 ht4 hb4 HB2 HT2
  go_wp2_with (refine wpList_app (o := ⟨some 54, _, _, _, _, _⟩) rfl _ _ rfl w4.heap.size _ [] rfl (own8_empty w4 _ (Nat.le_refl _)) _ (frm (byt b)) rfl (HT.out.below ((Below.refl _ _).alloc (Nat.le_refl _) _)) (by rw [HFL.out]; simp; omega) (by simp) ?_)
  intro v5 w5 ho5 hb5 hz5
  have ho5' : Own8 w5 w4.heap.size v5 (frm (byt b)) := ho5
  obtain ⟨g5, c5, hv5, hg5, hg5'⟩ := own8_block ho5' (by rw [HFL.out]; omega)
  rw [HFL.out] at hv5
  subst hv5
  have hbt5 := ho5'.bt (by rw [HFL.out]; omega)
  obtain ⟨aa, cc, ee, hr5, _⟩ := hbt5.row
  simp only [Value.slice.injEq] at ee
  obtain ⟨rfl, hq5, rfl⟩ := ee
  clear hq5
  obtain ⟨gg, off, e1, _, hcell⟩ := bt_cell hr5 (k := k) (by rw [HFL.out]; omega)
  simp only [Option.some.injEq, Addr.mk.injEq] at e1
  obtain ⟨rfl, rfl, _⟩ := e1
  rw [HY.out, Nat.zero_add] at hcell
  have hcellk : w5.cell? ⟨g5, k, none⟩ = some (.int .u8 y) := hcell
  have hthaw := own8_thaw (k := k) ho5'
  have hset := Own8.set ho5' k (by rw [HFL.out]; omega) x
  have HO := Lib.hid hset
  have hb5' : Below w4.heap.size w4 (w5.setCell ⟨g5, k, none⟩ (.int .u8 x)) := (((Below.refl _ w4).alloc (Nat.le_refl _) _).trans hb5).setCell (p := ⟨g5, k, none⟩) hg5 _
  have HB5 : Hid (Below w.heap.size w (w5.setCell ⟨g5, k, none⟩ (.int .u8 x))) := below_self HB.out hb5'
  have hk' : (k : Int) < (b.size : Int) + 8 := by omega
  have hk0 : (0 : Int) ≤ (k : Int) := by omega
  clear ho5 hb5 hz5 ho5' hbt5 hr5 hcell hset hb5' HB HT
  go_wp2_with fail
  rw [HX.out]
  refine (take_any _ ((frm (byt b)).set k x) _ (by have := HO.out.bt (by rw [HSL.out]; omega); exact this) HSR.out (by rw [HSL.out]; omega)).mono ?_
  rw [HTK.out]
  rintro e w6 ⟨v6, he6, ho6, hb6⟩
  rw [he6.out]
  have ho6' : Own8 w6 _ v6 [] := ho6
  obtain ⟨a6, c6, rfl, _, _⟩ := (ho6'.bt (by simp)).row
  have HB6 : Hid (Below w.heap.size w w6) := below_self HB5.out hb6
  clear he6 ho6 ho6' hb6 HB5 HO HTK HSR
  go_wp2
  go_ret
  exact ⟨rfl, HB6.out⟩
theorem turned_law (b : ByteArray) (at1 by1 : Int) (w : World) (hb : b.size ≤ maxLen) (ha : (Lit.int .i64 at1).wf = true) (hy : (Lit.int .u8 by1).wf = true) :
    Calls Try.prog 6 #[.string b, .int .i64 at1, .int .u8 by1] w fun e w' => e = .returned (.bool true) ∧ Below w.heap.size w w' := by
  have hy := u8_wf' hy
  unfold maxLen at hb
  by_cases h1 : (500 : Int) < b.size
  · have t1 : decide ((500 : Int) < b.size) = true := by simpa using h1
    go_enter Try.func6, Try.ntmps6
    go_wp2_with (go_at_call 9; refine (works_any _).mono ?_; rintro e w1 ⟨rfl, hb1⟩)
    go_ret
    exact ⟨rfl, hb1⟩
  have t1 : decide ((500 : Int) < b.size) = false := by simpa using h1
  have z2 : IntKind.i64.wrap ((b.size : Int) + 8) = (b.size : Int) + 8 := IntWalk.i64_in _ (by omega)
  by_cases h2 : at1 < 4
  · have t2 : decide (at1 < 4) = true := by simpa using h2
    go_enter Try.func6, Try.ntmps6
    go_wp2_with (go_at_call 9; refine (works_any _).mono ?_; rintro e w1 ⟨rfl, hb1⟩)
    go_ret
    exact ⟨rfl, hb1⟩
  have t2 : decide (at1 < 4) = false := by simpa using h2
  by_cases h3 : (b.size : Int) + 8 ≤ at1
  · have t3 : decide ((b.size : Int) + 8 ≤ at1) = true := by simpa using h3
    go_enter Try.func6, Try.ntmps6
    go_wp2_with (go_at_call 9; refine (works_any _).mono ?_; rintro e w1 ⟨rfl, hb1⟩)
    go_ret
    exact ⟨rfl, hb1⟩
  have t3 : decide ((b.size : Int) + 8 ≤ at1) = false := by simpa using h3
  by_cases h4 : by1 = 0
  · subst h4
    go_enter Try.func6, Try.ntmps6
    go_wp2_with (go_at_call 9; refine (works_any _).mono ?_; rintro e w1 ⟨rfl, hb1⟩)
    go_ret
    exact ⟨rfl, hb1⟩
  obtain ⟨k, rfl⟩ := Int.eq_ofNat_of_zero_le (show 0 ≤ at1 by omega)
  exact turned_in b k by1 w (by omega) (by omega) (by omega) hy h4
end Go.Proofs.Ytcieilbnlbielaa
