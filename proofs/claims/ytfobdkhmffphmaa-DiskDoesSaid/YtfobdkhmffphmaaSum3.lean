/-
  The walks of package sum's sums, and of the document's.
-/
import Derived.Test.YtfobdkhmffphmaaSum2
namespace Go.Proofs.Ytfobdkhmffphmaa
open Go.RowKit
set_option linter.unusedSimpArgs false
set_option linter.unusedVariables false

/-- The sum of bytes behind a sum. -/
def sumN (s : Nat) (xs : List Int) : Nat := 4294967295 - mor (4294967295 - s) (xs.map Int.toNat)
theorem sumN_lt (s : Nat) (xs : List Int) : sumN s xs < 4294967296 := by unfold sumN; omega
theorem not_u32 (y : Nat) (h : y < 4294967296) : bits BinOp.xor IntKind.u32 IntKind.u32.max (y : Int) = ((4294967295 - y : Nat) : Int) := by
  have := xor32 4294967295 y (by decide) h
  rw [not32 y h] at this
  exact this
theorem xor8 (a b : Nat) (ha : a < 256) (hb : b < 256) : bits BinOp.xor IntKind.u8 (a : Int) (b : Int) = ((a ^^^ b : Nat) : Int) := u8_xor_nat a b ha hb
theorem mor_step {y c : Nat} {l : List Nat} {n : Nat} (h : mor y (c :: l) = n) (hc : c < 256) : mor (y / 256 ^^^ stp (y % 256 ^^^ c)) l = n := by
  rw [← stp_table y c hc]; exact h
theorem drop_step {xs : List Int} {k : Nat} (h : k < xs.length) : (xs.map Int.toNat).drop k = (xs.getD k 0).toNat :: (xs.map Int.toNat).drop (k + 1) := by
  rw [List.drop_eq_getElem_cons (by simpa using h)]
  simp [List.getD, h]
theorem bt_cell {w : World} {a : Option Addr} {xs : List Int} {k : Nat} (h : BRd w a xs) (hk : k < xs.length) : ∃ g off, a = some ⟨g, off, none⟩ ∧ g < w.heap.size ∧ w.cell? ⟨g, off + k, none⟩ = some (.int .u8 (xs.getD k 0)) := by
  rcases h.2 with h0 | ⟨g, off, ha, hg, hc⟩
  · subst h0; simp at hk
  · exact ⟨g, off, ha, hg, hc k hk⟩
theorem getD_range {xs : List Int} (hx : ∀ x ∈ xs, 0 ≤ x ∧ x ≤ 255) (k : Nat) : 0 ≤ xs.getD k 0 ∧ xs.getD k 0 ≤ 255 := by
  by_cases h : k < xs.length
  · have := hx (xs[k]) (List.getElem_mem h)
    simpa [List.getD, h] using this
  · simp [List.getD, h]

set_option maxRecDepth 100000 in
set_option maxHeartbeats 3200000 in
theorem summore_any (s : Nat) (v : Value) (xs : List Int) (w : World) (hs : s < 4294967296) (hb : Bt w v xs) (hx : ∀ x ∈ xs, 0 ≤ x ∧ x ≤ 255) :
    Calls Try.prog 34 #[.int .u32 s, v] w fun e w' => e = .returned (.int .u32 (sumN s xs)) ∧ Below w.heap.size w w' := by
  have HI := Lib.hid (tab_info2 256)
  have hns := not_u32 s hs
  have HNS := Lib.hid hns
  clear hns
  obtain ⟨a, cap, rfl, hr, hf⟩ := hb.row
  have HR := Lib.hid hr
  have HX := Lib.hid hx
  have HK := Lib.hid (tabN_one 256)
  have hlen := hr.1
  clear hb hr hf hx
  go_enter Try.func34, Try.ntmps34
  go_wp2_with (first
    | (go_at_call 37; refine (table_any _).mono ?_; rintro e w1 ⟨he, hb1⟩; rw [he.out]; have HB1 := Lib.hid hb1; clear hb1 he)
    | (refine wpList_alloc_new (o := ⟨some 5, _, _, _, _, _⟩) rfl 75 rfl _ tab_zero ?_; rw [tab_zero2]; intro w2 hc2 hs2 hb2; have HC2 := Lib.hid hc2; have HB2 := Lib.hid hb2; clear hc2 hb2)
    | (refine wpList_store_row rfl 75 _ _ rfl w1.heap.size rfl (tabN 256) rfl (tabN 0) 75 HC2.out HI.out (by rw [tabN_size, tabN_size]) HK.out ?_; obtain ⟨w3, hw3⟩ : ∃ w3, w2.setRow w1.heap.size (tabN 256) = w3 := ⟨_, rfl⟩; rw [hw3]; have HW3 := Lib.hid hw3; clear hw3))
  have hC : w3.heap[w1.heap.size]? = some (.cells (tabN 256) 75 (0, 0)) := by rw [← HW3.out]; exact heap_setRow_same _ _ _ _ _ HC2.out
  have hB : Below w.heap.size w w3 := by
    rw [← HW3.out]
    exact below_setRow (HB1.out.trans (HB2.out.mono HB1.out.size)) HB1.out.size _
  have hR3 : BRd w3 a xs := HR.out.below hB
  have HC := Lib.hid hC
  have HB := Lib.hid hB
  have HR3 := Lib.hid hR3
  clear hC hB hR3 HC2 HB1 HB2 HR HW3 HK HI
  rw [HNS.out]
  go_loop [6, 14] (fun x c => ∃ k y : Nat, k ≤ xs.length ∧ y < 4294967296 ∧ x = .int .u32 y ∧ c = .int .i64 k ∧ Hid (mor y ((xs.map Int.toNat).drop k) = mor (4294967295 - s) (xs.map Int.toNat))) (fun _ c => xs.length - (intOf c).toNat)
  case atStart => exact ⟨0, 4294967295 - s, by omega, by omega, rfl, rfl, rfl⟩
  case round =>
    obtain ⟨k, y, hk, hy, rfl, rfl, hH⟩ := hrel
    by_cases hlt : k < xs.length
    · have hcr := getD_range HX.out k
      obtain ⟨c, hc⟩ : ∃ c : Nat, xs.getD k 0 = (c : Int) := ⟨(xs.getD k 0).toNat, by omega⟩
      have hc256 : c < 256 := by omega
      have hst := hH.out
      rw [drop_step hlt, hc, Int.toNat_natCast] at hst
      have hst2 := mor_step hst hc256
      obtain ⟨g, off, rfl, hg, hcell⟩ := bt_cell HR3.out hlt
      rw [hc] at hcell
      have hx8 := xor8 (y % 256) c (by omega) hc256
      have hn256 : y % 256 ^^^ c < 256 := Nat.xor_lt_two_pow (n := 8) (by omega) hc256
      have hsl : stp (y % 256 ^^^ c) < 4294967296 := stp_lt (by omega)
      have hx32 := xor32 (y / 256) (stp (y % 256 ^^^ c)) (by omega) hsl
      have hy2 : y / 256 ^^^ stp (y % 256 ^^^ c) < 4294967296 := Nat.xor_lt_two_pow (n := 32) (by omega) hsl
      obtain ⟨n, hn⟩ : ∃ n, y % 256 ^^^ c = n := ⟨_, rfl⟩
      rw [hn] at hx8 hn256 hsl hx32 hy2 hst2
      have hcell2 := cell_of_row w3 w1.heap.size n _ _ _ HC.out
      rw [tabN_get 256 n hn256, if_pos hn256] at hcell2
      have HY := Lib.hid hst2
      rw [show ((y % 256 : Nat) : Int) = (y : Int) % 256 from rfl] at hx8
      rw [show ((y / 256 : Nat) : Int) = (y : Int) / 256 from rfl] at hx32
      clear hst hst2 hn hc hcr
      go_wp2
      go_round
      case rel => exact ⟨k + 1, y / 256 ^^^ stp n, by omega, hy2, rfl, by go_num, HY.out⟩
      case measure => simp [intOf]; omega
    · have e : y = mor (4294967295 - s) (xs.map Int.toNat) := by
        have := hH.out
        rw [List.drop_of_length_le (by simp; omega)] at this
        exact this
      have hny := not_u32 y hy
      have HNY := Lib.hid hny
      have E := Lib.hid e
      clear hny e
      go_wp2
      go_ret
      refine ⟨?_, HB.out⟩
      rw [HNY.out, E.out]
      rfl
set_option maxHeartbeats 1600000 in
theorem sumof_any (v : Value) (xs : List Int) (w : World) (hb : Bt w v xs) (hx : ∀ x ∈ xs, 0 ≤ x ∧ x ≤ 255) :
    Calls Try.prog 28 #[v] w fun e w' => e = .returned (.int .u32 (sumN 0 xs)) ∧ Below w.heap.size w w' := by
  have HB := Lib.hid hb
  have HX := Lib.hid hx
  clear hb hx
  go_enter Try.func28, Try.ntmps28
  go_wp2_with (go_at_call 34; refine (summore_any 0 _ _ _ (by decide) HB.out HX.out).mono ?_; rintro e w1 ⟨rfl, hb1⟩)
  go_ret
  exact ⟨rfl, hb1⟩
theorem byt_get (s : ByteArray) (k : Nat) (h : k < s.size) : (byt s).getD k 0 = (s[k].toNat : Int) := by
  have h2 : k < s.data.size := h
  have e1 : s.data[k]? = some s.data[k] := by simp [h2]
  simp [byt, List.getD, e1]
  rfl
set_option maxRecDepth 100000 in
set_option maxHeartbeats 3200000 in
theorem rmore_any (s : Nat) (b : ByteArray) (w : World) (hs : s < 4294967296) (hl : b.size ≤ 9223372036854775807) :
    Calls Try.prog 30 #[.int .u32 s, .string b] w fun e w' => e = .returned (.int .u32 (sumN s (byt b))) ∧ w = w' := by
  have hns : (4294967295 : Int) - (s : Int) = ((4294967295 - s : Nat) : Int) := by omega
  have HNS := Lib.hid hns
  clear hns
  go_enter Try.func30, Try.ntmps30
  go_wp2
  rw [HNS.out]
  go_loop [5, 6] (fun x c => ∃ k y : Nat, k ≤ b.size ∧ y < 4294967296 ∧ x = .int .u32 y ∧ c = .int .i64 k ∧ Hid (mor y (((byt b).map Int.toNat).drop k) = mor (4294967295 - s) ((byt b).map Int.toNat))) (fun _ c => b.size - (intOf c).toNat)
  case atStart => exact ⟨0, 4294967295 - s, by omega, by omega, rfl, rfl, rfl⟩
  case round =>
    obtain ⟨k, y, hk, hy, rfl, rfl, hH⟩ := hrel
    by_cases hlt : k < b.size
    · have hst := hH.out
      rw [drop_step (by rw [byt_length]; exact hlt), byt_get b k hlt, Int.toNat_natCast] at hst
      have hc256 : b[k].toNat < 256 := b[k].toNat_lt
      have hx32 := xor32 y b[k].toNat hy (by omega)
      have hyl : y ^^^ b[k].toNat < 4294967296 := Nat.xor_lt_two_pow (n := 32) hy (by omega)
      have hmod : ((b[k].toNat : Nat) : Int) % 4294967296 = (b[k].toNat : Int) := by omega
      have HST := Lib.hid hst
      clear hst
      have hsl := stp_lt hyl
      have HX := Lib.hid hx32
      clear hx32
      go_wp2_with (go_at_call 35; rw [HX.out]; refine (rstep_any _ _ hyl).mono ?_; rintro e w3 ⟨rfl, rfl⟩)
      go_round
      case rel => exact ⟨k + 1, stp (y ^^^ b[k].toNat), by omega, hsl, rfl, by go_num, HST.out⟩
      case measure => simp [intOf]; omega
    · have e : y = mor (4294967295 - s) ((byt b).map Int.toNat) := by
        have := hH.out
        rw [List.drop_of_length_le (by simp [byt_length]; omega)] at this
        exact this
      have E := Lib.hid e
      clear e
      go_wp2
      go_ret
      refine ⟨?_, rfl⟩
      refine ret_int ?_
      unfold sumN
      rw [← E.out]
      omega
end Go.Proofs.Ytfobdkhmffphmaa
