/-
  The walk of SumTurned.
-/
import Derived.Test.YtofcpjjhchlcmaaSumP
import Derived.RegionTactic
import Derived.ChangeAlike
import Derived.BigRegion
namespace Go.Proofs.Ytofcpjjhchlcmaa
open Go.RowKit
set_option linter.unusedSimpArgs false
set_option linter.unusedVariables false

theorem text_one_drew (w : World) (x : Int) (h : 0 ≤ x ∧ x ≤ 255) (fr : Nat × Nat) : (convert 27 9 (.slice (some ⟨w.heap.size, 0, none⟩) 1 1)).run Try.prog (w.alloc (.cells #[.int .u8 x] 5 fr)).drew = .ok (.string (txt [x])) (w.alloc (.cells #[.int .u8 x] 5 fr)).drew := by
  obtain ⟨a, cap, e, h1, h2⟩ := (bt_lit w [x] 5 fr (by simp)).row
  cases e
  have h3 : BRd (w.alloc (.cells #[.int .u8 x] 5 fr)).drew (some ⟨w.heap.size, 0, none⟩) [x] := h1
  exact run_text (xs := [x]) h3 h2 Try.underlying27 Try.underlying5 Try.underlying9
theorem byt_extract (b : ByteArray) (i j : Nat) : byt (b.extract i j) = ((byt b).take j).drop i := by
  simp only [byt, ByteArray.data_extract, Array.toList_extract, List.extract_eq_take_drop, List.map_take, List.map_drop]
  rw [List.drop_take]
theorem byt_cut (b : ByteArray) (k : Nat) (h : k < b.size) : byt b = (byt b).take k ++ [(b[k].toNat : Int)] ++ (byt b).drop (k + 1) := by
  have hl : k < (byt b).length := by rw [byt_length]; exact h
  have e : (byt b)[k] = (b[k].toNat : Int) := by
    have := byt_get b k h
    simpa [List.getD, hl] using this
  rw [← e]
  simp
theorem nat_bytes {l : List Int} (h : ∀ x ∈ l, 0 ≤ x ∧ x ≤ 255) : ∀ c ∈ l.map Int.toNat, c < 256 := by
  intro c hc
  simp only [List.mem_map] at hc
  obtain ⟨z, hz, rfl⟩ := hc
  have := h z hz
  omega
/-- Sums are alike just where what they come of is. -/
theorem sumN_eq (s : Nat) (a b : List Int) (hs : s < 4294967296) (ha : ∀ x ∈ a, 0 ≤ x ∧ x ≤ 255) (hb : ∀ x ∈ b, 0 ≤ x ∧ x ≤ 255) (R : Prop) [Decidable R]
    (h : mor (4294967295 - s) (a.map Int.toNat) = mor (4294967295 - s) (b.map Int.toNat) ↔ R) : (((sumN s a : Nat) : Int) == ((sumN s b : Nat) : Int)) = decide R := by
  have la := mor_lt (a.map Int.toNat) (4294967295 - s) (by omega) (nat_bytes ha)
  have lb := mor_lt (b.map Int.toNat) (4294967295 - s) (by omega) (nat_bytes hb)
  unfold sumN
  generalize mor (4294967295 - s) (a.map Int.toNat) = p at h la
  generalize mor (4294967295 - s) (b.map Int.toNat) = q at h lb
  rw [Bool.eq_iff_iff]
  simp only [beq_iff_eq, decide_eq_true_eq]
  constructor
  · intro e; exact h.1 (by omega)
  · intro r; have := h.2 r; omega
theorem mem3 {p q : List Int} {x : Int} (hp : ∀ x ∈ p, 0 ≤ x ∧ x ≤ 255) (hq : ∀ x ∈ q, 0 ≤ x ∧ x ≤ 255) (hx : 0 ≤ x ∧ x ≤ 255) : ∀ z ∈ p ++ [x] ++ q, 0 ≤ z ∧ z ≤ 255 := by
  intro z hz
  simp only [List.mem_append, List.mem_singleton] at hz
  rcases hz with (h | h) | h
  · exact hp z h
  · subst h; exact hx
  · exact hq z h
theorem sum_turned (p q : List Int) (x y : Int) (hp : ∀ x ∈ p, 0 ≤ x ∧ x ≤ 255) (hq : ∀ x ∈ q, 0 ≤ x ∧ x ≤ 255) (hx : 0 ≤ x ∧ x ≤ 255) (hy : 0 ≤ y ∧ y ≤ 255) :
    (((sumN 0 (p ++ [x] ++ q) : Nat) : Int) == ((sumN 0 (p ++ [y] ++ q) : Nat) : Int)) = decide (x = y) := by
  refine sumN_eq 0 _ _ (by decide) (mem3 hp hq hx) (mem3 hp hq hy) _ ?_
  simp only [List.map_append, List.map_cons, List.map_nil]
  rw [mor_turned _ _ _ x.toNat y.toNat (by decide) (nat_bytes hp) (nat_bytes hq) (by omega) (by omega)]
  omega
theorem xor_turned {y n x : Int} (hy : 0 ≤ y ∧ y ≤ 255) (hn : 0 ≤ n ∧ n ≤ 255) (h : bits BinOp.xor IntKind.u8 y n = x) : 0 ≤ x ∧ x ≤ 255 ∧ (x = y ↔ n = 0) := by
  rw [u8_xor _ _ (by omega) (by omega) (by omega) (by omega)] at h
  have lt := Nat.xor_lt_two_pow (n := 8) (x := y.toNat) (y := n.toNat) (by omega) (by omega)
  refine ⟨by omega, by omega, ?_⟩
  constructor
  · intro e
    have e2 : y.toNat ^^^ n.toNat = y.toNat ^^^ 0 := by rw [Nat.xor_zero]; omega
    have := xor_inj_l.1 e2
    omega
  · rintro rfl
    rw [show (0 : Int).toNat = 0 from rfl, Nat.xor_zero] at h
    omega
theorem byt_mem {b : ByteArray} {l : List Int} (h : l.Sublist (byt b)) : ∀ x ∈ l, 0 ≤ x ∧ x ≤ 255 := fun x hx => byt_range b x (h.subset hx)
set_option maxHeartbeats 4000000 in
theorem turned_in (b : ByteArray) (k : Nat) (by1 : Int) (w : World) (hb : b.size ≤ 3000) (hk : k < b.size) (hy : 0 ≤ by1 ∧ by1 ≤ 255) :
    Calls Try.prog 5 #[.string b, .int .i64 k, .int .u8 by1] w fun e w' => e = .returned (.bool true) ∧ Below w.heap.size w w' := by
  have t1 : decide ((3000 : Int) < b.size) = false := by simp; omega
  have t2 : decide ((k : Int) < 0) = false := by simp
  have t3 : decide (b.size ≤ k) = false := by simp; omega
  have k1 : (k : Int) < (b.size : Int) := by omega
  have k2 : k ≤ b.size := by omega
  have k3 : k + 1 ≤ b.size := by omega
  have hbk : 0 ≤ (b[k].toNat : Int) ∧ (b[k].toNat : Int) ≤ 255 := by have := b[k].toNat_lt; omega
  obtain ⟨x, hx⟩ : ∃ x, bits BinOp.xor IntKind.u8 (↑b[k].toNat) by1 = x := ⟨_, rfl⟩
  have hx2 := xor_turned hbk hy hx
  have hx3 : 0 ≤ x ∧ x ≤ 255 := ⟨hx2.1, hx2.2.1⟩
  have kx := fun (w : World) => text_one_drew w x hx3
  have kx2 := fun (w : World) => text_one w x hx3
  have zx : (txt [x]).size = 1 := txt_size [x]
  have n1 : ¬ (9223372036854775807 < k + 1) := by omega
  have hcb : byt (b.extract 0 k ++ txt [x] ++ b.extract (k + 1) b.size) = (byt b).take k ++ [x] ++ (byt b).drop (k + 1) := by
    rw [byt_append, byt_append, byt_txt (by simpa using hx3), byt_extract, byt_extract, List.drop_zero, List.take_of_length_le (i := b.size) (by rw [byt_length]; omega)]
  have hq := sum_turned ((byt b).take k) ((byt b).drop (k + 1)) x (b[k].toNat : Int) (byt_mem (List.take_sublist _ _)) (byt_mem (List.drop_sublist _ _)) hx3 hbk
  rw [← hcb, ← byt_cut b k hk] at hq
  have HQ := Lib.hid hq
  have HE : Hid (decide (x = (b[k].toNat : Int)) = (by1 == 0)) := by unfold Hid; rw [Bool.eq_iff_iff]; simp [hx2.2.2]
  have hcs : (b.extract 0 k ++ txt [x] ++ b.extract (k + 1) b.size).size ≤ 9223372036854775807 := by
    rw [← byt_length, hcb]; simp [byt_length]; omega
  have HCS := Lib.hid hcs
  have z2 : b.size ≤ 9223372036854775807 := by omega
  clear hx2 hq hcb hcs hbk
  go_enter Try.func5, Try.ntmps5
  go_wp2_with (go_at_call 9; refine (works_any _).mono ?_; rintro e w1 ⟨rfl, hb1⟩; have HB1 := Lib.hid hb1; clear hb1)
  go_region
  have HB2 : Hid (Below w.heap.size w (w1.alloc (.cells #[.int .u8 x] 5)).drew) := (HB1.out.alloc HB1.out.size _).drew
  obtain ⟨w2, hw2⟩ : ∃ w2, (w1.alloc (.cells #[.int .u8 x] 5)).drew = w2 := ⟨_, rfl⟩
  obtain ⟨c, hc⟩ : ∃ c, b.extract 0 k ++ txt [x] ++ b.extract (k + 1) b.size = c := ⟨_, rfl⟩
  rw [hw2] at HB2 ⊢
  rw [hc] at HQ HCS ⊢
  clear hw2 hc kx kx2 hx n1
  go_wp2_with (refine wpList_bytes_g (o := ⟨some 45, _, _, _, _, _⟩) rfl 9 27 _ rfl 5 Try.underlying9 Try.underlying27 Try.underlying5 _ rfl HCS.out ?_)
  intro v3 w3 ht3 hz3 hb3
  have HT3 := Lib.hid ht3
  have HB3 : Hid (Below w.heap.size w w3) := below_self HB2.out hb3
  clear ht3 hb3 HB2
  go_wp2_with fail
  refine (of_any _ _ _ HT3.out (byt_range c)).mono ?_
  rintro e w4 ⟨rfl, hb4⟩
  have HB4 : Hid (Below w.heap.size w w4) := below_self HB3.out hb4
  clear hb4 HB3
  clear HT3
  go_wp2_with (refine wpList_bytes_g (o := ⟨some 48, _, _, _, _, _⟩) rfl 9 27 _ rfl 5 Try.underlying9 Try.underlying27 Try.underlying5 _ rfl z2 ?_)
  intro v5 w5 ht5 hz5 hb5
  have HT5 := Lib.hid ht5
  have HB5 : Hid (Below w.heap.size w w5) := below_self HB4.out hb5
  clear ht5 hb5 HB4
  go_wp2_with fail
  refine (of_any _ _ _ HT5.out (byt_range b)).mono ?_
  rintro e w6 ⟨rfl, hb6⟩
  have HB6 : Hid (Below w.heap.size w w6) := below_self HB5.out hb6
  clear hb6 HB5
  clear HT5
  go_wp2
  go_ret
  refine ⟨?_, HB6.out⟩
  rw [HQ.out, HE.out]
  simp
theorem turned_law (b : ByteArray) (at1 by1 : Int) (w : World) (hb : b.size ≤ maxLen) (ha : (Lit.int .i64 at1).wf = true) (hy : (Lit.int .u8 by1).wf = true) :
    Calls Try.prog 5 #[.string b, .int .i64 at1, .int .u8 by1] w fun e w' => e = .returned (.bool true) ∧ Below w.heap.size w w' := by
  have hy := u8_wf hy
  unfold maxLen at hb
  by_cases h1 : (3000 : Int) < b.size
  · have t1 : decide ((3000 : Int) < b.size) = true := by simpa using h1
    go_enter Try.func5, Try.ntmps5
    go_wp2_with (go_at_call 9; refine (works_any _).mono ?_; rintro e w1 ⟨rfl, hb1⟩)
    go_ret
    exact ⟨rfl, hb1⟩
  have t1 : decide ((3000 : Int) < b.size) = false := by simpa using h1
  by_cases h2 : at1 < 0
  · have t2 : decide (at1 < 0) = true := by simpa using h2
    go_enter Try.func5, Try.ntmps5
    go_wp2_with (go_at_call 9; refine (works_any _).mono ?_; rintro e w1 ⟨rfl, hb1⟩)
    go_ret
    exact ⟨rfl, hb1⟩
  have t2 : decide (at1 < 0) = false := by simpa using h2
  by_cases h3 : (b.size : Int) ≤ at1
  · have t3 : decide ((b.size : Int) ≤ at1) = true := by simpa using h3
    go_enter Try.func5, Try.ntmps5
    go_wp2_with (go_at_call 9; refine (works_any _).mono ?_; rintro e w1 ⟨rfl, hb1⟩)
    go_ret
    exact ⟨rfl, hb1⟩
  obtain ⟨k, rfl⟩ := Int.eq_ofNat_of_zero_le (show 0 ≤ at1 by omega)
  exact turned_in b k by1 w (by omega) (by omega) hy
end Go.Proofs.Ytofcpjjhchlcmaa
