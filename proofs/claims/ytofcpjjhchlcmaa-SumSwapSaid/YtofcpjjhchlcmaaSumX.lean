/-
  The walk of SumSwap.
-/
import Derived.Test.YtofcpjjhchlcmaaSumT
import Derived.IntWalk
namespace Go.Proofs.Ytofcpjjhchlcmaa
open Go.RowKit
set_option linter.unusedSimpArgs false
set_option linter.unusedVariables false

theorem text_two_drew (w : World) (x y : Int) (hx : 0 ≤ x ∧ x ≤ 255) (hy : 0 ≤ y ∧ y ≤ 255) (fr : Nat × Nat) : (convert 27 9 (.slice (some ⟨w.heap.size, 0, none⟩) 2 2)).run Try.prog (w.alloc (.cells #[.int .u8 x, .int .u8 y] 5 fr)).drew = .ok (.string (txt [x, y])) (w.alloc (.cells #[.int .u8 x, .int .u8 y] 5 fr)).drew := by
  obtain ⟨a, cap, e, h1, h2⟩ := (bt_lit w [x, y] 5 fr (by simp)).row
  cases e
  have h3 : BRd (w.alloc (.cells #[.int .u8 x, .int .u8 y] 5 fr)).drew (some ⟨w.heap.size, 0, none⟩) [x, y] := h1
  exact run_text (xs := [x, y]) h3 h2 Try.underlying27 Try.underlying5 Try.underlying9
theorem byt_cut2 (b : ByteArray) (k : Nat) (h : k + 1 < b.size) : byt b = (byt b).take k ++ [(b[k].toNat : Int), (b[k + 1].toNat : Int)] ++ (byt b).drop (k + 2) := by
  have hl : k < (byt b).length := by rw [byt_length]; omega
  have hl2 : k + 1 < (byt b).length := by rw [byt_length]; omega
  have e : (byt b)[k] = (b[k].toNat : Int) := by
    have := byt_get b k (by omega)
    simpa [List.getD, hl] using this
  have e2 : (byt b)[k + 1] = (b[k + 1].toNat : Int) := by
    have := byt_get b (k + 1) h
    simpa [List.getD, hl2] using this
  have d1 := List.drop_eq_getElem_cons hl
  have d2 := List.drop_eq_getElem_cons hl2
  rw [e] at d1
  rw [e2] at d2
  rw [d2] at d1
  conv => lhs; rw [← List.take_append_drop k (byt b), d1]
  simp
theorem mem4 {p q : List Int} {x y : Int} (hp : ∀ x ∈ p, 0 ≤ x ∧ x ≤ 255) (hq : ∀ x ∈ q, 0 ≤ x ∧ x ≤ 255) (hx : 0 ≤ x ∧ x ≤ 255) (hy : 0 ≤ y ∧ y ≤ 255) : ∀ z ∈ p ++ [x, y] ++ q, 0 ≤ z ∧ z ≤ 255 := by
  intro z hz
  simp only [List.mem_append, List.mem_cons, List.not_mem_nil, or_false] at hz
  rcases hz with (h | h | h) | h
  · exact hp z h
  · subst h; exact hx
  · subst h; exact hy
  · exact hq z h
theorem sum_swapped (p q : List Int) (x y : Int) (hp : ∀ x ∈ p, 0 ≤ x ∧ x ≤ 255) (hq : ∀ x ∈ q, 0 ≤ x ∧ x ≤ 255) (hx : 0 ≤ x ∧ x ≤ 255) (hy : 0 ≤ y ∧ y ≤ 255) :
    (((sumN 0 (p ++ [x, y] ++ q) : Nat) : Int) == ((sumN 0 (p ++ [y, x] ++ q) : Nat) : Int)) = decide (p ++ [x, y] ++ q = p ++ [y, x] ++ q) := by
  refine sumN_eq 0 _ _ (by decide) (mem4 hp hq hx hy) (mem4 hp hq hy hx) _ ?_
  simp only [List.map_append, List.map_cons, List.map_nil]
  rw [mor_swapped _ _ _ x.toNat y.toNat (by decide) (nat_bytes hp) (nat_bytes hq) (by omega) (by omega)]
  rw [List.append_cancel_right_eq, List.append_cancel_left_eq]
  simp
  omega
set_option maxHeartbeats 4000000 in
theorem swap_in (b : ByteArray) (k : Nat) (w : World) (hb : b.size ≤ 3000) (hk : k + 1 < b.size) :
    Calls Try.prog 6 #[.string b, .int .i64 k] w fun e w' => e = .returned (.bool true) ∧ Below w.heap.size w w' := by
  have t1 : decide ((3000 : Int) < b.size) = false := by simp; omega
  have t2 : decide ((k : Int) < 0) = false := by simp
  have t3 : decide ((b.size : Int) - 2 < (k : Int)) = false := by simp; omega
  have k1 : (k : Int) < (b.size : Int) := by omega
  have k4 : (k : Int) + 1 < (b.size : Int) := by omega
  have k2 : k ≤ b.size := by omega
  have k5 : k < b.size := by omega
  have k3 : k + 2 ≤ b.size := by omega
  have hx3 : 0 ≤ (b[k].toNat : Int) ∧ (b[k].toNat : Int) ≤ 255 := by have := b[k].toNat_lt; omega
  have hy3 : 0 ≤ (b[k + 1].toNat : Int) ∧ (b[k + 1].toNat : Int) ≤ 255 := by have := b[k + 1].toNat_lt; omega
  have kx := fun (w : World) => text_two_drew w _ _ hy3 hx3
  have zx : (txt [(b[k + 1].toNat : Int), (b[k].toNat : Int)]).size = 2 := txt_size _
  have n1 : ¬ (9223372036854775807 < k + 2) := by omega
  have hcb : byt (b.extract 0 k ++ txt [(b[k + 1].toNat : Int), (b[k].toNat : Int)] ++ b.extract (k + 2) b.size) = (byt b).take k ++ [(b[k + 1].toNat : Int), (b[k].toNat : Int)] ++ (byt b).drop (k + 2) := by
    rw [byt_append, byt_append, byt_txt (by simp; omega), byt_extract, byt_extract, List.drop_zero, List.take_of_length_le (i := b.size) (by rw [byt_length]; omega)]
  have hq := sum_swapped ((byt b).take k) ((byt b).drop (k + 2)) (b[k + 1].toNat : Int) (b[k].toNat : Int) (byt_mem (List.take_sublist _ _)) (byt_mem (List.drop_sublist _ _)) hy3 hx3
  rw [← hcb, ← byt_cut2 b k hk] at hq
  have HQ := Lib.hid hq
  have HTL := fun c => toList_eq_iff c b
  have hcs : (b.extract 0 k ++ txt [(b[k + 1].toNat : Int), (b[k].toNat : Int)] ++ b.extract (k + 2) b.size).size ≤ 9223372036854775807 := by
    rw [← byt_length, hcb]; simp [byt_length]; omega
  have HCS := Lib.hid hcs
  have z2 : b.size ≤ 9223372036854775807 := by omega
  clear hq hcb hcs hx3 hy3
  go_enter Try.func6, Try.ntmps6
  go_wp2_with (go_at_call 9; refine (works_any _).mono ?_; rintro e w1 ⟨rfl, hb1⟩; have HB1 := Lib.hid hb1; clear hb1)
  have s1 : IntKind.i64.wrap ((k : Int) + 1) = (k : Int) + 1 := IntWalk.i64_in _ (by omega)
  have s2 : ((k : Int) + 1).toNat = k + 1 := by omega
  have s3 : (0 : Int) ≤ (k : Int) + 1 := by omega
  have s4 : IntKind.i64.wrap ((k : Int) + 2) = (k : Int) + 2 := IntWalk.i64_in _ (by omega)
  have s5 : ((k : Int) + 2).toNat = k + 2 := by omega
  have s6 : (0 : Int) ≤ (k : Int) + 2 := by omega
  have s7 : (k : Int) + 2 ≤ (b.size : Int) := by omega
  go_region
  clear s4 s5
  try clear s1
  try clear s2
  have HB2 : Hid (Below w.heap.size w (w1.alloc (.cells #[.int .u8 (b[k + 1].toNat : Int), .int .u8 (b[k].toNat : Int)] 5)).drew) := (HB1.out.alloc HB1.out.size _).drew
  obtain ⟨w2, hw2⟩ : ∃ w2, (w1.alloc (.cells #[.int .u8 (b[k + 1].toNat : Int), .int .u8 (b[k].toNat : Int)] 5)).drew = w2 := ⟨_, rfl⟩
  obtain ⟨c, hc⟩ : ∃ c, b.extract 0 k ++ txt [(b[k + 1].toNat : Int), (b[k].toNat : Int)] ++ b.extract (k + 2) b.size = c := ⟨_, rfl⟩
  rw [hw2] at HB2 ⊢
  rw [hc] at HQ HCS ⊢
  clear hw2 hc kx n1
  go_wp2_with (refine wpList_bytes_g (o := ⟨some 46, _, _, _, _, _⟩) rfl 9 27 _ rfl 5 Try.underlying9 Try.underlying27 Try.underlying5 _ rfl HCS.out ?_)
  intro v3 w3 ht3 hz3 hb3
  have HT3 := Lib.hid ht3
  have HB3 : Hid (Below w.heap.size w w3) := below_self HB2.out hb3
  clear ht3 hb3 HB2
  go_wp2_with fail
  refine (of_any _ _ _ HT3.out (byt_range c)).mono ?_
  rintro e w4 ⟨rfl, hb4⟩
  have HB4 : Hid (Below w.heap.size w w4) := below_self HB3.out hb4
  clear hb4 HB3
  clear HT3
  go_wp2_with (refine wpList_bytes_g (o := ⟨some 49, _, _, _, _, _⟩) rfl 9 27 _ rfl 5 Try.underlying9 Try.underlying27 Try.underlying5 _ rfl z2 ?_)
  intro v5 w5 ht5 hz5 hb5
  have HT5 := Lib.hid ht5
  have HB5 : Hid (Below w.heap.size w w5) := below_self HB4.out hb5
  clear ht5 hb5 HB4
  go_wp2_with fail
  refine (of_any _ _ _ HT5.out (byt_range b)).mono ?_
  rintro e w6 ⟨rfl, hb6⟩
  have HB6 : Hid (Below w.heap.size w w6) := below_self HB5.out hb6
  clear hb6 HB5
  clear HT5
  go_wp2
  go_ret
  refine ⟨?_, HB6.out⟩
  rw [HQ.out]
  simp
theorem swap_law (b : ByteArray) (at1 : Int) (w : World) (hb : b.size ≤ maxLen) (ha : (Lit.int .i64 at1).wf = true) :
    Calls Try.prog 6 #[.string b, .int .i64 at1] w fun e w' => e = .returned (.bool true) ∧ Below w.heap.size w w' := by
  unfold maxLen at hb
  by_cases h1 : (3000 : Int) < b.size
  · have t1 : decide ((3000 : Int) < b.size) = true := by simpa using h1
    go_enter Try.func6, Try.ntmps6
    go_wp2_with (go_at_call 9; refine (works_any _).mono ?_; rintro e w1 ⟨rfl, hb1⟩)
    go_ret
    exact ⟨rfl, hb1⟩
  have t1 : decide ((3000 : Int) < b.size) = false := by simpa using h1
  by_cases h2 : at1 < 0
  · have t2 : decide (at1 < 0) = true := by simpa using h2
    go_enter Try.func6, Try.ntmps6
    go_wp2_with (go_at_call 9; refine (works_any _).mono ?_; rintro e w1 ⟨rfl, hb1⟩)
    go_ret
    exact ⟨rfl, hb1⟩
  have t2 : decide (at1 < 0) = false := by simpa using h2
  by_cases h3 : (b.size : Int) - 2 < at1
  · have t3 : decide ((b.size : Int) - 2 < at1) = true := by simpa using h3
    go_enter Try.func6, Try.ntmps6
    go_wp2_with (go_at_call 9; refine (works_any _).mono ?_; rintro e w1 ⟨rfl, hb1⟩)
    go_ret
    exact ⟨rfl, hb1⟩
  obtain ⟨k, rfl⟩ := Int.eq_ofNat_of_zero_le (show 0 ≤ at1 by omega)
  exact swap_in b k w (by omega) (by omega)
end Go.Proofs.Ytofcpjjhchlcmaa
