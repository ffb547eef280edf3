/-
  The walk of SumLast.
-/
import Derived.Test.YtofcpjjhchlcmaaSumW
namespace Go.Proofs.Ytofcpjjhchlcmaa
open Go.RowKit
set_option linter.unusedSimpArgs false
set_option linter.unusedVariables false

theorem u32_wf {n : Int} (h : (Lit.int .u32 n).wf = true) : ∃ m : Nat, n = (m : Int) ∧ m < 4294967296 := by
  have h2 : 0 ≤ n ∧ n ≤ 4294967295 := by simpa [Lit.wf, IntKind.min, IntKind.max, IntKind.signed, IntKind.bits] using h
  exact ⟨n.toNat, by omega, by omega⟩
theorem u8_wf {n : Int} (h : (Lit.int .u8 n).wf = true) : 0 ≤ n ∧ n ≤ 255 := by
  simpa [Lit.wf, IntKind.min, IntKind.max, IntKind.signed, IntKind.bits] using h
theorem text_one (w : World) (x : Int) (h : 0 ≤ x ∧ x ≤ 255) (fr : Nat × Nat) : (convert 27 9 (.slice (some ⟨w.heap.size, 0, none⟩) 1 1)).run Try.prog (w.alloc (.cells #[.int .u8 x] 5 fr)) = .ok (.string (txt [x])) (w.alloc (.cells #[.int .u8 x] 5 fr)) := by
  obtain ⟨a, cap, e, h1, h2⟩ := (bt_lit w [x] 5 fr (by simp)).row
  cases e
  exact run_text (xs := [x]) h1 h2 Try.underlying27 Try.underlying5 Try.underlying9
theorem sum_last (s : Nat) (b : ByteArray) (x y : Int) (hs : s < 4294967296) (hx : 0 ≤ x ∧ x ≤ 255) (hy : 0 ≤ y ∧ y ≤ 255) : (((sumN s (byt b ++ [x]) : Nat) : Int) == ((sumN s (byt b ++ [y]) : Nat) : Int)) = (x == y) := by
  have hl : ∀ c ∈ (byt b).map Int.toNat, c < 256 := by
    intro c hc
    simp only [List.mem_map] at hc
    obtain ⟨z, hz, rfl⟩ := hc
    have := byt_range b z hz
    omega
  have key := mor_last (4294967295 - s) ((byt b).map Int.toNat) x.toNat y.toNat (by omega) hl (by omega) (by omega)
  have lx := mor_lt ((byt b).map Int.toNat ++ [x.toNat]) (4294967295 - s) (by omega) (by intro c hc; rcases List.mem_append.1 hc with h | h; exact hl c h; simp at h; omega)
  have ly := mor_lt ((byt b).map Int.toNat ++ [y.toNat]) (4294967295 - s) (by omega) (by intro c hc; rcases List.mem_append.1 hc with h | h; exact hl c h; simp at h; omega)
  unfold sumN
  rw [List.map_append, List.map_append]
  simp only [List.map_cons, List.map_nil]
  generalize mor (4294967295 - s) ((byt b).map Int.toNat ++ [x.toNat]) = p at key lx
  generalize mor (4294967295 - s) ((byt b).map Int.toNat ++ [y.toNat]) = q at key ly
  rw [Bool.eq_iff_iff]
  simp only [beq_iff_eq]
  constructor
  · intro h
    have := key.1 (by omega)
    omega
  · rintro rfl
    have := key.2 rfl
    omega

set_option maxHeartbeats 4000000 in
theorem last_law (s : Int) (b : ByteArray) (x y : Int) (w : World) (hs : (Lit.int .u32 s).wf = true) (hb : b.size ≤ maxLen) (hx : (Lit.int .u8 x).wf = true) (hy : (Lit.int .u8 y).wf = true) :
    Calls Try.prog 8 #[.int .u32 s, .string b, .int .u8 x, .int .u8 y] w fun e w' => e = .returned (.bool true) ∧ Below w.heap.size w w' := by
  obtain ⟨s, rfl, hs1⟩ := u32_wf hs
  have hx := u8_wf hx
  have hy := u8_wf hy
  unfold maxLen at hb
  by_cases hl : (3000 : Int) < b.size
  · go_enter Try.func8, Try.ntmps8
    go_wp2_with (go_at_call 9; refine (works_any _).mono ?_; rintro e w1 ⟨rfl, hb1⟩)
    go_ret
    exact ⟨rfl, hb1⟩
  · have hl2 : b.size ≤ 3000 := by omega
    have kx := fun (w : World) => text_one w x hx
    have ky := fun (w : World) => text_one w y hy
    have zx : (txt [x]).size = 1 := txt_size [x]
    have zy : (txt [y]).size = 1 := txt_size [y]
    have nx : ¬ (9223372036854775807 < b.size + 1) := by omega
    go_enter Try.func8, Try.ntmps8
    go_wp2_with (first
      | (go_at_call 9; refine (works_any _).mono ?_; rintro e w1 ⟨rfl, hb1⟩; have HB1 := Lib.hid hb1; clear hb1)
      | (refine wpList_bytes (o := ⟨some 25, _, _, _, _, _⟩) rfl 9 27 _ rfl 5 Try.underlying9 Try.underlying27 Try.underlying5 _ rfl ?_ ?_))
    · rw [ByteArray.size_append, txt_size]; simp; omega
    intro v2 w2 ht2 hz2 hb2
    rw [byt_append, byt_txt (by simpa using hx)] at ht2
    have HT2 := Lib.hid ht2
    have HB2 : Hid (Below w.heap.size w w2) := HB1.out.trans ((((Below.refl _ w1).alloc (Nat.le_refl _) _).trans (hb2.mono (by simp))).mono HB1.out.size)
    clear ht2 hb2
    have HR1 : Hid (∀ z ∈ byt b ++ [x], 0 ≤ z ∧ z ≤ 255) := by
      intro z hz
      rcases List.mem_append.1 hz with h | h
      · exact byt_range b z h
      · simp at h; omega
    have HR2 : Hid (∀ z ∈ byt b ++ [y], 0 ≤ z ∧ z ≤ 255) := by
      intro z hz
      rcases List.mem_append.1 hz with h | h
      · exact byt_range b z h
      · simp at h; omega
    have HQ := Lib.hid (sum_last s b x y hs1 hx hy)
    go_wp2_with fail
    refine (more_any s _ _ _ hs1 HT2.out HR1.out).mono ?_
    rintro e w3 ⟨rfl, hb3⟩
    have HB3 : Hid (Below w.heap.size w w3) := below_self HB2.out hb3
    clear hb3 HB2 HT2
    go_wp2_with (refine wpList_bytes (o := ⟨some 33, _, _, _, _, _⟩) rfl 9 27 _ rfl 5 Try.underlying9 Try.underlying27 Try.underlying5 _ rfl ?_ ?_)
    · rw [ByteArray.size_append, txt_size]; simp; omega
    intro v4 w4 ht4 hz4 hb4
    rw [byt_append, byt_txt (by simpa using hy)] at ht4
    have HT4 := Lib.hid ht4
    have HB4 : Hid (Below w.heap.size w w4) := HB3.out.trans ((((Below.refl _ w3).alloc (Nat.le_refl _) _).trans (hb4.mono (by simp))).mono HB3.out.size)
    clear ht4 hb4
    go_wp2_with fail
    refine (more_any s _ _ _ hs1 HT4.out HR2.out).mono ?_
    rintro e w5 ⟨rfl, hb5⟩
    have HB5 : Hid (Below w.heap.size w w5) := below_self HB4.out hb5
    clear hb5 HB4 HT4
    go_wp2
    go_ret
    refine ⟨?_, HB5.out⟩
    rw [HQ.out]
    simp
end Go.Proofs.Ytofcpjjhchlcmaa
