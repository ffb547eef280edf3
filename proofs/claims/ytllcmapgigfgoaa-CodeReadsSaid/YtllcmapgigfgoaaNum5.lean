/-
  The walk of package num's number: which number some bytes begin with.
-/
import Derived.Test.YtllcmapgigfgoaaNum4
import Derived.Scope
import Derived.ScopeJumps
import Derived.WalkMore
namespace Go.Proofs.Ytllcmapgigfgoaa
open Go.RowKit
set_option linter.unusedSimpArgs false
set_option linter.unusedVariables false

/-- What number answers, digit by digit. -/
def numG : Nat → Nat → Int → List Int → Int × Int × Int
  | 0, _, _, _ => (0, 0, 11)
  | _ + 1, _, _, [] => (0, 0, 10)
  | f + 1, i, acc, x :: r => if 128 ≤ x then numG f (i + 1) (acc + 128 ^ i * (x % 128)) r else if sizeN (acc + 128 ^ i * (x % 128)) = (i : Int) + 1 then (acc + 128 ^ i * (x % 128), (i : Int) + 1, 0) else (0, 0, 11)
theorem wraps_i64 (n : Int) (h₀ : 0 ≤ n) (h₁ : n < 2 ^ 62) : IntKind.i64.wrap n = n := by rw [IntKind.wrap_i64]; omega
theorem and127 (x : Int) (h0 : 0 ≤ x) (h1 : x ≤ 255) : bits BinOp.and IntKind.u8 x 127 = x % 128 := by
  have := bits_mask .u8 8 (by decide) wraps_u8 7 (by decide) x h0 (by omega)
  simpa using this
theorem or_digit (i : Nat) (hi : i ≤ 7) (n x : Int) (hn0 : 0 ≤ n) (hn : n < 128 ^ i) (h0 : 0 ≤ x) (h1 : x ≤ 255) :
    bits BinOp.or IntKind.i64 n (wrap64 (wrap64 (bits BinOp.and IntKind.u8 x 127) * 2 ^ (7 * i))) = n + 128 ^ i * (x % 128) := by
  rw [and127 x h0 h1, IntWalk.wrap64_in (x % 128) ⟨by omega, by omega⟩]
  obtain ⟨a, rfl⟩ := Int.eq_ofNat_of_zero_le hn0
  obtain ⟨y, hy⟩ := Int.eq_ofNat_of_zero_le (show 0 ≤ x % 128 by omega)
  have hy2 : y < 128 := by omega
  rw [hy]
  have e : ((128 : Int) ^ i) = ((2 ^ (7 * i) : Nat) : Int) := by
    rw [Nat.pow_mul]; simp
  have e2 : ((2 : Int) ^ (7 * i)) = ((2 ^ (7 * i) : Nat) : Int) := by simp
  have hp : 2 ^ (7 * i) ≤ 2 ^ 49 := Nat.pow_le_pow_right (by decide) (by omega)
  have hp1 : 1 ≤ 2 ^ (7 * i) := Nat.one_le_two_pow
  rw [e] at hn ⊢
  rw [e2]
  have ha : a < 2 ^ (7 * i) := by exact_mod_cast hn
  generalize hP : 2 ^ (7 * i) = P at *
  have hb : P * y < 2 ^ 62 := by
    have : P * y ≤ 2 ^ 49 * 128 := Nat.mul_le_mul hp (by omega)
    omega
  have e3 : (y : Int) * (P : Int) = ((P * y : Nat) : Int) := by rw [Int.natCast_mul]; exact Int.mul_comm _ _
  rw [e3, IntWalk.wrap64_in ((P * y : Nat) : Int) ⟨by omega, by omega⟩, (bits_nat .i64 62 (by decide) wraps_i64 a (P * y) (by omega) hb).2, Nat.or_comm]
  have := Nat.two_pow_add_eq_or_of_lt (i := 7 * i) (b := a) (by rw [hP]; exact ha) y
  rw [hP] at this
  rw [← this]
  omega
theorem drop_at (xs : List Int) (i : Nat) (h : i < xs.length) : xs.drop i = xs[i] :: xs.drop (i + 1) := List.drop_eq_getElem_cons h

set_option maxRecDepth 100000 in
set_option maxHeartbeats 8000000 in
theorem number_any (a : Option Addr) (cap : Nat) (xs : List Int) (w : World) (hr : BRd w a xs) (hx : ∀ x ∈ xs, 0 ≤ x ∧ x ≤ 255) :
    Calls Try.prog 118 #[.slice a xs.length cap] w fun e w' => e = .returned (.tuple #[.int .i64 (numG 8 0 0 xs).1, .int .i64 (numG 8 0 0 xs).2.1, .int .i64 (numG 8 0 0 xs).2.2]) ∧ w = w' := by
  have hl := hr.1
  have HR := Lib.hid hr
  have HX := Lib.hid hx
  clear hr hx
  go_enter Try.func118, Try.ntmps118
  go_wp2
  refine wp_scope_jumps 0 (fun a' w' => w' = w ∧ ∃ (i : Nat) (n : Int) (u7 u8 u9 u10 u11 u12 u13 u14 u15 u16 u17 u18 u19 u20 u21 u22 u23 u24 u25 u26 u27 u28 u29 u30 u31 : Value), a' = { tmps := #[.slice a xs.length cap, undef, .int .i64 0, .int .i64 0, .int .i64 0, .int .i64 n, .int .i64 i, u7, u8, u9, u10, u11, u12, u13, u14, u15, u16, u17, u18, u19, u20, u21, u22, u23, u24, u25, u26, u27, u28, u29, u30, u31, undef, undef, undef, undef, undef, undef], defers := [] } ∧ Hid (numG (8 - i) i n (xs.drop i) = numG 8 0 0 xs) ∧ i ≤ 8 ∧ i ≤ xs.length ∧ Hid (0 ≤ n ∧ n < 128 ^ i)) (fun a' _ => 8 - (intOf (a'.tmps.getD 6 undef)).toNat) rfl ?_ ?_
  · by_cases hlen : xs.length = 0
    · have hx0 : xs = [] := List.eq_nil_of_length_eq_zero hlen
      subst hx0
      have hf : numG 8 0 0 [] = (0, 0, 10) := rfl
      have HF := Lib.hid hf
      clear hf
      go_wp2
      go_step3
      go_wp2_with fail
      simp only [Exit.jump]
      go_ret3
      exact ⟨by simp [HF.out], rfl⟩
    obtain ⟨g, off, rfl, hg, hc⟩ : ∃ g off, a = some ⟨g, off, none⟩ ∧ g < w.heap.size ∧ ∀ i, i < xs.length → w.cell? ⟨g, off + i, none⟩ = some (.int .u8 (xs.getD i 0)) := by
      rcases HR.out.2 with h | h
      · subst h; simp at hlen
      · exact h
    have hlt : 0 < xs.length := by omega
    have hci := hc 0 hlt
    obtain ⟨hx1, hx2⟩ := HX.out xs[0] (by simp)
    have el : ((0 : Int) == (xs.length : Int)) = false := by simp; omega
    have i1 : (0 : Int) < (xs.length : Int) := by omega
    have HC := Lib.hid hc
    clear hc
    have hv := or_digit 0 (by omega) 0 xs[0] (by omega) (by simp) hx1 hx2
    have hst : numG 8 0 0 (xs.drop 0) = if 128 ≤ xs[0] then numG 7 1 (xs[0] % 128) (xs.drop 1) else if sizeN (xs[0] % 128) = 1 then (xs[0] % 128, 1, 0) else (0, 0, 11) := by
      rw [drop_at xs 0 hlt, numG]
      simp
    rw [List.drop_zero] at hst
    simp at hv
    have HS := Lib.hid hst
    clear hst
    simp at hci
    have h127 := HX.out xs[0] (by simp)
    by_cases hb : 128 ≤ xs[0]
    · go_wp2
      go_step3
      go_wp2_with fail
      go_step3
      refine ⟨rfl, rfl, 1, xs[0] % 128, _, _, _, _, _, _, _, _, _, _, _, _, _, _, _, _, _, _, _, _, _, _, _, _, _, rfl, ?_, by omega, by omega, ?_⟩
      · have := HS.out
        rw [if_pos hb] at this
        exact this.symm
      · exact ⟨by omega, by show xs[0] % 128 < 128 ^ 1; omega⟩
    · have hs : numG 8 0 0 xs = if sizeN (xs[0] % 128) = 1 then (xs[0] % 128, 1, 0) else (0, 0, 11) := by rw [HS.out, if_neg hb]
      by_cases hsz : sizeN (xs[0] % 128) = 1
      · rw [if_pos hsz] at hs
        have HF := Lib.hid hs
        have q : ((1 : Int) != sizeN (xs[0] % 128)) = false := by simp; omega
        clear hs
        go_wp2
        go_step3
        go_wp2_with (go_at_call 112; refine (size_any _ _).mono ?_; rintro e w1 ⟨rfl, rfl⟩)
        simp only [Exit.jump]
        go_ret3
        exact ⟨by simp [HF.out], rfl⟩
      · rw [if_neg hsz] at hs
        have HF := Lib.hid hs
        have q : ((1 : Int) != sizeN (xs[0] % 128)) = true := by simp; omega
        clear hs
        go_wp2
        go_step3
        go_wp2_with (go_at_call 112; refine (size_any _ _).mono ?_; rintro e w1 ⟨rfl, rfl⟩)
        simp only [Exit.jump]
        go_ret3
        exact ⟨by simp [HF.out], rfl⟩
  · rintro a' w' ⟨rfl, i, n, u7, u8, u9, u10, u11, u12, u13, u14, u15, u16, u17, u18, u19, u20, u21, u22, u23, u24, u25, u26, u27, u28, u29, u30, u31, rfl, hH, hi8, hil, hn⟩
    by_cases h8 : i = 8
    · subst h8
      have hf : numG 8 0 0 xs = (0, 0, 11) := by rw [← hH.out]; rfl
      have HF := Lib.hid hf
      clear hf
      go_wp2_with fail
      simp only [Exit.jump]
      go_ret3
      exact ⟨by simp [HF.out], rfl⟩
    have e8 : ((i : Int) == 8) = false := by simp; omega
    by_cases hlen : i = xs.length
    · have hf : numG 8 0 0 xs = (0, 0, 10) := by
        rw [← hH.out, show 8 - i = (7 - i) + 1 from by omega, hlen, List.drop_length]; rfl
      have HF := Lib.hid hf
      clear hf
      have el : ((i : Int) == (xs.length : Int)) = true := by simp; omega
      clear hlen
      go_wp2_with fail
      simp only [Exit.jump]
      go_ret3
      exact ⟨by simp [HF.out], rfl⟩
    obtain ⟨g, off, rfl, hg, hc⟩ : ∃ g off, a = some ⟨g, off, none⟩ ∧ g < w'.heap.size ∧ ∀ i, i < xs.length → w'.cell? ⟨g, off + i, none⟩ = some (.int .u8 (xs.getD i 0)) := by
      rcases HR.out.2 with h | h
      · subst h; simp at hil hlen; omega
      · exact h
    have hlt : i < xs.length := by omega
    have hci := hc i hlt
    obtain ⟨hx1, hx2⟩ := HX.out xs[i] (by simp)
    have el : ((i : Int) == (xs.length : Int)) = false := by simp; omega
    have i1 : (i : Int) < (xs.length : Int) := by omega
    have HC := Lib.hid hc
    clear hc
    have hv := or_digit i (by omega) n xs[i] hn.out.1 hn.out.2 hx1 hx2
    obtain ⟨n2, hn2⟩ : ∃ n2, n2 = n + 128 ^ i * (xs[i] % 128) := ⟨_, rfl⟩
    rw [← hn2] at hv
    have hst : numG (8 - i) i n (xs.drop i) = if 128 ≤ xs[i] then numG (7 - i) (i + 1) n2 (xs.drop (i + 1)) else if sizeN n2 = (i : Int) + 1 then (n2, (i : Int) + 1, 0) else (0, 0, 11) := by
      rw [show 8 - i = (7 - i) + 1 from by omega, drop_at xs i hlt, numG, hn2]
    have HN : Hid (0 ≤ n2 ∧ n2 < 128 ^ (i + 1)) := by
      obtain ⟨q0, q1⟩ := hn.out
      have p1 : (0 : Int) < 128 ^ i := Int.pow_pos (by omega)
      have m1 : 0 ≤ (128 : Int) ^ i * (xs[i] % 128) := Int.mul_nonneg (by omega) (by omega)
      have m2 : (128 : Int) ^ i * (xs[i] % 128) ≤ 128 ^ i * 127 := Int.mul_le_mul_of_nonneg_left (by omega) (by omega)
      refine ⟨by omega, ?_⟩
      rw [Int.pow_succ]; omega
    rw [hH.out] at hst
    have HS := Lib.hid hst
    clear hst hn2
    by_cases hb : 128 ≤ xs[i]
    · go_wp2
      go_step3
      refine ⟨rfl, ⟨rfl, i + 1, n2, _, _, _, _, _, _, _, _, _, _, _, _, _, _, _, _, _, _, _, _, _, _, _, _, _, rfl, ?_, by omega, by omega, HN⟩, ?_⟩
      · have := HS.out
        rw [if_pos hb] at this
        show numG (8 - (i + 1)) (i + 1) n2 (xs.drop (i + 1)) = numG 8 0 0 xs
        rw [this, show 8 - (i + 1) = 7 - i from by omega]
      · simp [intOf]; omega
    · have hs : numG 8 0 0 xs = if sizeN n2 = (i : Int) + 1 then (n2, (i : Int) + 1, 0) else (0, 0, 11) := by rw [HS.out, if_neg hb]
      by_cases hsz : sizeN n2 = (i : Int) + 1
      · rw [if_pos hsz] at hs
        have HF := Lib.hid hs
        have q : ((i : Int) + 1 != sizeN n2) = false := by simp; omega
        clear hs
        go_wp2_with (go_at_call 112; refine (size_any _ _).mono ?_; rintro e w1 ⟨rfl, rfl⟩)
        simp only [Exit.jump]
        go_ret3
        exact ⟨by simp [HF.out], rfl⟩
      · rw [if_neg hsz] at hs
        have HF := Lib.hid hs
        have q : ((i : Int) + 1 != sizeN n2) = true := by simp; omega
        clear hs
        go_wp2_with (go_at_call 112; refine (size_any _ _).mono ?_; rintro e w1 ⟨rfl, rfl⟩)
        simp only [Exit.jump]
        go_ret3
        exact ⟨by simp [HF.out], rfl⟩
end Go.Proofs.Ytllcmapgigfgoaa
