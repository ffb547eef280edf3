/-
  Texts put together: SumM, Sum, Sum2, Sum3, Frm, Frm2, Frm3.
-/
import Derived.Test.YtllcmapgigfgoaaRows
import Derived.Test.YtllcmapgigfgoaaArr
import Derived.Laws.ResultCell
import Derived.Test.YtllcmapgigfgoaaApp
import Derived.Deep.RegionHeld3
namespace Go.Proofs.Ytllcmapgigfgoaa
set_option linter.unusedSimpArgs false
set_option linter.unusedVariables false
/-- One halving. -/
def hal (x : Nat) : Nat := if x % 2 = 1 then (x / 2) ^^^ 3988292384 else x / 2
def hals : Nat → Nat → Nat
  | 0, x => x
  | k + 1, x => hals k (hal x)
/-- Eight halvings. -/
def stp (x : Nat) : Nat := hals 8 x
/-- Byte by byte. -/
def mor (x : Nat) : List Nat → Nat
  | [] => x
  | c :: r => mor (stp (x ^^^ c)) r
theorem xor_div2 (a b : Nat) : (a ^^^ b) / 2 = a / 2 ^^^ b / 2 := by
  have := Nat.shiftRight_xor_distrib (i := 1) (a := a) (b := b)
  simpa [Nat.shiftRight_eq_div_pow] using this
theorem xor_mod2 (a b : Nat) : (a ^^^ b) % 2 = (a % 2) ^^^ (b % 2) := by
  have := @Nat.xor_mod_two_pow a b 1
  simpa using this
theorem hal_lt {x : Nat} (h : x < 4294967296) : hal x < 4294967296 := by
  unfold hal
  split
  · exact Nat.xor_lt_two_pow (n := 32) (by omega) (by omega)
  · omega
theorem hal_xor (a b : Nat) : hal (a ^^^ b) = hal a ^^^ hal b := by
  unfold hal
  rw [xor_div2, xor_mod2]
  rcases Nat.mod_two_eq_zero_or_one a with ha | ha <;> rcases Nat.mod_two_eq_zero_or_one b with hb | hb <;> simp only [ha, hb]
  · simp
  · simp [Nat.xor_assoc]
  · simp only [if_true, show ¬ (0 : Nat) = 1 from by decide, if_false, Nat.xor_zero, show (1 : Nat) ^^^ 0 = 1 from rfl]
    rw [Nat.xor_assoc, Nat.xor_comm (b / 2), ← Nat.xor_assoc]
  · simp only [Nat.xor_self]
    simp only [if_true, show ¬ (0 : Nat) = 1 from by decide, if_false]
    rw [Nat.xor_assoc, Nat.xor_comm (b / 2), ← Nat.xor_assoc 3988292384, Nat.xor_self, Nat.zero_xor]
theorem hals_lt : ∀ (k x : Nat), x < 4294967296 → hals k x < 4294967296
  | 0, _, h => h
  | k + 1, _, h => hals_lt k _ (hal_lt h)
theorem hals_xor : ∀ (k a b : Nat), hals k (a ^^^ b) = hals k a ^^^ hals k b
  | 0, _, _ => rfl
  | k + 1, a, b => by unfold hals; rw [hal_xor, hals_xor k]
theorem stp_lt {x : Nat} (h : x < 4294967296) : stp x < 4294967296 := hals_lt 8 x h
theorem stp_xor (a b : Nat) : stp (a ^^^ b) = stp a ^^^ stp b := hals_xor 8 a b
theorem hal_zero {x : Nat} (h : x < 4294967296) (e : hal x = 0) : x = 0 := by
  unfold hal at e
  split at e
  · have q : x / 2 = 3988292384 := by
      have := congrArg (· ^^^ 3988292384) e
      simpa [Nat.xor_assoc] using this
    omega
  · omega
theorem hals_zero : ∀ (k x : Nat), x < 4294967296 → hals k x = 0 → x = 0
  | 0, _, _, e => e
  | k + 1, x, h, e => hal_zero h (hals_zero k (hal x) (hal_lt h) e)
theorem xor_eq_zero {a b : Nat} : a ^^^ b = 0 ↔ a = b := by
  constructor
  · intro h
    have := congrArg (· ^^^ b) h
    simpa [Nat.xor_assoc] using this
  · rintro rfl; simp
theorem stp_inj {a b : Nat} (ha : a < 4294967296) (hb : b < 4294967296) : stp a = stp b ↔ a = b := by
  constructor
  · intro h
    have q : stp (a ^^^ b) = 0 := by rw [stp_xor, h, Nat.xor_self]
    exact xor_eq_zero.1 (hals_zero 8 _ (Nat.xor_lt_two_pow (n := 32) ha hb) q)
  · rintro rfl; rfl
theorem xor_inj_r {a b c : Nat} : a ^^^ c = b ^^^ c ↔ a = b := by
  constructor
  · intro h
    have := congrArg (· ^^^ c) h
    simpa [Nat.xor_assoc] using this
  · rintro rfl; rfl
theorem xor_inj_l {a b c : Nat} : c ^^^ a = c ^^^ b ↔ a = b := by rw [Nat.xor_comm c a, Nat.xor_comm c b]; exact xor_inj_r
theorem mor_lt : ∀ (l : List Nat) (x : Nat), x < 4294967296 → (∀ c ∈ l, c < 256) → mor x l < 4294967296
  | [], _, h, _ => h
  | c :: r, x, h, hl => mor_lt r _ (stp_lt (Nat.xor_lt_two_pow (n := 32) h (by have := hl c (by simp); omega))) (fun d hd => hl d (by simp [hd]))
theorem mor_append : ∀ (a b : List Nat) (x : Nat), mor x (a ++ b) = mor (mor x a) b
  | [], _, _ => rfl
  | c :: r, b, x => mor_append r b _
theorem mor_inj : ∀ (l : List Nat) (x y : Nat), x < 4294967296 → y < 4294967296 → (∀ c ∈ l, c < 256) → (mor x l = mor y l ↔ x = y)
  | [], _, _, _, _, _ => Iff.rfl
  | c :: r, x, y, hx, hy, hl => by
    have hc := hl c (by simp)
    have lx : x ^^^ c < 4294967296 := Nat.xor_lt_two_pow (n := 32) hx (by omega)
    have ly : y ^^^ c < 4294967296 := Nat.xor_lt_two_pow (n := 32) hy (by omega)
    show mor (stp (x ^^^ c)) r = mor (stp (y ^^^ c)) r ↔ _
    rw [mor_inj r _ _ (stp_lt lx) (stp_lt ly) (fun d hd => hl d (by simp [hd])), stp_inj lx ly]
    exact xor_inj_r
/-- Unlike last bytes. -/
theorem mor_last (x : Nat) (l : List Nat) (c d : Nat) (hx : x < 4294967296) (hl : ∀ b ∈ l, b < 256) (hc : c < 256) (hd : d < 256) : mor x (l ++ [c]) = mor x (l ++ [d]) ↔ c = d := by
  rw [mor_append, mor_append]
  have hm := mor_lt l x hx hl
  show stp (mor x l ^^^ c) = stp (mor x l ^^^ d) ↔ _
  rw [stp_inj (Nat.xor_lt_two_pow (n := 32) hm (by omega)) (Nat.xor_lt_two_pow (n := 32) hm (by omega))]
  exact xor_inj_l
/-- One byte turned. -/
theorem mor_turned (x : Nat) (p q : List Nat) (c d : Nat) (hx : x < 4294967296) (hp : ∀ b ∈ p, b < 256) (hq : ∀ b ∈ q, b < 256) (hc : c < 256) (hd : d < 256) : mor x (p ++ [c] ++ q) = mor x (p ++ [d] ++ q) ↔ c = d := by
  rw [mor_append _ q, mor_append _ q, mor_inj q _ _ ?_ ?_ hq]
  · exact mor_last x p c d hx hp hc hd
  · exact mor_lt _ _ hx (by intro b hb; rcases List.mem_append.1 hb with h | h; exact hp b h; simp at h; omega)
  · exact mor_lt _ _ hx (by intro b hb; rcases List.mem_append.1 hb with h | h; exact hp b h; simp at h; omega)
theorem stp_byte : ∀ d : Fin 256, stp d.val = d.val → d.val = 0 := by decide +kernel
/-- Two bytes side by side swapped. -/
theorem mor_swapped (x : Nat) (p q : List Nat) (c d : Nat) (hx : x < 4294967296) (hp : ∀ b ∈ p, b < 256) (hq : ∀ b ∈ q, b < 256) (hc : c < 256) (hd : d < 256) : mor x (p ++ [c, d] ++ q) = mor x (p ++ [d, c] ++ q) ↔ c = d := by
  have l2 : ∀ a b : Nat, a < 256 → b < 256 → mor x (p ++ [a, b]) < 4294967296 := by
    intro a b ha hb
    refine mor_lt _ _ hx ?_
    intro e he
    rcases List.mem_append.1 he with h | h
    · exact hp e h
    · simp at h; omega
  rw [mor_append _ q, mor_append _ q, mor_inj q _ _ (l2 c d hc hd) (l2 d c hd hc) hq, mor_append, mor_append]
  have hm := mor_lt p x hx hp
  generalize mor x p = m at hm
  show stp (stp (m ^^^ c) ^^^ d) = stp (stp (m ^^^ d) ^^^ c) ↔ _
  have l1 : ∀ a b : Nat, a < 256 → b < 256 → stp (m ^^^ a) ^^^ b < 4294967296 := fun a b ha hb =>
    Nat.xor_lt_two_pow (n := 32) (stp_lt (Nat.xor_lt_two_pow (n := 32) hm (by omega))) (by omega)
  rw [stp_inj (l1 c d hc hd) (l1 d c hd hc), stp_xor, stp_xor]
  constructor
  · intro h
    have h2 : stp c ^^^ d = stp d ^^^ c := by
      rw [Nat.xor_assoc, Nat.xor_assoc] at h
      exact xor_inj_l.1 h
    have h3 : stp (c ^^^ d) = c ^^^ d := by
      rw [stp_xor]
      have this : stp c ^^^ d ^^^ (stp d ^^^ d) = stp d ^^^ c ^^^ (stp d ^^^ d) := by rw [h2]
      rw [show stp c ^^^ d ^^^ (stp d ^^^ d) = stp c ^^^ stp d from by rw [Nat.xor_comm (stp d) d, Nat.xor_assoc, ← Nat.xor_assoc d d, Nat.xor_self, Nat.zero_xor],
        show stp d ^^^ c ^^^ (stp d ^^^ d) = c ^^^ d from by rw [Nat.xor_comm (stp d) c, Nat.xor_assoc, ← Nat.xor_assoc (stp d) (stp d), Nat.xor_self, Nat.zero_xor]] at this
      exact this
    have lt : c ^^^ d < 256 := Nat.xor_lt_two_pow (n := 8) hc hd
    exact xor_eq_zero.1 (stp_byte ⟨c ^^^ d, lt⟩ h3)
  · rintro rfl; rfl
/-- What is above the lowest byte goes down unchanged. -/
theorem hals_up : ∀ (k y : Nat), hals k (y * 2 ^ k) = y
  | 0, y => by simp [hals]
  | k + 1, y => by
    have e : hal (y * 2 ^ (k + 1)) = y * 2 ^ k := by
      unfold hal
      have : y * 2 ^ (k + 1) = 2 * (y * 2 ^ k) := by rw [Nat.pow_succ, ← Nat.mul_assoc]; omega
      rw [this]
      rw [if_neg (by omega)]
      omega
    show hals k (hal (y * 2 ^ (k + 1))) = y
    rw [e]; exact hals_up k y
theorem split_byte (x : Nat) : (x / 256 * 256) ^^^ (x % 256) = x := by
  apply Nat.eq_of_testBit_eq
  intro i
  rw [Nat.testBit_xor, show (256 : Nat) = 2 ^ 8 from rfl, Nat.testBit_mul_two_pow, Nat.testBit_mod_two_pow, Nat.testBit_div_two_pow]
  by_cases h : i < 8
  · simp [h, show ¬ 8 ≤ i from by omega]
  · simp [h, show 8 ≤ i from by omega, show 8 + (i - 8) = i from by omega, show i - 8 + 8 = i from by omega]
theorem stp_split (x : Nat) : stp x = x / 256 ^^^ stp (x % 256) := by
  have h := hals_up 8 (x / 256)
  have e : stp (x / 256 * 256) = x / 256 := h
  calc stp x = stp ((x / 256 * 256) ^^^ (x % 256)) := by rw [split_byte]
    _ = _ := by rw [stp_xor, e]
/-- The program's step. -/
theorem stp_table (x c : Nat) (hc : c < 256) : stp (x ^^^ c) = x / 256 ^^^ stp (x % 256 ^^^ c) := by
  rw [stp_split (x ^^^ c)]
  have e1 : (x ^^^ c) / 256 = x / 256 := by
    have := Nat.shiftRight_xor_distrib (i := 8) (a := x) (b := c)
    simp only [Nat.shiftRight_eq_div_pow] at this
    rw [show (2 : Nat) ^ 8 = 256 from rfl, show c / 256 = 0 from by omega, Nat.xor_zero] at this
    exact this
  have e2 : (x ^^^ c) % 256 = x % 256 ^^^ c := by
    have := @Nat.xor_mod_two_pow x c 8
    rw [show (2 : Nat) ^ 8 = 256 from rfl, show c % 256 = c from by omega] at this
    exact this
  rw [e1, e2]
theorem not32 (x : Nat) (h : x < 4294967296) : 4294967295 ^^^ x = 4294967295 - x := by
  apply Nat.eq_of_testBit_eq
  intro i
  rw [show 4294967295 - x = 2 ^ 32 - (x + 1) from by omega, Nat.testBit_two_pow_sub_succ h, Nat.testBit_xor, show (4294967295 : Nat) = 2 ^ 32 - 1 from rfl, Nat.testBit_two_pow_sub_one]
  by_cases q : i < 32
  · simp [q]
  · have : x.testBit i = false := Nat.testBit_lt_two_pow (Nat.lt_of_lt_of_le h (Nat.pow_le_pow_right (n := 2) (by decide) (by omega : 32 ≤ i)))
    simp [q, this]
end Go.Proofs.Ytllcmapgigfgoaa
namespace Go.Proofs.Ytllcmapgigfgoaa
open Go.RowKit
set_option linter.unusedSimpArgs false
set_option linter.unusedVariables false

theorem xor32 (a b : Nat) (ha : a < 4294967296) (hb : b < 4294967296) : bits BinOp.xor IntKind.u32 (a : Int) (b : Int) = ((a ^^^ b : Nat) : Int) := u32_xor_nat a b ha hb
theorem odd32 (y : Nat) (hy : y < 4294967296) : bits BinOp.and IntKind.u32 (y : Int) 1 = ((y % 2 : Nat) : Int) := by
  have := u32_and_nat y 1 hy (by decide)
  rw [nat_mask1] at this
  exact this
theorem hal_odd {y : Nat} (hy : y < 4294967296) (h : y % 2 = 1) : bits BinOp.xor IntKind.u32 ((y : Int) / 2) 3988292384 = (hal y : Int) := by
  have := xor32 (y / 2) 3988292384 (by omega) (by decide)
  unfold hal
  rw [if_pos h]
  rw [← this]
  rfl
theorem hal_even {y : Nat} (h : ¬ y % 2 = 1) : (y : Int) / 2 = (hal y : Int) := by
  unfold hal
  rw [if_neg h]
  rfl
theorem hals_step {k y n : Nat} (hk : k < 8) (h : hals (8 - k) y = n) : hals (8 - (k + 1)) (hal y) = n := by
  rw [show 8 - k = (8 - (k + 1)) + 1 from by omega] at h
  exact h
set_option maxHeartbeats 800000 in
theorem sumstep_any (x : Nat) (w : World) (hx : x < 4294967296) : Calls Try.prog 89 #[.int .u32 x] w fun e w' => e = .returned (.int .u32 (stp x)) ∧ w = w' := by
  go_enter Try.func89, Try.ntmps89
  go_wp2
  go_loop [0, 4] (fun a c => ∃ k y : Nat, k ≤ 8 ∧ y < 4294967296 ∧ a = .int .u32 y ∧ c = .int .i64 k ∧ Hid (hals (8 - k) y = stp x)) (fun _ c => 8 - (intOf c).toNat)
  case atStart => exact ⟨0, x, by omega, hx, rfl, rfl, rfl⟩
  case round =>
    obtain ⟨k, y, hk, hy, rfl, rfl, hH⟩ := hrel
    by_cases hlt : k < 8
    · have hst := hals_step hlt hH.out
      have hl := hal_lt hy
      by_cases ho : y % 2 = 1
      · have hb : (bits BinOp.and IntKind.u32 (y : Int) 1 == 1) = true := by rw [odd32 y hy, ho]; rfl
        have hq := hal_odd hy ho
        have HST := Lib.hid hst
        have HQ := Lib.hid hq
        clear hst hq ho
        go_wp2
        go_round
        case rel => exact ⟨k + 1, hal y, by omega, hl, by rw [HQ.out], by go_num, HST.out⟩
        case measure => simp [intOf]; omega
      · have hb : (bits BinOp.and IntKind.u32 (y : Int) 1 == 1) = false := by rw [odd32 y hy, show y % 2 = 0 from by omega]; rfl
        have hq := hal_even ho
        have HST := Lib.hid hst
        have HQ := Lib.hid hq
        clear hst hq ho
        go_wp2
        go_round
        case rel => exact ⟨k + 1, hal y, by omega, hl, by rw [HQ.out], by go_num, HST.out⟩
        case measure => simp [intOf]; omega
    · have hz : y = stp x := by have := hH.out; rw [show 8 - k = 0 from by omega] at this; exact this
      subst hz
      go_wp2
      go_ret
      exact ⟨rfl, rfl⟩
set_option maxHeartbeats 800000 in
theorem rstep_any (x : Nat) (w : World) (hx : x < 4294967296) : Calls Try.prog 68 #[.int .u32 x] w fun e w' => e = .returned (.int .u32 (stp x)) ∧ w = w' := by
  go_enter Try.func68, Try.ntmps68
  go_wp2
  go_loop [0, 3] (fun a c => ∃ k y : Nat, k ≤ 8 ∧ y < 4294967296 ∧ a = .int .u32 y ∧ c = .int .i64 k ∧ Hid (hals (8 - k) y = stp x)) (fun _ c => 8 - (intOf c).toNat)
  case atStart => exact ⟨0, x, by omega, hx, rfl, rfl, rfl⟩
  case round =>
    obtain ⟨k, y, hk, hy, rfl, rfl, hH⟩ := hrel
    by_cases hlt : k < 8
    · have hst := hals_step hlt hH.out
      have hl := hal_lt hy
      by_cases ho : y % 2 = 1
      · have hb : ((y : Int) % 2 == 1) = true := by simp; omega
        have hq := hal_odd hy ho
        have HST := Lib.hid hst
        have HQ := Lib.hid hq
        clear hst hq ho
        go_wp2
        go_round
        case rel => exact ⟨k + 1, hal y, by omega, hl, by rw [HQ.out], by go_num, HST.out⟩
        case measure => simp [intOf]; omega
      · have hb : ((y : Int) % 2 == 1) = false := by simp; omega
        have hq := hal_even ho
        have HST := Lib.hid hst
        have HQ := Lib.hid hq
        clear hst hq ho
        go_wp2
        go_round
        case rel => exact ⟨k + 1, hal y, by omega, hl, by rw [HQ.out], by go_num, HST.out⟩
        case measure => simp [intOf]; omega
    · have hz : y = stp x := by have := hH.out; rw [show 8 - k = 0 from by omega] at this; exact this
      subst hz
      go_wp2
      go_ret
      exact ⟨rfl, rfl⟩
end Go.Proofs.Ytllcmapgigfgoaa
namespace Go.Proofs.Ytllcmapgigfgoaa
open Go.RowKit
set_option linter.unusedSimpArgs false
set_option linter.unusedVariables false

/-- The table's first cells. -/
def tabN (k : Nat) : Array Value := Array.ofFn (n := 256) fun i => .int .u32 (if i.val < k then stp i.val else 0 : Nat)
theorem tabN_size (k : Nat) : (tabN k).size = 256 := by simp [tabN]
theorem tabN_get (k i : Nat) (h : i < 256) : (tabN k)[i]? = some (.int .u32 (if i < k then stp i else 0 : Nat)) := by simp [tabN, h]
theorem tabN_set (k : Nat) (h : k < 256) : (tabN k).setIfInBounds k (.int .u32 (stp k : Nat)) = tabN (k + 1) := by
  apply Array.ext_getElem?
  intro i
  by_cases hi : i < 256
  · rw [tabN_get (k + 1) i hi, Array.getElem?_setIfInBounds]
    by_cases e : k = i
    · subst e
      simp [tabN_size, h]
    · rw [if_neg e, tabN_get k i hi]
      by_cases q : i < k
      · rw [if_pos q, if_pos (by omega)]
      · rw [if_neg q, if_neg (by omega)]
  · rw [Array.getElem?_eq_none (by simp [tabN_size]; omega), Array.getElem?_eq_none (by simp [tabN_size]; omega)]
theorem tabN_one (k : Nat) : (tabN k).all (·.oneCell') = true := by
  rw [Array.all_eq_true]
  intro i hi
  have h := tabN_get k i (by rw [tabN_size] at hi; exact hi)
  rw [Array.getElem?_eq_getElem hi] at h
  rw [Option.some.inj h]
  rfl
set_option maxRecDepth 100000 in
theorem tab_zero (w : World) : (zeroValue 162).run Try.prog w = .ok (.agg (Array.replicate 256 (.int .u32 0))) w := by kernel_rfl
set_option maxRecDepth 100000 in
theorem tab_zero2 : (Value.agg (Array.replicate 256 (.int .u32 0))).cells = tabN 0 := by
  show Array.replicate 256 (Value.int .u32 0) = _
  apply Array.ext_getElem?
  intro i
  by_cases hi : i < 256
  · rw [tabN_get 0 i hi]; simp [hi]
  · rw [Array.getElem?_eq_none (by simp; omega), Array.getElem?_eq_none (by simp [tabN_size]; omega)]
theorem tab_info : (Try.prog.info? 162).map (·.size) = some 256 := by kernel_rfl
theorem tab_info2 (k : Nat) : (Try.prog.info? 162).map (·.size) = some (tabN k).size := by rw [tabN_size]; exact tab_info

theorem u32_cast {i : Nat} (h : i < 256) : ((i : Int)) % 4294967296 = (i : Int) := by omega
set_option maxRecDepth 100000 in
set_option maxHeartbeats 1600000 in
theorem table_any (w : World) : Calls Try.prog 85 #[] w fun e w' => Hid (e = .returned (.agg (tabN 256))) ∧ Below w.heap.size w w' := by
  have HI0 := Lib.hid (tab_info2 0)
  have HI := Lib.hid (tab_info2 256)
  go_enter Try.func85, Try.ntmps85
  go_wp2_with (first
    | (refine wpList_alloc_new (o := ⟨some 0, _, _, _, _, _⟩) rfl 162 rfl _ tab_zero ?_; rw [tab_zero2]; intro w1 hc1 hs1 hb1; have HC1 := Lib.hid hc1; have HB1 := Lib.hid hb1; clear hc1 hb1)
    | (refine wpList_alloc_new (o := ⟨some 1, _, _, _, _, _⟩) rfl 162 rfl _ tab_zero ?_; rw [tab_zero2]; intro w2 hc2 hs2 hb2; have HC2 := Lib.hid hc2; have HB2 := Lib.hid hb2; clear hc2 hb2))
  have hc1 : w2.heap[w.heap.size]? = some (.cells (tabN 0) 162 (0, 0)) := by rw [HB2.out.block _ (by omega)]; exact HC1.out
  have hB : Below w.heap.size w w2 := HB1.out.trans (HB2.out.mono (by omega))
  have HC1' := Lib.hid hc1
  have HB := Lib.hid hB
  clear hc1 hB HC1 HB1 HB2
  go_loopw [3] (fun c wr => ∃ k : Nat, k ≤ 256 ∧ c = .int .i64 k ∧ Hid (wr.heap[w1.heap.size]? = some (.cells (tabN k) 162 (0, 0))) ∧ Hid (wr.heap[w.heap.size]? = some (.cells (tabN 0) 162 (0, 0))) ∧ Hid (Below w.heap.size w wr)) (fun c _ => 256 - (intOf c).toNat)
  case atStart => exact ⟨0, by omega, rfl, HC2, HC1', HB⟩
  case round =>
    clear HC1' HB HC2
    obtain ⟨k, hk, rfl, hC2, hC1, hB⟩ := hrel
    by_cases hlt : k < 256
    · have hc := cell_of_row wr w1.heap.size k _ _ _ hC2.out
      rw [tabN_get k k hlt, if_neg (by omega)] at hc
      have hf := frozen_of_row wr w1.heap.size k _ _ hC2.out
      have hw := u32_cast hlt
      go_wp2_with (go_at_call 89; refine (sumstep_any k _ (by omega)).mono ?_; rintro e w3 ⟨rfl, rfl⟩)
      go_roundw
      case rel => 
        refine ⟨k + 1, by omega, by go_num, ?_, ?_, ?_⟩
        · have := heap_setCell_same wr w1.heap.size k (tabN k) 162 (.int .u32 (stp k : Nat)) hC2.out
          rw [tabN_set k hlt] at this
          exact this
        · show Hid _
          unfold Hid
          rw [heap_setCell_other _ _ _ _ (by simp; omega)]
          exact hC1.out
        · exact hB.out.setCell (by simp; omega) _
      case measure => simp [intOf]; omega
    · have e : k = 256 := by omega
      subst e
      have HK := Lib.hid (tabN_one 256)
      go_wp2_with (first
        | (refine wpList_load_row rfl 162 _ rfl w1.heap.size rfl 162 (tabN 256) (0, 0) _ hC2.out Try.underlying162 rfl HI.out ?_)
        | (refine wpList_store_row rfl 162 _ _ rfl w.heap.size rfl (tabN 256) rfl (tabN 0) 162 hC1.out HI.out (by rw [tabN_size, tabN_size]) HK.out ?_))
      refine bodyPost_ret (v := .agg (tabN 256)) ?_ rfl ⟨rfl, below_setRow hB.out (Nat.le_refl _) _⟩
      exact results_cell_row rfl _ _ w.heap.size 162 (tabN 256) (0, 0) _ rfl (heap_setRow_same _ _ _ _ _ hC1.out) Try.underlying162 rfl HI.out
end Go.Proofs.Ytllcmapgigfgoaa
namespace Go.Proofs.Ytllcmapgigfgoaa
open Go.RowKit
set_option linter.unusedSimpArgs false
set_option linter.unusedVariables false

/-- The sum of bytes behind a sum. -/
def sumN (s : Nat) (xs : List Int) : Nat := 4294967295 - mor (4294967295 - s) (xs.map Int.toNat)
theorem sumN_lt (s : Nat) (xs : List Int) : sumN s xs < 4294967296 := by unfold sumN; omega
theorem not_u32 (y : Nat) (h : y < 4294967296) : bits BinOp.xor IntKind.u32 IntKind.u32.max (y : Int) = ((4294967295 - y : Nat) : Int) := by
  have := xor32 4294967295 y (by decide) h
  rw [not32 y h] at this
  exact this
theorem xor8 (a b : Nat) (ha : a < 256) (hb : b < 256) : bits BinOp.xor IntKind.u8 (a : Int) (b : Int) = ((a ^^^ b : Nat) : Int) := u8_xor_nat a b ha hb
theorem mor_step {y c : Nat} {l : List Nat} {n : Nat} (h : mor y (c :: l) = n) (hc : c < 256) : mor (y / 256 ^^^ stp (y % 256 ^^^ c)) l = n := by
  rw [← stp_table y c hc]; exact h
theorem drop_step {xs : List Int} {k : Nat} (h : k < xs.length) : (xs.map Int.toNat).drop k = (xs.getD k 0).toNat :: (xs.map Int.toNat).drop (k + 1) := by
  rw [List.drop_eq_getElem_cons (by simpa using h)]
  simp [List.getD, h]
theorem bt_cell {w : World} {a : Option Addr} {xs : List Int} {k : Nat} (h : BRd w a xs) (hk : k < xs.length) : ∃ g off, a = some ⟨g, off, none⟩ ∧ g < w.heap.size ∧ w.cell? ⟨g, off + k, none⟩ = some (.int .u8 (xs.getD k 0)) := by
  rcases h.2 with h0 | ⟨g, off, ha, hg, hc⟩
  · subst h0; simp at hk
  · exact ⟨g, off, ha, hg, hc k hk⟩
theorem getD_range {xs : List Int} (hx : ∀ x ∈ xs, 0 ≤ x ∧ x ≤ 255) (k : Nat) : 0 ≤ xs.getD k 0 ∧ xs.getD k 0 ≤ 255 := by
  by_cases h : k < xs.length
  · have := hx (xs[k]) (List.getElem_mem h)
    simpa [List.getD, h] using this
  · simp [List.getD, h]

set_option maxRecDepth 100000 in
set_option maxHeartbeats 3200000 in
theorem summore_any (s : Nat) (v : Value) (xs : List Int) (w : World) (hs : s < 4294967296) (hb : Bt w v xs) (hx : ∀ x ∈ xs, 0 ≤ x ∧ x ≤ 255) :
    Calls Try.prog 79 #[.int .u32 s, v] w fun e w' => e = .returned (.int .u32 (sumN s xs)) ∧ Below w.heap.size w w' := by
  have HI := Lib.hid (tab_info2 256)
  have hns := not_u32 s hs
  have HNS := Lib.hid hns
  clear hns
  obtain ⟨a, cap, rfl, hr, hf⟩ := hb.row
  have HR := Lib.hid hr
  have HX := Lib.hid hx
  have HK := Lib.hid (tabN_one 256)
  have hlen := hr.1
  clear hb hr hf hx
  go_enter Try.func79, Try.ntmps79
  go_wp2_with (first
    | (go_at_call 85; refine (table_any _).mono ?_; rintro e w1 ⟨he, hb1⟩; rw [he.out]; have HB1 := Lib.hid hb1; clear hb1 he)
    | (refine wpList_alloc_new (o := ⟨some 5, _, _, _, _, _⟩) rfl 162 rfl _ tab_zero ?_; rw [tab_zero2]; intro w2 hc2 hs2 hb2; have HC2 := Lib.hid hc2; have HB2 := Lib.hid hb2; clear hc2 hb2)
    | (refine wpList_store_row rfl 162 _ _ rfl w1.heap.size rfl (tabN 256) rfl (tabN 0) 162 HC2.out HI.out (by rw [tabN_size, tabN_size]) HK.out ?_; obtain ⟨w3, hw3⟩ : ∃ w3, w2.setRow w1.heap.size (tabN 256) = w3 := ⟨_, rfl⟩; rw [hw3]; have HW3 := Lib.hid hw3; clear hw3))
  have hC : w3.heap[w1.heap.size]? = some (.cells (tabN 256) 162 (0, 0)) := by rw [← HW3.out]; exact heap_setRow_same _ _ _ _ _ HC2.out
  have hB : Below w.heap.size w w3 := by
    rw [← HW3.out]
    exact below_setRow (HB1.out.trans (HB2.out.mono HB1.out.size)) HB1.out.size _
  have hR3 : BRd w3 a xs := HR.out.below hB
  have HC := Lib.hid hC
  have HB := Lib.hid hB
  have HR3 := Lib.hid hR3
  clear hC hB hR3 HC2 HB1 HB2 HR HW3 HK HI
  rw [HNS.out]
  go_loop [6, 14] (fun x c => ∃ k y : Nat, k ≤ xs.length ∧ y < 4294967296 ∧ x = .int .u32 y ∧ c = .int .i64 k ∧ Hid (mor y ((xs.map Int.toNat).drop k) = mor (4294967295 - s) (xs.map Int.toNat))) (fun _ c => xs.length - (intOf c).toNat)
  case atStart => exact ⟨0, 4294967295 - s, by omega, by omega, rfl, rfl, rfl⟩
  case round =>
    obtain ⟨k, y, hk, hy, rfl, rfl, hH⟩ := hrel
    by_cases hlt : k < xs.length
    · have hcr := getD_range HX.out k
      obtain ⟨c, hc⟩ : ∃ c : Nat, xs.getD k 0 = (c : Int) := ⟨(xs.getD k 0).toNat, by omega⟩
      have hc256 : c < 256 := by omega
      have hst := hH.out
      rw [drop_step hlt, hc, Int.toNat_natCast] at hst
      have hst2 := mor_step hst hc256
      obtain ⟨g, off, rfl, hg, hcell⟩ := bt_cell HR3.out hlt
      rw [hc] at hcell
      have hx8 := xor8 (y % 256) c (by omega) hc256
      have hn256 : y % 256 ^^^ c < 256 := Nat.xor_lt_two_pow (n := 8) (by omega) hc256
      have hsl : stp (y % 256 ^^^ c) < 4294967296 := stp_lt (by omega)
      have hx32 := xor32 (y / 256) (stp (y % 256 ^^^ c)) (by omega) hsl
      have hy2 : y / 256 ^^^ stp (y % 256 ^^^ c) < 4294967296 := Nat.xor_lt_two_pow (n := 32) (by omega) hsl
      obtain ⟨n, hn⟩ : ∃ n, y % 256 ^^^ c = n := ⟨_, rfl⟩
      rw [hn] at hx8 hn256 hsl hx32 hy2 hst2
      have hcell2 := cell_of_row w3 w1.heap.size n _ _ _ HC.out
      rw [tabN_get 256 n hn256, if_pos hn256] at hcell2
      have HY := Lib.hid hst2
      rw [show ((y % 256 : Nat) : Int) = (y : Int) % 256 from rfl] at hx8
      rw [show ((y / 256 : Nat) : Int) = (y : Int) / 256 from rfl] at hx32
      clear hst hst2 hn hc hcr
      go_wp2
      go_round
      case rel => exact ⟨k + 1, y / 256 ^^^ stp n, by omega, hy2, rfl, by go_num, HY.out⟩
      case measure => simp [intOf]; omega
    · have e : y = mor (4294967295 - s) (xs.map Int.toNat) := by
        have := hH.out
        rw [List.drop_of_length_le (by simp; omega)] at this
        exact this
      have hny := not_u32 y hy
      have HNY := Lib.hid hny
      have E := Lib.hid e
      clear hny e
      go_wp2
      go_ret
      refine ⟨?_, HB.out⟩
      rw [HNY.out, E.out]
      rfl
set_option maxHeartbeats 1600000 in
theorem sumof_any (v : Value) (xs : List Int) (w : World) (hb : Bt w v xs) (hx : ∀ x ∈ xs, 0 ≤ x ∧ x ≤ 255) :
    Calls Try.prog 66 #[v] w fun e w' => e = .returned (.int .u32 (sumN 0 xs)) ∧ Below w.heap.size w w' := by
  have HB := Lib.hid hb
  have HX := Lib.hid hx
  clear hb hx
  go_enter Try.func66, Try.ntmps66
  go_wp2_with (go_at_call 79; refine (summore_any 0 _ _ _ (by decide) HB.out HX.out).mono ?_; rintro e w1 ⟨rfl, hb1⟩)
  go_ret
  exact ⟨rfl, hb1⟩
theorem byt_get (s : ByteArray) (k : Nat) (h : k < s.size) : (byt s).getD k 0 = (s[k].toNat : Int) := by
  have h2 : k < s.data.size := h
  have e1 : s.data[k]? = some s.data[k] := by simp [h2]
  simp [byt, List.getD, e1]
  rfl
set_option maxRecDepth 100000 in
set_option maxHeartbeats 3200000 in
theorem rmore_any (s : Nat) (b : ByteArray) (w : World) (hs : s < 4294967296) (hl : b.size ≤ 9223372036854775807) :
    Calls Try.prog 49 #[.int .u32 s, .string b] w fun e w' => e = .returned (.int .u32 (sumN s (byt b))) ∧ w = w' := by
  have hns : (4294967295 : Int) - (s : Int) = ((4294967295 - s : Nat) : Int) := by omega
  have HNS := Lib.hid hns
  clear hns
  go_enter Try.func49, Try.ntmps49
  go_wp2
  rw [HNS.out]
  go_loop [5, 6] (fun x c => ∃ k y : Nat, k ≤ b.size ∧ y < 4294967296 ∧ x = .int .u32 y ∧ c = .int .i64 k ∧ Hid (mor y (((byt b).map Int.toNat).drop k) = mor (4294967295 - s) ((byt b).map Int.toNat))) (fun _ c => b.size - (intOf c).toNat)
  case atStart => exact ⟨0, 4294967295 - s, by omega, by omega, rfl, rfl, rfl⟩
  case round =>
    obtain ⟨k, y, hk, hy, rfl, rfl, hH⟩ := hrel
    by_cases hlt : k < b.size
    · have hst := hH.out
      rw [drop_step (by rw [byt_length]; exact hlt), byt_get b k hlt, Int.toNat_natCast] at hst
      have hc256 : b[k].toNat < 256 := b[k].toNat_lt
      have hx32 := xor32 y b[k].toNat hy (by omega)
      have hyl : y ^^^ b[k].toNat < 4294967296 := Nat.xor_lt_two_pow (n := 32) hy (by omega)
      have hmod : ((b[k].toNat : Nat) : Int) % 4294967296 = (b[k].toNat : Int) := by omega
      have HST := Lib.hid hst
      clear hst
      have hsl := stp_lt hyl
      have HX := Lib.hid hx32
      clear hx32
      go_wp2_with (go_at_call 68; rw [HX.out]; refine (rstep_any _ _ hyl).mono ?_; rintro e w3 ⟨rfl, rfl⟩)
      go_round
      case rel => exact ⟨k + 1, stp (y ^^^ b[k].toNat), by omega, hsl, rfl, by go_num, HST.out⟩
      case measure => simp [intOf]; omega
    · have e : y = mor (4294967295 - s) ((byt b).map Int.toNat) := by
        have := hH.out
        rw [List.drop_of_length_le (by simp [byt_length]; omega)] at this
        exact this
      have E := Lib.hid e
      clear e
      go_wp2
      go_ret
      refine ⟨?_, rfl⟩
      refine ret_int ?_
      unfold sumN
      rw [← E.out]
      omega
end Go.Proofs.Ytllcmapgigfgoaa
namespace Go.Proofs.Ytllcmapgigfgoaa
open Go.RowKit
set_option linter.unusedSimpArgs false
set_option linter.unusedVariables false

/-- A number as four bytes, the lowest first. -/
def f4 (n : Nat) : List Int := [(n : Int) % 256, (n : Int) / 256 % 256, (n : Int) / 65536 % 256, (n : Int) / 16777216]
theorem f4_range {n : Nat} (h : n < 4294967296) : ∀ x ∈ f4 n, 0 ≤ x ∧ x ≤ 255 := by
  intro x hx
  simp only [f4, List.mem_cons, List.not_mem_nil, or_false] at hx
  omega
set_option maxHeartbeats 1600000 in
theorem four_any (n : Nat) (w : World) (h : n < 4294967296) : Calls Try.prog 65 #[.int .u32 n] w fun e w' => e = .returned (.agg #[.int .u8 ((n : Int) % 256), .int .u8 ((n : Int) / 256 % 256), .int .u8 ((n : Int) / 65536 % 256), .int .u8 ((n : Int) / 16777216)]) ∧ Below w.heap.size w w' := by
  go_enter Try.func65, Try.ntmps65
  go_wp2
  refine bodyPost_ret (v := .agg #[.int .u8 ((n : Int) % 256), .int .u8 ((n : Int) / 256 % 256), .int .u8 ((n : Int) / 65536 % 256), .int .u8 ((n : Int) / 16777216)]) ?_ rfl ⟨rfl, (Below.refl _ w).alloc (Nat.le_refl _) _⟩
  exact results_cell_row rfl _ _ w.heap.size 138 _ (0, 0) _ rfl (heap_alloc_last w _) Try.underlying138 rfl (by kernel_rfl)
theorem or32 (a b : Nat) (i : Nat) (ha : a < 2 ^ i) (hb : b % 2 ^ i = 0) (hl : a < 4294967296) (hm : b < 4294967296) : bits BinOp.or IntKind.u32 (a : Int) (b : Int) = ((a + b : Nat) : Int) := by
  rw [u32_or_nat a b hl hm, Nat.or_comm, nat_join i b a hb ha, Nat.add_comm]
set_option maxHeartbeats 1600000 in
theorem told_any (a b c d : Nat) (w : World) (ha : a < 256) (hb : b < 256) (hc : c < 256) (hd : d < 256) : Calls Try.prog 67 #[.agg #[.int .u8 a, .int .u8 b, .int .u8 c, .int .u8 d]] w fun e w' => e = .returned (.int .u32 (a + 256 * b + 65536 * c + 16777216 * d : Nat)) ∧ Below w.heap.size w w' := by
  have e1 : bits BinOp.or IntKind.u32 (a : Int) ((b : Int) * 256) = ((a + b * 256 : Nat) : Int) := or32 a (b * 256) 8 (by omega) (by omega) (by omega) (by omega)
  have e2 : bits BinOp.or IntKind.u32 ((a + b * 256 : Nat) : Int) ((c : Int) * 65536) = ((a + b * 256 + c * 65536 : Nat) : Int) := or32 (a + b * 256) (c * 65536) 16 (by omega) (by omega) (by omega) (by omega)
  have e3 : bits BinOp.or IntKind.u32 ((a + b * 256 + c * 65536 : Nat) : Int) ((d : Int) * 16777216) = ((a + b * 256 + c * 65536 + d * 16777216 : Nat) : Int) := or32 (a + b * 256 + c * 65536) (d * 16777216) 24 (by omega) (by omega) (by omega) (by omega)
  have E1 := Lib.hid e1
  have E2 := Lib.hid e2
  have E3 := Lib.hid e3
  clear e1 e2 e3
  go_enter Try.func67, Try.ntmps67
  go_wp2
  go_ret
  refine ⟨ret_int ?_, (Below.refl _ w).alloc (Nat.le_refl _) _⟩
  rw [E1.out, E2.out, E3.out]
  omega
end Go.Proofs.Ytllcmapgigfgoaa
namespace Go.Proofs.Ytllcmapgigfgoaa
open Go.RowKit
set_option linter.unusedSimpArgs false
set_option linter.unusedVariables false

section
variable {ops : Array Oper} {rest : List Oper} {o : Oper} {a : Act} {w : World} {Q : Exit → Act → World → Prop}
theorem bt_sliced {xs : List Int} {ad : Option Addr} {cap : Nat} (h1 : BRd w ad xs) (h2 : Fits ad xs cap) (l h : Nat) (hlh : l ≤ h) (hh : h ≤ xs.length) : Bt w (sliced ad l h cap 1) ((xs.take h).drop l) := by
  have hlen : ((xs.take h).drop l).length = h - l := by simp; omega
  unfold sliced
  by_cases q : cap = l
  · rw [if_pos q]
    have hz : (xs.take h).drop l = [] := List.eq_nil_of_length_eq_zero (by rw [hlen]; have := h2.2.1; omega)
    rw [hz]
    refine ⟨ad, cap - l, by rw [show h - l = 0 from by have := h2.2.1; omega]; rfl, ⟨by simp, .inl rfl⟩, fun e => by have := h2.1 e; omega, by simp, by have := h2.2.2.1; omega, h2.2.2.2⟩
  · rw [if_neg q]
    refine ⟨ad.map (·.add (l * 1)), cap - l, by rw [hlen], ⟨by rw [hlen]; have := h1.1; omega, ?_⟩, ?_, by rw [hlen]; have := h2.2.1; omega, by have := h2.2.2.1; omega, ?_⟩
    · rcases h1.2 with h0 | ⟨g, off, ha, hg, hc⟩
      · left; subst h0; simp at hh; subst hh; simp
      · by_cases z : (xs.take h).drop l = []
        · exact .inl z
        right
        subst ha
        refine ⟨g, off + l, ?_, hg, fun i hi => ?_⟩
        · simp only [Option.map_some]
          congr 1
          unfold Addr.add
          by_cases z : l = 0
          · subst z; rfl
          · simp [z]
        · rw [hlen] at hi
          have := hc (l + i) (by omega)
          rw [Nat.add_assoc, this]
          congr 2
          simp [List.getD, List.getElem?_take, show l + i < h from by omega]
    · intro e
      cases ad with
      | none => have := h2.1 rfl; omega
      | some x => cases e
    · intro x hx
      cases ad with
      | none => cases hx
      | some y =>
        simp only [Option.map_some, Option.some.injEq] at hx
        have := h2.2.2.2 y rfl
        rw [← hx]
        unfold Addr.add
        split
        · exact this
        · simp [this]
/-- 's[l:h]' of bytes. -/
theorem wpList_cut (hw : Region.wanted o (yielded ops a.tmps) = true) (x lo hi : Operand) (ho : o.op = .slice 49 x (some lo) (some hi) none) (v : Value) (xs : List Int) (hx : a.eval x = v) (hb : Bt w v xs)
    (l h : Nat) (li hj : Int) (hl : a.eval lo = .int .i64 li) (hli : li = (l : Int)) (hh : a.eval hi = .int .i64 hj) (hhj : hj = (h : Int)) (hlh : l ≤ h) (hn : h ≤ xs.length)
    (hk : ∀ v', Bt w v' ((xs.take h).drop l) → wpList Try.prog ops Q rest (a.put o.dst v') w) : wpList Try.prog ops Q (o :: rest) a w := by
  subst hli hhj
  obtain ⟨ad, cap, rfl, h1, h2⟩ := hb.row
  refine wpList_value hw _ w ?_ (hk _ (bt_sliced h1 h2 l h hlh hn))
  have hu : Try.prog.underlying 49 = some (.slice (Try.prog.elem 49)) := by kernel_rfl
  have hs : ∀ w, (sizeOf (Try.prog.elem 49)).run Try.prog w = .ok 1 w := fun w => by kernel_rfl
  unfold execOp
  simp only [ho, Option.map_some, Option.map_none, hx, hl, hh, Sem.run_bind, Sem.run_pure, Result.andThen_ok]
  rw [run_sliceAt_slice (h := hu), run_slice_lh (ht := hu) (h0 := by omega) (h1 := by omega) (h2 := by have := h2.2.1; omega), hs]
  rfl
/-- 's[l:]' of bytes. -/
theorem wpList_cut_l (hw : Region.wanted o (yielded ops a.tmps) = true) (x lo : Operand) (ho : o.op = .slice 49 x (some lo) none none) (v : Value) (xs : List Int) (hx : a.eval x = v) (hb : Bt w v xs)
    (l : Nat) (li : Int) (hl : a.eval lo = .int .i64 li) (hli : li = (l : Int)) (hn : l ≤ xs.length)
    (hk : ∀ v', Bt w v' (xs.drop l) → wpList Try.prog ops Q rest (a.put o.dst v') w) : wpList Try.prog ops Q (o :: rest) a w := by
  subst hli
  obtain ⟨ad, cap, rfl, h1, h2⟩ := hb.row
  have key := bt_sliced h1 h2 l xs.length hn (Nat.le_refl _)
  rw [List.take_length] at key
  refine wpList_value hw _ w ?_ (hk _ key)
  have hu : Try.prog.underlying 49 = some (.slice (Try.prog.elem 49)) := by kernel_rfl
  have hs : ∀ w, (sizeOf (Try.prog.elem 49)).run Try.prog w = .ok 1 w := fun w => by kernel_rfl
  unfold execOp
  simp only [ho, Option.map_some, Option.map_none, hx, hl, Sem.run_bind, Sem.run_pure, Result.andThen_ok]
  rw [run_sliceAt_slice (h := hu), run_slice_l (ht := hu) (h0 := by omega) (h1 := by omega), hs]
  rfl
end

/-- A body's frame. -/
def frm (xs : List Int) : List Int := f4 xs.length ++ f4 (sumN 0 xs) ++ xs
theorem frm_length (xs : List Int) : (frm xs).length = xs.length + 8 := by simp [frm, f4]
theorem frm_range {xs : List Int} (h : ∀ x ∈ xs, 0 ≤ x ∧ x ≤ 255) (hl : xs.length < 4294967296) : ∀ x ∈ frm xs, 0 ≤ x ∧ x ≤ 255 := by
  intro x hx
  simp only [frm, List.mem_append] at hx
  rcases hx with (q | q) | q
  · exact f4_range hl x q
  · exact f4_range (sumN_lt 0 xs) x q
  · exact h x q
def PutPost (xs : List Int) (w : World) (e : Ending) (w' : World) : Prop := ∃ v', Hid (e = .returned (.tuple #[v', .int .i64 0])) ∧ Bt w' v' (frm xs) ∧ Below w.heap.size w w'
set_option maxHeartbeats 1600000 in
theorem put_long (v : Value) (xs : List Int) (w : World) (hb : Bt w v xs) (hl : ¬ xs.length ≤ 16777215) : Calls Try.prog 46 #[v] w fun e w' => e = .returned (.tuple #[.slice none 0 0, .int .i64 13]) ∧ w = w' := by
  obtain ⟨a, cap, rfl, h1, h2⟩ := hb.row
  have hlen := h1.1
  have t1 : (16777215 : Int) < xs.length := by omega
  clear hb h1 h2 hl
  go_enter Try.func46, Try.ntmps46
  go_wp2
  go_ret2
  exact ⟨rfl, rfl⟩
/-- A row of bytes below a block. -/
theorem Bt.belowN {w w' : World} {N n c : Nat} {g off : Nat} {xs : List Int} (h : Bt w (.slice (some ⟨g, off, none⟩) n c) xs) (hg : g < N) (hb : Below N w w') : Bt w' (.slice (some ⟨g, off, none⟩) n c) xs := by
  obtain ⟨a, cap, e, h1, h2⟩ := h.row
  simp only [Value.slice.injEq] at e
  obtain ⟨rfl, rfl, rfl⟩ := e
  refine ⟨_, _, rfl, ⟨h1.1, ?_⟩, h2⟩
  rcases h1.2 with h0 | ⟨b, o, ha, hbl, hc⟩
  · exact .inl h0
  · cases ha
    exact .inr ⟨_, _, rfl, by have := hb.size; omega, fun i hi => by rw [hb.cell (p := ⟨g, off + i, none⟩) hg]; exact hc i hi⟩
theorem bt_four (w w1 : World) (g : Nat) (x y z t : Int) (hg : g < w.heap.size) (h0 : w.cell? ⟨g, 0, none⟩ = some (.int .u8 x)) (h1 : w.cell? ⟨g, 1, none⟩ = some (.int .u8 y)) (h2 : w.cell? ⟨g, 2, none⟩ = some (.int .u8 z)) (h3 : w.cell? ⟨g, 3, none⟩ = some (.int .u8 t)) : Bt w (.slice (some ⟨g, 0, none⟩) 4 4) [x, y, z, t] := by
  refine ⟨some ⟨g, 0, none⟩, 4, rfl, ⟨by simp, .inr ⟨g, 0, rfl, hg, fun i hi => ?_⟩⟩, (fun h => by cases h), by simp, by omega, fun q e => by cases e; rfl⟩
  simp at hi
  obtain rfl | rfl | rfl | rfl : i = 0 ∨ i = 1 ∨ i = 2 ∨ i = 3 := by omega
  · exact h0
  · exact h1
  · exact h2
  · exact h3
set_option maxRecDepth 100000 in
set_option maxHeartbeats 4000000 in
theorem put_good (v : Value) (xs : List Int) (w : World) (hb : Bt w v xs) (hx : ∀ x ∈ xs, 0 ≤ x ∧ x ≤ 255) (hl : xs.length ≤ 16777215) : Calls Try.prog 46 #[v] w (PutPost xs w) := by
  have HB := Lib.hid hb
  have HX := Lib.hid hx
  obtain ⟨a, cap, rfl, h1, h2⟩ := hb.row
  have t1 : ¬ (16777215 : Int) < xs.length := by omega
  have z1 : xs.length < 4294967296 := by omega
  have z2 := sumN_lt 0 xs
  have HL := Lib.hid hl
  have lb := hb.len
  clear h1 h2 hx hl hb
  go_enter Try.func46, Try.ntmps46
  go_wp2_with fail
  refine (four_any _ _ z1).mono ?_
  rintro e w1 ⟨rfl, hb1⟩
  have HB1 := Lib.hid hb1
  clear hb1
  go_wp2_with fail
  refine (sumof_any _ _ _ (HB.out.below HB1.out) HX.out).mono ?_
  rintro e w2 ⟨rfl, hb2⟩
  have HB2 : Hid (Below w.heap.size w w2) := below_self HB1.out hb2
  clear hb2 HB1
  go_wp2_with fail
  refine (four_any _ _ z2).mono ?_
  rintro e w3 ⟨rfl, hb3⟩
  have HB3 : Hid (Below w.heap.size w w3) := below_self HB2.out hb3
  clear hb3 HB2
  obtain ⟨L, hL⟩ : ∃ L, xs.length = L := ⟨_, rfl⟩
  obtain ⟨N, hN⟩ : ∃ N, sumN 0 xs = N := ⟨_, rfl⟩
  have HF : Hid (f4 L ++ f4 N ++ xs = frm xs) := by unfold Hid frm; rw [hL, hN]
  have hL2 : L ≤ 100000000 := by rw [← hL]; exact Nat.le_trans HL.out (by decide)
  rw [hL, hN]
  rw [hL] at HB lb
  clear hN z2 z1 HL
  have HLL := Lib.hid hL
  clear hL
  go_wp2_with (first
    | (refine wpList_make8 rfl _ _ rfl rfl (8 + L) _ rfl (by omega) (by omega) (w3.heap.size + 1 + 1) (by simp) ?_))
  intro v4 w4 ho4 hb4
  obtain ⟨wA, hA⟩ : ∃ wA, (w3.alloc (Obj.cells #[Value.int IntKind.u8 ((L : Int) % 256), Value.int IntKind.u8 ((L : Int) / 256 % 256), Value.int IntKind.u8 ((L : Int) / 65536 % 256), Value.int IntKind.u8 ((L : Int) / 16777216)] 138)).alloc (Obj.cells #[Value.int IntKind.u8 ((N : Int) % 256), Value.int IntKind.u8 ((N : Int) / 256 % 256), Value.int IntKind.u8 ((N : Int) / 65536 % 256), Value.int IntKind.u8 ((N : Int) / 16777216)] 138) = wA := ⟨_, rfl⟩
  have sA : w3.heap.size + 1 + 1 = wA.heap.size := by rw [← hA]; simp
  have b0 : Bt wA (.slice (some ⟨w3.heap.size, 0, none⟩) 4 4) (f4 L) := by
    rw [← hA]
    exact bt_four _ w3 _ _ _ _ _ (by simp; omega) (by simp [go_sem]) (by simp [go_sem]) (by simp [go_sem]) (by simp [go_sem])
  have b1 : Bt wA (.slice (some ⟨w3.heap.size + 1, 0, none⟩) 4 4) (f4 N) := by
    rw [← hA]
    exact bt_four _ w3 _ _ _ _ _ (by simp) (by simp [go_sem]) (by simp [go_sem]) (by simp [go_sem]) (by simp [go_sem])
  have bA : Below w.heap.size w wA := by
    rw [← hA]
    exact (HB3.out.alloc HB3.out.size _).alloc (by simp; have := HB3.out.size; omega) _
  have hbA : Below wA.heap.size wA w4 := by rw [hA] at hb4; rw [← sA]; exact hb4
  have B0 := Lib.hid (b0.below hbA)
  have B1 := Lib.hid (b1.below hbA)
  have HB4 : Hid (Below w.heap.size w w4) := below_self bA hbA
  have HO4 := Lib.hid ho4
  have hz4 := hbA.size
  have hz3 := HB3.out.size
  rw [← sA] at hz4
  clear b0 b1 bA hbA hb4 ho4 sA hA HB3
  go_wp2_with (refine wpList_app (o := ⟨some 23, _, _, _, _, _⟩) rfl _ _ rfl (w3.heap.size + 1 + 1) _ _ rfl HO4.out _ _ rfl B0.out (by simp [f4]) hz4 ?_)
  intro v5 w5 ho5 hb5 hz5
  have HB5 : Hid (Below w.heap.size w w5) := HB4.out.trans (hb5.mono (by omega))
  have B1' : Hid (Bt w5 (.slice (some ⟨w3.heap.size + 1, 0, none⟩) 4 4) (f4 N)) := B1.out.belowN (by omega) hb5
  have HO5 := Lib.hid ho5
  have hz5' : w3.heap.size + 1 + 1 ≤ w5.heap.size := by omega
  clear ho5 hb5 HO4 HB4 B0 B1 hz5
  go_wp2_with (refine wpList_app (o := ⟨some 26, _, _, _, _, _⟩) rfl _ _ rfl (w3.heap.size + 1 + 1) _ _ rfl HO5.out _ _ rfl B1'.out (by simp [f4]) hz5' ?_)
  intro v6 w6 ho6 hb6 hz6
  have HB6 : Hid (Below w.heap.size w w6) := HB5.out.trans (hb6.mono (by omega))
  have HO6 := Lib.hid ho6
  have hz6' : w3.heap.size + 1 + 1 ≤ w6.heap.size := by omega
  clear ho6 hb6 HO5 HB5 B1' hz6
  go_wp2_with (refine wpList_app (o := ⟨some 29, _, _, _, _, _⟩) rfl _ _ rfl (w3.heap.size + 1 + 1) _ _ rfl HO6.out _ _ rfl (HB.out.below HB6.out) (by simp [f4, HLL.out]; omega) hz6' ?_)
  intro v7 w7 ho7 hb7 hz7
  have HB7 : Hid (Below w.heap.size w w7) := HB6.out.trans (hb7.mono (by omega))
  have HO7 : Hid (Own8 w7 (w3.heap.size + 1 + 1) v7 (frm xs)) := by
    unfold Hid
    rw [← HF.out]
    simpa using ho7
  clear ho7 hb7 HO6 HB6 hz7
  go_wp2
  go_ret2
  exact ⟨v7, rfl, HO7.out.bt (by rw [frm_length, HLL.out]; omega), HB7.out⟩
end Go.Proofs.Ytllcmapgigfgoaa
namespace Go.Proofs.Ytllcmapgigfgoaa
open Go.RowKit
set_option linter.unusedSimpArgs false
set_option linter.unusedVariables false

/-- The number that four bytes tell. -/
def dec4 (l : List Int) : Nat := (l.getD 0 0).toNat + 256 * (l.getD 1 0).toNat + 65536 * (l.getD 2 0).toNat + 16777216 * (l.getD 3 0).toNat
theorem dec4_lt {l : List Int} (h : ∀ x ∈ l, 0 ≤ x ∧ x ≤ 255) : dec4 l < 4294967296 := by
  have h0 := getD_range h 0
  have h1 := getD_range h 1
  have h2 := getD_range h 2
  have h3 := getD_range h 3
  unfold dec4
  omega
/-- What Take answers, of bytes that tell a length and a sum: the body, how long its frame is, what is wrong. -/
def tkG (b : List Int) (D C : Nat) : List Int × Int × Int :=
  if b.length < 8 then ([], 0, 10)
  else if (16777215 : Int) < (D : Int) then ([], 0, 13)
  else if b.length < 8 + D then ([], 0, 10)
  else if sumN 0 ((b.take (8 + D)).drop 8) ≠ C then ([], 0, 12)
  else ((b.take (8 + D)).drop 8, ((8 + D : Nat) : Int), 0)
def tkN (b : List Int) : List Int × Int × Int := tkG b (dec4 b) (dec4 (b.drop 4))
def TakeP (r : List Int × Int × Int) (w : World) (e : Ending) (w' : World) : Prop := ∃ v', Hid (e = .returned (.tuple #[v', .int .i64 r.2.1, .int .i64 r.2.2])) ∧ Own8 w' w.heap.size v' r.1 ∧ Below w.heap.size w w'
set_option maxHeartbeats 1600000 in
theorem take_short (v : Value) (b : List Int) (w : World) (hb : Bt w v b) (hl : b.length < 8) : Calls Try.prog 47 #[v] w (TakeP (tkN b) w) := by
  have ht : tkN b = ([], 0, 10) := by unfold tkN tkG; rw [if_pos hl]
  rw [ht]
  obtain ⟨a, cap, rfl, h1, h2⟩ := hb.row
  have t1 : (b.length : Int) < 8 := by omega
  clear hb h1 h2 ht
  go_enter Try.func47, Try.ntmps47
  go_wp2
  go_ret3
  exact ⟨_, rfl, Own8.nil _ _, Below.refl _ _⟩
theorem told_of (w : World) (l : List Int) (a b c d : Int) (h : ∀ x ∈ l, 0 ≤ x ∧ x ≤ 255) (h0 : l.getD 0 0 = a) (h1 : l.getD 1 0 = b) (h2 : l.getD 2 0 = c) (h3 : l.getD 3 0 = d) : Calls Try.prog 67 #[.agg #[.int .u8 a, .int .u8 b, .int .u8 c, .int .u8 d]] w fun e w' => e = .returned (.int .u32 (dec4 l)) ∧ Below w.heap.size w w' := by
  have r0 := getD_range h 0
  have r1 := getD_range h 1
  have r2 := getD_range h 2
  have r3 := getD_range h 3
  unfold dec4
  rw [h0] at r0 ⊢
  rw [h1] at r1 ⊢
  rw [h2] at r2 ⊢
  rw [h3] at r3 ⊢
  obtain ⟨a, rfl⟩ := Int.eq_ofNat_of_zero_le r0.1
  obtain ⟨b, rfl⟩ := Int.eq_ofNat_of_zero_le r1.1
  obtain ⟨c, rfl⟩ := Int.eq_ofNat_of_zero_le r2.1
  obtain ⟨d, rfl⟩ := Int.eq_ofNat_of_zero_le r3.1
  simp only [Int.toNat_natCast]
  exact told_any a b c d w (by omega) (by omega) (by omega) (by omega)
/-- The first eight bytes. -/
def C8 (g off : Nat) (n0 n1 n2 n3 n4 n5 n6 n7 : Int) (w' : World) : Prop :=
  w'.cell? ⟨g, off, none⟩ = some (.int .u8 n0) ∧ w'.cell? ⟨g, off + 1, none⟩ = some (.int .u8 n1) ∧ w'.cell? ⟨g, off + 2, none⟩ = some (.int .u8 n2) ∧ w'.cell? ⟨g, off + 3, none⟩ = some (.int .u8 n3) ∧
  w'.cell? ⟨g, off + 4, none⟩ = some (.int .u8 n4) ∧ w'.cell? ⟨g, off + 4 + 1, none⟩ = some (.int .u8 n5) ∧ w'.cell? ⟨g, off + 4 + 2, none⟩ = some (.int .u8 n6) ∧ w'.cell? ⟨g, off + 4 + 3, none⟩ = some (.int .u8 n7)
def K8 (w : World) (g off : Nat) (n0 n1 n2 n3 n4 n5 n6 n7 : Int) (w' : World) : Prop := C8 g off n0 n1 n2 n3 n4 n5 n6 n7 w ∧ g < w.heap.size ∧ Below w.heap.size w w'
theorem K8.below {w w1 w2 : World} {g off : Nat} {n0 n1 n2 n3 n4 n5 n6 n7 : Int} (h : K8 w g off n0 n1 n2 n3 n4 n5 n6 n7 w1) (hb : Below w1.heap.size w1 w2) : K8 w g off n0 n1 n2 n3 n4 n5 n6 n7 w2 := ⟨h.1, h.2.1, below_self h.2.2 hb⟩
theorem K8.drew {w w1 : World} {g off : Nat} {n0 n1 n2 n3 n4 n5 n6 n7 : Int} (h : K8 w g off n0 n1 n2 n3 n4 n5 n6 n7 w1) : K8 w g off n0 n1 n2 n3 n4 n5 n6 n7 w1.drew := h.below (Below.refl _ _).drew
theorem K8.parts {w w1 : World} {g off : Nat} {n0 n1 n2 n3 n4 n5 n6 n7 : Int} (h : K8 w g off n0 n1 n2 n3 n4 n5 n6 n7 w1) : (w1.cell? ⟨g, off, none⟩ = some (.int .u8 n0) ∧ w1.cell? ⟨g, off + 1, none⟩ = some (.int .u8 n1) ∧ w1.cell? ⟨g, off + 2, none⟩ = some (.int .u8 n2) ∧ w1.cell? ⟨g, off + 3, none⟩ = some (.int .u8 n3) ∧
  w1.cell? ⟨g, off + 4, none⟩ = some (.int .u8 n4) ∧ w1.cell? ⟨g, off + 4 + 1, none⟩ = some (.int .u8 n5) ∧ w1.cell? ⟨g, off + 4 + 2, none⟩ = some (.int .u8 n6) ∧ w1.cell? ⟨g, off + 4 + 3, none⟩ = some (.int .u8 n7)) ∧ K8 w g off n0 n1 n2 n3 n4 n5 n6 n7 w1 := by
  have e := h
  obtain ⟨⟨a0, a1, a2, a3, a4, a5, a6, a7⟩, hg, hb⟩ := h
  exact ⟨⟨(hb.cell (p := ⟨g, off, none⟩) hg).trans a0, (hb.cell (p := ⟨g, off + 1, none⟩) hg).trans a1, (hb.cell (p := ⟨g, off + 2, none⟩) hg).trans a2, (hb.cell (p := ⟨g, off + 3, none⟩) hg).trans a3, (hb.cell (p := ⟨g, off + 4, none⟩) hg).trans a4, (hb.cell (p := ⟨g, off + 4 + 1, none⟩) hg).trans a5, (hb.cell (p := ⟨g, off + 4 + 2, none⟩) hg).trans a6, (hb.cell (p := ⟨g, off + 4 + 3, none⟩) hg).trans a7⟩, e⟩
set_option maxRecDepth 100000 in
set_option maxHeartbeats 4000000 in
theorem take_any (v : Value) (b : List Int) (w : World) (hb : Bt w v b) (hx : ∀ x ∈ b, 0 ≤ x ∧ x ≤ 255) (hl : b.length ≤ 1000000000) : Calls Try.prog 47 #[v] w (TakeP (tkN b) w) := by
  by_cases h8 : b.length < 8
  · exact take_short v b w hb h8
  have HBT := Lib.hid hb
  obtain ⟨a, cap, rfl, h1, h2⟩ := hb.row
  obtain ⟨g, off, rfl, hg, hcells⟩ : ∃ g off, a = some ⟨g, off, none⟩ ∧ g < w.heap.size ∧ ∀ i, i < b.length → w.cell? ⟨g, off + i, none⟩ = some (.int .u8 (b.getD i 0)) := by
    rcases h1.2 with h0 | h0
    · subst h0; simp at h8
    · exact h0
  have HX := Lib.hid hx
  have HXD : Hid (∀ x ∈ b.drop 4, 0 ≤ x ∧ x ≤ 255) := fun x q => hx x (List.mem_of_mem_drop q)
  obtain ⟨n0, e0⟩ : ∃ n, b.getD 0 0 = n := ⟨_, rfl⟩
  obtain ⟨n1, e1⟩ : ∃ n, b.getD 1 0 = n := ⟨_, rfl⟩
  obtain ⟨n2, e2⟩ : ∃ n, b.getD 2 0 = n := ⟨_, rfl⟩
  obtain ⟨n3, e3⟩ : ∃ n, b.getD 3 0 = n := ⟨_, rfl⟩
  obtain ⟨n4, e4⟩ : ∃ n, b.getD 4 0 = n := ⟨_, rfl⟩
  obtain ⟨n5, e5⟩ : ∃ n, b.getD 5 0 = n := ⟨_, rfl⟩
  obtain ⟨n6, e6⟩ : ∃ n, b.getD 6 0 = n := ⟨_, rfl⟩
  obtain ⟨n7, e7⟩ : ∃ n, b.getD 7 0 = n := ⟨_, rfl⟩
  have gd : ∀ i, (b.drop 4).getD i 0 = b.getD (4 + i) 0 := fun i => by simp [List.getD]
  have T1 := fun w => Lib.hid (told_of w b n0 n1 n2 n3 hx e0 e1 e2 e3)
  have T2 := fun w => Lib.hid (told_of w (b.drop 4) n4 n5 n6 n7 HXD.out (by rw [gd]; exact e4) (by rw [gd]; exact e5) (by rw [gd]; exact e6) (by rw [gd]; exact e7))
  have HK : Hid (K8 w g off n0 n1 n2 n3 n4 n5 n6 n7 w) := by
    refine ⟨⟨?_, ?_, ?_, ?_, ?_, ?_, ?_, ?_⟩, hg, Below.refl _ _⟩
    · rw [← e0]; exact hcells 0 (by omega)
    · rw [← e1]; exact hcells 1 (by omega)
    · rw [← e2]; exact hcells 2 (by omega)
    · rw [← e3]; exact hcells 3 (by omega)
    · rw [← e4]; exact hcells 4 (by omega)
    · rw [← e5]; exact hcells 5 (by omega)
    · rw [← e6]; exact hcells 6 (by omega)
    · rw [← e7]; exact hcells 7 (by omega)
  have t1 : ¬ (b.length : Int) < 8 := by omega
  have t2 : ¬ cap = 4 := by have := h2.2.1; omega
  have t3 : (4 : Int) ≤ b.length := by omega
  have ha := fun w => run_arrayAt (P := Try.prog) (w := w) 138 5 4 (some ⟨g, off, none⟩) b.length cap Try.underlying138 (by omega)
  have ha2 := fun w => run_arrayAt (P := Try.prog) (w := w) 138 5 4 (some ⟨g, off + 4, none⟩) (b.length - 4) (cap - 4) Try.underlying138 (by omega)
  have D1 := dec4_lt hx
  have D2 := dec4_lt HXD.out
  have ht : ∃ r, tkN b = r := ⟨_, rfl⟩
  obtain ⟨r, hr⟩ := ht
  rw [hr]
  unfold tkN tkG at hr
  rw [if_neg h8] at hr
  generalize dec4 b = D at T1 D1 hr
  generalize dec4 (b.drop 4) = C at T2 D2 hr
  have DI : (D : Int) < 4294967296 := by omega
  have CI : (C : Int) < 4294967296 := by omega
  have HT := Lib.hid hr
  clear hr D1 D2
  clear hcells e0 e1 e2 e3 e4 e5 e6 e7 gd hx hb h1 h2
  go_enter Try.func47, Try.ntmps47
  go_wp2
  go_region_held3 (fun w1 => (w1.cell? ⟨g, off, none⟩ = some (.int .u8 n0) ∧ w1.cell? ⟨g, off + 1, none⟩ = some (.int .u8 n1) ∧ w1.cell? ⟨g, off + 2, none⟩ = some (.int .u8 n2) ∧ w1.cell? ⟨g, off + 3, none⟩ = some (.int .u8 n3) ∧
      w1.cell? ⟨g, off + 4, none⟩ = some (.int .u8 n4) ∧ w1.cell? ⟨g, off + 4 + 1, none⟩ = some (.int .u8 n5) ∧ w1.cell? ⟨g, off + 4 + 2, none⟩ = some (.int .u8 n6) ∧ w1.cell? ⟨g, off + 4 + 3, none⟩ = some (.int .u8 n7)) ∧ K8 w g off n0 n1 n2 n3 n4 n5 n6 n7 w1)
    (first | exact HK.out.parts | exact HK.out.drew.parts | (go_split_ands; first | exact K8.parts (K8.below (by assumption) (by assumption)) | exact K8.parts (K8.drew (by assumption)) | exact K8.parts (by assumption)))
    (first
      | (go_at_call_of 67 (Value.agg #[Value.int IntKind.u8 n0, Value.int IntKind.u8 n1, Value.int IntKind.u8 n2, Value.int IntKind.u8 n3]); refine (T1 _).out.mono ?_; rintro e w1 ⟨rfl, hb1⟩)
      | (go_at_call 67; refine (T2 _).out.mono ?_; rintro e w2 ⟨rfl, hb2⟩))
  all_goals
    go_split_ands
    have HB2 : Hid (Below w.heap.size w w2) := (by assumption : K8 w g off n0 n1 n2 n3 n4 n5 n6 n7 w2).2.2
    clear ha ha2 T1 T2
    by_cases c1 : (16777215 : Int) < D
    · have E := HT.out
      rw [if_pos c1] at E
      have E2 := Lib.hid E
      clear E HT
      go_wp2
      go_ret3
      rw [← E2.out]
      exact ⟨_, rfl, Own8.nil _ _, HB2.out⟩
    by_cases c2 : b.length < 8 + D
    · have E := HT.out
      rw [if_neg c1, if_pos c2] at E
      have E2 := Lib.hid E
      have c2i : (b.length : Int) < 8 + D := by omega
      have dI : (D : Int) ≤ 16777215 := by omega
      clear E HT
      go_wp2
      go_ret3
      rw [← E2.out]
      exact ⟨_, rfl, Own8.nil _ _, HB2.out⟩
    have c2i : ¬ (b.length : Int) < 8 + D := by omega
    have dI : (D : Int) ≤ 16777215 := by omega
    have HBw : Hid (Bt w2 (.slice (some ⟨g, off, none⟩) b.length cap) b) := HBT.out.below HB2.out
    have HXs : Hid (∀ x ∈ (b.take (8 + D)).drop 8, 0 ≤ x ∧ x ≤ 255) := fun x q => HX.out x (List.mem_of_mem_take (List.mem_of_mem_drop q))
    have hls : ((b.take (8 + D)).drop 8).length = D := by simp; omega
    have HLS := Lib.hid hls
    clear hls
    by_cases c3 : sumN 0 ((b.take (8 + D)).drop 8) = C
    · have E := HT.out
      rw [if_neg c1, if_neg c2, if_neg (by simpa using c3)] at E
      have E2 := Lib.hid E
      have C3 := Lib.hid c3
      clear E HT c3
      go_wp2_with (refine wpList_cut (o := ⟨some 31, _, _, _, _, _⟩) rfl _ _ _ rfl _ b rfl HBw.out 8 (8 + D) _ _ rfl rfl rfl (by omega) (by omega) (by omega) ?_)
      intro v3 hv3
      have HV3 := Lib.hid hv3
      clear hv3
      go_wp2_with fail
      refine (sumof_any _ _ _ HV3.out HXs.out).mono ?_
      rw [C3.out]
      rintro e w3 ⟨rfl, hb3⟩
      have HB3 : Hid (Below w.heap.size w w3) := below_self HB2.out hb3
      have HBx : Hid (Bt w3 (.slice (some ⟨g, off, none⟩) b.length cap) b) := HBw.out.below hb3
      have hz3 := HB3.out.size
      clear hb3 HV3 HBw HB2
      go_wp2_with (refine wpList_cut (o := ⟨some 37, _, _, _, _, _⟩) rfl _ _ _ rfl _ b rfl HBx.out 8 (8 + D) _ _ rfl rfl rfl (by omega) (by omega) (by omega) ?_)
      intro v4 hv4
      have HV4 := Lib.hid hv4
      clear hv4
      go_wp2_with (refine wpList_app (o := ⟨some 38, _, _, _, _, _⟩) rfl _ _ rfl w.heap.size _ [] rfl (Own8.nil _ _) _ _ rfl HV4.out (by rw [HLS.out]; simp; omega) hz3 ?_)
      intro v5 w5 ho5 hb5 hz5
      have HB5 : Hid (Below w.heap.size w w5) := HB3.out.trans hb5
      have HO5 := Lib.hid ho5
      clear ho5 hb5 HV4 HBx HB3
      go_wp2
      go_ret3
      rw [← E2.out]
      refine ⟨v5, ?_, HO5.out, HB5.out⟩
      unfold Hid
      simp
    · have E := HT.out
      rw [if_neg c1, if_neg c2, if_pos c3] at E
      have E2 := Lib.hid E
      have c3i : ((sumN 0 ((b.take (8 + D)).drop 8) : Int) == (C : Int)) = false := by simp; omega
      have c3j : ((sumN 0 ((b.take (8 + D)).drop 8) : Int) != (C : Int)) = true := by simp; omega
      clear E HT c3
      go_wp2_with (refine wpList_cut (o := ⟨some 31, _, _, _, _, _⟩) rfl _ _ _ rfl _ b rfl HBw.out 8 (8 + D) _ _ rfl rfl rfl (by omega) (by omega) (by omega) ?_)
      intro v3 hv3
      have HV3 := Lib.hid hv3
      clear hv3
      go_wp2_with fail
      refine (sumof_any _ _ _ HV3.out HXs.out).mono ?_
      rintro e w3 ⟨rfl, hb3⟩
      have HB3 : Hid (Below w.heap.size w w3) := below_self HB2.out hb3
      clear hb3 HV3 HBw HB2
      go_wp2
      go_ret3
      rw [← E2.out]
      exact ⟨_, rfl, Own8.nil _ _, HB3.out⟩
end Go.Proofs.Ytllcmapgigfgoaa
