/-
  The sum of bytes: plain arithmetic.
-/
import Derived.Test.YtfobdkhmffphmaaRows
namespace Go.Proofs.Ytfobdkhmffphmaa
set_option linter.unusedSimpArgs false
set_option linter.unusedVariables false
/-- One halving. -/
def hal (x : Nat) : Nat := if x % 2 = 1 then (x / 2) ^^^ 3988292384 else x / 2
def hals : Nat → Nat → Nat
  | 0, x => x
  | k + 1, x => hals k (hal x)
/-- Eight halvings. -/
def stp (x : Nat) : Nat := hals 8 x
/-- Byte by byte. -/
def mor (x : Nat) : List Nat → Nat
  | [] => x
  | c :: r => mor (stp (x ^^^ c)) r
theorem xor_div2 (a b : Nat) : (a ^^^ b) / 2 = a / 2 ^^^ b / 2 := by
  have := Nat.shiftRight_xor_distrib (i := 1) (a := a) (b := b)
  simpa [Nat.shiftRight_eq_div_pow] using this
theorem xor_mod2 (a b : Nat) : (a ^^^ b) % 2 = (a % 2) ^^^ (b % 2) := by
  have := @Nat.xor_mod_two_pow a b 1
  simpa using this
theorem hal_lt {x : Nat} (h : x < 4294967296) : hal x < 4294967296 := by
  unfold hal
  split
  · exact Nat.xor_lt_two_pow (n := 32) (by omega) (by omega)
  · omega
theorem hal_xor (a b : Nat) : hal (a ^^^ b) = hal a ^^^ hal b := by
  unfold hal
  rw [xor_div2, xor_mod2]
  rcases Nat.mod_two_eq_zero_or_one a with ha | ha <;> rcases Nat.mod_two_eq_zero_or_one b with hb | hb <;> simp only [ha, hb]
  · simp
  · simp [Nat.xor_assoc]
  · simp only [if_true, show ¬ (0 : Nat) = 1 from by decide, if_false, Nat.xor_zero, show (1 : Nat) ^^^ 0 = 1 from rfl]
    rw [Nat.xor_assoc, Nat.xor_comm (b / 2), ← Nat.xor_assoc]
  · simp only [Nat.xor_self]
    simp only [if_true, show ¬ (0 : Nat) = 1 from by decide, if_false]
    rw [Nat.xor_assoc, Nat.xor_comm (b / 2), ← Nat.xor_assoc 3988292384, Nat.xor_self, Nat.zero_xor]
theorem hals_lt : ∀ (k x : Nat), x < 4294967296 → hals k x < 4294967296
  | 0, _, h => h
  | k + 1, _, h => hals_lt k _ (hal_lt h)
theorem hals_xor : ∀ (k a b : Nat), hals k (a ^^^ b) = hals k a ^^^ hals k b
  | 0, _, _ => rfl
  | k + 1, a, b => by unfold hals; rw [hal_xor, hals_xor k]
theorem stp_lt {x : Nat} (h : x < 4294967296) : stp x < 4294967296 := hals_lt 8 x h
theorem stp_xor (a b : Nat) : stp (a ^^^ b) = stp a ^^^ stp b := hals_xor 8 a b
theorem hal_zero {x : Nat} (h : x < 4294967296) (e : hal x = 0) : x = 0 := by
  unfold hal at e
  split at e
  · have q : x / 2 = 3988292384 := by
      have := congrArg (· ^^^ 3988292384) e
      simpa [Nat.xor_assoc] using this
    omega
  · omega
theorem hals_zero : ∀ (k x : Nat), x < 4294967296 → hals k x = 0 → x = 0
  | 0, _, _, e => e
  | k + 1, x, h, e => hal_zero h (hals_zero k (hal x) (hal_lt h) e)
theorem xor_eq_zero {a b : Nat} : a ^^^ b = 0 ↔ a = b := by
  constructor
  · intro h
    have := congrArg (· ^^^ b) h
    simpa [Nat.xor_assoc] using this
  · rintro rfl; simp
theorem stp_inj {a b : Nat} (ha : a < 4294967296) (hb : b < 4294967296) : stp a = stp b ↔ a = b := by
  constructor
  · intro h
    have q : stp (a ^^^ b) = 0 := by rw [stp_xor, h, Nat.xor_self]
    exact xor_eq_zero.1 (hals_zero 8 _ (Nat.xor_lt_two_pow (n := 32) ha hb) q)
  · rintro rfl; rfl
theorem xor_inj_r {a b c : Nat} : a ^^^ c = b ^^^ c ↔ a = b := by
  constructor
  · intro h
    have := congrArg (· ^^^ c) h
    simpa [Nat.xor_assoc] using this
  · rintro rfl; rfl
theorem xor_inj_l {a b c : Nat} : c ^^^ a = c ^^^ b ↔ a = b := by rw [Nat.xor_comm c a, Nat.xor_comm c b]; exact xor_inj_r
theorem mor_lt : ∀ (l : List Nat) (x : Nat), x < 4294967296 → (∀ c ∈ l, c < 256) → mor x l < 4294967296
  | [], _, h, _ => h
  | c :: r, x, h, hl => mor_lt r _ (stp_lt (Nat.xor_lt_two_pow (n := 32) h (by have := hl c (by simp); omega))) (fun d hd => hl d (by simp [hd]))
theorem mor_append : ∀ (a b : List Nat) (x : Nat), mor x (a ++ b) = mor (mor x a) b
  | [], _, _ => rfl
  | c :: r, b, x => mor_append r b _
theorem mor_inj : ∀ (l : List Nat) (x y : Nat), x < 4294967296 → y < 4294967296 → (∀ c ∈ l, c < 256) → (mor x l = mor y l ↔ x = y)
  | [], _, _, _, _, _ => Iff.rfl
  | c :: r, x, y, hx, hy, hl => by
    have hc := hl c (by simp)
    have lx : x ^^^ c < 4294967296 := Nat.xor_lt_two_pow (n := 32) hx (by omega)
    have ly : y ^^^ c < 4294967296 := Nat.xor_lt_two_pow (n := 32) hy (by omega)
    show mor (stp (x ^^^ c)) r = mor (stp (y ^^^ c)) r ↔ _
    rw [mor_inj r _ _ (stp_lt lx) (stp_lt ly) (fun d hd => hl d (by simp [hd])), stp_inj lx ly]
    exact xor_inj_r
/-- Unlike last bytes. -/
theorem mor_last (x : Nat) (l : List Nat) (c d : Nat) (hx : x < 4294967296) (hl : ∀ b ∈ l, b < 256) (hc : c < 256) (hd : d < 256) : mor x (l ++ [c]) = mor x (l ++ [d]) ↔ c = d := by
  rw [mor_append, mor_append]
  have hm := mor_lt l x hx hl
  show stp (mor x l ^^^ c) = stp (mor x l ^^^ d) ↔ _
  rw [stp_inj (Nat.xor_lt_two_pow (n := 32) hm (by omega)) (Nat.xor_lt_two_pow (n := 32) hm (by omega))]
  exact xor_inj_l
/-- One byte turned. -/
theorem mor_turned (x : Nat) (p q : List Nat) (c d : Nat) (hx : x < 4294967296) (hp : ∀ b ∈ p, b < 256) (hq : ∀ b ∈ q, b < 256) (hc : c < 256) (hd : d < 256) : mor x (p ++ [c] ++ q) = mor x (p ++ [d] ++ q) ↔ c = d := by
  rw [mor_append _ q, mor_append _ q, mor_inj q _ _ ?_ ?_ hq]
  · exact mor_last x p c d hx hp hc hd
  · exact mor_lt _ _ hx (by intro b hb; rcases List.mem_append.1 hb with h | h; exact hp b h; simp at h; omega)
  · exact mor_lt _ _ hx (by intro b hb; rcases List.mem_append.1 hb with h | h; exact hp b h; simp at h; omega)
theorem stp_byte : ∀ d : Fin 256, stp d.val = d.val → d.val = 0 := by decide +kernel
/-- Two bytes side by side swapped. -/
theorem mor_swapped (x : Nat) (p q : List Nat) (c d : Nat) (hx : x < 4294967296) (hp : ∀ b ∈ p, b < 256) (hq : ∀ b ∈ q, b < 256) (hc : c < 256) (hd : d < 256) : mor x (p ++ [c, d] ++ q) = mor x (p ++ [d, c] ++ q) ↔ c = d := by
  have l2 : ∀ a b : Nat, a < 256 → b < 256 → mor x (p ++ [a, b]) < 4294967296 := by
    intro a b ha hb
    refine mor_lt _ _ hx ?_
    intro e he
    rcases List.mem_append.1 he with h | h
    · exact hp e h
    · simp at h; omega
  rw [mor_append _ q, mor_append _ q, mor_inj q _ _ (l2 c d hc hd) (l2 d c hd hc) hq, mor_append, mor_append]
  have hm := mor_lt p x hx hp
  generalize mor x p = m at hm
  show stp (stp (m ^^^ c) ^^^ d) = stp (stp (m ^^^ d) ^^^ c) ↔ _
  have l1 : ∀ a b : Nat, a < 256 → b < 256 → stp (m ^^^ a) ^^^ b < 4294967296 := fun a b ha hb =>
    Nat.xor_lt_two_pow (n := 32) (stp_lt (Nat.xor_lt_two_pow (n := 32) hm (by omega))) (by omega)
  rw [stp_inj (l1 c d hc hd) (l1 d c hd hc), stp_xor, stp_xor]
  constructor
  · intro h
    have h2 : stp c ^^^ d = stp d ^^^ c := by
      rw [Nat.xor_assoc, Nat.xor_assoc] at h
      exact xor_inj_l.1 h
    have h3 : stp (c ^^^ d) = c ^^^ d := by
      rw [stp_xor]
      have this : stp c ^^^ d ^^^ (stp d ^^^ d) = stp d ^^^ c ^^^ (stp d ^^^ d) := by rw [h2]
      rw [show stp c ^^^ d ^^^ (stp d ^^^ d) = stp c ^^^ stp d from by rw [Nat.xor_comm (stp d) d, Nat.xor_assoc, ← Nat.xor_assoc d d, Nat.xor_self, Nat.zero_xor],
        show stp d ^^^ c ^^^ (stp d ^^^ d) = c ^^^ d from by rw [Nat.xor_comm (stp d) c, Nat.xor_assoc, ← Nat.xor_assoc (stp d) (stp d), Nat.xor_self, Nat.zero_xor]] at this
      exact this
    have lt : c ^^^ d < 256 := Nat.xor_lt_two_pow (n := 8) hc hd
    exact xor_eq_zero.1 (stp_byte ⟨c ^^^ d, lt⟩ h3)
  · rintro rfl; rfl
/-- What is above the lowest byte goes down unchanged. -/
theorem hals_up : ∀ (k y : Nat), hals k (y * 2 ^ k) = y
  | 0, y => by simp [hals]
  | k + 1, y => by
    have e : hal (y * 2 ^ (k + 1)) = y * 2 ^ k := by
      unfold hal
      have : y * 2 ^ (k + 1) = 2 * (y * 2 ^ k) := by rw [Nat.pow_succ, ← Nat.mul_assoc]; omega
      rw [this]
      rw [if_neg (by omega)]
      omega
    show hals k (hal (y * 2 ^ (k + 1))) = y
    rw [e]; exact hals_up k y
theorem split_byte (x : Nat) : (x / 256 * 256) ^^^ (x % 256) = x := by
  apply Nat.eq_of_testBit_eq
  intro i
  rw [Nat.testBit_xor, show (256 : Nat) = 2 ^ 8 from rfl, Nat.testBit_mul_two_pow, Nat.testBit_mod_two_pow, Nat.testBit_div_two_pow]
  by_cases h : i < 8
  · simp [h, show ¬ 8 ≤ i from by omega]
  · simp [h, show 8 ≤ i from by omega, show 8 + (i - 8) = i from by omega, show i - 8 + 8 = i from by omega]
theorem stp_split (x : Nat) : stp x = x / 256 ^^^ stp (x % 256) := by
  have h := hals_up 8 (x / 256)
  have e : stp (x / 256 * 256) = x / 256 := h
  calc stp x = stp ((x / 256 * 256) ^^^ (x % 256)) := by rw [split_byte]
    _ = _ := by rw [stp_xor, e]
/-- The program's step. -/
theorem stp_table (x c : Nat) (hc : c < 256) : stp (x ^^^ c) = x / 256 ^^^ stp (x % 256 ^^^ c) := by
  rw [stp_split (x ^^^ c)]
  have e1 : (x ^^^ c) / 256 = x / 256 := by
    have := Nat.shiftRight_xor_distrib (i := 8) (a := x) (b := c)
    simp only [Nat.shiftRight_eq_div_pow] at this
    rw [show (2 : Nat) ^ 8 = 256 from rfl, show c / 256 = 0 from by omega, Nat.xor_zero] at this
    exact this
  have e2 : (x ^^^ c) % 256 = x % 256 ^^^ c := by
    have := @Nat.xor_mod_two_pow x c 8
    rw [show (2 : Nat) ^ 8 = 256 from rfl, show c % 256 = c from by omega] at this
    exact this
  rw [e1, e2]
theorem not32 (x : Nat) (h : x < 4294967296) : 4294967295 ^^^ x = 4294967295 - x := by
  apply Nat.eq_of_testBit_eq
  intro i
  rw [show 4294967295 - x = 2 ^ 32 - (x + 1) from by omega, Nat.testBit_two_pow_sub_succ h, Nat.testBit_xor, show (4294967295 : Nat) = 2 ^ 32 - 1 from rfl, Nat.testBit_two_pow_sub_one]
  by_cases q : i < 32
  · simp [q]
  · have : x.testBit i = false := Nat.testBit_lt_two_pow (Nat.lt_of_lt_of_le h (Nat.pow_le_pow_right (n := 2) (by decide) (by omega : 32 ≤ i)))
    simp [q, this]
end Go.Proofs.Ytfobdkhmffphmaa
