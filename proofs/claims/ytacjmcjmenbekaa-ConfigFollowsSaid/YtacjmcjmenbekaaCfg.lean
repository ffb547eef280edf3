/-
  The walks of package config: what may be, and who is in it.
-/
import Derived.Test.YtacjmcjmenbekaaInt
import Derived.Test.YtacjmcjmenbekaaCfgM
namespace Go.Proofs.Ytacjmcjmenbekaa
open Go.RowKit
set_option linter.unusedSimpArgs false
set_option linter.unusedVariables false

abbrev cfgV (ep : Int) (a : Option Addr) (n c : Nat) : Value := .agg #[.int .i64 ep, .slice a n c]
set_option maxHeartbeats 400000 in
theorem isNode_any (n : Int) (w : World) : Calls Try.prog 23 #[.int .i64 n] w fun e w' => e = .returned (.bool (isN n)) ∧ w = w' := by
  by_cases h1 : 0 ≤ n
  · by_cases h2 : n ≤ 31
    · have e1 : isN n = true := by simp [isN, h1, h2]
      rw [e1]; clear e1
      go_enter Try.func23, Try.ntmps23
      go_wp2
      go_ret
      exact ⟨rfl, rfl⟩
    · have e1 : isN n = false := by simp [isN, h1, h2]
      rw [e1]; clear e1
      go_enter Try.func23, Try.ntmps23
      go_wp2
      go_ret
      exact ⟨rfl, rfl⟩
  · have e1 : isN n = false := by simp [isN, h1]
    have d1 : decide (0 ≤ n) = false := by simpa using h1
    rw [e1]; clear e1
    go_enter Try.func23, Try.ntmps23
    go_wp2
    go_ret
    exact ⟨rfl, rfl⟩
set_option maxHeartbeats 400000 in
theorem has_any (ep n : Int) (a : Option Addr) (cap : Nat) (ns : List Int) (w : World) (hr : IRow w a ns) : Calls Try.prog 15 #[cfgV ep a ns.length cap, .int .i64 n] w fun e w' => e = .returned (.bool (inB n ns)) ∧ Below w.heap.size w w' := by
  have hbel : Below w.heap.size w (w.alloc (.cells #[.int .i64 ep, .slice a ns.length cap] 24)) := (Below.refl _ _).alloc (Nat.le_refl _) _
  have HR := Lib.hid (hr.below hbel)
  have HB := Lib.hid hbel
  clear hbel hr
  go_enter Try.func15, Try.ntmps15
  go_wp2_with (go_at_call 24; refine (contains_any _ _ ns _ _ HR.out).mono ?_; rintro e w' ⟨rfl, rfl⟩)
  go_ret
  exact ⟨rfl, HB.out⟩
/-- The world that a configuration was laid in. -/
abbrev boxC (w : World) (ep : Int) (a : Option Addr) (n c : Nat) : World := w.alloc (.cells #[.int .i64 ep, .slice a n c] 24)
set_option maxHeartbeats 1000000 in
theorem valid_any (ep : Int) (a : Option Addr) (cap : Nat) (ns : List Int) (w : World) (hr : IRow w a ns) : Calls Try.prog 12 #[cfgV ep a ns.length cap] w fun e w' => e = .returned (.bool (valB ep ns)) ∧ Below w.heap.size w w' := by
  have hbel : Below w.heap.size w (boxC w ep a ns.length cap) := (Below.refl _ _).alloc (Nat.le_refl _) _
  obtain ⟨hl, hrow⟩ := hr.below hbel
  have HB := Lib.hid hbel
  clear hbel hr
  by_cases t1 : ep < 0
  · have HE := Lib.hid (valB_no0 (ep := ep) (l := ns) (.inl t1))
    clear hrow
    go_enter Try.func12, Try.ntmps12
    go_wp2
    go_ret
    exact ⟨ret_bool HE.out.symm, HB.out⟩
  have d1 : decide (ep < 0) = false := by simpa using t1
  by_cases t2 : 1048576 < ep
  · have HE := Lib.hid (valB_no0 (ep := ep) (l := ns) (.inr (.inl t2)))
    clear hrow
    go_enter Try.func12, Try.ntmps12
    go_wp2
    go_ret
    exact ⟨ret_bool HE.out.symm, HB.out⟩
  have d2 : decide (1048576 < ep) = false := by simpa using t2
  by_cases t3 : (ns.length : Int) < 1
  · have HE := Lib.hid (valB_no0 (ep := ep) (l := ns) (.inr (.inr (.inl (by omega)))))
    clear hrow
    go_enter Try.func12, Try.ntmps12
    go_wp2
    go_ret
    exact ⟨ret_bool HE.out.symm, HB.out⟩
  have d3 : decide ((ns.length : Int) < 1) = false := by simpa using t3
  by_cases t4 : (7 : Int) < ns.length
  · have HE := Lib.hid (valB_no0 (ep := ep) (l := ns) (.inr (.inr (.inr (by omega)))))
    clear hrow
    go_enter Try.func12, Try.ntmps12
    go_wp2
    go_ret
    exact ⟨ret_bool HE.out.symm, HB.out⟩
  have d4 : decide ((7 : Int) < ns.length) = false := by simpa using t4
  rcases hrow with h0 | ⟨b, off, rfl, hb, hc⟩
  · subst h0; simp at t3
  have HV : Hid (okTo ns ns.length → valB ep ns = true) := fun h => valB_ok (by omega) (by omega) (by omega) (by omega) h
  have HC := Lib.hid hc
  have g1 : 0 ≤ ep := by omega
  have g2 : ep ≤ 1048576 := by omega
  clear hc hl
  go_enter Try.func12, Try.ntmps12
  go_wp2
  go_loop [28] (fun i => ∃ k : Nat, k ≤ ns.length ∧ i = .int .i64 k ∧ Hid (okTo ns k)) (fun i => ns.length - (intOf i).toNat)
  case atStart => exact ⟨0, Nat.zero_le _, rfl, okTo_zero ns⟩
  case round =>
    obtain ⟨k, hk, rfl, hH⟩ := hrel
    by_cases hlt : k < ns.length
    · have hcell := HC.out k hlt
      obtain ⟨z, hz⟩ : ∃ z, ns.getD k 0 = z := ⟨_, rfl⟩
      rw [hz] at hcell
      have HZ := Lib.hid hz
      clear hz
      cases q1 : isN z
      · have Q1 := Lib.hid q1
        have HE : Hid (valB ep ns = false) := valB_no1 hlt (by rw [HZ.out]; exact q1)
        clear q1
        go_wp2_with (go_at_call 23; refine (isNode_any _ _).mono ?_; rw [Q1.out]; rintro e w' ⟨rfl, rfl⟩)
        go_ret
        exact ⟨ret_bool HE.out.symm, HB.out⟩
      have Q1 := Lib.hid q1
      clear q1
      by_cases t5 : 0 < k
      · have hcell2 := HC.out (k - 1) (by omega)
        obtain ⟨y, hy⟩ : ∃ y, ns.getD (k - 1) 0 = y := ⟨_, rfl⟩
        rw [hy] at hcell2
        have HY := Lib.hid hy
        clear hy
        have t6 : (0 : Int) < k := by omega
        have t7 : (k : Int) - 1 < ns.length := by omega
        by_cases t8 : z ≤ y
        · have HE : Hid (valB ep ns = false) := valB_no2 hlt t5 (by rw [HZ.out, HY.out]; omega)
          go_wp2_with (go_at_call 23; refine (isNode_any _ _).mono ?_; rw [Q1.out]; rintro e w' ⟨rfl, rfl⟩)
          go_ret
          exact ⟨ret_bool HE.out.symm, HB.out⟩
        · have HE : Hid (okTo ns (k + 1)) := okTo_succ hH.out (by rw [HZ.out]; exact Q1.out) (fun _ => by rw [HZ.out, HY.out]; omega)
          go_wp2_with (go_at_call 23; refine (isNode_any _ _).mono ?_; rw [Q1.out]; rintro e w' ⟨rfl, rfl⟩)
          go_round
          case rel => exact ⟨k + 1, by omega, by go_num, HE⟩
          case measure => simp [intOf]; omega
      · have HE : Hid (okTo ns (k + 1)) := okTo_succ hH.out (by rw [HZ.out]; exact Q1.out) (fun h => absurd h t5)
        have t6 : decide ((0 : Int) < k) = false := by simp; omega
        go_wp2_with (go_at_call 23; refine (isNode_any _ _).mono ?_; rw [Q1.out]; rintro e w' ⟨rfl, rfl⟩)
        go_round
        case rel => exact ⟨k + 1, by omega, by go_num, HE⟩
        case measure => simp [intOf]; omega
    · have : k = ns.length := by omega
      subst this
      have HE : Hid (valB ep ns = true) := HV.out hH.out
      go_wp2
      go_ret
      exact ⟨ret_bool HE.out.symm, HB.out⟩
end Go.Proofs.Ytacjmcjmenbekaa
