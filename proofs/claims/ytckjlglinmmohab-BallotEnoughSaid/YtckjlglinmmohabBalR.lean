/-
  The walks of the document's own answers for layer 5: they return what package ballot's functions return.
-/
import Derived.Test.YtckjlglinmmohabBal5
namespace Go.Proofs.Ytckjlglinmmohab
open Go.RowKit
set_option linter.unusedSimpArgs false
set_option linter.unusedVariables false

set_option maxHeartbeats 800000 in
theorem refLess_any (a1 a2 b1 b2 : Int) (w : World) :
    Calls Try.prog 20 #[pr a1 a2, pr b1 b2] w fun e w' => e = .returned (.bool (lessB a1 a2 b1 b2)) ∧ Below w.heap.size w w' := by
  by_cases g1 : a1 < b1
  · have e1 : lessB a1 a2 b1 b2 = true := by simp [lessB, g1]
    rw [e1]
    go_enter Try.func20, Try.ntmps20
    go_wp2
    go_ret
    exact ⟨rfl, ((Below.refl _ _).alloc (Nat.le_refl _) _).alloc (by simp) _⟩
  by_cases g2 : a1 = b1
  · subst g2
    by_cases g3 : a2 < b2
    · have e1 : lessB a1 a2 a1 b2 = true := by simp [lessB, g3]
      rw [e1]
      go_enter Try.func20, Try.ntmps20
      go_wp2
      go_ret
      exact ⟨rfl, ((Below.refl _ _).alloc (Nat.le_refl _) _).alloc (by simp) _⟩
    · have e1 : lessB a1 a2 a1 b2 = false := by simp [lessB, g3]
      rw [e1]
      go_enter Try.func20, Try.ntmps20
      go_wp2
      go_ret
      exact ⟨rfl, ((Below.refl _ _).alloc (Nat.le_refl _) _).alloc (by simp) _⟩
  · have e1 : lessB a1 a2 b1 b2 = false := by simp [lessB, g1, g2]
    rw [e1]
    go_enter Try.func20, Try.ntmps20
    go_wp2
    go_ret
    exact ⟨rfl, ((Below.refl _ _).alloc (Nat.le_refl _) _).alloc (by simp) _⟩

set_option maxHeartbeats 800000 in
theorem refMost_any (a1 a2 b1 b2 : Int) (w : World) :
    Calls Try.prog 22 #[pr a1 a2, pr b1 b2] w fun e w' => e = .returned (pr (mo1 a1 a2 b1 b2) (mo2 a1 a2 b1 b2)) ∧ Below w.heap.size w w' := by
  cases g : lessB a1 a2 b1 b2
  · have e1 : mo1 a1 a2 b1 b2 = a1 := by simp [mo1, g]
    have e2 : mo2 a1 a2 b1 b2 = a2 := by simp [mo2, g]
    rw [e1, e2]
    clear e1 e2
    have G := Lib.hid g
    clear g
    go_enter Try.func22, Try.ntmps22
    go_wp2_with (go_at_call 20; refine (refLess_any _ _ _ _ _).mono ?_; rw [G.out]; rintro e w1 ⟨rfl, hb⟩; obtain ⟨hc, hf⟩ := bcell hb; have hz := hb.size; simp at hz hb)
    exact bodyPost_ret (v := pr a1 a2) (by simp [results, Try.results22, go_sem, hc, hf, hz, show w.heap.size + 1 + 1 < w1.heap.size by omega]) rfl ⟨rfl, ((((((Below.refl _ _).alloc (Nat.le_refl _) _).alloc (by simp) _).alloc (by simp; omega) _).trans (hb.mono (by omega))).setCell (by simp; omega) _).setCell (by simp; omega) _⟩
  · have e1 : mo1 a1 a2 b1 b2 = b1 := by simp [mo1, g]
    have e2 : mo2 a1 a2 b1 b2 = b2 := by simp [mo2, g]
    rw [e1, e2]
    clear e1 e2
    have G := Lib.hid g
    clear g
    go_enter Try.func22, Try.ntmps22
    go_wp2_with (go_at_call 20; refine (refLess_any _ _ _ _ _).mono ?_; rw [G.out]; rintro e w1 ⟨rfl, hb⟩; obtain ⟨hc, hf⟩ := bcell hb; have hz := hb.size; simp at hz hb)
    exact bodyPost_ret (v := pr b1 b2) (by simp [results, Try.results22, go_sem, hc, hf, hz, show w.heap.size + 1 + 1 < w1.heap.size by omega]) rfl ⟨rfl, ((((((Below.refl _ _).alloc (Nat.le_refl _) _).alloc (by simp) _).alloc (by simp; omega) _).trans (hb.mono (by omega))).setCell (by simp; omega) _).setCell (by simp; omega) _⟩

set_option maxHeartbeats 1600000 in
theorem refValid_any (a b : Int) (w : World) :
    Calls Try.prog 26 #[pr a b] w fun e w' => e = .returned (.bool (vaB a b)) ∧ Below w.heap.size w w' := by
  have fin : Below w.heap.size w (w.alloc (.cells #[.int .i64 a, .int .i64 b] 43)) := (Below.refl _ _).alloc (Nat.le_refl _) _
  by_cases g1 : 0 ≤ a
  · by_cases g2 : a ≤ 1099511627776
    · by_cases g3 : 0 ≤ b
      · by_cases g4 : b ≤ 31
        · go_enter Try.func26, Try.ntmps26
          go_wp2
          go_ret
          exact ⟨ret_bool (by simp [vaB, g1, g2, g3, g4]), fin⟩
        · go_enter Try.func26, Try.ntmps26
          go_wp2
          go_ret
          exact ⟨ret_bool (by simp [vaB]; omega), fin⟩
      · go_enter Try.func26, Try.ntmps26
        go_wp2
        go_ret
        exact ⟨ret_bool (by simp [vaB]; omega), fin⟩
    · go_enter Try.func26, Try.ntmps26
      go_wp2
      go_ret
      exact ⟨ret_bool (by simp [vaB]; omega), fin⟩
  · go_enter Try.func26, Try.ntmps26
    go_wp2
    go_ret
    exact ⟨ret_bool (by simp [vaB]; omega), fin⟩

set_option maxHeartbeats 800000 in
theorem refCount_any (ep : Int) (a a2 : Option Addr) (cap cap2 : Nat) (ns who : List Int) (w : World) (hr : IRow w a ns) (hr2 : IRow w a2 who) :
    Calls Try.prog 27 #[.agg #[.int .i64 ep, .slice a ns.length cap], .slice a2 who.length cap2] w fun e w' => e = .returned (.int .i64 (thN who ns)) ∧ Below w.heap.size w w' := by
  have hbel : Below w.heap.size w (w.alloc (.cells #[.int .i64 ep, .slice a ns.length cap] 54)) := (Below.refl _ _).alloc (Nat.le_refl _) _
  have HB := Lib.hid hbel
  have HR2 := Lib.hid (hr2.below hbel)
  obtain ⟨hl, hrow⟩ := hr.below hbel
  clear hr hr2 hbel
  go_enter Try.func27, Try.ntmps27
  go_wp2
  go_loop [5, 6] (fun n i => ∃ k : Nat, k ≤ ns.length ∧ i = .int .i64 k ∧ n = .int .i64 (thN who (ns.take k))) (fun _ i => ns.length - (intOf i).toNat)
  case atStart => exact ⟨0, Nat.zero_le _, rfl, rfl⟩
  case round =>
    obtain ⟨k, hk, rfl, rfl⟩ := hrel
    have hd := thN_le who (ns.take k)
    have hdl : (ns.take k).length ≤ k := List.length_take_le _ _
    by_cases hlt : k < ns.length
    · rcases hrow with h0 | ⟨b, off, rfl, hb, hc⟩
      · rw [h0] at hlt; simp at hlt
      · have hcell := hc k hlt
        have HS := Lib.hid (thN_snoc who ns k hlt)
        have HC := Lib.hid hc
        clear hc
        cases g : inB ns[k] who
        · have G := Lib.hid g
          clear g
          go_wp2_with (go_at_call 38; refine (refIn_any _ _ who _ _ HR2.out).mono ?_; rw [G.out]; rintro e w' ⟨rfl, rfl⟩)
          go_round
          case rel => exact ⟨k + 1, by omega, by go_num, by rw [HS.out, G.out]; simp⟩
          case measure => simp [intOf]; omega
        · have G := Lib.hid g
          clear g
          go_wp2_with (go_at_call 38; refine (refIn_any _ _ who _ _ HR2.out).mono ?_; rw [G.out]; rintro e w' ⟨rfl, rfl⟩)
          go_round
          case rel => exact ⟨k + 1, by omega, by go_num, by rw [HS.out, G.out]; simp⟩
          case measure => simp [intOf]; omega
    · have : k = ns.length := by omega
      subst this
      go_wp2
      go_ret
      exact ⟨rfl, HB.out⟩

set_option maxHeartbeats 800000 in
theorem refQuorum_any (n : Int) (w : World) (hn : n ≤ 100000) :
    Calls Try.prog 29 #[.int .i64 n] w fun e w' => e = .returned (.int .i64 (quoN n)) ∧ w = w' := by
  by_cases g : n < 1
  · have e1 : quoN n = 0 := by simp [quoN, g]
    rw [e1]
    go_enter Try.func29, Try.ntmps29
    go_wp2
    go_ret
    exact ⟨rfl, rfl⟩
  · have q : quoN n = n / 2 + 1 := by simp [quoN, g]
    have Q := Lib.hid q
    clear q
    have d : decide (n < 1) = false := by simpa using g
    go_enter Try.func29, Try.ntmps29
    go_wp2
    go_loop [3] (fun i => ∃ k : Int, 0 ≤ k ∧ k ≤ n / 2 + 1 ∧ i = .int .i64 k) (fun i => (n + 2 - intOf i).toNat)
    case atStart => exact ⟨0, by omega, by omega, rfl⟩
    case round =>
      obtain ⟨k, hk0, hk1, rfl⟩ := hrel
      by_cases hlt : 2 * k ≤ n
      · go_wp2
        go_round
        case rel => exact ⟨k + 1, by omega, by omega, rfl⟩
        case measure => simp [intOf]; omega
      · have hk : k = n / 2 + 1 := by omega
        have K := Lib.hid hk
        clear hk
        go_wp2
        go_ret
        exact ⟨ret_int (by rw [Q.out, K.out]), rfl⟩
end Go.Proofs.Ytckjlglinmmohab
