/-
  The walk of PathsOf.
-/
import Derived.Test.YtdhmalpeooobfaaPthR2
namespace Go.Proofs.Ytdhmalpeooobfaa
open Go.RowKit
set_option linter.unusedSimpArgs false
set_option linter.unusedVariables false

set_option maxHeartbeats 2000000 in
theorem pof_law (a : Option Addr) (c : Nat) (ss : List ByteArray) (w : World) (hm : ML w) (hs : SRd w a ss) (hc : ss.length ≤ c) (hz : ∀ s ∈ ss, s.size ≤ maxLen) :
    Calls Try.prog 4 #[.slice a ss.length c] w fun e w' => e = .returned (.bool true) ∧ Below w.heap.size w w' := by
  have HM := Lib.hid hm
  have HS := Lib.hid hs
  have HZ := Lib.hid hz
  have HB : Hid (Below w.heap.size w w) := Lib.hid (Below.refl _ _)
  have hll := hs.1
  clear hm hs hz
  by_cases h3 : (300 : Int) < ss.length
  · go_enter Try.func4, Try.ntmps4
    go_wp2_with (go_at_call 9; refine (works_any _ (HM.out.below HB.out)).mono ?_; rintro e w1 ⟨rfl, hb⟩; replace HB := Lib.hid (below_self HB.out hb); clear hb)
    go_ret
    exact ⟨rfl, HB.out⟩
  · obtain ⟨n, hn⟩ : ∃ n, ss.length = n := ⟨_, rfl⟩
    have HN := Lib.hid hn
    have cO := fun w' (hb : Below w.heap.size w w') => of_any a c ss w' (HS.out.below hb) hc
    have cR := fun w' (hb : Below w.heap.size w w') => rof_any a c ss w' (HS.out.below hb) HZ.out
    obtain ⟨X, hX⟩ : ∃ X, ofP ss = X := ⟨_, rfl⟩
    rw [hX, hn] at cO cR
    rw [hn] at hc h3 hll ⊢
    obtain ⟨t1, t2⟩ := str_eq X
    cases hO : okN (ss.map (·.data.toList)) with
    | false =>
      have hE : ofE ss = 1 := by unfold ofE; rw [hO]; rfl
      rw [hE] at cO cR
      have CO := Lib.hid cO
      have CR := Lib.hid cR
      clear cO cR hX hE hO hn
      go_enter Try.func4, Try.ntmps4
      go_wp2_with (first
        | (go_at_call 9; refine (works_any _ (HM.out.below HB.out)).mono ?_; rintro e w1 ⟨rfl, hb⟩; replace HB := Lib.hid (below_self HB.out hb); clear hb)
        | (go_at_call 25; refine (CO.out _ HB.out).mono ?_; rintro e w1 ⟨rfl, hb⟩; replace HB := Lib.hid (below_self HB.out hb); clear hb)
        | (go_at_call 26; refine (CR.out _ HB.out).mono ?_; rintro e w1 ⟨rfl, rfl⟩))
      go_ret
      exact ⟨rfl, HB.out⟩
    | true =>
      have hE : ofE ss = 0 := by unfold ofE; rw [hO]; rfl
      rw [hE] at cO cR
      have hXp : X = pth (ss.map (·.data.toList)) := by rw [← hX]; unfold ofP; rw [hO]; rfl
      obtain ⟨v1, v2⟩ := pth_vld hO
      rw [← hXp] at v1 v2
      have hXs : X.size ≤ 1000 := by have := pth_size _ hO; rw [← hXp] at this; omega
      have hx2 : tx (nmL X) = ss := by rw [v2, tx_of]
      have HX2 := Lib.hid hx2
      have CO := Lib.hid cO
      have CR := Lib.hid cR
      clear cO cR hX hE hO hn hXp v2 hx2
      go_enter Try.func4, Try.ntmps4
      go_wp2_with (first
        | (go_at_call 9; refine (works_any _ (HM.out.below HB.out)).mono ?_; rintro e w1 ⟨rfl, hb⟩; replace HB := Lib.hid (below_self HB.out hb); clear hb)
        | (go_at_call 25; refine (CO.out _ HB.out).mono ?_; rintro e w1 ⟨rfl, hb⟩; replace HB := Lib.hid (below_self HB.out hb); clear hb)
        | (go_at_call 26; refine (CR.out _ HB.out).mono ?_; rintro e w1 ⟨rfl, rfl⟩))
      refine (names_any _ _ (by assumption) (HM.out.below HB.out)).mono ?_
      rintro e w4 ⟨v, he, ho, hb⟩
      subst he
      rw [HX2.out] at ho
      replace HB := Lib.hid (below_self HB.out hb)
      obtain ⟨a4, c4, hv, hs4⟩ := srd_of_own ho (by rw [HN.out]; omega)
      have cT := texts_true a4 a c4 c ss w4 hs4 (HS.out.below HB.out)
      rw [HN.out] at cT hv
      subst hv
      clear ho hb hs4
      go_wp2_with fail
      refine cT.mono ?_
      rintro e w5 ⟨rfl, hb⟩
      replace HB := Lib.hid (below_self HB.out hb)
      clear hb cT
      go_wp2_with (go_at_call 10; refine (valid_any _ _ (by assumption) (HM.out.below HB.out)).mono ?_; rintro e w1 ⟨rfl, hb⟩; replace HB := Lib.hid (below_self HB.out hb); clear hb)
      go_ret
      exact ⟨rfl, HB.out⟩
end Go.Proofs.Ytdhmalpeooobfaa
