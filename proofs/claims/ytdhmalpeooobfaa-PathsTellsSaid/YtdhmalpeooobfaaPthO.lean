/-
  The walk of PathsOrder.
-/
import Derived.Test.YtdhmalpeooobfaaPthW
namespace Go.Proofs.Ytdhmalpeooobfaa
open Go.RowKit
set_option linter.unusedSimpArgs false
set_option linter.unusedVariables false

theorem lsr_irr (p : ByteArray) : lsr p p = false := by unfold lsr; rw [ltN_irr]; simp
theorem lsr_trans {p q r : ByteArray} (h1 : lsr p q = true) (h2 : lsr q r = true) : lsr p r = true := by
  unfold lsr at *
  simp only [Bool.and_eq_true] at *
  exact ⟨⟨h1.1.1, h2.1.2⟩, ltN_trans _ _ _ h1.2 h2.2⟩
theorem lsr_tot {p q : ByteArray} (hp : vld p = true) (hq : vld q = true) (h : p ≠ q) : lsr p q = !lsr q p := by
  unfold lsr
  rw [hp, hq]
  have : nmL p ≠ nmL q := fun e => h (nm_inj hp hq e)
  rw [ltN_tot _ _ this]
  simp
theorem blw_lsr {p q : ByteArray} (h : blw p q = true) : lsr p q = true := by
  unfold blw at h
  unfold lsr
  simp only [Bool.and_eq_true, decide_eq_true_eq] at h ⊢
  exact ⟨h.1.1, ltN_pre _ _ h.1.2 h.2⟩
theorem str_ne {p q : ByteArray} (h : p ≠ q) : (p.toList == q.toList) = false ∧ (p.toList != q.toList) = true := by
  have : (p.toList == q.toList) = false := by
    rw [Lib.toList_data, Lib.toList_data]
    simp only [beq_eq_false_iff_ne, ne_eq]
    exact fun e => h (data_inj e)
  exact ⟨this, by simp only [bne, this]; rfl⟩
theorem str_eq (p : ByteArray) : (p.toList == p.toList) = true ∧ (p.toList != p.toList) = false := by simp
set_option maxHeartbeats 2000000 in
theorem order_near (p q r : ByteArray) (w : World) (hm : ML w) (hp : p.size ≤ 300) (hq : q.size ≤ 300) (hr : r.size ≤ 300) :
    Calls Try.prog 6 #[.string p, .string q, .string r] w fun e w' => e = .returned (.bool true) ∧ Below w.heap.size w w' := by
  have HM := Lib.hid hm
  have HB : Hid (Below w.heap.size w w) := Lib.hid (Below.refl _ _)
  have hp1 : ¬ (300 : Int) < p.size := by omega
  have hq1 : ¬ (300 : Int) < q.size := by omega
  have hr1 : ¬ (300 : Int) < r.size := by omega
  have hp2 : p.size ≤ 1000 := by omega
  have hq2 : q.size ≤ 1000 := by omega
  have hr2 : r.size ≤ 1000 := by omega
  clear hm hp hq hr
  cases vp : vld p with
  | false =>
    go_enter Try.func6, Try.ntmps6
    go_wp2_with (first
      | (go_at_call 9; refine (works_any _ (HM.out.below HB.out)).mono ?_; rintro e w1 ⟨rfl, hb⟩; replace HB := Lib.hid (below_self HB.out hb); clear hb)
      | (go_at_call 10; refine (valid_any _ _ (by assumption) (HM.out.below HB.out)).mono ?_; rintro e w1 ⟨rfl, hb⟩; replace HB := Lib.hid (below_self HB.out hb); clear hb))
    go_ret
    exact ⟨rfl, HB.out⟩
  | true =>
    cases vq : vld q with
    | false =>
      go_enter Try.func6, Try.ntmps6
      go_wp2_with (first
        | (go_at_call 9; refine (works_any _ (HM.out.below HB.out)).mono ?_; rintro e w1 ⟨rfl, hb⟩; replace HB := Lib.hid (below_self HB.out hb); clear hb)
        | (go_at_call 10; refine (valid_any _ _ (by assumption) (HM.out.below HB.out)).mono ?_; rintro e w1 ⟨rfl, hb⟩; replace HB := Lib.hid (below_self HB.out hb); clear hb))
      go_ret
      exact ⟨rfl, HB.out⟩
    | true =>
      cases vr : vld r with
      | false =>
        go_enter Try.func6, Try.ntmps6
        go_wp2_with (first
          | (go_at_call 9; refine (works_any _ (HM.out.below HB.out)).mono ?_; rintro e w1 ⟨rfl, hb⟩; replace HB := Lib.hid (below_self HB.out hb); clear hb)
          | (go_at_call 10; refine (valid_any _ _ (by assumption) (HM.out.below HB.out)).mono ?_; rintro e w1 ⟨rfl, hb⟩; replace HB := Lib.hid (below_self HB.out hb); clear hb))
        go_ret
        exact ⟨rfl, HB.out⟩
      | true =>
        by_cases hpq : p = q
        · subst hpq
          have k1 := (str_eq p).1
          have k2 := (str_eq p).2
          have k3 := lsr_irr p
          have k4 : blw p p = false := by
            cases e : blw p p with
            | false => rfl
            | true => have := blw_lsr e; rw [k3] at this; cases this
          go_enter Try.func6, Try.ntmps6
          go_wp2_with (first
            | (go_at_call 9; refine (works_any _ (HM.out.below HB.out)).mono ?_; rintro e w1 ⟨rfl, hb⟩; replace HB := Lib.hid (below_self HB.out hb); clear hb)
            | (go_at_call 10; refine (valid_any _ _ (by assumption) (HM.out.below HB.out)).mono ?_; rintro e w1 ⟨rfl, hb⟩; replace HB := Lib.hid (below_self HB.out hb); clear hb)
            | (go_at_call 23; refine (less_any _ _ _ (by assumption) (by assumption) (HM.out.below HB.out)).mono ?_; rintro e w1 ⟨rfl, hb⟩; replace HB := Lib.hid (below_self HB.out hb); clear hb)
            | (go_at_call 21; refine (below_any _ _ _ (by assumption) (by assumption) (HM.out.below HB.out)).mono ?_; rintro e w1 ⟨rfl, hb⟩; replace HB := Lib.hid (below_self HB.out hb); clear hb))
          go_ret
          exact ⟨rfl, HB.out⟩
        · have k1 := (str_ne hpq).1
          have k2 := (str_ne hpq).2
          have ht := lsr_tot vp vq hpq
          cases b : lsr q p with
          | true =>
            have a : lsr p q = false := by rw [ht, b]; rfl
            have k4 : blw p q = false := by
              cases e : blw p q with
              | false => rfl
              | true => have := blw_lsr e; rw [a] at this; cases this
            clear ht hpq
            go_enter Try.func6, Try.ntmps6
            go_wp2_with (first
              | (go_at_call 9; refine (works_any _ (HM.out.below HB.out)).mono ?_; rintro e w1 ⟨rfl, hb⟩; replace HB := Lib.hid (below_self HB.out hb); clear hb)
              | (go_at_call 10; refine (valid_any _ _ (by assumption) (HM.out.below HB.out)).mono ?_; rintro e w1 ⟨rfl, hb⟩; replace HB := Lib.hid (below_self HB.out hb); clear hb)
              | (go_at_call 23; refine (less_any _ _ _ (by assumption) (by assumption) (HM.out.below HB.out)).mono ?_; rintro e w1 ⟨rfl, hb⟩; replace HB := Lib.hid (below_self HB.out hb); clear hb)
              | (go_at_call 21; refine (below_any _ _ _ (by assumption) (by assumption) (HM.out.below HB.out)).mono ?_; rintro e w1 ⟨rfl, hb⟩; replace HB := Lib.hid (below_self HB.out hb); clear hb))
            go_ret
            exact ⟨rfl, HB.out⟩
          | false =>
            have a : lsr p q = true := by rw [ht, b]; rfl
            have hc : lsr q r = false ∨ (lsr q r = true ∧ lsr p r = true) := by
              cases c : lsr q r with
              | false => exact .inl rfl
              | true => exact .inr ⟨rfl, lsr_trans a c⟩
            clear ht hpq
            rcases hc with c | ⟨c, d⟩ <;> cases e : blw p q
            all_goals
              go_enter Try.func6, Try.ntmps6
              go_wp2_with (first
                | (go_at_call 9; refine (works_any _ (HM.out.below HB.out)).mono ?_; rintro e w1 ⟨rfl, hb⟩; replace HB := Lib.hid (below_self HB.out hb); clear hb)
                | (go_at_call 10; refine (valid_any _ _ (by assumption) (HM.out.below HB.out)).mono ?_; rintro e w1 ⟨rfl, hb⟩; replace HB := Lib.hid (below_self HB.out hb); clear hb)
                | (go_at_call 23; refine (less_any _ _ _ (by assumption) (by assumption) (HM.out.below HB.out)).mono ?_; rintro e w1 ⟨rfl, hb⟩; replace HB := Lib.hid (below_self HB.out hb); clear hb)
                | (go_at_call 21; refine (below_any _ _ _ (by assumption) (by assumption) (HM.out.below HB.out)).mono ?_; rintro e w1 ⟨rfl, hb⟩; replace HB := Lib.hid (below_self HB.out hb); clear hb))
              go_ret
              exact ⟨rfl, HB.out⟩
theorem order_law (p q r : ByteArray) (w : World) (hm : ML w) :
    Calls Try.prog 6 #[.string p, .string q, .string r] w fun e w' => e = .returned (.bool true) ∧ Below w.heap.size w w' := by
  by_cases h1 : p.size ≤ 300
  · by_cases h2 : q.size ≤ 300
    · by_cases h3 : r.size ≤ 300
      · exact order_near p q r w hm h1 h2 h3
      · have k1 : ¬ (300 : Int) < p.size := by omega
        have k2 : ¬ (300 : Int) < q.size := by omega
        have k3 : (300 : Int) < r.size := by omega
        go_enter Try.func6, Try.ntmps6
        go_wp2_with (go_at_call 9; refine (works_any _ hm).mono ?_; rintro e w1 ⟨rfl, hb⟩; have HB := Lib.hid hb; clear hb)
        go_ret
        exact ⟨rfl, HB.out⟩
    · have k1 : ¬ (300 : Int) < p.size := by omega
      have k2 : (300 : Int) < q.size := by omega
      go_enter Try.func6, Try.ntmps6
      go_wp2_with (go_at_call 9; refine (works_any _ hm).mono ?_; rintro e w1 ⟨rfl, hb⟩; have HB := Lib.hid hb; clear hb)
      go_ret
      exact ⟨rfl, HB.out⟩
  · have k1 : (300 : Int) < p.size := by omega
    go_enter Try.func6, Try.ntmps6
    go_wp2_with (go_at_call 9; refine (works_any _ hm).mono ?_; rintro e w1 ⟨rfl, hb⟩; have HB := Lib.hid hb; clear hb)
    go_ret
    exact ⟨rfl, HB.out⟩
end Go.Proofs.Ytdhmalpeooobfaa
