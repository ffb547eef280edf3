/-
  The walk of PathsUp.
-/
import Derived.Test.YtdhmalpeooobfaaPthU
namespace Go.Proofs.Ytdhmalpeooobfaa
open Go.RowKit
set_option linter.unusedSimpArgs false
set_option linter.unusedVariables false

/-- What is asked behind the parent: all that can be. -/
def UpEnd (p q r : ByteArray) : Prop :=
  (blw p q = false ∧ (nmL q = [] ∨ (nmL q ≠ [] ∧ par q ≠ p ∧ blw p (par q) = false))) ∨
  (blw p q = true ∧ blw q p = false ∧ (blw q r = false ∨ (blw q r = true ∧ blw p r = true)) ∧ nmL q ≠ [] ∧ (par q = p ∨ (par q ≠ p ∧ blw p (par q) = true)))
theorem up_end (p q r : ByteArray) (vp : vld p = true) (vq : vld q = true) : UpEnd p q r := by
  unfold UpEnd
  cases h : blw p q with
  | false =>
    refine .inl ⟨rfl, ?_⟩
    by_cases hn : nmL q = []
    · exact .inl hn
    · right
      rw [blw_par vp vq hn] at h
      simp only [Bool.or_eq_false_iff, decide_eq_false_iff_not] at h
      exact ⟨hn, h.1, h.2⟩
  | true =>
    refine .inr ⟨rfl, blw_asymm h, ?_, ?_, ?_⟩
    · cases h2 : blw q r with
      | false => exact .inl rfl
      | true => exact .inr ⟨rfl, blw_trans h h2⟩
    · intro hn
      rw [blw_root hn] at h
      cases h
    · have hn : nmL q ≠ [] := by
        intro hn
        rw [blw_root hn] at h
        cases h
      by_cases e : par q = p
      · exact .inl e
      · right
        rw [blw_par vp vq hn] at h
        simp only [Bool.or_eq_true, decide_eq_true_eq] at h
        rcases h with h | h
        · exact absurd h e
        · exact ⟨e, h⟩
set_option maxHeartbeats 2000000 in
theorem up_far (p q r : ByteArray) (w : World) (hm : ML w) (h : 300 < p.size ∨ 300 < q.size ∨ 300 < r.size) :
    Calls Try.prog 5 #[.string p, .string q, .string r] w fun e w' => e = .returned (.bool true) ∧ Below w.heap.size w w' := by
  have HM := Lib.hid hm
  have HB : Hid (Below w.heap.size w w) := Lib.hid (Below.refl _ _)
  clear hm
  by_cases h1 : p.size ≤ 300
  · by_cases h2 : q.size ≤ 300
    · have k1 : ¬ (300 : Int) < p.size := by omega
      have k2 : ¬ (300 : Int) < q.size := by omega
      have k3 : (300 : Int) < r.size := by omega
      clear h
      go_enter Try.func5, Try.ntmps5
      go_wp2_with (first
        | (go_at_call 9; refine (works_any _ (HM.out.below HB.out)).mono ?_; rintro e w1 ⟨rfl, hb⟩; replace HB := Lib.hid (below_self HB.out hb); clear hb))
      go_ret
      exact ⟨rfl, HB.out⟩
    · have k1 : ¬ (300 : Int) < p.size := by omega
      have k2 : (300 : Int) < q.size := by omega
      clear h
      go_enter Try.func5, Try.ntmps5
      go_wp2_with (first
        | (go_at_call 9; refine (works_any _ (HM.out.below HB.out)).mono ?_; rintro e w1 ⟨rfl, hb⟩; replace HB := Lib.hid (below_self HB.out hb); clear hb))
      go_ret
      exact ⟨rfl, HB.out⟩
  · have k1 : (300 : Int) < p.size := by omega
    clear h
    go_enter Try.func5, Try.ntmps5
    go_wp2_with (first
      | (go_at_call 9; refine (works_any _ (HM.out.below HB.out)).mono ?_; rintro e w1 ⟨rfl, hb⟩; replace HB := Lib.hid (below_self HB.out hb); clear hb))
    go_ret
    exact ⟨rfl, HB.out⟩
set_option maxHeartbeats 2000000 in
theorem up_bad (p q r : ByteArray) (w : World) (hm : ML w) (hp : p.size ≤ 300) (hq : q.size ≤ 300) (hr : r.size ≤ 300) (h : vld p = false ∨ vld q = false ∨ vld r = false) :
    Calls Try.prog 5 #[.string p, .string q, .string r] w fun e w' => e = .returned (.bool true) ∧ Below w.heap.size w w' := by
  have HM := Lib.hid hm
  have HB : Hid (Below w.heap.size w w) := Lib.hid (Below.refl _ _)
  have hp1 : ¬ (300 : Int) < p.size := by omega
  have hq1 : ¬ (300 : Int) < q.size := by omega
  have hr1 : ¬ (300 : Int) < r.size := by omega
  have hp2 : p.size ≤ 1000 := by omega
  have hq2 : q.size ≤ 1000 := by omega
  have hr2 : r.size ≤ 1000 := by omega
  clear hm hp hq hr
  cases vp : vld p with
  | false =>
    clear h
    go_enter Try.func5, Try.ntmps5
    go_wp2_with (first
      | (go_at_call 9; refine (works_any _ (HM.out.below HB.out)).mono ?_; rintro e w1 ⟨rfl, hb⟩; replace HB := Lib.hid (below_self HB.out hb); clear hb)
      | (go_at_call 10; refine (valid_any _ _ (by assumption) (HM.out.below HB.out)).mono ?_; rintro e w1 ⟨rfl, hb⟩; replace HB := Lib.hid (below_self HB.out hb); clear hb))
    go_ret
    exact ⟨rfl, HB.out⟩
  | true =>
    cases vq : vld q with
    | false =>
      clear h
      go_enter Try.func5, Try.ntmps5
      go_wp2_with (first
        | (go_at_call 9; refine (works_any _ (HM.out.below HB.out)).mono ?_; rintro e w1 ⟨rfl, hb⟩; replace HB := Lib.hid (below_self HB.out hb); clear hb)
        | (go_at_call 10; refine (valid_any _ _ (by assumption) (HM.out.below HB.out)).mono ?_; rintro e w1 ⟨rfl, hb⟩; replace HB := Lib.hid (below_self HB.out hb); clear hb))
      go_ret
      exact ⟨rfl, HB.out⟩
    | true =>
      have vr : vld r = false := by
        rcases h with h | h | h
        · rw [vp] at h; cases h
        · rw [vq] at h; cases h
        · exact h
      clear h
      go_enter Try.func5, Try.ntmps5
      go_wp2_with (first
        | (go_at_call 9; refine (works_any _ (HM.out.below HB.out)).mono ?_; rintro e w1 ⟨rfl, hb⟩; replace HB := Lib.hid (below_self HB.out hb); clear hb)
        | (go_at_call 10; refine (valid_any _ _ (by assumption) (HM.out.below HB.out)).mono ?_; rintro e w1 ⟨rfl, hb⟩; replace HB := Lib.hid (below_self HB.out hb); clear hb))
      go_ret
      exact ⟨rfl, HB.out⟩
set_option maxHeartbeats 4000000 in
theorem up_root (p q r : ByteArray) (w : World) (hm : ML w) (hp : p.size ≤ 300) (hq : q.size ≤ 300) (hr : r.size ≤ 300) (vp : vld p = true) (vq : vld q = true) (vr : vld r = true) (hn : nmL p = []) :
    Calls Try.prog 5 #[.string p, .string q, .string r] w fun e w' => e = .returned (.bool true) ∧ Below w.heap.size w w' := by
  have HM := Lib.hid hm
  have HB : Hid (Below w.heap.size w w) := Lib.hid (Below.refl _ _)
  have hp1 : ¬ (300 : Int) < p.size := by omega
  have hq1 : ¬ (300 : Int) < q.size := by omega
  have hr1 : ¬ (300 : Int) < r.size := by omega
  have hp2 : p.size ≤ 1000 := by omega
  have hq2 : q.size ≤ 1000 := by omega
  have hr2 : r.size ≤ 1000 := by omega
  have hs := (root_str vp).1 hn
  obtain ⟨s1, s2⟩ := hs
  have hI := blw_irr p
  have hE := up_end p q r vp vq
  have hRq := root_str vq
  have hps : (par q).size ≤ 1000 := by have := @par_size q; omega
  obtain ⟨u, hu⟩ : ∃ u, par q = u := ⟨_, rfl⟩
  unfold UpEnd at hE
  rw [hu] at hE hps
  clear hm hp hq hr hn
  go_enter Try.func5, Try.ntmps5
  go_wp2_with (first
    | (go_at_call 9; refine (works_any _ (HM.out.below HB.out)).mono ?_; rintro e w1 ⟨rfl, hb⟩; replace HB := Lib.hid (below_self HB.out hb); clear hb)
    | (go_at_call 10; refine (valid_any _ _ (by assumption) (HM.out.below HB.out)).mono ?_; rintro e w1 ⟨rfl, hb⟩; replace HB := Lib.hid (below_self HB.out hb); clear hb))
  rcases hE with ⟨x, hE⟩ | ⟨x, y, hE, hnq, hU⟩
  · rcases hE with hnq | ⟨hnq, hue, hub⟩
    · obtain ⟨t1, t2⟩ := hRq.1 hnq
      clear hRq hnq
      refine (below_any _ _ _ (by assumption) (by assumption) (HM.out.below HB.out)).mono ?_
      rintro e w1 ⟨rfl, hb⟩
      replace HB := Lib.hid (below_self HB.out hb)
      clear hb
      go_wp2_with (first
        | (go_at_call 21; refine (below_any _ _ _ (by assumption) (by assumption) (HM.out.below HB.out)).mono ?_; rintro e w1 ⟨rfl, hb⟩; replace HB := Lib.hid (below_self HB.out hb); clear hb)
        | (go_at_call 17; refine (parent_any _ _ (by assumption) (HM.out.below HB.out)).mono ?_; rintro e w1 ⟨rfl, hb⟩; replace HB := Lib.hid (below_self HB.out hb); clear hb))
      go_ret
      exact ⟨rfl, HB.out⟩
    · obtain ⟨t1, t2⟩ := hRq.2 hnq
      obtain ⟨t3, t4⟩ := str_ne hue
      clear hRq hnq hue
      refine (below_any _ _ _ (by assumption) (by assumption) (HM.out.below HB.out)).mono ?_
      rintro e w1 ⟨rfl, hb⟩
      replace HB := Lib.hid (below_self HB.out hb)
      clear hb
      go_wp2_with (first
        | (go_at_call 21; refine (below_any _ _ _ (by assumption) (by assumption) (HM.out.below HB.out)).mono ?_; rintro e w1 ⟨rfl, hb⟩; replace HB := Lib.hid (below_self HB.out hb); clear hb)
        | (go_at_call 17; refine (parent_any _ _ (by assumption) (HM.out.below HB.out)).mono ?_; rintro e w1 ⟨rfl, hb⟩; replace HB := Lib.hid (below_self HB.out hb); clear hb))
      go_ret
      exact ⟨rfl, HB.out⟩
  · obtain ⟨t1, t2⟩ := hRq.2 hnq
    clear hRq hnq
    rcases hU with hue | ⟨hue, hub⟩
    · have hue2 := hue.symm
      clear hue
      subst hue2
      obtain ⟨t3, t4⟩ := str_eq p
      rcases hE with z | ⟨z, t⟩
      · skip
        refine (below_any _ _ _ (by assumption) (by assumption) (HM.out.below HB.out)).mono ?_
        rintro e w1 ⟨rfl, hb⟩
        replace HB := Lib.hid (below_self HB.out hb)
        clear hb
        go_wp2_with (first
          | (go_at_call 21; refine (below_any _ _ _ (by assumption) (by assumption) (HM.out.below HB.out)).mono ?_; rintro e w1 ⟨rfl, hb⟩; replace HB := Lib.hid (below_self HB.out hb); clear hb)
          | (go_at_call 17; refine (parent_any _ _ (by assumption) (HM.out.below HB.out)).mono ?_; rintro e w1 ⟨rfl, hb⟩; replace HB := Lib.hid (below_self HB.out hb); clear hb))
        go_ret
        exact ⟨rfl, HB.out⟩
      · skip
        refine (below_any _ _ _ (by assumption) (by assumption) (HM.out.below HB.out)).mono ?_
        rintro e w1 ⟨rfl, hb⟩
        replace HB := Lib.hid (below_self HB.out hb)
        clear hb
        go_wp2_with (first
          | (go_at_call 21; refine (below_any _ _ _ (by assumption) (by assumption) (HM.out.below HB.out)).mono ?_; rintro e w1 ⟨rfl, hb⟩; replace HB := Lib.hid (below_self HB.out hb); clear hb)
          | (go_at_call 17; refine (parent_any _ _ (by assumption) (HM.out.below HB.out)).mono ?_; rintro e w1 ⟨rfl, hb⟩; replace HB := Lib.hid (below_self HB.out hb); clear hb))
        go_ret
        exact ⟨rfl, HB.out⟩
    · obtain ⟨t3, t4⟩ := str_ne hue
      clear hue
      rcases hE with z | ⟨z, t⟩
      · skip
        refine (below_any _ _ _ (by assumption) (by assumption) (HM.out.below HB.out)).mono ?_
        rintro e w1 ⟨rfl, hb⟩
        replace HB := Lib.hid (below_self HB.out hb)
        clear hb
        go_wp2_with (first
          | (go_at_call 21; refine (below_any _ _ _ (by assumption) (by assumption) (HM.out.below HB.out)).mono ?_; rintro e w1 ⟨rfl, hb⟩; replace HB := Lib.hid (below_self HB.out hb); clear hb)
          | (go_at_call 17; refine (parent_any _ _ (by assumption) (HM.out.below HB.out)).mono ?_; rintro e w1 ⟨rfl, hb⟩; replace HB := Lib.hid (below_self HB.out hb); clear hb))
        go_ret
        exact ⟨rfl, HB.out⟩
      · skip
        refine (below_any _ _ _ (by assumption) (by assumption) (HM.out.below HB.out)).mono ?_
        rintro e w1 ⟨rfl, hb⟩
        replace HB := Lib.hid (below_self HB.out hb)
        clear hb
        go_wp2_with (first
          | (go_at_call 21; refine (below_any _ _ _ (by assumption) (by assumption) (HM.out.below HB.out)).mono ?_; rintro e w1 ⟨rfl, hb⟩; replace HB := Lib.hid (below_self HB.out hb); clear hb)
          | (go_at_call 17; refine (parent_any _ _ (by assumption) (HM.out.below HB.out)).mono ?_; rintro e w1 ⟨rfl, hb⟩; replace HB := Lib.hid (below_self HB.out hb); clear hb))
        go_ret
        exact ⟨rfl, HB.out⟩
set_option maxHeartbeats 4000000 in
theorem up_deep (p q r : ByteArray) (w : World) (hm : ML w) (hp : p.size ≤ 300) (hq : q.size ≤ 300) (hr : r.size ≤ 300) (vp : vld p = true) (vq : vld q = true) (vr : vld r = true) (hn : nmL p ≠ []) :
    Calls Try.prog 5 #[.string p, .string q, .string r] w fun e w' => e = .returned (.bool true) ∧ Below w.heap.size w w' := by
  have HM := Lib.hid hm
  have HB : Hid (Below w.heap.size w w) := Lib.hid (Below.refl _ _)
  have hp1 : ¬ (300 : Int) < p.size := by omega
  have hq1 : ¬ (300 : Int) < q.size := by omega
  have hr1 : ¬ (300 : Int) < r.size := by omega
  have hp2 : p.size ≤ 1000 := by omega
  have hq2 : q.size ≤ 1000 := by omega
  have hr2 : r.size ≤ 1000 := by omega
  have hs := (root_str vp).2 hn
  obtain ⟨s1, s2⟩ := hs
  have hI := blw_irr p
  have hE := up_end p q r vp vq
  have hRq := root_str vq
  have hps : (par q).size ≤ 1000 := by have := @par_size q; omega
  obtain ⟨u, hu⟩ : ∃ u, par q = u := ⟨_, rfl⟩
  unfold UpEnd at hE
  rw [hu] at hE hps
  obtain ⟨e1, e2, e3⟩ := par_of hn
  have hl0 : (nmL p).length ≠ 0 := fun h => hn (List.eq_nil_of_length_eq_zero h)
  have hl8 := okN_len (nm_ok p)
  obtain ⟨m, hml⟩ : ∃ m, (nmL p).length = m + 1 := ⟨(nmL p).length - 1, by omega⟩
  have hdm : (nmL p).dropLast.length = m := by rw [List.length_dropLast, hml]; rfl
  have hd1 : dpt p = (m : Int) + 1 := by rw [dpt_of vp, hml]; simp
  have hd2 : dpt (par p) = (m : Int) := by rw [dpt_of e2, e3, hdm]
  have hbu : blw (par p) p = true := by
    unfold blw
    rw [e2, e3, vp, hdm, hml]
    have : (nmL p).take m = (nmL p).dropLast := by rw [List.dropLast_eq_take, hml]; rfl
    rw [this]
    simp
  have hus : (par p).size ≤ 1000 := by have := @par_size p; omega
  have htx := tx_snoc hn
  have hob := of_back vp
  have htl : (tx (nmL p)).length = m + 1 := by rw [tx_len, hml]
  have hdl : (tx (nmL p).dropLast).length = m := by rw [tx_len, hdm]
  obtain ⟨la, hla⟩ : ∃ la, lst p = la := ⟨_, rfl⟩
  rw [hla] at htx
  have HLA := Lib.hid hla
  have HLN : Hid (((tx (nmL p).dropLast).map Value.string).length ≤ 1000000000) := Lib.hid (by rw [List.length_map, hdl]; omega)
  obtain ⟨up, hup⟩ : ∃ up, par p = up := ⟨_, rfl⟩
  rw [hup] at hd2 hbu hus e2 e3
  have HUN := Lib.hid e3
  have HTX := Lib.hid htx
  have HOB := Lib.hid hob
  have HTL := Lib.hid htl
  have HDL := Lib.hid hdl
  have m0 : (0 : Int) ≤ (m : Int) := by omega
  have m8 : (m : Int) ≤ 100 := by omega
  have sp := str_eq p
  obtain ⟨sp1, sp2⟩ := sp
  clear hm hp hq hr hn e1 e3 htx hob htl hdl hl0 hl8 hml hdm hla
  go_enter Try.func5, Try.ntmps5
  go_wp2_with (first
    | (go_at_call 9; refine (works_any _ (HM.out.below HB.out)).mono ?_; rintro e w1 ⟨rfl, hb⟩; replace HB := Lib.hid (below_self HB.out hb); clear hb)
    | (go_at_call 10; refine (valid_any _ _ (by assumption) (HM.out.below HB.out)).mono ?_; rintro e w1 ⟨rfl, hb⟩; replace HB := Lib.hid (below_self HB.out hb); clear hb)
    | (go_at_call 17; refine (parent_any _ _ (by assumption) (HM.out.below HB.out)).mono ?_; rintro e w1 ⟨rfl, hb⟩; replace HB := Lib.hid (below_self HB.out hb); clear hb)
    | (go_at_call 15; refine (depth_any _ _ (by assumption) (HM.out.below HB.out)).mono ?_; rintro e w1 ⟨rfl, hb⟩; replace HB := Lib.hid (below_self HB.out hb); clear hb)
    | (go_at_call 21; refine (below_any _ _ _ (by assumption) (by assumption) (HM.out.below HB.out)).mono ?_; rintro e w1 ⟨rfl, hb⟩; replace HB := Lib.hid (below_self HB.out hb); clear hb))
  refine (names_any _ _ (by assumption) (HM.out.below HB.out)).mono ?_
  rintro e wn ⟨v, he, ho, hb⟩
  have HW1 := Lib.hid HB.out.size
  rw [HUN.out] at ho
  subst he
  replace HB := Lib.hid (below_self HB.out hb)
  have HZ := Lib.hid hb.size
  have HO := Lib.hid ho
  have cL : Calls Try.prog 19 #[.string p] wn fun e w' => e = .returned (.string la) ∧ Below wn.heap.size wn w' := by
    have := last_any p wn hp2 (HM.out.below HB.out)
    rw [HLA.out] at this
    exact this
  clear ho hb
  go_wp2_with fail
  refine cL.mono ?_
  rintro e wl ⟨rfl, hb⟩
  replace HO := Lib.hid (HO.out.below hb)
  replace HB := Lib.hid (below_self HB.out hb)
  replace HZ := Lib.hid (Nat.le_trans HZ.out hb.size)
  have hz := HZ.out
  have hzn := HB.out.size
  clear hb cL
  go_wp2_with (refine wpList_app1 rfl _ _ 25 9 _ 16 rfl Try.underlying25 infoStr rfl (by omega) w1.heap.size _ ((tx (nmL p).dropLast).map .string) rfl (HO.out.below ((Below.refl _ _).alloc (Nat.le_refl _) _)) wl.heap.size (.string la) rfl ?hu rfl HLN.out (by simp; omega) ?_)
  case hu => simp [go_sem]
  intro v6 w6 ho6 hb6 hz6 hg6
  have ho7 : Own1 w6 w1.heap.size 9 v6 ((tx (nmL p)).map Value.string) := by
    rw [← HTX.out]
    simpa using ho6
  obtain ⟨a6, c6, e6, hs6⟩ := srd_of_own ho7 (by rw [HTL.out]; omega)
  have hcap6 := ho7
  rw [e6] at hcap6
  have hc6 := hcap6.cap
  have hO := of_any a6 c6 (tx (nmL p)) w6 hs6 hc6
  rw [HOB.out.1, HOB.out.2, HTL.out] at hO
  rw [HTL.out] at e6
  subst e6
  have hzw : w.heap.size ≤ w1.heap.size := HW1.out
  replace HB := Lib.hid (HB.out.trans ((((Below.refl wl.heap.size wl).alloc (Nat.le_refl _) _).mono hzn).trans (hb6.mono hzw)))
  clear ho6 ho7 hb6 hz6 hg6 hs6 hcap6 hc6 HO hz hzn hzw
  go_wp2_with fail
  refine hO.mono ?_
  rintro e w1 ⟨rfl, hb⟩
  replace HB := Lib.hid (below_self HB.out hb)
  clear hb hO
  go_wp2_with fail
  rcases hE with ⟨x, hE⟩ | ⟨x, y, hE, hnq, hU⟩
  · rcases hE with hnq | ⟨hnq, hue, hub⟩
    · obtain ⟨t1, t2⟩ := hRq.1 hnq
      clear hRq hnq
      refine (below_any _ _ _ (by assumption) (by assumption) (HM.out.below HB.out)).mono ?_
      rintro e w1 ⟨rfl, hb⟩
      replace HB := Lib.hid (below_self HB.out hb)
      clear hb
      go_wp2_with (first
        | (go_at_call 21; refine (below_any _ _ _ (by assumption) (by assumption) (HM.out.below HB.out)).mono ?_; rintro e w1 ⟨rfl, hb⟩; replace HB := Lib.hid (below_self HB.out hb); clear hb)
        | (go_at_call 17; refine (parent_any _ _ (by assumption) (HM.out.below HB.out)).mono ?_; rintro e w1 ⟨rfl, hb⟩; replace HB := Lib.hid (below_self HB.out hb); clear hb))
      go_ret
      exact ⟨rfl, HB.out⟩
    · obtain ⟨t1, t2⟩ := hRq.2 hnq
      obtain ⟨t3, t4⟩ := str_ne hue
      clear hRq hnq hue
      refine (below_any _ _ _ (by assumption) (by assumption) (HM.out.below HB.out)).mono ?_
      rintro e w1 ⟨rfl, hb⟩
      replace HB := Lib.hid (below_self HB.out hb)
      clear hb
      go_wp2_with (first
        | (go_at_call 21; refine (below_any _ _ _ (by assumption) (by assumption) (HM.out.below HB.out)).mono ?_; rintro e w1 ⟨rfl, hb⟩; replace HB := Lib.hid (below_self HB.out hb); clear hb)
        | (go_at_call 17; refine (parent_any _ _ (by assumption) (HM.out.below HB.out)).mono ?_; rintro e w1 ⟨rfl, hb⟩; replace HB := Lib.hid (below_self HB.out hb); clear hb))
      go_ret
      exact ⟨rfl, HB.out⟩
  · obtain ⟨t1, t2⟩ := hRq.2 hnq
    clear hRq hnq
    rcases hU with hue | ⟨hue, hub⟩
    · have hue2 := hue.symm
      clear hue
      subst hue2
      obtain ⟨t3, t4⟩ := str_eq p
      rcases hE with z | ⟨z, t⟩
      · skip
        refine (below_any _ _ _ (by assumption) (by assumption) (HM.out.below HB.out)).mono ?_
        rintro e w1 ⟨rfl, hb⟩
        replace HB := Lib.hid (below_self HB.out hb)
        clear hb
        go_wp2_with (first
          | (go_at_call 21; refine (below_any _ _ _ (by assumption) (by assumption) (HM.out.below HB.out)).mono ?_; rintro e w1 ⟨rfl, hb⟩; replace HB := Lib.hid (below_self HB.out hb); clear hb)
          | (go_at_call 17; refine (parent_any _ _ (by assumption) (HM.out.below HB.out)).mono ?_; rintro e w1 ⟨rfl, hb⟩; replace HB := Lib.hid (below_self HB.out hb); clear hb))
        go_ret
        exact ⟨rfl, HB.out⟩
      · skip
        refine (below_any _ _ _ (by assumption) (by assumption) (HM.out.below HB.out)).mono ?_
        rintro e w1 ⟨rfl, hb⟩
        replace HB := Lib.hid (below_self HB.out hb)
        clear hb
        go_wp2_with (first
          | (go_at_call 21; refine (below_any _ _ _ (by assumption) (by assumption) (HM.out.below HB.out)).mono ?_; rintro e w1 ⟨rfl, hb⟩; replace HB := Lib.hid (below_self HB.out hb); clear hb)
          | (go_at_call 17; refine (parent_any _ _ (by assumption) (HM.out.below HB.out)).mono ?_; rintro e w1 ⟨rfl, hb⟩; replace HB := Lib.hid (below_self HB.out hb); clear hb))
        go_ret
        exact ⟨rfl, HB.out⟩
    · obtain ⟨t3, t4⟩ := str_ne hue
      clear hue
      rcases hE with z | ⟨z, t⟩
      · skip
        refine (below_any _ _ _ (by assumption) (by assumption) (HM.out.below HB.out)).mono ?_
        rintro e w1 ⟨rfl, hb⟩
        replace HB := Lib.hid (below_self HB.out hb)
        clear hb
        go_wp2_with (first
          | (go_at_call 21; refine (below_any _ _ _ (by assumption) (by assumption) (HM.out.below HB.out)).mono ?_; rintro e w1 ⟨rfl, hb⟩; replace HB := Lib.hid (below_self HB.out hb); clear hb)
          | (go_at_call 17; refine (parent_any _ _ (by assumption) (HM.out.below HB.out)).mono ?_; rintro e w1 ⟨rfl, hb⟩; replace HB := Lib.hid (below_self HB.out hb); clear hb))
        go_ret
        exact ⟨rfl, HB.out⟩
      · skip
        refine (below_any _ _ _ (by assumption) (by assumption) (HM.out.below HB.out)).mono ?_
        rintro e w1 ⟨rfl, hb⟩
        replace HB := Lib.hid (below_self HB.out hb)
        clear hb
        go_wp2_with (first
          | (go_at_call 21; refine (below_any _ _ _ (by assumption) (by assumption) (HM.out.below HB.out)).mono ?_; rintro e w1 ⟨rfl, hb⟩; replace HB := Lib.hid (below_self HB.out hb); clear hb)
          | (go_at_call 17; refine (parent_any _ _ (by assumption) (HM.out.below HB.out)).mono ?_; rintro e w1 ⟨rfl, hb⟩; replace HB := Lib.hid (below_self HB.out hb); clear hb))
        go_ret
        exact ⟨rfl, HB.out⟩
theorem up_law (p q r : ByteArray) (w : World) (hm : ML w) :
    Calls Try.prog 5 #[.string p, .string q, .string r] w fun e w' => e = .returned (.bool true) ∧ Below w.heap.size w w' := by
  by_cases h : 300 < p.size ∨ 300 < q.size ∨ 300 < r.size
  · exact up_far p q r w hm h
  · have h1 : p.size ≤ 300 := by omega
    have h2 : q.size ≤ 300 := by omega
    have h3 : r.size ≤ 300 := by omega
    by_cases hb : vld p = false ∨ vld q = false ∨ vld r = false
    · exact up_bad p q r w hm h1 h2 h3 hb
    · have vp : vld p = true := by cases e : vld p <;> simp_all
      have vq : vld q = true := by cases e : vld q <;> simp_all
      have vr : vld r = true := by cases e : vld r <;> simp_all
      by_cases hn : nmL p = []
      · exact up_root p q r w hm h1 h2 h3 vp vq vr hn
      · exact up_deep p q r w hm h1 h2 h3 vp vq vr hn
end Go.Proofs.Ytdhmalpeooobfaa
