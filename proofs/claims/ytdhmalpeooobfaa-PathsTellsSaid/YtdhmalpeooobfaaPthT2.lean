/-
  The document's answers on paths.
-/
import Derived.Test.YtdhmalpeooobfaaPthT
namespace Go.Proofs.Ytdhmalpeooobfaa
open Go.RowKit
set_option linter.unusedSimpArgs false
set_option linter.unusedVariables false

theorem vld_size {p : ByteArray} (h : vld p = true) : 1 ≤ p.size ∧ p.size ≤ 137 := by
  have e := vld_pth h
  have e2 : p.size = (pth (nmL p)).size := by rw [← e]
  have := pth_size _ (nm_ok p)
  refine ⟨?_, by omega⟩
  rw [e2]
  unfold pth
  rw [ofL_size]
  simp
set_option maxHeartbeats 2000000 in
theorem rvalid_any (p : ByteArray) (w : World) (hp : p.size ≤ 1000) : Calls Try.prog 11 #[.string p] w fun e w' => e = .returned (.bool (vld p)) ∧ Below w.heap.size w w' := by
  by_cases h1 : 1 ≤ p.size
  · by_cases h2 : p.size ≤ 200
    · have k1 : ¬ (p.size : Int) < 1 := by omega
      have k2 : ¬ (200 : Int) < (p.size : Int) := by omega
      have cC := rcut_any p w h1 h2
      have hlen := rcs_len p
      have hmem := rcs_mem p
      obtain ⟨n, hn⟩ : ∃ n, (rcs p).length = n := ⟨_, rfl⟩
      have t1 : (tx (rcs p)).length = n := by rw [tx_len, hn]
      rw [hn] at hlen
      have hcase : (vld p = true ∧ ofE (tx (rcs p)) = 0 ∧ ofP (tx (rcs p)) = p) ∨ (vld p = false ∧ (ofE (tx (rcs p)) = 1 ∨ (ofE (tx (rcs p)) = 0 ∧ ofP (tx (rcs p)) ≠ p))) := by
        cases hv : vld p with
        | true =>
          have := of_back hv
          rw [rcs_vld hv]
          exact .inl ⟨rfl, this.2, this.1⟩
        | false =>
          refine .inr ⟨rfl, ?_⟩
          have hd := tx_data (rcs p)
          unfold ofE ofP
          rw [hd]
          cases ho : okN (rcs p) with
          | false => exact .inl rfl
          | true =>
            refine .inr ⟨rfl, ?_⟩
            intro hc
            have := (pth_vld ho).1
            simp only [if_true] at hc
            rw [hc, hv] at this
            cases this
      obtain ⟨X, hX⟩ : ∃ X, ofP (tx (rcs p)) = X := ⟨_, rfl⟩
      obtain ⟨E, hE⟩ : ∃ E, ofE (tx (rcs p)) = E := ⟨_, rfl⟩
      obtain ⟨V, hV⟩ : ∃ V, vld p = V := ⟨_, rfl⟩
      rw [hX, hE, hV] at hcase
      rw [hV]
      have T1 := Lib.hid t1
      have HX := Lib.hid hX
      have HE := Lib.hid hE
      have HMM := Lib.hid hmem
      clear hX hE hV t1 hmem hn
      go_enter Try.func11, Try.ntmps11
      go_wp2_with fail
      refine cC.mono ?_
      rintro e w1 ⟨v, he, ho, hb⟩
      subst he
      obtain ⟨a, c, hv, hs⟩ := srd_of_own ho (by rw [T1.out]; omega)
      have cR := rof_any a c (tx (rcs p)) w1 hs (fun s hs => by have := HMM.out s hs; unfold maxLen; omega)
      rw [HX.out, HE.out, T1.out] at cR
      rw [T1.out] at hv
      subst hv
      have HB := Lib.hid hb
      clear ho hb hs cC
      go_wp2_with fail
      refine cR.mono ?_
      rintro e w2 ⟨rfl, rfl⟩
      clear cR
      rcases hcase with ⟨rfl, rfl, rfl⟩ | ⟨rfl, rfl | ⟨rfl, hne⟩⟩
      · obtain ⟨s1, s2⟩ := str_eq X
        go_wp2
        go_ret
        exact ⟨rfl, HB.out⟩
      · go_wp2
        go_ret
        exact ⟨rfl, HB.out⟩
      · obtain ⟨s1, s2⟩ := str_ne hne
        clear hne
        go_wp2
        go_ret
        exact ⟨rfl, HB.out⟩
    · have hv : vld p = false := by
        cases h : vld p with
        | false => rfl
        | true => have := vld_size h; omega
      rw [hv]
      have k1 : ¬ (p.size : Int) < 1 := by omega
      have k2 : (200 : Int) < (p.size : Int) := by omega
      clear hv
      go_enter Try.func11, Try.ntmps11
      go_wp2
      go_ret
      exact ⟨rfl, Below.refl _ _⟩
  · have hv : vld p = false := by
      cases h : vld p with
      | false => rfl
      | true => have := vld_size h; omega
    rw [hv]
    have k1 : (p.size : Int) < 1 := by omega
    clear hv
    go_enter Try.func11, Try.ntmps11
    go_wp2
    go_ret
    exact ⟨rfl, Below.refl _ _⟩
/-- What is cut of a path: its names. -/
theorem rcutv_any (p : ByteArray) (w : World) (hv : vld p = true) : Calls Try.prog 28 #[.string p] w (NamP p w) := by
  have hs := vld_size hv
  refine (rcut_any p w hs.1 (by omega)).mono ?_
  rintro e w' ⟨v, he, ho, hb⟩
  rw [rcs_vld hv] at ho
  exact ⟨v, he, ho, hb⟩
theorem rnames_any (p : ByteArray) (w : World) (hp : p.size ≤ 1000) : Calls Try.prog 14 #[.string p] w (NamP p w) := by
  have cV := rvalid_any p w hp
  cases hv : vld p with
  | true =>
    rw [hv] at cV
    have HV := Lib.hid hv
    clear hv
    go_enter Try.func14, Try.ntmps14
    go_wp2_with (go_at_call 11; refine cV.mono ?_; rintro e w1 ⟨rfl, hb⟩; have HB := Lib.hid hb; clear hb)
    refine (rcutv_any p w1 HV.out).mono ?_
    rintro e w2 ⟨v, he, ho, hb⟩
    subst he
    have HO := Lib.hid ho
    have HB2 := Lib.hid (below_self HB.out hb)
    have HZ := Lib.hid HB.out.size
    clear ho hb cV
    go_wp2
    go_ret
    have ho := HO.out
    obtain ⟨q1, q2⟩ := ho
    refine ⟨v, rfl, ⟨q1, ?_⟩, HB2.out⟩
    rcases q2 with q2 | ⟨g, cap, cur, qv, qg, qr⟩
    · exact .inl q2
    · exact .inr ⟨g, cap, cur, qv, Nat.le_trans HZ.out qg, qr⟩
  | false =>
    rw [hv] at cV
    have HV := Lib.hid hv
    clear hv
    go_enter Try.func14, Try.ntmps14
    go_wp2_with (go_at_call 11; refine cV.mono ?_; rintro e w1 ⟨rfl, hb⟩; have HB := Lib.hid hb; clear hb)
    go_ret
    refine ⟨.slice none 0 0, rfl, ?_, HB.out⟩
    rw [nm_novld HV.out]
    exact Own1.nil _ _ _
theorem rdepth_any (p : ByteArray) (w : World) (hp : p.size ≤ 1000) : Calls Try.prog 16 #[.string p] w fun e w' => e = .returned (.int .i64 (dpt p)) ∧ Below w.heap.size w w' := by
  have cV := rvalid_any p w hp
  cases hv : vld p with
  | true =>
    have e1 := dpt_of hv
    obtain ⟨n, hn⟩ : ∃ n, (nmL p).length = n := ⟨_, rfl⟩
    rw [e1, hn]
    rw [hv] at cV
    have HV := Lib.hid hv
    have HN := Lib.hid hn
    clear hv e1 hn
    go_enter Try.func16, Try.ntmps16
    go_wp2_with (go_at_call 11; refine cV.mono ?_; rintro e w1 ⟨rfl, hb⟩; have HB := Lib.hid hb; clear hb)
    refine (rcutv_any p w1 HV.out).mono ?_
    rintro e w2 ⟨v, he, ho, hb⟩
    subst he
    obtain ⟨a, c, hv, hs, hcap⟩ := cut_srd ho
    rw [HN.out] at hv
    subst hv
    have HB2 := Lib.hid (below_self HB.out hb)
    clear ho hb cV hs hcap
    go_wp2
    go_ret
    exact ⟨rfl, HB2.out⟩
  | false =>
    have e1 : dpt p = -1 := by unfold dpt; rw [hv]; rfl
    rw [e1]
    rw [hv] at cV
    clear hv e1
    go_enter Try.func16, Try.ntmps16
    go_wp2_with (go_at_call 11; refine cV.mono ?_; rintro e w1 ⟨rfl, hb⟩; have HB := Lib.hid hb; clear hb)
    go_ret
    exact ⟨rfl, HB.out⟩
theorem nm_vld {p : ByteArray} (h : (nmL p).length ≠ 0) : vld p = true := by
  cases hv : vld p with
  | true => rfl
  | false => rw [nm_novld hv] at h; simp at h
theorem dpt_zero {p : ByteArray} (h : (nmL p).length = 0) : dpt p < 1 := by
  unfold dpt
  split
  · omega
  · omega
set_option maxHeartbeats 1000000 in
theorem rlast_any (p : ByteArray) (w : World) (hp : p.size ≤ 1000) : Calls Try.prog 20 #[.string p] w fun e w' => e = .returned (.string (lst p)) ∧ Below w.heap.size w w' := by
  have cD := rdepth_any p w hp
  have hn8 := okN_len (nm_ok p)
  by_cases h0 : (nmL p).length = 0
  · have e1 : lst p = ByteArray.empty := by unfold lst; rw [if_pos h0]
    rw [e1]
    have hd := dpt_zero h0
    obtain ⟨D, hD⟩ : ∃ D, dpt p = D := ⟨_, rfl⟩
    rw [hD] at cD hd
    clear e1 h0 hD
    go_enter Try.func20, Try.ntmps20
    go_wp2_with (go_at_call 16; refine cD.mono ?_; rintro e w1 ⟨rfl, hb⟩; have HB := Lib.hid hb; clear hb)
    go_ret
    exact ⟨rfl, HB.out⟩
  · have hv := nm_vld h0
    have e1 : lst p = ofL ((nmL p).getLastD []) := by unfold lst; rw [if_neg h0]
    obtain ⟨m, hm⟩ : ∃ m, (nmL p).length = m + 1 := ⟨(nmL p).length - 1, by omega⟩
    have el : (nmL p).getD m [] = (nmL p).getLastD [] := by
      rw [List.getLastD_eq_getLast?, List.getLast?_eq_getElem?, hm]
      simp [List.getD]
    obtain ⟨L, hL⟩ : ∃ L, (nmL p).getLastD [] = L := ⟨_, rfl⟩
    rw [e1, hL]
    rw [dpt_of hv, hm] at cD
    have hd : ¬ ((m + 1 : Nat) : Int) < 1 := by omega
    obtain ⟨D, hD⟩ : ∃ D, ((m + 1 : Nat) : Int) = D := ⟨_, rfl⟩
    rw [hD] at cD hd
    have HV := Lib.hid hv
    have HM := Lib.hid hm
    have HEL := Lib.hid (el.trans hL)
    clear e1 h0 el hL hm hv hD
    go_enter Try.func20, Try.ntmps20
    go_wp2_with (go_at_call 16; refine cD.mono ?_; rintro e w1 ⟨rfl, hb⟩; have HB := Lib.hid hb; clear hb)
    refine (rcutv_any p w1 HV.out).mono ?_
    rintro e w2 ⟨v, he, ho, hb⟩
    subst he
    obtain ⟨a, c, hv, hs, hcap⟩ := cut_srd ho
    have HB2 := Lib.hid (below_self HB.out hb)
    obtain ⟨g, off, rfl, hg, hcl⟩ := hs.cell m (by rw [tx_len, HM.out]; omega)
    rw [tx_getD _ _ (by rw [HM.out]; omega), HEL.out] at hcl
    rw [HM.out] at hv hn8
    subst hv
    have k2 : (0 : Int) ≤ (m : Int) := by omega
    have k3 : (m : Int) ≤ 100 := by omega
    clear ho hb cD hs hcap
    go_wp2
    go_ret
    exact ⟨rfl, HB2.out⟩
set_option maxHeartbeats 1000000 in
theorem rparent_any (p : ByteArray) (w : World) (hp : p.size ≤ 1000) : Calls Try.prog 18 #[.string p] w fun e w' => e = .returned (.string (par p)) ∧ Below w.heap.size w w' := by
  have cD := rdepth_any p w hp
  have hok := nm_ok p
  have hn8 := okN_len hok
  by_cases h0 : (nmL p).length = 0
  · have e1 : par p = ByteArray.empty := by unfold par; rw [if_pos h0]
    rw [e1]
    have hd := dpt_zero h0
    obtain ⟨D, hD⟩ : ∃ D, dpt p = D := ⟨_, rfl⟩
    rw [hD] at cD hd
    clear e1 h0 hD hok
    go_enter Try.func18, Try.ntmps18
    go_wp2_with (go_at_call 16; refine cD.mono ?_; rintro e w1 ⟨rfl, hb⟩; have HB := Lib.hid hb; clear hb)
    go_ret
    exact ⟨rfl, HB.out⟩
  · have hv := nm_vld h0
    have e1 : par p = pth (nmL p).dropLast := by unfold par; rw [if_neg h0]
    have hokd := okN_dropLast hok
    obtain ⟨m, hm⟩ : ∃ m, (nmL p).length = m + 1 := ⟨(nmL p).length - 1, by omega⟩
    obtain ⟨K, hK⟩ : ∃ K, (nmL p).dropLast = K := ⟨_, rfl⟩
    have hKt : (nmL p).take m = K := by rw [← hK, List.dropLast_eq_take, hm]; rfl
    have hKl : K.length = m := by rw [← hK, List.length_dropLast, hm]; rfl
    rw [hK] at hokd
    have hP : ofP (tx K) = pth K ∧ ofE (tx K) = 0 := by
      have hd := tx_data K
      unfold ofP ofE
      rw [hd, hokd]
      exact ⟨rfl, rfl⟩
    have hsz : ∀ s ∈ tx K, s.size ≤ maxLen := by
      intro s hs
      unfold tx at hs
      rw [List.mem_map] at hs
      obtain ⟨x, hx, rfl⟩ := hs
      have := okN_all hokd x hx
      unfold nmB at this
      simp only [Bool.and_eq_true, decide_eq_true_eq] at this
      rw [ofL_size]
      unfold maxLen
      omega
    rw [e1, hK]
    rw [dpt_of hv, hm] at cD
    have hd : ¬ ((m + 1 : Nat) : Int) < 1 := by omega
    obtain ⟨D, hD⟩ : ∃ D, ((m + 1 : Nat) : Int) = D := ⟨_, rfl⟩
    rw [hD] at cD hd
    have HV := Lib.hid hv
    have HM := Lib.hid hm
    have HKt := Lib.hid hKt
    have HKl := Lib.hid hKl
    have HP := Lib.hid hP
    have HSZ := Lib.hid hsz
    clear e1 h0 hm hv hD hKt hKl hP hsz hK hokd hok
    go_enter Try.func18, Try.ntmps18
    go_wp2_with (go_at_call 16; refine cD.mono ?_; rintro e w1 ⟨rfl, hb⟩; have HB := Lib.hid hb; clear hb)
    refine (rcutv_any p w1 HV.out).mono ?_
    rintro e w2 ⟨v, he, ho, hb⟩
    subst he
    obtain ⟨a, c, hv, hs, hcap⟩ := cut_srd ho
    have HB2 := Lib.hid (below_self HB.out hb)
    have hs2 := srd_cut (c := c) hs m (by rw [tx_len, HM.out]; omega)
    rw [tx_take, HKt.out] at hs2
    have cR := rof_any a c (tx K) w2 hs2 HSZ.out
    rw [HP.out.1, HP.out.2, tx_len, HKl.out] at cR
    rw [HM.out] at hv hcap hn8
    subst hv
    have k2 : (0 : Int) ≤ (m : Int) := by omega
    have k3 : (m : Int) ≤ 100 := by omega
    have k4 : m ≤ c := by omega
    obtain ⟨X, hX⟩ : ∃ X, pth K = X := ⟨_, rfl⟩
    rw [hX] at cR
    have HX := Lib.hid hX
    clear ho hb cD hs hcap hs2 hX
    go_wp2_with (refine wpList_cutS rfl _ _ rfl a (m + 1) c rfl m ?hh k4 ?_)
    case hh => simp [go_sem]
    go_wp2_with fail
    refine cR.mono ?_
    rintro e w3 ⟨rfl, rfl⟩
    clear cR
    go_wp2
    go_ret
    exact ⟨ret_str HX.out.symm, HB2.out⟩
end Go.Proofs.Ytdhmalpeooobfaa
