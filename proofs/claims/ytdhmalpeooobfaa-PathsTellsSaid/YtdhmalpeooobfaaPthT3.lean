/-
  The document's answers on two paths; the walk of PathsTells.
-/
import Derived.Test.YtdhmalpeooobfaaPthT2
namespace Go.Proofs.Ytdhmalpeooobfaa
open Go.RowKit
set_option linter.unusedSimpArgs false
set_option linter.unusedVariables false

theorem ofL_ne {x y : List UInt8} (h : x ≠ y) : ((ofL x).toList == (ofL y).toList) = false ∧ ((ofL x).toList != (ofL y).toList) = true := str_ne (fun e => h (ofL_inj e))
theorem take_eq {P Q : List (List UInt8)} (k : Nat) (hp : k < P.length) (hq : k < Q.length) (h : Q.take k = P.take k) (he : P.getD k [] = Q.getD k []) : Q.take (k + 1) = P.take (k + 1) := by
  rw [List.take_succ_eq_append_getElem hp, List.take_succ_eq_append_getElem hq, h]
  simp only [List.getD, List.getElem?_eq_getElem hp, List.getElem?_eq_getElem hq, Option.getD_some] at he
  rw [he]
set_option maxHeartbeats 4000000 in
theorem rbelow_any (p q : ByteArray) (w : World) (hp : p.size ≤ 1000) (hq : q.size ≤ 1000) : Calls Try.prog 22 #[.string p, .string q] w fun e w' => e = .returned (.bool (blw p q)) ∧ Below w.heap.size w w' := by
  have HB : Hid (Below w.heap.size w w) := Lib.hid (Below.refl _ _)
  cases vp : vld p with
  | false =>
    have e : blw p q = false := by unfold blw; rw [vp]; rfl
    rw [e]
    clear e
    go_enter Try.func22, Try.ntmps22
    go_wp2_with (go_at_call 11; refine (rvalid_any _ _ (by assumption)).mono ?_; rintro e w1 ⟨rfl, hb⟩; replace HB := Lib.hid (below_self HB.out hb); clear hb)
    go_ret
    exact ⟨rfl, HB.out⟩
  | true =>
    cases vq : vld q with
    | false =>
      have e : blw p q = false := by unfold blw; rw [vp, vq]; rfl
      rw [e]
      clear e
      go_enter Try.func22, Try.ntmps22
      go_wp2_with (go_at_call 11; refine (rvalid_any _ _ (by assumption)).mono ?_; rintro e w1 ⟨rfl, hb⟩; replace HB := Lib.hid (below_self HB.out hb); clear hb)
      go_ret
      exact ⟨rfl, HB.out⟩
    | true =>
      obtain ⟨n, hn⟩ : ∃ n, (nmL p).length = n := ⟨_, rfl⟩
      obtain ⟨m, hmm⟩ : ∃ m, (nmL q).length = m := ⟨_, rfl⟩
      have hn8 := okN_len (nm_ok p)
      have hm8 := okN_len (nm_ok q)
      rw [hn] at hn8
      rw [hmm] at hm8
      have HN := Lib.hid hn
      have HMM := Lib.hid hmm
      have VP := Lib.hid vp
      have VQ := Lib.hid vq
      obtain ⟨T, hT⟩ : ∃ T, blw p q = T := ⟨_, rfl⟩
      rw [hT]
      have hT2 : (decide (n < m) && decide ((nmL q).take n = nmL p)) = T := by
        rw [← hT]
        unfold blw
        rw [vp, vq, hn, hmm]
        rfl
      have HT := Lib.hid hT2
      clear hT hT2 hn hmm
      go_enter Try.func22, Try.ntmps22
      go_wp2_with (go_at_call 11; refine (rvalid_any _ _ (by assumption)).mono ?_; rintro e w1 ⟨rfl, hb⟩; replace HB := Lib.hid (below_self HB.out hb); clear hb)
      refine (rcutv_any p w1 VP.out).mono ?_
      rintro e w2 ⟨v, he, ho1, hb⟩
      subst he
      obtain ⟨a1, c1, hv, hs1, hc1⟩ := cut_srd ho1
      rw [HN.out] at hv
      subst hv
      replace HB := Lib.hid (below_self HB.out hb)
      have HS1 := Lib.hid hs1
      clear ho1 hb hs1 hc1
      go_wp2_with fail
      refine (rcutv_any q w2 VQ.out).mono ?_
      rintro e w3 ⟨v, he, ho2, hb⟩
      subst he
      obtain ⟨a2, c2, hv, hs2, hc2⟩ := cut_srd ho2
      rw [HMM.out] at hv
      subst hv
      replace HB := Lib.hid (below_self HB.out hb)
      replace HS1 := Lib.hid (HS1.out.below hb)
      have HS2 := Lib.hid hs2
      clear ho2 hb hs2 hc2
      clear vp vq
      by_cases hnm : n < m
      · have z0 : ¬ (m : Int) ≤ (n : Int) := by omega
        have z00 : ¬ m ≤ n := by omega
        have hT3 : decide ((nmL q).take n = nmL p) = T := by
          have := HT.out
          rw [decide_eq_true hnm, Bool.true_and] at this
          exact this
        have HT3 := Lib.hid hT3
        clear hT3
        go_wp2_with fail
        go_loopw [7] (fun i wr => ∃ k : Nat, k ≤ n ∧ i = .int .i64 k ∧ Hid (Below w3.heap.size w3 wr) ∧ Hid ((nmL q).take k = (nmL p).take k)) (fun i _ => n - (intOf i).toNat)
        case atStart => exact ⟨0, Nat.zero_le _, rfl, Lib.hid (Below.refl _ _), Lib.hid rfl⟩
        case round =>
        obtain ⟨k, hk, rfl, hB, hE⟩ := hrel
        by_cases hlt : k < n
        · skip
          have hlt1 : k < (nmL p).length := by rw [HN.out]; exact hlt
          have hlt2 : k < (nmL q).length := by rw [HMM.out]; omega
          obtain ⟨g1, o1, rfl, hg1, hc1⟩ := HS1.out.cell k (by rw [tx_len]; exact hlt1)
          obtain ⟨g2, o2, rfl, hg2, hc2⟩ := HS2.out.cell k (by rw [tx_len]; exact hlt2)
          rw [tx_getD _ _ hlt1] at hc1
          rw [tx_getD _ _ hlt2] at hc2
          obtain ⟨x, hx⟩ : ∃ x, (nmL p).getD k [] = x := ⟨_, rfl⟩
          obtain ⟨y, hy⟩ : ∃ y, (nmL q).getD k [] = y := ⟨_, rfl⟩
          rw [hx] at hc1
          rw [hy] at hc2
          have c1' : wr.cell? ⟨g1, o1 + k, none⟩ = some (.string (ofL x)) := (hB.out.cell (p := ⟨g1, o1 + k, none⟩) hg1).trans hc1
          have c2' : wr.cell? ⟨g2, o2 + k, none⟩ = some (.string (ofL y)) := (hB.out.cell (p := ⟨g2, o2 + k, none⟩) hg2).trans hc2
          have c1d : wr.drew.cell? ⟨g1, o1 + k, none⟩ = some (.string (ofL x)) := c1'
          have c2d : wr.drew.cell? ⟨g2, o2 + k, none⟩ = some (.string (ofL y)) := c2'
          have z1 : (k : Int) < (n : Int) := by omega
          have z2 : (k : Int) < (m : Int) := by omega
          by_cases hxy : x = y
          · have hE2 := take_eq k hlt1 hlt2 hE.out (by rw [hx, hy, hxy])
            have HE2 := Lib.hid hE2
            subst hxy
            obtain ⟨q1, q2⟩ := str_eq (ofL x)
            clear hE2 hx hy hc1 hc2
            go_wp2
            go_region
            go_wp2
            go_roundw
            case rel => exact ⟨k + 1, by omega, by go_num, Lib.hid (hB.out.drew), HE2⟩
            case measure => simp [intOf]; omega
          · have hTf : T = false := by
              rw [← HT3.out]
              simp only [decide_eq_false_iff_not]
              intro h
              apply hxy
              rw [← hx, ← hy, ← h]
              simp [List.getD, List.getElem?_take, hlt]
            subst hTf
            obtain ⟨q1, q2⟩ := ofL_ne hxy
            clear hx hy hc1 hc2 hxy
            go_wp2
            go_region
            go_wp2
            go_ret
            exact ⟨rfl, below_self HB.out hB.out.drew⟩
        · obtain rfl : k = n := by omega
          have hTt : T = true := by
            rw [← HT3.out]
            simp only [decide_eq_true_eq]
            rw [hE.out, ← HN.out, List.take_length]
          subst hTt
          go_wp2
          go_ret
          exact ⟨rfl, below_self HB.out hB.out⟩
      · have z0 : (m : Int) ≤ (n : Int) := by omega
        have z00 : m ≤ n := by omega
        have hTf : T = false := by
          rw [← HT.out]
          simp [hnm]
        subst hTf
        clear hnm
        go_wp2
        go_ret
        exact ⟨rfl, HB.out⟩
theorem ltN_step (x y : List UInt8) (a b : List (List UInt8)) : ltN (x :: a) (y :: b) = if x = y then ltN a b else Op.bytesLess x y := rfl
theorem drop_cons (P : List (List UInt8)) (k : Nat) (h : k < P.length) : P.drop k = P.getD k [] :: P.drop (k + 1) := by
  rw [List.drop_eq_getElem_cons h]; simp [List.getD, h]
set_option maxHeartbeats 4000000 in
theorem rless_any (p q : ByteArray) (w : World) (hp : p.size ≤ 1000) (hq : q.size ≤ 1000) : Calls Try.prog 24 #[.string p, .string q] w fun e w' => e = .returned (.bool (lsr p q)) ∧ Below w.heap.size w w' := by
  have HB : Hid (Below w.heap.size w w) := Lib.hid (Below.refl _ _)
  cases vp : vld p with
  | false =>
    have e : lsr p q = false := by unfold lsr; rw [vp]; rfl
    rw [e]
    clear e
    go_enter Try.func24, Try.ntmps24
    go_wp2_with (go_at_call 11; refine (rvalid_any _ _ (by assumption)).mono ?_; rintro e w1 ⟨rfl, hb⟩; replace HB := Lib.hid (below_self HB.out hb); clear hb)
    go_ret
    exact ⟨rfl, HB.out⟩
  | true =>
    cases vq : vld q with
    | false =>
      have e : lsr p q = false := by unfold lsr; rw [vp, vq]; rfl
      rw [e]
      clear e
      go_enter Try.func24, Try.ntmps24
      go_wp2_with (go_at_call 11; refine (rvalid_any _ _ (by assumption)).mono ?_; rintro e w1 ⟨rfl, hb⟩; replace HB := Lib.hid (below_self HB.out hb); clear hb)
      go_ret
      exact ⟨rfl, HB.out⟩
    | true =>
      obtain ⟨n, hn⟩ : ∃ n, (nmL p).length = n := ⟨_, rfl⟩
      obtain ⟨m, hmm⟩ : ∃ m, (nmL q).length = m := ⟨_, rfl⟩
      have hn8 := okN_len (nm_ok p)
      have hm8 := okN_len (nm_ok q)
      rw [hn] at hn8
      rw [hmm] at hm8
      have HN := Lib.hid hn
      have HMM := Lib.hid hmm
      have VP := Lib.hid vp
      have VQ := Lib.hid vq
      obtain ⟨T, hT⟩ : ∃ T, lsr p q = T := ⟨_, rfl⟩
      rw [hT]
      have hT2 : ltN (nmL p) (nmL q) = T := by
        rw [← hT]
        unfold lsr
        rw [vp, vq]
        rfl
      have HT := Lib.hid hT2
      clear hT hT2 hn hmm
      go_enter Try.func24, Try.ntmps24
      go_wp2_with (go_at_call 11; refine (rvalid_any _ _ (by assumption)).mono ?_; rintro e w1 ⟨rfl, hb⟩; replace HB := Lib.hid (below_self HB.out hb); clear hb)
      refine (rcutv_any p w1 VP.out).mono ?_
      rintro e w2 ⟨v, he, ho1, hb⟩
      subst he
      obtain ⟨a1, c1, hv, hs1, hc1⟩ := cut_srd ho1
      rw [HN.out] at hv
      subst hv
      replace HB := Lib.hid (below_self HB.out hb)
      have HS1 := Lib.hid hs1
      clear ho1 hb hs1 hc1
      go_wp2_with fail
      refine (rcutv_any q w2 VQ.out).mono ?_
      rintro e w3 ⟨v, he, ho2, hb⟩
      subst he
      obtain ⟨a2, c2, hv, hs2, hc2⟩ := cut_srd ho2
      rw [HMM.out] at hv
      subst hv
      replace HB := Lib.hid (below_self HB.out hb)
      replace HS1 := Lib.hid (HS1.out.below hb)
      have HS2 := Lib.hid hs2
      clear ho2 hb hs2 hc2
      clear vp vq
      go_wp2_with fail
      go_loopw [7] (fun i wr => ∃ k : Nat, k ≤ n ∧ k ≤ m ∧ i = .int .i64 k ∧ Hid (Below w3.heap.size w3 wr) ∧ Hid (ltN ((nmL p).drop k) ((nmL q).drop k) = T)) (fun i _ => n - (intOf i).toNat)
      case atStart => exact ⟨0, Nat.zero_le _, Nat.zero_le _, rfl, Lib.hid (Below.refl _ _), HT⟩
      case round =>
        obtain ⟨k, hk, hkm, rfl, hB, hE⟩ := hrel
        by_cases hboth : k < n ∧ k < m
        · obtain ⟨hlt, hltm⟩ := hboth
          have hlt1 : k < (nmL p).length := by rw [HN.out]; exact hlt
          have hlt2 : k < (nmL q).length := by rw [HMM.out]; exact hltm
          obtain ⟨g1, o1, rfl, hg1, hc1⟩ := HS1.out.cell k (by rw [tx_len]; exact hlt1)
          obtain ⟨g2, o2, rfl, hg2, hc2⟩ := HS2.out.cell k (by rw [tx_len]; exact hlt2)
          rw [tx_getD _ _ hlt1] at hc1
          rw [tx_getD _ _ hlt2] at hc2
          obtain ⟨x, hx⟩ : ∃ x, (nmL p).getD k [] = x := ⟨_, rfl⟩
          obtain ⟨y, hy⟩ : ∃ y, (nmL q).getD k [] = y := ⟨_, rfl⟩
          rw [hx] at hc1
          rw [hy] at hc2
          have c1' : wr.cell? ⟨g1, o1 + k, none⟩ = some (.string (ofL x)) := (hB.out.cell (p := ⟨g1, o1 + k, none⟩) hg1).trans hc1
          have c2' : wr.cell? ⟨g2, o2 + k, none⟩ = some (.string (ofL y)) := (hB.out.cell (p := ⟨g2, o2 + k, none⟩) hg2).trans hc2
          have c1d : wr.drew.cell? ⟨g1, o1 + k, none⟩ = some (.string (ofL x)) := c1'
          have c2d : wr.drew.cell? ⟨g2, o2 + k, none⟩ = some (.string (ofL y)) := c2'
          have z1 : (k : Int) < (n : Int) := by omega
          have z2 : (k : Int) < (m : Int) := by omega
          have hE2 := hE.out
          rw [drop_cons _ k hlt1, drop_cons _ k hlt2, ltN_step, hx, hy] at hE2
          by_cases hxy : x = y
          · rw [if_pos hxy] at hE2
            have HE2 := Lib.hid hE2
            subst hxy
            obtain ⟨q1, q2⟩ := str_eq (ofL x)
            clear hE2 hx hy hc1 hc2
            go_wp2
            go_region
            go_wp2
            go_roundw
            case rel => exact ⟨k + 1, by omega, by omega, by go_num, Lib.hid (hB.out.drew), HE2⟩
            case measure => simp [intOf]; omega
          · rw [if_neg hxy] at hE2
            have hbl : Op.bytesLess (ofL x).toList (ofL y).toList = T := by rw [Lib.toList_data, Lib.toList_data, ofL_data, ofL_data]; exact hE2
            obtain ⟨q1, q2⟩ := ofL_ne hxy
            have c1e : wr.drew.drew.cell? ⟨g1, o1 + k, none⟩ = some (.string (ofL x)) := c1'
            have c2e : wr.drew.drew.cell? ⟨g2, o2 + k, none⟩ = some (.string (ofL y)) := c2'
            clear hx hy hc1 hc2 hxy hE2 HT hE
            go_wp2
            go_region
            go_wp2
            go_region
            go_wp2
            go_ret
            exact ⟨rfl, below_self HB.out hB.out.drew.drew⟩
        · have hfin : T = decide (n < m) := by
            have hE2 := hE.out
            by_cases h1 : k < n
            · have h2 : ¬ k < m := fun h => hboth ⟨h1, h⟩
              have e2 : (nmL q).drop k = [] := List.drop_eq_nil_of_le (by rw [HMM.out]; omega)
              have e1 := drop_cons (nmL p) k (by rw [HN.out]; exact h1)
              rw [e1, e2] at hE2
              have : ¬ n < m := by omega
              rw [← hE2]
              simp [ltN, this]
            · have e1 : (nmL p).drop k = [] := List.drop_eq_nil_of_le (by rw [HN.out]; omega)
              rw [e1] at hE2
              by_cases h2 : k < m
              · rw [drop_cons (nmL q) k (by rw [HMM.out]; exact h2)] at hE2
                have : n < m := by omega
                rw [← hE2]
                simp [ltN, this]
              · rw [List.drop_eq_nil_of_le (by rw [HMM.out]; omega)] at hE2
                have : ¬ n < m := by omega
                rw [← hE2]
                simp [ltN, this]
          subst hfin
          clear HT hE
          by_cases h1 : (k : Int) < (n : Int)
          · have h2 : ¬ (k : Int) < (m : Int) := by omega
            clear hboth
            by_cases h3 : n < m
            · have hd : decide (n < m) = true := by simpa using h3
              rw [hd]
              clear hd
              go_wp2
              go_ret
              exact ⟨rfl, below_self HB.out hB.out⟩
            · have hd : decide (n < m) = false := by simpa using h3
              have HD := Lib.hid hd
              clear hd
              go_wp2
              go_ret
              exact ⟨by first | rfl | rw [HD.out], below_self HB.out hB.out⟩
          · clear hboth
            by_cases h3 : n < m
            · have HD := Lib.hid (decide_eq_true h3)
              go_wp2
              go_ret
              exact ⟨by first | rfl | rw [HD.out], below_self HB.out hB.out⟩
            · have HD := Lib.hid (decide_eq_false h3)
              go_wp2
              go_ret
              exact ⟨by first | rfl | rw [HD.out], below_self HB.out hB.out⟩
theorem tl_far (p q : ByteArray) (w : World) (hm : ML w) (h : 300 < p.size ∨ 300 < q.size) :
    Calls Try.prog 3 #[.string p, .string q] w fun e w' => e = .returned (.bool true) ∧ Below w.heap.size w w' := by
  have HM := Lib.hid hm
  have HB : Hid (Below w.heap.size w w) := Lib.hid (Below.refl _ _)
  clear hm
  by_cases h1 : p.size ≤ 300
  · have k1 : ¬ (300 : Int) < p.size := by omega
    have k2 : (300 : Int) < q.size := by omega
    clear h
    go_enter Try.func3, Try.ntmps3
    go_wp2_with (first
      | (go_at_call 9; refine (works_any _ (HM.out.below HB.out)).mono ?_; rintro e w1 ⟨rfl, hb⟩; replace HB := Lib.hid (below_self HB.out hb); clear hb))
    go_ret
    exact ⟨rfl, HB.out⟩
  · have k1 : (300 : Int) < p.size := by omega
    clear h
    go_enter Try.func3, Try.ntmps3
    go_wp2_with (first
      | (go_at_call 9; refine (works_any _ (HM.out.below HB.out)).mono ?_; rintro e w1 ⟨rfl, hb⟩; replace HB := Lib.hid (below_self HB.out hb); clear hb))
    go_ret
    exact ⟨rfl, HB.out⟩
set_option maxHeartbeats 4000000 in
theorem tells_law (p q : ByteArray) (w : World) (hm : ML w) :
    Calls Try.prog 3 #[.string p, .string q] w fun e w' => e = .returned (.bool true) ∧ Below w.heap.size w w' := by
  by_cases h : 300 < p.size ∨ 300 < q.size
  · exact tl_far p q w hm h
  have HM := Lib.hid hm
  have HB : Hid (Below w.heap.size w w) := Lib.hid (Below.refl _ _)
  have hp1 : ¬ (300 : Int) < p.size := by omega
  have hq1 : ¬ (300 : Int) < q.size := by omega
  have hp2 : p.size ≤ 1000 := by omega
  have hq2 : q.size ≤ 1000 := by omega
  obtain ⟨V, hV⟩ : ∃ V, vld p = V := ⟨_, rfl⟩
  obtain ⟨D, hD⟩ : ∃ D, dpt p = D := ⟨_, rfl⟩
  obtain ⟨U, hU⟩ : ∃ U, par p = U := ⟨_, rfl⟩
  obtain ⟨L, hL⟩ : ∃ L, lst p = L := ⟨_, rfl⟩
  obtain ⟨Y, hY⟩ : ∃ Y, blw p q = Y := ⟨_, rfl⟩
  obtain ⟨Z, hZ⟩ : ∃ Z, lsr p q = Z := ⟨_, rfl⟩
  have e1 : (V == V) = true := by simp
  have e2 : (D == D) = true := by simp
  obtain ⟨e3, _⟩ := str_eq U
  obtain ⟨e4, _⟩ := str_eq L
  have e5 : (Y == Y) = true := by simp
  have e6 : (Z == Z) = true := by simp
  have hn8 := okN_len (nm_ok p)
  obtain ⟨n, hn⟩ : ∃ n, (tx (nmL p)).length = n := ⟨_, rfl⟩
  have hn9 : n ≤ 8 := by rw [← hn, tx_len]; exact hn8
  have HN := Lib.hid hn
  clear h hm hn hn8
  go_enter Try.func3, Try.ntmps3
  go_wp2_with (first
    | (go_at_call 9; refine (works_any _ (HM.out.below HB.out)).mono ?_; rintro e w1 ⟨rfl, hb⟩; replace HB := Lib.hid (below_self HB.out hb); clear hb)
    | (go_at_call 10; refine (valid_any _ _ (by assumption) (HM.out.below HB.out)).mono ?_; rintro e w1 ⟨rfl, hb⟩; replace HB := Lib.hid (below_self HB.out hb); clear hb)
    | (go_at_call 11; refine (rvalid_any _ _ (by assumption)).mono ?_; rintro e w1 ⟨rfl, hb⟩; replace HB := Lib.hid (below_self HB.out hb); clear hb))
  refine (names_any _ _ (by assumption) (HM.out.below HB.out)).mono ?_
  rintro e wn ⟨v, he, ho, hb⟩
  subst he
  obtain ⟨a1, c1, hv, hs1⟩ := srd_of_own ho (by rw [HN.out]; omega)
  rw [HN.out] at hv
  subst hv
  replace HB := Lib.hid (below_self HB.out hb)
  have HS1 := Lib.hid hs1
  clear ho hb hs1
  go_wp2_with fail
  refine (rnames_any _ _ (by assumption)).mono ?_
  rintro e wm ⟨v, he, ho, hb⟩
  subst he
  obtain ⟨a2, c2, hv, hs2⟩ := srd_of_own ho (by rw [HN.out]; omega)
  have cT := texts_true a1 a2 c1 c2 (tx (nmL p)) wm (HS1.out.below hb) hs2
  rw [HN.out] at hv cT
  subst hv
  replace HB := Lib.hid (below_self HB.out hb)
  clear ho hb hs2 HS1
  go_wp2_with fail
  refine cT.mono ?_
  rintro e w1 ⟨rfl, hb⟩
  replace HB := Lib.hid (below_self HB.out hb)
  clear hb cT
  go_wp2_with (first
    | (go_at_call 15; refine (depth_any _ _ (by assumption) (HM.out.below HB.out)).mono ?_; rintro e w1 ⟨rfl, hb⟩; replace HB := Lib.hid (below_self HB.out hb); clear hb)
    | (go_at_call 16; refine (rdepth_any _ _ (by assumption)).mono ?_; rintro e w1 ⟨rfl, hb⟩; replace HB := Lib.hid (below_self HB.out hb); clear hb)
    | (go_at_call 17; refine (parent_any _ _ (by assumption) (HM.out.below HB.out)).mono ?_; rintro e w1 ⟨rfl, hb⟩; replace HB := Lib.hid (below_self HB.out hb); clear hb)
    | (go_at_call 18; refine (rparent_any _ _ (by assumption)).mono ?_; rintro e w1 ⟨rfl, hb⟩; replace HB := Lib.hid (below_self HB.out hb); clear hb)
    | (go_at_call 19; refine (last_any _ _ (by assumption) (HM.out.below HB.out)).mono ?_; rintro e w1 ⟨rfl, hb⟩; replace HB := Lib.hid (below_self HB.out hb); clear hb)
    | (go_at_call 20; refine (rlast_any _ _ (by assumption)).mono ?_; rintro e w1 ⟨rfl, hb⟩; replace HB := Lib.hid (below_self HB.out hb); clear hb)
    | (go_at_call 21; refine (below_any _ _ _ (by assumption) (by assumption) (HM.out.below HB.out)).mono ?_; rintro e w1 ⟨rfl, hb⟩; replace HB := Lib.hid (below_self HB.out hb); clear hb)
    | (go_at_call 22; refine (rbelow_any _ _ _ (by assumption) (by assumption)).mono ?_; rintro e w1 ⟨rfl, hb⟩; replace HB := Lib.hid (below_self HB.out hb); clear hb)
    | (go_at_call 23; refine (less_any _ _ _ (by assumption) (by assumption) (HM.out.below HB.out)).mono ?_; rintro e w1 ⟨rfl, hb⟩; replace HB := Lib.hid (below_self HB.out hb); clear hb)
    | (go_at_call 24; refine (rless_any _ _ _ (by assumption) (by assumption)).mono ?_; rintro e w1 ⟨rfl, hb⟩; replace HB := Lib.hid (below_self HB.out hb); clear hb))
  go_ret
  exact ⟨rfl, HB.out⟩
end Go.Proofs.Ytdhmalpeooobfaa
