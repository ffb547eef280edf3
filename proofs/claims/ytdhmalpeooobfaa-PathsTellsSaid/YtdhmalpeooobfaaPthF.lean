/-
  The walks of package paths: who is below, and who comes first.
-/
import Derived.Test.YtdhmalpeooobfaaPthE
namespace Go.Proofs.Ytdhmalpeooobfaa
open Go.RowKit
set_option linter.unusedSimpArgs false
set_option linter.unusedVariables false

theorem isnan_any (s : ByteArray) (w : World) : Calls Try.prog 49 #[.string s] w fun e w' => e = .returned (.bool false) ∧ w = w' := by
  have q2 : (s.toList != s.toList) = false := by simp
  go_enter Try.func49, Try.ntmps49
  go_wp2
  go_ret
  exact ⟨rfl, rfl⟩
def cmpS (x y : List UInt8) : Int := if x = y then 0 else if Op.bytesLess x y then -1 else 1
theorem cmps_any (s t : ByteArray) (w : World) : Calls Try.prog 41 #[.string s, .string t] w fun e w' => e = .returned (.int .i64 (cmpS s.data.toList t.data.toList)) ∧ w = w' := by
  have es : s.toList = s.data.toList := Lib.toList_data s
  have et : t.toList = t.data.toList := Lib.toList_data t
  rw [← es, ← et]
  obtain ⟨x, hx⟩ : ∃ x, s.toList = x := ⟨_, rfl⟩
  obtain ⟨y, hy⟩ : ∃ y, t.toList = y := ⟨_, rfl⟩
  by_cases h1 : x = y
  · have e : cmpS s.toList t.toList = 0 := by unfold cmpS; rw [hx, hy, if_pos h1]
    rw [e]
    have k1 : Op.bytesLess s.toList t.toList = false := by rw [hx, hy, h1]; exact bl_irr y
    have k2 : (s.toList == t.toList) = true := by rw [hx, hy, h1]; simp
    clear es et e hx hy h1
    go_enter Try.func41, Try.ntmps41
    go_wp2_with (go_at_call 49; refine (isnan_any _ _).mono ?_; rintro e w' ⟨rfl, rfl⟩)
    go_ret
    exact ⟨rfl, rfl⟩
  · have k2 : (s.toList == t.toList) = false := by rw [hx, hy]; simpa using h1
    cases h2 : Op.bytesLess x y with
    | true =>
      have e : cmpS s.toList t.toList = -1 := by unfold cmpS; rw [hx, hy, if_neg h1, h2]; rfl
      rw [e]
      have k1 : Op.bytesLess s.toList t.toList = true := by rw [hx, hy]; exact h2
      clear es et e hx hy h1 h2
      go_enter Try.func41, Try.ntmps41
      go_wp2_with (go_at_call 49; refine (isnan_any _ _).mono ?_; rintro e w' ⟨rfl, rfl⟩)
      go_ret
      exact ⟨rfl, rfl⟩
    | false =>
      have e : cmpS s.toList t.toList = 1 := by unfold cmpS; rw [hx, hy, if_neg h1, h2]; rfl
      rw [e]
      have k1 : Op.bytesLess s.toList t.toList = false := by rw [hx, hy]; exact h2
      clear es et e hx hy h1 h2
      go_enter Try.func41, Try.ntmps41
      go_wp2_with (go_at_call 49; refine (isnan_any _ _).mono ?_; rintro e w' ⟨rfl, rfl⟩)
      go_ret
      exact ⟨rfl, rfl⟩
theorem cmpN_step (x y : List UInt8) (a b : List (List UInt8)) : cmpN (x :: a) (y :: b) = if cmpS x y = 0 then cmpN a b else cmpS x y := by
  by_cases h : x = y
  · subst h
    have : cmpS x x = 0 := by unfold cmpS; rw [if_pos rfl]
    rw [if_pos this, cmpN_cons]
  · have e : cmpS x y = if Op.bytesLess x y then -1 else 1 := by unfold cmpS; rw [if_neg h]
    have e2 : cmpN (x :: a) (y :: b) = if Op.bytesLess x y then -1 else 1 := by
      unfold cmpN
      rw [if_neg (fun q => h (List.cons.inj q).1), ltN, if_neg h]
    rw [e2, ← e]
    rw [if_neg]
    rw [e]
    split <;> omega
theorem cmpN_nil_cons (y : List UInt8) (b : List (List UInt8)) : cmpN [] (y :: b) = -1 := rfl
theorem cmpN_cons_nil (y : List UInt8) (b : List (List UInt8)) : cmpN (y :: b) [] = 1 := rfl
theorem cmpN_nil : cmpN [] [] = 0 := rfl
set_option maxHeartbeats 1000000 in
theorem compare_any (a1 a2 : Option Addr) (c1 c2 : Nat) (P Q : List (List UInt8)) (w : World) (h1 : SRd w a1 (tx P)) (h2 : SRd w a2 (tx Q)) :
    Calls Try.prog 31 #[.slice a1 P.length c1, .slice a2 Q.length c2] w fun e w' => e = .returned (.int .i64 (cmpN P Q)) ∧ w = w' := by
  have H1 := Lib.hid h1
  have H2 := Lib.hid h2
  have l1 := h1.1
  have l2 := h2.1
  rw [tx_len] at l1 l2
  clear h1 h2
  obtain ⟨C, hC⟩ : ∃ C, cmpN P Q = C := ⟨_, rfl⟩
  rw [hC]
  have HC := Lib.hid hC
  clear hC
  go_enter Try.func31, Try.ntmps31
  go_wp2_with fail
  go_loop [11] (fun i => ∃ k : Nat, k ≤ P.length ∧ k ≤ Q.length ∧ i = .int .i64 k ∧ Hid (cmpN (P.drop k) (Q.drop k) = C)) (fun i => P.length - (intOf i).toNat)
  case atStart => exact ⟨0, by omega, by omega, rfl, HC⟩
  case round =>
    obtain ⟨k, hk1, hk2, rfl, hD⟩ := hrel
    by_cases hlt : k < P.length
    · obtain ⟨g, off, rfl, hg, hc⟩ := H1.out.cell k (by rw [tx_len]; exact hlt)
      rw [tx_getD _ _ hlt] at hc
      have hlt' : (k : Int) < (P.length : Int) := by omega
      have d1 : P.drop k = P.getD k [] :: P.drop (k + 1) := by
        rw [List.drop_eq_getElem_cons hlt]; simp [List.getD, hlt]
      by_cases hlt2 : k < Q.length
      · obtain ⟨g2, off2, rfl, hg2, hc2⟩ := H2.out.cell k (by rw [tx_len]; exact hlt2)
        rw [tx_getD _ _ hlt2] at hc2
        have d2 : Q.drop k = Q.getD k [] :: Q.drop (k + 1) := by
          rw [List.drop_eq_getElem_cons hlt2]; simp [List.getD, hlt2]
        have hD' := hD.out
        rw [d1, d2, cmpN_step] at hD'
        obtain ⟨x, hx⟩ : ∃ x, P.getD k [] = x := ⟨_, rfl⟩
        obtain ⟨y, hy⟩ : ∃ y, Q.getD k [] = y := ⟨_, rfl⟩
        rw [hx] at hc hD'
        rw [hy] at hc2 hD'
        have cM := cmps_any (ofL x) (ofL y) w
        rw [ofL_data, ofL_data] at cM
        obtain ⟨Z, hZ⟩ : ∃ Z, cmpS x y = Z := ⟨_, rfl⟩
        rw [hZ] at cM hD'
        have hkk : ¬ (Q.length : Int) ≤ (k : Int) := by omega
        have hlt2' : (k : Int) < (Q.length : Int) := by omega
        by_cases z0 : Z = 0
        · subst z0
          rw [if_pos rfl] at hD'
          have HD := Lib.hid hD'
          clear hD hD' hx hy hZ d1 d2
          go_wp2_with (go_at_call 41; refine cM.mono ?_; rintro e w' ⟨rfl, rfl⟩)
          go_round
          case rel => exact ⟨k + 1, by omega, by omega, by go_num, HD⟩
          case measure => simp [intOf]; omega
        · rw [if_neg z0] at hD'
          subst hD'
          have z1 : (Z == 0) = false := by simpa using z0
          have z2 : (Z != 0) = true := by simp [z0]
          clear hD hx hy hZ d1 d2 z0 HC
          go_wp2_with (go_at_call 41; refine cM.mono ?_; rintro e w' ⟨rfl, rfl⟩)
          go_ret
          exact ⟨rfl, rfl⟩
      · have hD' := hD.out
        have d2 : Q.drop k = [] := List.drop_eq_nil_of_le (by omega)
        rw [d1, d2, cmpN_cons_nil] at hD'
        subst hD'
        have hkk : (Q.length : Int) ≤ (k : Int) := by omega
        clear hD d1 d2 HC
        go_wp2
        go_ret
        exact ⟨rfl, rfl⟩
    · have d1 : P.drop k = [] := List.drop_eq_nil_of_le (by omega)
      have hlt' : ¬ (k : Int) < (P.length : Int) := by omega
      have hD' := hD.out
      rw [d1] at hD'
      by_cases hlt2 : k < Q.length
      · have d2 : Q.drop k = Q.getD k [] :: Q.drop (k + 1) := by
          rw [List.drop_eq_getElem_cons hlt2]; simp [List.getD, hlt2]
        rw [d2, cmpN_nil_cons] at hD'
        subst hD'
        have hkk : P.length < Q.length := by omega
        clear hD d1 d2 HC
        go_wp2
        go_ret
        exact ⟨rfl, rfl⟩
      · have d2 : Q.drop k = [] := List.drop_eq_nil_of_le (by omega)
        rw [d2, cmpN_nil] at hD'
        subst hD'
        have hkk : ¬ P.length < Q.length := by omega
        clear hD d1 d2 HC
        go_wp2
        go_ret
        exact ⟨rfl, rfl⟩
theorem equal_any (a1 a2 : Option Addr) (c1 c2 : Nat) (P Q : List (List UInt8)) (w : World) (h1 : SRd w a1 (tx Q)) (h2 : SRd w a2 (tx P)) (hl : P.length ≤ Q.length) :
    Calls Try.prog 30 #[.slice a1 P.length c1, .slice a2 P.length c2] w fun e w' => e = .returned (.bool (decide (Q.take P.length = P))) ∧ Below w.heap.size w w' := by
  have l1 := h2.1
  rw [tx_len] at l1
  rcases h2.2 with h0 | ⟨g2, o2, rfl, hg2, hc2⟩
  · have : P = [] := tx_inj (a := P) (b := []) h0
    subst this
    refine (Try.slices_Equal_string_empty a1 a2 c1 0 c2 w (by omega)).mono fun e w' ⟨he, hw⟩ => ⟨by rw [he]; rfl, hw ▸ Below.refl _ _⟩
  · rcases h1.2 with h0 | ⟨g1, o1, rfl, hg1, hc1⟩
    · have e : Q = [] := tx_inj (a := Q) (b := []) h0
      subst e
      have : P = [] := List.eq_nil_of_length_eq_zero (by simpa using hl)
      subst this
      refine (Try.slices_Equal_string_empty a1 _ c1 0 c2 w (by omega)).mono fun e w' ⟨he, hw⟩ => ⟨by rw [he]; rfl, hw ▸ Below.refl _ _⟩
    · refine (Try.slices_Equal_string g1 o1 P.length c1 g2 o2 P.length c2 (tx Q) (tx P) w (by rw [tx_len]; exact hl) (by rw [tx_len]; omega) l1 l1 hc1 hc2).mono ?_
      rintro e w' ⟨rfl, n, rfl⟩
      refine ⟨?_, below_drewNg w n⟩
      have : (decide ((tx Q).take P.length = (tx P).take P.length)) = decide (Q.take P.length = P) := by
        rw [tx_take, tx_take, List.take_length]
        rw [decide_eq_decide]
        exact ⟨fun h => tx_inj h, fun h => by rw [h]⟩
      rw [this]
set_option maxHeartbeats 1000000 in
theorem less_any (p q : ByteArray) (w : World) (hp : p.size ≤ 1000) (hq : q.size ≤ 1000) (hm : ML w) : Calls Try.prog 23 #[.string p, .string q] w fun e w' => e = .returned (.bool (lsr p q)) ∧ Below w.heap.size w w' := by
  have cP := cut_any p w hp hm
  have cQ := fun w' (hb : Below w.heap.size w w') => cut_any q w' hq (hm.below hb)
  have eL : lsr p q = (vld p && vld q && ltN (nmL p) (nmL q)) := rfl
  obtain ⟨A, hA⟩ : ∃ A, vld p = A := ⟨_, rfl⟩
  obtain ⟨B, hB⟩ : ∃ B, vld q = B := ⟨_, rfl⟩
  rw [eL, hA, hB]
  have HA := Lib.hid hA
  have HB := Lib.hid hB
  have hz : (decide (cmpN (nmL p) (nmL q) < 0)) = ltN (nmL p) (nmL q) := by
    rw [Bool.eq_iff_iff, decide_eq_true_eq]; exact cmpN_lt _ _
  obtain ⟨Z, hZ⟩ : ∃ Z, cmpN (nmL p) (nmL q) = Z := ⟨_, rfl⟩
  rw [hZ] at hz
  rw [← hz]
  have HZ := Lib.hid hZ
  clear eL hA hB hz hZ hm hp hq
  cases A <;> cases B
  all_goals
    go_enter Try.func23, Try.ntmps23
    go_wp2_with fail
    refine cP.mono ?_
    rintro e w1 ⟨v, he, ho, hb⟩
    rw [HA.out] at he
    subst he
    have cQ1 := cQ w1 hb
    have HO1 := Lib.hid ho
    have HB1 := Lib.hid hb
    clear ho hb cP cQ
    go_wp2_with fail
    refine cQ1.mono ?_
    rintro e w2 ⟨v2, he, ho, hb⟩
    rw [HB.out] at he
    subst he
    have HB2 := Lib.hid (below_self HB1.out hb)
    have ho1 := HO1.out.below hb
  · clear ho ho1 hb cQ1 HO1
    go_wp2
    go_ret
    exact ⟨rfl, HB2.out⟩
  · clear ho ho1 hb cQ1 HO1
    go_wp2
    go_ret
    exact ⟨rfl, HB2.out⟩
  · clear ho ho1 hb cQ1 HO1
    go_wp2
    go_ret
    exact ⟨rfl, HB2.out⟩
  · obtain ⟨a1, c1, rfl, hs1, _⟩ := cut_srd (w := w) ho1
    obtain ⟨a2, c2, rfl, hs2, _⟩ := cut_srd ho
    have cC := compare_any a1 a2 c1 c2 (nmL p) (nmL q) w2 hs1 hs2
    rw [HZ.out] at cC
    clear ho ho1 hb cQ1 HO1 hs1 hs2
    go_wp2_with fail
    refine cC.mono ?_
    rintro e w3 ⟨rfl, rfl⟩
    clear cC
    go_wp2
    go_ret
    exact ⟨by simp, HB2.out⟩
set_option maxHeartbeats 1000000 in
theorem below_any (p q : ByteArray) (w : World) (hp : p.size ≤ 1000) (hq : q.size ≤ 1000) (hm : ML w) : Calls Try.prog 21 #[.string p, .string q] w fun e w' => e = .returned (.bool (blw p q)) ∧ Below w.heap.size w w' := by
  have cP := cut_any p w hp hm
  have cQ := fun w' (hb : Below w.heap.size w w') => cut_any q w' hq (hm.below hb)
  have eL : blw p q = (vld p && vld q && decide ((nmL p).length < (nmL q).length) && decide ((nmL q).take (nmL p).length = nmL p)) := rfl
  obtain ⟨A, hA⟩ : ∃ A, vld p = A := ⟨_, rfl⟩
  obtain ⟨B, hB⟩ : ∃ B, vld q = B := ⟨_, rfl⟩
  rw [eL, hA, hB]
  have HA := Lib.hid hA
  have HB := Lib.hid hB
  obtain ⟨T, hT⟩ : ∃ T, decide ((nmL q).take (nmL p).length = nmL p) = T := ⟨_, rfl⟩
  rw [hT]
  have HT := Lib.hid hT
  obtain ⟨n, hn⟩ : ∃ n, (nmL p).length = n := ⟨_, rfl⟩
  obtain ⟨m, hmm⟩ : ∃ m, (nmL q).length = m := ⟨_, rfl⟩
  rw [hn, hmm]
  have HN := Lib.hid hn
  have HM := Lib.hid hmm
  have hn8 := okN_len (nm_ok p)
  have hm8 := okN_len (nm_ok q)
  rw [hn] at hn8
  rw [hmm] at hm8
  clear eL hA hB hT hm hp hq hn hmm
  cases A <;> cases B
  all_goals
    go_enter Try.func21, Try.ntmps21
    go_wp2_with fail
    refine cP.mono ?_
    rintro e w1 ⟨v, he, ho, hb⟩
    rw [HA.out] at he
    subst he
    have cQ1 := cQ w1 hb
    have HO1 := Lib.hid ho
    have HB1 := Lib.hid hb
    clear ho hb cP cQ
    go_wp2_with fail
    refine cQ1.mono ?_
    rintro e w2 ⟨v2, he, ho, hb⟩
    rw [HB.out] at he
    subst he
    have HB2 := Lib.hid (below_self HB1.out hb)
    have ho1 := HO1.out.below hb
  · clear ho ho1 hb cQ1 HO1
    go_wp2
    go_ret
    exact ⟨rfl, HB2.out⟩
  · clear ho ho1 hb cQ1 HO1
    go_wp2
    go_ret
    exact ⟨rfl, HB2.out⟩
  · clear ho ho1 hb cQ1 HO1
    go_wp2
    go_ret
    exact ⟨rfl, HB2.out⟩
  · obtain ⟨a1, c1, h1, hs1, _⟩ := cut_srd (w := w) ho1
    obtain ⟨a2, c2, h2, hs2, hc2⟩ := cut_srd ho
    rw [HN.out] at h1
    rw [HM.out] at h2 hc2
    subst h1 h2
    by_cases hlt : n < m
    · have cE := equal_any a2 a1 c2 c1 (nmL p) (nmL q) w2 hs2 hs1 (by rw [HN.out, HM.out]; omega)
      rw [HT.out, HN.out] at cE
      have k1 : (n : Int) < (m : Int) := by omega
      have k2 : n ≤ c2 := by omega
      clear ho ho1 hb cQ1 HO1 hs1 hs2
      go_wp2_with (refine wpList_cutS rfl _ _ rfl a2 m c2 rfl n ?hh k2 ?_)
      case hh => simp [go_sem]
      go_wp2_with fail
      refine cE.mono ?_
      rintro e w3 ⟨rfl, hb3⟩
      have HB3 := Lib.hid (below_self HB2.out hb3)
      clear cE hb3
      go_wp2
      go_ret
      exact ⟨by simp [hlt], HB3.out⟩
    · have k1 : ¬ (n : Int) < (m : Int) := by omega
      have HL := Lib.hid hlt
      clear ho ho1 hb cQ1 HO1 hs1 hs2 hlt
      go_wp2
      go_ret
      exact ⟨by simp [HL.out], HB2.out⟩
end Go.Proofs.Ytdhmalpeooobfaa
