/-
  The walk of PathsShort.
-/
import Derived.Test.YtdhmalpeooobfaaPthU
namespace Go.Proofs.Ytdhmalpeooobfaa
open Go.RowKit
set_option linter.unusedSimpArgs false
set_option linter.unusedVariables false

def lsm (ns : List (List UInt8)) : Nat := (ns.map fun x => 1 + x.length).sum
theorem lsm_jn (ns : List (List UInt8)) (h : ns ≠ []) : (jn ns).length + 1 = lsm ns := by
  induction ns with
  | nil => exact absurd rfl h
  | cons x r ih =>
    cases r with
    | nil => rw [jn_one]; simp [lsm]; omega
    | cons y r =>
      have := ih (by simp)
      rw [jn_cons]
      simp only [lsm, List.map_cons, List.sum_cons, List.length_append, List.length_cons] at this ⊢
      omega
theorem psz {p : ByteArray} (hv : vld p = true) (hn : nmL p ≠ []) : p.size = lsm (nmL p) := by
  have e := vld_pth hv
  have h2 : p.size = (pth (nmL p)).size := by rw [← e]
  have := lsm_jn _ hn
  rw [h2]
  unfold pth
  rw [ofL_size, List.length_cons]
  omega
theorem nm_len {ns : List (List UInt8)} (h : okN ns = true) (k : Nat) (hk : k < ns.length) : 1 ≤ (ns.getD k []).length ∧ (ns.getD k []).length ≤ 16 := by
  have := okN_all h (ns.getD k []) (by simp [List.getD, hk])
  unfold nmB at this
  simp only [Bool.and_eq_true, decide_eq_true_eq] at this
  exact ⟨this.1.2, this.2⟩
theorem lsm_take (ns : List (List UInt8)) (k : Nat) (hk : k < ns.length) : lsm (ns.take (k + 1)) = lsm (ns.take k) + 1 + (ns.getD k []).length := by
  unfold lsm
  rw [List.take_succ_eq_append_getElem hk, List.map_append, List.sum_append]
  simp only [List.map_cons, List.map_nil, List.sum_cons, List.sum_nil, List.getD, List.getElem?_eq_getElem hk, Option.getD_some]
  omega
theorem lsm_le {ns : List (List UInt8)} (h : okN ns = true) (k : Nat) (hk : k ≤ ns.length) : lsm (ns.take k) ≤ 17 * k := by
  induction k with
  | zero => simp [lsm]
  | succ k ih =>
    have := ih (by omega)
    have h2 := (nm_len h k (by omega)).2
    rw [lsm_take _ _ (by omega)]
    omega
set_option maxHeartbeats 4000000 in
theorem short_try (p : ByteArray) (k : Nat) (c : Int) (w : World) (hm : ML w) (hp : p.size ≤ 300) (vp : vld p = true) (hk : k ≤ p.size) (hc : 0 ≤ c ∧ c ≤ 255) :
    Calls Try.prog 8 #[.string p, .int .i64 k, .int .u8 c] w fun e w' => e = .returned (.bool true) ∧ Below w.heap.size w w' := by
  have HM := Lib.hid hm
  have HB : Hid (Below w.heap.size w w) := Lib.hid (Below.refl _ _)
  have hp1 : ¬ (300 : Int) < p.size := by omega
  have hp2 : p.size ≤ 1000 := by omega
  have hk1 : ¬ (k : Int) < 0 := by omega
  have hk2 : ¬ ((p.size : Int) < (k : Int)) := by omega
  have hok := nm_ok p
  have hl8 := okN_len hok
  have hle := lsm_le hok
  have hps := fun hn => psz vp hn
  obtain ⟨n, hn⟩ : ∃ n, (nmL p).length = n := ⟨_, rfl⟩
  rw [hn] at hl8
  have t1 : (tx (nmL p)).length = n := by rw [tx_len, hn]
  have T1 := Lib.hid t1
  have HN := Lib.hid hn
  have HOK := Lib.hid hok
  have HLE := Lib.hid hle
  have HPS := Lib.hid hps
  clear hm hp hok hle hps hn t1
  go_enter Try.func8, Try.ntmps8
  go_wp2_with (first
    | (go_at_call 9; refine (works_any _ (HM.out.below HB.out)).mono ?_; rintro e w1 ⟨rfl, hb⟩; replace HB := Lib.hid (below_self HB.out hb); clear hb)
    | (go_at_call 10; refine (valid_any _ _ (by assumption) (HM.out.below HB.out)).mono ?_; rintro e w1 ⟨rfl, hb⟩; replace HB := Lib.hid (below_self HB.out hb); clear hb))
  refine (names_any _ _ (by assumption) (HM.out.below HB.out)).mono ?_
  rintro e wn ⟨v, he, ho, hb⟩
  subst he
  obtain ⟨a1, c1, hv, hs1⟩ := srd_of_own ho (by rw [T1.out]; omega)
  rw [T1.out] at hv
  subst hv
  have HS := Lib.hid hs1
  replace HB := Lib.hid (below_self HB.out hb)
  clear ho hb hs1
  go_wp2_with fail
  go_loop [9, 10] (fun s i => ∃ j : Nat, j ≤ n ∧ s = .int .i64 (lsm ((nmL p).take j)) ∧ i = .int .i64 j) (fun _ i => n - (intOf i).toNat)
  case atStart => exact ⟨0, by omega, rfl, rfl⟩
  case round =>
    obtain ⟨j, hj, rfl, rfl⟩ := hrel
    have hjl := HLE.out j (by rw [HN.out]; omega)
    by_cases hlt : j < n
    · have hlt2 : j < (nmL p).length := by rw [HN.out]; exact hlt
      obtain ⟨g, off, rfl, hg, hcl⟩ := HS.out.cell j (by rw [T1.out]; exact hlt)
      rw [tx_getD _ _ hlt2] at hcl
      obtain ⟨b1, b2⟩ := nm_len HOK.out j hlt2
      have hst := lsm_take (nmL p) j hlt2
      have hz : (ofL ((nmL p).getD j [])).size = ((nmL p).getD j []).length := ofL_size _
      obtain ⟨s, hs⟩ : ∃ s, ofL ((nmL p).getD j []) = s := ⟨_, rfl⟩
      rw [hs] at hcl hz
      rw [← hz] at b1 b2 hst
      have k1 : ¬ (s.size : Int) < 1 := by omega
      have k2 : ¬ (16 : Int) < (s.size : Int) := by omega
      have k3 : (j : Int) < (n : Int) := by omega
      obtain ⟨S, hS⟩ : ∃ S, lsm ((nmL p).take j) = S := ⟨_, rfl⟩
      rw [hS] at hjl hst
      rw [hS]
      have HST := Lib.hid hst
      clear hst hz hs hS
      go_wp2
      go_round
      case rel => exact ⟨j + 1, by omega, by rw [HST.out]; go_num, by go_num⟩
      case measure => simp [intOf]; omega
    · obtain rfl : j = n := by omega
      have e1 : (nmL p).take j = nmL p := by rw [← HN.out, List.take_length]
      rw [e1] at hjl
      rw [e1]
      clear e1
      have hbt := bt_lit wn [c] 5 (0, 0) (by simp)
      have hbt2 := hbt.below (Below.refl _ _).drew
      obtain ⟨ad, cp, hv, q1, q2⟩ := hbt2.row
      have kx := run_text q1 q2 Try.underlying35 Try.underlying5 Try.underlying9
      rw [← hv] at kx
      obtain ⟨C, hC⟩ : ∃ C, txt [c] = C := ⟨_, rfl⟩
      have hC1 : C.size = 1 := by rw [← hC, txt_size]; rfl
      rw [hC] at kx
      simp only [u8v, List.map_cons, List.map_nil, List.length_singleton] at kx
      have hrt := root_str vp
      have hps := HPS.out
      obtain ⟨S, hS⟩ : ∃ S, lsm (nmL p) = S := ⟨_, rfl⟩
      rw [hS] at hps hjl
      rw [hS]
      clear hbt hbt2 hv q1 q2 hC hS
      by_cases hn0 : nmL p = []
      · obtain ⟨s1, s2⟩ := hrt.1 hn0
        clear hrt hn0 hps
        go_wp2_with fail
        go_region
        go_wp2_with fail
        have hqs : (p.extract 0 k ++ C ++ p.extract k p.size).size = p.size + 1 := by
          simp only [ByteArray.size_append, ByteArray.size_extract, hC1]
          omega
        have HB2 : Hid (Below w.heap.size w ((wn.alloc (.cells #[.int .u8 c] 5)).drew)) := Lib.hid (HB.out.alloc HB.out.size _).drew
        generalize p.extract 0 k ++ C ++ p.extract k p.size = q at hqs ⊢
        generalize (wn.alloc (.cells #[.int .u8 c] 5)).drew = w9 at HB2 ⊢
        have hq2 : q.size ≤ 1000 := by omega
        have hne : q ≠ p := by
          rintro rfl
          omega
        obtain ⟨t1, t2⟩ := str_ne hne
        refine (valid_any _ _ (by assumption) (HM.out.below HB2.out)).mono ?_
        rintro e w1 ⟨rfl, hb⟩
        replace HB := Lib.hid (below_self HB2.out hb)
        clear hb HB2 hqs
        cases vq : vld q with
        | false =>
          clear hne
          go_wp2
          go_ret
          exact ⟨rfl, HB.out⟩
        | true =>
          have ht := lsr_tot vp vq (Ne.symm hne)
          clear hne
          cases b : lsr q p with
          | true =>
            have a : lsr p q = false := by rw [ht, b]; rfl
            clear ht
            go_wp2_with (first
              | (go_at_call 23; refine (less_any _ _ _ (by assumption) (by assumption) (HM.out.below HB.out)).mono ?_; rintro e w1 ⟨rfl, hb⟩; replace HB := Lib.hid (below_self HB.out hb); clear hb))
            go_ret
            exact ⟨rfl, HB.out⟩
          | false =>
            have a : lsr p q = true := by rw [ht, b]; rfl
            clear ht
            go_wp2_with (first
              | (go_at_call 23; refine (less_any _ _ _ (by assumption) (by assumption) (HM.out.below HB.out)).mono ?_; rintro e w1 ⟨rfl, hb⟩; replace HB := Lib.hid (below_self HB.out hb); clear hb))
            go_ret
            exact ⟨rfl, HB.out⟩
      · obtain ⟨s1, s2⟩ := hrt.2 hn0
        have s3 : ((S : Int) == (p.size : Int)) = true := by rw [hps hn0]; simp
        clear hrt hn0 hps
        go_wp2_with fail
        go_region
        go_wp2_with fail
        have hqs : (p.extract 0 k ++ C ++ p.extract k p.size).size = p.size + 1 := by
          simp only [ByteArray.size_append, ByteArray.size_extract, hC1]
          omega
        have HB2 : Hid (Below w.heap.size w ((wn.alloc (.cells #[.int .u8 c] 5)).drew)) := Lib.hid (HB.out.alloc HB.out.size _).drew
        generalize p.extract 0 k ++ C ++ p.extract k p.size = q at hqs ⊢
        generalize (wn.alloc (.cells #[.int .u8 c] 5)).drew = w9 at HB2 ⊢
        have hq2 : q.size ≤ 1000 := by omega
        have hne : q ≠ p := by
          rintro rfl
          omega
        obtain ⟨t1, t2⟩ := str_ne hne
        refine (valid_any _ _ (by assumption) (HM.out.below HB2.out)).mono ?_
        rintro e w1 ⟨rfl, hb⟩
        replace HB := Lib.hid (below_self HB2.out hb)
        clear hb HB2 hqs
        cases vq : vld q with
        | false =>
          clear hne
          go_wp2
          go_ret
          exact ⟨rfl, HB.out⟩
        | true =>
          have ht := lsr_tot vp vq (Ne.symm hne)
          clear hne
          cases b : lsr q p with
          | true =>
            have a : lsr p q = false := by rw [ht, b]; rfl
            clear ht
            go_wp2_with (first
              | (go_at_call 23; refine (less_any _ _ _ (by assumption) (by assumption) (HM.out.below HB.out)).mono ?_; rintro e w1 ⟨rfl, hb⟩; replace HB := Lib.hid (below_self HB.out hb); clear hb))
            go_ret
            exact ⟨rfl, HB.out⟩
          | false =>
            have a : lsr p q = true := by rw [ht, b]; rfl
            clear ht
            go_wp2_with (first
              | (go_at_call 23; refine (less_any _ _ _ (by assumption) (by assumption) (HM.out.below HB.out)).mono ?_; rintro e w1 ⟨rfl, hb⟩; replace HB := Lib.hid (below_self HB.out hb); clear hb))
            go_ret
            exact ⟨rfl, HB.out⟩
theorem short_law (p : ByteArray) (x c : Int) (w : World) (hm : ML w) (hc : (Lit.int .u8 c).wf = true) :
    Calls Try.prog 8 #[.string p, .int .i64 x, .int .u8 c] w fun e w' => e = .returned (.bool true) ∧ Below w.heap.size w w' := by
  have HM := Lib.hid hm
  have HB : Hid (Below w.heap.size w w) := Lib.hid (Below.refl _ _)
  have hcb : 0 ≤ c ∧ c ≤ 255 := by
    have e1 : IntKind.u8.min = 0 := rfl
    have e2 : IntKind.u8.max = 255 := rfl
    simp only [Lit.wf, Bool.and_eq_true, decide_eq_true_eq] at hc
    omega
  by_cases h1 : p.size ≤ 300
  · have k1 : ¬ (300 : Int) < p.size := by omega
    have k0 : p.size ≤ 1000 := by omega
    cases vp : vld p with
    | false =>
      clear hm hc hcb h1
      go_enter Try.func8, Try.ntmps8
      go_wp2_with (first
        | (go_at_call 9; refine (works_any _ (HM.out.below HB.out)).mono ?_; rintro e w1 ⟨rfl, hb⟩; replace HB := Lib.hid (below_self HB.out hb); clear hb)
        | (go_at_call 10; refine (valid_any _ _ (by assumption) (HM.out.below HB.out)).mono ?_; rintro e w1 ⟨rfl, hb⟩; replace HB := Lib.hid (below_self HB.out hb); clear hb))
      go_ret
      exact ⟨rfl, HB.out⟩
    | true =>
      by_cases h2 : x < 0
      · clear hm hc hcb h1
        go_enter Try.func8, Try.ntmps8
        go_wp2_with (first
          | (go_at_call 9; refine (works_any _ (HM.out.below HB.out)).mono ?_; rintro e w1 ⟨rfl, hb⟩; replace HB := Lib.hid (below_self HB.out hb); clear hb)
          | (go_at_call 10; refine (valid_any _ _ (by assumption) (HM.out.below HB.out)).mono ?_; rintro e w1 ⟨rfl, hb⟩; replace HB := Lib.hid (below_self HB.out hb); clear hb))
        go_ret
        exact ⟨rfl, HB.out⟩
      · by_cases h3 : (p.size : Int) < x
        · clear hm hc hcb h1
          go_enter Try.func8, Try.ntmps8
          go_wp2_with (first
            | (go_at_call 9; refine (works_any _ (HM.out.below HB.out)).mono ?_; rintro e w1 ⟨rfl, hb⟩; replace HB := Lib.hid (below_self HB.out hb); clear hb)
            | (go_at_call 10; refine (valid_any _ _ (by assumption) (HM.out.below HB.out)).mono ?_; rintro e w1 ⟨rfl, hb⟩; replace HB := Lib.hid (below_self HB.out hb); clear hb))
          go_ret
          exact ⟨rfl, HB.out⟩
        · obtain ⟨k, rfl⟩ : ∃ k : Nat, x = (k : Int) := ⟨x.toNat, by omega⟩
          exact short_try p k c w hm h1 vp (by omega) hcb
  · have k1 : (300 : Int) < p.size := by omega
    clear hm hc hcb h1
    go_enter Try.func8, Try.ntmps8
    go_wp2_with (first
      | (go_at_call 9; refine (works_any _ (HM.out.below HB.out)).mono ?_; rintro e w1 ⟨rfl, hb⟩; replace HB := Lib.hid (below_self HB.out hb); clear hb))
    go_ret
    exact ⟨rfl, HB.out⟩
end Go.Proofs.Ytdhmalpeooobfaa
