/-
  The walks of package paths: parents, and paths of names.
-/
import Derived.Test.YtdhmalpeooobfaaPthD
namespace Go.Proofs.Ytdhmalpeooobfaa
open Go.RowKit
set_option linter.unusedSimpArgs false
set_option linter.unusedVariables false

set_option maxHeartbeats 1000000 in
theorem parent_any (p : ByteArray) (w : World) (hp : p.size ≤ 1000) (hm : ML w) : Calls Try.prog 17 #[.string p] w fun e w' => e = .returned (.string (par p)) ∧ Below w.heap.size w w' := by
  have cC := cut_any p w hp hm
  have hok := nm_ok p
  have hn8 := okN_len hok
  clear hm hp
  by_cases h0 : (nmL p).length = 0
  · have e1 : par p = ByteArray.empty := by unfold par; rw [if_pos h0]
    rw [e1]
    go_enter Try.func17, Try.ntmps17
    go_wp2_with fail
    refine cC.mono ?_
    rintro e w1 ⟨v, he, ho, hb⟩
    obtain ⟨B, hB⟩ : ∃ B, vld p = B := ⟨_, rfl⟩
    rw [hB] at he
    subst he
    obtain ⟨a, c, hv, hs, hcap⟩ := cut_srd ho
    rw [h0] at hv
    subst hv
    have HBl := Lib.hid hb
    clear ho hb hB cC hs hcap e1 h0 hok
    go_wp2
    go_ret
    exact ⟨rfl, HBl.out⟩
  · have e1 : par p = pth (nmL p).dropLast := by unfold par; rw [if_neg h0]
    have hokd := okN_dropLast hok
    obtain ⟨m, hm⟩ : ∃ m, (nmL p).length = m + 1 := ⟨(nmL p).length - 1, by omega⟩
    obtain ⟨D, hD⟩ : ∃ D, (nmL p).dropLast = D := ⟨_, rfl⟩
    have hDt : (nmL p).take m = D := by rw [← hD, List.dropLast_eq_take, hm]; rfl
    have hDl : D.length = m := by rw [← hD, List.length_dropLast, hm]; rfl
    rw [hD] at hokd
    have hjl := jn_len D hokd
    rw [e1, hD]
    have HDt := Lib.hid hDt
    have HDl := Lib.hid hDl
    clear hDt hDl hD hokd e1 hok
    go_enter Try.func17, Try.ntmps17
    go_wp2_with fail
    refine cC.mono ?_
    rintro e w1 ⟨v, he, ho, hb⟩
    obtain ⟨B, hB⟩ : ∃ B, vld p = B := ⟨_, rfl⟩
    rw [hB] at he
    subst he
    obtain ⟨a, c, hv, hs, hcap⟩ := cut_srd ho
    have hs2 := srd_cut (c := c) hs m (by rw [tx_len]; omega)
    rw [tx_take, HDt.out] at hs2
    rw [hm] at hv hcap
    subst hv
    have HBl := Lib.hid hb
    have hj : Calls Try.prog 29 #[.slice a m c, .string { data := #[47] }] w1 fun e w' => e = .returned (.string (ofL (jn D))) ∧ Below w1.heap.size w1 w' := by
      have := join_any a c D w1 hs2 (by rw [HDl.out]; omega) (by omega) (by rw [HDl.out]; omega)
      rw [HDl.out] at this
      exact this
    have k1 : ((m : Int) + 1 == 0) = false := by simp; omega
    have k2 : (0 : Int) ≤ (m : Int) := by omega
    have k3 : (m : Int) ≤ 100 := by omega
    have k4 : m ≤ c := by omega
    obtain ⟨X, hX⟩ : ∃ X, ofL (jn D) = X := ⟨_, rfl⟩
    have hXs : X.size ≤ 136 := by rw [← hX, ofL_size]; exact hjl
    rw [hX] at hj
    have hcat : ({ data := #[47] } : ByteArray) ++ X = pth D := by rw [← hX, cat47]; rfl
    have HC := Lib.hid hcat
    have hsz1 : ({ data := #[47] } : ByteArray).size = 1 := rfl
    have k5 : ¬ (9223372036854775807 < 1 + X.size) := by omega
    clear ho hb hB cC hs hcap h0 hs2 hm hX hcat
    go_wp2_with (refine wpList_cutS rfl _ _ rfl a (m + 1) c rfl m ?hh k4 ?_)
    case hh => simp [go_sem]
    go_wp2_with fail
    refine hj.mono ?_
    rintro e w2 ⟨rfl, hb⟩
    have HB2 := Lib.hid (below_self HBl.out hb)
    clear hb hj
    go_wp2
    go_ret
    exact ⟨ret_str HC.out, HB2.out⟩
def ofP (ss : List ByteArray) : ByteArray := if okN (ss.map (·.data.toList)) then pth (ss.map (·.data.toList)) else ByteArray.empty
def ofE (ss : List ByteArray) : Int := if okN (ss.map (·.data.toList)) then 0 else 1
theorem okN_parts (ss : List ByteArray) : okN (ss.map (·.data.toList)) = (!(oddIn ss) && !decide (8 < ss.length)) := by
  unfold okN oddIn
  rw [List.all_map, List.length_map]
  congr 1
  · rw [Bool.eq_iff_iff]
    simp [nmS, Function.comp_def]
  · rw [Bool.eq_iff_iff]
    simp
set_option maxHeartbeats 1000000 in
theorem of_any (a : Option Addr) (c : Nat) (ss : List ByteArray) (w : World) (hs : SRd w a ss) (hc : ss.length ≤ c) : Calls Try.prog 25 #[.slice a ss.length c] w fun e w' => e = .returned (.tuple #[.string (ofP ss), .int .i64 (ofE ss)]) ∧ Below w.heap.size w w' := by
  have hp := okN_parts ss
  have hll := hs.1
  by_cases h8 : 8 < ss.length
  · have e1 : okN (ss.map (·.data.toList)) = false := by rw [hp]; simp [h8]
    have e2 : ofP ss = ByteArray.empty := by unfold ofP; rw [e1]; rfl
    have e3 : ofE ss = 1 := by unfold ofE; rw [e1]; rfl
    rw [e2, e3]
    have k1 : (8 : Int) < (ss.length : Int) := by omega
    clear hp e1 e2 e3 hs
    go_enter Try.func25, Try.ntmps25
    go_wp2
    go_ret2
    exact ⟨rfl, Below.refl _ _⟩
  · have cO := containsfunc_any a c ss w hs
    have k1 : ¬ (8 : Int) < (ss.length : Int) := by omega
    cases hO : oddIn ss with
    | true =>
      have e1 : okN (ss.map (·.data.toList)) = false := by rw [hp, hO]; rfl
      have e2 : ofP ss = ByteArray.empty := by unfold ofP; rw [e1]; rfl
      have e3 : ofE ss = 1 := by unfold ofE; rw [e1]; rfl
      rw [e2, e3]
      rw [hO] at cO
      clear hp e1 e2 e3 hs hO
      go_enter Try.func25, Try.ntmps25
      go_wp2_with fail
      refine cO.mono ?_
      rintro e w1 ⟨rfl, hb⟩
      have HB := Lib.hid hb
      clear hb cO
      go_wp2
      go_ret2
      exact ⟨rfl, HB.out⟩
    | false =>
      have e1 : okN (ss.map (·.data.toList)) = true := by rw [hp, hO]; simp [h8]
      have e2 : ofP ss = pth (ss.map (·.data.toList)) := by unfold ofP; rw [e1]; rfl
      have e3 : ofE ss = 0 := by unfold ofE; rw [e1]; rfl
      rw [e2, e3]
      rw [hO] at cO
      obtain ⟨D, hD⟩ : ∃ D, ss.map (·.data.toList) = D := ⟨_, rfl⟩
      rw [hD] at e1 ⊢
      have hjl := jn_len D e1
      have htx : ss = tx D := by rw [← hD, tx_of]
      have hDl : ss.length = D.length := by rw [htx, tx_len]
      have HS := Lib.hid hs
      have HTX := Lib.hid htx
      have HDl := Lib.hid hDl
      obtain ⟨n, hn⟩ : ∃ n, ss.length = n := ⟨_, rfl⟩
      have HN := Lib.hid hn
      rw [hn] at cO k1 ⊢
      clear hp e1 e2 e3 hs hO hD htx hDl hn
      go_enter Try.func25, Try.ntmps25
      go_wp2_with fail
      refine cO.mono ?_
      rintro e w1 ⟨rfl, hb⟩
      have hj : Calls Try.prog 29 #[.slice a n c, .string { data := #[47] }] w1 fun e w' => e = .returned (.string (ofL (jn D))) ∧ Below w1.heap.size w1 w' := by
        have hsd := HS.out.below hb
        rw [HTX.out] at hsd
        have e := HN.out
        rw [HDl.out] at e
        have := join_any a c D w1 hsd (by rw [← HDl.out]; exact hc) (by omega) (by have := HDl.out; omega)
        rw [e] at this
        exact this
      have HB := Lib.hid hb
      obtain ⟨X, hX⟩ : ∃ X, ofL (jn D) = X := ⟨_, rfl⟩
      have hXs : X.size ≤ 136 := by rw [← hX, ofL_size]; exact hjl
      rw [hX] at hj
      have hcat : ({ data := #[47] } : ByteArray) ++ X = pth D := by rw [← hX, cat47]; rfl
      have HC := Lib.hid hcat
      have k5 : ¬ (9223372036854775807 < 1 + X.size) := by omega
      clear hb cO hX hcat
      go_wp2_with fail
      refine hj.mono ?_
      rintro e w2 ⟨rfl, hb⟩
      have HB2 := Lib.hid (below_self HB.out hb)
      clear hb hj
      go_wp2
      go_ret2
      exact ⟨by rw [← HC.out]; rfl, HB2.out⟩
end Go.Proofs.Ytdhmalpeooobfaa
