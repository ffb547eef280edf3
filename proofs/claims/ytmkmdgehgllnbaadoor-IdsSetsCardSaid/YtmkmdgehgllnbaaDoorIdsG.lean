/-
  The law IdsSets walked.
-/
import Derived.Test.YtmkmdgehgllnbaaDoorIdsF
namespace Go.Proofs.YtmkmdgehgllnbaaDoor
open Go.RowKit Go.Sort Go.Shelf Go.Lib
set_option linter.unusedSimpArgs false
set_option linter.unusedVariables false

set_option maxRecDepth 100000 in
set_option maxHeartbeats 8000000 in
theorem sets_law (va vb : Value) (a b : List I3) (w : World) (ha : IK.Rd w va a) (hb : IK.Rd w vb b) (oa : okL a) (ob : okL b) (ht : TB w) :
    Calls Tryd.prog 4 #[va, vb] w fun e w' => e = .returned (.bool true) ∧ Below w.heap.size w w' := by
  have RA := Lib.hid ha
  have RB := Lib.hid hb
  obtain ⟨pa, ca, e⟩ := ha.slice
  subst e
  obtain ⟨pb, cb, e⟩ := hb.slice
  subst e
  obtain ⟨N, hN⟩ : ∃ N, a.length = N := ⟨_, rfl⟩
  obtain ⟨M, hM⟩ : ∃ N, b.length = N := ⟨_, rfl⟩
  rw [hN] at RA ⊢
  rw [hM] at RB ⊢
  have HW := Lib.hid (works_any w ht)
  have OA := Lib.hid oa
  have OB := Lib.hid ob
  clear ha hb oa ob ht
  go_enter Tryd.func4, Tryd.ntmps4
  go_wp2_with fail
  refine HW.out.mono ?_
  rintro e w1 ⟨rfl, hb⟩
  have Bw1 := Lib.hid hb
  clear hb HW
  by_cases hA : 60 < N
  · have hA1 : (60 : Int) < (N : Int) := by omega
    have hA2 : decide (60 < N) = true := decide_eq_true hA
    go_wp2
    go_ret
    exact ⟨rfl, Bw1.out⟩
  · have hA1 : ¬ (60 : Int) < (N : Int) := by omega
    have hA2 : decide (60 < N) = false := decide_eq_false hA
    by_cases hBB : 60 < M
    · have hB1 : (60 : Int) < (M : Int) := by omega
      have hB2 : decide (60 < M) = true := decide_eq_true hBB
      go_wp2
      go_ret
      exact ⟨rfl, Bw1.out⟩
    · have hB1 : ¬ (60 : Int) < (M : Int) := by omega
      have hB2 : decide (60 < M) = false := decide_eq_false hBB
      have NA : Hid (a.length ≤ 60) := Lib.hid (by omega)
      have NB : Hid (b.length ≤ 60) := Lib.hid (by omega)
      clear hN hM
      go_wp2_with fail
      refine (clean_any _ a w1 (RA.out.below Bw1.out) OA.out (by have := NA.out; omega)).mono ?_
      rintro e w2 ⟨v1, he, ho, hb⟩
      rw [he.out]
      have Rv1 := Lib.hid ho.rd
      have Bw2 := Lib.hid (Bw1.out.trans (hb.mono Bw1.out.size))
      have Tw2 := Lib.hid hb
      clear he ho hb
      go_wp2_with fail
      refine (rclean_any _ a w2 (RA.out.below Bw2.out) (by have := NA.out; omega)).mono ?_
      rintro e w3 ⟨v2, he, ho, hb⟩
      rw [he.out]
      have Rv2 := Lib.hid ho.rd
      have Bw3 := Lib.hid (Bw2.out.trans (hb.mono Bw2.out.size))
      have Tw3 := Lib.hid hb
      clear he ho hb
      go_wp2_with fail
      have hc := row_any v1 v2 (clnI a) (clnI a) w3 (Rv1.out.below Tw3.out) Rv2.out (by have := len_clnI a; have := NA.out; omega) (by have := len_clnI a; have := NA.out; omega)
      rw [show decide (clnI a = clnI a) = true from decide_eq_true rfl] at hc
      refine hc.mono ?_
      clear hc
      rintro e w4 ⟨rfl, hb⟩
      have Bw4 := Lib.hid (Bw3.out.trans (hb.mono Bw3.out.size))
      have Tw4 := Lib.hid hb
      clear hb
      go_wp2_with fail
      refine (union_any _ _ a b w4 (RA.out.below Bw4.out) OA.out (by have := NA.out; omega) (RB.out.below Bw4.out) OB.out (by have := NB.out; omega)).mono ?_
      rintro e w5 ⟨v3, he, ho, hb⟩
      rw [he.out]
      have Rv3 := Lib.hid ho.rd
      have Bw5 := Lib.hid (Bw4.out.trans (hb.mono Bw4.out.size))
      have Tw5 := Lib.hid hb
      clear he ho hb
      go_wp2_with fail
      refine (runion_any _ _ a b w5 (RA.out.below Bw5.out) (RB.out.below Bw5.out) (by have := NA.out; omega) (by have := NB.out; omega)).mono ?_
      rintro e w6 ⟨v4, he, ho, hb⟩
      rw [he.out]
      have Rv4 := Lib.hid ho.rd
      have Bw6 := Lib.hid (Bw5.out.trans (hb.mono Bw5.out.size))
      have Tw6 := Lib.hid hb
      clear he ho hb
      go_wp2_with fail
      have hc := row_any v3 v4 (uniI a b) (uniI a b) w6 (Rv3.out.below Tw6.out) Rv4.out (by have := len_uniI a b; have := NA.out; have := NB.out; omega) (by have := len_uniI a b; have := NA.out; have := NB.out; omega)
      rw [show decide (uniI a b = uniI a b) = true from decide_eq_true rfl] at hc
      refine hc.mono ?_
      clear hc
      rintro e w7 ⟨rfl, hb⟩
      have Bw7 := Lib.hid (Bw6.out.trans (hb.mono Bw6.out.size))
      have Tw7 := Lib.hid hb
      clear hb
      go_wp2_with fail
      refine (less2_any _ _ a b w7 (RA.out.below Bw7.out) OA.out (by have := NA.out; omega) (RB.out.below Bw7.out) OB.out (by have := NB.out; omega)).mono ?_
      rintro e w8 ⟨v5, he, ho, hb⟩
      rw [he.out]
      have Rv5 := Lib.hid ho.rd
      have Bw8 := Lib.hid (Bw7.out.trans (hb.mono Bw7.out.size))
      have Tw8 := Lib.hid hb
      clear he ho hb
      go_wp2_with fail
      refine (rless2_any _ _ a b w8 (RA.out.below Bw8.out) (RB.out.below Bw8.out) (by have := NA.out; omega) (by have := NB.out; omega)).mono ?_
      rintro e w9 ⟨v6, he, ho, hb⟩
      rw [he.out]
      have Rv6 := Lib.hid ho.rd
      have Bw9 := Lib.hid (Bw8.out.trans (hb.mono Bw8.out.size))
      have Tw9 := Lib.hid hb
      clear he ho hb
      go_wp2_with fail
      have hc := row_any v5 v6 (lesI a b) (lesI a b) w9 (Rv5.out.below Tw9.out) Rv6.out (by have := len_lesI a b; have := NA.out; omega) (by have := len_lesI a b; have := NA.out; omega)
      rw [show decide (lesI a b = lesI a b) = true from decide_eq_true rfl] at hc
      refine hc.mono ?_
      clear hc
      rintro e w10 ⟨rfl, hb⟩
      have Bw10 := Lib.hid (Bw9.out.trans (hb.mono Bw9.out.size))
      have Tw10 := Lib.hid hb
      clear hb
      go_wp2_with fail
      refine (rclean_any _ a w10 (RA.out.below Bw10.out) (by have := NA.out; omega)).mono ?_
      rintro e w11 ⟨v7, he, ho, hb⟩
      rw [he.out]
      have Rv7 := Lib.hid ho.rd
      have Bw11 := Lib.hid (Bw10.out.trans (hb.mono Bw10.out.size))
      have Tw11 := Lib.hid hb
      clear he ho hb
      go_wp2_with fail
      refine (rclean_any _ b w11 (RB.out.below Bw11.out) (by have := NB.out; omega)).mono ?_
      rintro e w12 ⟨v8, he, ho, hb⟩
      rw [he.out]
      have Rv8 := Lib.hid ho.rd
      have Bw12 := Lib.hid (Bw11.out.trans (hb.mono Bw11.out.size))
      have Tw12 := Lib.hid hb
      clear he ho hb
      obtain ⟨D, hD⟩ : ∃ D, decide (clnI a = clnI b) = D := ⟨_, rfl⟩
      have hsm := samI_cln a b
      rw [hD] at hsm
      go_wp2_with fail
      have hc := row_any v7 v8 (clnI a) (clnI b) w12 (Rv7.out.below Tw12.out) Rv8.out (by have := len_clnI a; have := NA.out; omega) (by have := len_clnI b; have := NB.out; omega)
      rw [hD] at hc
      refine hc.mono ?_
      clear hc
      rintro e w13 ⟨rfl, hb⟩
      have Bw13 := Lib.hid (Bw12.out.trans (hb.mono Bw12.out.size))
      clear hb hD
      go_wp2_with fail
      have hc := same_any _ _ a b w13 (RA.out.below Bw13.out) OA.out (by have := NA.out; omega) (RB.out.below Bw13.out) OB.out (by have := NB.out; omega)
      rw [hsm] at hc
      refine hc.mono ?_
      clear hc hsm
      rintro e w14 ⟨rfl, hb⟩
      have Bw14 := Lib.hid (Bw13.out.trans (hb.mono Bw13.out.size))
      clear hb
      have hDD : (D == D) = true := by cases D <;> rfl
      go_wp2
      go_ret
      exact ⟨by first | rfl | simp, Bw14.out⟩
end Go.Proofs.YtmkmdgehgllnbaaDoor
