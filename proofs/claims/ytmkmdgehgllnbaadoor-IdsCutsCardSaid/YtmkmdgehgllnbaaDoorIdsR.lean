/-
  The law IdsCuts walked.
-/
import Derived.Test.YtmkmdgehgllnbaaDoorIdsF
namespace Go.Proofs.YtmkmdgehgllnbaaDoor
open Go.RowKit Go.Sort Go.Shelf Go.Lib
set_option linter.unusedSimpArgs false
set_option linter.unusedVariables false

theorem cut1 (a b : List I3) : samI (uniI (lesI a b) (lesI a (lesI a b))) a = true := by
  rw [samI_iff]
  intro x
  rw [mem_uniI, mem_lesI, mem_lesI, mem_lesI]
  constructor
  · rintro (h | h)
    · exact h.1
    · exact h.1
  · intro h
    by_cases q : x ∈ b
    · exact .inr ⟨h, fun k => k.2 q⟩
    · exact .inl ⟨h, q⟩
theorem cut2 (a b : List I3) : samI (lesI (lesI a b) b) (lesI a b) = true := by
  rw [samI_iff]
  intro x
  rw [mem_lesI, mem_lesI]
  exact ⟨fun h => h.1, fun h => ⟨h, h.2⟩⟩
theorem cut3 (a : List I3) : samI (lesI a []) a = true := by
  rw [samI_iff]
  intro x
  rw [mem_lesI]
  exact ⟨fun h => h.1, fun h => ⟨h, by simp⟩⟩
theorem cut4 (a : List I3) : (lesI a a).length = 0 := by
  have : lesI a a = [] := clnI_eq List.Pairwise.nil fun x => by
    simp only [List.mem_filter, Bool.not_eq_true', hasI_false, List.not_mem_nil, false_iff, not_and]
    exact fun h k => k h
  rw [this]; rfl
theorem okL_les {a b : List I3} (h : okL a) : okL (lesI a b) := fun x hx => h x ((mem_lesI a b x).1 hx).1
theorem okL_uni {a b : List I3} (h : okL a) (k : okL b) : okL (uniI a b) := fun x hx => by
  rcases (mem_uniI a b x).1 hx with q | q
  · exact h x q
  · exact k x q
set_option maxRecDepth 100000 in
set_option maxHeartbeats 8000000 in
theorem cuts_law (va vb : Value) (a b : List I3) (w : World) (ha : IK.Rd w va a) (hb : IK.Rd w vb b) (oa : okL a) (ob : okL b) (ht : TB w) :
    Calls Tryd.prog 7 #[va, vb] w fun e w' => e = .returned (.bool true) ∧ Below w.heap.size w w' := by
  have RA := Lib.hid ha
  have RB := Lib.hid hb
  obtain ⟨pa, ca, e⟩ := ha.slice
  subst e
  obtain ⟨pb, cb, e⟩ := hb.slice
  subst e
  obtain ⟨N, hN⟩ : ∃ N, a.length = N := ⟨_, rfl⟩
  obtain ⟨M, hM⟩ : ∃ N, b.length = N := ⟨_, rfl⟩
  rw [hN] at RA ⊢
  rw [hM] at RB ⊢
  have HW := Lib.hid (works_any w ht)
  have OA := Lib.hid oa
  have OB := Lib.hid ob
  clear ha hb oa ob ht
  go_enter Tryd.func7, Tryd.ntmps7
  go_wp2_with fail
  refine HW.out.mono ?_
  rintro e w1 ⟨rfl, hb⟩
  have Bw1 := Lib.hid hb
  clear hb HW
  by_cases hA : 60 < N
  · have hA1 : (60 : Int) < (N : Int) := by omega
    have hA2 : decide (60 < N) = true := decide_eq_true hA
    go_wp2
    go_ret
    exact ⟨rfl, Bw1.out⟩
  · have hA1 : ¬ (60 : Int) < (N : Int) := by omega
    have hA2 : decide (60 < N) = false := decide_eq_false hA
    by_cases hBB : 60 < M
    · have hB1 : (60 : Int) < (M : Int) := by omega
      have hB2 : decide (60 < M) = true := decide_eq_true hBB
      go_wp2
      go_ret
      exact ⟨rfl, Bw1.out⟩
    · have hB1 : ¬ (60 : Int) < (M : Int) := by omega
      have hB2 : decide (60 < M) = false := decide_eq_false hBB
      have NA : Hid (a.length ≤ 60) := Lib.hid (by omega)
      have NB : Hid (b.length ≤ 60) := Lib.hid (by omega)
      clear hN hM
      go_wp2_with fail
      refine (less2_any _ _ a b w1 (RA.out.below Bw1.out) OA.out (by have := NA.out; omega) (RB.out.below Bw1.out) OB.out (by have := NB.out; omega)).mono ?_
      rintro e w2 ⟨v1, he, ho, hb⟩
      rw [he.out]
      obtain ⟨p1, c1, e⟩ := ho.slice
      subst e
      obtain ⟨n1, hn1⟩ : ∃ n, (lesI a b).length = n := ⟨_, rfl⟩
      have ho' := ho.rd
      rw [hn1] at ho' ⊢
      have Rv1 := Lib.hid ho'
      have N1 := Lib.hid hn1
      have Bw2 := Lib.hid (Bw1.out.trans (hb.mono Bw1.out.size))
      have Tw2 := Lib.hid hb
      clear he ho hb ho' hn1
      go_wp2_with fail
      refine (less2_any _ _ a (lesI a b) w2 (RA.out.below Bw2.out) OA.out (by have := NA.out; omega) Rv1.out (okL_les OA.out) (by have := len_lesI a b; have := NA.out; omega)).mono ?_
      rintro e w3 ⟨v2, he, ho, hb⟩
      rw [he.out]
      obtain ⟨p2, c2, e⟩ := ho.slice
      subst e
      obtain ⟨n2, hn2⟩ : ∃ n, (lesI a (lesI a b)).length = n := ⟨_, rfl⟩
      have ho' := ho.rd
      rw [hn2] at ho' ⊢
      have Rv2 := Lib.hid ho'
      have N2 := Lib.hid hn2
      have Bw3 := Lib.hid (Bw2.out.trans (hb.mono Bw2.out.size))
      have Tw3 := Lib.hid hb
      clear he ho hb ho' hn2
      go_wp2_with fail
      refine (union_any _ _ (lesI a b) (lesI a (lesI a b)) w3 (Rv1.out.below Tw3.out) (okL_les OA.out) (by have := len_lesI a b; have := NA.out; omega) Rv2.out (okL_les OA.out) (by have := len_lesI a (lesI a b); have := NA.out; omega)).mono ?_
      rintro e w4 ⟨v3, he, ho, hb⟩
      rw [he.out]
      have Rv3 := Lib.hid ho.rd
      have Bw4 := Lib.hid (Bw3.out.trans (hb.mono Bw3.out.size))
      have Tw4 := Lib.hid hb
      clear he ho hb
      go_wp2_with fail
      have hc := same_any v3 _ (uniI (lesI a b) (lesI a (lesI a b))) a w4 Rv3.out (okL_uni (okL_les OA.out) (okL_les OA.out)) (by have := len_uniI (lesI a b) (lesI a (lesI a b)); have := len_lesI a b; have := len_lesI a (lesI a b); have := NA.out; omega) (RA.out.below Bw4.out) OA.out (by have := NA.out; omega)
      rw [cut1] at hc
      refine hc.mono ?_
      clear hc
      rintro e w5 ⟨rfl, hb⟩
      have Bw5 := Lib.hid (Bw4.out.trans (hb.mono Bw4.out.size))
      have Tw5 := Lib.hid hb
      clear hb
      go_wp2_with fail
      refine (less2_any _ _ (lesI a b) b w5 (((Rv1.out.below Tw3.out).below Tw4.out).below Tw5.out) (okL_les OA.out) (by have := len_lesI a b; have := NA.out; omega) (RB.out.below Bw5.out) OB.out (by have := NB.out; omega)).mono ?_
      rintro e w6 ⟨v4, he, ho, hb⟩
      rw [he.out]
      have Rv4 := Lib.hid ho.rd
      have Bw6 := Lib.hid (Bw5.out.trans (hb.mono Bw5.out.size))
      have Tw6 := Lib.hid hb
      clear he ho hb
      go_wp2_with fail
      have hc := same_any v4 _ (lesI (lesI a b) b) (lesI a b) w6 Rv4.out (okL_les (okL_les OA.out)) (by have := len_lesI (lesI a b) b; have := len_lesI a b; have := NA.out; omega) ((((Rv1.out.below Tw3.out).below Tw4.out).below Tw5.out).below Tw6.out) (okL_les OA.out) (by have := len_lesI a b; have := NA.out; omega)
      rw [cut2] at hc
      refine hc.mono ?_
      clear hc
      rintro e w7 ⟨rfl, hb⟩
      have Bw7 := Lib.hid (Bw6.out.trans (hb.mono Bw6.out.size))
      have Tw7 := Lib.hid hb
      clear hb
      go_wp2_with fail
      refine (less2_any _ (.slice none 0 0) a [] w7 (RA.out.below Bw7.out) OA.out (by have := NA.out; omega) (Knd.Rd.nil _) (fun x hx => by cases hx) (by simp)).mono ?_
      rintro e w8 ⟨v5, he, ho, hb⟩
      rw [he.out]
      have Rv5 := Lib.hid ho.rd
      have Bw8 := Lib.hid (Bw7.out.trans (hb.mono Bw7.out.size))
      have Tw8 := Lib.hid hb
      clear he ho hb
      go_wp2_with fail
      have hc := same_any v5 _ (lesI a []) a w8 Rv5.out (okL_les OA.out) (by have := len_lesI a []; have := NA.out; omega) (RA.out.below Bw8.out) OA.out (by have := NA.out; omega)
      rw [cut3] at hc
      refine hc.mono ?_
      clear hc
      rintro e w9 ⟨rfl, hb⟩
      have Bw9 := Lib.hid (Bw8.out.trans (hb.mono Bw8.out.size))
      have Tw9 := Lib.hid hb
      clear hb
      go_wp2_with fail
      refine (less2_any _ _ a a w9 (RA.out.below Bw9.out) OA.out (by have := NA.out; omega) (RA.out.below Bw9.out) OA.out (by have := NA.out; omega)).mono ?_
      rintro e w10 ⟨v6, he, ho, hb⟩
      rw [he.out]
      obtain ⟨p6, c6, e⟩ := ho.slice
      subst e
      rw [cut4 a]
      have Bw10 := Lib.hid (Bw9.out.trans (hb.mono Bw9.out.size))
      clear he ho hb
      go_wp2_with fail
      refine (clean_any _ a w10 (RA.out.below Bw10.out) OA.out (by have := NA.out; omega)).mono ?_
      rintro e w11 ⟨v7, he, ho, hb⟩
      rw [he.out]
      obtain ⟨p7, c7, e⟩ := ho.slice
      subst e
      have hlen := split_len a b
      rw [N1.out, N2.out] at hlen
      rw [← hlen]
      have hn1 : n1 ≤ 60 := by have := len_lesI a b; have := NA.out; have := N1.out; omega
      have hn2 : n2 ≤ 60 := by have := len_lesI a (lesI a b); have := NA.out; have := N2.out; omega
      have Bw11 := Lib.hid (Bw10.out.trans (hb.mono Bw10.out.size))
      clear he ho hb hlen
      have q1 : IntKind.i64.wrap ((n1 : Int) + (n2 : Int)) = (n1 : Int) + (n2 : Int) := IntWalk.i64_in _ (by omega)
      have q2 : wrap64 ((n1 : Int) + (n2 : Int)) = (n1 : Int) + (n2 : Int) := by unfold wrap64; omega
      have q3 : ((n1 + n2 : Nat) : Int) = (n1 : Int) + (n2 : Int) := by omega
      go_wp2
      go_ret
      exact ⟨by first | rfl | (simp; done) | (rw [q2]; simp), Bw11.out⟩
end Go.Proofs.YtmkmdgehgllnbaaDoor
