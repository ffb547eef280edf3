/-
  What is deleted can be made again, and begins anew.
-/
import Derived.Test.YtoojfbeikohikaaDl3
namespace Go.Proofs.Ytoojfbeikohikaa
open Go.RowKit
set_option linter.unusedSimpArgs false
set_option linter.unusedVariables false

set_option maxRecDepth 100000 in
set_option maxHeartbeats 4000000 in
theorem dirDeletes_walk (a : Option Addr) (n c : Nat) (ts : List Cm) (p v : ByteArray) (w : World) (hn : n = ts.length) (hC : CRd w a ts) (hm : ML w) :
    Calls Try.prog 8 #[.slice a n c, .string p, .string v] w fun e w' => e = .returned (.bool true) ∧ Below w.heap.size w w' := by
  obtain ⟨X, rfl⟩ : ∃ X : World, X = w := ⟨w, rfl⟩
  have hB : Below X.heap.size X X := Below.refl _ _
  have HN := Lib.hid hn
  have HMX := Lib.hid (hm.below hB)
  have HC := Lib.hid (hC.below hB)
  have HB := Lib.hid hB
  clear hn hm hC hB
  go_enter Try.func8, Try.ntmps8
  go_wp2_with fail
  refine (works_any _ HMX.out).mono ?_
  rintro e w1 ⟨rfl, hb⟩
  have HB1 := Lib.hid hb
  have HM1 := Lib.hid (HMX.out.below hb)
  clear hb HMX
  go_wp2_with fail
  refine (over_any a n c ts w1 HN.out (HC.out.below HB1.out)).mono ?_
  rintro e w' ⟨rfl, rfl⟩
  obtain ⟨O, hO⟩ : ∃ O, ovB ts = O := ⟨_, rfl⟩
  rw [hO]
  have HO := Lib.hid hO
  clear hO
  cases O with
  | true =>
    go_wp2
    go_ret
    exact ⟨rfl, HB.out.trans (HB1.out.mono HB.out.size)⟩
  | false =>
    have hov := ovB_no HO.out
    have hn60 : n ≤ 60 := by have := HN.out; omega
    have HS := Lib.hid hov.2
    clear hov HO
    by_cases y1 : (300 : Int) < p.size
    · go_wp2
      go_ret
      exact ⟨rfl, HB.out.trans (HB1.out.mono HB.out.size)⟩
    by_cases y2 : (64 : Int) < v.size
    · go_wp2
      go_ret
      exact ⟨rfl, HB.out.trans (HB1.out.mono HB.out.size)⟩
    have hp300 : p.size ≤ 300 := by omega
    have hvs : v.size ≤ 64 := by omega
    go_wp2_with fail
    refine (lw_new HB1.out HM1.out).mono ?_
    rintro e w2 ⟨d, bk, he, hL⟩
    have he := he.out
    subst he
    have HL0 : Hid (LW X d bk 0 (runD [] (ts.take 0)) w2) := Lib.hid (by simpa [runD] using hL)
    clear hL HM1
    go_wp2_with fail
    go_loopw [9] (fun i wr => ∃ k : Nat, k ≤ n ∧ i = .int .i64 k ∧ Hid (LW X d bk (k) (runD [] (ts.take k)) wr)) (fun i _ => n - (intOf i).toNat)
    case atStart => exact ⟨0, Nat.zero_le _, rfl, HL0⟩
    case round =>
      clear HL0
      obtain ⟨k, hk, rfl, hL⟩ := hrel
      by_cases hlt : k < n
      · have hlt' : (k : Int) < (n : Int) := by omega
        have hkl : k < ts.length := by have := HN.out; omega
        rcases (HC.out.below hL.out.below).2 with h0 | ⟨g, off, ha, hg, hcm⟩
        · exfalso
          rw [h0] at hkl
          simp at hkl
        have hcm1 := hcm k hkl
        have hsz := (HS.out k hkl).1
        have hrs := runD_succ [] ts k hkl
        obtain ⟨t, ht⟩ : ∃ t, ts.getD k default = t := ⟨_, rfl⟩
        rw [ht] at hcm1 hsz hrs
        have HP := Lib.hid (show t.pa.size ≤ 1000 by omega)
        have HRS := Lib.hid hrs
        obtain ⟨m0, m1, m2, m3, m4, m5, m6, m7⟩ := hcm1
        subst ha
        clear hcm ht hsz hrs hg
        go_wp2_with fail
        refine (lw_apply hL.out t.cl t.sq t.op t.pa t.va t.ver t.a t.b (by omega) HP.out).mono ?_
        rintro e w5 ⟨v5, he, ho, hL5, hg5⟩
        have he := he.out
        subst he
        rw [← HRS.out] at hL5
        have HL5 := Lib.hid hL5
        clear hL ho hL5 hg5 m0 m1 m2 m3 m4 m5 m6 m7
        go_wp2
        go_roundw
        case rel => exact ⟨k + 1, by omega, by go_num, HL5⟩
        case measure => simp [intOf]; omega
      · obtain rfl : k = n := by omega
        have hlt' : ¬ (k : Int) < (k : Int) := by omega
        obtain ⟨l, hl⟩ : ∃ l, runD [] (ts.take k) = l := ⟨_, rfl⟩
        rw [hl] at hL
        have Hl := Lib.hid hl
        have HL : Hid (LW X d bk (60) l wr) := Lib.hid (hL.out.mono (by omega))
        clear hL hl hlt
        have HR0 := Lib.hid HL.out.right
        go_wp2_with fail
        refine (lw_apply HL.out 0 0 5 p v0 0 0 0 (by omega) (by omega)).mono ?_
        obtain ⟨⟨⟨er3, vl3, vr3, ns3⟩, l3⟩, hR3⟩ : ∃ R, appD l 5 p v0 0 = R := ⟨_, rfl⟩
        rw [hR3]
        have HE3 := Lib.hid hR3
        rintro e w3 ⟨v3, he, ho, hL3, hg3⟩
        have he := he.out
        subst he
        obtain ⟨a3, c3, hv3⟩ := ho.slice
        obtain ⟨M3, hM3⟩ : ∃ M, (List.map Value.string ns3).length = M := ⟨_, rfl⟩
        simp only at hv3 ho
        rw [hM3] at hv3
        subst hv3
        have HM3 : Hid (ns3.length = M3) := Lib.hid (by rw [← hM3]; simp)
        have hn3 := ho.nms (by rw [HM3.out]; exact hM3 ▸ own1_small ho)
        obtain ⟨Z3, hZ3⟩ : ∃ Z, w3.alloc (.cells #[.int .i64 er3, .string vl3, .int .i64 vr3, .slice a3 M3 c3] 30) = Z := ⟨_, rfl⟩
        obtain ⟨g3, hgg3⟩ : ∃ g, w3.heap.size = g := ⟨_, rfl⟩
        have HB3 : Hid (RB g3 ⟨er3, vl3, vr3, ns3⟩ Z3) := Lib.hid (by rw [← hZ3, ← hgg3]; exact RB.mk' _ hn3)
        have HL3 := Lib.hid (hL3.box #[.int .i64 er3, .string vl3, .int .i64 vr3, .slice a3 M3 c3] 30)
        rw [hZ3] at HL3
        clear HL ho hL3 hg3 hR3 hn3 hM3
        go_wp2_with fail
        try rw [hZ3]
        try rw [hgg3]
        clear hZ3 hgg3
        refine (lw_apply HL3.out 0 0 2 p v0 0 0 0 (by omega) (by omega)).mono ?_
        obtain ⟨⟨⟨er4, vl4, vr4, ns4⟩, l4⟩, hR4⟩ : ∃ R, appD l3 2 p v0 0 = R := ⟨_, rfl⟩
        rw [hR4]
        have HE4 := Lib.hid hR4
        rintro e w4 ⟨v4, he, ho, hL4, hg4⟩
        have he := he.out
        subst he
        obtain ⟨a4, c4, hv4⟩ := ho.slice
        obtain ⟨M4, hM4⟩ : ∃ M, (List.map Value.string ns4).length = M := ⟨_, rfl⟩
        simp only at hv4 ho
        rw [hM4] at hv4
        subst hv4
        have HM4 : Hid (ns4.length = M4) := Lib.hid (by rw [← hM4]; simp)
        have hn4 := ho.nms (by rw [HM4.out]; exact hM4 ▸ own1_small ho)
        obtain ⟨Z4, hZ4⟩ : ∃ Z, w4.alloc (.cells #[.int .i64 er4, .string vl4, .int .i64 vr4, .slice a4 M4 c4] 30) = Z := ⟨_, rfl⟩
        obtain ⟨g4, hgg4⟩ : ∃ g, w4.heap.size = g := ⟨_, rfl⟩
        have HB4 : Hid (RB g4 ⟨er4, vl4, vr4, ns4⟩ Z4) := Lib.hid (by rw [← hZ4, ← hgg4]; exact RB.mk' _ hn4)
        have HL4 := Lib.hid (hL4.box #[.int .i64 er4, .string vl4, .int .i64 vr4, .slice a4 M4 c4] 30)
        rw [hZ4] at HL4
        have HB3b := Lib.hid ((HB3.out.step HL3.out hg4).box #[.int .i64 er4, .string vl4, .int .i64 vr4, .slice a4 M4 c4] 30)
        rw [hZ4] at HB3b
        clear HL3 HB3 ho hL4 hg4 hR4 hn4 hM4
        have hl3 : l3 = l := by
          have h0 : (appD l 5 p v0 0).2 = l := reads_quiet 5 p v0 0 (.inr (.inr rfl))
          rw [HE3.out] at h0
          exact h0
        subst hl3
        have hq := deletes_law HR0.out p v hvs v0 v0 v0 0 0 0 0
        rw [HE3.out] at hq
        rw [HE4.out] at hq
        simp only at hq
        have q47 := eqRoot p
        have t30 := HB3b.out.c0
        have t31 := HB3b.out.c1
        have t32 := HB3b.out.c2
        simp only at t30 t31 t32
        have t40 := HB4.out.c0
        have t41 := HB4.out.c1
        have t42 := HB4.out.c2
        simp only at t40 t41 t42
        obtain ⟨v33, t33, a33, c33, rfl, hn33⟩ := HB3b.out.c3
        simp only at t33
        obtain ⟨N3, hN3⟩ : ∃ N, ns3.length = N := ⟨_, rfl⟩
        rw [hN3] at t33 hq
        have HNN := Lib.hid hN3
        clear HE3 hn33 hN3
        by_cases hc : er3 ≠ 0 ∨ p = pth []
        · rw [if_pos hc] at hq
          have s2 : (er4 != 0) = true := by simpa using hq
          by_cases e3 : er3 = 0
          · have s1 : (er3 != 0) = false := by simp [e3]
            have hr : p = pth [] := by rcases hc with h | h
                                       · exact absurd e3 h
                                       · exact h
            have s4 : (p.toList == [47]) = true := by rw [q47]; simpa using hr
            clear q47 hr hq e3 hc
            go_wp2
            go_ret
            exact ⟨rfl, HB.out.trans (HL4.out.below.mono HB.out.size)⟩
          · have s1 : (er3 != 0) = true := by simpa using e3
            clear q47 hq e3 hc
            go_wp2
            go_ret
            exact ⟨rfl, HB.out.trans (HL4.out.below.mono HB.out.size)⟩
        · rw [if_neg hc] at hq
          have e3 : er3 = 0 := Classical.byContradiction fun h => hc (.inl h)
          have hr : ¬ p = pth [] := fun h => hc (.inr h)
          have s1 : (er3 != 0) = false := by simp [e3]
          have s4 : (p.toList == [47]) = false := by rw [q47]; simpa using hr
          by_cases hk : 0 < N3
          · rw [if_pos hk] at hq
            have k2 : (0 : Int) < (N3 : Int) := by omega
            have s2 : (er4 == 4) = true := by simpa using hq
            clear q47 hr hq e3 hc
            go_wp2
            go_ret
            exact ⟨rfl, HB.out.trans (HL4.out.below.mono HB.out.size)⟩
          · rw [if_neg hk] at hq
            have k2 : ¬ (0 : Int) < (N3 : Int) := by omega
            have HQ := Lib.hid hq
            clear q47 hr hq e3 hc
            go_wp2_with fail
            try rw [hZ4]
            try rw [hgg4]
            clear hZ4 hgg4 t30 t31 t32 t33 t40 t41 t42
            refine (lw_apply HL4.out 0 0 1 p v 0 0 0 (by omega) (by omega)).mono ?_
            obtain ⟨⟨⟨er5, vl5, vr5, ns5⟩, l5⟩, hR5⟩ : ∃ R, appD l4 1 p v 0 = R := ⟨_, rfl⟩
            rw [hR5]
            have HE5 := Lib.hid hR5
            rintro e w5 ⟨v5, he, ho, hL5, hg5⟩
            have he := he.out
            subst he
            obtain ⟨a5, c5, hv5⟩ := ho.slice
            obtain ⟨M5, hM5⟩ : ∃ M, (List.map Value.string ns5).length = M := ⟨_, rfl⟩
            simp only at hv5 ho
            rw [hM5] at hv5
            subst hv5
            have HM5 : Hid (ns5.length = M5) := Lib.hid (by rw [← hM5]; simp)
            have hn5 := ho.nms (by rw [HM5.out]; exact hM5 ▸ own1_small ho)
            obtain ⟨Z5, hZ5⟩ : ∃ Z, w5.alloc (.cells #[.int .i64 er5, .string vl5, .int .i64 vr5, .slice a5 M5 c5] 30) = Z := ⟨_, rfl⟩
            obtain ⟨g5, hgg5⟩ : ∃ g, w5.heap.size = g := ⟨_, rfl⟩
            have HB5 : Hid (RB g5 ⟨er5, vl5, vr5, ns5⟩ Z5) := Lib.hid (by rw [← hZ5, ← hgg5]; exact RB.mk' _ hn5)
            have HL5 := Lib.hid (hL5.box #[.int .i64 er5, .string vl5, .int .i64 vr5, .slice a5 M5 c5] 30)
            rw [hZ5] at HL5
            have HB3c := Lib.hid ((HB3b.out.step HL4.out hg5).box #[.int .i64 er5, .string vl5, .int .i64 vr5, .slice a5 M5 c5] 30)
            rw [hZ5] at HB3c
            have HB4b := Lib.hid ((HB4.out.step HL4.out hg5).box #[.int .i64 er5, .string vl5, .int .i64 vr5, .slice a5 M5 c5] 30)
            rw [hZ5] at HB4b
            clear HL4 HB3b HB4 ho hL5 hg5 hR5 hn5 hM5
            go_wp2_with fail
            try rw [hZ5]
            try rw [hgg5]
            clear hZ5 hgg5
            refine (lw_apply HL5.out 0 0 4 p v0 0 0 0 (by omega) (by omega)).mono ?_
            obtain ⟨⟨⟨er6, vl6, vr6, ns6⟩, l6⟩, hR6⟩ : ∃ R, appD l5 4 p v0 0 = R := ⟨_, rfl⟩
            rw [hR6]
            have HE6 := Lib.hid hR6
            rintro e w6 ⟨v6, he, ho, hL6, hg6⟩
            have he := he.out
            subst he
            obtain ⟨a6, c6, hv6⟩ := ho.slice
            obtain ⟨M6, hM6⟩ : ∃ M, (List.map Value.string ns6).length = M := ⟨_, rfl⟩
            simp only at hv6 ho
            rw [hM6] at hv6
            subst hv6
            have HM6 : Hid (ns6.length = M6) := Lib.hid (by rw [← hM6]; simp)
            have hn6 := ho.nms (by rw [HM6.out]; exact hM6 ▸ own1_small ho)
            obtain ⟨Z6, hZ6⟩ : ∃ Z, w6.alloc (.cells #[.int .i64 er6, .string vl6, .int .i64 vr6, .slice a6 M6 c6] 30) = Z := ⟨_, rfl⟩
            obtain ⟨g6, hgg6⟩ : ∃ g, w6.heap.size = g := ⟨_, rfl⟩
            have HB6 : Hid (RB g6 ⟨er6, vl6, vr6, ns6⟩ Z6) := Lib.hid (by rw [← hZ6, ← hgg6]; exact RB.mk' _ hn6)
            have HL6 := Lib.hid (hL6.box #[.int .i64 er6, .string vl6, .int .i64 vr6, .slice a6 M6 c6] 30)
            rw [hZ6] at HL6
            have HB4c := Lib.hid ((HB4b.out.step HL5.out hg6).box #[.int .i64 er6, .string vl6, .int .i64 vr6, .slice a6 M6 c6] 30)
            rw [hZ6] at HB4c
            have HB5b := Lib.hid ((HB5.out.step HL5.out hg6).box #[.int .i64 er6, .string vl6, .int .i64 vr6, .slice a6 M6 c6] 30)
            rw [hZ6] at HB5b
            clear HL5 HB4b HB5 ho hL6 hg6 hR6 hn6 hM6
            have hq := HQ.out
            rw [HE5.out] at hq
            simp only at hq
            rw [HE6.out] at hq
            simp only at hq
            have t40 := HB4c.out.c0
            have t41 := HB4c.out.c1
            have t42 := HB4c.out.c2
            simp only at t40 t41 t42
            have t50 := HB5b.out.c0
            have t51 := HB5b.out.c1
            have t52 := HB5b.out.c2
            simp only at t50 t51 t52
            have t60 := HB6.out.c0
            have t61 := HB6.out.c1
            have t62 := HB6.out.c2
            simp only at t60 t61 t62
            have s2 : (er4 == 0) = true := by simpa using hq.1
            have s3 : (er5 == 0) = true := by simpa using hq.2.1
            have s5 : (vr5 == 1) = true := by simpa using hq.2.2.1
            have s6 : (vl6.toList == v.toList) = true := by rw [hq.2.2.2.1]; simp
            have s7 : (vr6 == 1) = true := by simpa using hq.2.2.2.2
            clear hq HE5 HE6 HE4
            go_wp2
            go_ret
            exact ⟨rfl, HB.out.trans (HL6.out.below.mono HB.out.size)⟩
end Go.Proofs.Ytoojfbeikohikaa
