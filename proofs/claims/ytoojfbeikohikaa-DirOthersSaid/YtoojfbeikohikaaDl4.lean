/-
  What is done to one path is nothing to the value of another one.
-/
import Derived.Test.YtoojfbeikohikaaDl3
namespace Go.Proofs.Ytoojfbeikohikaa
open Go.RowKit
set_option linter.unusedSimpArgs false
set_option linter.unusedVariables false

set_option maxRecDepth 100000 in
set_option maxHeartbeats 4000000 in
theorem dirOthers_walk (a : Option Addr) (n c : Nat) (ts : List Cm) (cl sq op : Int) (pa va : ByteArray) (ver ca cb : Int) (p : ByteArray) (w : World) (hn : n = ts.length) (hC : CRd w a ts) (hm : ML w) :
    Calls Try.prog 9 #[.slice a n c, cmdV cl sq op pa va ver ca cb, .string p] w fun e w' => e = .returned (.bool true) ∧ Below w.heap.size w w' := by
  obtain ⟨X, hX⟩ : ∃ X, w.alloc (.cells #[.int .i64 cl, .int .i64 sq, .int .i64 op, .string pa, .string va, .int .i64 ver, .int .i64 ca, .int .i64 cb] 34) = X := ⟨_, rfl⟩
  have hB : Below w.heap.size w X := by rw [← hX]; exact (Below.refl _ _).alloc (Nat.le_refl _) _
  have hcb : CB w.heap.size ⟨cl, sq, op, pa, va, ver, ca, cb⟩ X := by rw [← hX]; exact CB.mk' ⟨cl, sq, op, pa, va, ver, ca, cb⟩ _ _
  obtain ⟨g0, hg0⟩ : ∃ g, w.heap.size = g := ⟨_, rfl⟩
  have HCB : Hid (∀ W, Below X.heap.size X W → CB g0 ⟨cl, sq, op, pa, va, ver, ca, cb⟩ W) := Lib.hid (fun W hW => hg0 ▸ hcb.low hW)
  clear hcb
  have HN := Lib.hid hn
  have HMX := Lib.hid (hm.below hB)
  have HC := Lib.hid (hC.below hB)
  have HB := Lib.hid hB
  clear hn hm hC hB
  go_enter Try.func9, Try.ntmps9
  go_wp2_with fail
  try rw [hX]
  try rw [hg0]
  have HG0 := Lib.hid hg0
  clear hX hg0
  refine (works_any _ HMX.out).mono ?_
  rintro e w1 ⟨rfl, hb⟩
  have HB1 := Lib.hid hb
  have HM1 := Lib.hid (HMX.out.below hb)
  clear hb HMX
  go_wp2_with fail
  refine (over_any a n c ts w1 HN.out (HC.out.below HB1.out)).mono ?_
  rintro e w' ⟨rfl, rfl⟩
  obtain ⟨O, hO⟩ : ∃ O, ovB ts = O := ⟨_, rfl⟩
  rw [hO]
  have HO := Lib.hid hO
  clear hO
  cases O with
  | true =>
    go_wp2
    go_ret
    exact ⟨rfl, HB.out.trans (HB1.out.mono HB.out.size)⟩
  | false =>
    have hov := ovB_no HO.out
    have hn60 : n ≤ 60 := by have := HN.out; omega
    have HS := Lib.hid hov.2
    clear hov HO
    obtain ⟨m0, m1, m2, m3, m4, m5, m6, m7⟩ := HCB.out w1 HB1.out
    simp only at m0 m1 m2 m3 m4 m5 m6 m7
    go_wp2_with fail
    obtain ⟨Y1, hY1⟩ : ∃ Y, w1.alloc (.cells #[.int .i64 cl, .int .i64 sq, .int .i64 op, .string pa, .string va, .int .i64 ver, .int .i64 ca, .int .i64 cb] 34) = Y := ⟨_, rfl⟩
    obtain ⟨y1, hy1⟩ : ∃ y, w1.heap.size = y := ⟨_, rfl⟩
    have HBY : Hid (Below X.heap.size X Y1) := Lib.hid (by rw [← hY1]; exact HB1.out.alloc HB1.out.size _)
    have HMY : Hid (ML Y1) := Lib.hid (by rw [← hY1]; exact HM1.out.below ((Below.refl _ _).alloc (Nat.le_refl _) _))
    have HCY : Hid (CRd Y1 (some ⟨y1, 0, none⟩) [⟨cl, sq, op, pa, va, ver, ca, cb⟩]) := Lib.hid (by rw [← hY1, ← hy1]; exact crd_one ⟨cl, sq, op, pa, va, ver, ca, cb⟩ w1 _)
    rw [hY1, hy1]
    clear hY1 hy1 HB1 HM1
    refine (over_any _ 1 1 [⟨cl, sq, op, pa, va, ver, ca, cb⟩] Y1 rfl HCY.out).mono ?_
    rintro e w' ⟨rfl, rfl⟩
    obtain ⟨O2, hO2⟩ : ∃ O, ovB [⟨cl, sq, op, pa, va, ver, ca, cb⟩] = O := ⟨_, rfl⟩
    rw [hO2]
    have HO2 := Lib.hid hO2
    clear hO2 HCY
    cases O2 with
    | true =>
      go_wp2
      go_ret
      exact ⟨rfl, HB.out.trans (HBY.out.mono HB.out.size)⟩
    | false =>
      have hpa : pa.size ≤ 300 := (ovB_no HO2.out).2 0 (by simp) |>.1
      clear HO2
      clear m0 m1 m2 m3 m4 m5 m6 m7
      obtain ⟨m0, m1, m2, m3, m4, m5, m6, m7⟩ := HCB.out Y1 HBY.out
      simp only at m0 m1 m2 m3 m4 m5 m6 m7
      by_cases y1 : (300 : Int) < p.size
      · go_wp2
        go_ret
        exact ⟨rfl, HB.out.trans (HBY.out.mono HB.out.size)⟩
      by_cases hpp : p = pa
      · subst hpp
        have q0 : (p.toList == p.toList) = true := by simp
        go_wp2
        go_ret
        exact ⟨rfl, HB.out.trans (HBY.out.mono HB.out.size)⟩
      have q0 : (p.toList == pa.toList) = false := by
        rw [Lib.toList_data, Lib.toList_data]
        simpa using fun e => hpp (data_inj (by simpa using e))
      have HPP := Lib.hid hpp
      have hp300 : p.size ≤ 300 := by omega
      clear hpp
      go_wp2_with fail
      refine (lw_new HBY.out HMY.out).mono ?_
      rintro e w2 ⟨d, bk, he, hL⟩
      have he := he.out
      subst he
      have HL0 : Hid (LW X d bk 0 (runD [] (ts.take 0)) w2) := Lib.hid (by simpa [runD] using hL)
      clear hL HMY
      go_wp2_with fail
      clear m0 m1 m2 m3 m4 m5 m6 m7 q0 HBY
      go_loopw [9] (fun i wr => ∃ k : Nat, k ≤ n ∧ i = .int .i64 k ∧ Hid (LW X d bk (k) (runD [] (ts.take k)) wr)) (fun i _ => n - (intOf i).toNat)
      case atStart => exact ⟨0, Nat.zero_le _, rfl, HL0⟩
      case round =>
        clear HL0
        obtain ⟨k, hk, rfl, hL⟩ := hrel
        by_cases hlt : k < n
        · have hlt' : (k : Int) < (n : Int) := by omega
          have hkl : k < ts.length := by have := HN.out; omega
          rcases (HC.out.below hL.out.below).2 with h0 | ⟨g, off, ha, hg, hcm⟩
          · exfalso
            rw [h0] at hkl
            simp at hkl
          have hcm1 := hcm k hkl
          have hsz := (HS.out k hkl).1
          have hrs := runD_succ [] ts k hkl
          obtain ⟨t, ht⟩ : ∃ t, ts.getD k default = t := ⟨_, rfl⟩
          rw [ht] at hcm1 hsz hrs
          have HP := Lib.hid (show t.pa.size ≤ 1000 by omega)
          have HRS := Lib.hid hrs
          obtain ⟨m0, m1, m2, m3, m4, m5, m6, m7⟩ := hcm1
          subst ha
          clear hcm ht hsz hrs hg
          go_wp2_with fail
          refine (lw_apply hL.out t.cl t.sq t.op t.pa t.va t.ver t.a t.b (by omega) HP.out).mono ?_
          rintro e w5 ⟨v5, he, ho, hL5, hg5⟩
          have he := he.out
          subst he
          rw [← HRS.out] at hL5
          have HL5 := Lib.hid hL5
          clear hL ho hL5 hg5 m0 m1 m2 m3 m4 m5 m6 m7
          go_wp2
          go_roundw
          case rel => exact ⟨k + 1, by omega, by go_num, HL5⟩
          case measure => simp [intOf]; omega
        · obtain rfl : k = n := by omega
          have hlt' : ¬ (k : Int) < (k : Int) := by omega
          obtain ⟨l, hl⟩ : ∃ l, runD [] (ts.take k) = l := ⟨_, rfl⟩
          rw [hl] at hL
          have Hl := Lib.hid hl
          have HL := hL
          clear hL hl hlt
          go_wp2_with fail
          obtain ⟨ZG, hZG⟩ : ∃ Z, wr.alloc (.cells #[.int .i64 0, .int .i64 0, .int .i64 4, .string p, .string v0, .int .i64 0, .int .i64 0, .int .i64 0] 34) = Z := ⟨_, rfl⟩
          obtain ⟨gG, hgG⟩ : ∃ g, wr.heap.size = g := ⟨_, rfl⟩
          have HG : Hid (CB gG ⟨0, 0, 4, p, v0, 0, 0, 0⟩ ZG) := Lib.hid (by rw [← hZG, ← hgG]; exact CB.mk' ⟨0, 0, 4, p, v0, 0, 0, 0⟩ _ _)
          have HLa := Lib.hid (HL.box #[.int .i64 0, .int .i64 0, .int .i64 4, .string p, .string v0, .int .i64 0, .int .i64 0, .int .i64 0] 34)
          rw [hZG] at HLa
          clear HL
          rw [hZG, hgG]
          clear hZG hgG
          refine (lw_apply HLa.out 0 0 4 p v0 0 0 0 (by omega) (by omega)).mono ?_
          obtain ⟨⟨⟨er3, vl3, vr3, ns3⟩, l3⟩, hR3⟩ : ∃ R, appD l 4 p v0 0 = R := ⟨_, rfl⟩
          rw [hR3]
          have HE3 := Lib.hid hR3
          rintro e w3 ⟨v3, he, ho, hL3, hg3⟩
          have he := he.out
          subst he
          obtain ⟨a3, c3, hv3⟩ := ho.slice
          obtain ⟨M3, hM3⟩ : ∃ M, (List.map Value.string ns3).length = M := ⟨_, rfl⟩
          simp only at hv3 ho
          rw [hM3] at hv3
          subst hv3
          have HM3 : Hid (ns3.length = M3) := Lib.hid (by rw [← hM3]; simp)
          have hn3 := ho.nms (by rw [HM3.out]; exact hM3 ▸ own1_small ho)
          obtain ⟨Z3, hZ3⟩ : ∃ Z, w3.alloc (.cells #[.int .i64 er3, .string vl3, .int .i64 vr3, .slice a3 M3 c3] 30) = Z := ⟨_, rfl⟩
          obtain ⟨g3, hgg3⟩ : ∃ g, w3.heap.size = g := ⟨_, rfl⟩
          have HB3 : Hid (RB g3 ⟨er3, vl3, vr3, ns3⟩ Z3) := Lib.hid (by rw [← hZ3, ← hgg3]; exact RB.mk' _ hn3)
          have HL3 := Lib.hid (hL3.box #[.int .i64 er3, .string vl3, .int .i64 vr3, .slice a3 M3 c3] 30)
          rw [hZ3] at HL3
          have HG3 := Lib.hid ((HG.out.out hg3 HLa.out.ne).low ((Below.refl _ _).alloc (Nat.le_refl _) (.cells #[.int .i64 er3, .string vl3, .int .i64 vr3, .slice a3 M3 c3] 30)))
          rw [hZ3] at HG3
          clear HLa HG ho hL3 hg3 hR3 hn3 hM3
          have HR3 := Lib.hid HL3.out.right
          have k0 := (HCB.out _ HL3.out.below)
          obtain ⟨m0, m1, m2, m3, m4, m5, m6, m7⟩ := k0
          simp only at m0 m1 m2 m3 m4 m5 m6 m7
          go_wp2_with fail
          try rw [hZ3]
          try rw [hgg3]
          clear hZ3 hgg3
          refine (lw_apply HL3.out cl sq op pa va ver ca cb (by omega) (by omega)).mono ?_
          obtain ⟨⟨⟨er4, vl4, vr4, ns4⟩, l4⟩, hR4⟩ : ∃ R, appD l3 op pa va ver = R := ⟨_, rfl⟩
          rw [hR4]
          have HE4 := Lib.hid hR4
          rintro e w4 ⟨v4, he, ho, hL4, hg4⟩
          have he := he.out
          subst he
          obtain ⟨a4, c4, hv4⟩ := ho.slice
          obtain ⟨M4, hM4⟩ : ∃ M, (List.map Value.string ns4).length = M := ⟨_, rfl⟩
          simp only at hv4 ho
          rw [hM4] at hv4
          subst hv4
          have HM4 : Hid (ns4.length = M4) := Lib.hid (by rw [← hM4]; simp)
          have hn4 := ho.nms (by rw [HM4.out]; exact hM4 ▸ own1_small ho)
          have HL4 := Lib.hid hL4
          have HB4 := Lib.hid (HB3.out.step HL3.out hg4)
          have HG4 := Lib.hid (HG3.out.out hg4 HL3.out.ne)
          clear HL3 HB3 HG3 ho hL4 hg4 hR4 hn4 hM4
          clear m0 m1 m2 m3 m4 m5 m6 m7
          obtain ⟨m0, m1, m2, m3, m4, m5, m6, m7⟩ := HG4.out
          simp only at m0 m1 m2 m3 m4 m5 m6 m7
          go_wp2_with fail
          refine (lw_apply HL4.out 0 0 4 p v0 0 0 0 (by omega) (by omega)).mono ?_
          obtain ⟨⟨⟨er5, vl5, vr5, ns5⟩, l5⟩, hR5⟩ : ∃ R, appD l4 4 p v0 0 = R := ⟨_, rfl⟩
          rw [hR5]
          have HE5 := Lib.hid hR5
          rintro e w5 ⟨v5, he, ho, hL5, hg5⟩
          have he := he.out
          subst he
          obtain ⟨a5, c5, hv5⟩ := ho.slice
          obtain ⟨M5, hM5⟩ : ∃ M, (List.map Value.string ns5).length = M := ⟨_, rfl⟩
          simp only at hv5 ho
          rw [hM5] at hv5
          subst hv5
          have HM5 : Hid (ns5.length = M5) := Lib.hid (by rw [← hM5]; simp)
          have hn5 := ho.nms (by rw [HM5.out]; exact hM5 ▸ own1_small ho)
          obtain ⟨Z5, hZ5⟩ : ∃ Z, w5.alloc (.cells #[.int .i64 er5, .string vl5, .int .i64 vr5, .slice a5 M5 c5] 30) = Z := ⟨_, rfl⟩
          obtain ⟨g5, hgg5⟩ : ∃ g, w5.heap.size = g := ⟨_, rfl⟩
          have HB5 : Hid (RB g5 ⟨er5, vl5, vr5, ns5⟩ Z5) := Lib.hid (by rw [← hZ5, ← hgg5]; exact RB.mk' _ hn5)
          have HL5 := Lib.hid (hL5.box #[.int .i64 er5, .string vl5, .int .i64 vr5, .slice a5 M5 c5] 30)
          rw [hZ5] at HL5
          have HB4b := Lib.hid ((HB4.out.step HL4.out hg5).box #[.int .i64 er5, .string vl5, .int .i64 vr5, .slice a5 M5 c5] 30)
          rw [hZ5] at HB4b
          clear HL4 HB4 ho hL5 hg5 hR5 hn5 hM5
          clear m0 m1 m2 m3 m4 m5 m6 m7
          have hl3 : l3 = l := by
            have := (gt_names l p v0 0).2
            rw [HE3.out] at this
            exact this
          have hfe : (⟨er5, vl5, vr5, ns5⟩ : Rep) = ⟨er3, vl3, vr3, ns3⟩ := by
            have h1 := gt_other (l := l3) (l2 := l4) (p := p) (by
              have := app_fnd (l := l3) HR3.out.rise HR3.out.keys op pa va ver HPP.out
              rw [HE4.out] at this
              exact this) 0 v0
            rw [HE5.out, hl3, HE3.out] at h1
            exact h1
          simp only [Rep.mk.injEq] at hfe
          obtain ⟨rfl, rfl, rfl, rfl⟩ := hfe
          clear hl3
          have t30 := HB4b.out.c0
          have t31 := HB4b.out.c1
          have t32 := HB4b.out.c2
          obtain ⟨v33, t33, hn33⟩ := HB4b.out.c3
          have t50 := HB5.out.c0
          have t51 := HB5.out.c1
          have t52 := HB5.out.c2
          obtain ⟨v53, t53, hn53⟩ := HB5.out.c3
          simp only at t30 t31 t32 t50 t51 t52
          go_wp2_with fail
          try rw [hZ5]
          try rw [hgg5]
          clear hZ5 hgg5
          refine (same_any ⟨_, _, _, _⟩ v33 v53 Z5 hn33 hn53).mono ?_
          rintro e w6 ⟨rfl, hb⟩
          have HL6 := Lib.hid (HL5.out.on hb)
          clear hb
          go_wp2
          go_ret
          exact ⟨rfl, HB.out.trans (HL6.out.below.mono HB.out.size)⟩
end Go.Proofs.Ytoojfbeikohikaa
