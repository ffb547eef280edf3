/-
  Reading changes nothing, nor does what errs; a version goes up by one at each write.
-/
import Derived.IntWalk
import Derived.Test.YtoojfbeikohikaaDl3
namespace Go.Proofs.Ytoojfbeikohikaa
open Go.RowKit
set_option linter.unusedSimpArgs false
set_option linter.unusedVariables false

set_option maxRecDepth 100000 in
set_option maxHeartbeats 4000000 in
theorem dirReads_walk (a : Option Addr) (n c : Nat) (ts : List Cm) (cl sq op : Int) (pa va : ByteArray) (ver ca cb : Int) (w : World) (hn : n = ts.length) (hC : CRd w a ts) (hm : ML w) :
    Calls Try.prog 4 #[.slice a n c, cmdV cl sq op pa va ver ca cb] w fun e w' => e = .returned (.bool true) ∧ Below w.heap.size w w' := by
  obtain ⟨X, hX⟩ : ∃ X, w.alloc (.cells #[.int .i64 cl, .int .i64 sq, .int .i64 op, .string pa, .string va, .int .i64 ver, .int .i64 ca, .int .i64 cb] 34) = X := ⟨_, rfl⟩
  have hB : Below w.heap.size w X := by rw [← hX]; exact (Below.refl _ _).alloc (Nat.le_refl _) _
  have hcb : CB w.heap.size ⟨cl, sq, op, pa, va, ver, ca, cb⟩ X := by rw [← hX]; exact CB.mk' ⟨cl, sq, op, pa, va, ver, ca, cb⟩ _ _
  obtain ⟨g0, hg0⟩ : ∃ g, w.heap.size = g := ⟨_, rfl⟩
  have HCB : Hid (∀ W, Below X.heap.size X W → CB g0 ⟨cl, sq, op, pa, va, ver, ca, cb⟩ W) := Lib.hid (fun W hW => hg0 ▸ hcb.low hW)
  clear hcb
  have HN := Lib.hid hn
  have HMX := Lib.hid (hm.below hB)
  have HC := Lib.hid (hC.below hB)
  have HB := Lib.hid hB
  clear hn hm hC hB
  go_enter Try.func4, Try.ntmps4
  go_wp2_with fail
  try rw [hX]
  try rw [hg0]
  have HG0 := Lib.hid hg0
  clear hX hg0
  refine (works_any _ HMX.out).mono ?_
  rintro e w1 ⟨rfl, hb⟩
  have HB1 := Lib.hid hb
  have HM1 := Lib.hid (HMX.out.below hb)
  clear hb HMX
  go_wp2_with fail
  refine (over_any a n c ts w1 HN.out (HC.out.below HB1.out)).mono ?_
  rintro e w' ⟨rfl, rfl⟩
  obtain ⟨O, hO⟩ : ∃ O, ovB ts = O := ⟨_, rfl⟩
  rw [hO]
  have HO := Lib.hid hO
  clear hO
  cases O with
  | true =>
    go_wp2
    go_ret
    exact ⟨rfl, HB.out.trans (HB1.out.mono HB.out.size)⟩
  | false =>
    have hov := ovB_no HO.out
    have hn60 : n ≤ 60 := by have := HN.out; omega
    have HS := Lib.hid hov.2
    clear hov HO
    obtain ⟨m0, m1, m2, m3, m4, m5, m6, m7⟩ := HCB.out w1 HB1.out
    simp only at m0 m1 m2 m3 m4 m5 m6 m7
    go_wp2_with fail
    obtain ⟨Y1, hY1⟩ : ∃ Y, w1.alloc (.cells #[.int .i64 cl, .int .i64 sq, .int .i64 op, .string pa, .string va, .int .i64 ver, .int .i64 ca, .int .i64 cb] 34) = Y := ⟨_, rfl⟩
    obtain ⟨y1, hy1⟩ : ∃ y, w1.heap.size = y := ⟨_, rfl⟩
    have HBY : Hid (Below X.heap.size X Y1) := Lib.hid (by rw [← hY1]; exact HB1.out.alloc HB1.out.size _)
    have HMY : Hid (ML Y1) := Lib.hid (by rw [← hY1]; exact HM1.out.below ((Below.refl _ _).alloc (Nat.le_refl _) _))
    have HCY : Hid (CRd Y1 (some ⟨y1, 0, none⟩) [⟨cl, sq, op, pa, va, ver, ca, cb⟩]) := Lib.hid (by rw [← hY1, ← hy1]; exact crd_one ⟨cl, sq, op, pa, va, ver, ca, cb⟩ w1 _)
    rw [hY1, hy1]
    clear hY1 hy1 HB1 HM1
    refine (over_any _ 1 1 [⟨cl, sq, op, pa, va, ver, ca, cb⟩] Y1 rfl HCY.out).mono ?_
    rintro e w' ⟨rfl, rfl⟩
    obtain ⟨O2, hO2⟩ : ∃ O, ovB [⟨cl, sq, op, pa, va, ver, ca, cb⟩] = O := ⟨_, rfl⟩
    rw [hO2]
    have HO2 := Lib.hid hO2
    clear hO2 HCY
    cases O2 with
    | true =>
      go_wp2
      go_ret
      exact ⟨rfl, HB.out.trans (HBY.out.mono HB.out.size)⟩
    | false =>
      have hpa : pa.size ≤ 300 := (ovB_no HO2.out).2 0 (by simp) |>.1
      clear HO2
      clear m0 m1 m2 m3 m4 m5 m6 m7
      go_wp2_with fail
      refine (lw_new HBY.out HMY.out).mono ?_
      rintro e w2 ⟨d, bk, he, hL⟩
      have he := he.out
      subst he
      have HL0 : Hid (LW X d bk 0 (runD [] (ts.take 0)) w2) := Lib.hid (by simpa [runD] using hL)
      clear hL HMY
      go_wp2_with fail
      clear HBY
      go_loopw [7] (fun i wr => ∃ k : Nat, k ≤ n ∧ i = .int .i64 k ∧ Hid (LW X d bk (k) (runD [] (ts.take k)) wr)) (fun i _ => n - (intOf i).toNat)
      case atStart => exact ⟨0, Nat.zero_le _, rfl, HL0⟩
      case round =>
        clear HL0
        obtain ⟨k, hk, rfl, hL⟩ := hrel
        by_cases hlt : k < n
        · have hlt' : (k : Int) < (n : Int) := by omega
          have hkl : k < ts.length := by have := HN.out; omega
          rcases (HC.out.below hL.out.below).2 with h0 | ⟨g, off, ha, hg, hcm⟩
          · exfalso
            rw [h0] at hkl
            simp at hkl
          have hcm1 := hcm k hkl
          have hsz := (HS.out k hkl).1
          have hrs := runD_succ [] ts k hkl
          obtain ⟨t, ht⟩ : ∃ t, ts.getD k default = t := ⟨_, rfl⟩
          rw [ht] at hcm1 hsz hrs
          have HP := Lib.hid (show t.pa.size ≤ 1000 by omega)
          have HRS := Lib.hid hrs
          obtain ⟨m0, m1, m2, m3, m4, m5, m6, m7⟩ := hcm1
          subst ha
          clear hcm ht hsz hrs hg
          go_wp2_with fail
          refine (lw_apply hL.out t.cl t.sq t.op t.pa t.va t.ver t.a t.b (by omega) HP.out).mono ?_
          rintro e w5 ⟨v5, he, ho, hL5, hg5⟩
          have he := he.out
          subst he
          rw [← HRS.out] at hL5
          have HL5 := Lib.hid hL5
          clear hL ho hL5 hg5 m0 m1 m2 m3 m4 m5 m6 m7
          go_wp2
          go_roundw
          case rel => exact ⟨k + 1, by omega, by go_num, HL5⟩
          case measure => simp [intOf]; omega
        · obtain rfl : n = k := by omega
          have hlt' : ¬ (n : Int) < (n : Int) := by omega
          obtain ⟨l, hl⟩ : ∃ lx, runD [] (ts.take n) = lx := ⟨_, rfl⟩
          rw [hl] at hL
          have Hl := Lib.hid hl
          have HL : Hid (LW X d bk (60) l wr) := Lib.hid (hL.out.mono (by omega))
          clear hL hl hlt
          have HR0 := Lib.hid HL.out.right
          have HV0 := Lib.hid (gt_ver (l := l) HL.out.right.rise HL.out.ver pa v0 0)
          have HLN := Lib.hid HL.out.len
          go_wp2_with fail
          refine (entries_any _ _ _ _ _ HL.out.dir (by omega) HL.out.ml).mono ?_
          rintro e w3 ⟨v3, he, ho, hb⟩
          have he := he.out
          subst he
          have HO3 := Lib.hid ho.rd
          have HL3 := Lib.hid (HL.out.on hb)
          clear ho hb HL
          obtain ⟨a3, c3, hv3⟩ := HO3.out.slice
          obtain ⟨N3, hN3⟩ : ∃ N, l.length = N := ⟨_, rfl⟩
          rw [hN3] at hv3
          subst hv3
          have HN3 := Lib.hid hN3
          clear hN3
          have k0 := (HCB.out _ HL3.out.below)
          obtain ⟨m0, m1, m2, m3, m4, m5, m6, m7⟩ := k0
          simp only at m0 m1 m2 m3 m4 m5 m6 m7
          go_wp2_with fail
          refine (lw_apply HL3.out 0 0 4 pa v0 0 0 0 (by omega) (by omega)).mono ?_
          obtain ⟨⟨⟨er4, vl4, vr4, ns4⟩, l4⟩, hR4⟩ : ∃ R, appD l 4 pa v0 0 = R := ⟨_, rfl⟩
          rw [hR4]
          have HE4 := Lib.hid hR4
          rintro e w4 ⟨v4, he, ho, hL4, hg4⟩
          have he := he.out
          subst he
          obtain ⟨a4, c4, hv4⟩ := ho.slice
          obtain ⟨M4, hM4⟩ : ∃ M, (List.map Value.string ns4).length = M := ⟨_, rfl⟩
          simp only at hv4 ho
          rw [hM4] at hv4
          subst hv4
          have HM4 : Hid (ns4.length = M4) := Lib.hid (by rw [← hM4]; simp)
          have hn4 := ho.nms (by rw [HM4.out]; exact hM4 ▸ own1_small ho)
          obtain ⟨Z4, hZ4⟩ : ∃ Z, w4.alloc (.cells #[.int .i64 er4, .string vl4, .int .i64 vr4, .slice a4 M4 c4] 30) = Z := ⟨_, rfl⟩
          obtain ⟨g4, hgg4⟩ : ∃ g, w4.heap.size = g := ⟨_, rfl⟩
          have HB4 : Hid (RB g4 ⟨er4, vl4, vr4, ns4⟩ Z4) := Lib.hid (by rw [← hZ4, ← hgg4]; exact RB.mk' _ hn4)
          have HL4 := Lib.hid (hL4.box #[.int .i64 er4, .string vl4, .int .i64 vr4, .slice a4 M4 c4] 30)
          rw [hZ4] at HL4
          have HO4 := Lib.hid ((HO3.out.out hg4 HL3.out.ne).below ((Below.refl _ _).alloc (Nat.le_refl _) (.cells #[.int .i64 er4, .string vl4, .int .i64 vr4, .slice a4 M4 c4] 30)))
          rw [hZ4] at HO4
          clear HL3 HO3 ho hL4 hg4 hR4 hn4 hM4
          have hl4 : l4 = l := by
            have := (gt_names l pa v0 0).2
            rw [HE4.out] at this
            exact this
          subst hl4
          clear m0 m1 m2 m3 m4 m5 m6 m7
          have k0 := (HCB.out _ HL4.out.below)
          obtain ⟨m0, m1, m2, m3, m4, m5, m6, m7⟩ := k0
          simp only at m0 m1 m2 m3 m4 m5 m6 m7
          go_wp2_with fail
          try rw [hZ4]
          try rw [hgg4]
          clear hZ4 hgg4
          refine (lw_apply HL4.out cl sq op pa va ver ca cb (by omega) (by omega)).mono ?_
          obtain ⟨⟨⟨er5, vl5, vr5, ns5⟩, l5⟩, hR5⟩ : ∃ R, appD l4 op pa va ver = R := ⟨_, rfl⟩
          rw [hR5]
          have HE5 := Lib.hid hR5
          rintro e w5 ⟨v5, he, ho, hL5, hg5⟩
          have he := he.out
          subst he
          obtain ⟨a5, c5, hv5⟩ := ho.slice
          obtain ⟨M5, hM5⟩ : ∃ M, (List.map Value.string ns5).length = M := ⟨_, rfl⟩
          simp only at hv5 ho
          rw [hM5] at hv5
          subst hv5
          have HM5 : Hid (ns5.length = M5) := Lib.hid (by rw [← hM5]; simp)
          have hn5 := ho.nms (by rw [HM5.out]; exact hM5 ▸ own1_small ho)
          obtain ⟨Z5, hZ5⟩ : ∃ Z, w5.alloc (.cells #[.int .i64 er5, .string vl5, .int .i64 vr5, .slice a5 M5 c5] 30) = Z := ⟨_, rfl⟩
          obtain ⟨g5, hgg5⟩ : ∃ g, w5.heap.size = g := ⟨_, rfl⟩
          have HB5 : Hid (RB g5 ⟨er5, vl5, vr5, ns5⟩ Z5) := Lib.hid (by rw [← hZ5, ← hgg5]; exact RB.mk' _ hn5)
          have HL5 := Lib.hid (hL5.box #[.int .i64 er5, .string vl5, .int .i64 vr5, .slice a5 M5 c5] 30)
          rw [hZ5] at HL5
          have HB4b := Lib.hid ((HB4.out.step HL4.out hg5).box #[.int .i64 er5, .string vl5, .int .i64 vr5, .slice a5 M5 c5] 30)
          rw [hZ5] at HB4b
          have HO5 := Lib.hid ((HO4.out.out hg5 HL4.out.ne).below ((Below.refl _ _).alloc (Nat.le_refl _) (.cells #[.int .i64 er5, .string vl5, .int .i64 vr5, .slice a5 M5 c5] 30)))
          rw [hZ5] at HO5
          clear HL4 HB4 HO4 ho hL5 hg5 hR5 hn5 hM5
          clear m0 m1 m2 m3 m4 m5 m6 m7
          go_wp2_with fail
          try rw [hZ5]
          try rw [hgg5]
          clear hZ5 hgg5
          refine (entries_any _ _ _ _ _ HL5.out.dir (by omega) HL5.out.ml).mono ?_
          rintro e w6 ⟨v6, he, ho, hb⟩
          have he := he.out
          subst he
          have HO6 := Lib.hid ho.rd
          have HL6 := Lib.hid (HL5.out.on hb)
          have HB4c := Lib.hid (HB4b.out.on hb)
          have HB5b := Lib.hid (HB5.out.on hb)
          have HO5b := Lib.hid (HO5.out.below hb)
          clear ho hb HL5 HB4b HB5 HO5
          obtain ⟨a6, c6, hv6⟩ := HO6.out.slice
          obtain ⟨N6, hN6⟩ : ∃ N, l5.length = N := ⟨_, rfl⟩
          rw [hN6] at hv6
          subst hv6
          have HN6 := Lib.hid hN6
          clear hN6
          have k0 := (HCB.out _ HL6.out.below)
          obtain ⟨m0, m1, m2, m3, m4, m5, m6, m7⟩ := k0
          simp only at m0 m1 m2 m3 m4 m5 m6 m7
          go_wp2_with fail
          refine (lw_apply HL6.out 0 0 4 pa v0 0 0 0 (by omega) (by omega)).mono ?_
          obtain ⟨⟨⟨er7, vl7, vr7, ns7⟩, l7⟩, hR7⟩ : ∃ R, appD l5 4 pa v0 0 = R := ⟨_, rfl⟩
          rw [hR7]
          have HE7 := Lib.hid hR7
          rintro e w7 ⟨v7, he, ho, hL7, hg7⟩
          have he := he.out
          subst he
          obtain ⟨a7, c7, hv7⟩ := ho.slice
          obtain ⟨M7, hM7⟩ : ∃ M, (List.map Value.string ns7).length = M := ⟨_, rfl⟩
          simp only at hv7 ho
          rw [hM7] at hv7
          subst hv7
          have HM7 : Hid (ns7.length = M7) := Lib.hid (by rw [← hM7]; simp)
          have hn7 := ho.nms (by rw [HM7.out]; exact hM7 ▸ own1_small ho)
          obtain ⟨Z7, hZ7⟩ : ∃ Z, w7.alloc (.cells #[.int .i64 er7, .string vl7, .int .i64 vr7, .slice a7 M7 c7] 30) = Z := ⟨_, rfl⟩
          obtain ⟨g7, hgg7⟩ : ∃ g, w7.heap.size = g := ⟨_, rfl⟩
          have HB7 : Hid (RB g7 ⟨er7, vl7, vr7, ns7⟩ Z7) := Lib.hid (by rw [← hZ7, ← hgg7]; exact RB.mk' _ hn7)
          have HL7 := Lib.hid (hL7.box #[.int .i64 er7, .string vl7, .int .i64 vr7, .slice a7 M7 c7] 30)
          rw [hZ7] at HL7
          have HB4d := Lib.hid ((HB4c.out.step HL6.out hg7).box #[.int .i64 er7, .string vl7, .int .i64 vr7, .slice a7 M7 c7] 30)
          rw [hZ7] at HB4d
          have HB5c := Lib.hid ((HB5b.out.step HL6.out hg7).box #[.int .i64 er7, .string vl7, .int .i64 vr7, .slice a7 M7 c7] 30)
          rw [hZ7] at HB5c
          have HO7 := Lib.hid ((HO6.out.out hg7 HL6.out.ne).below ((Below.refl _ _).alloc (Nat.le_refl _) (.cells #[.int .i64 er7, .string vl7, .int .i64 vr7, .slice a7 M7 c7] 30)))
          rw [hZ7] at HO7
          have HO5c := Lib.hid ((HO5b.out.out hg7 HL6.out.ne).below ((Below.refl _ _).alloc (Nat.le_refl _) (.cells #[.int .i64 er7, .string vl7, .int .i64 vr7, .slice a7 M7 c7] 30)))
          rw [hZ7] at HO5c
          clear HL6 HB4c HB5b HO6 HO5b ho hL7 hg7 hR7 hn7 hM7
          clear m0 m1 m2 m3 m4 m5 m6 m7
          have k0 := (HCB.out _ HL7.out.below)
          obtain ⟨m0, m1, m2, m3, m4, m5, m6, m7⟩ := k0
          simp only at m0 m1 m2 m3 m4 m5 m6 m7
          have t40 := HB4d.out.c0
          have t41 := HB4d.out.c1
          have t42 := HB4d.out.c2
          simp only at t40 t41 t42
          have t50 := HB5c.out.c0
          have t51 := HB5c.out.c1
          have t52 := HB5c.out.c2
          simp only at t50 t51 t52
          have t70 := HB7.out.c0
          have t71 := HB7.out.c1
          have t72 := HB7.out.c2
          simp only at t70 t71 t72
          have hl7 : l7 = l5 := by
            have := (gt_names l5 pa v0 0).2
            rw [HE7.out] at this
            exact this
          subst hl7
          have HLN5 : Hid (l7.length ≤ 10000) := Lib.hid (by have h1 : l7.length ≤ 60 + 1 + 1 + 1 := HL7.out.len
                                                             omega)
          by_cases hq : er5 ≠ 0 ∨ op = 4 ∨ op = 5
          · have hsame : l7 = l4 := by
              have h0 := reads_quiet (l := l4) op pa va ver (by rw [HE5.out]; exact hq)
              rw [HE5.out] at h0
              exact h0
            have HROW : Hid (∀ W, Below Z7.heap.size Z7 W → Calls Try.prog 16 #[.slice a3 N3 c3, .slice a6 N6 c6] W fun e w' => e = .returned (.bool true) ∧ Below W.heap.size W w') := Lib.hid (fun W hW => by
              have h1 := rowD_any (.slice a3 N3 c3) (.slice a6 N6 c6) l4 l7 W (HO5c.out.below hW) (HO7.out.below hW) (by have := HLN.out; omega) HLN5.out
              rw [show decide (l4 = l7) = true from by simp [hsame]] at h1
              exact h1)
            clear hsame HE4 HE5 HE7
            have fin : ∀ W, Below Z7.heap.size Z7 W → Below w.heap.size w W := fun W hW => HB.out.trans ((HL7.out.on hW).below.mono HB.out.size)
            have FIN := Lib.hid fin
            clear fin
            by_cases e5 : er5 = 0
            · have s1 : (er5 != 0) = false := by simp [e5]
              by_cases o4 : op = 4
              · have s2 : (op == 4) = true := by simp [o4]
                clear hq e5 o4
                go_wp2_with fail
                try rw [hZ7]
                refine (HROW.out _ (Below.refl _ _)).mono ?_
                rintro e w8 ⟨rfl, hb⟩
                have HF := Lib.hid (FIN.out _ hb)
                clear hb
                go_wp2
                go_ret
                exact ⟨rfl, HF.out⟩
              · have o5 : op = 5 := by rcases hq with h | h | h
                                       · exact absurd e5 h
                                       · exact absurd h o4
                                       · exact h
                have s2 : (op == 4) = false := by simpa using o4
                have s3 : (op == 5) = true := by simp [o5]
                clear hq e5 o4 o5
                go_wp2_with fail
                try rw [hZ7]
                refine (HROW.out _ (Below.refl _ _)).mono ?_
                rintro e w8 ⟨rfl, hb⟩
                have HF := Lib.hid (FIN.out _ hb)
                clear hb
                go_wp2
                go_ret
                exact ⟨rfl, HF.out⟩
            · have s1 : (er5 != 0) = true := by simpa using e5
              clear hq e5
              go_wp2_with fail
              try rw [hZ7]
              refine (HROW.out _ (Below.refl _ _)).mono ?_
              rintro e w8 ⟨rfl, hb⟩
              have HF := Lib.hid (FIN.out _ hb)
              clear hb
              go_wp2
              go_ret
              exact ⟨rfl, HF.out⟩
          · have e5 : er5 = 0 := Classical.byContradiction fun h => hq (.inl h)
            have o4 : op ≠ 4 := fun h => hq (.inr (.inl h))
            have o5 : op ≠ 5 := fun h => hq (.inr (.inr h))
            have hw := writes_law HR0.out op pa va ver v0 v0 0 0 (by rw [HE5.out]; exact e5) o4 o5
            have hv := HV0.out
            rw [HE4.out] at hw hv
            rw [HE5.out] at hw
            simp only at hw hv
            rw [HE7.out] at hw
            simp only at hw
            have s1 : (er5 != 0) = false := by simp [e5]
            have s2 : (op == 4) = false := by simpa using o4
            have s3 : (op == 5) = false := by simpa using o5
            have v1 : 0 ≤ vr4 := by omega
            have v2 : vr4 ≤ 60 := by omega
            rw [HN3.out, HN6.out] at hw
            have n3 : N3 ≤ 10000 := by have := HLN.out; have := HN3.out; omega
            have n6 : N6 ≤ 10000 := by have := HLN5.out; have := HN6.out; omega
            have n3i : (N3 : Int) ≤ 10000 := by omega
            have n6i : (N6 : Int) ≤ 10000 := by omega
            clear HE4 HE5 HE7 hq e5 o4 o5 hv n3 n6
            by_cases o1 : op = 1
            · rw [if_pos o1] at hw
              have s4 : (op == 1) = true := by simp [o1]
              have s5 : (er4 == 2) = true := by simpa using hw.1
              have s6 : (vl7.toList == va.toList) = true := by rw [hw.2.1]; simp
              have s7 : (vr7 == 1) = true := by simpa using hw.2.2.1
              have s8 : ((N6 : Int) == (N3 : Int) + 1) = true := by rw [hw.2.2.2]; simp
              clear hw o1
              go_wp2
              go_ret
              exact ⟨rfl, HB.out.trans (HL7.out.below.mono HB.out.size)⟩
            · rw [if_neg o1] at hw
              have s4 : (op == 1) = false := by simpa using o1
              by_cases o2 : op = 2
              · rw [if_pos o2] at hw
                have s5 : (op == 2) = true := by simp [o2]
                have s6 : (er4 == 0) = true := by simpa using hw.1
                have s7 : (er7 == 2) = true := by simpa using hw.2.1
                have s8 : ((N6 : Int) == (N3 : Int) - 1) = true := by have := hw.2.2; simp; omega
                clear hw o1 o2
                go_wp2
                go_ret
                exact ⟨rfl, HB.out.trans (HL7.out.below.mono HB.out.size)⟩
              · rw [if_neg o2] at hw
                have s5 : (op == 2) = false := by simpa using o2
                have s6 : (vl7.toList == va.toList) = true := by rw [hw.1]; simp
                have s7 : (vr7 == vr4 + 1) = true := by simpa using hw.2.1
                have s8 : (vr5 == vr7) = true := by simpa using hw.2.2.1
                have s9 : ((N6 : Int) == (N3 : Int)) = true := by rw [hw.2.2.2]; simp
                have s10 : (N6 == N3) = true := by rw [hw.2.2.2]; simp
                clear hw o1 o2
                go_wp2
                go_ret
                exact ⟨rfl, HB.out.trans (HL7.out.below.mono HB.out.size)⟩
end Go.Proofs.Ytoojfbeikohikaa
