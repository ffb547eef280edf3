/-
  What is of no operation, or of no client, leaves all as it was.
-/
import Derived.IntWalk
import Derived.Test.YtbebjpfbbidaiaaGreatSesF
namespace Go.Proofs.YtbebjpfbbidaiaaGreat
open Go.RowKit
set_option linter.unusedSimpArgs false
set_option linter.unusedVariables false

theorem app_op0 (m : Mac) (t : Cm) (c : Rep) (h : t.op = 0) : appM m t c = (bad 0, m) := by
  unfold appM actM
  rw [if_pos h]
theorem app_val0 (m : Mac) (t : Cm) (c : Rep) (h : t.op ≠ 0) (hv : valS t.cl t.sq = false) : appM m t c = (bad 1, m) := by
  unfold appM actM
  rw [if_neg h, if_pos hv]
set_option maxRecDepth 100000 in
set_option maxHeartbeats 4000000 in
theorem sessionNone_walk (a : Option Addr) (n c : Nat) (ts : List Cm) (cl sq op : Int) (pa va : ByteArray) (ver ca cb : Int) (w : World) (hn : n = ts.length) (hC : CRd w a ts) (hm : ML w) :
    Calls Tryz.prog 8 #[.slice a n c, cmdV cl sq op pa va ver ca cb] w fun e w' => e = .returned (.bool true) ∧ Below w.heap.size w w' := by
  obtain ⟨X, hX⟩ : ∃ X, w.alloc (.cells #[.int .i64 cl, .int .i64 sq, .int .i64 op, .string pa, .string va, .int .i64 ver, .int .i64 ca, .int .i64 cb] 49) = X := ⟨_, rfl⟩
  have hB : Below w.heap.size w X := by rw [← hX]; exact (Below.refl _ _).alloc (Nat.le_refl _) _
  have hcb : CB w.heap.size ⟨cl, sq, op, pa, va, ver, ca, cb⟩ X := by rw [← hX]; exact CB.mk' ⟨cl, sq, op, pa, va, ver, ca, cb⟩ _ _
  obtain ⟨g0, hg0⟩ : ∃ g, w.heap.size = g := ⟨_, rfl⟩
  have HCB : Hid (∀ W, Below X.heap.size X W → CB g0 ⟨cl, sq, op, pa, va, ver, ca, cb⟩ W) := Lib.hid (fun W hW => hg0 ▸ hcb.low hW)
  clear hcb
  have HN := Lib.hid hn
  have HMX := Lib.hid (hm.below hB)
  have HC := Lib.hid (hC.below hB)
  have HB := Lib.hid hB
  clear hn hm hC hB
  go_enter Tryz.func8, Tryz.ntmps8
  go_wp2_with fail
  try rw [hX]
  try rw [hg0]
  have HG0 := Lib.hid hg0
  clear hX hg0
  refine (works9_any _ HMX.out).mono ?_
  rintro e w1 ⟨rfl, hb⟩
  have HB1 := Lib.hid hb
  have HM1 := Lib.hid (HMX.out.below hb)
  clear hb HMX
  go_wp2_with fail
  refine (over_any a n c ts w1 HN.out (HC.out.below HB1.out)).mono ?_
  rintro e w' ⟨rfl, rfl⟩
  obtain ⟨O, hO⟩ : ∃ O, ovB ts = O := ⟨_, rfl⟩
  rw [hO]
  have HO := Lib.hid hO
  clear hO
  cases O with
  | true =>
    go_wp2
    go_ret
    exact ⟨rfl, HB.out.trans (HB1.out.mono HB.out.size)⟩
  | false =>
    have hov := ovB_no HO.out
    have hn60 : n ≤ 60 := by have := HN.out; omega
    have HS := Lib.hid hov.2
    clear hov HO
    obtain ⟨m0, m1, m2, m3, m4, m5, m6, m7⟩ := HCB.out w1 HB1.out
    simp only at m0 m1 m2 m3 m4 m5 m6 m7
    go_wp2_with fail
    obtain ⟨Y1, hY1⟩ : ∃ Y, w1.alloc (.cells #[.int .i64 cl, .int .i64 sq, .int .i64 op, .string pa, .string va, .int .i64 ver, .int .i64 ca, .int .i64 cb] 49) = Y := ⟨_, rfl⟩
    obtain ⟨y1, hy1⟩ : ∃ y, w1.heap.size = y := ⟨_, rfl⟩
    have HBY : Hid (Below X.heap.size X Y1) := Lib.hid (by rw [← hY1]; exact HB1.out.alloc HB1.out.size _)
    have HMY : Hid (ML Y1) := Lib.hid (by rw [← hY1]; exact HM1.out.below ((Below.refl _ _).alloc (Nat.le_refl _) _))
    have HCY : Hid (CRd Y1 (some ⟨y1, 0, none⟩) [⟨cl, sq, op, pa, va, ver, ca, cb⟩]) := Lib.hid (by rw [← hY1, ← hy1]; exact crd_one ⟨cl, sq, op, pa, va, ver, ca, cb⟩ w1 _)
    rw [hY1, hy1]
    clear hY1 hy1 HB1 HM1
    refine (over_any _ 1 1 [⟨cl, sq, op, pa, va, ver, ca, cb⟩] Y1 rfl HCY.out).mono ?_
    rintro e w' ⟨rfl, rfl⟩
    obtain ⟨O2, hO2⟩ : ∃ O, ovB [⟨cl, sq, op, pa, va, ver, ca, cb⟩] = O := ⟨_, rfl⟩
    rw [hO2]
    have HO2 := Lib.hid hO2
    clear hO2 HCY
    cases O2 with
    | true =>
      go_wp2
      go_ret
      exact ⟨rfl, HB.out.trans (HBY.out.mono HB.out.size)⟩
    | false =>
      have hpa : pa.size ≤ 300 := (ovB_no HO2.out).2 0 (by simp) |>.1
      clear HO2
      clear m0 m1 m2 m3 m4 m5 m6 m7
      obtain ⟨m0, m1, m2, m3, m4, m5, m6, m7⟩ := HCB.out Y1 HBY.out
      simp only at m0 m1 m2 m3 m4 m5 m6 m7
      by_cases h0 : op = 0
      · subst h0
        go_wp2_with fail
        refine (mnew_any HBY.out HMY.out).mono ?_
        rintro e w2 ⟨gM, d, bk, sb, he, hM⟩
        have he := he.out
        subst he
        have HK0 : Hid (MacAt X gM d bk sb 0 (runM ⟨[], []⟩ (ts.take 0) r0) w2) := Lib.hid hM
        have HSM0 : Hid (SmM (runM ⟨[], []⟩ (ts.take 0) r0)) := Lib.hid SmM.empty
        clear hM HMY HBY
        go_wp2_with fail
        go_loopw [7] (fun i wr => ∃ k : Nat, k ≤ n ∧ i = .int .i64 k ∧ Hid (MacAt X gM d bk sb (k) (runM ⟨[], []⟩ (ts.take k) r0) wr) ∧ Hid (SmM (runM ⟨[], []⟩ (ts.take k) r0))) (fun i _ => n - (intOf i).toNat)
        case atStart => exact ⟨0, Nat.zero_le _, rfl, HK0, HSM0⟩
        case round =>
          clear HK0 HSM0
          obtain ⟨k, hk, rfl, hL, hS⟩ := hrel
          by_cases hlt : k < n
          · have hlt' : (k : Int) < (n : Int) := by omega
            have hkl : k < ts.length := by have := HN.out; omega
            rcases (HC.out.below hL.out.lw.below).2 with h0 | ⟨g, off, ha, hg, hcm⟩
            · exfalso
              rw [h0] at hkl
              simp at hkl
            have hcm1 := hcm k hkl
            have hsz := (HS.out k hkl).1
            have hrs := runM_succ ⟨[], []⟩ ts r0 k hkl
            obtain ⟨t, ht⟩ : ∃ t, ts.getD k default = t := ⟨_, rfl⟩
            rw [ht] at hcm1 hsz hrs
            have HP := Lib.hid (show t.pa.size ≤ 1000 by omega)
            have HRS := Lib.hid hrs
            obtain ⟨m0, m1, m2, m3, m4, m5, m6, m7⟩ := hcm1
            subst ha
            clear hcm ht hsz hrs hg
            go_wp2_with fail
            have HSN : Hid (SmM (runM ⟨[], []⟩ (ts.take (k + 1)) r0)) := Lib.hid (by
              rw [HRS.out]
              exact hS.out.app (by have := hL.out.lw.len; omega) t _ (by simp [bad]))
            refine (mapply_any hL.out hS.out t r0 (.slice none 0 0) (Knd.Rd.nil _) (by simp [bad]) (by simp [bad]) (by omega) HP.out).mono ?_
            rintro e w5 ⟨v5, he, ho, hL5, hT5⟩
            have he := he.out
            subst he
            rw [← HRS.out] at hL5
            have HL5 := Lib.hid hL5
            clear hL hS ho hL5 hT5 m0 m1 m2 m3 m4 m5 m6 m7
            go_wp2
            go_roundw
            case rel => exact ⟨k + 1, by omega, by go_num, HL5, HSN⟩
            case measure => simp [intOf]; omega
          · obtain rfl : n = k := by omega
            have hlt' : ¬ (n : Int) < (n : Int) := by omega
            obtain ⟨mm, hmm⟩ : ∃ lx, runM ⟨[], []⟩ (ts.take n) r0 = lx := ⟨_, rfl⟩
            rw [hmm] at hL hS
            have Hmm := Lib.hid hmm
            have HM : Hid (MacAt X gM d bk sb (60) mm wr) := Lib.hid (hL.out.mono (by omega))
            have HSM := hS
            clear hL hS hmm hlt
            go_wp2_with fail
            refine (mclone_any HM.out).mono ?_
            rintro e w3 ⟨g2, d2, b2, s2, he, hM2, hlo, hb⟩
            have he := he.out
            subst he
            have HAP : Hid (Ap bk sb b2 s2) := Lib.hid (by have := HM.out.lt; constructor <;> omega)
            have HC3 := Lib.hid hM2
            have HM3 := Lib.hid (HM.out.on hb)
            clear hM2 hlo hb HM
            obtain ⟨m0, m1, m2, m3, m4, m5, m6, m7⟩ := HCB.out w3 HM3.out.lw.below
            simp only at m0 m1 m2 m3 m4 m5 m6 m7
            go_wp2_with fail
            refine (mapply_any HM3.out HSM.out ⟨cl, sq, 0, pa, va, ver, ca, cb⟩ ⟨0, v0, 7, []⟩ (.slice none 0 0) (Knd.Rd.nil _) (by simp) (by simp) (by omega) (show pa.size ≤ 1000 by omega)).mono ?_
            have HLEN4 := Lib.hid HM3.out.lw.len
            obtain ⟨⟨⟨er4, vl4, vr4, ns4⟩, m4⟩, hR4⟩ : ∃ R, appM mm ⟨cl, sq, 0, pa, va, ver, ca, cb⟩ ⟨0, v0, 7, []⟩ = R := ⟨_, rfl⟩
            have HS4 : Hid (SmM m4) := Lib.hid (by
              have h1 := HSM.out.app (by have := HLEN4.out; omega) ⟨cl, sq, 0, pa, va, ver, ca, cb⟩ ⟨0, v0, 7, []⟩ (by simp)
              rw [hR4] at h1
              exact h1)
            rw [hR4]
            have HE4 := Lib.hid hR4
            rintro e w4 ⟨v4, he, hrd4, hM4, hT4⟩
            have he := he.out
            subst he
            simp only at hrd4 hM4
            obtain ⟨a4, c4, hv4⟩ := hrd4.slice
            obtain ⟨M4, hMM4⟩ : ∃ M, ns4.length = M := ⟨_, rfl⟩
            rw [hMM4] at hv4
            subst hv4
            have HMM4 := Lib.hid hMM4
            have hn4 := skrd_nms hrd4
            have HM4 := Lib.hid hM4
            have HC4 := Lib.hid (HC3.out.two2 HM3.out HAP.out hT4)
            clear HM3 HC3 hrd4 hM4 hT4 hR4 hMM4
            have hq := HE4.out
            rw [app_op0 _ _ _ rfl] at hq
            simp only [bad, Prod.mk.injEq, Rep.mk.injEq] at hq
            obtain ⟨⟨rfl, rfl, rfl, rfl⟩, rfl⟩ := hq
            have hM0 := HMM4.out
            simp only [List.length_nil] at hM0
            subst hM0
            have HN4 := Lib.hid hn4
            clear HE4 HMM4 hn4 m0 m1 m2 m3 m4 m5 m6 m7
            have hbb : Below w4.heap.size w4 ((w4.alloc (.cells #[.int .i64 0, .string { data := #[] }, .int .i64 0, .slice a4 0 c4] 28)).alloc (.cells #[.int .i64 0, .string { data := #[] }, .int .i64 0, .slice none 0 0] 28)) := ((Below.refl _ _).alloc (Nat.le_refl _) _).alloc (by simp) _
            have HBB := Lib.hid hbb
            have k0 := (HCB.out _ (HM4.out.on hbb).lw.below).c2
            simp only at k0
            clear hbb
            have HBW : Hid (Below w4.heap.size w4 ((w4.alloc (.cells #[.int .i64 0, .string { data := #[] }, .int .i64 0, .slice a4 0 c4] 28)).alloc (.cells #[.int .i64 0, .string { data := #[] }, .int .i64 0, .slice none 0 0] 28))) := Lib.hid (((Below.refl _ _).alloc (Nat.le_refl _) _).alloc (by simp) _)
            go_wp2_with fail
            refine (same_any (bad 0) (.slice a4 0 c4) (.slice none 0 0) _ (HN4.out.below HBW.out) (skrd_nms (r0_rd _))).mono ?_
            rintro e w6 ⟨rfl, hb⟩
            have HM6 := Lib.hid (HM4.out.on (below_self HBW.out hb))
            have HC6 := Lib.hid (HC4.out.on (below_self HBW.out hb))
            clear hb HM4 HC4 HBW HBB HN4 k0
            go_wp2_with fail
            refine (msame_any HM6.out HC6.out HS4.out (by omega) (by omega)).mono ?_
            rintro e w7 ⟨rfl, hb⟩
            have HM7 := Lib.hid (HM6.out.on hb)
            clear hb HM6 HC6
            go_wp2
            go_ret
            exact ⟨rfl, HB.out.trans (HM7.out.lw.below.mono HB.out.size)⟩
      · go_wp2_with fail
        refine (valid9_any cl sq op pa va ver ca cb Y1).mono ?_
        obtain ⟨V, hV⟩ : ∃ V, valS cl sq = V := ⟨_, rfl⟩
        rw [hV]
        have HV := Lib.hid hV
        clear hV
        rintro e w2 ⟨rfl, hb⟩
        have HB2 := Lib.hid (below_self HBY.out hb)
        have HM2 := Lib.hid (HMY.out.below hb)
        clear hb HBY HMY
        cases V with
        | true =>
          go_wp2
          go_ret
          exact ⟨rfl, HB.out.trans (HB2.out.mono HB.out.size)⟩
        | false =>
          clear m0 m1 m2 m3 m4 m5 m6 m7
          have HH0 := Lib.hid h0
          go_wp2_with fail
          refine (mnew_any HB2.out HM2.out).mono ?_
          rintro e w2b ⟨gM, d, bk, sb, he, hM⟩
          have he := he.out
          subst he
          have HK0 : Hid (MacAt X gM d bk sb 0 (runM ⟨[], []⟩ (ts.take 0) r0) w2b) := Lib.hid hM
          have HSM0 : Hid (SmM (runM ⟨[], []⟩ (ts.take 0) r0)) := Lib.hid SmM.empty
          clear hM HM2 HB2
          go_wp2_with fail
          go_loopw [7] (fun i wr => ∃ k : Nat, k ≤ n ∧ i = .int .i64 k ∧ Hid (MacAt X gM d bk sb (k) (runM ⟨[], []⟩ (ts.take k) r0) wr) ∧ Hid (SmM (runM ⟨[], []⟩ (ts.take k) r0))) (fun i _ => n - (intOf i).toNat)
          case atStart => exact ⟨0, Nat.zero_le _, rfl, HK0, HSM0⟩
          case round =>
            clear HK0 HSM0
            obtain ⟨k, hk, rfl, hL, hS⟩ := hrel
            by_cases hlt : k < n
            · have hlt' : (k : Int) < (n : Int) := by omega
              have hkl : k < ts.length := by have := HN.out; omega
              rcases (HC.out.below hL.out.lw.below).2 with h0 | ⟨g, off, ha, hg, hcm⟩
              · exfalso
                rw [h0] at hkl
                simp at hkl
              have hcm1 := hcm k hkl
              have hsz := (HS.out k hkl).1
              have hrs := runM_succ ⟨[], []⟩ ts r0 k hkl
              obtain ⟨t, ht⟩ : ∃ t, ts.getD k default = t := ⟨_, rfl⟩
              rw [ht] at hcm1 hsz hrs
              have HP := Lib.hid (show t.pa.size ≤ 1000 by omega)
              have HRS := Lib.hid hrs
              obtain ⟨m0, m1, m2, m3, m4, m5, m6, m7⟩ := hcm1
              subst ha
              clear hcm ht hsz hrs hg
              go_wp2_with fail
              have HSN : Hid (SmM (runM ⟨[], []⟩ (ts.take (k + 1)) r0)) := Lib.hid (by
                rw [HRS.out]
                exact hS.out.app (by have := hL.out.lw.len; omega) t _ (by simp [bad]))
              refine (mapply_any hL.out hS.out t r0 (.slice none 0 0) (Knd.Rd.nil _) (by simp [bad]) (by simp [bad]) (by omega) HP.out).mono ?_
              rintro e w5 ⟨v5, he, ho, hL5, hT5⟩
              have he := he.out
              subst he
              rw [← HRS.out] at hL5
              have HL5 := Lib.hid hL5
              clear hL hS ho hL5 hT5 m0 m1 m2 m3 m4 m5 m6 m7
              go_wp2
              go_roundw
              case rel => exact ⟨k + 1, by omega, by go_num, HL5, HSN⟩
              case measure => simp [intOf]; omega
            · obtain rfl : n = k := by omega
              have hlt' : ¬ (n : Int) < (n : Int) := by omega
              obtain ⟨mm, hmm⟩ : ∃ lx, runM ⟨[], []⟩ (ts.take n) r0 = lx := ⟨_, rfl⟩
              rw [hmm] at hL hS
              have Hmm := Lib.hid hmm
              have HM : Hid (MacAt X gM d bk sb (60) mm wr) := Lib.hid (hL.out.mono (by omega))
              have HSM := hS
              clear hL hS hmm hlt
              go_wp2_with fail
              refine (mclone_any HM.out).mono ?_
              rintro e w3 ⟨g2, d2, b2, s2, he, hM2, hlo, hb⟩
              have he := he.out
              subst he
              have HAP : Hid (Ap bk sb b2 s2) := Lib.hid (by have := HM.out.lt; constructor <;> omega)
              have HC3 := Lib.hid hM2
              have HM3 := Lib.hid (HM.out.on hb)
              clear hM2 hlo hb HM
              obtain ⟨m0, m1, m2, m3, m4, m5, m6, m7⟩ := HCB.out w3 HM3.out.lw.below
              simp only at m0 m1 m2 m3 m4 m5 m6 m7
              go_wp2_with fail
              refine (mapply_any HM3.out HSM.out ⟨cl, sq, op, pa, va, ver, ca, cb⟩ ⟨0, v0, 7, []⟩ (.slice none 0 0) (Knd.Rd.nil _) (by simp) (by simp) (by omega) (show pa.size ≤ 1000 by omega)).mono ?_
              have HLEN4 := Lib.hid HM3.out.lw.len
              obtain ⟨⟨⟨er4, vl4, vr4, ns4⟩, m4⟩, hR4⟩ : ∃ R, appM mm ⟨cl, sq, op, pa, va, ver, ca, cb⟩ ⟨0, v0, 7, []⟩ = R := ⟨_, rfl⟩
              have HS4 : Hid (SmM m4) := Lib.hid (by
                have h1 := HSM.out.app (by have := HLEN4.out; omega) ⟨cl, sq, op, pa, va, ver, ca, cb⟩ ⟨0, v0, 7, []⟩ (by simp)
                rw [hR4] at h1
                exact h1)
              rw [hR4]
              have HE4 := Lib.hid hR4
              rintro e w4 ⟨v4, he, hrd4, hM4, hT4⟩
              have he := he.out
              subst he
              simp only at hrd4 hM4
              obtain ⟨a4, c4, hv4⟩ := hrd4.slice
              obtain ⟨M4, hMM4⟩ : ∃ M, ns4.length = M := ⟨_, rfl⟩
              rw [hMM4] at hv4
              subst hv4
              have HMM4 := Lib.hid hMM4
              have hn4 := skrd_nms hrd4
              have HM4 := Lib.hid hM4
              have HC4 := Lib.hid (HC3.out.two2 HM3.out HAP.out hT4)
              clear HM3 HC3 hrd4 hM4 hT4 hR4 hMM4
              have hq := HE4.out
              rw [app_val0 _ _ _ HH0.out HV.out] at hq
              simp only [bad, Prod.mk.injEq, Rep.mk.injEq] at hq
              obtain ⟨⟨rfl, rfl, rfl, rfl⟩, rfl⟩ := hq
              have hM0 := HMM4.out
              simp only [List.length_nil] at hM0
              subst hM0
              have HN4 := Lib.hid hn4
              clear HE4 HMM4 hn4 m0 m1 m2 m3 m4 m5 m6 m7
              have hbb : Below w4.heap.size w4 ((w4.alloc (.cells #[.int .i64 1, .string { data := #[] }, .int .i64 0, .slice a4 0 c4] 28)).alloc (.cells #[.int .i64 0, .string { data := #[] }, .int .i64 0, .slice none 0 0] 28)) := ((Below.refl _ _).alloc (Nat.le_refl _) _).alloc (by simp) _
              have HBB := Lib.hid hbb
              have k0 := (HCB.out _ (HM4.out.on hbb).lw.below).c2
              simp only at k0
              clear hbb
              have HBW : Hid (Below w4.heap.size w4 ((w4.alloc (.cells #[.int .i64 1, .string { data := #[] }, .int .i64 0, .slice a4 0 c4] 28)).alloc (.cells #[.int .i64 1, .string { data := #[] }, .int .i64 0, .slice none 0 0] 28))) := Lib.hid (((Below.refl _ _).alloc (Nat.le_refl _) _).alloc (by simp) _)
              go_wp2_with fail
              refine (same_any (bad 1) (.slice a4 0 c4) (.slice none 0 0) _ (HN4.out.below HBW.out) (skrd_nms (r0_rd _))).mono ?_
              rintro e w6 ⟨rfl, hb⟩
              have HM6 := Lib.hid (HM4.out.on (below_self HBW.out hb))
              have HC6 := Lib.hid (HC4.out.on (below_self HBW.out hb))
              clear hb HM4 HC4 HBW HBB HN4 k0
              go_wp2_with fail
              refine (msame_any HM6.out HC6.out HS4.out (by omega) (by omega)).mono ?_
              rintro e w7 ⟨rfl, hb⟩
              have HM7 := Lib.hid (HM6.out.on hb)
              clear hb HM6 HC6
              go_wp2
              go_ret
              exact ⟨rfl, HB.out.trans (HM7.out.lw.below.mono HB.out.size)⟩
end Go.Proofs.YtbebjpfbbidaiaaGreat
