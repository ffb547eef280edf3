/-
  What a machine has makes it again: it goes on as the other one does.
-/
import Derived.IntWalk
import Derived.Test.YtbebjpfbbidaiaaGreatSesF
namespace Go.Proofs.YtbebjpfbbidaiaaGreat
open Go.RowKit
set_option linter.unusedSimpArgs false
set_option linter.unusedVariables false

set_option maxRecDepth 100000 in
set_option maxHeartbeats 4000000 in
theorem sessionSnap_walk (a : Option Addr) (n c : Nat) (ts : List Cm) (ab : Option Addr) (nb cb : Nat) (tsb : List Cm) (w : World) (hn : n = ts.length) (hC : CRd w a ts) (hnb : nb = tsb.length) (hCb : CRd w ab tsb) (hm : ML w) :
    Calls Tryz.prog 6 #[.slice a n c, .slice ab nb cb] w fun e w' => e = .returned (.bool true) ∧ Below w.heap.size w w' := by
  obtain ⟨X, rfl⟩ : ∃ X : World, X = w := ⟨w, rfl⟩
  have hB : Below X.heap.size X X := Below.refl _ _
  have HNb := Lib.hid hnb
  have HCb := Lib.hid (hCb.below hB)
  clear hnb hCb
  have HN := Lib.hid hn
  have HMX := Lib.hid (hm.below hB)
  have HC := Lib.hid (hC.below hB)
  have HB := Lib.hid hB
  clear hn hm hC hB
  go_enter Tryz.func6, Tryz.ntmps6
  go_wp2_with fail
  refine (works9_any _ HMX.out).mono ?_
  rintro e w1 ⟨rfl, hb⟩
  have HB1 := Lib.hid hb
  have HM1 := Lib.hid (HMX.out.below hb)
  clear hb HMX
  go_wp2_with fail
  refine (over_any a n c ts w1 HN.out (HC.out.below HB1.out)).mono ?_
  rintro e w' ⟨rfl, rfl⟩
  obtain ⟨O, hO⟩ : ∃ O, ovB ts = O := ⟨_, rfl⟩
  rw [hO]
  have HO := Lib.hid hO
  clear hO
  cases O with
  | true =>
    go_wp2
    go_ret
    exact ⟨rfl, HB.out.trans (HB1.out.mono HB.out.size)⟩
  | false =>
    have hov := ovB_no HO.out
    have hn60 : n ≤ 60 := by have := HN.out; omega
    have HS := Lib.hid hov.2
    clear hov HO
    go_wp2_with fail
    refine (over_any ab nb cb tsb w1 HNb.out (HCb.out.below HB1.out)).mono ?_
    rintro e w' ⟨rfl, rfl⟩
    obtain ⟨O2, hO2⟩ : ∃ O, ovB tsb = O := ⟨_, rfl⟩
    rw [hO2]
    have HO2 := Lib.hid hO2
    clear hO2
    cases O2 with
    | true =>
      go_wp2
      go_ret
      exact ⟨rfl, HB.out.trans (HB1.out.mono HB.out.size)⟩
    | false =>
      have hovb := ovB_no HO2.out
      have hn60b : nb ≤ 60 := by have := HNb.out; omega
      have HSb := Lib.hid hovb.2
      clear hovb HO2
      go_wp2_with fail
      refine (mnew_any HB1.out HM1.out).mono ?_
      rintro e w2 ⟨gM, d, bk, sb, he, hM⟩
      have he := he.out
      subst he
      have HK0 : Hid (MacAt X gM d bk sb 0 (runM ⟨[], []⟩ (ts.take 0) (⟨0, v0, 5, []⟩ : Rep)) w2) := Lib.hid hM
      have HSM0 : Hid (SmM (runM ⟨[], []⟩ (ts.take 0) (⟨0, v0, 5, []⟩ : Rep))) := Lib.hid SmM.empty
      clear hM HM1 HB1
      go_wp2_with fail
      go_loopw [7] (fun i wr => ∃ k : Nat, k ≤ n ∧ i = .int .i64 k ∧ Hid (MacAt X gM d bk sb (k) (runM ⟨[], []⟩ (ts.take k) (⟨0, v0, 5, []⟩ : Rep)) wr) ∧ Hid (SmM (runM ⟨[], []⟩ (ts.take k) (⟨0, v0, 5, []⟩ : Rep)))) (fun i _ => n - (intOf i).toNat)
      case atStart => exact ⟨0, Nat.zero_le _, rfl, HK0, HSM0⟩
      case round =>
        clear HK0 HSM0
        obtain ⟨k, hk, rfl, hL, hS⟩ := hrel
        by_cases hlt : k < n
        · have hlt' : (k : Int) < (n : Int) := by omega
          have hkl : k < ts.length := by have := HN.out; omega
          rcases (HC.out.below hL.out.lw.below).2 with h0 | ⟨g, off, ha, hg, hcm⟩
          · exfalso
            rw [h0] at hkl
            simp at hkl
          have hcm1 := hcm k hkl
          have hsz := (HS.out k hkl).1
          have hrs := runM_succ ⟨[], []⟩ ts (⟨0, v0, 5, []⟩ : Rep) k hkl
          obtain ⟨t, ht⟩ : ∃ t, ts.getD k default = t := ⟨_, rfl⟩
          rw [ht] at hcm1 hsz hrs
          have HP := Lib.hid (show t.pa.size ≤ 1000 by omega)
          have HRS := Lib.hid hrs
          obtain ⟨m0, m1, m2, m3, m4, m5, m6, m7⟩ := hcm1
          subst ha
          clear hcm ht hsz hrs hg
          go_wp2_with fail
          have HSN : Hid (SmM (runM ⟨[], []⟩ (ts.take (k + 1)) (⟨0, v0, 5, []⟩ : Rep))) := Lib.hid (by
            rw [HRS.out]
            exact hS.out.app (by have := hL.out.lw.len; omega) t _ (by simp [bad]))
          refine (mapply_any hL.out hS.out t (⟨0, v0, 5, []⟩ : Rep) (.slice none 0 0) (Knd.Rd.nil _) (by simp [bad]) (by simp [bad]) (by omega) HP.out).mono ?_
          rintro e w5 ⟨v5, he, ho, hL5, hT5⟩
          have he := he.out
          subst he
          rw [← HRS.out] at hL5
          have HL5 := Lib.hid hL5
          clear hL hS ho hL5 hT5 m0 m1 m2 m3 m4 m5 m6 m7
          go_wp2
          go_roundw
          case rel => exact ⟨k + 1, by omega, by go_num, HL5, HSN⟩
          case measure => simp [intOf]; omega
        · obtain rfl : n = k := by omega
          have hlt' : ¬ (n : Int) < (n : Int) := by omega
          obtain ⟨mm, hmm⟩ : ∃ lx, runM ⟨[], []⟩ (ts.take n) (⟨0, v0, 5, []⟩ : Rep) = lx := ⟨_, rfl⟩
          rw [hmm] at hL hS
          have Hmm := Lib.hid hmm
          have HM : Hid (MacAt X gM d bk sb (60) mm wr) := Lib.hid (hL.out.mono (by omega))
          have HSM := hS
          clear hL hS hmm hlt
          go_wp2_with fail
          refine (paths_any HM.out (by omega)).mono ?_
          rintro e w4 ⟨v4, he, ho, hb⟩
          have he := he.out
          subst he
          obtain ⟨a4, c4, hv4⟩ := ho.slice
          obtain ⟨N4, hN4⟩ : ∃ N, mm.l.length = N := ⟨_, rfl⟩
          rw [hN4] at hv4
          subst hv4
          have HN4 := Lib.hid hN4
          clear hN4
          have HO4 := Lib.hid ho.rd
          have HM4 := Lib.hid (HM.out.on hb)
          clear ho hb HM
          go_wp2_with fail
          refine (sessions_any HM4.out HSM.out (by omega)).mono ?_
          rintro e w5 ⟨v5, xs, he, ho, hmt, hb⟩
          have he := he.out
          subst he
          obtain ⟨a5, c5, hv5⟩ := ho.slice
          obtain ⟨N5, hN5⟩ : ∃ N, xs.length = N := ⟨_, rfl⟩
          rw [hN5] at hv5
          subst hv5
          have HO5 := Lib.hid ho.rd
          have HMt5 := Lib.hid hmt
          have HO4b := Lib.hid (HO4.out.below hb)
          have HM5 := Lib.hid (HM4.out.on hb)
          clear ho hmt hb HM4 HO4 hN5
          go_wp2_with fail
          refine (mof_any (X := X) _ _ _ mm.l _ _ _ xs mm.s HM5.out.lw.below HO4b.out HO5.out HMt5.out (by have := HM5.out.lw.len; omega) (by have := HM5.out.len; omega) (by have h0 := HM5.out.lw.ver; exact fun e he => by have h := h0 e he; exact ⟨h.1, by omega⟩) HM5.out.right HSM.out HM5.out.lw.ml).mono ?_
          rintro e w6 ⟨g2, d2, b2, s2, he, hM2, hlo, hb⟩
          have he := he.out
          subst he
          have HAP : Hid (Ap bk sb b2 s2) := Lib.hid (by have := HM5.out.lt; constructor <;> omega)
          have HAP2 := Lib.hid HAP.out.symm
          have HC6 : Hid (MacAt X g2 d2 b2 s2 1000 mm w6) := Lib.hid hM2
          have HM6 := Lib.hid (HM5.out.on hb)
          clear hM2 hlo hb HM5 HO4b HO5 HMt5 HN4
          go_wp2_with fail
          refine (msame_any HM6.out HC6.out HSM.out (by omega) (by omega)).mono ?_
          rintro e w7 ⟨rfl, hb⟩
          have HM8 : Hid (MacAt X gM d bk sb (60 + 0) (runM mm (tsb.take 0) r0) w7) := Lib.hid (HM6.out.on hb)
          have HC8 : Hid (MacAt X g2 d2 b2 s2 (1000 + 0) (runM mm (tsb.take 0) r0) w7) := Lib.hid (HC6.out.on hb)
          have HS8 : Hid (SmM (runM mm (tsb.take 0) r0)) := HSM
          clear hb HM6 HC6 HSM
          go_wp2_with fail
          go_loopw [10] (fun i wr => ∃ k : Nat, k ≤ nb ∧ i = .int .i64 k ∧ Hid (MacAt X gM d bk sb (60 + k) (runM mm (tsb.take k) r0) wr) ∧ Hid (MacAt X g2 d2 b2 s2 (1000 + k) (runM mm (tsb.take k) r0) wr) ∧ Hid (SmM (runM mm (tsb.take k) r0))) (fun i _ => nb - (intOf i).toNat)
          case atStart => exact ⟨0, Nat.zero_le _, rfl, HM8, HC8, HS8⟩
          case round =>
            clear HM8 HC8 HS8
            obtain ⟨k, hk, rfl, hL, hN, hS⟩ := hrel
            by_cases hlt : k < nb
            · have hlt' : (k : Int) < (nb : Int) := by omega
              have hkl : k < tsb.length := by have := HNb.out; omega
              rcases (HCb.out.below hL.out.lw.below).2 with h0 | ⟨g, off, ha, hg, hcm⟩
              · exfalso
                rw [h0] at hkl
                simp at hkl
              have hsz := (HSb.out k hkl).1
              have hrs := runM_succ mm tsb r0 k hkl
              obtain ⟨t, ht⟩ : ∃ t, tsb.getD k default = t := ⟨_, rfl⟩
              have HKL := Lib.hid hkl
              have HCK : Hid (∀ W, Below X.heap.size X W → CmAt W g (off + k * 8) t) := Lib.hid (fun W hW => by
                rcases (HCb.out.below hW).2 with h1 | ⟨g3, off3, ha3, _, hc3⟩
                · exfalso
                  rw [h1] at hkl
                  simp at hkl
                · rw [ha] at ha3
                  simp only [Option.some.injEq, Addr.mk.injEq, and_true] at ha3
                  obtain ⟨rfl, rfl⟩ := ha3
                  rw [← ht]
                  exact hc3 k hkl)
              rw [ht] at hsz hrs
              have HP := Lib.hid (show t.pa.size ≤ 1000 by omega)
              subst ha
              have HT := Lib.hid ht
              clear hcm hsz hg ht hkl
              obtain ⟨mk, hmk⟩ : ∃ x, runM mm (tsb.take k) r0 = x := ⟨_, rfl⟩
              rw [hmk] at hL hN hS hrs
              have HRS := Lib.hid hrs
              clear hmk hrs
              obtain ⟨m0, m1, m2, m3, m4, m5, m6, m7⟩ := HCK.out wr hL.out.lw.below
              go_wp2_with fail
              refine (mapply_any hL.out hS.out t r0 (.slice none 0 0) (Knd.Rd.nil _) (by simp [bad]) (by simp [bad]) (by omega) HP.out).mono ?_
              have HLEN5 := Lib.hid hL.out.lw.len
              obtain ⟨⟨⟨er5, vl5, vr5, ns5⟩, mc5⟩, hR5⟩ : ∃ R, appM mk t r0 = R := ⟨_, rfl⟩
              have HS5 : Hid (SmM mc5) := Lib.hid (by
                have h1 := hS.out.app (by have := HLEN5.out; omega) t r0 (by simp [bad])
                rw [hR5] at h1
                exact h1)
              rw [hR5]
              have HE5 := Lib.hid hR5
              rintro e w5 ⟨v5, he, hrd5, hM5, hT5⟩
              have he := he.out
              subst he
              simp only at hrd5 hM5
              obtain ⟨a5, c5, hv5⟩ := hrd5.slice
              obtain ⟨M5, hMM5⟩ : ∃ M, ns5.length = M := ⟨_, rfl⟩
              rw [hMM5] at hv5
              subst hv5
              have HMM5 := Lib.hid hMM5
              have hn5 := skrd_nms hrd5
              obtain ⟨Z5, hZ5⟩ : ∃ Z, w5.alloc (.cells #[.int .i64 er5, .string vl5, .int .i64 vr5, .slice a5 M5 c5] 28) = Z := ⟨_, rfl⟩
              obtain ⟨g5, hgg5⟩ : ∃ g, w5.heap.size = g := ⟨_, rfl⟩
              have HB5 : Hid (RB g5 ⟨er5, vl5, vr5, ns5⟩ Z5) := Lib.hid (by rw [← hZ5, ← hgg5]; exact RB.mk' _ hn5)
              have HM5 := Lib.hid (hM5.box #[.int .i64 er5, .string vl5, .int .i64 vr5, .slice a5 M5 c5] 28)
              rw [hZ5] at HM5
              have HN5 := Lib.hid ((hN.out.two2 hL.out HAP.out hT5).box #[.int .i64 er5, .string vl5, .int .i64 vr5, .slice a5 M5 c5] 28)
              rw [hZ5] at HN5
              clear hL hN hrd5 hM5 hT5 hR5 hn5 hMM5
              clear m0 m1 m2 m3 m4 m5 m6 m7
              obtain ⟨m0, m1, m2, m3, m4, m5, m6, m7⟩ := HCK.out Z5 HM5.out.lw.below
              go_wp2_with fail
              try rw [hZ5]
              try rw [hgg5]
              clear hZ5 hgg5
              refine (mapply_any HN5.out hS.out t r0 (.slice none 0 0) (Knd.Rd.nil _) (by simp [bad]) (by simp [bad]) (by omega) HP.out).mono ?_
              have HLEN6 := Lib.hid HN5.out.lw.len
              obtain ⟨⟨⟨er6, vl6, vr6, ns6⟩, mc6⟩, hR6⟩ : ∃ R, appM mk t r0 = R := ⟨_, rfl⟩
              have HS6 : Hid (SmM mc6) := Lib.hid (by
                have h1 := hS.out.app (by have := HLEN6.out; omega) t r0 (by simp [bad])
                rw [hR6] at h1
                exact h1)
              rw [hR6]
              have HE6 := Lib.hid hR6
              rintro e w6 ⟨v6, he, hrd6, hM6, hT6⟩
              have he := he.out
              subst he
              simp only at hrd6 hM6
              obtain ⟨a6, c6, hv6⟩ := hrd6.slice
              obtain ⟨M6, hMM6⟩ : ∃ M, ns6.length = M := ⟨_, rfl⟩
              rw [hMM6] at hv6
              subst hv6
              have HMM6 := Lib.hid hMM6
              have hn6 := skrd_nms hrd6
              obtain ⟨Z6, hZ6⟩ : ∃ Z, w6.alloc (.cells #[.int .i64 er6, .string vl6, .int .i64 vr6, .slice a6 M6 c6] 28) = Z := ⟨_, rfl⟩
              obtain ⟨g6, hgg6⟩ : ∃ g, w6.heap.size = g := ⟨_, rfl⟩
              have HB6 : Hid (RB g6 ⟨er6, vl6, vr6, ns6⟩ Z6) := Lib.hid (by rw [← hZ6, ← hgg6]; exact RB.mk' _ hn6)
              have HM6 := Lib.hid (hM6.box #[.int .i64 er6, .string vl6, .int .i64 vr6, .slice a6 M6 c6] 28)
              rw [hZ6] at HM6
              have HB5b := Lib.hid ((HB5.out.two HN5.out hT6).on ((Below.refl _ _).alloc (Nat.le_refl _) (.cells #[.int .i64 er6, .string vl6, .int .i64 vr6, .slice a6 M6 c6] 28)))
              rw [hZ6] at HB5b
              have HG6 := Lib.hid ((HM5.out.two2 HN5.out HAP2.out hT6).box #[.int .i64 er6, .string vl6, .int .i64 vr6, .slice a6 M6 c6] 28)
              rw [hZ6] at HG6
              clear HN5 HB5 HM5 hrd6 hM6 hT6 hR6 hn6 hMM6
              have HRN : Hid (runM mm (tsb.take (k + 1)) r0 = mc5) := Lib.hid (by rw [HRS.out, HE5.out])
              have hq := HE6.out
              rw [HE5.out] at hq
              simp only [Prod.mk.injEq, Rep.mk.injEq] at hq
              obtain ⟨⟨rfl, rfl, rfl, rfl⟩, rfl⟩ := hq
              clear HE5 HE6 HMM5 HMM6 HRS m0 m1 m2 m3 m4 m5 m6 m7 HCK hS
              have t50 := HB5b.out.c0
              have t51 := HB5b.out.c1
              have t52 := HB5b.out.c2
              simp only at t50 t51 t52
              obtain ⟨v53, t53, hn53⟩ := HB5b.out.c3
              simp only at hn53
              have HN53 := Lib.hid hn53
              clear hn53
              have t60 := HB6.out.c0
              have t61 := HB6.out.c1
              have t62 := HB6.out.c2
              simp only at t60 t61 t62
              obtain ⟨v63, t63, hn63⟩ := HB6.out.c3
              simp only at hn63
              have HN63 := Lib.hid hn63
              clear hn63
              go_wp2_with fail
              try rw [hZ6]
              try rw [hgg6]
              clear hZ6 hgg6
              refine (same_any ⟨_, _, _, _⟩ v53 v63 Z6 HN53.out HN63.out).mono ?_
              rintro e w7 ⟨rfl, hb⟩
              have HG7 : Hid (MacAt X gM d bk sb (60 + k + 1) (runM mm (tsb.take (k + 1)) r0) w7) := Lib.hid (by rw [HRN.out]; exact HG6.out.on hb)
              have HN7 : Hid (MacAt X g2 d2 b2 s2 (1000 + k + 1) (runM mm (tsb.take (k + 1)) r0) w7) := Lib.hid (by rw [HRN.out]; exact HM6.out.on hb)
              have HS7 : Hid (SmM (runM mm (tsb.take (k + 1)) r0)) := Lib.hid (by rw [HRN.out]; exact HS5.out)
              clear hb HG6 HM6 t50 t51 t52 t53 t60 t61 t62 t63 HN53 HN63 HB5b HB6
              go_wp2
              go_roundw
              case rel => exact ⟨k + 1, by omega, by go_num, HG7, HN7, HS7⟩
              case measure => simp [intOf]; omega
            · obtain rfl : nb = k := by omega
              have hlt' : ¬ (nb : Int) < (nb : Int) := by omega
              obtain ⟨mz, hmz⟩ : ∃ x, runM mm (tsb.take nb) r0 = x := ⟨_, rfl⟩
              rw [hmz] at hL hN hS
              clear hmz hlt
              go_wp2_with fail
              refine (msame_any hL.out hN.out hS.out (by omega) (by omega)).mono ?_
              rintro e wz ⟨rfl, hb⟩
              have HZ := Lib.hid (hL.out.on hb)
              clear hb hL hN
              go_wp2
              go_ret
              exact ⟨rfl, HB.out.trans (HZ.out.lw.below.mono HB.out.size)⟩
end Go.Proofs.YtbebjpfbbidaiaaGreat
