/-
  A clone has the same, and is one of its own.
-/
import Derived.Test.YtoojfbeikohikaaDl3
namespace Go.Proofs.Ytoojfbeikohikaa
open Go.RowKit
set_option linter.unusedSimpArgs false
set_option linter.unusedVariables false

set_option maxRecDepth 100000 in
set_option maxHeartbeats 4000000 in
theorem dirClone_walk (a : Option Addr) (n c : Nat) (ts : List Cm) (ab : Option Addr) (nb cb : Nat) (tsb : List Cm) (w : World) (hn : n = ts.length) (hC : CRd w a ts) (hnb : nb = tsb.length) (hCb : CRd w ab tsb) (hm : ML w) :
    Calls Try.prog 6 #[.slice a n c, .slice ab nb cb] w fun e w' => e = .returned (.bool true) ∧ Below w.heap.size w w' := by
  obtain ⟨X, rfl⟩ : ∃ X : World, X = w := ⟨w, rfl⟩
  have hB : Below X.heap.size X X := Below.refl _ _
  have HNb := Lib.hid hnb
  have HCb := Lib.hid (hCb.below hB)
  clear hnb hCb
  have HN := Lib.hid hn
  have HMX := Lib.hid (hm.below hB)
  have HC := Lib.hid (hC.below hB)
  have HB := Lib.hid hB
  clear hn hm hC hB
  go_enter Try.func6, Try.ntmps6
  go_wp2_with fail
  refine (works_any _ HMX.out).mono ?_
  rintro e w1 ⟨rfl, hb⟩
  have HB1 := Lib.hid hb
  have HM1 := Lib.hid (HMX.out.below hb)
  clear hb HMX
  go_wp2_with fail
  refine (over_any a n c ts w1 HN.out (HC.out.below HB1.out)).mono ?_
  rintro e w' ⟨rfl, rfl⟩
  obtain ⟨O, hO⟩ : ∃ O, ovB ts = O := ⟨_, rfl⟩
  rw [hO]
  have HO := Lib.hid hO
  clear hO
  cases O with
  | true =>
    go_wp2
    go_ret
    exact ⟨rfl, HB.out.trans (HB1.out.mono HB.out.size)⟩
  | false =>
    have hov := ovB_no HO.out
    have hn60 : n ≤ 60 := by have := HN.out; omega
    have HS := Lib.hid hov.2
    clear hov HO
    go_wp2_with fail
    refine (over_any ab nb cb tsb w1 HNb.out (HCb.out.below HB1.out)).mono ?_
    rintro e w' ⟨rfl, rfl⟩
    obtain ⟨O2, hO2⟩ : ∃ O, ovB tsb = O := ⟨_, rfl⟩
    rw [hO2]
    have HO2 := Lib.hid hO2
    clear hO2
    cases O2 with
    | true =>
      go_wp2
      go_ret
      exact ⟨rfl, HB.out.trans (HB1.out.mono HB.out.size)⟩
    | false =>
      have hovb := ovB_no HO2.out
      have hn60b : nb ≤ 60 := by have := HNb.out; omega
      have HSb := Lib.hid hovb.2
      clear hovb HO2
      go_wp2_with fail
      refine (lw_new HB1.out HM1.out).mono ?_
      rintro e w2 ⟨d, bk, he, hL⟩
      have he := he.out
      subst he
      have HL0 : Hid (LW X d bk 0 (runD [] (ts.take 0)) w2) := Lib.hid (by simpa [runD] using hL)
      clear hL HM1
      go_wp2_with fail
      go_loopw [7] (fun i wr => ∃ k : Nat, k ≤ n ∧ i = .int .i64 k ∧ Hid (LW X d bk (k) (runD [] (ts.take k)) wr)) (fun i _ => n - (intOf i).toNat)
      case atStart => exact ⟨0, Nat.zero_le _, rfl, HL0⟩
      case round =>
        clear HL0
        obtain ⟨k, hk, rfl, hL⟩ := hrel
        by_cases hlt : k < n
        · have hlt' : (k : Int) < (n : Int) := by omega
          have hkl : k < ts.length := by have := HN.out; omega
          rcases (HC.out.below hL.out.below).2 with h0 | ⟨g, off, ha, hg, hcm⟩
          · exfalso
            rw [h0] at hkl
            simp at hkl
          have hcm1 := hcm k hkl
          have hsz := (HS.out k hkl).1
          have hrs := runD_succ [] ts k hkl
          obtain ⟨t, ht⟩ : ∃ t, ts.getD k default = t := ⟨_, rfl⟩
          rw [ht] at hcm1 hsz hrs
          have HP := Lib.hid (show t.pa.size ≤ 1000 by omega)
          have HRS := Lib.hid hrs
          obtain ⟨m0, m1, m2, m3, m4, m5, m6, m7⟩ := hcm1
          subst ha
          clear hcm ht hsz hrs hg
          go_wp2_with fail
          refine (lw_apply hL.out t.cl t.sq t.op t.pa t.va t.ver t.a t.b (by omega) HP.out).mono ?_
          rintro e w5 ⟨v5, he, ho, hL5, hg5⟩
          have he := he.out
          subst he
          rw [← HRS.out] at hL5
          have HL5 := Lib.hid hL5
          clear hL ho hL5 hg5 m0 m1 m2 m3 m4 m5 m6 m7
          go_wp2
          go_roundw
          case rel => exact ⟨k + 1, by omega, by go_num, HL5⟩
          case measure => simp [intOf]; omega
        · obtain rfl : n = k := by omega
          have hlt' : ¬ (n : Int) < (n : Int) := by omega
          obtain ⟨l, hl⟩ : ∃ lx, runD [] (ts.take n) = lx := ⟨_, rfl⟩
          rw [hl] at hL
          have Hl := Lib.hid hl
          have HL : Hid (LW X d bk (60) l wr) := Lib.hid (hL.out.mono (by omega))
          clear hL hl hlt
          go_wp2_with fail
          have HLN : Hid (l.length ≤ 60) := Lib.hid HL.out.len
          refine (clone_any _ _ _ _ _ HL.out.dir).mono ?_
          rintro e w3 ⟨d2, b2, he, hd2, hdl, hbl, hb⟩
          have he := he.out
          subst he
          have HE2 : Hid (LW X d2 b2 60 l w3) := Lib.hid ⟨hd2, HL.out.ml.below hb, HL.out.below.trans (hb.mono HL.out.below.size), ⟨Nat.le_trans HL.out.below.size hdl, Nat.le_trans HL.out.below.size hbl⟩, HL.out.right, HL.out.ver⟩
          have HNE : Hid (bk ≠ b2) := Lib.hid (by have := HL.out.dir.lt.2; omega)
          have HL3 := Lib.hid (HL.out.on hb)
          clear hd2 hdl hbl hb HL
          go_wp2_with fail
          refine (entries_any _ _ _ _ _ HE2.out.dir (by omega) HE2.out.ml).mono ?_
          rintro e w4 ⟨v4, he, ho, hb⟩
          have he := he.out
          subst he
          have HO4 := Lib.hid ho.rd
          have HL4 := Lib.hid (HL3.out.on hb)
          have HF4 := Lib.hid (HE2.out.on hb)
          clear ho hb HL3 HE2
          go_wp2_with fail
          refine (entries_any _ _ _ _ _ HL4.out.dir (by omega) HL4.out.ml).mono ?_
          rintro e w5 ⟨v5, he, ho, hb⟩
          have he := he.out
          subst he
          have HO5 := Lib.hid ho.rd
          have HO4b := Lib.hid (HO4.out.below hb)
          have HL5 := Lib.hid (HL4.out.on hb)
          have HF5 := Lib.hid (HF4.out.on hb)
          clear ho hb HL4 HF4 HO4
          go_wp2_with fail
          refine (rowD_any v4 v5 l l w5 HO4b.out HO5.out (by have := HLN.out; omega) (by have := HLN.out; omega)).mono ?_
          rw [decide_eq_true (rfl : l = l)]
          rintro e w6 ⟨rfl, hb⟩
          have HL6 := Lib.hid (HL5.out.on hb)
          have HF6 := Lib.hid (HF5.out.on hb)
          clear hb HL5 HF5 HO4b HO5
          go_wp2_with fail
          refine (entries_any _ _ _ _ _ HL6.out.dir (by omega) HL6.out.ml).mono ?_
          rintro e w7 ⟨v7, he, ho, hb⟩
          have he := he.out
          subst he
          have HO7 := Lib.hid ho.rd
          have HL7 := Lib.hid (HL6.out.on hb)
          have HF7 : Hid (LW X d2 b2 (60 + 0) (runD l (tsb.take 0)) w7) := Lib.hid (by simpa [runD] using HF6.out.on hb)
          clear ho hb HL6 HF6
          go_wp2_with fail
          go_loopw [10] (fun i wr => ∃ k : Nat, k ≤ nb ∧ i = .int .i64 k ∧ Hid (LW X d2 b2 (60 + k) (runD l (tsb.take k)) wr) ∧ Hid (LW X d bk 60 l wr) ∧ Hid (EK.Rd wr v7 l)) (fun i _ => nb - (intOf i).toNat)
          case atStart => exact ⟨0, Nat.zero_le _, rfl, HF7, HL7, HO7⟩
          case round =>
            clear HF7 HL7 HO7
            obtain ⟨k, hk, rfl, hL, hM, hO⟩ := hrel
            by_cases hlt : k < nb
            · have hlt' : (k : Int) < (nb : Int) := by omega
              have hkl : k < tsb.length := by have := HNb.out; omega
              rcases (HCb.out.below hL.out.below).2 with h0 | ⟨g, off, ha, hg, hcm⟩
              · exfalso
                rw [h0] at hkl
                simp at hkl
              have hcm1 := hcm k hkl
              have hsz := (HSb.out k hkl).1
              have hrs := runD_succ l tsb k hkl
              obtain ⟨t, ht⟩ : ∃ t, tsb.getD k default = t := ⟨_, rfl⟩
              rw [ht] at hcm1 hsz hrs
              have HP := Lib.hid (show t.pa.size ≤ 1000 by omega)
              have HRS := Lib.hid hrs
              obtain ⟨m0, m1, m2, m3, m4, m5, m6, m7⟩ := hcm1
              subst ha
              clear hcm ht hsz hrs hg
              go_wp2_with fail
              refine (lw_apply hL.out t.cl t.sq t.op t.pa t.va t.ver t.a t.b (by omega) HP.out).mono ?_
              rintro e w5 ⟨v5, he, ho, hL5, hg5⟩
              have he := he.out
              subst he
              rw [← HRS.out] at hL5
              have HL5 := Lib.hid hL5
              have HM5 := Lib.hid (hL.out.other hM.out HNE.out hg5)
              have HO5 := Lib.hid (hO.out.out hg5 hL.out.ne)
              clear hL ho hL5 hg5 m0 m1 m2 m3 m4 m5 m6 m7 hM hO
              go_wp2
              go_roundw
              case rel => exact ⟨k + 1, by omega, by go_num, HL5, HM5, HO5⟩
              case measure => simp [intOf]; omega
            · obtain rfl : nb = k := by omega
              have hlt' : ¬ (nb : Int) < (nb : Int) := by omega
              obtain ⟨l2, hl2⟩ : ∃ lx, runD l (tsb.take nb) = lx := ⟨_, rfl⟩
              rw [hl2] at hL
              have Hl2 := Lib.hid hl2
              have HF8 : Hid (LW X d2 b2 (60 + 60) l2 wr) := Lib.hid (hL.out.mono (by omega))
              clear hL hl2 hlt
              go_wp2_with fail
              refine (entries_any _ _ _ _ _ hM.out.dir (by omega) hM.out.ml).mono ?_
              rintro e w8 ⟨v8, he, ho, hb⟩
              have he := he.out
              subst he
              have HO8 := Lib.hid ho.rd
              have HO7b := Lib.hid (hO.out.below hb)
              have HL8 := Lib.hid (hM.out.on hb)
              have HF9 := Lib.hid (HF8.out.on hb)
              clear ho hb hM hO HF8
              go_wp2_with fail
              refine (rowD_any v7 v8 l l w8 HO7b.out HO8.out (by have := HLN.out; omega) (by have := HLN.out; omega)).mono ?_
              rw [decide_eq_true (rfl : l = l)]
              rintro e w9 ⟨rfl, hb⟩
              have HL9 : Hid (LW X d bk (60 + 0) (runD l (tsb.take 0)) w9) := Lib.hid (by simpa [runD] using HL8.out.on hb)
              have HFa := Lib.hid (HF9.out.on hb)
              clear hb HL8 HF9 HO7b HO8
              have HNE2 : Hid (b2 ≠ bk) := Lib.hid (fun e => HNE.out e.symm)
              go_wp2_with fail
              go_loopw [11] (fun i wr => ∃ k : Nat, k ≤ nb ∧ i = .int .i64 k ∧ Hid (LW X d bk (60 + k) (runD l (tsb.take k)) wr) ∧ Hid (LW X d2 b2 (60 + 60) l2 wr)) (fun i _ => nb - (intOf i).toNat)
              case atStart => exact ⟨0, Nat.zero_le _, rfl, HL9, HFa⟩
              case round =>
                clear HL9 HFa
                obtain ⟨k, hk, rfl, hL, hM⟩ := hrel
                by_cases hlt : k < nb
                · have hlt' : (k : Int) < (nb : Int) := by omega
                  have hkl : k < tsb.length := by have := HNb.out; omega
                  rcases (HCb.out.below hL.out.below).2 with h0 | ⟨g, off, ha, hg, hcm⟩
                  · exfalso
                    rw [h0] at hkl
                    simp at hkl
                  have hcm1 := hcm k hkl
                  have hsz := (HSb.out k hkl).1
                  have hrs := runD_succ l tsb k hkl
                  obtain ⟨t, ht⟩ : ∃ t, tsb.getD k default = t := ⟨_, rfl⟩
                  rw [ht] at hcm1 hsz hrs
                  have HP := Lib.hid (show t.pa.size ≤ 1000 by omega)
                  have HRS := Lib.hid hrs
                  obtain ⟨m0, m1, m2, m3, m4, m5, m6, m7⟩ := hcm1
                  subst ha
                  clear hcm ht hsz hrs hg
                  go_wp2_with fail
                  refine (lw_apply hL.out t.cl t.sq t.op t.pa t.va t.ver t.a t.b (by omega) HP.out).mono ?_
                  rintro e w5 ⟨v5, he, ho, hL5, hg5⟩
                  have he := he.out
                  subst he
                  rw [← HRS.out] at hL5
                  have HL5 := Lib.hid hL5
                  have HM5 := Lib.hid (hL.out.other hM.out HNE2.out hg5)
                  clear hL ho hL5 hg5 m0 m1 m2 m3 m4 m5 m6 m7 hM
                  go_wp2
                  go_roundw
                  case rel => exact ⟨k + 1, by omega, by go_num, HL5, HM5⟩
                  case measure => simp [intOf]; omega
                · obtain rfl : nb = k := by omega
                  have hlt' : ¬ (nb : Int) < (nb : Int) := by omega
                  obtain ⟨l3, hl3⟩ : ∃ lx, runD l (tsb.take nb) = lx := ⟨_, rfl⟩
                  rw [hl3] at hL
                  have Hl3 := Lib.hid hl3
                  have HLb : Hid (LW X d bk (60 + 60) l3 wr) := Lib.hid (hL.out.mono (by omega))
                  clear hL hl3 hlt
                  have hl32 : l3 = l2 := by rw [← Hl3.out, ← Hl2.out]
                  subst hl32
                  have HLN2 : Hid (l3.length ≤ 10000) := Lib.hid (by have := HLb.out.len; omega)
                  go_wp2_with fail
                  refine (entries_any _ _ _ _ _ hM.out.dir (by omega) hM.out.ml).mono ?_
                  rintro e w8 ⟨v8, he, ho, hb⟩
                  have he := he.out
                  subst he
                  have HO8 := Lib.hid ho.rd
                  have HLc := Lib.hid (HLb.out.on hb)
                  clear ho hb hM HLb
                  go_wp2_with fail
                  refine (entries_any _ _ _ _ _ HLc.out.dir (by omega) HLc.out.ml).mono ?_
                  rintro e wa ⟨va, he, ho, hb⟩
                  have he := he.out
                  subst he
                  have HOa := Lib.hid ho.rd
                  have HO8b := Lib.hid (HO8.out.below hb)
                  have HLd := Lib.hid (HLc.out.on hb)
                  clear ho hb HLc HO8
                  go_wp2_with fail
                  refine (rowD_any v8 va l3 l3 wa HO8b.out HOa.out HLN2.out HLN2.out).mono ?_
                  rw [decide_eq_true (rfl : l3 = l3)]
                  rintro e wb ⟨rfl, hb⟩
                  have HLe := Lib.hid (HLd.out.on hb)
                  clear hb
                  go_wp2
                  go_ret
                  exact ⟨rfl, HB.out.trans (HLe.out.below.mono HB.out.size)⟩
end Go.Proofs.Ytoojfbeikohikaa
