/-
  Two that don't matter to each other do the same in either order.
-/
import Derived.IntWalk
import Derived.Test.YtbebjpfbbidaiaaGreatSesF
namespace Go.Proofs.YtbebjpfbbidaiaaGreat
open Go.RowKit
set_option linter.unusedSimpArgs false
set_option linter.unusedVariables false

theorem crd_two (t u : Cm) (w : World) (T : TypeId) : CRd (w.alloc (.cells #[.int .i64 t.cl, .int .i64 t.sq, .int .i64 t.op, .string t.pa, .string t.va, .int .i64 t.ver, .int .i64 t.a, .int .i64 t.b, .int .i64 u.cl, .int .i64 u.sq, .int .i64 u.op, .string u.pa, .string u.va, .int .i64 u.ver, .int .i64 u.a, .int .i64 u.b] T)) (some ⟨w.heap.size, 0, none⟩) [t, u] := by
  refine ⟨by simp, .inr ⟨w.heap.size, 0, rfl, by simp, fun i hi => ?_⟩⟩
  have hi2 : i = 0 ∨ i = 1 := by have : i < 2 := by simpa using hi
                                 omega
  rcases hi2 with rfl | rfl
  · refine ⟨?_, ?_, ?_, ?_, ?_, ?_, ?_, ?_⟩ <;> simp [new_cell]
  · refine ⟨?_, ?_, ?_, ?_, ?_, ?_, ?_, ?_⟩ <;> simp [new_cell]
set_option maxRecDepth 100000 in
set_option maxHeartbeats 4000000 in
theorem sessionSwaps_walk (a : Option Addr) (n c : Nat) (ts : List Cm) (cl sq op : Int) (pa va : ByteArray) (ver ca cb : Int) (dl dq dop : Int) (dpa dva : ByteArray) (dver dca dcb : Int) (w : World) (hn : n = ts.length) (hC : CRd w a ts) (hm : ML w) :
    Calls Tryz.prog 5 #[.slice a n c, cmdV cl sq op pa va ver ca cb, cmdV dl dq dop dpa dva dver dca dcb] w fun e w' => e = .returned (.bool true) ∧ Below w.heap.size w w' := by
  obtain ⟨X, hX⟩ : ∃ X, (w.alloc (.cells #[.int .i64 cl, .int .i64 sq, .int .i64 op, .string pa, .string va, .int .i64 ver, .int .i64 ca, .int .i64 cb] 49)).alloc (.cells #[.int .i64 dl, .int .i64 dq, .int .i64 dop, .string dpa, .string dva, .int .i64 dver, .int .i64 dca, .int .i64 dcb] 49) = X := ⟨_, rfl⟩
  have hB : Below w.heap.size w X := by rw [← hX]; exact ((Below.refl _ _).alloc (Nat.le_refl _) _).alloc (by simp) _
  have hcb : CB w.heap.size ⟨cl, sq, op, pa, va, ver, ca, cb⟩ X ∧ CB (w.heap.size + 1) ⟨dl, dq, dop, dpa, dva, dver, dca, dcb⟩ X := by
    rw [← hX]
    have h2 := CB.mk' ⟨dl, dq, dop, dpa, dva, dver, dca, dcb⟩ (w.alloc (.cells #[.int .i64 cl, .int .i64 sq, .int .i64 op, .string pa, .string va, .int .i64 ver, .int .i64 ca, .int .i64 cb] 49)) 49
    rw [World.size_alloc] at h2
    exact ⟨(CB.mk' ⟨cl, sq, op, pa, va, ver, ca, cb⟩ w 49).low ((Below.refl _ _).alloc (Nat.le_refl _) _), h2⟩
  obtain ⟨g0, hg0⟩ : ∃ g, w.heap.size = g := ⟨_, rfl⟩
  have HCA : Hid (∀ W, Below X.heap.size X W → CB g0 ⟨cl, sq, op, pa, va, ver, ca, cb⟩ W) := Lib.hid (fun W hW => hg0 ▸ hcb.1.low hW)
  have HCBb : Hid (∀ W, Below X.heap.size X W → CB (g0 + 1) ⟨dl, dq, dop, dpa, dva, dver, dca, dcb⟩ W) := Lib.hid (fun W hW => by
    have h := hcb.2.low hW
    rw [hg0] at h
    exact h)
  clear hcb
  have HN := Lib.hid hn
  have HMX := Lib.hid (hm.below hB)
  have HC := Lib.hid (hC.below hB)
  have HB := Lib.hid hB
  clear hn hm hC hB
  go_enter Tryz.func5, Tryz.ntmps5
  go_wp2_with fail
  try rw [hX]
  try rw [hg0]
  have HG0 := Lib.hid hg0
  clear hX hg0
  refine (works9_any _ HMX.out).mono ?_
  rintro e w1 ⟨rfl, hb⟩
  have HB1 := Lib.hid hb
  have HM1 := Lib.hid (HMX.out.below hb)
  clear hb HMX
  go_wp2_with fail
  refine (over_any a n c ts w1 HN.out (HC.out.below HB1.out)).mono ?_
  rintro e w' ⟨rfl, rfl⟩
  obtain ⟨O, hO⟩ : ∃ O, ovB ts = O := ⟨_, rfl⟩
  rw [hO]
  have HO := Lib.hid hO
  clear hO
  cases O with
  | true =>
    go_wp2
    go_ret
    exact ⟨rfl, HB.out.trans (HB1.out.mono HB.out.size)⟩
  | false =>
    have hov := ovB_no HO.out
    have hn60 : n ≤ 60 := by have := HN.out; omega
    have HS := Lib.hid hov.2
    clear hov HO
    obtain ⟨m0, m1, m2, m3, m4, m5, m6, m7⟩ := HCA.out w1 HB1.out
    simp only at m0 m1 m2 m3 m4 m5 m6 m7
    obtain ⟨n0, n1, n2, n3, n4, n5, n6, n7⟩ := HCBb.out w1 HB1.out
    simp only at n0 n1 n2 n3 n4 n5 n6 n7
    go_wp2_with fail
    obtain ⟨Y1, hY1⟩ : ∃ Y, w1.alloc (.cells #[.int .i64 cl, .int .i64 sq, .int .i64 op, .string pa, .string va, .int .i64 ver, .int .i64 ca, .int .i64 cb, .int .i64 dl, .int .i64 dq, .int .i64 dop, .string dpa, .string dva, .int .i64 dver, .int .i64 dca, .int .i64 dcb] 49) = Y := ⟨_, rfl⟩
    obtain ⟨y1, hy1⟩ : ∃ y, w1.heap.size = y := ⟨_, rfl⟩
    have HBY : Hid (Below X.heap.size X Y1) := Lib.hid (by rw [← hY1]; exact HB1.out.alloc HB1.out.size _)
    have HMY : Hid (ML Y1) := Lib.hid (by rw [← hY1]; exact HM1.out.below ((Below.refl _ _).alloc (Nat.le_refl _) _))
    have HCY : Hid (CRd Y1 (some ⟨y1, 0, none⟩) [⟨cl, sq, op, pa, va, ver, ca, cb⟩, ⟨dl, dq, dop, dpa, dva, dver, dca, dcb⟩]) := Lib.hid (by rw [← hY1, ← hy1]; exact crd_two ⟨cl, sq, op, pa, va, ver, ca, cb⟩ ⟨dl, dq, dop, dpa, dva, dver, dca, dcb⟩ w1 _)
    rw [hY1, hy1]
    clear hY1 hy1 HB1 HM1
    refine (over_any _ 2 2 [⟨cl, sq, op, pa, va, ver, ca, cb⟩, ⟨dl, dq, dop, dpa, dva, dver, dca, dcb⟩] Y1 rfl HCY.out).mono ?_
    rintro e w' ⟨rfl, rfl⟩
    obtain ⟨O2, hO2⟩ : ∃ O, ovB [⟨cl, sq, op, pa, va, ver, ca, cb⟩, ⟨dl, dq, dop, dpa, dva, dver, dca, dcb⟩] = O := ⟨_, rfl⟩
    rw [hO2]
    have HO2 := Lib.hid hO2
    clear hO2 HCY
    clear m0 m1 m2 m3 m4 m5 m6 m7 n0 n1 n2 n3 n4 n5 n6 n7
    cases O2 with
    | true =>
      go_wp2
      go_ret
      exact ⟨rfl, HB.out.trans (HBY.out.mono HB.out.size)⟩
    | false =>
      have hpa : pa.size ≤ 300 := (ovB_no HO2.out).2 0 (by simp) |>.1
      have hpb : dpa.size ≤ 300 := (ovB_no HO2.out).2 1 (by simp) |>.1
      clear HO2
      obtain ⟨m0, m1, m2, m3, m4, m5, m6, m7⟩ := HCA.out Y1 HBY.out
      simp only at m0 m1 m2 m3 m4 m5 m6 m7
      obtain ⟨n0, n1, n2, n3, n4, n5, n6, n7⟩ := HCBb.out Y1 HBY.out
      simp only at n0 n1 n2 n3 n4 n5 n6 n7
      go_wp2_with fail
      refine (Tc.both_any cl sq op pa va ver ca cb dl dq dop dpa dva dver dca dcb Y1 (by omega) (by omega) HMY.out).mono ?_
      rintro e w2 ⟨rfl, hb⟩
      have HB2 := Lib.hid (below_self HBY.out hb)
      have HM2 := Lib.hid (HMY.out.below hb)
      clear hb HBY HMY
      clear m0 m1 m2 m3 m4 m5 m6 m7 n0 n1 n2 n3 n4 n5 n6 n7
      obtain ⟨Mt, hMt⟩ : ∃ M, Tc.bth cl op pa dl dop dpa = M := ⟨_, rfl⟩
      rw [hMt]
      have HMT := Lib.hid hMt
      clear hMt
      cases Mt with
      | true =>
        go_wp2
        go_ret
        exact ⟨rfl, HB.out.trans (HB2.out.mono HB.out.size)⟩
      | false =>
          go_wp2_with fail
          refine (mnew_any HB2.out HM2.out).mono ?_
          rintro e w2b ⟨gM, d, bk, sb, he, hM⟩
          have he := he.out
          subst he
          have HK0 : Hid (MacAt X gM d bk sb 0 (runM ⟨[], []⟩ (ts.take 0) r0) w2b) := Lib.hid hM
          have HSM0 : Hid (SmM (runM ⟨[], []⟩ (ts.take 0) r0)) := Lib.hid SmM.empty
          clear hM HM2 HB2
          go_wp2_with fail
          go_loopw [9] (fun i wr => ∃ k : Nat, k ≤ n ∧ i = .int .i64 k ∧ Hid (MacAt X gM d bk sb (k) (runM ⟨[], []⟩ (ts.take k) r0) wr) ∧ Hid (SmM (runM ⟨[], []⟩ (ts.take k) r0))) (fun i _ => n - (intOf i).toNat)
          case atStart => exact ⟨0, Nat.zero_le _, rfl, HK0, HSM0⟩
          case round =>
            clear HK0 HSM0
            obtain ⟨k, hk, rfl, hL, hS⟩ := hrel
            by_cases hlt : k < n
            · have hlt' : (k : Int) < (n : Int) := by omega
              have hkl : k < ts.length := by have := HN.out; omega
              rcases (HC.out.below hL.out.lw.below).2 with h0 | ⟨g, off, ha, hg, hcm⟩
              · exfalso
                rw [h0] at hkl
                simp at hkl
              have hcm1 := hcm k hkl
              have hsz := (HS.out k hkl).1
              have hrs := runM_succ ⟨[], []⟩ ts r0 k hkl
              obtain ⟨t, ht⟩ : ∃ t, ts.getD k default = t := ⟨_, rfl⟩
              rw [ht] at hcm1 hsz hrs
              have HP := Lib.hid (show t.pa.size ≤ 1000 by omega)
              have HRS := Lib.hid hrs
              obtain ⟨m0, m1, m2, m3, m4, m5, m6, m7⟩ := hcm1
              subst ha
              clear hcm ht hsz hrs hg
              go_wp2_with fail
              have HSN : Hid (SmM (runM ⟨[], []⟩ (ts.take (k + 1)) r0)) := Lib.hid (by
                rw [HRS.out]
                exact hS.out.app (by have := hL.out.lw.len; omega) t _ (by simp [bad]))
              refine (mapply_any hL.out hS.out t r0 (.slice none 0 0) (Knd.Rd.nil _) (by simp [bad]) (by simp [bad]) (by omega) HP.out).mono ?_
              rintro e w5 ⟨v5, he, ho, hL5, hT5⟩
              have he := he.out
              subst he
              rw [← HRS.out] at hL5
              have HL5 := Lib.hid hL5
              clear hL hS ho hL5 hT5 m0 m1 m2 m3 m4 m5 m6 m7
              go_wp2
              go_roundw
              case rel => exact ⟨k + 1, by omega, by go_num, HL5, HSN⟩
              case measure => simp [intOf]; omega
            · obtain rfl : n = k := by omega
              have hlt' : ¬ (n : Int) < (n : Int) := by omega
              obtain ⟨mm, hmm⟩ : ∃ lx, runM ⟨[], []⟩ (ts.take n) r0 = lx := ⟨_, rfl⟩
              rw [hmm] at hL hS
              have Hmm := Lib.hid hmm
              have HM : Hid (MacAt X gM d bk sb (60) mm wr) := Lib.hid (hL.out.mono (by omega))
              have HSM := hS
              clear hL hS hmm hlt
              go_wp2_with fail
              have HR0 := Lib.hid HM.out.right
              refine (mclone_any HM.out).mono ?_
              rintro e w3 ⟨g2, d2, b2, s2, he, hM2, hlo, hb⟩
              have he := he.out
              subst he
              have HAP : Hid (Ap bk sb b2 s2) := Lib.hid (by have := HM.out.lt; constructor <;> omega)
              have HC3 := Lib.hid hM2
              have HM3 := Lib.hid (HM.out.on hb)
              clear hM2 hlo hb HM
              have HAP2 := Lib.hid HAP.out.symm
              obtain ⟨m0, m1, m2, m3, m4, m5, m6, m7⟩ := HCA.out w3 HM3.out.lw.below
              simp only at m0 m1 m2 m3 m4 m5 m6 m7
              obtain ⟨n0, n1, n2, n3, n4, n5, n6, n7⟩ := HCBb.out w3 HM3.out.lw.below
              simp only at n0 n1 n2 n3 n4 n5 n6 n7
              go_wp2_with fail
              refine (mapply_any HM3.out HSM.out ⟨cl, sq, op, pa, va, ver, ca, cb⟩ r0 (.slice none 0 0) (Knd.Rd.nil _) (by simp [bad]) (by simp [bad]) (by omega) (show pa.size ≤ 1000 by omega)).mono ?_
              have HLEN4 := Lib.hid HM3.out.lw.len
              obtain ⟨⟨⟨er4, vl4, vr4, ns4⟩, mc4⟩, hR4⟩ : ∃ R, appM mm ⟨cl, sq, op, pa, va, ver, ca, cb⟩ r0 = R := ⟨_, rfl⟩
              have HS4 : Hid (SmM mc4) := Lib.hid (by
                have h1 := HSM.out.app (by have := HLEN4.out; omega) ⟨cl, sq, op, pa, va, ver, ca, cb⟩ r0 (by simp [bad])
                rw [hR4] at h1
                exact h1)
              rw [hR4]
              have HE4 := Lib.hid hR4
              rintro e w4 ⟨v4, he, hrd4, hM4, hT4⟩
              have he := he.out
              subst he
              simp only at hrd4 hM4
              obtain ⟨a4, c4, hv4⟩ := hrd4.slice
              obtain ⟨M4, hMM4⟩ : ∃ M, ns4.length = M := ⟨_, rfl⟩
              rw [hMM4] at hv4
              subst hv4
              have HMM4 := Lib.hid hMM4
              have hn4 := skrd_nms hrd4
              obtain ⟨Z4, hZ4⟩ : ∃ Z, w4.alloc (.cells #[.int .i64 er4, .string vl4, .int .i64 vr4, .slice a4 M4 c4] 28) = Z := ⟨_, rfl⟩
              obtain ⟨g4, hgg4⟩ : ∃ g, w4.heap.size = g := ⟨_, rfl⟩
              have HB4 : Hid (RB g4 ⟨er4, vl4, vr4, ns4⟩ Z4) := Lib.hid (by rw [← hZ4, ← hgg4]; exact RB.mk' _ hn4)
              have HM4 := Lib.hid (hM4.box #[.int .i64 er4, .string vl4, .int .i64 vr4, .slice a4 M4 c4] 28)
              rw [hZ4] at HM4
              have HC4 := Lib.hid ((HC3.out.two2 HM3.out HAP.out hT4).box #[.int .i64 er4, .string vl4, .int .i64 vr4, .slice a4 M4 c4] 28)
              rw [hZ4] at HC4
              clear HM3 HC3 hrd4 hM4 hT4 hR4 hn4 hMM4
              clear m0 m1 m2 m3 m4 m5 m6 m7 n0 n1 n2 n3 n4 n5 n6 n7
              obtain ⟨m0, m1, m2, m3, m4, m5, m6, m7⟩ := HCA.out Z4 HM4.out.lw.below
              simp only at m0 m1 m2 m3 m4 m5 m6 m7
              obtain ⟨n0, n1, n2, n3, n4, n5, n6, n7⟩ := HCBb.out Z4 HM4.out.lw.below
              simp only at n0 n1 n2 n3 n4 n5 n6 n7
              go_wp2_with fail
              try rw [hZ4]
              try rw [hgg4]
              clear hZ4 hgg4
              refine (mapply_any HM4.out HS4.out ⟨dl, dq, dop, dpa, dva, dver, dca, dcb⟩ r0 (.slice none 0 0) (Knd.Rd.nil _) (by simp [bad]) (by simp [bad]) (by omega) (show dpa.size ≤ 1000 by omega)).mono ?_
              have HLEN5 := Lib.hid HM4.out.lw.len
              obtain ⟨⟨⟨er5, vl5, vr5, ns5⟩, mc5⟩, hR5⟩ : ∃ R, appM mc4 ⟨dl, dq, dop, dpa, dva, dver, dca, dcb⟩ r0 = R := ⟨_, rfl⟩
              have HS5 : Hid (SmM mc5) := Lib.hid (by
                have h1 := HS4.out.app (by have := HLEN5.out; omega) ⟨dl, dq, dop, dpa, dva, dver, dca, dcb⟩ r0 (by simp [bad])
                rw [hR5] at h1
                exact h1)
              rw [hR5]
              have HE5 := Lib.hid hR5
              rintro e w5 ⟨v5, he, hrd5, hM5, hT5⟩
              have he := he.out
              subst he
              simp only at hrd5 hM5
              obtain ⟨a5, c5, hv5⟩ := hrd5.slice
              obtain ⟨M5, hMM5⟩ : ∃ M, ns5.length = M := ⟨_, rfl⟩
              rw [hMM5] at hv5
              subst hv5
              have HMM5 := Lib.hid hMM5
              have hn5 := skrd_nms hrd5
              obtain ⟨Z5, hZ5⟩ : ∃ Z, w5.alloc (.cells #[.int .i64 er5, .string vl5, .int .i64 vr5, .slice a5 M5 c5] 28) = Z := ⟨_, rfl⟩
              obtain ⟨g5, hgg5⟩ : ∃ g, w5.heap.size = g := ⟨_, rfl⟩
              have HB5 : Hid (RB g5 ⟨er5, vl5, vr5, ns5⟩ Z5) := Lib.hid (by rw [← hZ5, ← hgg5]; exact RB.mk' _ hn5)
              have HM5 := Lib.hid (hM5.box #[.int .i64 er5, .string vl5, .int .i64 vr5, .slice a5 M5 c5] 28)
              rw [hZ5] at HM5
              have HB4b := Lib.hid ((HB4.out.two HM4.out hT5).on ((Below.refl _ _).alloc (Nat.le_refl _) (.cells #[.int .i64 er5, .string vl5, .int .i64 vr5, .slice a5 M5 c5] 28)))
              rw [hZ5] at HB4b
              have HC5 := Lib.hid ((HC4.out.two2 HM4.out HAP.out hT5).box #[.int .i64 er5, .string vl5, .int .i64 vr5, .slice a5 M5 c5] 28)
              rw [hZ5] at HC5
              clear HM4 HB4 HC4 hrd5 hM5 hT5 hR5 hn5 hMM5
              clear m0 m1 m2 m3 m4 m5 m6 m7 n0 n1 n2 n3 n4 n5 n6 n7
              obtain ⟨m0, m1, m2, m3, m4, m5, m6, m7⟩ := HCA.out Z5 HM5.out.lw.below
              simp only at m0 m1 m2 m3 m4 m5 m6 m7
              obtain ⟨n0, n1, n2, n3, n4, n5, n6, n7⟩ := HCBb.out Z5 HM5.out.lw.below
              simp only at n0 n1 n2 n3 n4 n5 n6 n7
              go_wp2_with fail
              try rw [hZ5]
              try rw [hgg5]
              clear hZ5 hgg5
              refine (mapply_any HC5.out HSM.out ⟨dl, dq, dop, dpa, dva, dver, dca, dcb⟩ r0 (.slice none 0 0) (Knd.Rd.nil _) (by simp [bad]) (by simp [bad]) (by omega) (show dpa.size ≤ 1000 by omega)).mono ?_
              have HLEN6 := Lib.hid HC5.out.lw.len
              obtain ⟨⟨⟨er6, vl6, vr6, ns6⟩, mc6⟩, hR6⟩ : ∃ R, appM mm ⟨dl, dq, dop, dpa, dva, dver, dca, dcb⟩ r0 = R := ⟨_, rfl⟩
              have HS6 : Hid (SmM mc6) := Lib.hid (by
                have h1 := HSM.out.app (by have := HLEN6.out; omega) ⟨dl, dq, dop, dpa, dva, dver, dca, dcb⟩ r0 (by simp [bad])
                rw [hR6] at h1
                exact h1)
              rw [hR6]
              have HE6 := Lib.hid hR6
              rintro e w6 ⟨v6, he, hrd6, hM6, hT6⟩
              have he := he.out
              subst he
              simp only at hrd6 hM6
              obtain ⟨a6, c6, hv6⟩ := hrd6.slice
              obtain ⟨M6, hMM6⟩ : ∃ M, ns6.length = M := ⟨_, rfl⟩
              rw [hMM6] at hv6
              subst hv6
              have HMM6 := Lib.hid hMM6
              have hn6 := skrd_nms hrd6
              obtain ⟨Z6, hZ6⟩ : ∃ Z, w6.alloc (.cells #[.int .i64 er6, .string vl6, .int .i64 vr6, .slice a6 M6 c6] 28) = Z := ⟨_, rfl⟩
              obtain ⟨g6, hgg6⟩ : ∃ g, w6.heap.size = g := ⟨_, rfl⟩
              have HB6 : Hid (RB g6 ⟨er6, vl6, vr6, ns6⟩ Z6) := Lib.hid (by rw [← hZ6, ← hgg6]; exact RB.mk' _ hn6)
              have HM6 := Lib.hid (hM6.box #[.int .i64 er6, .string vl6, .int .i64 vr6, .slice a6 M6 c6] 28)
              rw [hZ6] at HM6
              have HB4c := Lib.hid ((HB4b.out.two HC5.out hT6).on ((Below.refl _ _).alloc (Nat.le_refl _) (.cells #[.int .i64 er6, .string vl6, .int .i64 vr6, .slice a6 M6 c6] 28)))
              rw [hZ6] at HB4c
              have HB5b := Lib.hid ((HB5.out.two HC5.out hT6).on ((Below.refl _ _).alloc (Nat.le_refl _) (.cells #[.int .i64 er6, .string vl6, .int .i64 vr6, .slice a6 M6 c6] 28)))
              rw [hZ6] at HB5b
              have HG6 := Lib.hid ((HM5.out.two2 HC5.out HAP2.out hT6).box #[.int .i64 er6, .string vl6, .int .i64 vr6, .slice a6 M6 c6] 28)
              rw [hZ6] at HG6
              clear HC5 HB4b HB5 HM5 hrd6 hM6 hT6 hR6 hn6 hMM6
              clear m0 m1 m2 m3 m4 m5 m6 m7 n0 n1 n2 n3 n4 n5 n6 n7
              obtain ⟨m0, m1, m2, m3, m4, m5, m6, m7⟩ := HCA.out Z6 HM6.out.lw.below
              simp only at m0 m1 m2 m3 m4 m5 m6 m7
              obtain ⟨n0, n1, n2, n3, n4, n5, n6, n7⟩ := HCBb.out Z6 HM6.out.lw.below
              simp only at n0 n1 n2 n3 n4 n5 n6 n7
              go_wp2_with fail
              try rw [hZ6]
              try rw [hgg6]
              clear hZ6 hgg6
              refine (mapply_any HM6.out HS6.out ⟨cl, sq, op, pa, va, ver, ca, cb⟩ r0 (.slice none 0 0) (Knd.Rd.nil _) (by simp [bad]) (by simp [bad]) (by omega) (show pa.size ≤ 1000 by omega)).mono ?_
              have HLEN7 := Lib.hid HM6.out.lw.len
              obtain ⟨⟨⟨er7, vl7, vr7, ns7⟩, mc7⟩, hR7⟩ : ∃ R, appM mc6 ⟨cl, sq, op, pa, va, ver, ca, cb⟩ r0 = R := ⟨_, rfl⟩
              have HS7 : Hid (SmM mc7) := Lib.hid (by
                have h1 := HS6.out.app (by have := HLEN7.out; omega) ⟨cl, sq, op, pa, va, ver, ca, cb⟩ r0 (by simp [bad])
                rw [hR7] at h1
                exact h1)
              rw [hR7]
              have HE7 := Lib.hid hR7
              rintro e w7 ⟨v7, he, hrd7, hM7, hT7⟩
              have he := he.out
              subst he
              simp only at hrd7 hM7
              obtain ⟨a7, c7, hv7⟩ := hrd7.slice
              obtain ⟨M7, hMM7⟩ : ∃ M, ns7.length = M := ⟨_, rfl⟩
              rw [hMM7] at hv7
              subst hv7
              have HMM7 := Lib.hid hMM7
              have hn7 := skrd_nms hrd7
              obtain ⟨Z7, hZ7⟩ : ∃ Z, w7.alloc (.cells #[.int .i64 er7, .string vl7, .int .i64 vr7, .slice a7 M7 c7] 28) = Z := ⟨_, rfl⟩
              obtain ⟨g7, hgg7⟩ : ∃ g, w7.heap.size = g := ⟨_, rfl⟩
              have HB7 : Hid (RB g7 ⟨er7, vl7, vr7, ns7⟩ Z7) := Lib.hid (by rw [← hZ7, ← hgg7]; exact RB.mk' _ hn7)
              have HM7 := Lib.hid (hM7.box #[.int .i64 er7, .string vl7, .int .i64 vr7, .slice a7 M7 c7] 28)
              rw [hZ7] at HM7
              have HB4d := Lib.hid ((HB4c.out.two HM6.out hT7).on ((Below.refl _ _).alloc (Nat.le_refl _) (.cells #[.int .i64 er7, .string vl7, .int .i64 vr7, .slice a7 M7 c7] 28)))
              rw [hZ7] at HB4d
              have HB5c := Lib.hid ((HB5b.out.two HM6.out hT7).on ((Below.refl _ _).alloc (Nat.le_refl _) (.cells #[.int .i64 er7, .string vl7, .int .i64 vr7, .slice a7 M7 c7] 28)))
              rw [hZ7] at HB5c
              have HB6b := Lib.hid ((HB6.out.two HM6.out hT7).on ((Below.refl _ _).alloc (Nat.le_refl _) (.cells #[.int .i64 er7, .string vl7, .int .i64 vr7, .slice a7 M7 c7] 28)))
              rw [hZ7] at HB6b
              have HG7 := Lib.hid ((HG6.out.two2 HM6.out HAP2.out hT7).box #[.int .i64 er7, .string vl7, .int .i64 vr7, .slice a7 M7 c7] 28)
              rw [hZ7] at HG7
              clear HM6 HB4c HB5b HB6 HG6 hrd7 hM7 hT7 hR7 hn7 hMM7
              clear m0 m1 m2 m3 m4 m5 m6 m7 n0 n1 n2 n3 n4 n5 n6 n7
              have hq := swapM HR0.out ⟨cl, sq, op, pa, va, ver, ca, cb⟩ ⟨dl, dq, dop, dpa, dva, dver, dca, dcb⟩ r0 (by simp [bad]) HMT.out
              rw [HE4.out, HE6.out] at hq
              simp only at hq
              rw [HE5.out, HE7.out] at hq
              simp only [Rep.mk.injEq] at hq
              obtain ⟨⟨rfl, rfl, rfl, rfl⟩, ⟨rfl, rfl, rfl, rfl⟩, rfl⟩ := hq
              clear HE4 HE5 HE6 HE7 HMM4 HMM5 HMM6 HMM7
              have t40 := HB4d.out.c0
              have t41 := HB4d.out.c1
              have t42 := HB4d.out.c2
              simp only at t40 t41 t42
              obtain ⟨v43, t43, hn43⟩ := HB4d.out.c3
              simp only at hn43
              have HN43 := Lib.hid hn43
              clear hn43
              have t50 := HB5c.out.c0
              have t51 := HB5c.out.c1
              have t52 := HB5c.out.c2
              simp only at t50 t51 t52
              obtain ⟨v53, t53, hn53⟩ := HB5c.out.c3
              simp only at hn53
              have HN53 := Lib.hid hn53
              clear hn53
              have t60 := HB6b.out.c0
              have t61 := HB6b.out.c1
              have t62 := HB6b.out.c2
              simp only at t60 t61 t62
              obtain ⟨v63, t63, hn63⟩ := HB6b.out.c3
              simp only at hn63
              have HN63 := Lib.hid hn63
              clear hn63
              have t70 := HB7.out.c0
              have t71 := HB7.out.c1
              have t72 := HB7.out.c2
              simp only at t70 t71 t72
              obtain ⟨v73, t73, hn73⟩ := HB7.out.c3
              simp only at hn73
              have HN73 := Lib.hid hn73
              clear hn73
              go_wp2_with fail
              try rw [hZ7]
              try rw [hgg7]
              clear hZ7 hgg7
              refine (same_any ⟨_, _, _, _⟩ v43 v73 Z7 HN43.out HN73.out).mono ?_
              rintro e w8 ⟨rfl, hb⟩
              have HB5d := Lib.hid (HB5c.out.on hb)
              have HB6c := Lib.hid (HB6b.out.on hb)
              have HG8 := Lib.hid (HG7.out.on hb)
              have HE8 := Lib.hid (HM7.out.on hb)
              clear hb t40 t41 t42 t43 t50 t51 t52 t53 t60 t61 t62 t63 t70 t71 t72 t73 HN43 HN53 HN63 HN73 HB4d HB5c HB6b HB7 HG7 HM7
              have t50 := HB5d.out.c0
              have t51 := HB5d.out.c1
              have t52 := HB5d.out.c2
              simp only at t50 t51 t52
              obtain ⟨v54, t53, hn53⟩ := HB5d.out.c3
              simp only at hn53
              have HN53 := Lib.hid hn53
              clear hn53
              have t60 := HB6c.out.c0
              have t61 := HB6c.out.c1
              have t62 := HB6c.out.c2
              simp only at t60 t61 t62
              obtain ⟨v64, t63, hn63⟩ := HB6c.out.c3
              simp only at hn63
              have HN63 := Lib.hid hn63
              clear hn63
              go_wp2_with fail
              refine (same_any ⟨_, _, _, _⟩ v54 v64 w8 HN53.out HN63.out).mono ?_
              rintro e w9 ⟨rfl, hb⟩
              have HG9 := Lib.hid (HG8.out.on hb)
              have HE9 := Lib.hid (HE8.out.on hb)
              clear hb t50 t51 t52 t53 t60 t61 t62 t63 HN53 HN63 HB5d HB6c HG8 HE8
              go_wp2_with fail
              refine (msame_any HG9.out HE9.out HS7.out (by omega) (by omega)).mono ?_
              rintro e wa ⟨rfl, hb⟩
              have HGa := Lib.hid (HG9.out.on hb)
              clear hb HG9 HE9
              go_wp2
              go_ret
              exact ⟨rfl, HB.out.trans (HGa.out.lw.below.mono HB.out.size)⟩
end Go.Proofs.YtbebjpfbbidaiaaGreat
