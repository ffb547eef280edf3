/-
  A command takes effect once, however often it comes.
-/
import Derived.IntWalk
import Derived.Test.YtbebjpfbbidaiaaGreatSesF
namespace Go.Proofs.YtbebjpfbbidaiaaGreat
open Go.RowKit
set_option linter.unusedSimpArgs false
set_option linter.unusedVariables false

theorem same_err (ea : Int) (va : ByteArray) (na : Int) (a1 : Option Addr) (n1 c1 : Nat) (eb : Int) (vb : ByteArray) (nb : Int) (a2 : Option Addr) (n2 c2 : Nat) (w : World) (h : ea ≠ eb) :
    Calls Tryz.prog 19 #[.agg #[.int .i64 ea, .string va, .int .i64 na, .slice a1 n1 c1], .agg #[.int .i64 eb, .string vb, .int .i64 nb, .slice a2 n2 c2]] w fun e w' => e = .returned (.bool false) ∧ Below w.heap.size w w' := by
  have g2 : (ea != eb) = true := by simpa using h
  go_enter Tryz.func19, Tryz.ntmps19
  go_wp2
  go_ret
  exact ⟨rfl, ((Below.refl _ _).alloc (Nat.le_refl _) _).alloc (by simp) _⟩
/-- Has the client gone on, by this one? -/
def cnd (t c : Cm) : Bool := t.op != 0 && valS t.cl t.sq && (t.cl == c.cl) && decide (c.sq < t.sq)
def GoneI (m : Mac) (c : Cm) (G : Bool) (R : Rep) : Prop := ∃ q r, fndS m.s c.cl = some (q, r) ∧ ((G = true ∧ c.sq < q) ∨ (G = false ∧ q = c.sq ∧ r = R))
theorem act_some {s : List S3} {c : Cm} (h0 : c.op ≠ 0) (hv : valS c.cl c.sq = true) {q : Int} {r : Rep} (hf : fndS s c.cl = some (q, r)) : actM s c = if c.sq < q then some (bad 6) else if q = c.sq then some r else none := by
  unfold actM
  rw [if_neg h0, if_neg (by simp [hv]), hf]
theorem act_none {s : List S3} {c : Cm} (h0 : c.op ≠ 0) (hv : valS c.cl c.sq = true) (hf : fndS s c.cl = none) : actM s c = none := by
  unfold actM
  rw [if_neg h0, if_neg (by simp [hv]), hf]
theorem done_app {m : Mac} (h : RightM m) (c : Cm) (k : Rep) (hk : k.err ≠ 6) (ha : actM m.s c = none) : fndS (appM m c k).2.s c.cl = some (c.sq, (appM m c k).1) ∧ (appM m c k).1.err ≠ 6 := by
  refine ⟨by rw [fnd_app h, if_pos ⟨ha, rfl⟩], ?_⟩
  have e : appM m c k = doM m c k := by unfold appM; rw [ha]
  rw [e]
  unfold doM
  split
  · exact hk
  · exact app_err6 _ _ _ _ _
theorem gone_first {m m2 : Mac} (h : RightM m) (c : Cm) (h0 : c.op ≠ 0) (hv : valS c.cl c.sq = true) {R : Rep} (e : appM m c r0 = (R, m2)) : GoneI m2 c (R.err == 6) R := by
  cases hf : fndS m.s c.cl with
  | none =>
    have hd := done_app h c r0 (by simp [bad]) (act_none h0 hv hf)
    rw [e] at hd
    exact ⟨_, _, hd.1, .inr ⟨by simpa using hd.2, rfl, rfl⟩⟩
  | some x =>
    obtain ⟨q, r⟩ := x
    have ha := act_some h0 hv hf
    by_cases h1 : c.sq < q
    · rw [if_pos h1] at ha
      have e2 : appM m c r0 = (bad 6, m) := by unfold appM; rw [ha]
      rw [e2] at e
      obtain ⟨rfl, rfl⟩ := Prod.mk.inj e
      exact ⟨q, r, hf, .inl ⟨rfl, h1⟩⟩
    · rw [if_neg h1] at ha
      by_cases h2 : q = c.sq
      · rw [if_pos h2] at ha
        have e2 : appM m c r0 = (r, m) := by unfold appM; rw [ha]
        rw [e2] at e
        obtain ⟨rfl, rfl⟩ := Prod.mk.inj e
        have := h.err _ ((fndS_some h.rise).1 hf)
        exact ⟨q, r, hf, .inr ⟨by simpa using this, h2, rfl⟩⟩
      · rw [if_neg h2] at ha
        have hd := done_app h c r0 (by simp [bad]) ha
        rw [e] at hd
        exact ⟨_, _, hd.1, .inr ⟨by simpa using hd.2, rfl, rfl⟩⟩
theorem once_bad6 {m m2 : Mac} (h : RightM m) (c : Cm) {R : Rep} (e : appM m c r0 = (R, m2)) (h6 : R.err = 6) : R = bad 6 := by
  rcases app_rep m c r0 with ⟨r, ha, hb⟩ | ⟨ha, hb⟩
  · rw [e] at hb
    obtain ⟨rfl, rfl⟩ := Prod.mk.inj hb
    unfold actM at ha
    split at ha
    · cases ha; simp [bad] at h6
    · split at ha
      · cases ha; simp [bad] at h6
      · split at ha
        · rename_i q r hf
          split at ha
          · cases ha; rfl
          · split at ha
            · cases ha
              exact absurd h6 (h.err _ ((fndS_some h.rise).1 hf))
            · cases ha
        · cases ha
  · have hd := (done_app h c r0 (by simp [bad]) ha).2
    rw [e] at hd
    exact absurd h6 hd
theorem gone_step {m : Mac} (h : RightM m) {c : Cm} {G : Bool} {R : Rep} (hG : GoneI m c G R) (t : Cm) (k : Rep) : GoneI (appM m t k).2 c (G || cnd t c) R := by
  obtain ⟨q, r, hf, hq⟩ := hG
  have hle : c.sq ≤ q := by rcases hq with ⟨_, h1⟩ | ⟨_, h1, _⟩ <;> omega
  by_cases hd : actM m.s t = none ∧ t.cl = c.cl
  · have hv := act_val hd.1
    have hft : fndS m.s t.cl = some (q, r) := by rw [hd.2]; exact hf
    have ha := act_some hv.1 hv.2 hft
    rw [hd.1] at ha
    have h3 : q < t.sq := by
      by_cases h1 : t.sq < q
      · rw [if_pos h1] at ha; cases ha
      · rw [if_neg h1] at ha
        by_cases h2 : q = t.sq
        · rw [if_pos h2] at ha; cases ha
        · omega
    refine ⟨t.sq, (appM m t k).1, by rw [fnd_app h, if_pos hd], .inl ⟨?_, by omega⟩⟩
    have : c.sq < t.sq := by omega
    have hv2 := hv.2
    rw [hd.2] at hv2
    simp [cnd, hv.1, hv2, hd.2, this]
  · refine ⟨q, r, by rw [fnd_app h, if_neg hd]; exact hf, ?_⟩
    rcases hq with ⟨h1, h2⟩ | ⟨h1, h2, h3⟩
    · exact .inl ⟨by simp [h1], h2⟩
    · cases hc : cnd t c with
      | false => exact .inr ⟨by simp [h1], h2, h3⟩
      | true =>
        exfalso
        unfold cnd at hc
        simp only [Bool.and_eq_true, bne_iff_ne, beq_iff_eq, decide_eq_true_eq, ne_eq] at hc
        obtain ⟨⟨⟨g1, g2⟩, g3⟩, g4⟩ := hc
        have ha := act_some (s := m.s) g1 g2 (by rw [g3]; exact hf)
        rw [if_neg (by omega), if_neg (by omega)] at ha
        exact hd ⟨ha, g3⟩
theorem gone_last {m : Mac} {c : Cm} {G : Bool} {R : Rep} (hG : GoneI m c G R) (h0 : c.op ≠ 0) (hv : valS c.cl c.sq = true) (k : Rep) : appM m c k = (if G = true then bad 6 else R, m) := by
  obtain ⟨q, r, hf, hq⟩ := hG
  have ha := act_some h0 hv hf
  rcases hq with ⟨h1, h2⟩ | ⟨h1, h2, h3⟩
  · rw [if_pos h2] at ha
    unfold appM
    rw [ha, if_pos h1]
  · rw [if_neg (by omega), if_pos h2] at ha
    unfold appM
    rw [ha, if_neg (by simp [h1]), h3]
set_option maxRecDepth 100000 in
set_option maxHeartbeats 16000000 in
theorem sessionOnce_walk (a : Option Addr) (n c : Nat) (ts : List Cm) (cl sq op : Int) (pa va : ByteArray) (ver ca cb : Int) (ab : Option Addr) (nb cbb : Nat) (tsb : List Cm) (w : World) (hn : n = ts.length) (hC : CRd w a ts) (hnb : nb = tsb.length) (hCb : CRd w ab tsb) (hm : ML w) :
    Calls Tryz.prog 4 #[.slice a n c, cmdV cl sq op pa va ver ca cb, .slice ab nb cbb] w fun e w' => e = .returned (.bool true) ∧ Below w.heap.size w w' := by
  obtain ⟨X, hX⟩ : ∃ X, w.alloc (.cells #[.int .i64 cl, .int .i64 sq, .int .i64 op, .string pa, .string va, .int .i64 ver, .int .i64 ca, .int .i64 cb] 49) = X := ⟨_, rfl⟩
  have hB : Below w.heap.size w X := by rw [← hX]; exact (Below.refl _ _).alloc (Nat.le_refl _) _
  have hcb : CB w.heap.size ⟨cl, sq, op, pa, va, ver, ca, cb⟩ X := by rw [← hX]; exact CB.mk' ⟨cl, sq, op, pa, va, ver, ca, cb⟩ _ _
  obtain ⟨g0, hg0⟩ : ∃ g, w.heap.size = g := ⟨_, rfl⟩
  have HCB : Hid (∀ W, Below X.heap.size X W → CB g0 ⟨cl, sq, op, pa, va, ver, ca, cb⟩ W) := Lib.hid (fun W hW => hg0 ▸ hcb.low hW)
  clear hcb
  have HNb := Lib.hid hnb
  have HCb := Lib.hid (hCb.below hB)
  clear hnb hCb
  have HN := Lib.hid hn
  have HMX := Lib.hid (hm.below hB)
  have HC := Lib.hid (hC.below hB)
  have HB := Lib.hid hB
  clear hn hm hC hB
  go_enter Tryz.func4, Tryz.ntmps4
  go_wp2_with fail
  try rw [hX]
  try rw [hg0]
  have HG0 := Lib.hid hg0
  clear hX hg0
  refine (works9_any _ HMX.out).mono ?_
  rintro e w1 ⟨rfl, hb⟩
  have HB1 := Lib.hid hb
  have HM1 := Lib.hid (HMX.out.below hb)
  clear hb HMX
  go_wp2_with fail
  refine (over_any a n c ts w1 HN.out (HC.out.below HB1.out)).mono ?_
  rintro e w' ⟨rfl, rfl⟩
  obtain ⟨O, hO⟩ : ∃ O, ovB ts = O := ⟨_, rfl⟩
  rw [hO]
  have HO := Lib.hid hO
  clear hO
  cases O with
  | true =>
    go_wp2
    go_ret
    exact ⟨rfl, HB.out.trans (HB1.out.mono HB.out.size)⟩
  | false =>
    have hov := ovB_no HO.out
    have hn60 : n ≤ 60 := by have := HN.out; omega
    have HS := Lib.hid hov.2
    clear hov HO
    go_wp2_with fail
    refine (over_any ab nb cbb tsb w1 HNb.out (HCb.out.below HB1.out)).mono ?_
    rintro e w' ⟨rfl, rfl⟩
    obtain ⟨O2, hO2⟩ : ∃ O, ovB tsb = O := ⟨_, rfl⟩
    rw [hO2]
    have HO2 := Lib.hid hO2
    clear hO2
    cases O2 with
    | true =>
      go_wp2
      go_ret
      exact ⟨rfl, HB.out.trans (HB1.out.mono HB.out.size)⟩
    | false =>
      have hovb := ovB_no HO2.out
      have hn60b : nb ≤ 60 := by have := HNb.out; omega
      have HSb := Lib.hid hovb.2
      clear hovb HO2
      obtain ⟨m0, m1, m2, m3, m4, m5, m6, m7⟩ := HCB.out w1 HB1.out
      simp only at m0 m1 m2 m3 m4 m5 m6 m7
      go_wp2_with fail
      obtain ⟨Y1, hY1⟩ : ∃ Y, w1.alloc (.cells #[.int .i64 cl, .int .i64 sq, .int .i64 op, .string pa, .string va, .int .i64 ver, .int .i64 ca, .int .i64 cb] 49) = Y := ⟨_, rfl⟩
      obtain ⟨y1, hy1⟩ : ∃ y, w1.heap.size = y := ⟨_, rfl⟩
      have HBY : Hid (Below X.heap.size X Y1) := Lib.hid (by rw [← hY1]; exact HB1.out.alloc HB1.out.size _)
      have HMY : Hid (ML Y1) := Lib.hid (by rw [← hY1]; exact HM1.out.below ((Below.refl _ _).alloc (Nat.le_refl _) _))
      have HCY : Hid (CRd Y1 (some ⟨y1, 0, none⟩) [⟨cl, sq, op, pa, va, ver, ca, cb⟩]) := Lib.hid (by rw [← hY1, ← hy1]; exact crd_one ⟨cl, sq, op, pa, va, ver, ca, cb⟩ w1 _)
      rw [hY1, hy1]
      clear hY1 hy1 HB1 HM1
      refine (over_any _ 1 1 [⟨cl, sq, op, pa, va, ver, ca, cb⟩] Y1 rfl HCY.out).mono ?_
      rintro e w' ⟨rfl, rfl⟩
      obtain ⟨O2, hO2⟩ : ∃ O, ovB [⟨cl, sq, op, pa, va, ver, ca, cb⟩] = O := ⟨_, rfl⟩
      rw [hO2]
      have HO2 := Lib.hid hO2
      clear hO2 HCY
      cases O2 with
      | true =>
        go_wp2
        go_ret
        exact ⟨rfl, HB.out.trans (HBY.out.mono HB.out.size)⟩
      | false =>
        have hpa : pa.size ≤ 300 := (ovB_no HO2.out).2 0 (by simp) |>.1
        clear HO2
        clear m0 m1 m2 m3 m4 m5 m6 m7
        obtain ⟨m0, m1, m2, m3, m4, m5, m6, m7⟩ := HCB.out Y1 HBY.out
        simp only at m0 m1 m2 m3 m4 m5 m6 m7
        go_wp2_with fail
        refine (valid9_any cl sq op pa va ver ca cb Y1).mono ?_
        obtain ⟨V, hV⟩ : ∃ V, valS cl sq = V := ⟨_, rfl⟩
        rw [hV]
        have HV := Lib.hid hV
        clear hV
        rintro e w2 ⟨rfl, hb⟩
        have HB2 := Lib.hid (below_self HBY.out hb)
        have HM2 := Lib.hid (HMY.out.below hb)
        clear hb HBY HMY
        cases V with
        | false =>
          go_wp2
          go_ret
          exact ⟨rfl, HB.out.trans (HB2.out.mono HB.out.size)⟩
        | true =>
          clear m0 m1 m2 m3 m4 m5 m6 m7
          obtain ⟨m0, m1, m2, m3, m4, m5, m6, m7⟩ := HCB.out w2 HB2.out
          simp only at m0 m1 m2 m3 m4 m5 m6 m7
          by_cases h0 : op = 0
          · have q0 : (op == 0) = true := by simpa using h0
            clear h0
            go_wp2
            go_ret
            exact ⟨rfl, HB.out.trans (HB2.out.mono HB.out.size)⟩
          · have q0 : (op == 0) = false := by simpa using h0
            have HH0 := Lib.hid h0
            clear h0
            go_wp2_with fail
            refine (mnew_any HB2.out HM2.out).mono ?_
            rintro e w2b ⟨gM, d, bk, sb, he, hM⟩
            have he := he.out
            subst he
            have HK0 : Hid (MacAt X gM d bk sb 0 (runM ⟨[], []⟩ (ts.take 0) r0) w2b) := Lib.hid hM
            have HSM0 : Hid (SmM (runM ⟨[], []⟩ (ts.take 0) r0)) := Lib.hid SmM.empty
            clear hM HM2 HB2
            go_wp2_with fail
            clear m0 m1 m2 m3 m4 m5 m6 m7
            clear q0
            go_loopw [9] (fun i wr => ∃ k : Nat, k ≤ n ∧ i = .int .i64 k ∧ Hid (MacAt X gM d bk sb (k) (runM ⟨[], []⟩ (ts.take k) r0) wr) ∧ Hid (SmM (runM ⟨[], []⟩ (ts.take k) r0))) (fun i _ => n - (intOf i).toNat)
            case atStart => exact ⟨0, Nat.zero_le _, rfl, HK0, HSM0⟩
            case round =>
              clear HK0 HSM0
              obtain ⟨k, hk, rfl, hL, hS⟩ := hrel
              by_cases hlt : k < n
              · have hlt' : (k : Int) < (n : Int) := by omega
                have hkl : k < ts.length := by have := HN.out; omega
                rcases (HC.out.below hL.out.lw.below).2 with h0 | ⟨g, off, ha, hg, hcm⟩
                · exfalso
                  rw [h0] at hkl
                  simp at hkl
                have hcm1 := hcm k hkl
                have hsz := (HS.out k hkl).1
                have hrs := runM_succ ⟨[], []⟩ ts r0 k hkl
                obtain ⟨t, ht⟩ : ∃ t, ts.getD k default = t := ⟨_, rfl⟩
                rw [ht] at hcm1 hsz hrs
                have HP := Lib.hid (show t.pa.size ≤ 1000 by omega)
                have HRS := Lib.hid hrs
                obtain ⟨m0, m1, m2, m3, m4, m5, m6, m7⟩ := hcm1
                subst ha
                clear hcm ht hsz hrs hg
                go_wp2_with fail
                have HSN : Hid (SmM (runM ⟨[], []⟩ (ts.take (k + 1)) r0)) := Lib.hid (by
                  rw [HRS.out]
                  exact hS.out.app (by have := hL.out.lw.len; omega) t _ (by simp [bad]))
                refine (mapply_any hL.out hS.out t r0 (.slice none 0 0) (Knd.Rd.nil _) (by simp [bad]) (by simp [bad]) (by omega) HP.out).mono ?_
                rintro e w5 ⟨v5, he, ho, hL5, hT5⟩
                have he := he.out
                subst he
                rw [← HRS.out] at hL5
                have HL5 := Lib.hid hL5
                clear hL hS ho hL5 hT5 m0 m1 m2 m3 m4 m5 m6 m7
                go_wp2
                go_roundw
                case rel => exact ⟨k + 1, by omega, by go_num, HL5, HSN⟩
                case measure => simp [intOf]; omega
              · obtain rfl : n = k := by omega
                have hlt' : ¬ (n : Int) < (n : Int) := by omega
                obtain ⟨mm, hmm⟩ : ∃ lx, runM ⟨[], []⟩ (ts.take n) r0 = lx := ⟨_, rfl⟩
                rw [hmm] at hL hS
                have Hmm := Lib.hid hmm
                have HM : Hid (MacAt X gM d bk sb (60) mm wr) := Lib.hid (hL.out.mono (by omega))
                have HSM := hS
                clear hL hS hmm hlt
                have HR0 := Lib.hid HM.out.right
                obtain ⟨m0, m1, m2, m3, m4, m5, m6, m7⟩ := HCB.out wr HM.out.lw.below
                simp only at m0 m1 m2 m3 m4 m5 m6 m7
                go_wp2_with fail
                refine (mapply_any HM.out HSM.out ⟨cl, sq, op, pa, va, ver, ca, cb⟩ r0 (.slice none 0 0) (Knd.Rd.nil _) (by simp [bad]) (by simp [bad]) (by omega) (show pa.size ≤ 1000 by omega)).mono ?_
                have HLEN4 := Lib.hid HM.out.lw.len
                obtain ⟨⟨⟨er4, vl4, vr4, ns4⟩, mc4⟩, hR4⟩ : ∃ R, appM mm ⟨cl, sq, op, pa, va, ver, ca, cb⟩ r0 = R := ⟨_, rfl⟩
                have HS4 : Hid (SmM mc4) := Lib.hid (by
                  have h1 := HSM.out.app (by have := HLEN4.out; omega) ⟨cl, sq, op, pa, va, ver, ca, cb⟩ r0 (by simp [bad])
                  rw [hR4] at h1
                  exact h1)
                rw [hR4]
                have HE4 := Lib.hid hR4
                rintro e w4 ⟨v4, he, hrd4, hM4, hT4⟩
                have he := he.out
                subst he
                simp only at hrd4 hM4
                obtain ⟨a4, c4, hv4⟩ := hrd4.slice
                obtain ⟨M4, hMM4⟩ : ∃ M, ns4.length = M := ⟨_, rfl⟩
                rw [hMM4] at hv4
                subst hv4
                have HMM4 := Lib.hid hMM4
                have hn4 := skrd_nms hrd4
                obtain ⟨Z4, hZ4⟩ : ∃ Z, w4.alloc (.cells #[.int .i64 er4, .string vl4, .int .i64 vr4, .slice a4 M4 c4] 28) = Z := ⟨_, rfl⟩
                obtain ⟨g4, hgg4⟩ : ∃ g, w4.heap.size = g := ⟨_, rfl⟩
                have HB4 : Hid (RB g4 ⟨er4, vl4, vr4, ns4⟩ Z4) := Lib.hid (by rw [← hZ4, ← hgg4]; exact RB.mk' _ hn4)
                have HM4 := Lib.hid (hM4.box #[.int .i64 er4, .string vl4, .int .i64 vr4, .slice a4 M4 c4] 28)
                rw [hZ4] at HM4
                clear HM hrd4 hM4 hT4 hR4 hn4 hMM4
                clear m0 m1 m2 m3 m4 m5 m6 m7
                have HI4 : Hid (GoneI mc4 ⟨cl, sq, op, pa, va, ver, ca, cb⟩ (er4 == 6) ⟨er4, vl4, vr4, ns4⟩) := Lib.hid (gone_first HR0.out ⟨cl, sq, op, pa, va, ver, ca, cb⟩ HH0.out HV.out HE4.out)
                have HBAD : Hid (er4 = 6 → vl4 = v0 ∧ vr4 = 0 ∧ ns4 = []) := Lib.hid (fun h6 => by
                  have h1 := once_bad6 HR0.out ⟨cl, sq, op, pa, va, ver, ca, cb⟩ HE4.out h6
                  simp only [bad, Rep.mk.injEq] at h1
                  exact h1.2)
                clear HE4 HR0 HMM4
                obtain ⟨G0, hG0⟩ : ∃ G, (er4 == 6) = G := ⟨_, rfl⟩
                rw [hG0] at HI4
                have t40 := HB4.out.c0
                have t41 := HB4.out.c1
                have t42 := HB4.out.c2
                simp only at t40 t41 t42
                go_wp2_with fail
                try rw [hZ4]
                try rw [hgg4]
                clear hZ4 hgg4
                try rw [hG0]
                clear hG0 t40 t41 t42
                go_loopw [11, 12] (fun x i wr => ∃ (k : Nat) (G : Bool), k ≤ nb ∧ x = .bool G ∧ i = .int .i64 k ∧ Hid (MacAt X gM d bk sb (61 + k) (runM mc4 (tsb.take k) r0) wr) ∧ Hid (SmM (runM mc4 (tsb.take k) r0)) ∧ Hid (GoneI (runM mc4 (tsb.take k) r0) ⟨cl, sq, op, pa, va, ver, ca, cb⟩ G ⟨er4, vl4, vr4, ns4⟩) ∧ Hid (RB g4 ⟨er4, vl4, vr4, ns4⟩ wr)) (fun _ i _ => nb - (intOf i).toNat)
                case atStart => exact ⟨0, G0, Nat.zero_le _, rfl, rfl, HM4, HS4, HI4, HB4⟩
                case round =>
                  clear HM4 HS4 HI4 HB4
                  obtain ⟨k, G, hk, rfl, rfl, hL, hS, hI, hR⟩ := hrel
                  by_cases hlt : k < nb
                  · have hlt' : (k : Int) < (nb : Int) := by omega
                    have hkl : k < tsb.length := by have := HNb.out; omega
                    rcases (HCb.out.below hL.out.lw.below).2 with h0 | ⟨g, off, ha, hg, hcm⟩
                    · exfalso
                      rw [h0] at hkl
                      simp at hkl
                    have hsz := (HSb.out k hkl).1
                    have hrs := runM_succ mc4 tsb r0 k hkl
                    obtain ⟨t, ht⟩ : ∃ t, tsb.getD k default = t := ⟨_, rfl⟩
                    have HKL := Lib.hid hkl
                    have HCK : Hid (∀ W, Below X.heap.size X W → CmAt W g (off + k * 8) t) := Lib.hid (fun W hW => by
                      rcases (HCb.out.below hW).2 with h1 | ⟨g3, off3, ha3, _, hc3⟩
                      · exfalso
                        rw [h1] at hkl
                        simp at hkl
                      · rw [ha] at ha3
                        simp only [Option.some.injEq, Addr.mk.injEq, and_true] at ha3
                        obtain ⟨rfl, rfl⟩ := ha3
                        rw [← ht]
                        exact hc3 k hkl)
                    rw [ht] at hsz hrs
                    have HP := Lib.hid (show t.pa.size ≤ 1000 by omega)
                    subst ha
                    have HT := Lib.hid ht
                    clear hcm hsz hg ht hkl
                    obtain ⟨mk, hmk⟩ : ∃ x, runM mc4 (tsb.take k) r0 = x := ⟨_, rfl⟩
                    rw [hmk] at hL hS hI hrs
                    have HRS := Lib.hid hrs
                    have HRK := Lib.hid hL.out.right
                    clear hmk hrs
                    obtain ⟨m0, m1, m2, m3, m4, m5, m6, m7⟩ := HCK.out wr hL.out.lw.below
                    go_wp2_with fail
                    refine (mapply_any hL.out hS.out t r0 (.slice none 0 0) (Knd.Rd.nil _) (by simp [bad]) (by simp [bad]) (by omega) HP.out).mono ?_
                    have HLEN5 := Lib.hid hL.out.lw.len
                    obtain ⟨⟨⟨er5, vl5, vr5, ns5⟩, mc5⟩, hR5⟩ : ∃ R, appM mk t r0 = R := ⟨_, rfl⟩
                    have HS5 : Hid (SmM mc5) := Lib.hid (by
                      have h1 := hS.out.app (by have := HLEN5.out; omega) t r0 (by simp [bad])
                      rw [hR5] at h1
                      exact h1)
                    rw [hR5]
                    have HE5 := Lib.hid hR5
                    rintro e w5 ⟨v5, he, hrd5, hM5, hT5⟩
                    have he := he.out
                    subst he
                    simp only at hrd5 hM5
                    obtain ⟨a5, c5, hv5⟩ := hrd5.slice
                    obtain ⟨M5, hMM5⟩ : ∃ M, ns5.length = M := ⟨_, rfl⟩
                    rw [hMM5] at hv5
                    subst hv5
                    have HMM5 := Lib.hid hMM5
                    have hn5 := skrd_nms hrd5
                    have HM5 := Lib.hid hM5
                    have HR5 := Lib.hid (hR.out.two hL.out hT5)
                    clear hL hR hrd5 hM5 hT5 hR5 hn5 hMM5
                    clear m0 m1 m2 m3 m4 m5 m6 m7
                    have HRN : Hid (runM mc4 (tsb.take (k + 1)) r0 = mc5) := Lib.hid (by rw [HRS.out, HE5.out])
                    have HGN : Hid (GoneI mc5 ⟨cl, sq, op, pa, va, ver, ca, cb⟩ (G || cnd t ⟨cl, sq, op, pa, va, ver, ca, cb⟩) ⟨er4, vl4, vr4, ns4⟩) := Lib.hid (by
                      have h0 := gone_step HRK.out hI.out t r0
                      rw [HE5.out] at h0
                      exact h0)
                    have HK17 : Hid (∀ w', Below w5.heap.size w5 w' → w'.cell? ⟨g, off + k * 8, none⟩ = some (.int .i64 t.cl) ∧ w'.cell? ⟨g, off + k * 8 + 1, none⟩ = some (.int .i64 t.sq) ∧ w'.cell? ⟨g, off + k * 8 + 2, none⟩ = some (.int .i64 t.op) ∧ w'.cell? ⟨g, off + k * 8 + 3, none⟩ = some (.string t.pa) ∧ w'.cell? ⟨g, off + k * 8 + 4, none⟩ = some (.string t.va) ∧ w'.cell? ⟨g, off + k * 8 + 5, none⟩ = some (.int .i64 t.ver) ∧ w'.cell? ⟨g, off + k * 8 + 6, none⟩ = some (.int .i64 t.a) ∧ w'.cell? ⟨g, off + k * 8 + 7, none⟩ = some (.int .i64 t.b) ∧ w'.cell? ⟨g0, 0, none⟩ = some (.int .i64 cl) ∧ w'.cell? ⟨g0, 1, none⟩ = some (.int .i64 sq) ∧ Below w5.heap.size w5 w') := Lib.hid (fun w' hb => by
                      have h1 := HCK.out w' (HM5.out.on hb).lw.below
                      have h2 := HCB.out w' (HM5.out.on hb).lw.below
                      unfold CmAt at h1
                      exact ⟨h1.1, h1.2.1, h1.2.2.1, h1.2.2.2.1, h1.2.2.2.2.1, h1.2.2.2.2.2.1, h1.2.2.2.2.2.2.1, h1.2.2.2.2.2.2.2, h2.c0, h2.c1, hb⟩)
                    have HVT : Hid (∀ W, Calls Tryz.prog 20 #[.agg #[.int .i64 t.cl, .int .i64 t.sq, .int .i64 t.op, .string t.pa, .string t.va, .int .i64 t.ver, .int .i64 t.a, .int .i64 t.b]] W fun e w' => e = .returned (.bool (valS t.cl t.sq)) ∧ Below W.heap.size W w') := Lib.hid (fun W => valid9_any t.cl t.sq t.op t.pa t.va t.ver t.a t.b W)
                    clear HE5 HRS HRK hI HCK HMM5 HP HT
                    go_wp2_with fail
                    cases G with
                    | true =>
                      clear HVT
                      refine wp_region_held_drew (S := (fun w' => w'.cell? ⟨g, off + k * 8, none⟩ = some (.int .i64 t.cl) ∧ w'.cell? ⟨g, off + k * 8 + 1, none⟩ = some (.int .i64 t.sq) ∧ w'.cell? ⟨g, off + k * 8 + 2, none⟩ = some (.int .i64 t.op) ∧ w'.cell? ⟨g, off + k * 8 + 3, none⟩ = some (.string t.pa) ∧ w'.cell? ⟨g, off + k * 8 + 4, none⟩ = some (.string t.va) ∧ w'.cell? ⟨g, off + k * 8 + 5, none⟩ = some (.int .i64 t.ver) ∧ w'.cell? ⟨g, off + k * 8 + 6, none⟩ = some (.int .i64 t.a) ∧ w'.cell? ⟨g, off + k * 8 + 7, none⟩ = some (.int .i64 t.b) ∧ w'.cell? ⟨g0, 0, none⟩ = some (.int .i64 cl) ∧ w'.cell? ⟨g0, 1, none⟩ = some (.int .i64 sq) ∧ Below w5.heap.size w5 w')) (by kernel_rfl) ?_ (fun hHeld => ?_)
                      · ((first
                        | exact HK17.out _ (Below.refl _ _)
                        | exact HK17.out _ (Below.refl _ _).drew
                        | exact HK17.out _ hb8
                        | fail))
                      refine wpAnyH_take (i := 0) (v := ?_) rfl (by kernel_rfl) (by kernel_rfl) (by kernel_rfl) (fun _ _ _ h => h) (Or.inl ⟨by rfl, ?_⟩) (by assumption) ?_
                      rotate_left
                      · (intro w hSw; (try dsimp only at hSw); go_simp; try rfl)
                      try simp only [Act.put, List.setIfInBounds_toArray, List.set_cons_zero, List.set_cons_succ, List.getElem_toArray, List.getElem_cons_zero, List.getElem_cons_succ]
                      refine wpAnyH_take (i := 1) (v := ?_) rfl (by kernel_rfl) (by kernel_rfl) (by kernel_rfl) (fun _ _ _ h => h) (Or.inl ⟨by rfl, ?_⟩) (by assumption) ?_
                      rotate_left
                      · (intro w hSw; (try dsimp only at hSw); go_simp; try rfl)
                      try simp only [Act.put, List.setIfInBounds_toArray, List.set_cons_zero, List.set_cons_succ, List.getElem_toArray, List.getElem_cons_zero, List.getElem_cons_succ]
                      refine wpAnyH_take (i := 2) (v := undef) rfl (by kernel_rfl) (by kernel_rfl) (by kernel_rfl) (fun _ _ _ h => h) (Or.inr ⟨by rfl, rfl⟩) (by assumption) ?_
                      try simp only [Act.put, List.setIfInBounds_toArray, List.set_cons_zero, List.set_cons_succ, List.getElem_toArray, List.getElem_cons_zero, List.getElem_cons_succ]
                      refine wpAnyH_take (i := 3) (v := undef) rfl (by kernel_rfl) (by kernel_rfl) (by kernel_rfl) (fun _ _ _ h => h) (Or.inr ⟨by rfl, rfl⟩) (by assumption) ?_
                      try simp only [Act.put, List.setIfInBounds_toArray, List.set_cons_zero, List.set_cons_succ, List.getElem_toArray, List.getElem_cons_zero, List.getElem_cons_succ]
                      refine wpAnyH_take (i := 4) (v := undef) rfl (by kernel_rfl) (by kernel_rfl) (by kernel_rfl) (fun _ _ _ h => h) (Or.inr ⟨by rfl, rfl⟩) (by assumption) ?_
                      try simp only [Act.put, List.setIfInBounds_toArray, List.set_cons_zero, List.set_cons_succ, List.getElem_toArray, List.getElem_cons_zero, List.getElem_cons_succ]
                      refine wpAnyH_take (i := 5) (v := undef) rfl (by kernel_rfl) (by kernel_rfl) (by kernel_rfl) (fun _ _ _ h => h) (Or.inr ⟨by rfl, rfl⟩) (by assumption) ?_
                      try simp only [Act.put, List.setIfInBounds_toArray, List.set_cons_zero, List.set_cons_succ, List.getElem_toArray, List.getElem_cons_zero, List.getElem_cons_succ]
                      refine wpAnyH_take (i := 6) (v := undef) rfl (by kernel_rfl) (by kernel_rfl) (by kernel_rfl) (fun _ _ _ h => h) (Or.inr ⟨by rfl, rfl⟩) (by assumption) ?_
                      try simp only [Act.put, List.setIfInBounds_toArray, List.set_cons_zero, List.set_cons_succ, List.getElem_toArray, List.getElem_cons_zero, List.getElem_cons_succ]
                      refine wpAnyH_take (i := 7) (v := undef) rfl (by kernel_rfl) (by kernel_rfl) (by kernel_rfl) (fun _ _ _ h => h) (Or.inr ⟨by rfl, rfl⟩) (by assumption) ?_
                      try simp only [Act.put, List.setIfInBounds_toArray, List.set_cons_zero, List.set_cons_succ, List.getElem_toArray, List.getElem_cons_zero, List.getElem_cons_succ]
                      refine wpAnyH_take (i := 8) (v := undef) rfl (by kernel_rfl) (by kernel_rfl) (by kernel_rfl) (fun _ _ _ h => h) (Or.inr ⟨by rfl, rfl⟩) (by assumption) ?_
                      try simp only [Act.put, List.setIfInBounds_toArray, List.set_cons_zero, List.set_cons_succ, List.getElem_toArray, List.getElem_cons_zero, List.getElem_cons_succ]
                      refine wpAnyH_take (i := 9) (v := undef) rfl (by kernel_rfl) (by kernel_rfl) (by kernel_rfl) (fun _ _ _ h => h) (Or.inr ⟨by rfl, rfl⟩) (by assumption) ?_
                      try simp only [Act.put, List.setIfInBounds_toArray, List.set_cons_zero, List.set_cons_succ, List.getElem_toArray, List.getElem_cons_zero, List.getElem_cons_succ]
                      refine wpAnyH_take (i := 10) (v := undef) rfl (by kernel_rfl) (by kernel_rfl) (by kernel_rfl) (fun _ _ _ h => h) (Or.inr ⟨by rfl, rfl⟩) (by assumption) ?_
                      try simp only [Act.put, List.setIfInBounds_toArray, List.set_cons_zero, List.set_cons_succ, List.getElem_toArray, List.getElem_cons_zero, List.getElem_cons_succ]
                      refine wpAnyH_take (i := 11) (v := undef) rfl (by kernel_rfl) (by kernel_rfl) (by kernel_rfl) (fun _ _ _ h => h) (Or.inr ⟨by rfl, rfl⟩) (by assumption) ?_
                      try simp only [Act.put, List.setIfInBounds_toArray, List.set_cons_zero, List.set_cons_succ, List.getElem_toArray, List.getElem_cons_zero, List.getElem_cons_succ]
                      refine wpAnyH_take (i := 12) (v := undef) rfl (by kernel_rfl) (by kernel_rfl) (by kernel_rfl) (fun _ _ _ h => h) (Or.inr ⟨by rfl, rfl⟩) (by assumption) ?_
                      try simp only [Act.put, List.setIfInBounds_toArray, List.set_cons_zero, List.set_cons_succ, List.getElem_toArray, List.getElem_cons_zero, List.getElem_cons_succ]
                      refine wpAnyH_take (i := 13) (v := undef) rfl (by kernel_rfl) (by kernel_rfl) (by kernel_rfl) (fun _ _ _ h => h) (Or.inr ⟨by rfl, rfl⟩) (by assumption) ?_
                      try simp only [Act.put, List.setIfInBounds_toArray, List.set_cons_zero, List.set_cons_succ, List.getElem_toArray, List.getElem_cons_zero, List.getElem_cons_succ]
                      refine wpAnyH_take (i := 14) (v := undef) rfl (by kernel_rfl) (by kernel_rfl) (by kernel_rfl) (fun _ _ _ h => h) (Or.inr ⟨by rfl, rfl⟩) (by assumption) ?_
                      try simp only [Act.put, List.setIfInBounds_toArray, List.set_cons_zero, List.set_cons_succ, List.getElem_toArray, List.getElem_cons_zero, List.getElem_cons_succ]
                      refine wpAnyH_take (i := 15) (v := undef) rfl (by kernel_rfl) (by kernel_rfl) (by kernel_rfl) (fun _ _ _ h => h) (Or.inr ⟨by rfl, rfl⟩) (by assumption) ?_
                      try simp only [Act.put, List.setIfInBounds_toArray, List.set_cons_zero, List.set_cons_succ, List.getElem_toArray, List.getElem_cons_zero, List.getElem_cons_succ]
                      refine wpAnyH_take (i := 16) (v := undef) rfl (by kernel_rfl) (by kernel_rfl) (by kernel_rfl) (fun _ _ _ h => h) (Or.inr ⟨by rfl, rfl⟩) (by assumption) ?_
                      try simp only [Act.put, List.setIfInBounds_toArray, List.set_cons_zero, List.set_cons_succ, List.getElem_toArray, List.getElem_cons_zero, List.getElem_cons_succ]
                      refine wpAnyH_take (i := 17) (v := undef) rfl (by kernel_rfl) (by kernel_rfl) (by kernel_rfl) (fun _ _ _ h => h) (Or.inr ⟨by rfl, rfl⟩) (by assumption) ?_
                      try simp only [Act.put, List.setIfInBounds_toArray, List.set_cons_zero, List.set_cons_succ, List.getElem_toArray, List.getElem_cons_zero, List.getElem_cons_succ]
                      refine wpAnyH_take (i := 18) (v := undef) rfl (by kernel_rfl) (by kernel_rfl) (by kernel_rfl) (fun _ _ _ h => h) (Or.inr ⟨by rfl, rfl⟩) (by assumption) ?_
                      try simp only [Act.put, List.setIfInBounds_toArray, List.set_cons_zero, List.set_cons_succ, List.getElem_toArray, List.getElem_cons_zero, List.getElem_cons_succ]
                      refine wpAnyH_take (i := 19) (v := undef) rfl (by kernel_rfl) (by kernel_rfl) (by kernel_rfl) (fun _ _ _ h => h) (Or.inr ⟨by rfl, rfl⟩) (by assumption) ?_
                      try simp only [Act.put, List.setIfInBounds_toArray, List.set_cons_zero, List.set_cons_succ, List.getElem_toArray, List.getElem_cons_zero, List.getElem_cons_succ]
                      refine wpAnyH_take (i := 20) (v := undef) rfl (by kernel_rfl) (by kernel_rfl) (by kernel_rfl) (fun _ _ _ h => h) (Or.inr ⟨by rfl, rfl⟩) (by assumption) ?_
                      try simp only [Act.put, List.setIfInBounds_toArray, List.set_cons_zero, List.set_cons_succ, List.getElem_toArray, List.getElem_cons_zero, List.getElem_cons_succ]
                      refine wpAnyH_take (i := 21) (v := undef) rfl (by kernel_rfl) (by kernel_rfl) (by kernel_rfl) (fun _ _ _ h => h) (Or.inr ⟨by rfl, rfl⟩) (by assumption) ?_
                      try simp only [Act.put, List.setIfInBounds_toArray, List.set_cons_zero, List.set_cons_succ, List.getElem_toArray, List.getElem_cons_zero, List.getElem_cons_succ]
                      refine wpAnyH_take (i := 22) (v := undef) rfl (by kernel_rfl) (by kernel_rfl) (by kernel_rfl) (fun _ _ _ h => h) (Or.inr ⟨by rfl, rfl⟩) (by assumption) ?_
                      try simp only [Act.put, List.setIfInBounds_toArray, List.set_cons_zero, List.set_cons_succ, List.getElem_toArray, List.getElem_cons_zero, List.getElem_cons_succ]
                      refine wpAnyH_take (i := 23) (v := undef) rfl (by kernel_rfl) (by kernel_rfl) (by kernel_rfl) (fun _ _ _ h => h) (Or.inr ⟨by rfl, rfl⟩) (by assumption) ?_
                      try simp only [Act.put, List.setIfInBounds_toArray, List.set_cons_zero, List.set_cons_succ, List.getElem_toArray, List.getElem_cons_zero, List.getElem_cons_succ]
                      refine wpAnyH_take (i := 24) (v := undef) rfl (by kernel_rfl) (by kernel_rfl) (by kernel_rfl) (fun _ _ _ h => h) (Or.inr ⟨by rfl, rfl⟩) (by assumption) ?_
                      try simp only [Act.put, List.setIfInBounds_toArray, List.set_cons_zero, List.set_cons_succ, List.getElem_toArray, List.getElem_cons_zero, List.getElem_cons_succ]
                      refine wpAnyH_take (i := 25) (v := undef) rfl (by kernel_rfl) (by kernel_rfl) (by kernel_rfl) (fun _ _ _ h => h) (Or.inr ⟨by rfl, rfl⟩) (by assumption) ?_
                      try simp only [Act.put, List.setIfInBounds_toArray, List.set_cons_zero, List.set_cons_succ, List.getElem_toArray, List.getElem_cons_zero, List.getElem_cons_succ]
                      refine wpAnyH_take (i := 26) (v := undef) rfl (by kernel_rfl) (by kernel_rfl) (by kernel_rfl) (fun _ _ _ h => h) (Or.inr ⟨by rfl, rfl⟩) (by assumption) ?_
                      try simp only [Act.put, List.setIfInBounds_toArray, List.set_cons_zero, List.set_cons_succ, List.getElem_toArray, List.getElem_cons_zero, List.getElem_cons_succ]
                      refine wpAnyH_take (i := 27) (v := undef) rfl (by kernel_rfl) (by kernel_rfl) (by kernel_rfl) (fun _ _ _ h => h) (Or.inr ⟨by rfl, rfl⟩) (by assumption) ?_
                      try simp only [Act.put, List.setIfInBounds_toArray, List.set_cons_zero, List.set_cons_succ, List.getElem_toArray, List.getElem_cons_zero, List.getElem_cons_succ]
                      refine wpAnyH_take (i := 28) (v := undef) rfl (by kernel_rfl) (by kernel_rfl) (by kernel_rfl) (fun _ _ _ h => h) (Or.inr ⟨by rfl, rfl⟩) (by assumption) ?_
                      try simp only [Act.put, List.setIfInBounds_toArray, List.set_cons_zero, List.set_cons_succ, List.getElem_toArray, List.getElem_cons_zero, List.getElem_cons_succ]
                      refine wpAnyH_take (i := 29) (v := undef) rfl (by kernel_rfl) (by kernel_rfl) (by kernel_rfl) (fun _ _ _ h => h) (Or.inr ⟨by rfl, rfl⟩) (by assumption) ?_
                      try simp only [Act.put, List.setIfInBounds_toArray, List.set_cons_zero, List.set_cons_succ, List.getElem_toArray, List.getElem_cons_zero, List.getElem_cons_succ]
                      refine wpAnyH_take (i := 30) (v := undef) rfl (by kernel_rfl) (by kernel_rfl) (by kernel_rfl) (fun _ _ _ h => h) (Or.inr ⟨by rfl, rfl⟩) (by assumption) ?_
                      try simp only [Act.put, List.setIfInBounds_toArray, List.set_cons_zero, List.set_cons_succ, List.getElem_toArray, List.getElem_cons_zero, List.getElem_cons_succ]
                      refine wpAnyH_take (i := 31) (v := undef) rfl (by kernel_rfl) (by kernel_rfl) (by kernel_rfl) (fun _ _ _ h => h) (Or.inr ⟨by rfl, rfl⟩) (by assumption) ?_
                      try simp only [Act.put, List.setIfInBounds_toArray, List.set_cons_zero, List.set_cons_succ, List.getElem_toArray, List.getElem_cons_zero, List.getElem_cons_succ]
                      refine wpAnyH_take (i := 32) (v := undef) rfl (by kernel_rfl) (by kernel_rfl) (by kernel_rfl) (fun _ _ _ h => h) (Or.inr ⟨by rfl, rfl⟩) (by assumption) ?_
                      try simp only [Act.put, List.setIfInBounds_toArray, List.set_cons_zero, List.set_cons_succ, List.getElem_toArray, List.getElem_cons_zero, List.getElem_cons_succ]
                      refine wpAnyH_take (i := 33) (v := undef) rfl (by kernel_rfl) (by kernel_rfl) (by kernel_rfl) (fun _ _ _ h => h) (Or.inr ⟨by rfl, rfl⟩) (by assumption) ?_
                      try simp only [Act.put, List.setIfInBounds_toArray, List.set_cons_zero, List.set_cons_succ, List.getElem_toArray, List.getElem_cons_zero, List.getElem_cons_succ]
                      refine wpAnyH_take (i := 34) (v := undef) rfl (by kernel_rfl) (by kernel_rfl) (by kernel_rfl) (fun _ _ _ h => h) (Or.inr ⟨by rfl, rfl⟩) (by assumption) ?_
                      try simp only [Act.put, List.setIfInBounds_toArray, List.set_cons_zero, List.set_cons_succ, List.getElem_toArray, List.getElem_cons_zero, List.getElem_cons_succ]
                      refine wpAnyH_take (i := 35) (v := ?_) rfl (by kernel_rfl) (by kernel_rfl) (by kernel_rfl) (fun _ _ _ h => h) (Or.inl ⟨by rfl, ?_⟩) (by assumption) ?_
                      rotate_left
                      · (intro w hSw; (try dsimp only at hSw); go_simp; try rfl)
                      try simp only [Act.put, List.setIfInBounds_toArray, List.set_cons_zero, List.set_cons_succ, List.getElem_toArray, List.getElem_cons_zero, List.getElem_cons_succ]
                      refine wpAnyH_take (i := 36) (v := ?_) rfl (by kernel_rfl) (by kernel_rfl) (by kernel_rfl) (fun _ _ _ h => h) (Or.inl ⟨by rfl, ?_⟩) (by assumption) ?_
                      rotate_left
                      · (intro w hSw; (try dsimp only at hSw); go_simp; try rfl)
                      try simp only [Act.put, List.setIfInBounds_toArray, List.set_cons_zero, List.set_cons_succ, List.getElem_toArray, List.getElem_cons_zero, List.getElem_cons_succ]
                      refine wpAnyH_done (by kernel_rfl) ?_ _
                      go_split_ands
                      obtain ⟨w8, hw8⟩ : ∃ W', w5.drew = W' := ⟨_, rfl⟩
                      have hb8 : Below w5.heap.size w5 w8 := by rw [← hw8]; exact (Below.refl _ _).drew
                      rw [hw8]
                      clear hw8
                      have HL8 : Hid (MacAt X gM d bk sb (61 + k + 1) (runM mc4 (tsb.take (k + 1)) r0) w8) := Lib.hid (by rw [HRN.out]; exact HM5.out.on hb8)
                      have HS8 : Hid (SmM (runM mc4 (tsb.take (k + 1)) r0)) := Lib.hid (by rw [HRN.out]; exact HS5.out)
                      have HR8 := Lib.hid (HR5.out.on hb8)
                      have HI8 : Hid (GoneI (runM mc4 (tsb.take (k + 1)) r0) ⟨cl, sq, op, pa, va, ver, ca, cb⟩ true ⟨er4, vl4, vr4, ns4⟩) := Lib.hid (by
                        have h0 := HGN.out
                        rw [HRN.out]
                        simp only [Bool.true_or] at h0
                        exact h0)
                      clear HK17
                      try clear hb
                      clear hb8 HM5 HS5 HR5 HGN HRN
                      go_wp2
                      go_roundw
                      case rel => exact ⟨k + 1, true, by omega, rfl, by go_num, HL8, HS8, HI8, HR8⟩
                      case measure => simp [intOf]; omega
                    | false =>
                      by_cases h0 : t.op = 0
                      · have z0 : (t.op != 0) = false := by simp [h0]
                        have Z0 := Lib.hid z0
                        clear h0 HVT
                        refine wp_region_held_drew (S := (fun w' => w'.cell? ⟨g, off + k * 8, none⟩ = some (.int .i64 t.cl) ∧ w'.cell? ⟨g, off + k * 8 + 1, none⟩ = some (.int .i64 t.sq) ∧ w'.cell? ⟨g, off + k * 8 + 2, none⟩ = some (.int .i64 t.op) ∧ w'.cell? ⟨g, off + k * 8 + 3, none⟩ = some (.string t.pa) ∧ w'.cell? ⟨g, off + k * 8 + 4, none⟩ = some (.string t.va) ∧ w'.cell? ⟨g, off + k * 8 + 5, none⟩ = some (.int .i64 t.ver) ∧ w'.cell? ⟨g, off + k * 8 + 6, none⟩ = some (.int .i64 t.a) ∧ w'.cell? ⟨g, off + k * 8 + 7, none⟩ = some (.int .i64 t.b) ∧ w'.cell? ⟨g0, 0, none⟩ = some (.int .i64 cl) ∧ w'.cell? ⟨g0, 1, none⟩ = some (.int .i64 sq) ∧ Below w5.heap.size w5 w')) (by kernel_rfl) ?_ (fun hHeld => ?_)
                        · ((first
                          | exact HK17.out _ (Below.refl _ _)
                          | exact HK17.out _ (Below.refl _ _).drew
                          | exact HK17.out _ hb8
                          | fail))
                        refine wpAnyH_take (i := 0) (v := ?_) rfl (by kernel_rfl) (by kernel_rfl) (by kernel_rfl) (fun _ _ _ h => h) (Or.inl ⟨by rfl, ?_⟩) (by assumption) ?_
                        rotate_left
                        · (intro w hSw; (try dsimp only at hSw); go_simp; try rfl)
                        try simp only [Act.put, List.setIfInBounds_toArray, List.set_cons_zero, List.set_cons_succ, List.getElem_toArray, List.getElem_cons_zero, List.getElem_cons_succ]
                        refine wpAnyH_take (i := 1) (v := ?_) rfl (by kernel_rfl) (by kernel_rfl) (by kernel_rfl) (fun _ _ _ h => h) (Or.inl ⟨by rfl, ?_⟩) (by assumption) ?_
                        rotate_left
                        · (intro w hSw; (try dsimp only at hSw); go_simp; try rfl)
                        try simp only [Act.put, List.setIfInBounds_toArray, List.set_cons_zero, List.set_cons_succ, List.getElem_toArray, List.getElem_cons_zero, List.getElem_cons_succ]
                        refine wpAnyH_take (i := 2) (v := ?_) rfl (by kernel_rfl) (by kernel_rfl) (by kernel_rfl) (fun _ _ _ h => h) (Or.inl ⟨by rfl, ?_⟩) (by assumption) ?_
                        rotate_left
                        · (intro w hSw; (try dsimp only at hSw); go_simp; try rfl)
                        try simp only [Act.put, List.setIfInBounds_toArray, List.set_cons_zero, List.set_cons_succ, List.getElem_toArray, List.getElem_cons_zero, List.getElem_cons_succ]
                        refine wpAnyH_take (i := 3) (v := ?_) rfl (by kernel_rfl) (by kernel_rfl) (by kernel_rfl) (fun _ _ _ h => h) (Or.inl ⟨by rfl, ?_⟩) (by assumption) ?_
                        rotate_left
                        · (intro w hSw; (try dsimp only at hSw); go_simp; try rfl)
                        try simp only [Act.put, List.setIfInBounds_toArray, List.set_cons_zero, List.set_cons_succ, List.getElem_toArray, List.getElem_cons_zero, List.getElem_cons_succ]
                        refine wpAnyH_take (i := 4) (v := ?_) rfl (by kernel_rfl) (by kernel_rfl) (by kernel_rfl) (fun _ _ _ h => h) (Or.inl ⟨by rfl, ?_⟩) (by assumption) ?_
                        rotate_left
                        · (intro w hSw; (try dsimp only at hSw); go_simp; try rfl)
                        try simp only [Act.put, List.setIfInBounds_toArray, List.set_cons_zero, List.set_cons_succ, List.getElem_toArray, List.getElem_cons_zero, List.getElem_cons_succ]
                        refine wpAnyH_take (i := 5) (v := ?_) rfl (by kernel_rfl) (by kernel_rfl) (by kernel_rfl) (fun _ _ _ h => h) (Or.inl ⟨by rfl, ?_⟩) (by assumption) ?_
                        rotate_left
                        · (intro w hSw; (try dsimp only at hSw); go_simp; try rfl)
                        try simp only [Act.put, List.setIfInBounds_toArray, List.set_cons_zero, List.set_cons_succ, List.getElem_toArray, List.getElem_cons_zero, List.getElem_cons_succ]
                        refine wpAnyH_take (i := 6) (v := ?_) rfl (by kernel_rfl) (by kernel_rfl) (by kernel_rfl) (fun _ _ _ h => h) (Or.inl ⟨by rfl, ?_⟩) (by assumption) ?_
                        rotate_left
                        · (intro w hSw; (try dsimp only at hSw); go_simp; try rfl)
                        try simp only [Act.put, List.setIfInBounds_toArray, List.set_cons_zero, List.set_cons_succ, List.getElem_toArray, List.getElem_cons_zero, List.getElem_cons_succ]
                        refine wpAnyH_take (i := 7) (v := ?_) rfl (by kernel_rfl) (by kernel_rfl) (by kernel_rfl) (fun _ _ _ h => h) (Or.inl ⟨by rfl, ?_⟩) (by assumption) ?_
                        rotate_left
                        · (intro w hSw; (try dsimp only at hSw); go_simp; try rfl)
                        try simp only [Act.put, List.setIfInBounds_toArray, List.set_cons_zero, List.set_cons_succ, List.getElem_toArray, List.getElem_cons_zero, List.getElem_cons_succ]
                        refine wpAnyH_take (i := 8) (v := ?_) rfl (by kernel_rfl) (by kernel_rfl) (by kernel_rfl) (fun _ _ _ h => h) (Or.inl ⟨by rfl, ?_⟩) (by assumption) ?_
                        rotate_left
                        · (intro w hSw; (try dsimp only at hSw); go_simp; try rfl)
                        try simp only [Act.put, List.setIfInBounds_toArray, List.set_cons_zero, List.set_cons_succ, List.getElem_toArray, List.getElem_cons_zero, List.getElem_cons_succ]
                        refine wpAnyH_take (i := 9) (v := undef) rfl (by kernel_rfl) (by kernel_rfl) (by kernel_rfl) (fun _ _ _ h => h) (Or.inr ⟨by rfl, rfl⟩) (by assumption) ?_
                        try simp only [Act.put, List.setIfInBounds_toArray, List.set_cons_zero, List.set_cons_succ, List.getElem_toArray, List.getElem_cons_zero, List.getElem_cons_succ]
                        refine wpAnyH_take (i := 10) (v := undef) rfl (by kernel_rfl) (by kernel_rfl) (by kernel_rfl) (fun _ _ _ h => h) (Or.inr ⟨by rfl, rfl⟩) (by assumption) ?_
                        try simp only [Act.put, List.setIfInBounds_toArray, List.set_cons_zero, List.set_cons_succ, List.getElem_toArray, List.getElem_cons_zero, List.getElem_cons_succ]
                        refine wpAnyH_take (i := 11) (v := undef) rfl (by kernel_rfl) (by kernel_rfl) (by kernel_rfl) (fun _ _ _ h => h) (Or.inr ⟨by rfl, rfl⟩) (by assumption) ?_
                        try simp only [Act.put, List.setIfInBounds_toArray, List.set_cons_zero, List.set_cons_succ, List.getElem_toArray, List.getElem_cons_zero, List.getElem_cons_succ]
                        refine wpAnyH_take (i := 12) (v := undef) rfl (by kernel_rfl) (by kernel_rfl) (by kernel_rfl) (fun _ _ _ h => h) (Or.inr ⟨by rfl, rfl⟩) (by assumption) ?_
                        try simp only [Act.put, List.setIfInBounds_toArray, List.set_cons_zero, List.set_cons_succ, List.getElem_toArray, List.getElem_cons_zero, List.getElem_cons_succ]
                        refine wpAnyH_take (i := 13) (v := undef) rfl (by kernel_rfl) (by kernel_rfl) (by kernel_rfl) (fun _ _ _ h => h) (Or.inr ⟨by rfl, rfl⟩) (by assumption) ?_
                        try simp only [Act.put, List.setIfInBounds_toArray, List.set_cons_zero, List.set_cons_succ, List.getElem_toArray, List.getElem_cons_zero, List.getElem_cons_succ]
                        refine wpAnyH_take (i := 14) (v := ?_) rfl (by kernel_rfl) (by kernel_rfl) (by kernel_rfl) (fun _ _ _ h => h) (Or.inl ⟨by rfl, ?_⟩) (by assumption) ?_
                        rotate_left
                        · (intro w hSw; (try dsimp only at hSw); go_simp; try rfl)
                        try simp only [Act.put, List.setIfInBounds_toArray, List.set_cons_zero, List.set_cons_succ, List.getElem_toArray, List.getElem_cons_zero, List.getElem_cons_succ]
                        refine wpAnyH_take (i := 15) (v := ?_) rfl (by kernel_rfl) (by kernel_rfl) (by kernel_rfl) (fun _ _ _ h => h) (Or.inl ⟨by rfl, ?_⟩) (by assumption) ?_
                        rotate_left
                        · (intro w hSw; (try dsimp only at hSw); go_simp; try rfl)
                        try simp only [Act.put, List.setIfInBounds_toArray, List.set_cons_zero, List.set_cons_succ, List.getElem_toArray, List.getElem_cons_zero, List.getElem_cons_succ]
                        refine wpAnyH_take (i := 16) (v := undef) rfl (by kernel_rfl) (by kernel_rfl) (by kernel_rfl) (fun _ _ _ h => h) (Or.inr ⟨by rfl, rfl⟩) (by assumption) ?_
                        try simp only [Act.put, List.setIfInBounds_toArray, List.set_cons_zero, List.set_cons_succ, List.getElem_toArray, List.getElem_cons_zero, List.getElem_cons_succ]
                        refine wpAnyH_take (i := 17) (v := undef) rfl (by kernel_rfl) (by kernel_rfl) (by kernel_rfl) (fun _ _ _ h => h) (Or.inr ⟨by rfl, rfl⟩) (by assumption) ?_
                        try simp only [Act.put, List.setIfInBounds_toArray, List.set_cons_zero, List.set_cons_succ, List.getElem_toArray, List.getElem_cons_zero, List.getElem_cons_succ]
                        refine wpAnyH_take (i := 18) (v := undef) rfl (by kernel_rfl) (by kernel_rfl) (by kernel_rfl) (fun _ _ _ h => h) (Or.inr ⟨by rfl, rfl⟩) (by assumption) ?_
                        try simp only [Act.put, List.setIfInBounds_toArray, List.set_cons_zero, List.set_cons_succ, List.getElem_toArray, List.getElem_cons_zero, List.getElem_cons_succ]
                        refine wpAnyH_take (i := 19) (v := undef) rfl (by kernel_rfl) (by kernel_rfl) (by kernel_rfl) (fun _ _ _ h => h) (Or.inr ⟨by rfl, rfl⟩) (by assumption) ?_
                        try simp only [Act.put, List.setIfInBounds_toArray, List.set_cons_zero, List.set_cons_succ, List.getElem_toArray, List.getElem_cons_zero, List.getElem_cons_succ]
                        refine wpAnyH_take (i := 20) (v := undef) rfl (by kernel_rfl) (by kernel_rfl) (by kernel_rfl) (fun _ _ _ h => h) (Or.inr ⟨by rfl, rfl⟩) (by assumption) ?_
                        try simp only [Act.put, List.setIfInBounds_toArray, List.set_cons_zero, List.set_cons_succ, List.getElem_toArray, List.getElem_cons_zero, List.getElem_cons_succ]
                        refine wpAnyH_take (i := 21) (v := undef) rfl (by kernel_rfl) (by kernel_rfl) (by kernel_rfl) (fun _ _ _ h => h) (Or.inr ⟨by rfl, rfl⟩) (by assumption) ?_
                        try simp only [Act.put, List.setIfInBounds_toArray, List.set_cons_zero, List.set_cons_succ, List.getElem_toArray, List.getElem_cons_zero, List.getElem_cons_succ]
                        refine wpAnyH_take (i := 22) (v := undef) rfl (by kernel_rfl) (by kernel_rfl) (by kernel_rfl) (fun _ _ _ h => h) (Or.inr ⟨by rfl, rfl⟩) (by assumption) ?_
                        try simp only [Act.put, List.setIfInBounds_toArray, List.set_cons_zero, List.set_cons_succ, List.getElem_toArray, List.getElem_cons_zero, List.getElem_cons_succ]
                        refine wpAnyH_take (i := 23) (v := undef) rfl (by kernel_rfl) (by kernel_rfl) (by kernel_rfl) (fun _ _ _ h => h) (Or.inr ⟨by rfl, rfl⟩) (by assumption) ?_
                        try simp only [Act.put, List.setIfInBounds_toArray, List.set_cons_zero, List.set_cons_succ, List.getElem_toArray, List.getElem_cons_zero, List.getElem_cons_succ]
                        refine wpAnyH_take (i := 24) (v := ?_) rfl (by kernel_rfl) (by kernel_rfl) (by kernel_rfl) (fun _ _ _ h => h) (Or.inl ⟨by rfl, ?_⟩) (by assumption) ?_
                        rotate_left
                        · (intro w hSw; (try dsimp only at hSw); go_simp; try rfl)
                        try simp only [Act.put, List.setIfInBounds_toArray, List.set_cons_zero, List.set_cons_succ, List.getElem_toArray, List.getElem_cons_zero, List.getElem_cons_succ]
                        refine wpAnyH_take (i := 25) (v := ?_) rfl (by kernel_rfl) (by kernel_rfl) (by kernel_rfl) (fun _ _ _ h => h) (Or.inl ⟨by rfl, ?_⟩) (by assumption) ?_
                        rotate_left
                        · (intro w hSw; (try dsimp only at hSw); go_simp; try rfl)
                        try simp only [Act.put, List.setIfInBounds_toArray, List.set_cons_zero, List.set_cons_succ, List.getElem_toArray, List.getElem_cons_zero, List.getElem_cons_succ]
                        refine wpAnyH_take (i := 26) (v := undef) rfl (by kernel_rfl) (by kernel_rfl) (by kernel_rfl) (fun _ _ _ h => h) (Or.inr ⟨by rfl, rfl⟩) (by assumption) ?_
                        try simp only [Act.put, List.setIfInBounds_toArray, List.set_cons_zero, List.set_cons_succ, List.getElem_toArray, List.getElem_cons_zero, List.getElem_cons_succ]
                        refine wpAnyH_take (i := 27) (v := undef) rfl (by kernel_rfl) (by kernel_rfl) (by kernel_rfl) (fun _ _ _ h => h) (Or.inr ⟨by rfl, rfl⟩) (by assumption) ?_
                        try simp only [Act.put, List.setIfInBounds_toArray, List.set_cons_zero, List.set_cons_succ, List.getElem_toArray, List.getElem_cons_zero, List.getElem_cons_succ]
                        refine wpAnyH_take (i := 28) (v := undef) rfl (by kernel_rfl) (by kernel_rfl) (by kernel_rfl) (fun _ _ _ h => h) (Or.inr ⟨by rfl, rfl⟩) (by assumption) ?_
                        try simp only [Act.put, List.setIfInBounds_toArray, List.set_cons_zero, List.set_cons_succ, List.getElem_toArray, List.getElem_cons_zero, List.getElem_cons_succ]
                        refine wpAnyH_take (i := 29) (v := undef) rfl (by kernel_rfl) (by kernel_rfl) (by kernel_rfl) (fun _ _ _ h => h) (Or.inr ⟨by rfl, rfl⟩) (by assumption) ?_
                        try simp only [Act.put, List.setIfInBounds_toArray, List.set_cons_zero, List.set_cons_succ, List.getElem_toArray, List.getElem_cons_zero, List.getElem_cons_succ]
                        refine wpAnyH_take (i := 30) (v := undef) rfl (by kernel_rfl) (by kernel_rfl) (by kernel_rfl) (fun _ _ _ h => h) (Or.inr ⟨by rfl, rfl⟩) (by assumption) ?_
                        try simp only [Act.put, List.setIfInBounds_toArray, List.set_cons_zero, List.set_cons_succ, List.getElem_toArray, List.getElem_cons_zero, List.getElem_cons_succ]
                        refine wpAnyH_take (i := 31) (v := undef) rfl (by kernel_rfl) (by kernel_rfl) (by kernel_rfl) (fun _ _ _ h => h) (Or.inr ⟨by rfl, rfl⟩) (by assumption) ?_
                        try simp only [Act.put, List.setIfInBounds_toArray, List.set_cons_zero, List.set_cons_succ, List.getElem_toArray, List.getElem_cons_zero, List.getElem_cons_succ]
                        refine wpAnyH_take (i := 32) (v := undef) rfl (by kernel_rfl) (by kernel_rfl) (by kernel_rfl) (fun _ _ _ h => h) (Or.inr ⟨by rfl, rfl⟩) (by assumption) ?_
                        try simp only [Act.put, List.setIfInBounds_toArray, List.set_cons_zero, List.set_cons_succ, List.getElem_toArray, List.getElem_cons_zero, List.getElem_cons_succ]
                        refine wpAnyH_take (i := 33) (v := undef) rfl (by kernel_rfl) (by kernel_rfl) (by kernel_rfl) (fun _ _ _ h => h) (Or.inr ⟨by rfl, rfl⟩) (by assumption) ?_
                        try simp only [Act.put, List.setIfInBounds_toArray, List.set_cons_zero, List.set_cons_succ, List.getElem_toArray, List.getElem_cons_zero, List.getElem_cons_succ]
                        refine wpAnyH_take (i := 34) (v := ?_) rfl (by kernel_rfl) (by kernel_rfl) (by kernel_rfl) (fun _ _ _ h => h) (Or.inl ⟨by rfl, ?_⟩) (by assumption) ?_
                        rotate_left
                        · (intro w hSw; (try dsimp only at hSw); go_simp; try rfl)
                        try simp only [Act.put, List.setIfInBounds_toArray, List.set_cons_zero, List.set_cons_succ, List.getElem_toArray, List.getElem_cons_zero, List.getElem_cons_succ]
                        refine wpAnyH_take (i := 35) (v := ?_) rfl (by kernel_rfl) (by kernel_rfl) (by kernel_rfl) (fun _ _ _ h => h) (Or.inl ⟨by rfl, ?_⟩) (by assumption) ?_
                        rotate_left
                        · (intro w hSw; (try dsimp only at hSw); go_simp; try rfl)
                        try simp only [Act.put, List.setIfInBounds_toArray, List.set_cons_zero, List.set_cons_succ, List.getElem_toArray, List.getElem_cons_zero, List.getElem_cons_succ]
                        refine wpAnyH_take (i := 36) (v := ?_) rfl (by kernel_rfl) (by kernel_rfl) (by kernel_rfl) (fun _ _ _ h => h) (Or.inl ⟨by rfl, ?_⟩) (by assumption) ?_
                        rotate_left
                        · (intro w hSw; (try dsimp only at hSw); go_simp; try rfl)
                        try simp only [Act.put, List.setIfInBounds_toArray, List.set_cons_zero, List.set_cons_succ, List.getElem_toArray, List.getElem_cons_zero, List.getElem_cons_succ]
                        refine wpAnyH_done (by kernel_rfl) ?_ _
                        go_split_ands
                        obtain ⟨w8, hw8⟩ : ∃ W', w5.drew = W' := ⟨_, rfl⟩
                        have hb8 : Below w5.heap.size w5 w8 := by rw [← hw8]; exact (Below.refl _ _).drew
                        rw [hw8]
                        clear hw8
                        have HL8 : Hid (MacAt X gM d bk sb (61 + k + 1) (runM mc4 (tsb.take (k + 1)) r0) w8) := Lib.hid (by rw [HRN.out]; exact HM5.out.on hb8)
                        have HS8 : Hid (SmM (runM mc4 (tsb.take (k + 1)) r0)) := Lib.hid (by rw [HRN.out]; exact HS5.out)
                        have HR8 := Lib.hid (HR5.out.on hb8)
                        have HI8 : Hid (GoneI (runM mc4 (tsb.take (k + 1)) r0) ⟨cl, sq, op, pa, va, ver, ca, cb⟩ false ⟨er4, vl4, vr4, ns4⟩) := Lib.hid (by
                          have h0 := HGN.out
                          rw [HRN.out]
                          simp only [cnd, Z0.out, Bool.false_and, Bool.or_false] at h0
                          exact h0)
                        clear HK17
                        try clear hb
                        clear hb8 HM5 HS5 HR5 HGN HRN
                        go_wp2
                        go_roundw
                        case rel => exact ⟨k + 1, false, by omega, rfl, by go_num, HL8, HS8, HI8, HR8⟩
                        case measure => simp [intOf]; omega
                      · have z0 : (t.op != 0) = true := by simpa using h0
                        have Z0 := Lib.hid z0
                        clear h0
                        obtain ⟨V, hV⟩ : ∃ V, valS t.cl t.sq = V := ⟨_, rfl⟩
                        rw [hV] at HVT
                        have HVV := Lib.hid hV
                        clear hV
                        cases V with
                        | false =>
                          refine wp_region_held_drew (S := (fun w' => w'.cell? ⟨g, off + k * 8, none⟩ = some (.int .i64 t.cl) ∧ w'.cell? ⟨g, off + k * 8 + 1, none⟩ = some (.int .i64 t.sq) ∧ w'.cell? ⟨g, off + k * 8 + 2, none⟩ = some (.int .i64 t.op) ∧ w'.cell? ⟨g, off + k * 8 + 3, none⟩ = some (.string t.pa) ∧ w'.cell? ⟨g, off + k * 8 + 4, none⟩ = some (.string t.va) ∧ w'.cell? ⟨g, off + k * 8 + 5, none⟩ = some (.int .i64 t.ver) ∧ w'.cell? ⟨g, off + k * 8 + 6, none⟩ = some (.int .i64 t.a) ∧ w'.cell? ⟨g, off + k * 8 + 7, none⟩ = some (.int .i64 t.b) ∧ w'.cell? ⟨g0, 0, none⟩ = some (.int .i64 cl) ∧ w'.cell? ⟨g0, 1, none⟩ = some (.int .i64 sq) ∧ Below w5.heap.size w5 w')) (by kernel_rfl) ?_ (fun hHeld => ?_)
                          · ((first
                            | exact HK17.out _ (Below.refl _ _)
                            | exact HK17.out _ (Below.refl _ _).drew
                            | exact HK17.out _ hb8
                            | fail))
                          refine wpAnyH_take (i := 0) (v := ?_) rfl (by kernel_rfl) (by kernel_rfl) (by kernel_rfl) (fun _ _ _ h => h) (Or.inl ⟨by rfl, ?_⟩) (by assumption) ?_
                          rotate_left
                          · (intro w hSw; (try dsimp only at hSw); go_simp; try rfl)
                          try simp only [Act.put, List.setIfInBounds_toArray, List.set_cons_zero, List.set_cons_succ, List.getElem_toArray, List.getElem_cons_zero, List.getElem_cons_succ]
                          refine wpAnyH_take (i := 1) (v := ?_) rfl (by kernel_rfl) (by kernel_rfl) (by kernel_rfl) (fun _ _ _ h => h) (Or.inl ⟨by rfl, ?_⟩) (by assumption) ?_
                          rotate_left
                          · (intro w hSw; (try dsimp only at hSw); go_simp; try rfl)
                          try simp only [Act.put, List.setIfInBounds_toArray, List.set_cons_zero, List.set_cons_succ, List.getElem_toArray, List.getElem_cons_zero, List.getElem_cons_succ]
                          refine wpAnyH_take (i := 2) (v := ?_) rfl (by kernel_rfl) (by kernel_rfl) (by kernel_rfl) (fun _ _ _ h => h) (Or.inl ⟨by rfl, ?_⟩) (by assumption) ?_
                          rotate_left
                          · (intro w hSw; (try dsimp only at hSw); go_simp; try rfl)
                          try simp only [Act.put, List.setIfInBounds_toArray, List.set_cons_zero, List.set_cons_succ, List.getElem_toArray, List.getElem_cons_zero, List.getElem_cons_succ]
                          refine wpAnyH_take (i := 3) (v := ?_) rfl (by kernel_rfl) (by kernel_rfl) (by kernel_rfl) (fun _ _ _ h => h) (Or.inl ⟨by rfl, ?_⟩) (by assumption) ?_
                          rotate_left
                          · (intro w hSw; (try dsimp only at hSw); go_simp; try rfl)
                          try simp only [Act.put, List.setIfInBounds_toArray, List.set_cons_zero, List.set_cons_succ, List.getElem_toArray, List.getElem_cons_zero, List.getElem_cons_succ]
                          refine wpAnyH_take (i := 4) (v := ?_) rfl (by kernel_rfl) (by kernel_rfl) (by kernel_rfl) (fun _ _ _ h => h) (Or.inl ⟨by rfl, ?_⟩) (by assumption) ?_
                          rotate_left
                          · (intro w hSw; (try dsimp only at hSw); go_simp; try rfl)
                          try simp only [Act.put, List.setIfInBounds_toArray, List.set_cons_zero, List.set_cons_succ, List.getElem_toArray, List.getElem_cons_zero, List.getElem_cons_succ]
                          refine wpAnyH_take (i := 5) (v := ?_) rfl (by kernel_rfl) (by kernel_rfl) (by kernel_rfl) (fun _ _ _ h => h) (Or.inl ⟨by rfl, ?_⟩) (by assumption) ?_
                          rotate_left
                          · (intro w hSw; (try dsimp only at hSw); go_simp; try rfl)
                          try simp only [Act.put, List.setIfInBounds_toArray, List.set_cons_zero, List.set_cons_succ, List.getElem_toArray, List.getElem_cons_zero, List.getElem_cons_succ]
                          refine wpAnyH_take (i := 6) (v := ?_) rfl (by kernel_rfl) (by kernel_rfl) (by kernel_rfl) (fun _ _ _ h => h) (Or.inl ⟨by rfl, ?_⟩) (by assumption) ?_
                          rotate_left
                          · (intro w hSw; (try dsimp only at hSw); go_simp; try rfl)
                          try simp only [Act.put, List.setIfInBounds_toArray, List.set_cons_zero, List.set_cons_succ, List.getElem_toArray, List.getElem_cons_zero, List.getElem_cons_succ]
                          refine wpAnyH_take (i := 7) (v := ?_) rfl (by kernel_rfl) (by kernel_rfl) (by kernel_rfl) (fun _ _ _ h => h) (Or.inl ⟨by rfl, ?_⟩) (by assumption) ?_
                          rotate_left
                          · (intro w hSw; (try dsimp only at hSw); go_simp; try rfl)
                          try simp only [Act.put, List.setIfInBounds_toArray, List.set_cons_zero, List.set_cons_succ, List.getElem_toArray, List.getElem_cons_zero, List.getElem_cons_succ]
                          refine wpAnyH_take (i := 8) (v := ?_) rfl (by kernel_rfl) (by kernel_rfl) (by kernel_rfl) (fun _ _ _ h => h) (Or.inl ⟨by rfl, ?_⟩) (by assumption) ?_
                          rotate_left
                          · (intro w hSw; (try dsimp only at hSw); go_simp; try rfl)
                          try simp only [Act.put, List.setIfInBounds_toArray, List.set_cons_zero, List.set_cons_succ, List.getElem_toArray, List.getElem_cons_zero, List.getElem_cons_succ]
                          refine wpAnyH_take (i := 9) (v := ?_) rfl (by kernel_rfl) (by kernel_rfl) (by kernel_rfl) (fun _ _ _ h => h) (Or.inl ⟨by rfl, ?_⟩) (by assumption) ?_
                          rotate_left
                          · (intro w hSw; (try dsimp only at hSw); go_simp; try rfl)
                          try simp only [Act.put, List.setIfInBounds_toArray, List.set_cons_zero, List.set_cons_succ, List.getElem_toArray, List.getElem_cons_zero, List.getElem_cons_succ]
                          refine wpAnyH_take (i := 10) (v := ?_) rfl (by kernel_rfl) (by kernel_rfl) (by kernel_rfl) (fun _ _ _ h => h) (Or.inl ⟨by rfl, ?_⟩) (by assumption) ?_
                          rotate_left
                          · (intro w hSw; (try dsimp only at hSw); go_simp; try rfl)
                          try simp only [Act.put, List.setIfInBounds_toArray, List.set_cons_zero, List.set_cons_succ, List.getElem_toArray, List.getElem_cons_zero, List.getElem_cons_succ]
                          refine wpAnyH_take (i := 11) (v := ?_) rfl (by kernel_rfl) (by kernel_rfl) (by kernel_rfl) (fun _ _ _ h => h) (Or.inl ⟨by rfl, ?_⟩) (by assumption) ?_
                          rotate_left
                          · (intro w hSw; (try dsimp only at hSw); go_simp; try rfl)
                          try simp only [Act.put, List.setIfInBounds_toArray, List.set_cons_zero, List.set_cons_succ, List.getElem_toArray, List.getElem_cons_zero, List.getElem_cons_succ]
                          refine wpAnyH_take (i := 12) (v := ?_) rfl (by kernel_rfl) (by kernel_rfl) (by kernel_rfl) (fun _ _ _ h => h) (Or.inl ⟨by rfl, ?_⟩) (by assumption) ?_
                          rotate_left
                          · (intro w hSw; (try dsimp only at hSw); go_simp; try rfl)
                          try simp only [Act.put, List.setIfInBounds_toArray, List.set_cons_zero, List.set_cons_succ, List.getElem_toArray, List.getElem_cons_zero, List.getElem_cons_succ]
                          refine wpAnyH_ready (rs := [13]) (by kernel_rfl) (by simp) ?_
                          refine (AllReadyH.cons rfl (fun K hK => ?_) AllReadyH.nil)
                          go_simp
                          (go_at_call 20; refine (HVT.out _).mono ?_; rintro e w8 ⟨rfl, hb⟩; have hb8 : Below w5.heap.size w5 w8 := below_self (Below.refl _ _).drew hb)
                          refine hK.out _ _ ?_ (fun hHeld => ?_)
                          · ((first
                            | exact HK17.out _ (Below.refl _ _)
                            | exact HK17.out _ (Below.refl _ _).drew
                            | exact HK17.out _ hb8
                            | fail))
                          clear hK K
                          try simp only [Act.put, List.setIfInBounds_toArray, List.set_cons_zero, List.set_cons_succ, List.getElem_toArray, List.getElem_cons_zero, List.getElem_cons_succ]
                          refine wpAnyH_take (i := 14) (v := ?_) rfl (by kernel_rfl) (by kernel_rfl) (by kernel_rfl) (fun _ _ _ h => h) (Or.inl ⟨by rfl, ?_⟩) (by assumption) ?_
                          rotate_left
                          · (intro w hSw; (try dsimp only at hSw); go_simp; try rfl)
                          try simp only [Act.put, List.setIfInBounds_toArray, List.set_cons_zero, List.set_cons_succ, List.getElem_toArray, List.getElem_cons_zero, List.getElem_cons_succ]
                          refine wpAnyH_take (i := 15) (v := ?_) rfl (by kernel_rfl) (by kernel_rfl) (by kernel_rfl) (fun _ _ _ h => h) (Or.inl ⟨by rfl, ?_⟩) (by assumption) ?_
                          rotate_left
                          · (intro w hSw; (try dsimp only at hSw); go_simp; try rfl)
                          try simp only [Act.put, List.setIfInBounds_toArray, List.set_cons_zero, List.set_cons_succ, List.getElem_toArray, List.getElem_cons_zero, List.getElem_cons_succ]
                          refine wpAnyH_take (i := 16) (v := undef) rfl (by kernel_rfl) (by kernel_rfl) (by kernel_rfl) (fun _ _ _ h => h) (Or.inr ⟨by rfl, rfl⟩) (by assumption) ?_
                          try simp only [Act.put, List.setIfInBounds_toArray, List.set_cons_zero, List.set_cons_succ, List.getElem_toArray, List.getElem_cons_zero, List.getElem_cons_succ]
                          refine wpAnyH_take (i := 17) (v := undef) rfl (by kernel_rfl) (by kernel_rfl) (by kernel_rfl) (fun _ _ _ h => h) (Or.inr ⟨by rfl, rfl⟩) (by assumption) ?_
                          try simp only [Act.put, List.setIfInBounds_toArray, List.set_cons_zero, List.set_cons_succ, List.getElem_toArray, List.getElem_cons_zero, List.getElem_cons_succ]
                          refine wpAnyH_take (i := 18) (v := undef) rfl (by kernel_rfl) (by kernel_rfl) (by kernel_rfl) (fun _ _ _ h => h) (Or.inr ⟨by rfl, rfl⟩) (by assumption) ?_
                          try simp only [Act.put, List.setIfInBounds_toArray, List.set_cons_zero, List.set_cons_succ, List.getElem_toArray, List.getElem_cons_zero, List.getElem_cons_succ]
                          refine wpAnyH_take (i := 19) (v := undef) rfl (by kernel_rfl) (by kernel_rfl) (by kernel_rfl) (fun _ _ _ h => h) (Or.inr ⟨by rfl, rfl⟩) (by assumption) ?_
                          try simp only [Act.put, List.setIfInBounds_toArray, List.set_cons_zero, List.set_cons_succ, List.getElem_toArray, List.getElem_cons_zero, List.getElem_cons_succ]
                          refine wpAnyH_take (i := 20) (v := undef) rfl (by kernel_rfl) (by kernel_rfl) (by kernel_rfl) (fun _ _ _ h => h) (Or.inr ⟨by rfl, rfl⟩) (by assumption) ?_
                          try simp only [Act.put, List.setIfInBounds_toArray, List.set_cons_zero, List.set_cons_succ, List.getElem_toArray, List.getElem_cons_zero, List.getElem_cons_succ]
                          refine wpAnyH_take (i := 21) (v := undef) rfl (by kernel_rfl) (by kernel_rfl) (by kernel_rfl) (fun _ _ _ h => h) (Or.inr ⟨by rfl, rfl⟩) (by assumption) ?_
                          try simp only [Act.put, List.setIfInBounds_toArray, List.set_cons_zero, List.set_cons_succ, List.getElem_toArray, List.getElem_cons_zero, List.getElem_cons_succ]
                          refine wpAnyH_take (i := 22) (v := undef) rfl (by kernel_rfl) (by kernel_rfl) (by kernel_rfl) (fun _ _ _ h => h) (Or.inr ⟨by rfl, rfl⟩) (by assumption) ?_
                          try simp only [Act.put, List.setIfInBounds_toArray, List.set_cons_zero, List.set_cons_succ, List.getElem_toArray, List.getElem_cons_zero, List.getElem_cons_succ]
                          refine wpAnyH_take (i := 23) (v := undef) rfl (by kernel_rfl) (by kernel_rfl) (by kernel_rfl) (fun _ _ _ h => h) (Or.inr ⟨by rfl, rfl⟩) (by assumption) ?_
                          try simp only [Act.put, List.setIfInBounds_toArray, List.set_cons_zero, List.set_cons_succ, List.getElem_toArray, List.getElem_cons_zero, List.getElem_cons_succ]
                          refine wpAnyH_take (i := 24) (v := ?_) rfl (by kernel_rfl) (by kernel_rfl) (by kernel_rfl) (fun _ _ _ h => h) (Or.inl ⟨by rfl, ?_⟩) (by assumption) ?_
                          rotate_left
                          · (intro w hSw; (try dsimp only at hSw); go_simp; try rfl)
                          try simp only [Act.put, List.setIfInBounds_toArray, List.set_cons_zero, List.set_cons_succ, List.getElem_toArray, List.getElem_cons_zero, List.getElem_cons_succ]
                          refine wpAnyH_take (i := 25) (v := ?_) rfl (by kernel_rfl) (by kernel_rfl) (by kernel_rfl) (fun _ _ _ h => h) (Or.inl ⟨by rfl, ?_⟩) (by assumption) ?_
                          rotate_left
                          · (intro w hSw; (try dsimp only at hSw); go_simp; try rfl)
                          try simp only [Act.put, List.setIfInBounds_toArray, List.set_cons_zero, List.set_cons_succ, List.getElem_toArray, List.getElem_cons_zero, List.getElem_cons_succ]
                          refine wpAnyH_take (i := 26) (v := undef) rfl (by kernel_rfl) (by kernel_rfl) (by kernel_rfl) (fun _ _ _ h => h) (Or.inr ⟨by rfl, rfl⟩) (by assumption) ?_
                          try simp only [Act.put, List.setIfInBounds_toArray, List.set_cons_zero, List.set_cons_succ, List.getElem_toArray, List.getElem_cons_zero, List.getElem_cons_succ]
                          refine wpAnyH_take (i := 27) (v := undef) rfl (by kernel_rfl) (by kernel_rfl) (by kernel_rfl) (fun _ _ _ h => h) (Or.inr ⟨by rfl, rfl⟩) (by assumption) ?_
                          try simp only [Act.put, List.setIfInBounds_toArray, List.set_cons_zero, List.set_cons_succ, List.getElem_toArray, List.getElem_cons_zero, List.getElem_cons_succ]
                          refine wpAnyH_take (i := 28) (v := undef) rfl (by kernel_rfl) (by kernel_rfl) (by kernel_rfl) (fun _ _ _ h => h) (Or.inr ⟨by rfl, rfl⟩) (by assumption) ?_
                          try simp only [Act.put, List.setIfInBounds_toArray, List.set_cons_zero, List.set_cons_succ, List.getElem_toArray, List.getElem_cons_zero, List.getElem_cons_succ]
                          refine wpAnyH_take (i := 29) (v := undef) rfl (by kernel_rfl) (by kernel_rfl) (by kernel_rfl) (fun _ _ _ h => h) (Or.inr ⟨by rfl, rfl⟩) (by assumption) ?_
                          try simp only [Act.put, List.setIfInBounds_toArray, List.set_cons_zero, List.set_cons_succ, List.getElem_toArray, List.getElem_cons_zero, List.getElem_cons_succ]
                          refine wpAnyH_take (i := 30) (v := undef) rfl (by kernel_rfl) (by kernel_rfl) (by kernel_rfl) (fun _ _ _ h => h) (Or.inr ⟨by rfl, rfl⟩) (by assumption) ?_
                          try simp only [Act.put, List.setIfInBounds_toArray, List.set_cons_zero, List.set_cons_succ, List.getElem_toArray, List.getElem_cons_zero, List.getElem_cons_succ]
                          refine wpAnyH_take (i := 31) (v := undef) rfl (by kernel_rfl) (by kernel_rfl) (by kernel_rfl) (fun _ _ _ h => h) (Or.inr ⟨by rfl, rfl⟩) (by assumption) ?_
                          try simp only [Act.put, List.setIfInBounds_toArray, List.set_cons_zero, List.set_cons_succ, List.getElem_toArray, List.getElem_cons_zero, List.getElem_cons_succ]
                          refine wpAnyH_take (i := 32) (v := undef) rfl (by kernel_rfl) (by kernel_rfl) (by kernel_rfl) (fun _ _ _ h => h) (Or.inr ⟨by rfl, rfl⟩) (by assumption) ?_
                          try simp only [Act.put, List.setIfInBounds_toArray, List.set_cons_zero, List.set_cons_succ, List.getElem_toArray, List.getElem_cons_zero, List.getElem_cons_succ]
                          refine wpAnyH_take (i := 33) (v := undef) rfl (by kernel_rfl) (by kernel_rfl) (by kernel_rfl) (fun _ _ _ h => h) (Or.inr ⟨by rfl, rfl⟩) (by assumption) ?_
                          try simp only [Act.put, List.setIfInBounds_toArray, List.set_cons_zero, List.set_cons_succ, List.getElem_toArray, List.getElem_cons_zero, List.getElem_cons_succ]
                          refine wpAnyH_take (i := 34) (v := ?_) rfl (by kernel_rfl) (by kernel_rfl) (by kernel_rfl) (fun _ _ _ h => h) (Or.inl ⟨by rfl, ?_⟩) (by assumption) ?_
                          rotate_left
                          · (intro w hSw; (try dsimp only at hSw); go_simp; try rfl)
                          try simp only [Act.put, List.setIfInBounds_toArray, List.set_cons_zero, List.set_cons_succ, List.getElem_toArray, List.getElem_cons_zero, List.getElem_cons_succ]
                          refine wpAnyH_take (i := 35) (v := ?_) rfl (by kernel_rfl) (by kernel_rfl) (by kernel_rfl) (fun _ _ _ h => h) (Or.inl ⟨by rfl, ?_⟩) (by assumption) ?_
                          rotate_left
                          · (intro w hSw; (try dsimp only at hSw); go_simp; try rfl)
                          try simp only [Act.put, List.setIfInBounds_toArray, List.set_cons_zero, List.set_cons_succ, List.getElem_toArray, List.getElem_cons_zero, List.getElem_cons_succ]
                          refine wpAnyH_take (i := 36) (v := ?_) rfl (by kernel_rfl) (by kernel_rfl) (by kernel_rfl) (fun _ _ _ h => h) (Or.inl ⟨by rfl, ?_⟩) (by assumption) ?_
                          rotate_left
                          · (intro w hSw; (try dsimp only at hSw); go_simp; try rfl)
                          try simp only [Act.put, List.setIfInBounds_toArray, List.set_cons_zero, List.set_cons_succ, List.getElem_toArray, List.getElem_cons_zero, List.getElem_cons_succ]
                          refine wpAnyH_done (by kernel_rfl) ?_ _
                          go_split_ands
                          have HL8 : Hid (MacAt X gM d bk sb (61 + k + 1) (runM mc4 (tsb.take (k + 1)) r0) w8) := Lib.hid (by rw [HRN.out]; exact HM5.out.on hb8)
                          have HS8 : Hid (SmM (runM mc4 (tsb.take (k + 1)) r0)) := Lib.hid (by rw [HRN.out]; exact HS5.out)
                          have HR8 := Lib.hid (HR5.out.on hb8)
                          have HI8 : Hid (GoneI (runM mc4 (tsb.take (k + 1)) r0) ⟨cl, sq, op, pa, va, ver, ca, cb⟩ false ⟨er4, vl4, vr4, ns4⟩) := Lib.hid (by
                            have h0 := HGN.out
                            rw [HRN.out]
                            simp only [cnd, Z0.out, HVV.out, Bool.true_and, Bool.false_and, Bool.or_false] at h0
                            exact h0)
                          clear HK17
                          try clear hb
                          clear hb8 HM5 HS5 HR5 HGN HRN
                          go_wp2
                          go_roundw
                          case rel => exact ⟨k + 1, false, by omega, rfl, by go_num, HL8, HS8, HI8, HR8⟩
                          case measure => simp [intOf]; omega
                        | true =>
                          by_cases h1 : t.cl = cl
                          · have z1 : (t.cl == cl) = true := by simpa using h1
                            have Z1 := Lib.hid z1
                            clear h1
                            refine wp_region_held_drew (S := (fun w' => w'.cell? ⟨g, off + k * 8, none⟩ = some (.int .i64 t.cl) ∧ w'.cell? ⟨g, off + k * 8 + 1, none⟩ = some (.int .i64 t.sq) ∧ w'.cell? ⟨g, off + k * 8 + 2, none⟩ = some (.int .i64 t.op) ∧ w'.cell? ⟨g, off + k * 8 + 3, none⟩ = some (.string t.pa) ∧ w'.cell? ⟨g, off + k * 8 + 4, none⟩ = some (.string t.va) ∧ w'.cell? ⟨g, off + k * 8 + 5, none⟩ = some (.int .i64 t.ver) ∧ w'.cell? ⟨g, off + k * 8 + 6, none⟩ = some (.int .i64 t.a) ∧ w'.cell? ⟨g, off + k * 8 + 7, none⟩ = some (.int .i64 t.b) ∧ w'.cell? ⟨g0, 0, none⟩ = some (.int .i64 cl) ∧ w'.cell? ⟨g0, 1, none⟩ = some (.int .i64 sq) ∧ Below w5.heap.size w5 w')) (by kernel_rfl) ?_ (fun hHeld => ?_)
                            · ((first
                              | exact HK17.out _ (Below.refl _ _)
                              | exact HK17.out _ (Below.refl _ _).drew
                              | exact HK17.out _ hb8
                              | fail))
                            refine wpAnyH_take (i := 0) (v := ?_) rfl (by kernel_rfl) (by kernel_rfl) (by kernel_rfl) (fun _ _ _ h => h) (Or.inl ⟨by rfl, ?_⟩) (by assumption) ?_
                            rotate_left
                            · (intro w hSw; (try dsimp only at hSw); go_simp; try rfl)
                            try simp only [Act.put, List.setIfInBounds_toArray, List.set_cons_zero, List.set_cons_succ, List.getElem_toArray, List.getElem_cons_zero, List.getElem_cons_succ]
                            refine wpAnyH_take (i := 1) (v := ?_) rfl (by kernel_rfl) (by kernel_rfl) (by kernel_rfl) (fun _ _ _ h => h) (Or.inl ⟨by rfl, ?_⟩) (by assumption) ?_
                            rotate_left
                            · (intro w hSw; (try dsimp only at hSw); go_simp; try rfl)
                            try simp only [Act.put, List.setIfInBounds_toArray, List.set_cons_zero, List.set_cons_succ, List.getElem_toArray, List.getElem_cons_zero, List.getElem_cons_succ]
                            refine wpAnyH_take (i := 2) (v := ?_) rfl (by kernel_rfl) (by kernel_rfl) (by kernel_rfl) (fun _ _ _ h => h) (Or.inl ⟨by rfl, ?_⟩) (by assumption) ?_
                            rotate_left
                            · (intro w hSw; (try dsimp only at hSw); go_simp; try rfl)
                            try simp only [Act.put, List.setIfInBounds_toArray, List.set_cons_zero, List.set_cons_succ, List.getElem_toArray, List.getElem_cons_zero, List.getElem_cons_succ]
                            refine wpAnyH_take (i := 3) (v := ?_) rfl (by kernel_rfl) (by kernel_rfl) (by kernel_rfl) (fun _ _ _ h => h) (Or.inl ⟨by rfl, ?_⟩) (by assumption) ?_
                            rotate_left
                            · (intro w hSw; (try dsimp only at hSw); go_simp; try rfl)
                            try simp only [Act.put, List.setIfInBounds_toArray, List.set_cons_zero, List.set_cons_succ, List.getElem_toArray, List.getElem_cons_zero, List.getElem_cons_succ]
                            refine wpAnyH_take (i := 4) (v := ?_) rfl (by kernel_rfl) (by kernel_rfl) (by kernel_rfl) (fun _ _ _ h => h) (Or.inl ⟨by rfl, ?_⟩) (by assumption) ?_
                            rotate_left
                            · (intro w hSw; (try dsimp only at hSw); go_simp; try rfl)
                            try simp only [Act.put, List.setIfInBounds_toArray, List.set_cons_zero, List.set_cons_succ, List.getElem_toArray, List.getElem_cons_zero, List.getElem_cons_succ]
                            refine wpAnyH_take (i := 5) (v := ?_) rfl (by kernel_rfl) (by kernel_rfl) (by kernel_rfl) (fun _ _ _ h => h) (Or.inl ⟨by rfl, ?_⟩) (by assumption) ?_
                            rotate_left
                            · (intro w hSw; (try dsimp only at hSw); go_simp; try rfl)
                            try simp only [Act.put, List.setIfInBounds_toArray, List.set_cons_zero, List.set_cons_succ, List.getElem_toArray, List.getElem_cons_zero, List.getElem_cons_succ]
                            refine wpAnyH_take (i := 6) (v := ?_) rfl (by kernel_rfl) (by kernel_rfl) (by kernel_rfl) (fun _ _ _ h => h) (Or.inl ⟨by rfl, ?_⟩) (by assumption) ?_
                            rotate_left
                            · (intro w hSw; (try dsimp only at hSw); go_simp; try rfl)
                            try simp only [Act.put, List.setIfInBounds_toArray, List.set_cons_zero, List.set_cons_succ, List.getElem_toArray, List.getElem_cons_zero, List.getElem_cons_succ]
                            refine wpAnyH_take (i := 7) (v := ?_) rfl (by kernel_rfl) (by kernel_rfl) (by kernel_rfl) (fun _ _ _ h => h) (Or.inl ⟨by rfl, ?_⟩) (by assumption) ?_
                            rotate_left
                            · (intro w hSw; (try dsimp only at hSw); go_simp; try rfl)
                            try simp only [Act.put, List.setIfInBounds_toArray, List.set_cons_zero, List.set_cons_succ, List.getElem_toArray, List.getElem_cons_zero, List.getElem_cons_succ]
                            refine wpAnyH_take (i := 8) (v := ?_) rfl (by kernel_rfl) (by kernel_rfl) (by kernel_rfl) (fun _ _ _ h => h) (Or.inl ⟨by rfl, ?_⟩) (by assumption) ?_
                            rotate_left
                            · (intro w hSw; (try dsimp only at hSw); go_simp; try rfl)
                            try simp only [Act.put, List.setIfInBounds_toArray, List.set_cons_zero, List.set_cons_succ, List.getElem_toArray, List.getElem_cons_zero, List.getElem_cons_succ]
                            refine wpAnyH_take (i := 9) (v := ?_) rfl (by kernel_rfl) (by kernel_rfl) (by kernel_rfl) (fun _ _ _ h => h) (Or.inl ⟨by rfl, ?_⟩) (by assumption) ?_
                            rotate_left
                            · (intro w hSw; (try dsimp only at hSw); go_simp; try rfl)
                            try simp only [Act.put, List.setIfInBounds_toArray, List.set_cons_zero, List.set_cons_succ, List.getElem_toArray, List.getElem_cons_zero, List.getElem_cons_succ]
                            refine wpAnyH_take (i := 10) (v := ?_) rfl (by kernel_rfl) (by kernel_rfl) (by kernel_rfl) (fun _ _ _ h => h) (Or.inl ⟨by rfl, ?_⟩) (by assumption) ?_
                            rotate_left
                            · (intro w hSw; (try dsimp only at hSw); go_simp; try rfl)
                            try simp only [Act.put, List.setIfInBounds_toArray, List.set_cons_zero, List.set_cons_succ, List.getElem_toArray, List.getElem_cons_zero, List.getElem_cons_succ]
                            refine wpAnyH_take (i := 11) (v := ?_) rfl (by kernel_rfl) (by kernel_rfl) (by kernel_rfl) (fun _ _ _ h => h) (Or.inl ⟨by rfl, ?_⟩) (by assumption) ?_
                            rotate_left
                            · (intro w hSw; (try dsimp only at hSw); go_simp; try rfl)
                            try simp only [Act.put, List.setIfInBounds_toArray, List.set_cons_zero, List.set_cons_succ, List.getElem_toArray, List.getElem_cons_zero, List.getElem_cons_succ]
                            refine wpAnyH_take (i := 12) (v := ?_) rfl (by kernel_rfl) (by kernel_rfl) (by kernel_rfl) (fun _ _ _ h => h) (Or.inl ⟨by rfl, ?_⟩) (by assumption) ?_
                            rotate_left
                            · (intro w hSw; (try dsimp only at hSw); go_simp; try rfl)
                            try simp only [Act.put, List.setIfInBounds_toArray, List.set_cons_zero, List.set_cons_succ, List.getElem_toArray, List.getElem_cons_zero, List.getElem_cons_succ]
                            refine wpAnyH_ready (rs := [13]) (by kernel_rfl) (by simp) ?_
                            refine (AllReadyH.cons rfl (fun K hK => ?_) AllReadyH.nil)
                            go_simp
                            (go_at_call 20; refine (HVT.out _).mono ?_; rintro e w8 ⟨rfl, hb⟩; have hb8 : Below w5.heap.size w5 w8 := below_self (Below.refl _ _).drew hb)
                            refine hK.out _ _ ?_ (fun hHeld => ?_)
                            · ((first
                              | exact HK17.out _ (Below.refl _ _)
                              | exact HK17.out _ (Below.refl _ _).drew
                              | exact HK17.out _ hb8
                              | fail))
                            clear hK K
                            try simp only [Act.put, List.setIfInBounds_toArray, List.set_cons_zero, List.set_cons_succ, List.getElem_toArray, List.getElem_cons_zero, List.getElem_cons_succ]
                            refine wpAnyH_take (i := 14) (v := ?_) rfl (by kernel_rfl) (by kernel_rfl) (by kernel_rfl) (fun _ _ _ h => h) (Or.inl ⟨by rfl, ?_⟩) (by assumption) ?_
                            rotate_left
                            · (intro w hSw; (try dsimp only at hSw); go_simp; try rfl)
                            try simp only [Act.put, List.setIfInBounds_toArray, List.set_cons_zero, List.set_cons_succ, List.getElem_toArray, List.getElem_cons_zero, List.getElem_cons_succ]
                            refine wpAnyH_take (i := 15) (v := ?_) rfl (by kernel_rfl) (by kernel_rfl) (by kernel_rfl) (fun _ _ _ h => h) (Or.inl ⟨by rfl, ?_⟩) (by assumption) ?_
                            rotate_left
                            · (intro w hSw; (try dsimp only at hSw); go_simp; try rfl)
                            try simp only [Act.put, List.setIfInBounds_toArray, List.set_cons_zero, List.set_cons_succ, List.getElem_toArray, List.getElem_cons_zero, List.getElem_cons_succ]
                            refine wpAnyH_take (i := 16) (v := ?_) rfl (by kernel_rfl) (by kernel_rfl) (by kernel_rfl) (fun _ _ _ h => h) (Or.inl ⟨by rfl, ?_⟩) (by assumption) ?_
                            rotate_left
                            · (intro w hSw; (try dsimp only at hSw); go_simp; try rfl)
                            try simp only [Act.put, List.setIfInBounds_toArray, List.set_cons_zero, List.set_cons_succ, List.getElem_toArray, List.getElem_cons_zero, List.getElem_cons_succ]
                            refine wpAnyH_take (i := 17) (v := ?_) rfl (by kernel_rfl) (by kernel_rfl) (by kernel_rfl) (fun _ _ _ h => h) (Or.inl ⟨by rfl, ?_⟩) (by assumption) ?_
                            rotate_left
                            · (intro w hSw; (try dsimp only at hSw); go_simp; try rfl)
                            try simp only [Act.put, List.setIfInBounds_toArray, List.set_cons_zero, List.set_cons_succ, List.getElem_toArray, List.getElem_cons_zero, List.getElem_cons_succ]
                            refine wpAnyH_take (i := 18) (v := ?_) rfl (by kernel_rfl) (by kernel_rfl) (by kernel_rfl) (fun _ _ _ h => h) (Or.inl ⟨by rfl, ?_⟩) (by assumption) ?_
                            rotate_left
                            · (intro w hSw; (try dsimp only at hSw); go_simp; try rfl)
                            try simp only [Act.put, List.setIfInBounds_toArray, List.set_cons_zero, List.set_cons_succ, List.getElem_toArray, List.getElem_cons_zero, List.getElem_cons_succ]
                            refine wpAnyH_take (i := 19) (v := ?_) rfl (by kernel_rfl) (by kernel_rfl) (by kernel_rfl) (fun _ _ _ h => h) (Or.inl ⟨by rfl, ?_⟩) (by assumption) ?_
                            rotate_left
                            · (intro w hSw; (try dsimp only at hSw); go_simp; try rfl)
                            try simp only [Act.put, List.setIfInBounds_toArray, List.set_cons_zero, List.set_cons_succ, List.getElem_toArray, List.getElem_cons_zero, List.getElem_cons_succ]
                            refine wpAnyH_take (i := 20) (v := ?_) rfl (by kernel_rfl) (by kernel_rfl) (by kernel_rfl) (fun _ _ _ h => h) (Or.inl ⟨by rfl, ?_⟩) (by assumption) ?_
                            rotate_left
                            · (intro w hSw; (try dsimp only at hSw); go_simp; try rfl)
                            try simp only [Act.put, List.setIfInBounds_toArray, List.set_cons_zero, List.set_cons_succ, List.getElem_toArray, List.getElem_cons_zero, List.getElem_cons_succ]
                            refine wpAnyH_take (i := 21) (v := ?_) rfl (by kernel_rfl) (by kernel_rfl) (by kernel_rfl) (fun _ _ _ h => h) (Or.inl ⟨by rfl, ?_⟩) (by assumption) ?_
                            rotate_left
                            · (intro w hSw; (try dsimp only at hSw); go_simp; try rfl)
                            try simp only [Act.put, List.setIfInBounds_toArray, List.set_cons_zero, List.set_cons_succ, List.getElem_toArray, List.getElem_cons_zero, List.getElem_cons_succ]
                            refine wpAnyH_take (i := 22) (v := ?_) rfl (by kernel_rfl) (by kernel_rfl) (by kernel_rfl) (fun _ _ _ h => h) (Or.inl ⟨by rfl, ?_⟩) (by assumption) ?_
                            rotate_left
                            · (intro w hSw; (try dsimp only at hSw); go_simp; try rfl)
                            try simp only [Act.put, List.setIfInBounds_toArray, List.set_cons_zero, List.set_cons_succ, List.getElem_toArray, List.getElem_cons_zero, List.getElem_cons_succ]
                            refine wpAnyH_take (i := 23) (v := ?_) rfl (by kernel_rfl) (by kernel_rfl) (by kernel_rfl) (fun _ _ _ h => h) (Or.inl ⟨by rfl, ?_⟩) (by assumption) ?_
                            rotate_left
                            · (intro w hSw; (try dsimp only at hSw); go_simp; try rfl)
                            try simp only [Act.put, List.setIfInBounds_toArray, List.set_cons_zero, List.set_cons_succ, List.getElem_toArray, List.getElem_cons_zero, List.getElem_cons_succ]
                            refine wpAnyH_take (i := 24) (v := ?_) rfl (by kernel_rfl) (by kernel_rfl) (by kernel_rfl) (fun _ _ _ h => h) (Or.inl ⟨by rfl, ?_⟩) (by assumption) ?_
                            rotate_left
                            · (intro w hSw; (try dsimp only at hSw); go_simp; try rfl)
                            try simp only [Act.put, List.setIfInBounds_toArray, List.set_cons_zero, List.set_cons_succ, List.getElem_toArray, List.getElem_cons_zero, List.getElem_cons_succ]
                            refine wpAnyH_take (i := 25) (v := ?_) rfl (by kernel_rfl) (by kernel_rfl) (by kernel_rfl) (fun _ _ _ h => h) (Or.inl ⟨by rfl, ?_⟩) (by assumption) ?_
                            rotate_left
                            · (intro w hSw; (try dsimp only at hSw); go_simp; try rfl)
                            try simp only [Act.put, List.setIfInBounds_toArray, List.set_cons_zero, List.set_cons_succ, List.getElem_toArray, List.getElem_cons_zero, List.getElem_cons_succ]
                            refine wpAnyH_take (i := 26) (v := ?_) rfl (by kernel_rfl) (by kernel_rfl) (by kernel_rfl) (fun _ _ _ h => h) (Or.inl ⟨by rfl, ?_⟩) (by assumption) ?_
                            rotate_left
                            · (intro w hSw; (try dsimp only at hSw); go_simp; try rfl)
                            try simp only [Act.put, List.setIfInBounds_toArray, List.set_cons_zero, List.set_cons_succ, List.getElem_toArray, List.getElem_cons_zero, List.getElem_cons_succ]
                            refine wpAnyH_take (i := 27) (v := ?_) rfl (by kernel_rfl) (by kernel_rfl) (by kernel_rfl) (fun _ _ _ h => h) (Or.inl ⟨by rfl, ?_⟩) (by assumption) ?_
                            rotate_left
                            · (intro w hSw; (try dsimp only at hSw); go_simp; try rfl)
                            try simp only [Act.put, List.setIfInBounds_toArray, List.set_cons_zero, List.set_cons_succ, List.getElem_toArray, List.getElem_cons_zero, List.getElem_cons_succ]
                            refine wpAnyH_take (i := 28) (v := ?_) rfl (by kernel_rfl) (by kernel_rfl) (by kernel_rfl) (fun _ _ _ h => h) (Or.inl ⟨by rfl, ?_⟩) (by assumption) ?_
                            rotate_left
                            · (intro w hSw; (try dsimp only at hSw); go_simp; try rfl)
                            try simp only [Act.put, List.setIfInBounds_toArray, List.set_cons_zero, List.set_cons_succ, List.getElem_toArray, List.getElem_cons_zero, List.getElem_cons_succ]
                            refine wpAnyH_take (i := 29) (v := ?_) rfl (by kernel_rfl) (by kernel_rfl) (by kernel_rfl) (fun _ _ _ h => h) (Or.inl ⟨by rfl, ?_⟩) (by assumption) ?_
                            rotate_left
                            · (intro w hSw; (try dsimp only at hSw); go_simp; try rfl)
                            try simp only [Act.put, List.setIfInBounds_toArray, List.set_cons_zero, List.set_cons_succ, List.getElem_toArray, List.getElem_cons_zero, List.getElem_cons_succ]
                            refine wpAnyH_take (i := 30) (v := ?_) rfl (by kernel_rfl) (by kernel_rfl) (by kernel_rfl) (fun _ _ _ h => h) (Or.inl ⟨by rfl, ?_⟩) (by assumption) ?_
                            rotate_left
                            · (intro w hSw; (try dsimp only at hSw); go_simp; try rfl)
                            try simp only [Act.put, List.setIfInBounds_toArray, List.set_cons_zero, List.set_cons_succ, List.getElem_toArray, List.getElem_cons_zero, List.getElem_cons_succ]
                            refine wpAnyH_take (i := 31) (v := ?_) rfl (by kernel_rfl) (by kernel_rfl) (by kernel_rfl) (fun _ _ _ h => h) (Or.inl ⟨by rfl, ?_⟩) (by assumption) ?_
                            rotate_left
                            · (intro w hSw; (try dsimp only at hSw); go_simp; try rfl)
                            try simp only [Act.put, List.setIfInBounds_toArray, List.set_cons_zero, List.set_cons_succ, List.getElem_toArray, List.getElem_cons_zero, List.getElem_cons_succ]
                            refine wpAnyH_take (i := 32) (v := ?_) rfl (by kernel_rfl) (by kernel_rfl) (by kernel_rfl) (fun _ _ _ h => h) (Or.inl ⟨by rfl, ?_⟩) (by assumption) ?_
                            rotate_left
                            · (intro w hSw; (try dsimp only at hSw); go_simp; try rfl)
                            try simp only [Act.put, List.setIfInBounds_toArray, List.set_cons_zero, List.set_cons_succ, List.getElem_toArray, List.getElem_cons_zero, List.getElem_cons_succ]
                            refine wpAnyH_take (i := 33) (v := ?_) rfl (by kernel_rfl) (by kernel_rfl) (by kernel_rfl) (fun _ _ _ h => h) (Or.inl ⟨by rfl, ?_⟩) (by assumption) ?_
                            rotate_left
                            · (intro w hSw; (try dsimp only at hSw); go_simp; try rfl)
                            try simp only [Act.put, List.setIfInBounds_toArray, List.set_cons_zero, List.set_cons_succ, List.getElem_toArray, List.getElem_cons_zero, List.getElem_cons_succ]
                            refine wpAnyH_take (i := 34) (v := ?_) rfl (by kernel_rfl) (by kernel_rfl) (by kernel_rfl) (fun _ _ _ h => h) (Or.inl ⟨by rfl, ?_⟩) (by assumption) ?_
                            rotate_left
                            · (intro w hSw; (try dsimp only at hSw); go_simp; try rfl)
                            try simp only [Act.put, List.setIfInBounds_toArray, List.set_cons_zero, List.set_cons_succ, List.getElem_toArray, List.getElem_cons_zero, List.getElem_cons_succ]
                            refine wpAnyH_take (i := 35) (v := ?_) rfl (by kernel_rfl) (by kernel_rfl) (by kernel_rfl) (fun _ _ _ h => h) (Or.inl ⟨by rfl, ?_⟩) (by assumption) ?_
                            rotate_left
                            · (intro w hSw; (try dsimp only at hSw); go_simp; try rfl)
                            try simp only [Act.put, List.setIfInBounds_toArray, List.set_cons_zero, List.set_cons_succ, List.getElem_toArray, List.getElem_cons_zero, List.getElem_cons_succ]
                            refine wpAnyH_take (i := 36) (v := ?_) rfl (by kernel_rfl) (by kernel_rfl) (by kernel_rfl) (fun _ _ _ h => h) (Or.inl ⟨by rfl, ?_⟩) (by assumption) ?_
                            rotate_left
                            · (intro w hSw; (try dsimp only at hSw); go_simp; try rfl)
                            try simp only [Act.put, List.setIfInBounds_toArray, List.set_cons_zero, List.set_cons_succ, List.getElem_toArray, List.getElem_cons_zero, List.getElem_cons_succ]
                            refine wpAnyH_done (by kernel_rfl) ?_ _
                            go_split_ands
                            have HL8 : Hid (MacAt X gM d bk sb (61 + k + 1) (runM mc4 (tsb.take (k + 1)) r0) w8) := Lib.hid (by rw [HRN.out]; exact HM5.out.on hb8)
                            have HS8 : Hid (SmM (runM mc4 (tsb.take (k + 1)) r0)) := Lib.hid (by rw [HRN.out]; exact HS5.out)
                            have HR8 := Lib.hid (HR5.out.on hb8)
                            have HI8 : Hid (GoneI (runM mc4 (tsb.take (k + 1)) r0) ⟨cl, sq, op, pa, va, ver, ca, cb⟩ (decide (sq < t.sq)) ⟨er4, vl4, vr4, ns4⟩) := Lib.hid (by
                              have h0 := HGN.out
                              rw [HRN.out]
                              simp only [cnd, Z0.out, HVV.out, Z1.out, Bool.true_and, Bool.false_or] at h0
                              exact h0)
                            clear HK17
                            try clear hb
                            clear hb8 HM5 HS5 HR5 HGN HRN
                            go_wp2
                            go_roundw
                            case rel => exact ⟨k + 1, (decide (sq < t.sq)), by omega, rfl, by go_num, HL8, HS8, HI8, HR8⟩
                            case measure => simp [intOf]; omega
                          · have z1 : (t.cl == cl) = false := by simpa using h1
                            have Z1 := Lib.hid z1
                            clear h1
                            refine wp_region_held_drew (S := (fun w' => w'.cell? ⟨g, off + k * 8, none⟩ = some (.int .i64 t.cl) ∧ w'.cell? ⟨g, off + k * 8 + 1, none⟩ = some (.int .i64 t.sq) ∧ w'.cell? ⟨g, off + k * 8 + 2, none⟩ = some (.int .i64 t.op) ∧ w'.cell? ⟨g, off + k * 8 + 3, none⟩ = some (.string t.pa) ∧ w'.cell? ⟨g, off + k * 8 + 4, none⟩ = some (.string t.va) ∧ w'.cell? ⟨g, off + k * 8 + 5, none⟩ = some (.int .i64 t.ver) ∧ w'.cell? ⟨g, off + k * 8 + 6, none⟩ = some (.int .i64 t.a) ∧ w'.cell? ⟨g, off + k * 8 + 7, none⟩ = some (.int .i64 t.b) ∧ w'.cell? ⟨g0, 0, none⟩ = some (.int .i64 cl) ∧ w'.cell? ⟨g0, 1, none⟩ = some (.int .i64 sq) ∧ Below w5.heap.size w5 w')) (by kernel_rfl) ?_ (fun hHeld => ?_)
                            · ((first
                              | exact HK17.out _ (Below.refl _ _)
                              | exact HK17.out _ (Below.refl _ _).drew
                              | exact HK17.out _ hb8
                              | fail))
                            refine wpAnyH_take (i := 0) (v := ?_) rfl (by kernel_rfl) (by kernel_rfl) (by kernel_rfl) (fun _ _ _ h => h) (Or.inl ⟨by rfl, ?_⟩) (by assumption) ?_
                            rotate_left
                            · (intro w hSw; (try dsimp only at hSw); go_simp; try rfl)
                            try simp only [Act.put, List.setIfInBounds_toArray, List.set_cons_zero, List.set_cons_succ, List.getElem_toArray, List.getElem_cons_zero, List.getElem_cons_succ]
                            refine wpAnyH_take (i := 1) (v := ?_) rfl (by kernel_rfl) (by kernel_rfl) (by kernel_rfl) (fun _ _ _ h => h) (Or.inl ⟨by rfl, ?_⟩) (by assumption) ?_
                            rotate_left
                            · (intro w hSw; (try dsimp only at hSw); go_simp; try rfl)
                            try simp only [Act.put, List.setIfInBounds_toArray, List.set_cons_zero, List.set_cons_succ, List.getElem_toArray, List.getElem_cons_zero, List.getElem_cons_succ]
                            refine wpAnyH_take (i := 2) (v := ?_) rfl (by kernel_rfl) (by kernel_rfl) (by kernel_rfl) (fun _ _ _ h => h) (Or.inl ⟨by rfl, ?_⟩) (by assumption) ?_
                            rotate_left
                            · (intro w hSw; (try dsimp only at hSw); go_simp; try rfl)
                            try simp only [Act.put, List.setIfInBounds_toArray, List.set_cons_zero, List.set_cons_succ, List.getElem_toArray, List.getElem_cons_zero, List.getElem_cons_succ]
                            refine wpAnyH_take (i := 3) (v := ?_) rfl (by kernel_rfl) (by kernel_rfl) (by kernel_rfl) (fun _ _ _ h => h) (Or.inl ⟨by rfl, ?_⟩) (by assumption) ?_
                            rotate_left
                            · (intro w hSw; (try dsimp only at hSw); go_simp; try rfl)
                            try simp only [Act.put, List.setIfInBounds_toArray, List.set_cons_zero, List.set_cons_succ, List.getElem_toArray, List.getElem_cons_zero, List.getElem_cons_succ]
                            refine wpAnyH_take (i := 4) (v := ?_) rfl (by kernel_rfl) (by kernel_rfl) (by kernel_rfl) (fun _ _ _ h => h) (Or.inl ⟨by rfl, ?_⟩) (by assumption) ?_
                            rotate_left
                            · (intro w hSw; (try dsimp only at hSw); go_simp; try rfl)
                            try simp only [Act.put, List.setIfInBounds_toArray, List.set_cons_zero, List.set_cons_succ, List.getElem_toArray, List.getElem_cons_zero, List.getElem_cons_succ]
                            refine wpAnyH_take (i := 5) (v := ?_) rfl (by kernel_rfl) (by kernel_rfl) (by kernel_rfl) (fun _ _ _ h => h) (Or.inl ⟨by rfl, ?_⟩) (by assumption) ?_
                            rotate_left
                            · (intro w hSw; (try dsimp only at hSw); go_simp; try rfl)
                            try simp only [Act.put, List.setIfInBounds_toArray, List.set_cons_zero, List.set_cons_succ, List.getElem_toArray, List.getElem_cons_zero, List.getElem_cons_succ]
                            refine wpAnyH_take (i := 6) (v := ?_) rfl (by kernel_rfl) (by kernel_rfl) (by kernel_rfl) (fun _ _ _ h => h) (Or.inl ⟨by rfl, ?_⟩) (by assumption) ?_
                            rotate_left
                            · (intro w hSw; (try dsimp only at hSw); go_simp; try rfl)
                            try simp only [Act.put, List.setIfInBounds_toArray, List.set_cons_zero, List.set_cons_succ, List.getElem_toArray, List.getElem_cons_zero, List.getElem_cons_succ]
                            refine wpAnyH_take (i := 7) (v := ?_) rfl (by kernel_rfl) (by kernel_rfl) (by kernel_rfl) (fun _ _ _ h => h) (Or.inl ⟨by rfl, ?_⟩) (by assumption) ?_
                            rotate_left
                            · (intro w hSw; (try dsimp only at hSw); go_simp; try rfl)
                            try simp only [Act.put, List.setIfInBounds_toArray, List.set_cons_zero, List.set_cons_succ, List.getElem_toArray, List.getElem_cons_zero, List.getElem_cons_succ]
                            refine wpAnyH_take (i := 8) (v := ?_) rfl (by kernel_rfl) (by kernel_rfl) (by kernel_rfl) (fun _ _ _ h => h) (Or.inl ⟨by rfl, ?_⟩) (by assumption) ?_
                            rotate_left
                            · (intro w hSw; (try dsimp only at hSw); go_simp; try rfl)
                            try simp only [Act.put, List.setIfInBounds_toArray, List.set_cons_zero, List.set_cons_succ, List.getElem_toArray, List.getElem_cons_zero, List.getElem_cons_succ]
                            refine wpAnyH_take (i := 9) (v := ?_) rfl (by kernel_rfl) (by kernel_rfl) (by kernel_rfl) (fun _ _ _ h => h) (Or.inl ⟨by rfl, ?_⟩) (by assumption) ?_
                            rotate_left
                            · (intro w hSw; (try dsimp only at hSw); go_simp; try rfl)
                            try simp only [Act.put, List.setIfInBounds_toArray, List.set_cons_zero, List.set_cons_succ, List.getElem_toArray, List.getElem_cons_zero, List.getElem_cons_succ]
                            refine wpAnyH_take (i := 10) (v := ?_) rfl (by kernel_rfl) (by kernel_rfl) (by kernel_rfl) (fun _ _ _ h => h) (Or.inl ⟨by rfl, ?_⟩) (by assumption) ?_
                            rotate_left
                            · (intro w hSw; (try dsimp only at hSw); go_simp; try rfl)
                            try simp only [Act.put, List.setIfInBounds_toArray, List.set_cons_zero, List.set_cons_succ, List.getElem_toArray, List.getElem_cons_zero, List.getElem_cons_succ]
                            refine wpAnyH_take (i := 11) (v := ?_) rfl (by kernel_rfl) (by kernel_rfl) (by kernel_rfl) (fun _ _ _ h => h) (Or.inl ⟨by rfl, ?_⟩) (by assumption) ?_
                            rotate_left
                            · (intro w hSw; (try dsimp only at hSw); go_simp; try rfl)
                            try simp only [Act.put, List.setIfInBounds_toArray, List.set_cons_zero, List.set_cons_succ, List.getElem_toArray, List.getElem_cons_zero, List.getElem_cons_succ]
                            refine wpAnyH_take (i := 12) (v := ?_) rfl (by kernel_rfl) (by kernel_rfl) (by kernel_rfl) (fun _ _ _ h => h) (Or.inl ⟨by rfl, ?_⟩) (by assumption) ?_
                            rotate_left
                            · (intro w hSw; (try dsimp only at hSw); go_simp; try rfl)
                            try simp only [Act.put, List.setIfInBounds_toArray, List.set_cons_zero, List.set_cons_succ, List.getElem_toArray, List.getElem_cons_zero, List.getElem_cons_succ]
                            refine wpAnyH_ready (rs := [13]) (by kernel_rfl) (by simp) ?_
                            refine (AllReadyH.cons rfl (fun K hK => ?_) AllReadyH.nil)
                            go_simp
                            (go_at_call 20; refine (HVT.out _).mono ?_; rintro e w8 ⟨rfl, hb⟩; have hb8 : Below w5.heap.size w5 w8 := below_self (Below.refl _ _).drew hb)
                            refine hK.out _ _ ?_ (fun hHeld => ?_)
                            · ((first
                              | exact HK17.out _ (Below.refl _ _)
                              | exact HK17.out _ (Below.refl _ _).drew
                              | exact HK17.out _ hb8
                              | fail))
                            clear hK K
                            try simp only [Act.put, List.setIfInBounds_toArray, List.set_cons_zero, List.set_cons_succ, List.getElem_toArray, List.getElem_cons_zero, List.getElem_cons_succ]
                            refine wpAnyH_take (i := 14) (v := ?_) rfl (by kernel_rfl) (by kernel_rfl) (by kernel_rfl) (fun _ _ _ h => h) (Or.inl ⟨by rfl, ?_⟩) (by assumption) ?_
                            rotate_left
                            · (intro w hSw; (try dsimp only at hSw); go_simp; try rfl)
                            try simp only [Act.put, List.setIfInBounds_toArray, List.set_cons_zero, List.set_cons_succ, List.getElem_toArray, List.getElem_cons_zero, List.getElem_cons_succ]
                            refine wpAnyH_take (i := 15) (v := ?_) rfl (by kernel_rfl) (by kernel_rfl) (by kernel_rfl) (fun _ _ _ h => h) (Or.inl ⟨by rfl, ?_⟩) (by assumption) ?_
                            rotate_left
                            · (intro w hSw; (try dsimp only at hSw); go_simp; try rfl)
                            try simp only [Act.put, List.setIfInBounds_toArray, List.set_cons_zero, List.set_cons_succ, List.getElem_toArray, List.getElem_cons_zero, List.getElem_cons_succ]
                            refine wpAnyH_take (i := 16) (v := ?_) rfl (by kernel_rfl) (by kernel_rfl) (by kernel_rfl) (fun _ _ _ h => h) (Or.inl ⟨by rfl, ?_⟩) (by assumption) ?_
                            rotate_left
                            · (intro w hSw; (try dsimp only at hSw); go_simp; try rfl)
                            try simp only [Act.put, List.setIfInBounds_toArray, List.set_cons_zero, List.set_cons_succ, List.getElem_toArray, List.getElem_cons_zero, List.getElem_cons_succ]
                            refine wpAnyH_take (i := 17) (v := ?_) rfl (by kernel_rfl) (by kernel_rfl) (by kernel_rfl) (fun _ _ _ h => h) (Or.inl ⟨by rfl, ?_⟩) (by assumption) ?_
                            rotate_left
                            · (intro w hSw; (try dsimp only at hSw); go_simp; try rfl)
                            try simp only [Act.put, List.setIfInBounds_toArray, List.set_cons_zero, List.set_cons_succ, List.getElem_toArray, List.getElem_cons_zero, List.getElem_cons_succ]
                            refine wpAnyH_take (i := 18) (v := ?_) rfl (by kernel_rfl) (by kernel_rfl) (by kernel_rfl) (fun _ _ _ h => h) (Or.inl ⟨by rfl, ?_⟩) (by assumption) ?_
                            rotate_left
                            · (intro w hSw; (try dsimp only at hSw); go_simp; try rfl)
                            try simp only [Act.put, List.setIfInBounds_toArray, List.set_cons_zero, List.set_cons_succ, List.getElem_toArray, List.getElem_cons_zero, List.getElem_cons_succ]
                            refine wpAnyH_take (i := 19) (v := ?_) rfl (by kernel_rfl) (by kernel_rfl) (by kernel_rfl) (fun _ _ _ h => h) (Or.inl ⟨by rfl, ?_⟩) (by assumption) ?_
                            rotate_left
                            · (intro w hSw; (try dsimp only at hSw); go_simp; try rfl)
                            try simp only [Act.put, List.setIfInBounds_toArray, List.set_cons_zero, List.set_cons_succ, List.getElem_toArray, List.getElem_cons_zero, List.getElem_cons_succ]
                            refine wpAnyH_take (i := 20) (v := ?_) rfl (by kernel_rfl) (by kernel_rfl) (by kernel_rfl) (fun _ _ _ h => h) (Or.inl ⟨by rfl, ?_⟩) (by assumption) ?_
                            rotate_left
                            · (intro w hSw; (try dsimp only at hSw); go_simp; try rfl)
                            try simp only [Act.put, List.setIfInBounds_toArray, List.set_cons_zero, List.set_cons_succ, List.getElem_toArray, List.getElem_cons_zero, List.getElem_cons_succ]
                            refine wpAnyH_take (i := 21) (v := ?_) rfl (by kernel_rfl) (by kernel_rfl) (by kernel_rfl) (fun _ _ _ h => h) (Or.inl ⟨by rfl, ?_⟩) (by assumption) ?_
                            rotate_left
                            · (intro w hSw; (try dsimp only at hSw); go_simp; try rfl)
                            try simp only [Act.put, List.setIfInBounds_toArray, List.set_cons_zero, List.set_cons_succ, List.getElem_toArray, List.getElem_cons_zero, List.getElem_cons_succ]
                            refine wpAnyH_take (i := 22) (v := ?_) rfl (by kernel_rfl) (by kernel_rfl) (by kernel_rfl) (fun _ _ _ h => h) (Or.inl ⟨by rfl, ?_⟩) (by assumption) ?_
                            rotate_left
                            · (intro w hSw; (try dsimp only at hSw); go_simp; try rfl)
                            try simp only [Act.put, List.setIfInBounds_toArray, List.set_cons_zero, List.set_cons_succ, List.getElem_toArray, List.getElem_cons_zero, List.getElem_cons_succ]
                            refine wpAnyH_take (i := 23) (v := ?_) rfl (by kernel_rfl) (by kernel_rfl) (by kernel_rfl) (fun _ _ _ h => h) (Or.inl ⟨by rfl, ?_⟩) (by assumption) ?_
                            rotate_left
                            · (intro w hSw; (try dsimp only at hSw); go_simp; try rfl)
                            try simp only [Act.put, List.setIfInBounds_toArray, List.set_cons_zero, List.set_cons_succ, List.getElem_toArray, List.getElem_cons_zero, List.getElem_cons_succ]
                            refine wpAnyH_take (i := 24) (v := ?_) rfl (by kernel_rfl) (by kernel_rfl) (by kernel_rfl) (fun _ _ _ h => h) (Or.inl ⟨by rfl, ?_⟩) (by assumption) ?_
                            rotate_left
                            · (intro w hSw; (try dsimp only at hSw); go_simp; try rfl)
                            try simp only [Act.put, List.setIfInBounds_toArray, List.set_cons_zero, List.set_cons_succ, List.getElem_toArray, List.getElem_cons_zero, List.getElem_cons_succ]
                            refine wpAnyH_take (i := 25) (v := ?_) rfl (by kernel_rfl) (by kernel_rfl) (by kernel_rfl) (fun _ _ _ h => h) (Or.inl ⟨by rfl, ?_⟩) (by assumption) ?_
                            rotate_left
                            · (intro w hSw; (try dsimp only at hSw); go_simp; try rfl)
                            try simp only [Act.put, List.setIfInBounds_toArray, List.set_cons_zero, List.set_cons_succ, List.getElem_toArray, List.getElem_cons_zero, List.getElem_cons_succ]
                            refine wpAnyH_take (i := 26) (v := undef) rfl (by kernel_rfl) (by kernel_rfl) (by kernel_rfl) (fun _ _ _ h => h) (Or.inr ⟨by rfl, rfl⟩) (by assumption) ?_
                            try simp only [Act.put, List.setIfInBounds_toArray, List.set_cons_zero, List.set_cons_succ, List.getElem_toArray, List.getElem_cons_zero, List.getElem_cons_succ]
                            refine wpAnyH_take (i := 27) (v := undef) rfl (by kernel_rfl) (by kernel_rfl) (by kernel_rfl) (fun _ _ _ h => h) (Or.inr ⟨by rfl, rfl⟩) (by assumption) ?_
                            try simp only [Act.put, List.setIfInBounds_toArray, List.set_cons_zero, List.set_cons_succ, List.getElem_toArray, List.getElem_cons_zero, List.getElem_cons_succ]
                            refine wpAnyH_take (i := 28) (v := undef) rfl (by kernel_rfl) (by kernel_rfl) (by kernel_rfl) (fun _ _ _ h => h) (Or.inr ⟨by rfl, rfl⟩) (by assumption) ?_
                            try simp only [Act.put, List.setIfInBounds_toArray, List.set_cons_zero, List.set_cons_succ, List.getElem_toArray, List.getElem_cons_zero, List.getElem_cons_succ]
                            refine wpAnyH_take (i := 29) (v := undef) rfl (by kernel_rfl) (by kernel_rfl) (by kernel_rfl) (fun _ _ _ h => h) (Or.inr ⟨by rfl, rfl⟩) (by assumption) ?_
                            try simp only [Act.put, List.setIfInBounds_toArray, List.set_cons_zero, List.set_cons_succ, List.getElem_toArray, List.getElem_cons_zero, List.getElem_cons_succ]
                            refine wpAnyH_take (i := 30) (v := undef) rfl (by kernel_rfl) (by kernel_rfl) (by kernel_rfl) (fun _ _ _ h => h) (Or.inr ⟨by rfl, rfl⟩) (by assumption) ?_
                            try simp only [Act.put, List.setIfInBounds_toArray, List.set_cons_zero, List.set_cons_succ, List.getElem_toArray, List.getElem_cons_zero, List.getElem_cons_succ]
                            refine wpAnyH_take (i := 31) (v := undef) rfl (by kernel_rfl) (by kernel_rfl) (by kernel_rfl) (fun _ _ _ h => h) (Or.inr ⟨by rfl, rfl⟩) (by assumption) ?_
                            try simp only [Act.put, List.setIfInBounds_toArray, List.set_cons_zero, List.set_cons_succ, List.getElem_toArray, List.getElem_cons_zero, List.getElem_cons_succ]
                            refine wpAnyH_take (i := 32) (v := undef) rfl (by kernel_rfl) (by kernel_rfl) (by kernel_rfl) (fun _ _ _ h => h) (Or.inr ⟨by rfl, rfl⟩) (by assumption) ?_
                            try simp only [Act.put, List.setIfInBounds_toArray, List.set_cons_zero, List.set_cons_succ, List.getElem_toArray, List.getElem_cons_zero, List.getElem_cons_succ]
                            refine wpAnyH_take (i := 33) (v := undef) rfl (by kernel_rfl) (by kernel_rfl) (by kernel_rfl) (fun _ _ _ h => h) (Or.inr ⟨by rfl, rfl⟩) (by assumption) ?_
                            try simp only [Act.put, List.setIfInBounds_toArray, List.set_cons_zero, List.set_cons_succ, List.getElem_toArray, List.getElem_cons_zero, List.getElem_cons_succ]
                            refine wpAnyH_take (i := 34) (v := ?_) rfl (by kernel_rfl) (by kernel_rfl) (by kernel_rfl) (fun _ _ _ h => h) (Or.inl ⟨by rfl, ?_⟩) (by assumption) ?_
                            rotate_left
                            · (intro w hSw; (try dsimp only at hSw); go_simp; try rfl)
                            try simp only [Act.put, List.setIfInBounds_toArray, List.set_cons_zero, List.set_cons_succ, List.getElem_toArray, List.getElem_cons_zero, List.getElem_cons_succ]
                            refine wpAnyH_take (i := 35) (v := ?_) rfl (by kernel_rfl) (by kernel_rfl) (by kernel_rfl) (fun _ _ _ h => h) (Or.inl ⟨by rfl, ?_⟩) (by assumption) ?_
                            rotate_left
                            · (intro w hSw; (try dsimp only at hSw); go_simp; try rfl)
                            try simp only [Act.put, List.setIfInBounds_toArray, List.set_cons_zero, List.set_cons_succ, List.getElem_toArray, List.getElem_cons_zero, List.getElem_cons_succ]
                            refine wpAnyH_take (i := 36) (v := ?_) rfl (by kernel_rfl) (by kernel_rfl) (by kernel_rfl) (fun _ _ _ h => h) (Or.inl ⟨by rfl, ?_⟩) (by assumption) ?_
                            rotate_left
                            · (intro w hSw; (try dsimp only at hSw); go_simp; try rfl)
                            try simp only [Act.put, List.setIfInBounds_toArray, List.set_cons_zero, List.set_cons_succ, List.getElem_toArray, List.getElem_cons_zero, List.getElem_cons_succ]
                            refine wpAnyH_done (by kernel_rfl) ?_ _
                            go_split_ands
                            have HL8 : Hid (MacAt X gM d bk sb (61 + k + 1) (runM mc4 (tsb.take (k + 1)) r0) w8) := Lib.hid (by rw [HRN.out]; exact HM5.out.on hb8)
                            have HS8 : Hid (SmM (runM mc4 (tsb.take (k + 1)) r0)) := Lib.hid (by rw [HRN.out]; exact HS5.out)
                            have HR8 := Lib.hid (HR5.out.on hb8)
                            have HI8 : Hid (GoneI (runM mc4 (tsb.take (k + 1)) r0) ⟨cl, sq, op, pa, va, ver, ca, cb⟩ false ⟨er4, vl4, vr4, ns4⟩) := Lib.hid (by
                              have h0 := HGN.out
                              rw [HRN.out]
                              simp only [cnd, Z0.out, HVV.out, Z1.out, Bool.true_and, Bool.false_and, Bool.or_false] at h0
                              exact h0)
                            clear HK17
                            try clear hb
                            clear hb8 HM5 HS5 HR5 HGN HRN
                            go_wp2
                            go_roundw
                            case rel => exact ⟨k + 1, false, by omega, rfl, by go_num, HL8, HS8, HI8, HR8⟩
                            case measure => simp [intOf]; omega
                  · obtain rfl : nb = k := by omega
                    have hlt' : ¬ (nb : Int) < (nb : Int) := by omega
                    obtain ⟨mz, hmz⟩ : ∃ x, runM mc4 (tsb.take nb) r0 = x := ⟨_, rfl⟩
                    rw [hmz] at hL hS hI
                    have HLz : Hid (MacAt X gM d bk sb (61 + 60) mz wr) := Lib.hid (hL.out.mono (by omega))
                    have HI7 := hI
                    clear hmz hlt hL hI
                    go_wp2_with fail
                    refine (mclone_any HLz.out).mono ?_
                    rintro e w3 ⟨g2, d2, b2, s2, he, hM2, hlo, hb⟩
                    have he := he.out
                    subst he
                    have HAP : Hid (Ap bk sb b2 s2) := Lib.hid (by have := HLz.out.lt; constructor <;> omega)
                    have HC7 := Lib.hid hM2
                    have HM7 := Lib.hid (HLz.out.on hb)
                    have HR7 := Lib.hid (hR.out.on hb)
                    clear hM2 hlo hb HLz hR
                    obtain ⟨m0, m1, m2, m3, m4, m5, m6, m7⟩ := HCB.out w3 HM7.out.lw.below
                    simp only at m0 m1 m2 m3 m4 m5 m6 m7
                    go_wp2_with fail
                    cases G with
                    | true =>
                      refine (mapply_any HM7.out hS.out ⟨cl, sq, op, pa, va, ver, ca, cb⟩ ⟨0, v0, 99, []⟩ (.slice none 0 0) (Knd.Rd.nil _) (by simp) (by simp) (by omega) (show pa.size ≤ 1000 by omega)).mono ?_
                      have HLEN6 := Lib.hid HM7.out.lw.len
                      obtain ⟨⟨⟨er6, vl6, vr6, ns6⟩, mc6⟩, hR6⟩ : ∃ R, appM mz ⟨cl, sq, op, pa, va, ver, ca, cb⟩ ⟨0, v0, 99, []⟩ = R := ⟨_, rfl⟩
                      have HS6 : Hid (SmM mc6) := Lib.hid (by
                        have h1 := hS.out.app (by have := HLEN6.out; omega) ⟨cl, sq, op, pa, va, ver, ca, cb⟩ ⟨0, v0, 99, []⟩ (by simp)
                        rw [hR6] at h1
                        exact h1)
                      rw [hR6]
                      have HE6 := Lib.hid hR6
                      rintro e w6 ⟨v6, he, hrd6, hM6, hT6⟩
                      have he := he.out
                      subst he
                      simp only at hrd6 hM6
                      obtain ⟨a6, c6, hv6⟩ := hrd6.slice
                      obtain ⟨M6, hMM6⟩ : ∃ M, ns6.length = M := ⟨_, rfl⟩
                      rw [hMM6] at hv6
                      subst hv6
                      have HMM6 := Lib.hid hMM6
                      have hn6 := skrd_nms hrd6
                      obtain ⟨Z6, hZ6⟩ : ∃ Z, w6.alloc (.cells #[.int .i64 er6, .string vl6, .int .i64 vr6, .slice a6 M6 c6] 28) = Z := ⟨_, rfl⟩
                      obtain ⟨g6, hgg6⟩ : ∃ g, w6.heap.size = g := ⟨_, rfl⟩
                      have HB6 : Hid (RB g6 ⟨er6, vl6, vr6, ns6⟩ Z6) := Lib.hid (by rw [← hZ6, ← hgg6]; exact RB.mk' _ hn6)
                      have HM6 := Lib.hid (hM6.box #[.int .i64 er6, .string vl6, .int .i64 vr6, .slice a6 M6 c6] 28)
                      rw [hZ6] at HM6
                      have HR7b := Lib.hid ((HR7.out.two HM7.out hT6).on ((Below.refl _ _).alloc (Nat.le_refl _) (.cells #[.int .i64 er6, .string vl6, .int .i64 vr6, .slice a6 M6 c6] 28)))
                      rw [hZ6] at HR7b
                      have HC7b := Lib.hid ((HC7.out.two2 HM7.out HAP.out hT6).box #[.int .i64 er6, .string vl6, .int .i64 vr6, .slice a6 M6 c6] 28)
                      rw [hZ6] at HC7b
                      clear HM7 HR7 HC7 hrd6 hM6 hT6 hR6 hn6 hMM6
                      have hq := HE6.out
                      rw [gone_last HI7.out HH0.out HV.out] at hq
                      simp only [Bool.false_eq_true, if_true, if_false, bad, Prod.mk.injEq, Rep.mk.injEq] at hq
                      obtain ⟨⟨rfl, rfl, rfl, rfl⟩, rfl⟩ := hq
                      clear HE6 m0 m1 m2 m3 m4 m5 m6 m7 HMM6
                      by_cases h6 : er4 = 6
                      · obtain ⟨rfl, rfl, rfl⟩ := HBAD.out h6
                        subst h6
                        have t40 := HR7b.out.c0
                        have t41 := HR7b.out.c1
                        have t42 := HR7b.out.c2
                        simp only at t40 t41 t42
                        obtain ⟨v43, t43, hn43⟩ := HR7b.out.c3
                        simp only at hn43
                        have HN43 := Lib.hid hn43
                        clear hn43
                        have t60 := HB6.out.c0
                        have t61 := HB6.out.c1
                        have t62 := HB6.out.c2
                        simp only at t60 t61 t62
                        obtain ⟨v63, t63, hn63⟩ := HB6.out.c3
                        simp only at hn63
                        have HN63 := Lib.hid hn63
                        clear hn63
                        go_wp2_with fail
                        try rw [hZ6]
                        try rw [hgg6]
                        clear hZ6 hgg6
                        refine (same_any (bad 6) v43 v63 Z6 HN43.out HN63.out).mono ?_
                        rintro e w8 ⟨rfl, hb⟩
                        have HB6c := Lib.hid (HB6.out.on hb)
                        have HM8 := Lib.hid (HM6.out.on hb)
                        have HC8 := Lib.hid (HC7b.out.on hb)
                        clear hb t40 t41 t42 t43 t60 t61 t62 t63 HN43 HN63 HB6 HR7b HM6 HC7b
                        have t60 := HB6c.out.c0
                        have t61 := HB6c.out.c1
                        have t62 := HB6c.out.c2
                        simp only at t60 t61 t62
                        go_wp2_with fail
                        refine (msame_any HM8.out HC8.out HS6.out (by omega) (by omega)).mono ?_
                        rintro e w9 ⟨rfl, hb⟩
                        have HM9 := Lib.hid (HM8.out.on hb)
                        clear hb HM8 HC8
                        go_wp2
                        go_ret
                        exact ⟨rfl, HB.out.trans (HM9.out.lw.below.mono HB.out.size)⟩
                      · have H6 := Lib.hid h6
                        clear h6
                        have t40 := HR7b.out.c0
                        have t41 := HR7b.out.c1
                        have t42 := HR7b.out.c2
                        simp only at t40 t41 t42
                        obtain ⟨v43, t43, hn43⟩ := HR7b.out.c3
                        simp only at hn43
                        have HN43 := Lib.hid hn43
                        clear hn43
                        have t60 := HB6.out.c0
                        have t61 := HB6.out.c1
                        have t62 := HB6.out.c2
                        simp only at t60 t61 t62
                        obtain ⟨v63, t63, hn63⟩ := HB6.out.c3
                        simp only at hn63
                        have HN63 := Lib.hid hn63
                        clear hn63
                        obtain ⟨aa, cc, hvv, _⟩ := HN43.out
                        subst hvv
                        obtain ⟨ab2, cb2, hvb, _⟩ := HN63.out
                        subst hvb
                        go_wp2_with fail
                        try rw [hZ6]
                        try rw [hgg6]
                        clear hZ6 hgg6
                        refine (same_err er4 vl4 vr4 aa ns4.length cc 6 v0 0 ab2 0 cb2 Z6 H6.out).mono ?_
                        rintro e w8 ⟨rfl, hb⟩
                        have HB6c := Lib.hid (HB6.out.on hb)
                        have HM8 := Lib.hid (HM6.out.on hb)
                        have HC8 := Lib.hid (HC7b.out.on hb)
                        clear hb t40 t41 t42 t43 t60 t61 t62 t63 HN43 HN63 HB6 HR7b HM6 HC7b
                        have t60 := HB6c.out.c0
                        have t61 := HB6c.out.c1
                        have t62 := HB6c.out.c2
                        simp only at t60 t61 t62
                        go_wp2_with fail
                        refine (msame_any HM8.out HC8.out HS6.out (by omega) (by omega)).mono ?_
                        rintro e w9 ⟨rfl, hb⟩
                        have HM9 := Lib.hid (HM8.out.on hb)
                        clear hb HM8 HC8
                        go_wp2
                        go_ret
                        exact ⟨rfl, HB.out.trans (HM9.out.lw.below.mono HB.out.size)⟩
                    | false =>
                      refine (mapply_any HM7.out hS.out ⟨cl, sq, op, pa, va, ver, ca, cb⟩ ⟨0, v0, 99, []⟩ (.slice none 0 0) (Knd.Rd.nil _) (by simp) (by simp) (by omega) (show pa.size ≤ 1000 by omega)).mono ?_
                      have HLEN6 := Lib.hid HM7.out.lw.len
                      obtain ⟨⟨⟨er6, vl6, vr6, ns6⟩, mc6⟩, hR6⟩ : ∃ R, appM mz ⟨cl, sq, op, pa, va, ver, ca, cb⟩ ⟨0, v0, 99, []⟩ = R := ⟨_, rfl⟩
                      have HS6 : Hid (SmM mc6) := Lib.hid (by
                        have h1 := hS.out.app (by have := HLEN6.out; omega) ⟨cl, sq, op, pa, va, ver, ca, cb⟩ ⟨0, v0, 99, []⟩ (by simp)
                        rw [hR6] at h1
                        exact h1)
                      rw [hR6]
                      have HE6 := Lib.hid hR6
                      rintro e w6 ⟨v6, he, hrd6, hM6, hT6⟩
                      have he := he.out
                      subst he
                      simp only at hrd6 hM6
                      obtain ⟨a6, c6, hv6⟩ := hrd6.slice
                      obtain ⟨M6, hMM6⟩ : ∃ M, ns6.length = M := ⟨_, rfl⟩
                      rw [hMM6] at hv6
                      subst hv6
                      have HMM6 := Lib.hid hMM6
                      have hn6 := skrd_nms hrd6
                      obtain ⟨Z6, hZ6⟩ : ∃ Z, w6.alloc (.cells #[.int .i64 er6, .string vl6, .int .i64 vr6, .slice a6 M6 c6] 28) = Z := ⟨_, rfl⟩
                      obtain ⟨g6, hgg6⟩ : ∃ g, w6.heap.size = g := ⟨_, rfl⟩
                      have HB6 : Hid (RB g6 ⟨er6, vl6, vr6, ns6⟩ Z6) := Lib.hid (by rw [← hZ6, ← hgg6]; exact RB.mk' _ hn6)
                      have HM6 := Lib.hid (hM6.box #[.int .i64 er6, .string vl6, .int .i64 vr6, .slice a6 M6 c6] 28)
                      rw [hZ6] at HM6
                      have HR7b := Lib.hid ((HR7.out.two HM7.out hT6).on ((Below.refl _ _).alloc (Nat.le_refl _) (.cells #[.int .i64 er6, .string vl6, .int .i64 vr6, .slice a6 M6 c6] 28)))
                      rw [hZ6] at HR7b
                      have HC7b := Lib.hid ((HC7.out.two2 HM7.out HAP.out hT6).box #[.int .i64 er6, .string vl6, .int .i64 vr6, .slice a6 M6 c6] 28)
                      rw [hZ6] at HC7b
                      clear HM7 HR7 HC7 hrd6 hM6 hT6 hR6 hn6 hMM6
                      have hq := HE6.out
                      rw [gone_last HI7.out HH0.out HV.out] at hq
                      simp only [Bool.false_eq_true, if_true, if_false, bad, Prod.mk.injEq, Rep.mk.injEq] at hq
                      obtain ⟨⟨rfl, rfl, rfl, rfl⟩, rfl⟩ := hq
                      clear HE6 m0 m1 m2 m3 m4 m5 m6 m7 HMM6
                      have t40 := HR7b.out.c0
                      have t41 := HR7b.out.c1
                      have t42 := HR7b.out.c2
                      simp only at t40 t41 t42
                      obtain ⟨v43, t43, hn43⟩ := HR7b.out.c3
                      simp only at hn43
                      have HN43 := Lib.hid hn43
                      clear hn43
                      have t60 := HB6.out.c0
                      have t61 := HB6.out.c1
                      have t62 := HB6.out.c2
                      simp only at t60 t61 t62
                      obtain ⟨v63, t63, hn63⟩ := HB6.out.c3
                      simp only at hn63
                      have HN63 := Lib.hid hn63
                      clear hn63
                      go_wp2_with fail
                      try rw [hZ6]
                      try rw [hgg6]
                      clear hZ6 hgg6
                      refine (same_any ⟨_, _, _, _⟩ v43 v63 Z6 HN43.out HN63.out).mono ?_
                      rintro e w8 ⟨rfl, hb⟩
                      have HB6c := Lib.hid (HB6.out.on hb)
                      have HM8 := Lib.hid (HM6.out.on hb)
                      have HC8 := Lib.hid (HC7b.out.on hb)
                      clear hb t40 t41 t42 t43 t60 t61 t62 t63 HN43 HN63 HB6 HR7b HM6 HC7b
                      have t60 := HB6c.out.c0
                      have t61 := HB6c.out.c1
                      have t62 := HB6c.out.c2
                      simp only at t60 t61 t62
                      go_wp2_with fail
                      refine (msame_any HM8.out HC8.out HS6.out (by omega) (by omega)).mono ?_
                      rintro e w9 ⟨rfl, hb⟩
                      have HM9 := Lib.hid (HM8.out.on hb)
                      clear hb HM8 HC8
                      go_wp2
                      go_ret
                      exact ⟨rfl, HB.out.trans (HM9.out.lw.below.mono HB.out.size)⟩
end Go.Proofs.YtbebjpfbbidaiaaGreat
