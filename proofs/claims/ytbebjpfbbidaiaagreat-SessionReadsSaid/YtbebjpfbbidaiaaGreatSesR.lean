/-
  What a client reads is what was there; read again it is what was told.
-/
import Derived.IntWalk
import Derived.BigQuiet
import Derived.Test.YtbebjpfbbidaiaaGreatSesF
namespace Go.Proofs.YtbebjpfbbidaiaaGreat
open Go.RowKit
set_option linter.unusedSimpArgs false
set_option linter.unusedVariables false

theorem act_some {s : List S3} {c : Cm} (h0 : c.op ≠ 0) (hv : valS c.cl c.sq = true) {q : Int} {r : Rep} (hf : fndS s c.cl = some (q, r)) : actM s c = if c.sq < q then some (bad 6) else if q = c.sq then some r else none := by
  unfold actM
  rw [if_neg h0, if_neg (by simp [hv]), hf]
theorem act_none {s : List S3} {c : Cm} (h0 : c.op ≠ 0) (hv : valS c.cl c.sq = true) (hf : fndS s c.cl = none) : actM s c = none := by
  unfold actM
  rw [if_neg h0, if_neg (by simp [hv]), hf]
def stepF (m : Mac) (t : Cm) : Mac := if t.cl = 77 then m else (appM m t r0).2
/-- What becomes of a machine by those of other clients. -/
def runF (m : Mac) (ts : List Cm) : Mac := ts.foldl stepF m
theorem runF_succ (m : Mac) (ts : List Cm) (k : Nat) (hk : k < ts.length) : runF m (ts.take (k + 1)) = stepF (runF m (ts.take k)) (ts.getD k default) := by
  unfold runF
  rw [List.take_succ_eq_append_getElem hk, List.foldl_append]
  have e : ts.getD k default = ts[k] := by rw [List.getD, List.getElem?_eq_getElem hk]; rfl
  rw [e]
  rfl
theorem runF_fnd : ∀ (ts : List Cm) {m : Mac}, RightM m → RightM (runF m ts) ∧ fndS (runF m ts).s 77 = fndS m.s 77
  | [], m, h => ⟨h, rfl⟩
  | t :: ts, m, h => by
    have hs : RightM (stepF m t) ∧ fndS (stepF m t).s 77 = fndS m.s 77 := by
      unfold stepF
      split
      · exact ⟨h, rfl⟩
      · rename_i g
        exact ⟨h.app t (by simp [bad]), by rw [fnd_app h, if_neg (fun q => g q.2)]⟩
    have := runF_fnd ts hs.1
    exact ⟨this.1, this.2.trans hs.2⟩
abbrev cR (p : ByteArray) : Cm := ⟨77, 1, 4, p, v0, 0, 0, 0⟩
theorem first_read {m : Mac} (hf : fndS m.s 77 = none) (p : ByteArray) : appM m (cR p) r0 = ((appD m.l 4 p v0 0).1, ⟨m.l, putS m.s 77 1 (appD m.l 4 p v0 0).1⟩) := by
  have ha := act_none (c := cR p) (s := m.s) (by simp) (by rfl) hf
  have e : appM m (cR p) r0 = doM m (cR p) r0 := by unfold appM; rw [ha]
  rw [e]
  unfold doM
  rw [show Tc.ctl (cR p).op = false from rfl]
  simp only [Bool.false_eq_true, if_false, (gt_names m.l p v0 0).2]
theorem again_read {m : Mac} {R : Rep} {p : ByteArray} (hf : fndS m.s 77 = some (1, R)) : appM m (cR p) r0 = (R, m) := by
  have ha := act_some (c := cR p) (s := m.s) (by simp) (by rfl) hf
  rw [if_neg (by simp), if_pos rfl] at ha
  unfold appM
  rw [ha]
theorem read_entry {l : List E3} (h : RightD l) {p v : ByteArray} {n : Int} (hm : (p, v, n) ∈ l) : (appD l 4 p v0 0).1 = ⟨0, v, n, []⟩ := by
  rw [app4 (h.keys _ hm).1, gt_some ((fndD_some h.rise).2 hm)]
set_option maxRecDepth 100000 in
set_option maxHeartbeats 16000000 in
theorem sessionReads_walk (a : Option Addr) (n c : Nat) (ts : List Cm) (p : ByteArray) (ab : Option Addr) (nb cb : Nat) (tsb : List Cm) (w : World) (hn : n = ts.length) (hC : CRd w a ts) (hnb : nb = tsb.length) (hCb : CRd w ab tsb) (hm : ML w) :
    Calls Tryz.prog 9 #[.slice a n c, .string p, .slice ab nb cb] w fun e w' => e = .returned (.bool true) ∧ Below w.heap.size w w' := by
  obtain ⟨X, rfl⟩ : ∃ X : World, X = w := ⟨w, rfl⟩
  have hB : Below X.heap.size X X := Below.refl _ _
  have HNb := Lib.hid hnb
  have HCb := Lib.hid (hCb.below hB)
  clear hnb hCb
  have HN := Lib.hid hn
  have HMX := Lib.hid (hm.below hB)
  have HC := Lib.hid (hC.below hB)
  have HB := Lib.hid hB
  clear hn hm hC hB
  go_enter Tryz.func9, Tryz.ntmps9
  go_wp2_with fail
  refine (works9_any _ HMX.out).mono ?_
  rintro e w1 ⟨rfl, hb⟩
  have HB1 := Lib.hid hb
  have HM1 := Lib.hid (HMX.out.below hb)
  clear hb HMX
  go_wp2_with fail
  refine (over_any a n c ts w1 HN.out (HC.out.below HB1.out)).mono ?_
  rintro e w' ⟨rfl, rfl⟩
  obtain ⟨O, hO⟩ : ∃ O, ovB ts = O := ⟨_, rfl⟩
  rw [hO]
  have HO := Lib.hid hO
  clear hO
  cases O with
  | true =>
    go_wp2
    go_ret
    exact ⟨rfl, HB.out.trans (HB1.out.mono HB.out.size)⟩
  | false =>
    have hov := ovB_no HO.out
    have hn60 : n ≤ 60 := by have := HN.out; omega
    have HS := Lib.hid hov.2
    clear hov HO
    go_wp2_with fail
    refine (over_any ab nb cb tsb w1 HNb.out (HCb.out.below HB1.out)).mono ?_
    rintro e w' ⟨rfl, rfl⟩
    obtain ⟨O2, hO2⟩ : ∃ O, ovB tsb = O := ⟨_, rfl⟩
    rw [hO2]
    have HO2 := Lib.hid hO2
    clear hO2
    cases O2 with
    | true =>
      go_wp2
      go_ret
      exact ⟨rfl, HB.out.trans (HB1.out.mono HB.out.size)⟩
    | false =>
      have hovb := ovB_no HO2.out
      have hn60b : nb ≤ 60 := by have := HNb.out; omega
      have HSb := Lib.hid hovb.2
      clear hovb HO2
      by_cases y1 : (300 : Int) < p.size
      · go_wp2
        go_ret
        exact ⟨rfl, HB.out.trans (HB1.out.mono HB.out.size)⟩
      have hp300 : p.size ≤ 300 := by omega
      go_wp2_with fail
      refine (mnew_any HB1.out HM1.out).mono ?_
      rintro e w2 ⟨gM, d, bk, sb, he, hM⟩
      have he := he.out
      subst he
      have HK0 : Hid (MacAt X gM d bk sb (0 + 0) (runF ⟨[], []⟩ (ts.take 0)) w2) := Lib.hid hM
      have HSM0 : Hid (SmM (runF ⟨[], []⟩ (ts.take 0))) := Lib.hid SmM.empty
      clear hM HM1 HB1
      go_wp2_with fail
      go_loopw [9] (fun i wr => ∃ k : Nat, k ≤ n ∧ i = .int .i64 k ∧ Hid (MacAt X gM d bk sb (0 + k) (runF ⟨[], []⟩ (ts.take k)) wr) ∧ Hid (SmM (runF ⟨[], []⟩ (ts.take k)))) (fun i _ => n - (intOf i).toNat)
      case atStart => exact ⟨0, Nat.zero_le _, rfl, HK0, HSM0⟩
      case round =>
        clear HK0 HSM0 
        obtain ⟨k, hk, rfl, hL, hS⟩ := hrel
        by_cases hlt : k < n
        · have hlt' : (k : Int) < (n : Int) := by omega
          have hkl : k < ts.length := by have := HN.out; omega
          rcases (HC.out.below hL.out.lw.below).2 with h0 | ⟨g, off, ha, hg, hcm⟩
          · exfalso
            rw [h0] at hkl
            simp at hkl
          have hsz := (HS.out k hkl).1
          have hrs := runF_succ ⟨[], []⟩ ts k hkl
          obtain ⟨t, ht⟩ : ∃ t, ts.getD k default = t := ⟨_, rfl⟩
          have HKL := Lib.hid hkl
          have HCK : Hid (∀ W, Below X.heap.size X W → CmAt W g (off + k * 8) t) := Lib.hid (fun W hW => by
            rcases (HC.out.below hW).2 with h1 | ⟨g3, off3, ha3, _, hc3⟩
            · exfalso
              rw [h1] at hkl
              simp at hkl
            · rw [ha] at ha3
              simp only [Option.some.injEq, Addr.mk.injEq, and_true] at ha3
              obtain ⟨rfl, rfl⟩ := ha3
              rw [← ht]
              exact hc3 k hkl)
          rw [ht] at hsz hrs
          have HP := Lib.hid (show t.pa.size ≤ 1000 by omega)
          subst ha
          have HT := Lib.hid ht
          clear hcm hsz hg ht hkl
          obtain ⟨mk, hmk⟩ : ∃ x, runF ⟨[], []⟩ (ts.take k) = x := ⟨_, rfl⟩
          rw [hmk] at hL hS hrs
          have HRS := Lib.hid hrs
          clear hmk hrs
          obtain ⟨m0, m1, m2, m3, m4, m5, m6, m7⟩ := HCK.out wr hL.out.lw.below
          by_cases h77 : t.cl = 77
          · have z : (t.cl != 77) = false := by simp [h77]
            have HRN : Hid (runF ⟨[], []⟩ (ts.take (k + 1)) = mk) := Lib.hid (by rw [HRS.out]; unfold stepF; rw [if_pos h77])
            have HL8 : Hid (MacAt X gM d bk sb (0 + (k + 1)) (runF ⟨[], []⟩ (ts.take (k + 1))) wr) := Lib.hid (by rw [HRN.out]; exact hL.out.mono (by omega))
            have HS8 : Hid (SmM (runF ⟨[], []⟩ (ts.take (k + 1)))) := Lib.hid (by rw [HRN.out]; exact hS.out)
            clear h77 hL hS HRN HRS HCK
            go_wp2
            go_roundw
            case rel => exact ⟨k + 1, by omega, by go_num, HL8, HS8⟩
            case measure => simp [intOf]; omega
          · have z : (t.cl != 77) = true := by simpa using h77
            have H77 := Lib.hid h77
            clear h77
            go_wp2_with fail
            refine (mapply_any hL.out hS.out t r0 (.slice none 0 0) (Knd.Rd.nil _) (by simp [bad]) (by simp [bad]) (by omega) HP.out).mono ?_
            have HLEN9 := Lib.hid hL.out.lw.len
            obtain ⟨⟨⟨er9, vl9, vr9, ns9⟩, mc9⟩, hR9⟩ : ∃ R, appM mk t r0 = R := ⟨_, rfl⟩
            have HS9 : Hid (SmM mc9) := Lib.hid (by
              have h1 := hS.out.app (by have := HLEN9.out; omega) t r0 (by simp [bad])
              rw [hR9] at h1
              exact h1)
            rw [hR9]
            have HE9 := Lib.hid hR9
            rintro e w9 ⟨v9, he, hrd9, hM9, hT9⟩
            have he := he.out
            subst he
            simp only at hrd9 hM9
            obtain ⟨a9, c9, hv9⟩ := hrd9.slice
            obtain ⟨M9, hMM9⟩ : ∃ M, ns9.length = M := ⟨_, rfl⟩
            rw [hMM9] at hv9
            subst hv9
            have HMM9 := Lib.hid hMM9
            have hn9 := skrd_nms hrd9
            have HM9 := Lib.hid hM9
            clear hL hrd9 hM9 hT9 hR9 hn9 hMM9
            have HRN : Hid (runF ⟨[], []⟩ (ts.take (k + 1)) = mc9) := Lib.hid (by rw [HRS.out]; unfold stepF; rw [if_neg H77.out, HE9.out])
            have HL8 : Hid (MacAt X gM d bk sb (0 + k + 1) (runF ⟨[], []⟩ (ts.take (k + 1))) w9) := Lib.hid (by rw [HRN.out]; exact HM9.out)
            have HS8 : Hid (SmM (runF ⟨[], []⟩ (ts.take (k + 1)))) := Lib.hid (by rw [HRN.out]; exact HS9.out)
            clear HM9 HS9 HE9 HRN HRS HMM9 z m0 m1 m2 m3 m4 m5 m6 m7 HCK HT HP
            go_wp2
            go_roundw
            case rel => exact ⟨k + 1, by omega, by go_num, HL8, HS8⟩
            case measure => simp [intOf]; omega
        · obtain rfl : n = k := by omega
          have hlt' : ¬ (n : Int) < (n : Int) := by omega
          obtain ⟨mm, hmm⟩ : ∃ lx, runF ⟨[], []⟩ (ts.take n) = lx := ⟨_, rfl⟩
          rw [hmm] at hL hS
          have Hmm := Lib.hid hmm
          have HM : Hid (MacAt X gM d bk sb (0 + 60) mm wr) := Lib.hid (hL.out.mono (by omega))
          have HSM := hS
          clear hL hS hmm hlt
          have HF0 : Hid (fndS mm.s 77 = none) := Lib.hid (by
            have h0 := (runF_fnd (ts.take n) RightM.empty).2
            rw [Hmm.out] at h0
            exact h0)
          have HR0 := Lib.hid HM.out.right
          go_wp2_with fail
          obtain ⟨ZG, hZG⟩ : ∃ Z, wr.alloc (.cells #[.int .i64 77, .int .i64 1, .int .i64 4, .string p, .string v0, .int .i64 0, .int .i64 0, .int .i64 0] 49) = Z := ⟨_, rfl⟩
          obtain ⟨gG, hgG⟩ : ∃ g, wr.heap.size = g := ⟨_, rfl⟩
          have HG : Hid (CB gG (cR p) ZG) := Lib.hid (by rw [← hZG, ← hgG]; exact CB.mk' (cR p) _ _)
          have HMa := Lib.hid (HM.out.box #[.int .i64 77, .int .i64 1, .int .i64 4, .string p, .string v0, .int .i64 0, .int .i64 0, .int .i64 0] 49)
          rw [hZG] at HMa
          clear HM
          rw [hZG, hgG]
          clear hZG hgG
          refine (paths_any HMa.out (by omega)).mono ?_
          rintro e w4 ⟨v4, he, ho, hb⟩
          have he := he.out
          subst he
          obtain ⟨a4, c4, hv4⟩ := ho.slice
          obtain ⟨N4, hN4⟩ : ∃ N, mm.l.length = N := ⟨_, rfl⟩
          rw [hN4] at hv4
          subst hv4
          have HN4 := Lib.hid hN4
          clear hN4
          have HO4 := Lib.hid ho.rd
          have HM4 := Lib.hid (HMa.out.on hb)
          have HG4 := Lib.hid (HG.out.low hb)
          clear ho hb HMa HG
          obtain ⟨m0, m1, m2, m3, m4, m5, m6, m7⟩ := HG4.out
          simp only at m0 m1 m2 m3 m4 m5 m6 m7
          go_wp2_with fail
          refine (mapply_any HM4.out HSM.out (cR p) r0 (.slice none 0 0) (Knd.Rd.nil _) (by simp [bad]) (by simp [bad]) (by omega) (show p.size ≤ 1000 by omega)).mono ?_
          have HLEN5 := Lib.hid HM4.out.lw.len
          obtain ⟨⟨⟨er5, vl5, vr5, ns5⟩, mc5⟩, hR5⟩ : ∃ R, appM mm (cR p) r0 = R := ⟨_, rfl⟩
          have HS5 : Hid (SmM mc5) := Lib.hid (by
            have h1 := HSM.out.app (by have := HLEN5.out; omega) (cR p) r0 (by simp [bad])
            rw [hR5] at h1
            exact h1)
          rw [hR5]
          have HE5 := Lib.hid hR5
          rintro e w5 ⟨v5, he, hrd5, hM5, hT5⟩
          have he := he.out
          subst he
          simp only at hrd5 hM5
          obtain ⟨a5, c5, hv5⟩ := hrd5.slice
          obtain ⟨M5, hMM5⟩ : ∃ M, ns5.length = M := ⟨_, rfl⟩
          rw [hMM5] at hv5
          subst hv5
          have HMM5 := Lib.hid hMM5
          have hn5 := skrd_nms hrd5
          obtain ⟨Z5, hZ5⟩ : ∃ Z, w5.alloc (.cells #[.int .i64 er5, .string vl5, .int .i64 vr5, .slice a5 M5 c5] 28) = Z := ⟨_, rfl⟩
          obtain ⟨g5, hgg5⟩ : ∃ g, w5.heap.size = g := ⟨_, rfl⟩
          have HB5 : Hid (RB g5 ⟨er5, vl5, vr5, ns5⟩ Z5) := Lib.hid (by rw [← hZ5, ← hgg5]; exact RB.mk' _ hn5)
          have HM5 := Lib.hid (hM5.box #[.int .i64 er5, .string vl5, .int .i64 vr5, .slice a5 M5 c5] 28)
          rw [hZ5] at HM5
          have HG5 := Lib.hid ((HG4.out.two HM4.out hT5).low ((Below.refl _ _).alloc (Nat.le_refl _) (.cells #[.int .i64 er5, .string vl5, .int .i64 vr5, .slice a5 M5 c5] 28)))
          rw [hZ5] at HG5
          have HO5 := Lib.hid ((HO4.out.two HM4.out hT5).below ((Below.refl _ _).alloc (Nat.le_refl _) (.cells #[.int .i64 er5, .string vl5, .int .i64 vr5, .slice a5 M5 c5] 28)))
          rw [hZ5] at HO5
          clear HM4 HG4 HO4 hrd5 hM5 hT5 hR5 hn5 hMM5
          have hq := HE5.out
          rw [first_read HF0.out] at hq
          have hq1 := (Prod.mk.inj hq).1
          have hq2 := (Prod.mk.inj hq).2
          have HLL : Hid (mc5.l = mm.l) := Lib.hid (by rw [← hq2])
          have HF5 : Hid (fndS mc5.s 77 = some (1, ⟨er5, vl5, vr5, ns5⟩)) := Lib.hid (by rw [← hq2, fndS_put HR0.out.rise, if_pos rfl, hq1])
          have HRD : Hid (∀ v n, (p, v, n) ∈ mm.l → er5 = 0 ∧ vl5 = v ∧ vr5 = n) := Lib.hid (fun v n h => by
            have h1 := read_entry HR0.out.dir h
            rw [hq1] at h1
            simp only [Rep.mk.injEq] at h1
            exact ⟨h1.1, h1.2.1, h1.2.2.1⟩)
          have HR5 := Lib.hid HM5.out.right
          have hn4 : N4 ≤ 1000 := by have := HN4.out; have h1 := HM5.out.lw.len; have := HLL.out; rw [this] at h1; omega
          clear hq hq1 hq2 HE5 HMM5 m0 m1 m2 m3 m4 m5 m6 m7
          go_wp2_with fail
          try rw [hZ5]
          try rw [hgg5]
          clear hZ5 hgg5
          refine (paths_any HM5.out (by omega)).mono ?_
          rintro e w6 ⟨v6, he, ho, hb⟩
          have he := he.out
          subst he
          rw [HLL.out] at ho
          have HO6 := Lib.hid ho.rd
          have HO5b := Lib.hid (HO5.out.below hb)
          have HM6 := Lib.hid (HM5.out.on hb)
          have HB6 := Lib.hid (HB5.out.on hb)
          have HG6 := Lib.hid (HG5.out.low hb)
          clear ho hb HM5 HB5 HG5 HO5
          go_wp2_with fail
          refine (rowD_any (.slice a4 N4 c4) v6 mm.l mm.l w6 HO5b.out HO6.out (by have := HN4.out; omega) (by have := HN4.out; omega)).mono ?_
          rw [decide_eq_true (rfl : mm.l = mm.l)]
          rintro e w7 ⟨rfl, hb⟩
          have HO7 := Lib.hid (HO5b.out.below hb)
          have HM7 := Lib.hid (HM6.out.on hb)
          have HB7 := Lib.hid (HB6.out.on hb)
          have HG7 := Lib.hid (HG6.out.low hb)
          clear hb HM6 HB6 HG6 HO5b HO6
          go_wp2_with fail
          go_loopw [13] (fun i wr => ∃ k : Nat, k ≤ N4 ∧ i = .int .i64 k ∧ Hid (Below w7.heap.size w7 wr)) (fun i _ => N4 - (intOf i).toNat)
          case atStart => exact ⟨0, Nat.zero_le _, rfl, Lib.hid (Below.refl _ _)⟩
          case round =>
            obtain ⟨k, hk, rfl, hb7⟩ := hrel
            by_cases hlt : k < N4
            · have hlt' : (k : Int) < (N4 : Int) := by omega
              obtain ⟨_, ge, offe, ha, hge, u0, u1, u2, hkl⟩ := entCell (HO7.out.below hb7.out) k hlt
              obtain ⟨⟨ep, ev, en⟩, hE⟩ : ∃ E, mm.l.getD k EK.d = E := ⟨_, rfl⟩
              rw [hE] at u0 u1 u2
              simp only at u0 u1 u2
              have hmem : (ep, ev, en) ∈ mm.l := by
                rw [← hE, List.getD, List.getElem?_eq_getElem hkl]
                exact List.getElem_mem hkl
              have t50 := (HB7.out.on hb7.out).c0
              have t51 := (HB7.out.on hb7.out).c1
              have t52 := (HB7.out.on hb7.out).c2
              simp only at t50 t51 t52
              subst ha
              clear hE hkl hge
              by_cases hpe : ep = p
              · have z0 : (ep.toList == p.toList) = true := by rw [hpe]; simp
                have hr := HRD.out ev en (hpe ▸ hmem)
                have z1 : (er5 != 0) = false := by simp [hr.1]
                have z2 : (vl5.toList != ev.toList) = false := by rw [hr.2.1]; simp
                have z3 : (vr5 != en) = false := by simp [hr.2.2]
                have z4 : (er5 == 0) = true := by simp [hr.1]
                have z5 : (vl5.toList == ev.toList) = true := by rw [hr.2.1]; simp
                have z6 : (vr5 == en) = true := by simp [hr.2.2]
                clear hpe hr hmem
                go_wp2_with fail
                go_quiet (fail)
                generalize hwd : World.drewN wr _ = wn
                have hbn : Below wr.heap.size wr wn := by rw [← hwd]; exact below_drewN_q (Below.refl _ _) _
                have HBN := Lib.hid (below_self hb7.out hbn)
                clear hwd u0 u1 u2 t50 t51 t52 z0 z1 z2 z3 z4 z5 z6 hbn
                go_wp2
                go_roundw
                case rel => exact ⟨k + 1, by omega, by go_num, HBN⟩
                case measure => simp [intOf]; omega
              · have z0 : (ep.toList == p.toList) = false := by
                  rw [Lib.toList_data, Lib.toList_data]
                  simpa using fun e => hpe (data_inj (by simpa using e))
                clear hpe hmem
                go_wp2_with fail
                go_quiet (fail)
                generalize hwd : World.drewN wr _ = wn
                have hbn : Below wr.heap.size wr wn := by rw [← hwd]; exact below_drewN_q (Below.refl _ _) _
                have HBN := Lib.hid (below_self hb7.out hbn)
                clear hwd u0 u1 u2 t50 t51 t52 z0 hbn
                go_wp2
                go_roundw
                case rel => exact ⟨k + 1, by omega, by go_num, HBN⟩
                case measure => simp [intOf]; omega
            · obtain rfl : N4 = k := by omega
              have hlt' : ¬ (N4 : Int) < (N4 : Int) := by omega
              have HK8 : Hid (MacAt X gM d bk sb (61 + 0) (runF mc5 (tsb.take 0)) wr) := Lib.hid (HM7.out.on hb7.out)
              have HS8b : Hid (SmM (runF mc5 (tsb.take 0))) := HS5
              have HB8 := Lib.hid (HB7.out.on hb7.out)
              have HG8 := Lib.hid (HG7.out.low hb7.out)
              clear hb7 HM7 HB7 HG7 hlt HO7 HS5
              go_wp2_with fail
              go_loopw [14] (fun i wr => ∃ k : Nat, k ≤ nb ∧ i = .int .i64 k ∧ Hid (MacAt X gM d bk sb (61 + k) (runF mc5 (tsb.take k)) wr) ∧ Hid (SmM (runF mc5 (tsb.take k))) ∧ Hid (RB g5 ⟨er5, vl5, vr5, ns5⟩ wr) ∧ Hid (CB gG (cR p) wr)) (fun i _ => nb - (intOf i).toNat)
              case atStart => exact ⟨0, Nat.zero_le _, rfl, HK8, HS8b, HB8, HG8⟩
              case round =>
                clear HK8 HS8b HB8 HG8
                obtain ⟨k, hk, rfl, hL, hS, hR, hG⟩ := hrel
                by_cases hlt : k < nb
                · have hlt' : (k : Int) < (nb : Int) := by omega
                  have hkl : k < tsb.length := by have := HNb.out; omega
                  rcases (HCb.out.below hL.out.lw.below).2 with h0 | ⟨g, off, ha, hg, hcm⟩
                  · exfalso
                    rw [h0] at hkl
                    simp at hkl
                  have hsz := (HSb.out k hkl).1
                  have hrs := runF_succ mc5 tsb k hkl
                  obtain ⟨t, ht⟩ : ∃ t, tsb.getD k default = t := ⟨_, rfl⟩
                  have HKL := Lib.hid hkl
                  have HCK : Hid (∀ W, Below X.heap.size X W → CmAt W g (off + k * 8) t) := Lib.hid (fun W hW => by
                    rcases (HCb.out.below hW).2 with h1 | ⟨g3, off3, ha3, _, hc3⟩
                    · exfalso
                      rw [h1] at hkl
                      simp at hkl
                    · rw [ha] at ha3
                      simp only [Option.some.injEq, Addr.mk.injEq, and_true] at ha3
                      obtain ⟨rfl, rfl⟩ := ha3
                      rw [← ht]
                      exact hc3 k hkl)
                  rw [ht] at hsz hrs
                  have HP := Lib.hid (show t.pa.size ≤ 1000 by omega)
                  subst ha
                  have HT := Lib.hid ht
                  clear hcm hsz hg ht hkl
                  obtain ⟨mk, hmk⟩ : ∃ x, runF mc5 (tsb.take k) = x := ⟨_, rfl⟩
                  rw [hmk] at hL hS hrs
                  have HRS := Lib.hid hrs
                  clear hmk hrs
                  obtain ⟨m0, m1, m2, m3, m4, m5, m6, m7⟩ := HCK.out wr hL.out.lw.below
                  by_cases h77 : t.cl = 77
                  · have z : (t.cl != 77) = false := by simp [h77]
                    have HRN : Hid (runF mc5 (tsb.take (k + 1)) = mk) := Lib.hid (by rw [HRS.out]; unfold stepF; rw [if_pos h77])
                    have HL8 : Hid (MacAt X gM d bk sb (61 + (k + 1)) (runF mc5 (tsb.take (k + 1))) wr) := Lib.hid (by rw [HRN.out]; exact hL.out.mono (by omega))
                    have HS8 : Hid (SmM (runF mc5 (tsb.take (k + 1)))) := Lib.hid (by rw [HRN.out]; exact hS.out)
                    clear h77 hL hS HRN HRS HCK
                    go_wp2
                    go_roundw
                    case rel => exact ⟨k + 1, by omega, by go_num, HL8, HS8, hR, hG⟩
                    case measure => simp [intOf]; omega
                  · have z : (t.cl != 77) = true := by simpa using h77
                    have H77 := Lib.hid h77
                    clear h77
                    go_wp2_with fail
                    refine (mapply_any hL.out hS.out t r0 (.slice none 0 0) (Knd.Rd.nil _) (by simp [bad]) (by simp [bad]) (by omega) HP.out).mono ?_
                    have HLEN9 := Lib.hid hL.out.lw.len
                    obtain ⟨⟨⟨er9, vl9, vr9, ns9⟩, mc9⟩, hR9⟩ : ∃ R, appM mk t r0 = R := ⟨_, rfl⟩
                    have HS9 : Hid (SmM mc9) := Lib.hid (by
                      have h1 := hS.out.app (by have := HLEN9.out; omega) t r0 (by simp [bad])
                      rw [hR9] at h1
                      exact h1)
                    rw [hR9]
                    have HE9 := Lib.hid hR9
                    rintro e w9 ⟨v9, he, hrd9, hM9, hT9⟩
                    have he := he.out
                    subst he
                    simp only at hrd9 hM9
                    obtain ⟨a9, c9, hv9⟩ := hrd9.slice
                    obtain ⟨M9, hMM9⟩ : ∃ M, ns9.length = M := ⟨_, rfl⟩
                    rw [hMM9] at hv9
                    subst hv9
                    have HMM9 := Lib.hid hMM9
                    have hn9 := skrd_nms hrd9
                    have HM9 := Lib.hid hM9
                    have hRk := Lib.hid (hR.out.two hL.out hT9)
                    have hGk := Lib.hid (hG.out.two hL.out hT9)
                    clear hL hR hG hrd9 hM9 hT9 hR9 hn9 hMM9
                    have HRN : Hid (runF mc5 (tsb.take (k + 1)) = mc9) := Lib.hid (by rw [HRS.out]; unfold stepF; rw [if_neg H77.out, HE9.out])
                    have HL8 : Hid (MacAt X gM d bk sb (61 + k + 1) (runF mc5 (tsb.take (k + 1))) w9) := Lib.hid (by rw [HRN.out]; exact HM9.out)
                    have HS8 : Hid (SmM (runF mc5 (tsb.take (k + 1)))) := Lib.hid (by rw [HRN.out]; exact HS9.out)
                    clear HM9 HS9 HE9 HRN HRS HMM9 z m0 m1 m2 m3 m4 m5 m6 m7 HCK HT HP
                    go_wp2
                    go_roundw
                    case rel => exact ⟨k + 1, by omega, by go_num, HL8, HS8, hRk, hGk⟩
                    case measure => simp [intOf]; omega
                · obtain rfl : nb = k := by omega
                  have hlt' : ¬ (nb : Int) < (nb : Int) := by omega
                  obtain ⟨mz, hmz⟩ : ∃ lx, runF mc5 (tsb.take nb) = lx := ⟨_, rfl⟩
                  rw [hmz] at hL hS
                  have Hmz := Lib.hid hmz
                  have HM : Hid (MacAt X gM d bk sb (61 + 60) mz wr) := Lib.hid (hL.out.mono (by omega))
                  have HSM := hS
                  clear hL hS hmz hlt
                  have HF := Lib.hid ((runF_fnd (tsb.take nb) HR5.out).2)
                  obtain ⟨m0, m1, m2, m3, m4, m5, m6, m7⟩ := hG.out
                  simp only at m0 m1 m2 m3 m4 m5 m6 m7
                  go_wp2_with fail
                  refine (mapply_any HM.out HSM.out (cR p) r0 (.slice none 0 0) (Knd.Rd.nil _) (by simp [bad]) (by simp [bad]) (by omega) (show p.size ≤ 1000 by omega)).mono ?_
                  have HLEN6 := Lib.hid HM.out.lw.len
                  obtain ⟨⟨⟨er6, vl6, vr6, ns6⟩, mc6⟩, hR6⟩ : ∃ R, appM mz (cR p) r0 = R := ⟨_, rfl⟩
                  have HS6 : Hid (SmM mc6) := Lib.hid (by
                    have h1 := HSM.out.app (by have := HLEN6.out; omega) (cR p) r0 (by simp [bad])
                    rw [hR6] at h1
                    exact h1)
                  rw [hR6]
                  have HE6 := Lib.hid hR6
                  rintro e w6 ⟨v6, he, hrd6, hM6, hT6⟩
                  have he := he.out
                  subst he
                  simp only at hrd6 hM6
                  obtain ⟨a6, c6, hv6⟩ := hrd6.slice
                  obtain ⟨M6, hMM6⟩ : ∃ M, ns6.length = M := ⟨_, rfl⟩
                  rw [hMM6] at hv6
                  subst hv6
                  have HMM6 := Lib.hid hMM6
                  have hn6 := skrd_nms hrd6
                  obtain ⟨Z6, hZ6⟩ : ∃ Z, w6.alloc (.cells #[.int .i64 er6, .string vl6, .int .i64 vr6, .slice a6 M6 c6] 28) = Z := ⟨_, rfl⟩
                  obtain ⟨g6, hgg6⟩ : ∃ g, w6.heap.size = g := ⟨_, rfl⟩
                  have HB6 : Hid (RB g6 ⟨er6, vl6, vr6, ns6⟩ Z6) := Lib.hid (by rw [← hZ6, ← hgg6]; exact RB.mk' _ hn6)
                  have HM6 := Lib.hid (hM6.box #[.int .i64 er6, .string vl6, .int .i64 vr6, .slice a6 M6 c6] 28)
                  rw [hZ6] at HM6
                  have HR6 := Lib.hid ((hR.out.two HM.out hT6).on ((Below.refl _ _).alloc (Nat.le_refl _) (.cells #[.int .i64 er6, .string vl6, .int .i64 vr6, .slice a6 M6 c6] 28)))
                  rw [hZ6] at HR6
                  clear HM hR hrd6 hM6 hT6 hR6 hn6 hMM6
                  have hq := HE6.out
                  have hfz : fndS mz.s 77 = some (1, ⟨er5, vl5, vr5, ns5⟩) := by
                    have h1 := HF.out
                    rw [Hmz.out] at h1
                    rw [h1]
                    exact HF5.out
                  rw [again_read hfz] at hq
                  clear hfz
                  simp only [Prod.mk.injEq, Rep.mk.injEq] at hq
                  obtain ⟨⟨rfl, rfl, rfl, rfl⟩, rfl⟩ := hq
                  clear HE6 HMM6 m0 m1 m2 m3 m4 m5 m6 m7 HRD
                  have t50 := HR6.out.c0
                  have t51 := HR6.out.c1
                  have t52 := HR6.out.c2
                  simp only at t50 t51 t52
                  obtain ⟨v53, t53, hn53⟩ := HR6.out.c3
                  simp only at hn53
                  have HN53 := Lib.hid hn53
                  clear hn53
                  have t60 := HB6.out.c0
                  have t61 := HB6.out.c1
                  have t62 := HB6.out.c2
                  simp only at t60 t61 t62
                  obtain ⟨v63, t63, hn63⟩ := HB6.out.c3
                  simp only at hn63
                  have HN63 := Lib.hid hn63
                  clear hn63
                  go_wp2_with fail
                  try rw [hZ6]
                  try rw [hgg6]
                  clear hZ6 hgg6
                  refine (same_any ⟨_, _, _, _⟩ v53 v63 Z6 HN53.out HN63.out).mono ?_
                  rintro e w9 ⟨rfl, hb⟩
                  have HM9 := Lib.hid (HM6.out.on hb)
                  clear hb HM6
                  go_wp2
                  go_ret
                  exact ⟨rfl, HB.out.trans (HM9.out.lw.below.mono HB.out.size)⟩
end Go.Proofs.YtbebjpfbbidaiaaGreat
