/-
  A client goes on, or is told the same, or that it is older.
-/
import Derived.IntWalk
import Derived.BigQuiet
import Derived.Test.YtbebjpfbbidaiaaGreatSesF
namespace Go.Proofs.YtbebjpfbbidaiaaGreat
open Go.RowKit
set_option linter.unusedSimpArgs false
set_option linter.unusedVariables false

theorem crd_two (t u : Cm) (w : World) (T : TypeId) : CRd (w.alloc (.cells #[.int .i64 t.cl, .int .i64 t.sq, .int .i64 t.op, .string t.pa, .string t.va, .int .i64 t.ver, .int .i64 t.a, .int .i64 t.b, .int .i64 u.cl, .int .i64 u.sq, .int .i64 u.op, .string u.pa, .string u.va, .int .i64 u.ver, .int .i64 u.a, .int .i64 u.b] T)) (some ⟨w.heap.size, 0, none⟩) [t, u] := by
  refine ⟨by simp, .inr ⟨w.heap.size, 0, rfl, by simp, fun i hi => ?_⟩⟩
  have hi2 : i = 0 ∨ i = 1 := by have : i < 2 := by simpa using hi
                                 omega
  rcases hi2 with rfl | rfl
  · refine ⟨?_, ?_, ?_, ?_, ?_, ?_, ?_, ?_⟩ <;> simp [new_cell]
  · refine ⟨?_, ?_, ?_, ?_, ?_, ?_, ?_, ?_⟩ <;> simp [new_cell]
theorem act_some {s : List S3} {c : Cm} (h0 : c.op ≠ 0) (hv : valS c.cl c.sq = true) {q : Int} {r : Rep} (hf : fndS s c.cl = some (q, r)) : actM s c = if c.sq < q then some (bad 6) else if q = c.sq then some r else none := by
  unfold actM
  rw [if_neg h0, if_neg (by simp [hv]), hf]
theorem act_none {s : List S3} {c : Cm} (h0 : c.op ≠ 0) (hv : valS c.cl c.sq = true) (hf : fndS s c.cl = none) : actM s c = none := by
  unfold actM
  rw [if_neg h0, if_neg (by simp [hv]), hf]
theorem done_app {m : Mac} (h : RightM m) (c : Cm) (k : Rep) (hk : k.err ≠ 6) (ha : actM m.s c = none) : fndS (appM m c k).2.s c.cl = some (c.sq, (appM m c k).1) ∧ (appM m c k).1.err ≠ 6 := by
  refine ⟨by rw [fnd_app h, if_pos ⟨ha, rfl⟩], ?_⟩
  have e : appM m c k = doM m c k := by unfold appM; rw [ha]
  rw [e]
  unfold doM
  split
  · exact hk
  · exact app_err6 _ _ _ _ _
theorem wpList_max_g {P : Program} {ops : Array Oper} {rest : List Oper} {o : Oper} {a : Act} {w : World} {Q : Exit → Act → World → Prop} (hw : Region.wanted o (yielded ops a.tmps) = true) (m x : Operand) (t : TypeId) (hop : o.op = Op.call { callee := Callee.builtin Builtin.max, args := #[m, x], argTypes := #[t, t] })
    (p q : Int) (hm : a.eval m = .int .i64 p) (hx : a.eval x = .int .i64 q)
    (hK : wpList P ops Q rest (a.put o.dst (.int .i64 (if p < q then q else p))) w) : wpList P ops Q (o :: rest) a w := by
  refine wpList_value hw _ w ?_ hK
  unfold execOp
  simp [hop, resolve, invoke, builtin, Builtin.max_, Builtin.max2, hm, hx, Result.andThen]
/-- The greatest number that a client came with; 0: it did not. -/
def OldI (m : Mac) (cl L : Int) : Prop := (L = 0 ∧ fndS m.s cl = none) ∨ ∃ r, fndS m.s cl = some (L, r)
def cndO (t : Cm) (cl : Int) : Bool := t.op != 0 && valS t.cl t.sq && (t.cl == cl)
theorem valS_one {cl sq : Int} (h : valS cl sq = true) : 1 ≤ sq := by
  unfold valS at h
  simp only [Bool.and_eq_true, decide_eq_true_eq] at h
  omega
theorem old_step {m : Mac} (h : RightM m) {cl L : Int} (hO : OldI m cl L) (t : Cm) (k : Rep) : OldI (appM m t k).2 cl (if cndO t cl = true then (if L < t.sq then t.sq else L) else L) := by
  by_cases hd : actM m.s t = none ∧ t.cl = cl
  · have hv := act_val hd.1
    have hv1 := valS_one hv.2
    have hc : cndO t cl = true := by simp [cndO, hv.1, hv.2, hd.2]
                                     have hv2 := hv.2
                                     rw [hd.2] at hv2
                                     exact hv2
    have hlt : L < t.sq := by
      rcases hO with ⟨h1, _⟩ | ⟨r, h1⟩
      · omega
      · have ha := act_some hv.1 hv.2 (by rw [hd.2]; exact h1)
        rw [hd.1] at ha
        by_cases g1 : t.sq < L
        · rw [if_pos g1] at ha; cases ha
        · rw [if_neg g1] at ha
          by_cases g2 : L = t.sq
          · rw [if_pos g2] at ha; cases ha
          · omega
    rw [if_pos hc, if_pos hlt]
    exact .inr ⟨(appM m t k).1, by rw [fnd_app h, if_pos hd]⟩
  · have hf : fndS (appM m t k).2.s cl = fndS m.s cl := by rw [fnd_app h, if_neg hd]
    have hL : (if cndO t cl = true then (if L < t.sq then t.sq else L) else L) = L := by
      split
      · rename_i hc
        unfold cndO at hc
        simp only [Bool.and_eq_true, bne_iff_ne, beq_iff_eq, ne_eq] at hc
        obtain ⟨⟨g1, g2⟩, g3⟩ := hc
        rcases hO with ⟨_, h1⟩ | ⟨r, h1⟩
        · exact absurd ⟨act_none g1 g2 (by rw [g3]; exact h1), g3⟩ hd
        · have ha := act_some g1 g2 (by rw [g3]; exact h1)
          by_cases k1 : L < t.sq
          · rw [if_neg (by omega), if_neg (by omega)] at ha
            exact absurd ⟨ha, g3⟩ hd
          · rw [if_neg k1]
      · rfl
    rw [hL]
    unfold OldI
    rw [hf]
    exact hO
theorem old_last {m m2 : Mac} (h : RightM m) {c : Cm} {L : Int} (hO : OldI m c.cl L) (h0 : c.op ≠ 0) (hv : valS c.cl c.sq = true) {R : Rep} (e : appM m c r0 = (R, m2)) :
    (R.err = 6 ↔ c.sq < L) ∧ ∃ r, fndS m2.s c.cl = some (if L < c.sq then c.sq else L, r) := by
  have hv1 := valS_one hv
  rcases hO with ⟨h1, h2⟩ | ⟨r, h2⟩
  · have hd := done_app h c r0 (by simp [bad]) (act_none h0 hv h2)
    rw [e] at hd
    refine ⟨⟨fun g => absurd g hd.2, fun g => by omega⟩, R, ?_⟩
    rw [if_pos (by omega)]
    exact hd.1
  · have ha := act_some h0 hv h2
    by_cases g1 : c.sq < L
    · rw [if_pos g1] at ha
      have e2 : appM m c r0 = (bad 6, m) := by unfold appM; rw [ha]
      rw [e2] at e
      obtain ⟨rfl, rfl⟩ := Prod.mk.inj e
      exact ⟨⟨fun _ => g1, fun _ => rfl⟩, r, by rw [if_neg (by omega)]; exact h2⟩
    · rw [if_neg g1] at ha
      by_cases g2 : L = c.sq
      · rw [if_pos g2] at ha
        have e2 : appM m c r0 = (r, m) := by unfold appM; rw [ha]
        rw [e2] at e
        obtain ⟨rfl, rfl⟩ := Prod.mk.inj e
        exact ⟨⟨fun g => absurd g (h.err _ ((fndS_some h.rise).1 h2)), fun g => by omega⟩, r, by rw [if_neg (by omega)]; exact h2⟩
      · rw [if_neg g2] at ha
        have hd := done_app h c r0 (by simp [bad]) ha
        rw [e] at hd
        exact ⟨⟨fun g => absurd g hd.2, fun g => by omega⟩, _, by rw [if_pos (by omega)]; exact hd.1⟩
/-- The last number of a client in a row of sessions. -/
def sqF (s : List S3) (cl : Int) : Int := s.foldl (fun a e => if e.1 = cl then e.2.1 else a) 0
theorem sqF_same (cl q : Int) : ∀ (s : List S3), (∀ e ∈ s, e.1 = cl → e.2.1 = q) → s.foldl (fun a e => if e.1 = cl then e.2.1 else a) q = q
  | [], _ => rfl
  | x :: s, h => by
    rw [List.foldl_cons]
    have : (if x.1 = cl then x.2.1 else q) = q := by
      split
      · rename_i g
        exact h x (.head _) g
      · rfl
    rw [this]
    exact sqF_same cl q s fun e he => h e (.tail _ he)
theorem sqF_q (cl q : Int) : ∀ (s : List S3) (a : Int), (∀ e ∈ s, e.1 = cl → e.2.1 = q) → (∃ e ∈ s, e.1 = cl) → s.foldl (fun a e => if e.1 = cl then e.2.1 else a) a = q
  | [], _, _, h => by obtain ⟨e, he, _⟩ := h; cases he
  | x :: s, a, h, hx => by
    rw [List.foldl_cons]
    by_cases g : x.1 = cl
    · rw [if_pos g, h x (.head _) g]
      exact sqF_same cl q s fun e he => h e (.tail _ he)
    · rw [if_neg g]
      obtain ⟨e, he, hc⟩ := hx
      rcases List.mem_cons.1 he with rfl | he
      · exact absurd hc g
      · exact sqF_q cl q s a (fun e he => h e (.tail _ he)) ⟨e, he, hc⟩
theorem sqF_fnd {s : List S3} (h : RisesS s) {cl q : Int} {r : Rep} (hf : fndS s cl = some (q, r)) : sqF s cl = q := by
  have hm := (fndS_some h).1 hf
  exact sqF_q cl q s 0 (fun e he hc => by rw [h.one he hm hc]) ⟨_, hm, rfl⟩
theorem sqF_succ (s : List S3) (cl : Int) (k : Nat) (hk : k < s.length) : sqF (s.take (k + 1)) cl = if (s.getD k zS).1 = cl then (s.getD k zS).2.1 else sqF (s.take k) cl := by
  unfold sqF
  have e : s.getD k zS = s[k] := by rw [List.getD, List.getElem?_eq_getElem hk]; rfl
  rw [List.take_succ_eq_append_getElem hk, List.foldl_append, e]
  rfl
set_option maxRecDepth 100000 in
set_option maxHeartbeats 16000000 in
theorem sessionOlds_walk (a : Option Addr) (n c : Nat) (ts : List Cm) (cl sq op : Int) (pa va : ByteArray) (ver ca cb : Int) (dl dq dop : Int) (dpa dva : ByteArray) (dver dca dcb : Int) (w : World) (hn : n = ts.length) (hC : CRd w a ts) (hm : ML w) :
    Calls Tryz.prog 7 #[.slice a n c, cmdV cl sq op pa va ver ca cb, cmdV dl dq dop dpa dva dver dca dcb] w fun e w' => e = .returned (.bool true) ∧ Below w.heap.size w w' := by
  obtain ⟨X, hX⟩ : ∃ X, (w.alloc (.cells #[.int .i64 cl, .int .i64 sq, .int .i64 op, .string pa, .string va, .int .i64 ver, .int .i64 ca, .int .i64 cb] 49)).alloc (.cells #[.int .i64 dl, .int .i64 dq, .int .i64 dop, .string dpa, .string dva, .int .i64 dver, .int .i64 dca, .int .i64 dcb] 49) = X := ⟨_, rfl⟩
  have hB : Below w.heap.size w X := by rw [← hX]; exact ((Below.refl _ _).alloc (Nat.le_refl _) _).alloc (by simp) _
  have hcb : CB w.heap.size ⟨cl, sq, op, pa, va, ver, ca, cb⟩ X ∧ CB (w.heap.size + 1) ⟨dl, dq, dop, dpa, dva, dver, dca, dcb⟩ X := by
    rw [← hX]
    have h2 := CB.mk' ⟨dl, dq, dop, dpa, dva, dver, dca, dcb⟩ (w.alloc (.cells #[.int .i64 cl, .int .i64 sq, .int .i64 op, .string pa, .string va, .int .i64 ver, .int .i64 ca, .int .i64 cb] 49)) 49
    rw [World.size_alloc] at h2
    exact ⟨(CB.mk' ⟨cl, sq, op, pa, va, ver, ca, cb⟩ w 49).low ((Below.refl _ _).alloc (Nat.le_refl _) _), h2⟩
  obtain ⟨g0, hg0⟩ : ∃ g, w.heap.size = g := ⟨_, rfl⟩
  have HCA : Hid (∀ W, Below X.heap.size X W → CB g0 ⟨cl, sq, op, pa, va, ver, ca, cb⟩ W) := Lib.hid (fun W hW => hg0 ▸ hcb.1.low hW)
  have HCBb : Hid (∀ W, Below X.heap.size X W → CB (g0 + 1) ⟨dl, dq, dop, dpa, dva, dver, dca, dcb⟩ W) := Lib.hid (fun W hW => by
    have h := hcb.2.low hW
    rw [hg0] at h
    exact h)
  clear hcb
  have HN := Lib.hid hn
  have HMX := Lib.hid (hm.below hB)
  have HC := Lib.hid (hC.below hB)
  have HB := Lib.hid hB
  clear hn hm hC hB
  go_enter Tryz.func7, Tryz.ntmps7
  go_wp2_with fail
  try rw [hX]
  try rw [hg0]
  have HG0 := Lib.hid hg0
  clear hX hg0
  refine (works9_any _ HMX.out).mono ?_
  rintro e w1 ⟨rfl, hb⟩
  have HB1 := Lib.hid hb
  have HM1 := Lib.hid (HMX.out.below hb)
  clear hb HMX
  go_wp2_with fail
  refine (over_any a n c ts w1 HN.out (HC.out.below HB1.out)).mono ?_
  rintro e w' ⟨rfl, rfl⟩
  obtain ⟨O, hO⟩ : ∃ O, ovB ts = O := ⟨_, rfl⟩
  rw [hO]
  have HO := Lib.hid hO
  clear hO
  cases O with
  | true =>
    go_wp2
    go_ret
    exact ⟨rfl, HB.out.trans (HB1.out.mono HB.out.size)⟩
  | false =>
    have hov := ovB_no HO.out
    have hn60 : n ≤ 60 := by have := HN.out; omega
    have HS := Lib.hid hov.2
    clear hov HO
    obtain ⟨m0, m1, m2, m3, m4, m5, m6, m7⟩ := HCA.out w1 HB1.out
    simp only at m0 m1 m2 m3 m4 m5 m6 m7
    obtain ⟨n0, n1, n2, n3, n4, n5, n6, n7⟩ := HCBb.out w1 HB1.out
    simp only at n0 n1 n2 n3 n4 n5 n6 n7
    go_wp2_with fail
    obtain ⟨Y1, hY1⟩ : ∃ Y, w1.alloc (.cells #[.int .i64 cl, .int .i64 sq, .int .i64 op, .string pa, .string va, .int .i64 ver, .int .i64 ca, .int .i64 cb, .int .i64 dl, .int .i64 dq, .int .i64 dop, .string dpa, .string dva, .int .i64 dver, .int .i64 dca, .int .i64 dcb] 49) = Y := ⟨_, rfl⟩
    obtain ⟨y1, hy1⟩ : ∃ y, w1.heap.size = y := ⟨_, rfl⟩
    have HBY : Hid (Below X.heap.size X Y1) := Lib.hid (by rw [← hY1]; exact HB1.out.alloc HB1.out.size _)
    have HMY : Hid (ML Y1) := Lib.hid (by rw [← hY1]; exact HM1.out.below ((Below.refl _ _).alloc (Nat.le_refl _) _))
    have HCY : Hid (CRd Y1 (some ⟨y1, 0, none⟩) [⟨cl, sq, op, pa, va, ver, ca, cb⟩, ⟨dl, dq, dop, dpa, dva, dver, dca, dcb⟩]) := Lib.hid (by rw [← hY1, ← hy1]; exact crd_two ⟨cl, sq, op, pa, va, ver, ca, cb⟩ ⟨dl, dq, dop, dpa, dva, dver, dca, dcb⟩ w1 _)
    rw [hY1, hy1]
    clear hY1 hy1 HB1 HM1
    refine (over_any _ 2 2 [⟨cl, sq, op, pa, va, ver, ca, cb⟩, ⟨dl, dq, dop, dpa, dva, dver, dca, dcb⟩] Y1 rfl HCY.out).mono ?_
    rintro e w' ⟨rfl, rfl⟩
    obtain ⟨O2, hO2⟩ : ∃ O, ovB [⟨cl, sq, op, pa, va, ver, ca, cb⟩, ⟨dl, dq, dop, dpa, dva, dver, dca, dcb⟩] = O := ⟨_, rfl⟩
    rw [hO2]
    have HO2 := Lib.hid hO2
    clear hO2 HCY
    clear m0 m1 m2 m3 m4 m5 m6 m7 n0 n1 n2 n3 n4 n5 n6 n7
    cases O2 with
    | true =>
      go_wp2
      go_ret
      exact ⟨rfl, HB.out.trans (HBY.out.mono HB.out.size)⟩
    | false =>
      have hpa : pa.size ≤ 300 := (ovB_no HO2.out).2 0 (by simp) |>.1
      have hpb : dpa.size ≤ 300 := (ovB_no HO2.out).2 1 (by simp) |>.1
      clear HO2
      obtain ⟨m0, m1, m2, m3, m4, m5, m6, m7⟩ := HCA.out Y1 HBY.out
      simp only at m0 m1 m2 m3 m4 m5 m6 m7
      obtain ⟨n0, n1, n2, n3, n4, n5, n6, n7⟩ := HCBb.out Y1 HBY.out
      simp only at n0 n1 n2 n3 n4 n5 n6 n7
      go_wp2_with fail
      refine (valid9_any cl sq op pa va ver ca cb Y1).mono ?_
      obtain ⟨V, hV⟩ : ∃ V, valS cl sq = V := ⟨_, rfl⟩
      rw [hV]
      have HV := Lib.hid hV
      clear hV
      rintro e w2 ⟨rfl, hb⟩
      have HB2 := Lib.hid (below_self HBY.out hb)
      have HM2 := Lib.hid (HMY.out.below hb)
      clear hb HBY HMY
      cases V with
      | false =>
        go_wp2
        go_ret
        exact ⟨rfl, HB.out.trans (HB2.out.mono HB.out.size)⟩
      | true =>
        clear m0 m1 m2 m3 m4 m5 m6 m7 n0 n1 n2 n3 n4 n5 n6 n7
        obtain ⟨m0, m1, m2, m3, m4, m5, m6, m7⟩ := HCA.out w2 HB2.out
        simp only at m0 m1 m2 m3 m4 m5 m6 m7
        obtain ⟨n0, n1, n2, n3, n4, n5, n6, n7⟩ := HCBb.out w2 HB2.out
        simp only at n0 n1 n2 n3 n4 n5 n6 n7
        by_cases h0 : op = 0
        · have q0 : (op == 0) = true := by simpa using h0
          clear h0
          go_wp2
          go_ret
          exact ⟨rfl, HB.out.trans (HB2.out.mono HB.out.size)⟩
        · have q0 : (op == 0) = false := by simpa using h0
          have HH0 := Lib.hid h0
          clear h0
          by_cases hd : dl = cl
          · have q1 : (dl == cl) = true := by simpa using hd
            clear hd
            go_wp2
            go_ret
            exact ⟨rfl, HB.out.trans (HB2.out.mono HB.out.size)⟩
          · have q1 : (dl == cl) = false := by simpa using hd
            have HD := Lib.hid hd
            clear hd
            go_wp2_with fail
            refine (mnew_any HB2.out HM2.out).mono ?_
            rintro e w2b ⟨gM, d, bk, sb, he, hM⟩
            have he := he.out
            subst he
            have HK0 : Hid (MacAt X gM d bk sb 0 (runM ⟨[], []⟩ (ts.take 0) r0) w2b) := Lib.hid hM
            have HSM0 : Hid (SmM (runM ⟨[], []⟩ (ts.take 0) r0)) := Lib.hid SmM.empty
            clear hM HM2 HB2
            go_wp2_with fail
            clear m0 m1 m2 m3 m4 m5 m6 m7 n0 n1 n2 n3 n4 n5 n6 n7
            clear q0 q1
            have HI0 : Hid (OldI (runM ⟨[], []⟩ (ts.take 0) r0) cl 0) := Lib.hid (.inl ⟨rfl, rfl⟩)
            go_loopw [9, 10] (fun x i wr => ∃ (k : Nat) (L : Int), k ≤ n ∧ x = .int .i64 L ∧ i = .int .i64 k ∧ Hid (MacAt X gM d bk sb (k) (runM ⟨[], []⟩ (ts.take k) r0) wr) ∧ Hid (SmM (runM ⟨[], []⟩ (ts.take k) r0)) ∧ Hid (OldI (runM ⟨[], []⟩ (ts.take k) r0) cl L)) (fun _ i _ => n - (intOf i).toNat)
            case atStart => exact ⟨0, 0, Nat.zero_le _, rfl, rfl, HK0, HSM0, HI0⟩
            case round =>
              clear HK0 HSM0 HI0
              obtain ⟨k, L, hk, rfl, rfl, hL, hS, hI⟩ := hrel
              by_cases hlt : k < n
              · have hlt' : (k : Int) < (n : Int) := by omega
                have hkl : k < ts.length := by have := HN.out; omega
                rcases (HC.out.below hL.out.lw.below).2 with h0 | ⟨g, off, ha, hg, hcm⟩
                · exfalso
                  rw [h0] at hkl
                  simp at hkl
                have hsz := (HS.out k hkl).1
                have hrs := runM_succ ⟨[], []⟩ ts r0 k hkl
                obtain ⟨t, ht⟩ : ∃ t, ts.getD k default = t := ⟨_, rfl⟩
                have HKL := Lib.hid hkl
                have HCK : Hid (∀ W, Below X.heap.size X W → CmAt W g (off + k * 8) t) := Lib.hid (fun W hW => by
                  rcases (HC.out.below hW).2 with h1 | ⟨g3, off3, ha3, _, hc3⟩
                  · exfalso
                    rw [h1] at hkl
                    simp at hkl
                  · rw [ha] at ha3
                    simp only [Option.some.injEq, Addr.mk.injEq, and_true] at ha3
                    obtain ⟨rfl, rfl⟩ := ha3
                    rw [← ht]
                    exact hc3 k hkl)
                rw [ht] at hsz hrs
                have HP := Lib.hid (show t.pa.size ≤ 1000 by omega)
                subst ha
                have HT := Lib.hid ht
                clear hcm hsz hg ht hkl
                obtain ⟨mk, hmk⟩ : ∃ x, runM ⟨[], []⟩ (ts.take k) r0 = x := ⟨_, rfl⟩
                rw [hmk] at hL hS hI hrs
                have HRS := Lib.hid hrs
                have HRK := Lib.hid hL.out.right
                clear hmk hrs
                obtain ⟨m0, m1, m2, m3, m4, m5, m6, m7⟩ := HCK.out wr hL.out.lw.below
                go_wp2_with fail
                refine (mapply_any hL.out hS.out t r0 (.slice none 0 0) (Knd.Rd.nil _) (by simp [bad]) (by simp [bad]) (by omega) HP.out).mono ?_
                have HLEN5 := Lib.hid hL.out.lw.len
                obtain ⟨⟨⟨er5, vl5, vr5, ns5⟩, mc5⟩, hR5⟩ : ∃ R, appM mk t r0 = R := ⟨_, rfl⟩
                have HS5 : Hid (SmM mc5) := Lib.hid (by
                  have h1 := hS.out.app (by have := HLEN5.out; omega) t r0 (by simp [bad])
                  rw [hR5] at h1
                  exact h1)
                rw [hR5]
                have HE5 := Lib.hid hR5
                rintro e w5 ⟨v5, he, hrd5, hM5, hT5⟩
                have he := he.out
                subst he
                simp only at hrd5 hM5
                obtain ⟨a5, c5, hv5⟩ := hrd5.slice
                obtain ⟨M5, hMM5⟩ : ∃ M, ns5.length = M := ⟨_, rfl⟩
                rw [hMM5] at hv5
                subst hv5
                have HMM5 := Lib.hid hMM5
                have hn5 := skrd_nms hrd5
                have HM5 := Lib.hid hM5
                clear hL hrd5 hM5 hT5 hR5 hn5 hMM5
                clear m0 m1 m2 m3 m4 m5 m6 m7
                have HRN : Hid (runM ⟨[], []⟩ (ts.take (k + 1)) r0 = mc5) := Lib.hid (by rw [HRS.out, HE5.out])
                have HGN : Hid (OldI mc5 cl (if cndO t cl = true then (if L < t.sq then t.sq else L) else L)) := Lib.hid (by
                  have h0 := old_step HRK.out hI.out t r0
                  rw [HE5.out] at h0
                  exact h0)
                have HK12 : Hid (∀ w', Below w5.heap.size w5 w' → w'.cell? ⟨g, off + k * 8, none⟩ = some (.int .i64 t.cl) ∧ w'.cell? ⟨g, off + k * 8 + 1, none⟩ = some (.int .i64 t.sq) ∧ w'.cell? ⟨g, off + k * 8 + 2, none⟩ = some (.int .i64 t.op) ∧ w'.cell? ⟨g, off + k * 8 + 3, none⟩ = some (.string t.pa) ∧ w'.cell? ⟨g, off + k * 8 + 4, none⟩ = some (.string t.va) ∧ w'.cell? ⟨g, off + k * 8 + 5, none⟩ = some (.int .i64 t.ver) ∧ w'.cell? ⟨g, off + k * 8 + 6, none⟩ = some (.int .i64 t.a) ∧ w'.cell? ⟨g, off + k * 8 + 7, none⟩ = some (.int .i64 t.b) ∧ w'.cell? ⟨g0, 0, none⟩ = some (.int .i64 cl) ∧ Below w5.heap.size w5 w') := Lib.hid (fun w' hb => by
                  have h1 := HCK.out w' (HM5.out.on hb).lw.below
                  have h2 := HCA.out w' (HM5.out.on hb).lw.below
                  unfold CmAt at h1
                  exact ⟨h1.1, h1.2.1, h1.2.2.1, h1.2.2.2.1, h1.2.2.2.2.1, h1.2.2.2.2.2.1, h1.2.2.2.2.2.2.1, h1.2.2.2.2.2.2.2, h2.c0, hb⟩)
                have HVT : Hid (∀ W, Calls Tryz.prog 20 #[.agg #[.int .i64 t.cl, .int .i64 t.sq, .int .i64 t.op, .string t.pa, .string t.va, .int .i64 t.ver, .int .i64 t.a, .int .i64 t.b]] W fun e w' => e = .returned (.bool (valS t.cl t.sq)) ∧ Below W.heap.size W w') := Lib.hid (fun W => valid9_any t.cl t.sq t.op t.pa t.va t.ver t.a t.b W)
                clear HE5 HRS HRK hI HMM5 HP HT
                go_wp2_with fail
                by_cases h0 : t.op = 0
                · have z0 : (t.op != 0) = false := by simp [h0]
                  have Z0 := Lib.hid z0
                  clear h0 HVT
                  refine wp_region_held_drew (S := (fun w' => w'.cell? ⟨g, off + k * 8, none⟩ = some (.int .i64 t.cl) ∧ w'.cell? ⟨g, off + k * 8 + 1, none⟩ = some (.int .i64 t.sq) ∧ w'.cell? ⟨g, off + k * 8 + 2, none⟩ = some (.int .i64 t.op) ∧ w'.cell? ⟨g, off + k * 8 + 3, none⟩ = some (.string t.pa) ∧ w'.cell? ⟨g, off + k * 8 + 4, none⟩ = some (.string t.va) ∧ w'.cell? ⟨g, off + k * 8 + 5, none⟩ = some (.int .i64 t.ver) ∧ w'.cell? ⟨g, off + k * 8 + 6, none⟩ = some (.int .i64 t.a) ∧ w'.cell? ⟨g, off + k * 8 + 7, none⟩ = some (.int .i64 t.b) ∧ w'.cell? ⟨g0, 0, none⟩ = some (.int .i64 cl) ∧ Below w5.heap.size w5 w')) (by kernel_rfl) ?_ (fun hHeld => ?_)
                  · ((first
                    | exact HK12.out _ (Below.refl _ _)
                    | exact HK12.out _ (Below.refl _ _).drew
                    | exact HK12.out _ hb8
                    | fail))
                  refine wpAnyH_take (i := 0) (v := ?_) rfl (by kernel_rfl) (by kernel_rfl) (by kernel_rfl) (fun _ _ _ h => h) (Or.inl ⟨by rfl, ?_⟩) (by assumption) ?_
                  rotate_left
                  · (intro w hSw; (try dsimp only at hSw); go_simp; try rfl)
                  try simp only [Act.put, List.setIfInBounds_toArray, List.set_cons_zero, List.set_cons_succ, List.getElem_toArray, List.getElem_cons_zero, List.getElem_cons_succ]
                  refine wpAnyH_take (i := 1) (v := ?_) rfl (by kernel_rfl) (by kernel_rfl) (by kernel_rfl) (fun _ _ _ h => h) (Or.inl ⟨by rfl, ?_⟩) (by assumption) ?_
                  rotate_left
                  · (intro w hSw; (try dsimp only at hSw); go_simp; try rfl)
                  try simp only [Act.put, List.setIfInBounds_toArray, List.set_cons_zero, List.set_cons_succ, List.getElem_toArray, List.getElem_cons_zero, List.getElem_cons_succ]
                  refine wpAnyH_take (i := 2) (v := ?_) rfl (by kernel_rfl) (by kernel_rfl) (by kernel_rfl) (fun _ _ _ h => h) (Or.inl ⟨by rfl, ?_⟩) (by assumption) ?_
                  rotate_left
                  · (intro w hSw; (try dsimp only at hSw); go_simp; try rfl)
                  try simp only [Act.put, List.setIfInBounds_toArray, List.set_cons_zero, List.set_cons_succ, List.getElem_toArray, List.getElem_cons_zero, List.getElem_cons_succ]
                  refine wpAnyH_take (i := 3) (v := ?_) rfl (by kernel_rfl) (by kernel_rfl) (by kernel_rfl) (fun _ _ _ h => h) (Or.inl ⟨by rfl, ?_⟩) (by assumption) ?_
                  rotate_left
                  · (intro w hSw; (try dsimp only at hSw); go_simp; try rfl)
                  try simp only [Act.put, List.setIfInBounds_toArray, List.set_cons_zero, List.set_cons_succ, List.getElem_toArray, List.getElem_cons_zero, List.getElem_cons_succ]
                  refine wpAnyH_take (i := 4) (v := ?_) rfl (by kernel_rfl) (by kernel_rfl) (by kernel_rfl) (fun _ _ _ h => h) (Or.inl ⟨by rfl, ?_⟩) (by assumption) ?_
                  rotate_left
                  · (intro w hSw; (try dsimp only at hSw); go_simp; try rfl)
                  try simp only [Act.put, List.setIfInBounds_toArray, List.set_cons_zero, List.set_cons_succ, List.getElem_toArray, List.getElem_cons_zero, List.getElem_cons_succ]
                  refine wpAnyH_take (i := 5) (v := ?_) rfl (by kernel_rfl) (by kernel_rfl) (by kernel_rfl) (fun _ _ _ h => h) (Or.inl ⟨by rfl, ?_⟩) (by assumption) ?_
                  rotate_left
                  · (intro w hSw; (try dsimp only at hSw); go_simp; try rfl)
                  try simp only [Act.put, List.setIfInBounds_toArray, List.set_cons_zero, List.set_cons_succ, List.getElem_toArray, List.getElem_cons_zero, List.getElem_cons_succ]
                  refine wpAnyH_take (i := 6) (v := ?_) rfl (by kernel_rfl) (by kernel_rfl) (by kernel_rfl) (fun _ _ _ h => h) (Or.inl ⟨by rfl, ?_⟩) (by assumption) ?_
                  rotate_left
                  · (intro w hSw; (try dsimp only at hSw); go_simp; try rfl)
                  try simp only [Act.put, List.setIfInBounds_toArray, List.set_cons_zero, List.set_cons_succ, List.getElem_toArray, List.getElem_cons_zero, List.getElem_cons_succ]
                  refine wpAnyH_take (i := 7) (v := undef) rfl (by kernel_rfl) (by kernel_rfl) (by kernel_rfl) (fun _ _ _ h => h) (Or.inr ⟨by rfl, rfl⟩) (by assumption) ?_
                  try simp only [Act.put, List.setIfInBounds_toArray, List.set_cons_zero, List.set_cons_succ, List.getElem_toArray, List.getElem_cons_zero, List.getElem_cons_succ]
                  refine wpAnyH_take (i := 8) (v := undef) rfl (by kernel_rfl) (by kernel_rfl) (by kernel_rfl) (fun _ _ _ h => h) (Or.inr ⟨by rfl, rfl⟩) (by assumption) ?_
                  try simp only [Act.put, List.setIfInBounds_toArray, List.set_cons_zero, List.set_cons_succ, List.getElem_toArray, List.getElem_cons_zero, List.getElem_cons_succ]
                  refine wpAnyH_take (i := 9) (v := undef) rfl (by kernel_rfl) (by kernel_rfl) (by kernel_rfl) (fun _ _ _ h => h) (Or.inr ⟨by rfl, rfl⟩) (by assumption) ?_
                  try simp only [Act.put, List.setIfInBounds_toArray, List.set_cons_zero, List.set_cons_succ, List.getElem_toArray, List.getElem_cons_zero, List.getElem_cons_succ]
                  refine wpAnyH_take (i := 10) (v := undef) rfl (by kernel_rfl) (by kernel_rfl) (by kernel_rfl) (fun _ _ _ h => h) (Or.inr ⟨by rfl, rfl⟩) (by assumption) ?_
                  try simp only [Act.put, List.setIfInBounds_toArray, List.set_cons_zero, List.set_cons_succ, List.getElem_toArray, List.getElem_cons_zero, List.getElem_cons_succ]
                  refine wpAnyH_take (i := 11) (v := undef) rfl (by kernel_rfl) (by kernel_rfl) (by kernel_rfl) (fun _ _ _ h => h) (Or.inr ⟨by rfl, rfl⟩) (by assumption) ?_
                  try simp only [Act.put, List.setIfInBounds_toArray, List.set_cons_zero, List.set_cons_succ, List.getElem_toArray, List.getElem_cons_zero, List.getElem_cons_succ]
                  refine wpAnyH_take (i := 12) (v := ?_) rfl (by kernel_rfl) (by kernel_rfl) (by kernel_rfl) (fun _ _ _ h => h) (Or.inl ⟨by rfl, ?_⟩) (by assumption) ?_
                  rotate_left
                  · (intro w hSw; (try dsimp only at hSw); go_simp; try rfl)
                  try simp only [Act.put, List.setIfInBounds_toArray, List.set_cons_zero, List.set_cons_succ, List.getElem_toArray, List.getElem_cons_zero, List.getElem_cons_succ]
                  refine wpAnyH_take (i := 13) (v := ?_) rfl (by kernel_rfl) (by kernel_rfl) (by kernel_rfl) (fun _ _ _ h => h) (Or.inl ⟨by rfl, ?_⟩) (by assumption) ?_
                  rotate_left
                  · (intro w hSw; (try dsimp only at hSw); go_simp; try rfl)
                  try simp only [Act.put, List.setIfInBounds_toArray, List.set_cons_zero, List.set_cons_succ, List.getElem_toArray, List.getElem_cons_zero, List.getElem_cons_succ]
                  refine wpAnyH_take (i := 14) (v := undef) rfl (by kernel_rfl) (by kernel_rfl) (by kernel_rfl) (fun _ _ _ h => h) (Or.inr ⟨by rfl, rfl⟩) (by assumption) ?_
                  try simp only [Act.put, List.setIfInBounds_toArray, List.set_cons_zero, List.set_cons_succ, List.getElem_toArray, List.getElem_cons_zero, List.getElem_cons_succ]
                  refine wpAnyH_take (i := 15) (v := undef) rfl (by kernel_rfl) (by kernel_rfl) (by kernel_rfl) (fun _ _ _ h => h) (Or.inr ⟨by rfl, rfl⟩) (by assumption) ?_
                  try simp only [Act.put, List.setIfInBounds_toArray, List.set_cons_zero, List.set_cons_succ, List.getElem_toArray, List.getElem_cons_zero, List.getElem_cons_succ]
                  refine wpAnyH_take (i := 16) (v := undef) rfl (by kernel_rfl) (by kernel_rfl) (by kernel_rfl) (fun _ _ _ h => h) (Or.inr ⟨by rfl, rfl⟩) (by assumption) ?_
                  try simp only [Act.put, List.setIfInBounds_toArray, List.set_cons_zero, List.set_cons_succ, List.getElem_toArray, List.getElem_cons_zero, List.getElem_cons_succ]
                  refine wpAnyH_take (i := 17) (v := undef) rfl (by kernel_rfl) (by kernel_rfl) (by kernel_rfl) (fun _ _ _ h => h) (Or.inr ⟨by rfl, rfl⟩) (by assumption) ?_
                  try simp only [Act.put, List.setIfInBounds_toArray, List.set_cons_zero, List.set_cons_succ, List.getElem_toArray, List.getElem_cons_zero, List.getElem_cons_succ]
                  refine wpAnyH_take (i := 18) (v := undef) rfl (by kernel_rfl) (by kernel_rfl) (by kernel_rfl) (fun _ _ _ h => h) (Or.inr ⟨by rfl, rfl⟩) (by assumption) ?_
                  try simp only [Act.put, List.setIfInBounds_toArray, List.set_cons_zero, List.set_cons_succ, List.getElem_toArray, List.getElem_cons_zero, List.getElem_cons_succ]
                  refine wpAnyH_take (i := 19) (v := undef) rfl (by kernel_rfl) (by kernel_rfl) (by kernel_rfl) (fun _ _ _ h => h) (Or.inr ⟨by rfl, rfl⟩) (by assumption) ?_
                  try simp only [Act.put, List.setIfInBounds_toArray, List.set_cons_zero, List.set_cons_succ, List.getElem_toArray, List.getElem_cons_zero, List.getElem_cons_succ]
                  refine wpAnyH_take (i := 20) (v := undef) rfl (by kernel_rfl) (by kernel_rfl) (by kernel_rfl) (fun _ _ _ h => h) (Or.inr ⟨by rfl, rfl⟩) (by assumption) ?_
                  try simp only [Act.put, List.setIfInBounds_toArray, List.set_cons_zero, List.set_cons_succ, List.getElem_toArray, List.getElem_cons_zero, List.getElem_cons_succ]
                  refine wpAnyH_take (i := 21) (v := undef) rfl (by kernel_rfl) (by kernel_rfl) (by kernel_rfl) (fun _ _ _ h => h) (Or.inr ⟨by rfl, rfl⟩) (by assumption) ?_
                  try simp only [Act.put, List.setIfInBounds_toArray, List.set_cons_zero, List.set_cons_succ, List.getElem_toArray, List.getElem_cons_zero, List.getElem_cons_succ]
                  refine wpAnyH_take (i := 22) (v := ?_) rfl (by kernel_rfl) (by kernel_rfl) (by kernel_rfl) (fun _ _ _ h => h) (Or.inl ⟨by rfl, ?_⟩) (by assumption) ?_
                  rotate_left
                  · (intro w hSw; (try dsimp only at hSw); go_simp; try rfl)
                  try simp only [Act.put, List.setIfInBounds_toArray, List.set_cons_zero, List.set_cons_succ, List.getElem_toArray, List.getElem_cons_zero, List.getElem_cons_succ]
                  refine wpAnyH_done (by kernel_rfl) ?_ _
                  go_split_ands
                  obtain ⟨w8, hw8⟩ : ∃ W', w5.drew = W' := ⟨_, rfl⟩
                  have hb8 : Below w5.heap.size w5 w8 := by rw [← hw8]; exact (Below.refl _ _).drew
                  rw [hw8]
                  clear hw8
                  clear HK12
                  try clear hb
                  have HL8 : Hid (MacAt X gM d bk sb (k + 1) (runM ⟨[], []⟩ (ts.take (k + 1)) r0) w8) := Lib.hid (by rw [HRN.out]; exact HM5.out.on hb8)
                  have HS8 : Hid (SmM (runM ⟨[], []⟩ (ts.take (k + 1)) r0)) := Lib.hid (by rw [HRN.out]; exact HS5.out)
                  have HI8 : Hid (OldI (runM ⟨[], []⟩ (ts.take (k + 1)) r0) cl L) := Lib.hid (by
                    have h0 := HGN.out
                    rw [HRN.out]
                    simp only [cndO, Z0.out, Bool.false_and, Bool.false_eq_true, if_false] at h0
                    exact h0)
                  clear HCK hb8 HM5 HS5 HGN HRN
                  go_wp2
                  go_roundw
                  case rel => exact ⟨k + 1, L, by omega, rfl, by go_num, HL8, HS8, HI8⟩
                  case measure => simp [intOf]; omega
                · have z0 : (t.op != 0) = true := by simpa using h0
                  have Z0 := Lib.hid z0
                  clear h0
                  obtain ⟨V, hV⟩ : ∃ V, valS t.cl t.sq = V := ⟨_, rfl⟩
                  rw [hV] at HVT
                  have HVV := Lib.hid hV
                  clear hV
                  cases V with
                  | false =>
                    refine wp_region_held_drew (S := (fun w' => w'.cell? ⟨g, off + k * 8, none⟩ = some (.int .i64 t.cl) ∧ w'.cell? ⟨g, off + k * 8 + 1, none⟩ = some (.int .i64 t.sq) ∧ w'.cell? ⟨g, off + k * 8 + 2, none⟩ = some (.int .i64 t.op) ∧ w'.cell? ⟨g, off + k * 8 + 3, none⟩ = some (.string t.pa) ∧ w'.cell? ⟨g, off + k * 8 + 4, none⟩ = some (.string t.va) ∧ w'.cell? ⟨g, off + k * 8 + 5, none⟩ = some (.int .i64 t.ver) ∧ w'.cell? ⟨g, off + k * 8 + 6, none⟩ = some (.int .i64 t.a) ∧ w'.cell? ⟨g, off + k * 8 + 7, none⟩ = some (.int .i64 t.b) ∧ w'.cell? ⟨g0, 0, none⟩ = some (.int .i64 cl) ∧ Below w5.heap.size w5 w')) (by kernel_rfl) ?_ (fun hHeld => ?_)
                    · ((first
                      | exact HK12.out _ (Below.refl _ _)
                      | exact HK12.out _ (Below.refl _ _).drew
                      | exact HK12.out _ hb8
                      | fail))
                    refine wpAnyH_take (i := 0) (v := ?_) rfl (by kernel_rfl) (by kernel_rfl) (by kernel_rfl) (fun _ _ _ h => h) (Or.inl ⟨by rfl, ?_⟩) (by assumption) ?_
                    rotate_left
                    · (intro w hSw; (try dsimp only at hSw); go_simp; try rfl)
                    try simp only [Act.put, List.setIfInBounds_toArray, List.set_cons_zero, List.set_cons_succ, List.getElem_toArray, List.getElem_cons_zero, List.getElem_cons_succ]
                    refine wpAnyH_take (i := 1) (v := ?_) rfl (by kernel_rfl) (by kernel_rfl) (by kernel_rfl) (fun _ _ _ h => h) (Or.inl ⟨by rfl, ?_⟩) (by assumption) ?_
                    rotate_left
                    · (intro w hSw; (try dsimp only at hSw); go_simp; try rfl)
                    try simp only [Act.put, List.setIfInBounds_toArray, List.set_cons_zero, List.set_cons_succ, List.getElem_toArray, List.getElem_cons_zero, List.getElem_cons_succ]
                    refine wpAnyH_take (i := 2) (v := ?_) rfl (by kernel_rfl) (by kernel_rfl) (by kernel_rfl) (fun _ _ _ h => h) (Or.inl ⟨by rfl, ?_⟩) (by assumption) ?_
                    rotate_left
                    · (intro w hSw; (try dsimp only at hSw); go_simp; try rfl)
                    try simp only [Act.put, List.setIfInBounds_toArray, List.set_cons_zero, List.set_cons_succ, List.getElem_toArray, List.getElem_cons_zero, List.getElem_cons_succ]
                    refine wpAnyH_take (i := 3) (v := ?_) rfl (by kernel_rfl) (by kernel_rfl) (by kernel_rfl) (fun _ _ _ h => h) (Or.inl ⟨by rfl, ?_⟩) (by assumption) ?_
                    rotate_left
                    · (intro w hSw; (try dsimp only at hSw); go_simp; try rfl)
                    try simp only [Act.put, List.setIfInBounds_toArray, List.set_cons_zero, List.set_cons_succ, List.getElem_toArray, List.getElem_cons_zero, List.getElem_cons_succ]
                    refine wpAnyH_take (i := 4) (v := ?_) rfl (by kernel_rfl) (by kernel_rfl) (by kernel_rfl) (fun _ _ _ h => h) (Or.inl ⟨by rfl, ?_⟩) (by assumption) ?_
                    rotate_left
                    · (intro w hSw; (try dsimp only at hSw); go_simp; try rfl)
                    try simp only [Act.put, List.setIfInBounds_toArray, List.set_cons_zero, List.set_cons_succ, List.getElem_toArray, List.getElem_cons_zero, List.getElem_cons_succ]
                    refine wpAnyH_take (i := 5) (v := ?_) rfl (by kernel_rfl) (by kernel_rfl) (by kernel_rfl) (fun _ _ _ h => h) (Or.inl ⟨by rfl, ?_⟩) (by assumption) ?_
                    rotate_left
                    · (intro w hSw; (try dsimp only at hSw); go_simp; try rfl)
                    try simp only [Act.put, List.setIfInBounds_toArray, List.set_cons_zero, List.set_cons_succ, List.getElem_toArray, List.getElem_cons_zero, List.getElem_cons_succ]
                    refine wpAnyH_take (i := 6) (v := ?_) rfl (by kernel_rfl) (by kernel_rfl) (by kernel_rfl) (fun _ _ _ h => h) (Or.inl ⟨by rfl, ?_⟩) (by assumption) ?_
                    rotate_left
                    · (intro w hSw; (try dsimp only at hSw); go_simp; try rfl)
                    try simp only [Act.put, List.setIfInBounds_toArray, List.set_cons_zero, List.set_cons_succ, List.getElem_toArray, List.getElem_cons_zero, List.getElem_cons_succ]
                    refine wpAnyH_take (i := 7) (v := ?_) rfl (by kernel_rfl) (by kernel_rfl) (by kernel_rfl) (fun _ _ _ h => h) (Or.inl ⟨by rfl, ?_⟩) (by assumption) ?_
                    rotate_left
                    · (intro w hSw; (try dsimp only at hSw); go_simp; try rfl)
                    try simp only [Act.put, List.setIfInBounds_toArray, List.set_cons_zero, List.set_cons_succ, List.getElem_toArray, List.getElem_cons_zero, List.getElem_cons_succ]
                    refine wpAnyH_take (i := 8) (v := ?_) rfl (by kernel_rfl) (by kernel_rfl) (by kernel_rfl) (fun _ _ _ h => h) (Or.inl ⟨by rfl, ?_⟩) (by assumption) ?_
                    rotate_left
                    · (intro w hSw; (try dsimp only at hSw); go_simp; try rfl)
                    try simp only [Act.put, List.setIfInBounds_toArray, List.set_cons_zero, List.set_cons_succ, List.getElem_toArray, List.getElem_cons_zero, List.getElem_cons_succ]
                    refine wpAnyH_take (i := 9) (v := ?_) rfl (by kernel_rfl) (by kernel_rfl) (by kernel_rfl) (fun _ _ _ h => h) (Or.inl ⟨by rfl, ?_⟩) (by assumption) ?_
                    rotate_left
                    · (intro w hSw; (try dsimp only at hSw); go_simp; try rfl)
                    try simp only [Act.put, List.setIfInBounds_toArray, List.set_cons_zero, List.set_cons_succ, List.getElem_toArray, List.getElem_cons_zero, List.getElem_cons_succ]
                    refine wpAnyH_take (i := 10) (v := ?_) rfl (by kernel_rfl) (by kernel_rfl) (by kernel_rfl) (fun _ _ _ h => h) (Or.inl ⟨by rfl, ?_⟩) (by assumption) ?_
                    rotate_left
                    · (intro w hSw; (try dsimp only at hSw); go_simp; try rfl)
                    try simp only [Act.put, List.setIfInBounds_toArray, List.set_cons_zero, List.set_cons_succ, List.getElem_toArray, List.getElem_cons_zero, List.getElem_cons_succ]
                    refine wpAnyH_ready (rs := [11]) (by kernel_rfl) (by simp) ?_
                    refine (AllReadyH.cons rfl (fun K hK => ?_) AllReadyH.nil)
                    go_simp
                    (go_at_call 20; refine (HVT.out _).mono ?_; rintro e w8 ⟨rfl, hb⟩; have hb8 : Below w5.heap.size w5 w8 := below_self (Below.refl _ _).drew hb)
                    refine hK.out _ _ ?_ (fun hHeld => ?_)
                    · ((first
                      | exact HK12.out _ (Below.refl _ _)
                      | exact HK12.out _ (Below.refl _ _).drew
                      | exact HK12.out _ hb8
                      | fail))
                    clear hK K
                    try simp only [Act.put, List.setIfInBounds_toArray, List.set_cons_zero, List.set_cons_succ, List.getElem_toArray, List.getElem_cons_zero, List.getElem_cons_succ]
                    refine wpAnyH_take (i := 12) (v := ?_) rfl (by kernel_rfl) (by kernel_rfl) (by kernel_rfl) (fun _ _ _ h => h) (Or.inl ⟨by rfl, ?_⟩) (by assumption) ?_
                    rotate_left
                    · (intro w hSw; (try dsimp only at hSw); go_simp; try rfl)
                    try simp only [Act.put, List.setIfInBounds_toArray, List.set_cons_zero, List.set_cons_succ, List.getElem_toArray, List.getElem_cons_zero, List.getElem_cons_succ]
                    refine wpAnyH_take (i := 13) (v := ?_) rfl (by kernel_rfl) (by kernel_rfl) (by kernel_rfl) (fun _ _ _ h => h) (Or.inl ⟨by rfl, ?_⟩) (by assumption) ?_
                    rotate_left
                    · (intro w hSw; (try dsimp only at hSw); go_simp; try rfl)
                    try simp only [Act.put, List.setIfInBounds_toArray, List.set_cons_zero, List.set_cons_succ, List.getElem_toArray, List.getElem_cons_zero, List.getElem_cons_succ]
                    refine wpAnyH_take (i := 14) (v := undef) rfl (by kernel_rfl) (by kernel_rfl) (by kernel_rfl) (fun _ _ _ h => h) (Or.inr ⟨by rfl, rfl⟩) (by assumption) ?_
                    try simp only [Act.put, List.setIfInBounds_toArray, List.set_cons_zero, List.set_cons_succ, List.getElem_toArray, List.getElem_cons_zero, List.getElem_cons_succ]
                    refine wpAnyH_take (i := 15) (v := undef) rfl (by kernel_rfl) (by kernel_rfl) (by kernel_rfl) (fun _ _ _ h => h) (Or.inr ⟨by rfl, rfl⟩) (by assumption) ?_
                    try simp only [Act.put, List.setIfInBounds_toArray, List.set_cons_zero, List.set_cons_succ, List.getElem_toArray, List.getElem_cons_zero, List.getElem_cons_succ]
                    refine wpAnyH_take (i := 16) (v := undef) rfl (by kernel_rfl) (by kernel_rfl) (by kernel_rfl) (fun _ _ _ h => h) (Or.inr ⟨by rfl, rfl⟩) (by assumption) ?_
                    try simp only [Act.put, List.setIfInBounds_toArray, List.set_cons_zero, List.set_cons_succ, List.getElem_toArray, List.getElem_cons_zero, List.getElem_cons_succ]
                    refine wpAnyH_take (i := 17) (v := undef) rfl (by kernel_rfl) (by kernel_rfl) (by kernel_rfl) (fun _ _ _ h => h) (Or.inr ⟨by rfl, rfl⟩) (by assumption) ?_
                    try simp only [Act.put, List.setIfInBounds_toArray, List.set_cons_zero, List.set_cons_succ, List.getElem_toArray, List.getElem_cons_zero, List.getElem_cons_succ]
                    refine wpAnyH_take (i := 18) (v := undef) rfl (by kernel_rfl) (by kernel_rfl) (by kernel_rfl) (fun _ _ _ h => h) (Or.inr ⟨by rfl, rfl⟩) (by assumption) ?_
                    try simp only [Act.put, List.setIfInBounds_toArray, List.set_cons_zero, List.set_cons_succ, List.getElem_toArray, List.getElem_cons_zero, List.getElem_cons_succ]
                    refine wpAnyH_take (i := 19) (v := undef) rfl (by kernel_rfl) (by kernel_rfl) (by kernel_rfl) (fun _ _ _ h => h) (Or.inr ⟨by rfl, rfl⟩) (by assumption) ?_
                    try simp only [Act.put, List.setIfInBounds_toArray, List.set_cons_zero, List.set_cons_succ, List.getElem_toArray, List.getElem_cons_zero, List.getElem_cons_succ]
                    refine wpAnyH_take (i := 20) (v := undef) rfl (by kernel_rfl) (by kernel_rfl) (by kernel_rfl) (fun _ _ _ h => h) (Or.inr ⟨by rfl, rfl⟩) (by assumption) ?_
                    try simp only [Act.put, List.setIfInBounds_toArray, List.set_cons_zero, List.set_cons_succ, List.getElem_toArray, List.getElem_cons_zero, List.getElem_cons_succ]
                    refine wpAnyH_take (i := 21) (v := undef) rfl (by kernel_rfl) (by kernel_rfl) (by kernel_rfl) (fun _ _ _ h => h) (Or.inr ⟨by rfl, rfl⟩) (by assumption) ?_
                    try simp only [Act.put, List.setIfInBounds_toArray, List.set_cons_zero, List.set_cons_succ, List.getElem_toArray, List.getElem_cons_zero, List.getElem_cons_succ]
                    refine wpAnyH_take (i := 22) (v := ?_) rfl (by kernel_rfl) (by kernel_rfl) (by kernel_rfl) (fun _ _ _ h => h) (Or.inl ⟨by rfl, ?_⟩) (by assumption) ?_
                    rotate_left
                    · (intro w hSw; (try dsimp only at hSw); go_simp; try rfl)
                    try simp only [Act.put, List.setIfInBounds_toArray, List.set_cons_zero, List.set_cons_succ, List.getElem_toArray, List.getElem_cons_zero, List.getElem_cons_succ]
                    refine wpAnyH_done (by kernel_rfl) ?_ _
                    go_split_ands
                    clear HK12
                    try clear hb
                    have HL8 : Hid (MacAt X gM d bk sb (k + 1) (runM ⟨[], []⟩ (ts.take (k + 1)) r0) w8) := Lib.hid (by rw [HRN.out]; exact HM5.out.on hb8)
                    have HS8 : Hid (SmM (runM ⟨[], []⟩ (ts.take (k + 1)) r0)) := Lib.hid (by rw [HRN.out]; exact HS5.out)
                    have HI8 : Hid (OldI (runM ⟨[], []⟩ (ts.take (k + 1)) r0) cl L) := Lib.hid (by
                      have h0 := HGN.out
                      rw [HRN.out]
                      simp only [cndO, Z0.out, HVV.out, Bool.true_and, Bool.false_and, Bool.false_eq_true, if_false] at h0
                      exact h0)
                    clear HCK hb8 HM5 HS5 HGN HRN
                    go_wp2
                    go_roundw
                    case rel => exact ⟨k + 1, L, by omega, rfl, by go_num, HL8, HS8, HI8⟩
                    case measure => simp [intOf]; omega
                  | true =>
                    by_cases h1 : t.cl = cl
                    · have z1 : (t.cl == cl) = true := by simpa using h1
                      have Z1 := Lib.hid z1
                      clear h1
                      refine wp_region_held_drew (S := (fun w' => w'.cell? ⟨g, off + k * 8, none⟩ = some (.int .i64 t.cl) ∧ w'.cell? ⟨g, off + k * 8 + 1, none⟩ = some (.int .i64 t.sq) ∧ w'.cell? ⟨g, off + k * 8 + 2, none⟩ = some (.int .i64 t.op) ∧ w'.cell? ⟨g, off + k * 8 + 3, none⟩ = some (.string t.pa) ∧ w'.cell? ⟨g, off + k * 8 + 4, none⟩ = some (.string t.va) ∧ w'.cell? ⟨g, off + k * 8 + 5, none⟩ = some (.int .i64 t.ver) ∧ w'.cell? ⟨g, off + k * 8 + 6, none⟩ = some (.int .i64 t.a) ∧ w'.cell? ⟨g, off + k * 8 + 7, none⟩ = some (.int .i64 t.b) ∧ w'.cell? ⟨g0, 0, none⟩ = some (.int .i64 cl) ∧ Below w5.heap.size w5 w')) (by kernel_rfl) ?_ (fun hHeld => ?_)
                      · ((first
                        | exact HK12.out _ (Below.refl _ _)
                        | exact HK12.out _ (Below.refl _ _).drew
                        | exact HK12.out _ hb8
                        | fail))
                      refine wpAnyH_take (i := 0) (v := ?_) rfl (by kernel_rfl) (by kernel_rfl) (by kernel_rfl) (fun _ _ _ h => h) (Or.inl ⟨by rfl, ?_⟩) (by assumption) ?_
                      rotate_left
                      · (intro w hSw; (try dsimp only at hSw); go_simp; try rfl)
                      try simp only [Act.put, List.setIfInBounds_toArray, List.set_cons_zero, List.set_cons_succ, List.getElem_toArray, List.getElem_cons_zero, List.getElem_cons_succ]
                      refine wpAnyH_take (i := 1) (v := ?_) rfl (by kernel_rfl) (by kernel_rfl) (by kernel_rfl) (fun _ _ _ h => h) (Or.inl ⟨by rfl, ?_⟩) (by assumption) ?_
                      rotate_left
                      · (intro w hSw; (try dsimp only at hSw); go_simp; try rfl)
                      try simp only [Act.put, List.setIfInBounds_toArray, List.set_cons_zero, List.set_cons_succ, List.getElem_toArray, List.getElem_cons_zero, List.getElem_cons_succ]
                      refine wpAnyH_take (i := 2) (v := ?_) rfl (by kernel_rfl) (by kernel_rfl) (by kernel_rfl) (fun _ _ _ h => h) (Or.inl ⟨by rfl, ?_⟩) (by assumption) ?_
                      rotate_left
                      · (intro w hSw; (try dsimp only at hSw); go_simp; try rfl)
                      try simp only [Act.put, List.setIfInBounds_toArray, List.set_cons_zero, List.set_cons_succ, List.getElem_toArray, List.getElem_cons_zero, List.getElem_cons_succ]
                      refine wpAnyH_take (i := 3) (v := ?_) rfl (by kernel_rfl) (by kernel_rfl) (by kernel_rfl) (fun _ _ _ h => h) (Or.inl ⟨by rfl, ?_⟩) (by assumption) ?_
                      rotate_left
                      · (intro w hSw; (try dsimp only at hSw); go_simp; try rfl)
                      try simp only [Act.put, List.setIfInBounds_toArray, List.set_cons_zero, List.set_cons_succ, List.getElem_toArray, List.getElem_cons_zero, List.getElem_cons_succ]
                      refine wpAnyH_take (i := 4) (v := ?_) rfl (by kernel_rfl) (by kernel_rfl) (by kernel_rfl) (fun _ _ _ h => h) (Or.inl ⟨by rfl, ?_⟩) (by assumption) ?_
                      rotate_left
                      · (intro w hSw; (try dsimp only at hSw); go_simp; try rfl)
                      try simp only [Act.put, List.setIfInBounds_toArray, List.set_cons_zero, List.set_cons_succ, List.getElem_toArray, List.getElem_cons_zero, List.getElem_cons_succ]
                      refine wpAnyH_take (i := 5) (v := ?_) rfl (by kernel_rfl) (by kernel_rfl) (by kernel_rfl) (fun _ _ _ h => h) (Or.inl ⟨by rfl, ?_⟩) (by assumption) ?_
                      rotate_left
                      · (intro w hSw; (try dsimp only at hSw); go_simp; try rfl)
                      try simp only [Act.put, List.setIfInBounds_toArray, List.set_cons_zero, List.set_cons_succ, List.getElem_toArray, List.getElem_cons_zero, List.getElem_cons_succ]
                      refine wpAnyH_take (i := 6) (v := ?_) rfl (by kernel_rfl) (by kernel_rfl) (by kernel_rfl) (fun _ _ _ h => h) (Or.inl ⟨by rfl, ?_⟩) (by assumption) ?_
                      rotate_left
                      · (intro w hSw; (try dsimp only at hSw); go_simp; try rfl)
                      try simp only [Act.put, List.setIfInBounds_toArray, List.set_cons_zero, List.set_cons_succ, List.getElem_toArray, List.getElem_cons_zero, List.getElem_cons_succ]
                      refine wpAnyH_take (i := 7) (v := ?_) rfl (by kernel_rfl) (by kernel_rfl) (by kernel_rfl) (fun _ _ _ h => h) (Or.inl ⟨by rfl, ?_⟩) (by assumption) ?_
                      rotate_left
                      · (intro w hSw; (try dsimp only at hSw); go_simp; try rfl)
                      try simp only [Act.put, List.setIfInBounds_toArray, List.set_cons_zero, List.set_cons_succ, List.getElem_toArray, List.getElem_cons_zero, List.getElem_cons_succ]
                      refine wpAnyH_take (i := 8) (v := ?_) rfl (by kernel_rfl) (by kernel_rfl) (by kernel_rfl) (fun _ _ _ h => h) (Or.inl ⟨by rfl, ?_⟩) (by assumption) ?_
                      rotate_left
                      · (intro w hSw; (try dsimp only at hSw); go_simp; try rfl)
                      try simp only [Act.put, List.setIfInBounds_toArray, List.set_cons_zero, List.set_cons_succ, List.getElem_toArray, List.getElem_cons_zero, List.getElem_cons_succ]
                      refine wpAnyH_take (i := 9) (v := ?_) rfl (by kernel_rfl) (by kernel_rfl) (by kernel_rfl) (fun _ _ _ h => h) (Or.inl ⟨by rfl, ?_⟩) (by assumption) ?_
                      rotate_left
                      · (intro w hSw; (try dsimp only at hSw); go_simp; try rfl)
                      try simp only [Act.put, List.setIfInBounds_toArray, List.set_cons_zero, List.set_cons_succ, List.getElem_toArray, List.getElem_cons_zero, List.getElem_cons_succ]
                      refine wpAnyH_take (i := 10) (v := ?_) rfl (by kernel_rfl) (by kernel_rfl) (by kernel_rfl) (fun _ _ _ h => h) (Or.inl ⟨by rfl, ?_⟩) (by assumption) ?_
                      rotate_left
                      · (intro w hSw; (try dsimp only at hSw); go_simp; try rfl)
                      try simp only [Act.put, List.setIfInBounds_toArray, List.set_cons_zero, List.set_cons_succ, List.getElem_toArray, List.getElem_cons_zero, List.getElem_cons_succ]
                      refine wpAnyH_ready (rs := [11]) (by kernel_rfl) (by simp) ?_
                      refine (AllReadyH.cons rfl (fun K hK => ?_) AllReadyH.nil)
                      go_simp
                      (go_at_call 20; refine (HVT.out _).mono ?_; rintro e w8 ⟨rfl, hb⟩; have hb8 : Below w5.heap.size w5 w8 := below_self (Below.refl _ _).drew hb)
                      refine hK.out _ _ ?_ (fun hHeld => ?_)
                      · ((first
                        | exact HK12.out _ (Below.refl _ _)
                        | exact HK12.out _ (Below.refl _ _).drew
                        | exact HK12.out _ hb8
                        | fail))
                      clear hK K
                      try simp only [Act.put, List.setIfInBounds_toArray, List.set_cons_zero, List.set_cons_succ, List.getElem_toArray, List.getElem_cons_zero, List.getElem_cons_succ]
                      refine wpAnyH_take (i := 12) (v := ?_) rfl (by kernel_rfl) (by kernel_rfl) (by kernel_rfl) (fun _ _ _ h => h) (Or.inl ⟨by rfl, ?_⟩) (by assumption) ?_
                      rotate_left
                      · (intro w hSw; (try dsimp only at hSw); go_simp; try rfl)
                      try simp only [Act.put, List.setIfInBounds_toArray, List.set_cons_zero, List.set_cons_succ, List.getElem_toArray, List.getElem_cons_zero, List.getElem_cons_succ]
                      refine wpAnyH_take (i := 13) (v := ?_) rfl (by kernel_rfl) (by kernel_rfl) (by kernel_rfl) (fun _ _ _ h => h) (Or.inl ⟨by rfl, ?_⟩) (by assumption) ?_
                      rotate_left
                      · (intro w hSw; (try dsimp only at hSw); go_simp; try rfl)
                      try simp only [Act.put, List.setIfInBounds_toArray, List.set_cons_zero, List.set_cons_succ, List.getElem_toArray, List.getElem_cons_zero, List.getElem_cons_succ]
                      refine wpAnyH_take (i := 14) (v := ?_) rfl (by kernel_rfl) (by kernel_rfl) (by kernel_rfl) (fun _ _ _ h => h) (Or.inl ⟨by rfl, ?_⟩) (by assumption) ?_
                      rotate_left
                      · (intro w hSw; (try dsimp only at hSw); go_simp; try rfl)
                      try simp only [Act.put, List.setIfInBounds_toArray, List.set_cons_zero, List.set_cons_succ, List.getElem_toArray, List.getElem_cons_zero, List.getElem_cons_succ]
                      refine wpAnyH_take (i := 15) (v := ?_) rfl (by kernel_rfl) (by kernel_rfl) (by kernel_rfl) (fun _ _ _ h => h) (Or.inl ⟨by rfl, ?_⟩) (by assumption) ?_
                      rotate_left
                      · (intro w hSw; (try dsimp only at hSw); go_simp; try rfl)
                      try simp only [Act.put, List.setIfInBounds_toArray, List.set_cons_zero, List.set_cons_succ, List.getElem_toArray, List.getElem_cons_zero, List.getElem_cons_succ]
                      refine wpAnyH_take (i := 16) (v := ?_) rfl (by kernel_rfl) (by kernel_rfl) (by kernel_rfl) (fun _ _ _ h => h) (Or.inl ⟨by rfl, ?_⟩) (by assumption) ?_
                      rotate_left
                      · (intro w hSw; (try dsimp only at hSw); go_simp; try rfl)
                      try simp only [Act.put, List.setIfInBounds_toArray, List.set_cons_zero, List.set_cons_succ, List.getElem_toArray, List.getElem_cons_zero, List.getElem_cons_succ]
                      refine wpAnyH_take (i := 17) (v := ?_) rfl (by kernel_rfl) (by kernel_rfl) (by kernel_rfl) (fun _ _ _ h => h) (Or.inl ⟨by rfl, ?_⟩) (by assumption) ?_
                      rotate_left
                      · (intro w hSw; (try dsimp only at hSw); go_simp; try rfl)
                      try simp only [Act.put, List.setIfInBounds_toArray, List.set_cons_zero, List.set_cons_succ, List.getElem_toArray, List.getElem_cons_zero, List.getElem_cons_succ]
                      refine wpAnyH_take (i := 18) (v := ?_) rfl (by kernel_rfl) (by kernel_rfl) (by kernel_rfl) (fun _ _ _ h => h) (Or.inl ⟨by rfl, ?_⟩) (by assumption) ?_
                      rotate_left
                      · (intro w hSw; (try dsimp only at hSw); go_simp; try rfl)
                      try simp only [Act.put, List.setIfInBounds_toArray, List.set_cons_zero, List.set_cons_succ, List.getElem_toArray, List.getElem_cons_zero, List.getElem_cons_succ]
                      refine wpAnyH_take (i := 19) (v := ?_) rfl (by kernel_rfl) (by kernel_rfl) (by kernel_rfl) (fun _ _ _ h => h) (Or.inl ⟨by rfl, ?_⟩) (by assumption) ?_
                      rotate_left
                      · (intro w hSw; (try dsimp only at hSw); go_simp; try rfl)
                      try simp only [Act.put, List.setIfInBounds_toArray, List.set_cons_zero, List.set_cons_succ, List.getElem_toArray, List.getElem_cons_zero, List.getElem_cons_succ]
                      refine wpAnyH_take (i := 20) (v := ?_) rfl (by kernel_rfl) (by kernel_rfl) (by kernel_rfl) (fun _ _ _ h => h) (Or.inl ⟨by rfl, ?_⟩) (by assumption) ?_
                      rotate_left
                      · (intro w hSw; (try dsimp only at hSw); go_simp; try rfl)
                      try simp only [Act.put, List.setIfInBounds_toArray, List.set_cons_zero, List.set_cons_succ, List.getElem_toArray, List.getElem_cons_zero, List.getElem_cons_succ]
                      refine wpAnyH_take (i := 21) (v := ?_) rfl (by kernel_rfl) (by kernel_rfl) (by kernel_rfl) (fun _ _ _ h => h) (Or.inl ⟨by rfl, ?_⟩) (by assumption) ?_
                      rotate_left
                      · (intro w hSw; (try dsimp only at hSw); go_simp; try rfl)
                      try simp only [Act.put, List.setIfInBounds_toArray, List.set_cons_zero, List.set_cons_succ, List.getElem_toArray, List.getElem_cons_zero, List.getElem_cons_succ]
                      refine wpAnyH_take (i := 22) (v := ?_) rfl (by kernel_rfl) (by kernel_rfl) (by kernel_rfl) (fun _ _ _ h => h) (Or.inl ⟨by rfl, ?_⟩) (by assumption) ?_
                      rotate_left
                      · (intro w hSw; (try dsimp only at hSw); go_simp; try rfl)
                      try simp only [Act.put, List.setIfInBounds_toArray, List.set_cons_zero, List.set_cons_succ, List.getElem_toArray, List.getElem_cons_zero, List.getElem_cons_succ]
                      refine wpAnyH_done (by kernel_rfl) ?_ _
                      go_split_ands
                      clear HK12
                      try clear hb
                      by_cases hmx : L < t.sq
                      · have HL8 : Hid (MacAt X gM d bk sb (k + 1) (runM ⟨[], []⟩ (ts.take (k + 1)) r0) w8) := Lib.hid (by rw [HRN.out]; exact HM5.out.on hb8)
                        have HS8 : Hid (SmM (runM ⟨[], []⟩ (ts.take (k + 1)) r0)) := Lib.hid (by rw [HRN.out]; exact HS5.out)
                        have HI8 : Hid (OldI (runM ⟨[], []⟩ (ts.take (k + 1)) r0) cl t.sq) := Lib.hid (by
                          have h0 := HGN.out
                          rw [HRN.out]
                          simp only [cndO, Z0.out, HVV.out, Z1.out, Bool.true_and, if_true] at h0
                          rw [if_pos hmx] at h0
                          exact h0)
                        obtain ⟨m0, m1, m2, m3, m4, m5, m6, m7⟩ := HCK.out w8 (HM5.out.on hb8).lw.below
                        clear HCK
                        clear hb8 HM5 HS5 HGN HRN
                        go_wp2_with (refine wpList_max_g rfl _ _ _ rfl _ _ rfl rfl ?_)
                        go_roundw
                        case rel => exact ⟨k + 1, t.sq, by omega, rfl, by go_num, HL8, HS8, HI8⟩
                        case measure => simp [intOf]; omega
                      · have HL8 : Hid (MacAt X gM d bk sb (k + 1) (runM ⟨[], []⟩ (ts.take (k + 1)) r0) w8) := Lib.hid (by rw [HRN.out]; exact HM5.out.on hb8)
                        have HS8 : Hid (SmM (runM ⟨[], []⟩ (ts.take (k + 1)) r0)) := Lib.hid (by rw [HRN.out]; exact HS5.out)
                        have HI8 : Hid (OldI (runM ⟨[], []⟩ (ts.take (k + 1)) r0) cl L) := Lib.hid (by
                          have h0 := HGN.out
                          rw [HRN.out]
                          simp only [cndO, Z0.out, HVV.out, Z1.out, Bool.true_and, if_true] at h0
                          rw [if_neg hmx] at h0
                          exact h0)
                        obtain ⟨m0, m1, m2, m3, m4, m5, m6, m7⟩ := HCK.out w8 (HM5.out.on hb8).lw.below
                        clear HCK
                        clear hb8 HM5 HS5 HGN HRN
                        go_wp2_with (refine wpList_max_g rfl _ _ _ rfl _ _ rfl rfl ?_)
                        go_roundw
                        case rel => exact ⟨k + 1, L, by omega, rfl, by go_num, HL8, HS8, HI8⟩
                        case measure => simp [intOf]; omega
                    · have z1 : (t.cl == cl) = false := by simpa using h1
                      have Z1 := Lib.hid z1
                      clear h1
                      refine wp_region_held_drew (S := (fun w' => w'.cell? ⟨g, off + k * 8, none⟩ = some (.int .i64 t.cl) ∧ w'.cell? ⟨g, off + k * 8 + 1, none⟩ = some (.int .i64 t.sq) ∧ w'.cell? ⟨g, off + k * 8 + 2, none⟩ = some (.int .i64 t.op) ∧ w'.cell? ⟨g, off + k * 8 + 3, none⟩ = some (.string t.pa) ∧ w'.cell? ⟨g, off + k * 8 + 4, none⟩ = some (.string t.va) ∧ w'.cell? ⟨g, off + k * 8 + 5, none⟩ = some (.int .i64 t.ver) ∧ w'.cell? ⟨g, off + k * 8 + 6, none⟩ = some (.int .i64 t.a) ∧ w'.cell? ⟨g, off + k * 8 + 7, none⟩ = some (.int .i64 t.b) ∧ w'.cell? ⟨g0, 0, none⟩ = some (.int .i64 cl) ∧ Below w5.heap.size w5 w')) (by kernel_rfl) ?_ (fun hHeld => ?_)
                      · ((first
                        | exact HK12.out _ (Below.refl _ _)
                        | exact HK12.out _ (Below.refl _ _).drew
                        | exact HK12.out _ hb8
                        | fail))
                      refine wpAnyH_take (i := 0) (v := ?_) rfl (by kernel_rfl) (by kernel_rfl) (by kernel_rfl) (fun _ _ _ h => h) (Or.inl ⟨by rfl, ?_⟩) (by assumption) ?_
                      rotate_left
                      · (intro w hSw; (try dsimp only at hSw); go_simp; try rfl)
                      try simp only [Act.put, List.setIfInBounds_toArray, List.set_cons_zero, List.set_cons_succ, List.getElem_toArray, List.getElem_cons_zero, List.getElem_cons_succ]
                      refine wpAnyH_take (i := 1) (v := ?_) rfl (by kernel_rfl) (by kernel_rfl) (by kernel_rfl) (fun _ _ _ h => h) (Or.inl ⟨by rfl, ?_⟩) (by assumption) ?_
                      rotate_left
                      · (intro w hSw; (try dsimp only at hSw); go_simp; try rfl)
                      try simp only [Act.put, List.setIfInBounds_toArray, List.set_cons_zero, List.set_cons_succ, List.getElem_toArray, List.getElem_cons_zero, List.getElem_cons_succ]
                      refine wpAnyH_take (i := 2) (v := ?_) rfl (by kernel_rfl) (by kernel_rfl) (by kernel_rfl) (fun _ _ _ h => h) (Or.inl ⟨by rfl, ?_⟩) (by assumption) ?_
                      rotate_left
                      · (intro w hSw; (try dsimp only at hSw); go_simp; try rfl)
                      try simp only [Act.put, List.setIfInBounds_toArray, List.set_cons_zero, List.set_cons_succ, List.getElem_toArray, List.getElem_cons_zero, List.getElem_cons_succ]
                      refine wpAnyH_take (i := 3) (v := ?_) rfl (by kernel_rfl) (by kernel_rfl) (by kernel_rfl) (fun _ _ _ h => h) (Or.inl ⟨by rfl, ?_⟩) (by assumption) ?_
                      rotate_left
                      · (intro w hSw; (try dsimp only at hSw); go_simp; try rfl)
                      try simp only [Act.put, List.setIfInBounds_toArray, List.set_cons_zero, List.set_cons_succ, List.getElem_toArray, List.getElem_cons_zero, List.getElem_cons_succ]
                      refine wpAnyH_take (i := 4) (v := ?_) rfl (by kernel_rfl) (by kernel_rfl) (by kernel_rfl) (fun _ _ _ h => h) (Or.inl ⟨by rfl, ?_⟩) (by assumption) ?_
                      rotate_left
                      · (intro w hSw; (try dsimp only at hSw); go_simp; try rfl)
                      try simp only [Act.put, List.setIfInBounds_toArray, List.set_cons_zero, List.set_cons_succ, List.getElem_toArray, List.getElem_cons_zero, List.getElem_cons_succ]
                      refine wpAnyH_take (i := 5) (v := ?_) rfl (by kernel_rfl) (by kernel_rfl) (by kernel_rfl) (fun _ _ _ h => h) (Or.inl ⟨by rfl, ?_⟩) (by assumption) ?_
                      rotate_left
                      · (intro w hSw; (try dsimp only at hSw); go_simp; try rfl)
                      try simp only [Act.put, List.setIfInBounds_toArray, List.set_cons_zero, List.set_cons_succ, List.getElem_toArray, List.getElem_cons_zero, List.getElem_cons_succ]
                      refine wpAnyH_take (i := 6) (v := ?_) rfl (by kernel_rfl) (by kernel_rfl) (by kernel_rfl) (fun _ _ _ h => h) (Or.inl ⟨by rfl, ?_⟩) (by assumption) ?_
                      rotate_left
                      · (intro w hSw; (try dsimp only at hSw); go_simp; try rfl)
                      try simp only [Act.put, List.setIfInBounds_toArray, List.set_cons_zero, List.set_cons_succ, List.getElem_toArray, List.getElem_cons_zero, List.getElem_cons_succ]
                      refine wpAnyH_take (i := 7) (v := ?_) rfl (by kernel_rfl) (by kernel_rfl) (by kernel_rfl) (fun _ _ _ h => h) (Or.inl ⟨by rfl, ?_⟩) (by assumption) ?_
                      rotate_left
                      · (intro w hSw; (try dsimp only at hSw); go_simp; try rfl)
                      try simp only [Act.put, List.setIfInBounds_toArray, List.set_cons_zero, List.set_cons_succ, List.getElem_toArray, List.getElem_cons_zero, List.getElem_cons_succ]
                      refine wpAnyH_take (i := 8) (v := ?_) rfl (by kernel_rfl) (by kernel_rfl) (by kernel_rfl) (fun _ _ _ h => h) (Or.inl ⟨by rfl, ?_⟩) (by assumption) ?_
                      rotate_left
                      · (intro w hSw; (try dsimp only at hSw); go_simp; try rfl)
                      try simp only [Act.put, List.setIfInBounds_toArray, List.set_cons_zero, List.set_cons_succ, List.getElem_toArray, List.getElem_cons_zero, List.getElem_cons_succ]
                      refine wpAnyH_take (i := 9) (v := ?_) rfl (by kernel_rfl) (by kernel_rfl) (by kernel_rfl) (fun _ _ _ h => h) (Or.inl ⟨by rfl, ?_⟩) (by assumption) ?_
                      rotate_left
                      · (intro w hSw; (try dsimp only at hSw); go_simp; try rfl)
                      try simp only [Act.put, List.setIfInBounds_toArray, List.set_cons_zero, List.set_cons_succ, List.getElem_toArray, List.getElem_cons_zero, List.getElem_cons_succ]
                      refine wpAnyH_take (i := 10) (v := ?_) rfl (by kernel_rfl) (by kernel_rfl) (by kernel_rfl) (fun _ _ _ h => h) (Or.inl ⟨by rfl, ?_⟩) (by assumption) ?_
                      rotate_left
                      · (intro w hSw; (try dsimp only at hSw); go_simp; try rfl)
                      try simp only [Act.put, List.setIfInBounds_toArray, List.set_cons_zero, List.set_cons_succ, List.getElem_toArray, List.getElem_cons_zero, List.getElem_cons_succ]
                      refine wpAnyH_ready (rs := [11]) (by kernel_rfl) (by simp) ?_
                      refine (AllReadyH.cons rfl (fun K hK => ?_) AllReadyH.nil)
                      go_simp
                      (go_at_call 20; refine (HVT.out _).mono ?_; rintro e w8 ⟨rfl, hb⟩; have hb8 : Below w5.heap.size w5 w8 := below_self (Below.refl _ _).drew hb)
                      refine hK.out _ _ ?_ (fun hHeld => ?_)
                      · ((first
                        | exact HK12.out _ (Below.refl _ _)
                        | exact HK12.out _ (Below.refl _ _).drew
                        | exact HK12.out _ hb8
                        | fail))
                      clear hK K
                      try simp only [Act.put, List.setIfInBounds_toArray, List.set_cons_zero, List.set_cons_succ, List.getElem_toArray, List.getElem_cons_zero, List.getElem_cons_succ]
                      refine wpAnyH_take (i := 12) (v := ?_) rfl (by kernel_rfl) (by kernel_rfl) (by kernel_rfl) (fun _ _ _ h => h) (Or.inl ⟨by rfl, ?_⟩) (by assumption) ?_
                      rotate_left
                      · (intro w hSw; (try dsimp only at hSw); go_simp; try rfl)
                      try simp only [Act.put, List.setIfInBounds_toArray, List.set_cons_zero, List.set_cons_succ, List.getElem_toArray, List.getElem_cons_zero, List.getElem_cons_succ]
                      refine wpAnyH_take (i := 13) (v := ?_) rfl (by kernel_rfl) (by kernel_rfl) (by kernel_rfl) (fun _ _ _ h => h) (Or.inl ⟨by rfl, ?_⟩) (by assumption) ?_
                      rotate_left
                      · (intro w hSw; (try dsimp only at hSw); go_simp; try rfl)
                      try simp only [Act.put, List.setIfInBounds_toArray, List.set_cons_zero, List.set_cons_succ, List.getElem_toArray, List.getElem_cons_zero, List.getElem_cons_succ]
                      refine wpAnyH_take (i := 14) (v := ?_) rfl (by kernel_rfl) (by kernel_rfl) (by kernel_rfl) (fun _ _ _ h => h) (Or.inl ⟨by rfl, ?_⟩) (by assumption) ?_
                      rotate_left
                      · (intro w hSw; (try dsimp only at hSw); go_simp; try rfl)
                      try simp only [Act.put, List.setIfInBounds_toArray, List.set_cons_zero, List.set_cons_succ, List.getElem_toArray, List.getElem_cons_zero, List.getElem_cons_succ]
                      refine wpAnyH_take (i := 15) (v := ?_) rfl (by kernel_rfl) (by kernel_rfl) (by kernel_rfl) (fun _ _ _ h => h) (Or.inl ⟨by rfl, ?_⟩) (by assumption) ?_
                      rotate_left
                      · (intro w hSw; (try dsimp only at hSw); go_simp; try rfl)
                      try simp only [Act.put, List.setIfInBounds_toArray, List.set_cons_zero, List.set_cons_succ, List.getElem_toArray, List.getElem_cons_zero, List.getElem_cons_succ]
                      refine wpAnyH_take (i := 16) (v := ?_) rfl (by kernel_rfl) (by kernel_rfl) (by kernel_rfl) (fun _ _ _ h => h) (Or.inl ⟨by rfl, ?_⟩) (by assumption) ?_
                      rotate_left
                      · (intro w hSw; (try dsimp only at hSw); go_simp; try rfl)
                      try simp only [Act.put, List.setIfInBounds_toArray, List.set_cons_zero, List.set_cons_succ, List.getElem_toArray, List.getElem_cons_zero, List.getElem_cons_succ]
                      refine wpAnyH_take (i := 17) (v := ?_) rfl (by kernel_rfl) (by kernel_rfl) (by kernel_rfl) (fun _ _ _ h => h) (Or.inl ⟨by rfl, ?_⟩) (by assumption) ?_
                      rotate_left
                      · (intro w hSw; (try dsimp only at hSw); go_simp; try rfl)
                      try simp only [Act.put, List.setIfInBounds_toArray, List.set_cons_zero, List.set_cons_succ, List.getElem_toArray, List.getElem_cons_zero, List.getElem_cons_succ]
                      refine wpAnyH_take (i := 18) (v := ?_) rfl (by kernel_rfl) (by kernel_rfl) (by kernel_rfl) (fun _ _ _ h => h) (Or.inl ⟨by rfl, ?_⟩) (by assumption) ?_
                      rotate_left
                      · (intro w hSw; (try dsimp only at hSw); go_simp; try rfl)
                      try simp only [Act.put, List.setIfInBounds_toArray, List.set_cons_zero, List.set_cons_succ, List.getElem_toArray, List.getElem_cons_zero, List.getElem_cons_succ]
                      refine wpAnyH_take (i := 19) (v := ?_) rfl (by kernel_rfl) (by kernel_rfl) (by kernel_rfl) (fun _ _ _ h => h) (Or.inl ⟨by rfl, ?_⟩) (by assumption) ?_
                      rotate_left
                      · (intro w hSw; (try dsimp only at hSw); go_simp; try rfl)
                      try simp only [Act.put, List.setIfInBounds_toArray, List.set_cons_zero, List.set_cons_succ, List.getElem_toArray, List.getElem_cons_zero, List.getElem_cons_succ]
                      refine wpAnyH_take (i := 20) (v := ?_) rfl (by kernel_rfl) (by kernel_rfl) (by kernel_rfl) (fun _ _ _ h => h) (Or.inl ⟨by rfl, ?_⟩) (by assumption) ?_
                      rotate_left
                      · (intro w hSw; (try dsimp only at hSw); go_simp; try rfl)
                      try simp only [Act.put, List.setIfInBounds_toArray, List.set_cons_zero, List.set_cons_succ, List.getElem_toArray, List.getElem_cons_zero, List.getElem_cons_succ]
                      refine wpAnyH_take (i := 21) (v := ?_) rfl (by kernel_rfl) (by kernel_rfl) (by kernel_rfl) (fun _ _ _ h => h) (Or.inl ⟨by rfl, ?_⟩) (by assumption) ?_
                      rotate_left
                      · (intro w hSw; (try dsimp only at hSw); go_simp; try rfl)
                      try simp only [Act.put, List.setIfInBounds_toArray, List.set_cons_zero, List.set_cons_succ, List.getElem_toArray, List.getElem_cons_zero, List.getElem_cons_succ]
                      refine wpAnyH_take (i := 22) (v := ?_) rfl (by kernel_rfl) (by kernel_rfl) (by kernel_rfl) (fun _ _ _ h => h) (Or.inl ⟨by rfl, ?_⟩) (by assumption) ?_
                      rotate_left
                      · (intro w hSw; (try dsimp only at hSw); go_simp; try rfl)
                      try simp only [Act.put, List.setIfInBounds_toArray, List.set_cons_zero, List.set_cons_succ, List.getElem_toArray, List.getElem_cons_zero, List.getElem_cons_succ]
                      refine wpAnyH_done (by kernel_rfl) ?_ _
                      go_split_ands
                      clear HK12
                      try clear hb
                      have HL8 : Hid (MacAt X gM d bk sb (k + 1) (runM ⟨[], []⟩ (ts.take (k + 1)) r0) w8) := Lib.hid (by rw [HRN.out]; exact HM5.out.on hb8)
                      have HS8 : Hid (SmM (runM ⟨[], []⟩ (ts.take (k + 1)) r0)) := Lib.hid (by rw [HRN.out]; exact HS5.out)
                      have HI8 : Hid (OldI (runM ⟨[], []⟩ (ts.take (k + 1)) r0) cl L) := Lib.hid (by
                        have h0 := HGN.out
                        rw [HRN.out]
                        simp only [cndO, Z0.out, HVV.out, Z1.out, Bool.true_and, Bool.and_false, Bool.false_eq_true, if_false] at h0
                        exact h0)
                      clear HCK hb8 HM5 HS5 HGN HRN
                      go_wp2
                      go_roundw
                      case rel => exact ⟨k + 1, L, by omega, rfl, by go_num, HL8, HS8, HI8⟩
                      case measure => simp [intOf]; omega
              · obtain rfl : n = k := by omega
                have hlt' : ¬ (n : Int) < (n : Int) := by omega
                obtain ⟨mm, hmm⟩ : ∃ lx, runM ⟨[], []⟩ (ts.take n) r0 = lx := ⟨_, rfl⟩
                rw [hmm] at hL hS hI
                have HM : Hid (MacAt X gM d bk sb 60 mm wr) := Lib.hid (hL.out.mono (by omega))
                have HSM := hS
                have HR0 := Lib.hid HM.out.right
                have HI := hI
                clear hmm hlt hL hS hI
                go_wp2_with fail
                refine (mclone_any HM.out).mono ?_
                rintro e w3 ⟨g2, d2, b2, s2, he, hM2, hlo, hb⟩
                have he := he.out
                subst he
                have HAP : Hid (Ap bk sb b2 s2) := Lib.hid (by have := HM.out.lt; constructor <;> omega)
                have HC3 := Lib.hid hM2
                have HM3 := Lib.hid (HM.out.on hb)
                clear hM2 hlo hb HM
                have HAP2 := Lib.hid HAP.out.symm
                obtain ⟨m0, m1, m2, m3, m4, m5, m6, m7⟩ := HCA.out w3 HM3.out.lw.below
                simp only at m0 m1 m2 m3 m4 m5 m6 m7
                obtain ⟨n0, n1, n2, n3, n4, n5, n6, n7⟩ := HCBb.out w3 HM3.out.lw.below
                simp only at n0 n1 n2 n3 n4 n5 n6 n7
                go_wp2_with fail
                refine (mapply_any HC3.out HSM.out ⟨dl, dq, dop, dpa, dva, dver, dca, dcb⟩ r0 (.slice none 0 0) (Knd.Rd.nil _) (by simp [bad]) (by simp [bad]) (by omega) (show dpa.size ≤ 1000 by omega)).mono ?_
                have HLEN5 := Lib.hid HC3.out.lw.len
                obtain ⟨⟨⟨er5, vl5, vr5, ns5⟩, mc5⟩, hR5⟩ : ∃ R, appM mm ⟨dl, dq, dop, dpa, dva, dver, dca, dcb⟩ r0 = R := ⟨_, rfl⟩
                have HS5 : Hid (SmM mc5) := Lib.hid (by
                  have h1 := HSM.out.app (by have := HLEN5.out; omega) ⟨dl, dq, dop, dpa, dva, dver, dca, dcb⟩ r0 (by simp [bad])
                  rw [hR5] at h1
                  exact h1)
                rw [hR5]
                have HE5 := Lib.hid hR5
                rintro e w5 ⟨v5, he, hrd5, hM5, hT5⟩
                have he := he.out
                subst he
                simp only at hrd5 hM5
                obtain ⟨a5, c5, hv5⟩ := hrd5.slice
                obtain ⟨M5, hMM5⟩ : ∃ M, ns5.length = M := ⟨_, rfl⟩
                rw [hMM5] at hv5
                subst hv5
                have HMM5 := Lib.hid hMM5
                have hn5 := skrd_nms hrd5
                have HM5 := Lib.hid hM5
                have HM5b := Lib.hid (HM3.out.two2 HC3.out HAP2.out hT5)
                clear HC3 HM3 hrd5 hM5 hT5 hR5 hn5 hMM5
                clear m0 m1 m2 m3 m4 m5 m6 m7 n0 n1 n2 n3 n4 n5 n6 n7
                have HI5 : Hid (OldI mc5 cl L) := Lib.hid (by
                  have h1 := fnd_app HR0.out ⟨dl, dq, dop, dpa, dva, dver, dca, dcb⟩ r0 cl
                  rw [HE5.out, if_neg (fun h => HD.out h.2)] at h1
                  have h2 := HI.out
                  unfold OldI at h2 ⊢
                  rw [h1]
                  exact h2)
                have HR5 := Lib.hid HM5.out.right
                clear HE5 HMM5
                obtain ⟨m0, m1, m2, m3, m4, m5, m6, m7⟩ := HCA.out w5 HM5.out.lw.below
                simp only at m0 m1 m2 m3 m4 m5 m6 m7
                obtain ⟨n0, n1, n2, n3, n4, n5, n6, n7⟩ := HCBb.out w5 HM5.out.lw.below
                simp only at n0 n1 n2 n3 n4 n5 n6 n7
                go_wp2_with fail
                refine (mapply_any HM5b.out HSM.out ⟨cl, sq, op, pa, va, ver, ca, cb⟩ r0 (.slice none 0 0) (Knd.Rd.nil _) (by simp [bad]) (by simp [bad]) (by omega) (show pa.size ≤ 1000 by omega)).mono ?_
                have HLEN6 := Lib.hid HM5b.out.lw.len
                obtain ⟨⟨⟨er6, vl6, vr6, ns6⟩, mc6⟩, hR6⟩ : ∃ R, appM mm ⟨cl, sq, op, pa, va, ver, ca, cb⟩ r0 = R := ⟨_, rfl⟩
                have HS6 : Hid (SmM mc6) := Lib.hid (by
                  have h1 := HSM.out.app (by have := HLEN6.out; omega) ⟨cl, sq, op, pa, va, ver, ca, cb⟩ r0 (by simp [bad])
                  rw [hR6] at h1
                  exact h1)
                rw [hR6]
                have HE6 := Lib.hid hR6
                rintro e w6 ⟨v6, he, hrd6, hM6, hT6⟩
                have he := he.out
                subst he
                simp only at hrd6 hM6
                obtain ⟨a6, c6, hv6⟩ := hrd6.slice
                obtain ⟨M6, hMM6⟩ : ∃ M, ns6.length = M := ⟨_, rfl⟩
                rw [hMM6] at hv6
                subst hv6
                have HMM6 := Lib.hid hMM6
                have hn6 := skrd_nms hrd6
                obtain ⟨Z6, hZ6⟩ : ∃ Z, w6.alloc (.cells #[.int .i64 er6, .string vl6, .int .i64 vr6, .slice a6 M6 c6] 28) = Z := ⟨_, rfl⟩
                obtain ⟨g6, hgg6⟩ : ∃ g, w6.heap.size = g := ⟨_, rfl⟩
                have HB6 : Hid (RB g6 ⟨er6, vl6, vr6, ns6⟩ Z6) := Lib.hid (by rw [← hZ6, ← hgg6]; exact RB.mk' _ hn6)
                have HM6 := Lib.hid (hM6.box #[.int .i64 er6, .string vl6, .int .i64 vr6, .slice a6 M6 c6] 28)
                rw [hZ6] at HM6
                have HC6 := Lib.hid ((HM5.out.two2 HM5b.out HAP.out hT6).box #[.int .i64 er6, .string vl6, .int .i64 vr6, .slice a6 M6 c6] 28)
                rw [hZ6] at HC6
                clear HM5b HM5 hrd6 hM6 hT6 hR6 hn6 hMM6
                clear m0 m1 m2 m3 m4 m5 m6 m7 n0 n1 n2 n3 n4 n5 n6 n7
                have hq6 := old_last HR0.out HI.out HH0.out HV.out HE6.out
                have HX6 := Lib.hid hq6.1
                have HF6 := Lib.hid hq6.2
                clear hq6 HE6 HMM6
                obtain ⟨m0, m1, m2, m3, m4, m5, m6, m7⟩ := HCA.out Z6 HM6.out.lw.below
                simp only at m0 m1 m2 m3 m4 m5 m6 m7
                obtain ⟨n0, n1, n2, n3, n4, n5, n6, n7⟩ := HCBb.out Z6 HM6.out.lw.below
                simp only at n0 n1 n2 n3 n4 n5 n6 n7
                go_wp2_with fail
                try rw [hZ6]
                try rw [hgg6]
                clear hZ6 hgg6
                refine (mapply_any HC6.out HS5.out ⟨cl, sq, op, pa, va, ver, ca, cb⟩ r0 (.slice none 0 0) (Knd.Rd.nil _) (by simp [bad]) (by simp [bad]) (by omega) (show pa.size ≤ 1000 by omega)).mono ?_
                have HLEN7 := Lib.hid HC6.out.lw.len
                obtain ⟨⟨⟨er7, vl7, vr7, ns7⟩, mc7⟩, hR7⟩ : ∃ R, appM mc5 ⟨cl, sq, op, pa, va, ver, ca, cb⟩ r0 = R := ⟨_, rfl⟩
                have HS7 : Hid (SmM mc7) := Lib.hid (by
                  have h1 := HS5.out.app (by have := HLEN7.out; omega) ⟨cl, sq, op, pa, va, ver, ca, cb⟩ r0 (by simp [bad])
                  rw [hR7] at h1
                  exact h1)
                rw [hR7]
                have HE7 := Lib.hid hR7
                rintro e w7 ⟨v7, he, hrd7, hM7, hT7⟩
                have he := he.out
                subst he
                simp only at hrd7 hM7
                obtain ⟨a7, c7, hv7⟩ := hrd7.slice
                obtain ⟨M7, hMM7⟩ : ∃ M, ns7.length = M := ⟨_, rfl⟩
                rw [hMM7] at hv7
                subst hv7
                have HMM7 := Lib.hid hMM7
                have hn7 := skrd_nms hrd7
                obtain ⟨Z7, hZ7⟩ : ∃ Z, w7.alloc (.cells #[.int .i64 er7, .string vl7, .int .i64 vr7, .slice a7 M7 c7] 28) = Z := ⟨_, rfl⟩
                obtain ⟨g7, hgg7⟩ : ∃ g, w7.heap.size = g := ⟨_, rfl⟩
                have HB7 : Hid (RB g7 ⟨er7, vl7, vr7, ns7⟩ Z7) := Lib.hid (by rw [← hZ7, ← hgg7]; exact RB.mk' _ hn7)
                have HM7 := Lib.hid (hM7.box #[.int .i64 er7, .string vl7, .int .i64 vr7, .slice a7 M7 c7] 28)
                rw [hZ7] at HM7
                have HB6b := Lib.hid ((HB6.out.two HC6.out hT7).on ((Below.refl _ _).alloc (Nat.le_refl _) (.cells #[.int .i64 er7, .string vl7, .int .i64 vr7, .slice a7 M7 c7] 28)))
                rw [hZ7] at HB6b
                have HM7b := Lib.hid ((HM6.out.two2 HC6.out HAP2.out hT7).box #[.int .i64 er7, .string vl7, .int .i64 vr7, .slice a7 M7 c7] 28)
                rw [hZ7] at HM7b
                clear HC6 HB6 HM6 hrd7 hM7 hT7 hR7 hn7 hMM7
                clear m0 m1 m2 m3 m4 m5 m6 m7 n0 n1 n2 n3 n4 n5 n6 n7
                have hq7 := old_last HR5.out HI5.out HH0.out HV.out HE7.out
                have HX7 := Lib.hid hq7.1
                clear hq7 HE7 HMM7
                go_wp2_with fail
                try rw [hZ7]
                try rw [hgg7]
                clear hZ7 hgg7
                refine (sessions_any HM7b.out HS6.out (by omega)).mono ?_
                rintro e w8 ⟨v8, xs, he, ho, hmt, hb⟩
                have he := he.out
                subst he
                obtain ⟨a8, c8, hv8⟩ := ho.slice
                obtain ⟨N8, hN8⟩ : ∃ N, xs.length = N := ⟨_, rfl⟩
                rw [hN8] at hv8
                subst hv8
                have HN8 := Lib.hid hN8
                have HO8 := Lib.hid ho.rd
                have HMt8 := Lib.hid hmt
                have HM8 := Lib.hid (HM7b.out.on hb)
                have HB6 := Lib.hid (HB6b.out.on hb)
                have HB7 := Lib.hid (HB7.out.on hb)
                clear ho hmt hb HM7 HM7b HB6b hN8
                have hn8 : N8 ≤ 1000 := by have := HMt8.out.len; have := HM8.out.len; have := HN8.out; omega
                go_wp2_with fail
                go_loopw [15, 16] (fun x i wr => ∃ k : Nat, k ≤ N8 ∧ x = .int .i64 (sqF (mc6.s.take k) cl) ∧ i = .int .i64 k ∧ Hid (Below w8.heap.size w8 wr)) (fun _ i _ => N8 - (intOf i).toNat)
                case atStart => exact ⟨0, Nat.zero_le _, rfl, rfl, Lib.hid (Below.refl _ _)⟩
                case round =>
                  obtain ⟨k, hk, rfl, rfl, hb8⟩ := hrel
                  by_cases hlt : k < N8
                  · have hlt' : (k : Int) < (N8 : Int) := by omega
                    obtain ⟨_, gs, offs, ha, hgs, hkl, v0', v1', _, _, _, _⟩ := sesCell (HO8.out.below hb8.out) k hlt
                    have hks : k < mc6.s.length := by have := HMt8.out.len; omega
                    have hx := HMt8.out.at' k hks
                    have hsc := sqF_succ mc6.s cl k hks
                    rw [hx.cl] at v0'
                    rw [hx.sq] at v1'
                    obtain ⟨⟨ec, eq, er⟩, hE⟩ : ∃ E, mc6.s.getD k zS = E := ⟨_, rfl⟩
                    rw [hE] at v0' v1' hsc
                    simp only at v0' v1' hsc
                    have k0 := (HCA.out wr (HM8.out.on hb8.out).lw.below).c0
                    simp only at k0
                    subst ha
                    obtain ⟨u, hu⟩ : ∃ u, sqF (mc6.s.take k) cl = u := ⟨_, rfl⟩
                    rw [hu] at hsc ⊢
                    have HSC := Lib.hid hsc
                    clear hu hsc hx hE hgs hks hkl
                    by_cases h1 : ec = cl
                    · have z1 : (ec == cl) = true := by simpa using h1
                      have H1 := Lib.hid h1
                      clear h1
                      go_wp2_with fail
                      go_quiet (fail)
                      generalize hwd : World.drewN wr _ = wn
                      have hbn : Below wr.heap.size wr wn := by rw [← hwd]; exact below_drewN_q (Below.refl _ _) _
                      have HBN := Lib.hid (below_self hb8.out hbn)
                      have v1n := (hbn.cell (p := ⟨gs, offs + k * 6 + 1, none⟩) (World.block_lt_of_cell? wr _ v1')).trans v1'
                      clear hwd v0' v1' k0 hbn
                      go_wp2
                      go_roundw
                      case rel => exact ⟨k + 1, by omega, by rw [HSC.out, if_pos H1.out], by go_num, HBN⟩
                      case measure => simp [intOf]; omega
                    · have z1 : (ec == cl) = false := by simpa using h1
                      have H1 := Lib.hid h1
                      clear h1
                      go_wp2_with fail
                      go_quiet (fail)
                      generalize hwd : World.drewN wr _ = wn
                      have hbn : Below wr.heap.size wr wn := by rw [← hwd]; exact below_drewN_q (Below.refl _ _) _
                      have HBN := Lib.hid (below_self hb8.out hbn)
                      clear hwd v0' v1' k0 hbn
                      go_wp2
                      go_roundw
                      case rel => exact ⟨k + 1, by omega, by rw [HSC.out, if_neg H1.out], by go_num, HBN⟩
                      case measure => simp [intOf]; omega
                  · obtain rfl : N8 = k := by omega
                    have hlt' : ¬ (N8 : Int) < (N8 : Int) := by omega
                    have htk : mc6.s.take N8 = mc6.s := List.take_of_length_le (by have := HMt8.out.len; have := HN8.out; omega)
                    rw [htk]
                    obtain ⟨r6, hf6⟩ := HF6.out
                    have hsq := sqF_fnd HM8.out.right.rise hf6
                    obtain ⟨u, hu⟩ : ∃ u, sqF mc6.s cl = u := ⟨_, rfl⟩
                    rw [hu] at hsq
                    rw [hu]
                    have t60 := (HB6.out.on hb8.out).c0
                    have t70 := (HB7.out.on hb8.out).c0
                    have k1 := (HCA.out wr (HM8.out.on hb8.out).lw.below).c1
                    simp only at t60 t70 k1
                    have HEND := Lib.hid ((HM8.out.on hb8.out).lw.below)
                    have i6 := HX6.out
                    have i7 := HX7.out
                    clear htk hu hlt hf6
                    by_cases h1 : sq < L
                    · have e6 : er6 = 6 := i6.2 h1
                      have e7 : er7 = 6 := i7.2 h1
                      have n1 : ¬ L < sq := by omega
                      rw [if_neg n1] at hsq
                      subst hsq e6 e7
                      clear i6 i7
                      go_wp2_with (refine wpList_max_g rfl _ _ _ rfl _ _ rfl rfl ?_)
                      go_ret
                      exact ⟨rfl, HB.out.trans (HEND.out.mono HB.out.size)⟩
                    · have e6 : (er6 == 6) = false := by simpa using fun h => h1 (i6.1 h)
                      have e7 : (er7 == 6) = false := by simpa using fun h => h1 (i7.1 h)
                      clear i6 i7
                      by_cases h2 : L < sq
                      · rw [if_pos h2] at hsq
                        subst hsq
                        go_wp2_with (refine wpList_max_g rfl _ _ _ rfl _ _ rfl rfl ?_)
                        go_ret
                        exact ⟨rfl, HB.out.trans (HEND.out.mono HB.out.size)⟩
                      · rw [if_neg h2] at hsq
                        subst hsq
                        go_wp2_with (refine wpList_max_g rfl _ _ _ rfl _ _ rfl rfl ?_)
                        go_ret
                        exact ⟨rfl, HB.out.trans (HEND.out.mono HB.out.size)⟩
end Go.Proofs.YtbebjpfbbidaiaaGreat
