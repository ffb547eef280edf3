/-
  Package accept's laws: AcceptSet.
-/
import Derived.Test.YtchhcaoondfpiaaGreatAcL2
import Derived.Test.YtchhcaoondfpiaaGreatAcS2
namespace Go.Proofs.YtchhcaoondfpiaaGreat
open Go.RowKit Go.Sort
open Go.WideMaps
set_option linter.unusedSimpArgs false
set_option linter.unusedVariables false
set_option maxRecDepth 100000

theorem BkAt.outM {w w' : World} {B g mb K mk : Nat} {b : BSt} (h : BkAt w B g mb K b) (hg : w.grownBy w' (some mk)) (hne : ∀ g cs T fr, w.heap[g]? = some (.cells cs T fr) → g ≠ mk) (hm : mb ≠ mk) : BkAt w' B g mb K b := by
  obtain ⟨⟨vn, h1, h2⟩, ⟨D, m, h3, h4, h5⟩, h6, h7, h8⟩ := h
  refine ⟨⟨vn, (hg.block _ (Bk.lt h1) (by simpa using hne _ _ _ _ h1)).trans h1, h2.keepB fun k hk => ?_⟩, ⟨D, m, h3, h4.kept hg (by simpa using hm), h5.out hg hne⟩, h6, h7, h8⟩
  obtain ⟨q, cs, fr, hc⟩ := h2.blk k hk
  exact hg.block _ q (by simpa using hne _ _ _ _ hc)
theorem BkIn.outM {W w w' : World} {B g mb i mk : Nat} {b : BSt} (h : BkIn W B g mb i b w) (hg : w.grownBy w' (some mk)) (hne : ∀ g cs T fr, w.heap[g]? = some (.cells cs T fr) → g ≠ mk) (hm : mb ≠ mk) (hB : B ≤ mk) : BkIn W B g mb i b w' :=
  ⟨h.at'.outM hg hne hm, h.sm, h.gr.grown hg (Nat.le_trans h.at'.lo.1 (Nat.le_of_lt h.at'.lt)) (fun k e => by cases e; exact hB)⟩
theorem BkAt.len {w : World} {B g mb K : Nat} {b : BSt} (h : BkAt w B g mb K b) : b.l.length ≤ K := by
  obtain ⟨_, ⟨D, m, h3, h4, h5⟩, _, _, _⟩ := h
  have h1 := h5.size
  have h2 := h4.size_le
  omega
theorem set_take {l : List (I3 × Ist)} (h : RisesB l) (j : Nat) (hj : j < l.length) : setL (l.take j) l[j].1 l[j].2 = l.take (j + 1) := by
  have e := List.take_succ_eq_append_getElem hj
  have q := set_all [l[j]] (l.take j) (by rw [← e]; exact h.sublist (List.take_sublist _ _))
  rw [← e] at q
  exact q
/-- Two books, while the second one is set as the first one. -/
structure Lp2 (W w4 : World) (B g mb k : Nat) (b : BSt) (BB g2 mb2 jj : Nat) (c : BSt) (v : Value) (w : World) : Prop where
  x : Below W.heap.size W w
  h : BkIn w4 B g mb k b w
  h2 : BkAt w BB g2 mb2 jj c
  o : IK.Own w 0 v (idsB b.l)
/-- Two books that are the same. -/
structure Lp3 (W w4 : World) (B g mb i : Nat) (b : BSt) (BB g2 mb2 i2 : Nat) (c : BSt) (w : World) : Prop where
  x : Below W.heap.size W w
  h : BkIn w4 B g mb i b w
  h2 : BkAt w BB g2 mb2 i2 c
  s2 : SmBk c i2
theorem Lp3.on {W w4 w w' : World} {B g mb i BB g2 mb2 i2 : Nat} {b c : BSt} (h : Lp3 W w4 B g mb i b BB g2 mb2 i2 c w) (hb : Below w.heap.size w w') : Lp3 W w4 B g mb i b BB g2 mb2 i2 c w' :=
  ⟨h.x.trans (hb.mono h.x.size), h.h.on hb (Nat.le_trans h.h.at'.lo.1 (Nat.le_of_lt h.h.at'.lt)), h.h2.below hb, h.s2⟩
structure Id3 (gi o : Nat) (i1 i2 i3 : Int) (w' : World) : Prop where
  d0 : w'.cell? ⟨gi, o, none⟩ = some (.int .i64 i1)
  d1 : w'.cell? ⟨gi, o + 1, none⟩ = some (.int .i64 i2)
  d2 : w'.cell? ⟨gi, o + 2, none⟩ = some (.int .i64 i3)
theorem load_midS {P : Program} {o : Oper} {a : Act} {w : World} (ty : TypeId) (x : Operand) (ho : o.op = .load ty x) (b k : Nat) (hx : a.eval x = .pointer (some ⟨b, k, none⟩)) (cs : List Value) (d : TypeDesc) (hc : w.rangeAt b k cs)
    (hu : P.underlying ty = some d) (hd : d.isRow = true) (hi : (P.info? ty).map (·.size) = some cs.length) : (execOp a.eval o).run P w = .ok (.value (.agg cs.toArray)) w := by
  unfold execOp
  simp only [ho, hx, Instr.loadAt, Instr.sureAddr, Sem.run_bind, Sem.run_pure, Result.andThen_ok, run_loadVar_mid w b k ty cs d hc hu hd hi]
theorem BkAt.apart {w : World} {B g mb K : Nat} {b : BSt} (h : BkAt w B g mb K b) {BB g2 mb2 K2 : Nat} {c : BSt} (h2 : BkAt w BB g2 mb2 K2 c) (hm : mb < BB) : mb ≠ mb2 := by
  have := h2.lo.2
  omega
/-- One more message is heard by the first of two books that are the same. -/
theorem lp3_a {W w4 w : World} {B g mb i BB g2 mb2 : Nat} {b : BSt} (h : Lp3 W w4 B g mb i b BB g2 mb2 i b w) (hWB : W.heap.size ≤ B) (hmb : mb < BB) (hi : i ≤ 100) (hn : b.ns.length ≤ 1000) (hml : Tc.ML w) {v : Value} {m : Mg} (hm : MgA w v m) (hs : SmMg m) :
    Calls Tryz.prog 16 #[bP g, v] w (fun e w' => ∃ v', Hid (e = .returned v') ∧ Lp3 W w4 B g mb (i + 1) (hearB lclA b m).1 BB g2 mb2 i b w' ∧ AnsIs w' w.heap.size v' (hearB lclA b m).2) := by
  refine (hear_in h.h hi hn hml hm hs).mono ?_
  rintro e w' ⟨v', he, hk, hg, ha⟩
  have hap := h.h.at'.apart h.h2 hmb
  exact ⟨v', he, ⟨h.x.grown hg h.x.size (fun k e => by cases e; exact Nat.le_trans hWB h.h.at'.lo.2), hk, h.h2.outM hg h.h.at'.blkNe (Ne.symm hap), h.s2⟩, ha⟩
/-- And by the second one. -/
theorem lp3_b {W w4 w : World} {B g mb i BB g2 mb2 : Nat} {b b1 : BSt} (h : Lp3 W w4 B g mb (i + 1) b1 BB g2 mb2 i b w) (hWB : W.heap.size ≤ BB) (hmb : mb < BB) (hBB : B ≤ BB) (hi : i ≤ 100) (hn : b.ns.length ≤ 1000) (hml : Tc.ML w) {v : Value} {m : Mg} (hm : MgA w v m) (hs : SmMg m) (hb1 : b1 = (hearB lclA b m).1) :
    Calls Tryz.prog 16 #[bP g2, v] w (fun e w' => ∃ v', Hid (e = .returned v') ∧ Lp3 W w4 B g mb (i + 1) b1 BB g2 mb2 (i + 1) b1 w' ∧ AnsIs w' w.heap.size v' (hearB lclA b m).2 ∧ ∀ N u l, AnsIs w N u l → AnsIs w' N u l) := by
  have hin : BkIn w BB g2 mb2 i b w := ⟨h.h2, h.s2, Below.refl _ _⟩
  refine (hear_in hin hi hn hml hm hs).mono ?_
  rintro e w' ⟨v', he, hk, hg, ha⟩
  have hap := h.h.at'.apart h.h2 hmb
  exact ⟨v', he, ⟨h.x.grown hg h.x.size (fun k e => by cases e; exact Nat.le_trans hWB h.h2.lo.2), h.h.outM hg h.h2.blkNe hap (Nat.le_trans hBB h.h2.lo.2), by rw [hb1]; exact hk.at', by rw [hb1]; exact hk.sm⟩, ha, fun N u l q => q.out hg h.h2.blkNe⟩
set_option maxHeartbeats 16000000 in
theorem set_law (nd : Int) (ep : Int) (ao : Option Addr) (co : Nat) (zs : List Int) (v2 v3 : Value) (rs rs2 : List (Cls 27)) (l l2 : List Mg) (W : World) (hr : It W (.slice ao zs.length co) zs) (hl : RowIs KM msS W v2 rs l) (hl2 : RowIs KM msS W v3 rs2 l2) (hml : Tc.ML W) :
    Calls Tryz.prog 7 #[.int .i64 nd, .agg #[.int .i64 ep, .slice ao zs.length co], v2, v3] W fun e w' => e = .returned (.bool true) ∧ Below W.heap.size W w' := by
  have HOl2 := Lib.hid hl2
  obtain ⟨a3', c3', e3'⟩ := rowSl hl2
  subst e3'
  obtain ⟨K2, hK2⟩ : ∃ K, l2.length = K := ⟨_, rfl⟩
  rw [hK2] at HOl2 hl2 ⊢
  have HR2 := Lib.hid hl2
  have HK2 := Lib.hid hK2
  clear hl2 hK2
  have HOl := Lib.hid hl
  obtain ⟨a2', c2', e2'⟩ := rowSl hl
  subst e2'
  obtain ⟨K, hK⟩ : ∃ K, l.length = K := ⟨_, rfl⟩
  have hlen := hl.rd.len
  rw [hl.len, hK] at hlen
  have hK63 : K ≤ 9223372036854775807 := by unfold maxLen at hlen; omega
  obtain ⟨N, hN⟩ : ∃ N, zs.length = N := ⟨_, rfl⟩
  have hN63 := hr.len
  rw [hK] at HOl hl ⊢
  rw [hN] at hN63 ⊢
  have HR := Lib.hid hl
  have HK := Lib.hid hK
  have HN' := Lib.hid hN
  have HIt := Lib.hid hr
  have HML := Lib.hid hml
  obtain ⟨X0, hX0⟩ : ∃ X0, (W.alloc (.cells #[.int .i64 ep, .slice ao N co] 24)) = X0 := ⟨_, rfl⟩
  have HB0 : Hid (Bk X0 (W.heap.size) 24 [.int .i64 ep, .slice ao N co]) := Lib.hid (by rw [← hX0]; exact Bk.newA (by simp) _ [.int .i64 ep, .slice ao N co])
  have HX : Hid (Below W.heap.size W X0) := Lib.hid (by rw [← hX0]; exact (Below.refl _ _).alloc (by simp <;> omega) _)
  have HZ0 : Hid (X0.heap.size = W.heap.size + 1) := Lib.hid (by rw [← hX0]; simp)
  have HWk := Lib.hid (works_any X0 (hml.below HX.out))
  clear hr hl hlen hml
  go_enter Tryz.func7, Tryz.ntmps7
  go_wp2_with fail
  try rw [hX0]
  refine HWk.out.mono ?_
  rintro e w1 ⟨rfl, hb⟩
  have HX1 := Lib.hid hb
  have HX' := Lib.hid (HX.out.trans (hb.mono HX.out.size))
  clear hb HX
  have HX := HX'
  clear HX'
  clear hX0 HWk
  go_wp2_with fail
  refine (overA_any _ rs l w1 (HOl.out.on HX.out)).mono ?_
  rintro e w2 ⟨R, he, hR, hb⟩
  rw [he.out]
  have HX2 : Hid (Below X0.heap.size X0 w2) := Lib.hid (HX1.out.trans (hb.mono HX1.out.size))
  have HX' := Lib.hid (HX.out.trans (hb.mono HX.out.size))
  clear hb HX
  have HX := HX'
  clear HX'
  cases R with
  | true =>
    go_wp2
    go_ret
    exact ⟨rfl, HX.out⟩
  | false =>
  have HLl := Lib.hid (hR rfl)
  clear he hR
  go_wp2_with fail
  refine (overA_any _ rs2 l2 w2 (HOl2.out.on HX.out)).mono ?_
  rintro e w3 ⟨R, he, hR, hb⟩
  rw [he.out]
  have HX3 : Hid (Below X0.heap.size X0 w3) := Lib.hid (HX2.out.trans (hb.mono HX2.out.size))
  have HX' := Lib.hid (HX.out.trans (hb.mono HX.out.size))
  clear hb HX
  have HX := HX'
  clear HX'
  cases R with
  | true =>
    go_wp2
    go_ret
    exact ⟨rfl, HX.out⟩
  | false =>
  have HLl2 := Lib.hid (hR rfl)
  clear he hR HX1 HX2
  have HE0 := Lib.hid (HB0.out.below HX3.out)
  have cc0 := HE0.out.cell 0
  have cc1 := HE0.out.cell 1
  simp only [List.getElem?_cons_zero, List.getElem?_cons_succ] at cc0 cc1
  by_cases q1 : (40 : Int) < (N : Int)
  · have dq1 : decide ((40 : Int) < (N : Int)) = true := decide_eq_true q1
    have dq1n : decide (40 < N) = true := decide_eq_true (by omega)
    go_wp2
    go_ret
    exact ⟨rfl, HX.out⟩
  have dq1 : decide ((40 : Int) < (N : Int)) = false := decide_eq_false q1
  have dq1n : decide (40 < N) = false := decide_eq_false (by omega)
  have HN : Hid (zs.length ≤ 40) := Lib.hid (by rw [HN'.out]; omega)
  have HKb : Hid (K ≤ 40) := Lib.hid (by have := HLl.out.1; rw [HK.out] at this; exact this)
  have HNw : Hid (Calls Tryz.prog 13 #[.int .i64 nd, .agg #[.int .i64 ep, .slice ao N co]] w3 (BnP ⟨nd, ep, zs, []⟩ w3)) := Lib.hid (by
    have q := bnew_any nd ep ao co zs w3 (HIt.out.below HX.out) (by have := HN.out; omega)
    rw [HN'.out] at q
    exact q)
  clear hN
  go_wp2_with fail
  refine HNw.out.mono ?_
  rintro e w4 ⟨g, mb, he, hB, hb⟩
  rw [he.out]
  obtain ⟨B, hBe⟩ : ∃ B, w3.heap.size = B := ⟨_, rfl⟩
  rw [hBe] at hB hb
  have HWB : Hid (W.heap.size ≤ B) := Lib.hid (hBe ▸ HX.out.size)
  have HXB : Hid (W.heap.size + 1 ≤ B) := Lib.hid (by have := HX3.out.size; have := HZ0.out; omega)
  have hX4 : Below W.heap.size W w4 := HX.out.trans (hb.mono HWB.out)
  have hX34 : Below X0.heap.size X0 w4 := HX3.out.trans (hb.mono (by have := HX3.out.size; omega))
  have HX4 := Lib.hid hX4
  have H0 : Hid (BkIn w4 B g mb 0 (heardB ⟨nd, ep, zs, []⟩ (l.take 0)) w4) := Lib.hid ⟨hB, SmBk.nil _ _ _, Below.refl _ _⟩
  have HG0 := Lib.hid (HB0.out.below hX34)
  have HB4 : Hid (B ≤ w4.heap.size) := Lib.hid (by rw [← hBe]; exact hb.size)
  clear he hB hb hBe hX4 hX34 HX HX3 HNw cc0 cc1 dq1 dq1n q1 HZ0 HE0 HB0
  go_wp2_with fail
  go_loopw [11] (fun i wr => ∃ (k : Nat), k ≤ K ∧ i = .int .i64 k ∧ Hid (BkIn w4 B g mb k (heardB ⟨nd, ep, zs, []⟩ (l.take k)) wr)) (fun i _ => K - (intOf i).toNat)
  case atStart => exact ⟨0, Nat.zero_le _, rfl, H0⟩
  case round =>
    clear H0
    obtain ⟨k, hk, rfl, H⟩ := hrel
    by_cases hlt : k < K
    · have hk1 : (k : Int) < (K : Int) := by omega
      have hk2 : decide ((k : Int) < (K : Int)) = true := decide_eq_true hk1
      have hk3 : decide (k < K) = true := decide_eq_true hlt
      obtain ⟨-, hlk, gg, off, cs, ha, hg, hcs, hc⟩ := HR.out.el rfl k hlt
      subst ha
      have eK : KM.k = 27 := rfl
      rw [eK] at hc
      clear eK
      have hWr : Below W.heap.size W wr := HX4.out.trans (H.out.gr.mono HWB.out)
      have HRG : Hid (wr.rangeAt gg (off + k * 27) cs) := Lib.hid fun j v hv => (hWr.cell (p := ⟨gg, off + k * 27 + j, none⟩) hg).trans (hc j v hv)
      have hlc : cs.length = 27 := by obtain ⟨u, u1, u2, u3, hq⟩ := hcs; rw [hq.cs]; rfl
      have Hinf : Hid ((Tryz.prog.info? 54).map (·.size) = some cs.length) := Lib.hid (by rw [hlc]; kernel_rfl)
      have hmk : MgA wr (.agg cs.toArray) l[k] := (MsgIs.on ⟨cs.toArray, rfl, by simpa using hcs⟩ hWr).mga
      have HHr := Lib.hid (hear_in H.out (by have := HKb.out; omega) (by rw [(heard_same ⟨nd, ep, zs, []⟩ (l.take k)).2.2]; have := HN.out; show zs.length ≤ 1000; omega) (HML.out.below hWr) hmk (HLl.out.2 _ (List.getElem_mem hlk)))
      have HSn : Hid (heardB ⟨nd, ep, zs, []⟩ (l.take (k + 1)) = (hearB lclA (heardB ⟨nd, ep, zs, []⟩ (l.take k)) l[k]).1) := Lib.hid (by rw [List.take_succ_eq_append_getElem hlk, heard_snoc])
      have hgw : gg < wr.heap.size := Nat.lt_of_lt_of_le hg hWr.size
      clear hc hcs hlc hmk hWr hg
      go_wp2_with (first | refine wpList_load_mid rfl _ _ rfl gg (off + k * 27) rfl _ _ HRG.out Tryz.underlying54 rfl Hinf.out ?_ | fail)
      refine HHr.out.mono ?_
      rintro e w7 ⟨v7, he, hk7, hg7, ha7⟩
      rw [he.out]
      have H7 : Hid (BkIn w4 B g mb (k + 1) (heardB ⟨nd, ep, zs, []⟩ (l.take (k + 1))) w7) := Lib.hid (by rw [HSn.out]; exact hk7)
      clear he hk7 hg7 ha7 H HHr HRG HSn Hinf
      go_wp2_with fail
      go_roundw
      case rel => exact ⟨k + 1, by omega, by go_num, H7⟩
      case measure => simp [intOf]; omega
    · have e : k = K := by omega
      subst e
      have hk2 : decide ((k : Int) < (k : Int)) = false := decide_eq_false (by omega)
      have hk3 : decide (k < k) = false := decide_eq_false (by omega)
      obtain ⟨b, hbe⟩ : ∃ b, heardB ⟨nd, ep, zs, []⟩ l = b := ⟨_, rfl⟩
      have HSm : Hid (b.node = nd ∧ b.ep = ep ∧ b.ns = zs) := Lib.hid (by rw [← hbe]; exact heard_same _ _)
      have HH : Hid (BkIn w4 B g mb k b wr) := Lib.hid (by have h := H.out; rw [← HK.out, List.take_length, hbe, HK.out] at h; exact h)
      have HX : Hid (Below W.heap.size W wr) := Lib.hid (HX4.out.trans (HH.out.gr.mono HWB.out))
      have HNs : Hid (b.ns.length ≤ 1000) := Lib.hid (by rw [HSm.out.2.2]; have := HN.out; omega)
      have HB0 : Hid (Bk wr (W.heap.size) 24 [.int .i64 ep, .slice ao N co]) := Lib.hid ((HH.out.gr.block _ (by have := HXB.out; omega)).trans HG0.out)
      clear H hbe hlt hk HG0
      have hk40 : k ≤ 40 := HKb.out
      have H := HH
      have HBb : Hid (b = ⟨nd, ep, zs, b.l⟩) := Lib.hid (by have q := HSm.out; rw [← q.1, ← q.2.1, ← q.2.2])
      have cc0 := HB0.out.cell 0
      have cc1 := HB0.out.cell 1
      simp only [List.getElem?_cons_zero, List.getElem?_cons_succ] at cc0 cc1
      have HNw2 : Hid (Calls Tryz.prog 13 #[.int .i64 nd, .agg #[.int .i64 ep, .slice ao N co]] wr (BnP ⟨nd, ep, zs, []⟩ wr)) := Lib.hid (by
        have q := bnew_any nd ep ao co zs wr (HIt.out.below HX.out) (by have := HN.out; omega)
        rw [HN'.out] at q
        exact q)
      clear HH
      go_wp2_with fail
      refine HNw2.out.mono ?_
      rintro e w5 ⟨g2, mb2, he, hB2, hb⟩
      rw [he.out]
      have HmB : Hid (mb < wr.heap.size) := Lib.hid H.out.at'.ltm
      have HBW : Hid (B ≤ wr.heap.size ∧ W.heap.size ≤ wr.heap.size) := Lib.hid ⟨Nat.le_trans H.out.at'.lo.1 (Nat.le_of_lt H.out.at'.lt), HX.out.size⟩
      obtain ⟨BB, hBB⟩ : ∃ n, wr.heap.size = n := ⟨_, rfl⟩
      rw [hBB] at HmB HBW hB2
      have H2 := Lib.hid hB2
      have HX' := Lib.hid (HX.out.trans (hb.mono HX.out.size))
      have H' := Lib.hid (H.out.on hb (Nat.le_trans H.out.at'.lo.1 (Nat.le_of_lt H.out.at'.lt)))
      clear hb HX H
      have HX := HX'
      have H := H'
      clear HX' H'
      clear he hB2 hBB HNw2 cc0 cc1 HB0
      have HId := Lib.hid (bids_any H.out.at' (by omega))
      go_wp2_with fail
      refine HId.out.mono ?_
      rintro e w6 ⟨vi, he, hoi, hb⟩
      rw [he.out]
      obtain ⟨ia, ic, hvi⟩ := hoi.slice
      subst hvi
      obtain ⟨IN, hIN⟩ : ∃ n, (idsB b.l).length = n := ⟨_, rfl⟩
      rw [hIN] at hoi
      rw [hIN]
      have HINl : Hid (b.l.length = IN) := Lib.hid (by rw [← hIN]; simp)
      have HINk : Hid (IN ≤ k) := Lib.hid (by rw [← HINl.out]; exact H.out.at'.len)
      have HO : Hid (IK.Own w6 0 (.slice ia IN ic) (idsB b.l)) := Lib.hid (hoi.base (Nat.zero_le _))
      have HX' := Lib.hid (HX.out.trans (hb.mono HX.out.size))
      have H' := Lib.hid (H.out.on hb (Nat.le_trans H.out.at'.lo.1 (Nat.le_of_lt H.out.at'.lt)))
      have H2' := Lib.hid (H2.out.below hb)
      clear hb HX H H2
      have HX := HX'
      have H := H'
      have H2 := H2'
      clear HX' H' H2'
      clear he hoi hIN HId
      have HL0 : Hid (Lp2 W w4 B g mb k b BB g2 mb2 0 ⟨nd, ep, zs, b.l.take 0⟩ (.slice ia IN ic) w6) := Lib.hid ⟨HX.out, H.out, by rw [List.take_zero]; exact H2.out, HO.out⟩
      clear HX H H2 HO
      go_wp2_with fail
      go_loopw [14] (fun j wr => ∃ jj : Nat, jj ≤ IN ∧ j = .int .i64 jj ∧ Hid (Lp2 W w4 B g mb k b BB g2 mb2 jj ⟨nd, ep, zs, b.l.take jj⟩ (.slice ia IN ic) wr)) (fun j _ => IN - (intOf j).toNat)
      case atStart => exact ⟨0, Nat.zero_le _, rfl, HL0⟩
      case round =>
        clear HL0
        obtain ⟨jj, hjj, rfl, HL⟩ := hrel
        have hINk := HINk.out
        by_cases hlt : jj < IN
        · have hj1 : (jj : Int) < (IN : Int) := by omega
          have hj2 : decide ((jj : Int) < (IN : Int)) = true := decide_eq_true hj1
          have hj3 : decide (jj < IN) = true := decide_eq_true hlt
          have hjl : jj < b.l.length := by rw [HINl.out]; exact hlt
          obtain ⟨-, gi, oi, hia, hgi, hci⟩ := HL.out.o.rd.at (by intro e; have q := congrArg List.length e; simp at q; rw [q] at hjl; simp at hjl)
          subst hia
          have hrise := HL.out.h.at'.rise
          have hmem : b.l[jj] ∈ b.l := List.getElem_mem hjl
          have hok : okI b.l[jj].1 := HL.out.h.at'.keys _ hmem
          have hget : getL b.l b.l[jj].1 = b.l[jj].2 := getL_mem hrise hmem
          have hst := set_take hrise jj hjl
          have hsz := (HL.out.h.sm.get hrise b.l[jj].1).2.1
          rw [hget] at hsz
          have ed : (idsB b.l).getD jj IK.d = b.l[jj].1 := by simp [List.getD, hjl]
          have eK : IK.k = 3 := rfl
          have HCi : Hid (∀ w', IK.Own w' 0 (.slice (some ⟨gi, oi, none⟩) IN ic) (idsB b.l) → ∀ i u, (IK.enc b.l[jj].1)[i]? = some u → w'.cell? ⟨gi, oi + jj * 3 + i, none⟩ = some u) := Lib.hid fun w' ho i u hu => by
            obtain ⟨-, gi', oi', hq, _, hc⟩ := ho.rd.at (by intro e; have q := congrArg List.length e; simp at q; rw [q] at hjl; simp at hjl)
            obtain ⟨rfl, rfl⟩ : gi = gi' ∧ oi = oi' := by simpa using hq
            have := hc jj hlt i u (by rw [ed]; exact hu)
            rwa [eK] at this
          obtain ⟨xx, hxx⟩ : ∃ x, b.l[jj] = x := ⟨_, rfl⟩
          rw [hxx] at hok hget hst hsz HCi
          clear hmem hxx ed eK hci
          obtain ⟨⟨i1, i2, i3⟩, ⟨p0, ⟨p1, p2⟩, ⟨p3, p4⟩, ⟨p5, p6, p7, p8, p9, p10, p11, p12⟩, ps, pl⟩⟩ := xx
          simp only at hok hget hst hsz HCi
          obtain ⟨P, hP⟩ : ∃ P, pl.length = P := ⟨_, rfl⟩
          have HPl := Lib.hid hP
          have HKS : Hid (∀ w', IK.Own w' 0 (.slice (some ⟨gi, oi, none⟩) IN ic) (idsB b.l) → (Id3 gi (oi + jj * 3) i1 i2 i3) w') := Lib.hid fun w' ho => ⟨HCi.out w' ho 0 _ rfl, HCi.out w' ho 1 _ rfl, HCi.out w' ho 2 _ rfl⟩
          have HG : Hid (∀ w', Below wr.heap.size wr w' → Calls Tryz.prog 20 #[bP g, .agg #[.int .i64 i1, .int .i64 i2, .int .i64 i3]] w' (fun e w'' => ∃ gb gd, e = .returned (.agg #[.int .i64 p0, .int .i64 p1, .int .i64 p2, .int .i64 p3, .int .i64 p4, .int .i64 p5, .int .i64 p6, .int .i64 p7, .string p8, .string p9, .int .i64 p10, .int .i64 p11, .int .i64 p12, .int .i64 ps, .slice gb P gd]) ∧ IK.Rd w'' (.slice gb P gd) pl ∧ Below w'.heap.size w' w'')) := Lib.hid fun w' hb => by
            have q := get_in (HL.out.h.on hb (Nat.le_trans HL.out.h.at'.lo.1 (Nat.le_of_lt HL.out.h.at'.lt))) (by omega) hok
            rw [hget] at q
            refine q.mono fun e w'' ⟨v', he, ho, hb⟩ => ?_
            obtain ⟨gb, gd, hv⟩ := ho.slice
            simp only at hv ho
            rw [HPl.out] at hv
            subst hv
            exact ⟨gb, gd, he.out, ho.rd, hb⟩
          have HSt : Hid (∀ w' gb gd, Below wr.heap.size wr w' → IK.Rd w' (.slice gb P gd) pl → Calls Tryz.prog 30 #[bP g2, .agg #[.int .i64 i1, .int .i64 i2, .int .i64 i3], .agg #[.int .i64 p0, .int .i64 p1, .int .i64 p2, .int .i64 p3, .int .i64 p4, .int .i64 p5, .int .i64 p6, .int .i64 p7, .string p8, .string p9, .int .i64 p10, .int .i64 p11, .int .i64 p12, .int .i64 ps, .slice gb P gd]] w' (fun e w'' => e = .returned (.tuple #[]) ∧ BkAt w'' BB g2 mb2 (jj + 1) ⟨nd, ep, zs, b.l.take (jj + 1)⟩ ∧ w'.grownBy w'' (some mb2))) := Lib.hid fun w' gb gd hb hr => by
            have q := bset_any (HL.out.h2.below hb) hok ⟨p0, (p1, p2), (p3, p4), ⟨p5, p6, p7, p8, p9, p10, p11, p12⟩, (ps, pl)⟩ (.slice gb P gd) hr (by simp only at hsz ⊢; omega) (by omega)
            refine q.mono fun e w'' ⟨he, h1, h2⟩ => ⟨he.out, ?_, h2⟩
            have h3 : setL (b.l.take jj) (i1, i2, i3) ⟨p0, (p1, p2), (p3, p4), ⟨p5, p6, p7, p8, p9, p10, p11, p12⟩, (ps, pl)⟩ = b.l.take (jj + 1) := hst
            simp only [h3] at h1
            exact h1
          have HNx : Hid (∀ wg ws, Below wr.heap.size wr wg → BkAt ws BB g2 mb2 (jj + 1) ⟨nd, ep, zs, b.l.take (jj + 1)⟩ → wg.grownBy ws (some mb2) → Lp2 W w4 B g mb k b BB g2 mb2 (jj + 1) ⟨nd, ep, zs, b.l.take (jj + 1)⟩ (.slice (some ⟨gi, oi, none⟩) IN ic) ws) := Lib.hid fun wg ws hb h1 hg => by
            have hx := HL.out.x.trans (hb.mono HL.out.x.size)
            have hh := HL.out.h.on hb (Nat.le_trans HL.out.h.at'.lo.1 (Nat.le_of_lt HL.out.h.at'.lt))
            have h2 := HL.out.h2.below hb
            have hne := h2.blkNe
            have hap := hh.at'.apart h2 HmB.out
            exact ⟨hx.grown hg hx.size (fun k e => by cases e; exact Nat.le_trans HBW.out.2 h2.lo.2), hh.outM hg hne hap (Nat.le_trans HBW.out.1 h2.lo.2), h1, (HL.out.o.below hb).outA hg hne⟩
          clear hok hget hst hsz HCi hP hrise hgi hjl
          go_wp2_with fail
          refine wp_region_held_drew (S := (Id3 gi (oi + jj * 3) i1 i2 i3)) (by kernel_rfl) ?_ (fun hHeld => ?_)
          · ((first
            | exact HKS.out _ hLs.o
            | exact HKS.out _ (HL.out.o.below hbG)
            | exact HKS.out _ (HL.out.o.below (Below.refl wr.heap.size wr).drew)
            | exact HKS.out _ HL.out.o
            | fail))
          refine tkA 0 (v := ?_) ?_ ?_
          rotate_left
          · (intro w' hSw; clear hSw; go_simp; try rfl)
          try simp only [Act.put, gA1, gA2, gA3, gA4, gA5, gA6]
          refine tkA 1 (v := ?_) ?_ ?_
          rotate_left
          · (intro w' hSw; clear hSw; go_simp; try rfl)
          try simp only [Act.put, gA1, gA2, gA3, gA4, gA5, gA6]
          refine tkA 2 (v := ?_) ?_ ?_
          rotate_left
          · (intro w' hSw; clear hSw; go_simp; try rfl)
          try simp only [Act.put, gA1, gA2, gA3, gA4, gA5, gA6]
          refine tkA 3 (v := ?_) ?_ ?_
          rotate_left
          · (intro w' hSw; clear hSw; go_simp; try rfl)
          try simp only [Act.put, gA1, gA2, gA3, gA4, gA5, gA6]
          refine tkA 4 (v := ?_) ?_ ?_
          rotate_left
          · (intro w' hSw; have e0 := hSw.d0; have e1 := hSw.d1; have e2 := hSw.d2; clear hSw; go_simp; try rfl)
          try simp only [Act.put, gA1, gA2, gA3, gA4, gA5, gA6]
          refine tkA 5 (v := ?_) ?_ ?_
          rotate_left
          · (intro w' hSw; clear hSw; go_simp; try rfl)
          try simp only [Act.put, gA1, gA2, gA3, gA4, gA5, gA6]
          refine tkA 6 (v := ?_) ?_ ?_
          rotate_left
          · (intro w' hSw; clear hSw; go_simp; try rfl)
          try simp only [Act.put, gA1, gA2, gA3, gA4, gA5, gA6]
          refine tkA 7 (v := ?_) ?_ ?_
          rotate_left
          · (intro w' hSw; clear hSw; go_simp; try rfl)
          try simp only [Act.put, gA1, gA2, gA3, gA4, gA5, gA6]
          refine tkA 8 (v := ?_) ?_ ?_
          rotate_left
          · (intro w' hSw; clear hSw; go_simp; try rfl)
          try simp only [Act.put, gA1, gA2, gA3, gA4, gA5, gA6]
          refine tkA 9 (v := ?_) ?_ ?_
          rotate_left
          · (intro w' hSw; have e0 := hSw.d0; have e1 := hSw.d1; have e2 := hSw.d2; clear hSw; go_simp; try rfl)
          try simp only [Act.put, gA1, gA2, gA3, gA4, gA5, gA6]
          refine wpAnyH_ready (rs := [10]) (by kernel_rfl) (by simp) ?_
          refine (AllReadyH.cons rfl (fun K hK => ?_) AllReadyH.nil)
          go_simp
          (go_at_call 20; refine (HG.out _ (Below.refl wr.heap.size wr).drew).mono ?_; rintro e wg ⟨gb, gd, he, hrd9, hbq⟩; subst he; have hbG : Below wr.heap.size wr wg := (Below.refl wr.heap.size wr).drew.trans hbq; clear hbq)
          refine hK.out _ _ ?_ (fun hHeld => ?_)
          · ((first
            | exact HKS.out _ hLs.o
            | exact HKS.out _ (HL.out.o.below hbG)
            | exact HKS.out _ (HL.out.o.below (Below.refl wr.heap.size wr).drew)
            | exact HKS.out _ HL.out.o
            | fail))
          clear hK K
          try simp only [Act.put, gA1, gA2, gA3, gA4, gA5, gA6]
          refine wpAnyH_ready (rs := [11]) (by kernel_rfl) (by simp) ?_
          refine (AllReadyH.cons rfl (fun K hK => ?_) AllReadyH.nil)
          go_simp
          (go_at_call 30; refine (HSt.out wg gb gd hbG hrd9).mono ?_; rintro e ws ⟨rfl, hB9, hg9⟩; have hLs := HNx.out wg ws hbG hB9 hg9; clear hB9 hg9)
          refine hK.out _ _ ?_ (fun hHeld => ?_)
          · ((first
            | exact HKS.out _ hLs.o
            | exact HKS.out _ (HL.out.o.below hbG)
            | exact HKS.out _ (HL.out.o.below (Below.refl wr.heap.size wr).drew)
            | exact HKS.out _ HL.out.o
            | fail))
          clear hK K
          try simp only [Act.put, gA1, gA2, gA3, gA4, gA5, gA6]
          refine wpAnyH_done (by kernel_rfl) ?_ _
          go_split_ands
          have HLs := Lib.hid hLs
          clear hLs hbG hrd9 HKS HG HSt HNx HL
          go_wp2_with fail
          go_roundw
          case rel => exact ⟨jj + 1, by omega, by go_num, HLs⟩
          case measure => simp [intOf]; omega
        · have hje : IN = jj := by omega
          subst hje
          have hj2 : decide ((IN : Int) < (IN : Int)) = false := decide_eq_false (by omega)
          have hj3 : decide (IN < IN) = false := decide_eq_false (by omega)
          have HBq : Hid (BkAt wr BB g2 mb2 IN b) := Lib.hid (by
            have q := HL.out.h2
            rw [← HINl.out, List.take_length] at q
            rw [HBb.out, ← HINl.out]
            exact q)
          have HId := Lib.hid (bids_any HBq.out (by omega))
          go_wp2_with fail
          refine HId.out.mono ?_
          rintro e w7 ⟨vj, he, hoj, hb⟩
          rw [he.out]
          have HRw := Lib.hid (row_any vj (.slice ia IN ic) (idsB b.l) (idsB b.l) w7 hoj.rd (HL.out.o.below hb).rd (by simp; rw [HINl.out]; omega) (by simp; rw [HINl.out]; omega))
          rw [decide_eq_true rfl] at HRw
          have HS0 : Hid (SmBk b k) := Lib.hid HL.out.h.sm
          have HL7 : Hid (Lp3 W w4 B g mb k b BB g2 mb2 k b w7) := Lib.hid (Lp3.on ⟨HL.out.x, HL.out.h, HBq.out.mono (by omega), HS0.out⟩ hb)
          clear HL HBq hoj hb he HId
          go_wp2_with fail
          refine HRw.out.mono ?_
          rintro e w8 ⟨rfl, hb⟩
          have HL8 := Lib.hid (HL7.out.on hb)
          clear hb HL7 HRw
          go_wp2_with fail
          go_loopw [15] (fun j wr => ∃ n : Nat, n ≤ K2 ∧ j = .int .i64 n ∧ Hid (Lp3 W w4 B g mb (k + n) (heardB b (l2.take n)) BB g2 mb2 (k + n) (heardB b (l2.take n)) wr)) (fun j _ => K2 - (intOf j).toNat)
          case atStart => exact ⟨0, Nat.zero_le _, rfl, HL8⟩
          case round =>
            clear HL8
            obtain ⟨n, hn, rfl, HL⟩ := hrel
            have hK2 : K2 ≤ 40 := by have q := HLl2.out.1; rw [HK2.out] at q; exact q
            by_cases hlt2 : n < K2
            · have hn1 : (n : Int) < (K2 : Int) := by omega
              have hn2 : decide ((n : Int) < (K2 : Int)) = true := decide_eq_true hn1
              have hn3 : decide (n < K2) = true := decide_eq_true hlt2
              obtain ⟨-, hlk, gg, off, cs, ha, hg, hcs, hc⟩ := HR2.out.el rfl n hlt2
              subst ha
              have eK : KM.k = 27 := rfl
              rw [eK] at hc
              clear eK
              have HSmx : Hid (SmMg l2[n]) := Lib.hid (HLl2.out.2 _ (List.getElem_mem hlk))
              have HSn : Hid (heardB b (l2.take (n + 1)) = (hearB lclA (heardB b (l2.take n)) l2[n]).1) := Lib.hid (by rw [List.take_succ_eq_append_getElem hlk, heard_snoc])
              have hlc : cs.length = 27 := by obtain ⟨u, u1, u2, u3, hq⟩ := hcs; rw [hq.cs]; rfl
              have HRg : Hid (∀ w', Below W.heap.size W w' → w'.rangeAt gg (off + n * 27) cs) := Lib.hid fun w' hb j v hv => (hb.cell (p := ⟨gg, off + n * 27 + j, none⟩) hg).trans (hc j v hv)
              have Hinf : Hid ((Tryz.prog.info? 54).map (·.size) = some cs.length) := Lib.hid (by rw [hlc]; kernel_rfl)
              have HMk : Hid (∀ w', Below W.heap.size W w' → MgA w' (.agg cs.toArray) l2[n]) := Lib.hid fun w' hb => (MsgIs.on ⟨cs.toArray, rfl, by simpa using hcs⟩ hb).mga
              have HNs2 : Hid ((heardB b (l2.take n)).ns.length ≤ 1000) := Lib.hid (by rw [(heard_same b (l2.take n)).2.2]; exact HNs.out)
              obtain ⟨bq, hbq⟩ : ∃ q, heardB b (l2.take n) = q := ⟨_, rfl⟩
              obtain ⟨x, hx⟩ : ∃ x, l2[n] = x := ⟨_, rfl⟩
              rw [hbq] at HSn HNs2 HL
              rw [hx] at HSmx HSn HMk
              have HAn : Hid (∀ M ∈ (hearB lclA bq x).2, M.sn = snp0 ∧ M.ins.at'.2.length ≤ 10000) := Lib.hid fun M hM => by
                have q := hear_ans HL.out.h.sm HL.out.h.at'.rise HL.out.h.at'.keys HSmx.out (by omega) M hM
                exact ⟨q.1, by have := q.2; omega⟩
              have HHa : Hid (∀ w', Below wr.heap.size wr w' → Calls Tryz.prog 16 #[bP g, .agg cs.toArray] w' (fun e w'' => ∃ v', Hid (e = .returned v') ∧ Lp3 W w4 B g mb (k + n + 1) (hearB lclA bq x).1 BB g2 mb2 (k + n) bq w'' ∧ AnsIs w'' w'.heap.size v' (hearB lclA bq x).2)) := Lib.hid fun w' hb => by
                have hl := HL.out.on hb
                exact lp3_a hl HWB.out HmB.out (by omega) HNs2.out (HML.out.below hl.x) (HMk.out _ hl.x) HSmx.out
              have HHb : Hid (∀ w', Lp3 W w4 B g mb (k + n + 1) (hearB lclA bq x).1 BB g2 mb2 (k + n) bq w' → Calls Tryz.prog 16 #[bP g2, .agg cs.toArray] w' (fun e w'' => ∃ v', Hid (e = .returned v') ∧ Lp3 W w4 B g mb (k + n + 1) (hearB lclA bq x).1 BB g2 mb2 (k + n + 1) (hearB lclA bq x).1 w'' ∧ AnsIs w'' w'.heap.size v' (hearB lclA bq x).2 ∧ ∀ N u l, AnsIs w' N u l → AnsIs w'' N u l)) := Lib.hid fun w' hl =>
                lp3_b hl HBW.out.2 HmB.out HBW.out.1 (by omega) HNs2.out (HML.out.below hl.x) (HMk.out _ hl.x) HSmx.out rfl
              clear hcs hc hlc hg hbq hx HNs2 HSmx HMk
              go_wp2_with fail
              refine wp_region_held_drew (S := (fun w' => Below W.heap.size W w')) (by kernel_rfl) ?_ (fun hHeld => ?_)
              · ((first
                | exact hbM
                | exact hL2.x
                | exact hL1.x
                | exact HL.out.x.drew
                | exact HL.out.x
                | fail))
              refine tkA 0 (v := ?_) ?_ ?_
              rotate_left
              · (intro w' hSw; clear hSw; go_simp; try rfl)
              try simp only [Act.put, gA1, gA2, gA3, gA4, gA5, gA6]
              refine tkA 1 (v := ?_) ?_ ?_
              rotate_left
              · (intro w' hSw; clear hSw; go_simp; try rfl)
              try simp only [Act.put, gA1, gA2, gA3, gA4, gA5, gA6]
              refine tkA 2 (v := ?_) ?_ ?_
              rotate_left
              · (intro w' hSw; clear hSw; go_simp; try rfl)
              try simp only [Act.put, gA1, gA2, gA3, gA4, gA5, gA6]
              refine tkA 3 (v := ?_) ?_ ?_
              rotate_left
              · (intro w' hSw; clear hSw; go_simp; try rfl)
              try simp only [Act.put, gA1, gA2, gA3, gA4, gA5, gA6]
              refine tkA 4 (v := ?_) ?_ ?_
              rotate_left
              · (intro w' hSw; refine Eq.trans (load_midS 54 (.tmp 85) (by rfl) gg (off + n * 27) (by rfl) _ _ (HRg.out _ hSw) Tryz.underlying54 rfl Hinf.out) ?_; rfl)
              try simp only [Act.put, gA1, gA2, gA3, gA4, gA5, gA6]
              refine tkA 6 (v := ?_) ?_ ?_
              rotate_left
              · (intro w' hSw; clear hSw; go_simp; try rfl)
              try simp only [Act.put, gA1, gA2, gA3, gA4, gA5, gA6]
              refine tkA 7 (v := ?_) ?_ ?_
              rotate_left
              · (intro w' hSw; clear hSw; go_simp; try rfl)
              try simp only [Act.put, gA1, gA2, gA3, gA4, gA5, gA6]
              refine tkA 8 (v := ?_) ?_ ?_
              rotate_left
              · (intro w' hSw; clear hSw; go_simp; try rfl)
              try simp only [Act.put, gA1, gA2, gA3, gA4, gA5, gA6]
              refine tkA 9 (v := ?_) ?_ ?_
              rotate_left
              · (intro w' hSw; clear hSw; go_simp; try rfl)
              try simp only [Act.put, gA1, gA2, gA3, gA4, gA5, gA6]
              refine tkA 10 (v := ?_) ?_ ?_
              rotate_left
              · (intro w' hSw; refine Eq.trans (load_midS 54 (.tmp 91) (by rfl) gg (off + n * 27) (by rfl) _ _ (HRg.out _ hSw) Tryz.underlying54 rfl Hinf.out) ?_; rfl)
              try simp only [Act.put, gA1, gA2, gA3, gA4, gA5, gA6]
              refine wpAnyH_ready (rs := [5]) (by kernel_rfl) (by simp) ?_
              refine (AllReadyH.cons rfl (fun K hK => ?_) AllReadyH.nil)
              go_simp
              (go_at_call 16; refine (HHa.out _ (Below.refl wr.heap.size wr).drew).mono ?_; rintro e w1 ⟨va, he, hL1, ha1⟩; obtain rfl := he.out; clear he)
              refine hK.out _ _ ?_ (fun hHeld => ?_)
              · ((first
                | exact hbM
                | exact hL2.x
                | exact hL1.x
                | exact HL.out.x.drew
                | exact HL.out.x
                | fail))
              clear hK K
              try simp only [Act.put, gA1, gA2, gA3, gA4, gA5, gA6]
              refine wpAnyH_ready (rs := [11]) (by kernel_rfl) (by simp) ?_
              refine (AllReadyH.cons rfl (fun K hK => ?_) AllReadyH.nil)
              go_simp
              (go_at_call 16; refine (HHb.out _ hL1).mono ?_; rintro e w2 ⟨vb, he, hL2, ha2, hmv⟩; obtain rfl := he.out; clear he)
              refine hK.out _ _ ?_ (fun hHeld => ?_)
              · ((first
                | exact hbM
                | exact hL2.x
                | exact hL1.x
                | exact HL.out.x.drew
                | exact HL.out.x
                | fail))
              clear hK K
              try simp only [Act.put, gA1, gA2, gA3, gA4, gA5, gA6]
              refine wpAnyH_ready (rs := [12]) (by kernel_rfl) (by simp) ?_
              refine (AllReadyH.cons rfl (fun K hK => ?_) AllReadyH.nil)
              go_simp
              (go_at_call 18; refine (msgs_any (hmv _ _ _ ha1) ha2 HAn.out).mono ?_; rintro e w3 ⟨rfl, hbq⟩; have hL3 := hL2.on hbq; have hbM := hL3.x; clear hbq)
              refine hK.out _ _ ?_ (fun hHeld => ?_)
              · ((first
                | exact hbM
                | exact hL2.x
                | exact hL1.x
                | exact HL.out.x.drew
                | exact HL.out.x
                | fail))
              clear hK K
              try simp only [Act.put, gA1, gA2, gA3, gA4, gA5, gA6]
              refine tkA 13 (v := ?_) ?_ ?_
              rotate_left
              · (intro w' hSw; clear hSw; go_simp; try rfl)
              try simp only [Act.put, gA1, gA2, gA3, gA4, gA5, gA6]
              refine wpAnyH_done (by kernel_rfl) ?_ _
              go_split_ands
              have HLs := Lib.hid hL3
              clear hL1 hL2 hL3 ha1 ha2 hmv hbM HHa HHb HAn HL HRg Hinf
              go_wp2_with fail
              go_roundw
              case rel => exact ⟨n + 1, by omega, by go_num, Lib.hid (by rw [HSn.out]; exact HLs.out)⟩
              case measure => simp [intOf]; omega
            · have hne : K2 = n := by omega
              subst hne
              have hn2 : decide ((K2 : Int) < (K2 : Int)) = false := decide_eq_false (by omega)
              have hn3 : decide (K2 < K2) = false := decide_eq_false (by omega)
              have HXf := Lib.hid HL.out.x
              go_wp2
              go_ret
              exact ⟨rfl, HXf.out⟩
end Go.Proofs.YtchhcaoondfpiaaGreat
