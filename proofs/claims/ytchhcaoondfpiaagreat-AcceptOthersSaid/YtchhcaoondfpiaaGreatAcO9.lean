/-
  Package accept's laws: AcceptOthers.
-/
import Derived.Test.YtchhcaoondfpiaaGreatAcLl
namespace Go.Proofs.YtchhcaoondfpiaaGreat
open Go.RowKit Go.Sort
open Go.WideMaps
set_option linter.unusedSimpArgs false
set_option linter.unusedVariables false
set_option maxRecDepth 100000

structure OtS (ba bi bo bm : Nat) (ca ci co cm : List Value) (w' : World) : Prop where
  ms : Bk w' ba 54 ca
  id : Bk w' bi 37 ci
  wo : Bk w' bo 48 co
  wm : Bk w' bm 48 cm
set_option maxHeartbeats 16000000 in
theorem others_law (nd : Int) (ep : Int) (ao : Option Addr) (co : Nat) (zs : List Int) (x : Mg) (v2 v3 : Value) (i1 i2 i3 : Int) (hio : okI (i1, i2, i3)) (rs : List (Cls 27)) (l : List Mg) (W : World) (hr : It W (.slice ao zs.length co) zs) (hl : RowIs KM msS W v2 rs l) (hm : MsgIs W v3 x) (hml : Tc.ML W) :
    Calls Tryz.prog 6 #[.int .i64 nd, .agg #[.int .i64 ep, .slice ao zs.length co], v2, v3, .agg #[.int .i64 i1, .int .i64 i2, .int .i64 i3]] W fun e w' => e = .returned (.bool true) ∧ Below W.heap.size W w' := by
  have HOl := Lib.hid hl
  obtain ⟨a2', c2', e2'⟩ := rowSl hl
  subst e2'
  have HMI := Lib.hid hm
  have HMV := Lib.hid hm.mga
  obtain ⟨ua, uc, a1, d1, c1, a2, d2, c2, a3, d3, c3, rfl, hrd, hokl, hid⟩ := hm.mga
  obtain ⟨n0, n1, n2, ⟨n3, n4, n5⟩, ⟨n6, n7⟩, ⟨n8, ⟨n9, n10⟩, ⟨n11, n12⟩, ⟨n13, n14, n15, n16, n17, n18, n19, n20⟩, n21, dl⟩, sn0⟩ := x
  obtain ⟨n23, sn1⟩ : ∃ q, sn0.1.1 = q := ⟨_, rfl⟩
  obtain ⟨M, hM⟩ : ∃ M, dl.length = M := ⟨_, rfl⟩
  have HMl := Lib.hid hM
  simp only at hrd hokl hid
  have HMk : Hid (∀ (k : Int) w', Below W.heap.size W w' → MgA w' (.agg #[.int .i64 k, .int .i64 n1, .int .i64 n2, .int .i64 n3, .int .i64 n4, .int .i64 n5, .int .i64 n6, .int .i64 n7, .int .i64 n8, .int .i64 n9, .int .i64 n10, .int .i64 n11, .int .i64 n12, .int .i64 n13, .int .i64 n14, .int .i64 n15, .string n16, .string n17, .int .i64 n18, .int .i64 n19, .int .i64 n20, .int .i64 n21, .slice ua M uc, .int .i64 n23, .slice a1 d1 c1, .slice a2 d2 c2, .slice a3 d3 c3]) ⟨k, n1, n2, (n3, n4, n5), (n6, n7), ⟨n8, (n9, n10), (n11, n12), ⟨n13, n14, n15, n16, n17, n18, n19, n20⟩, (n21, dl)⟩, sn0⟩) := Lib.hid fun k w' hb => ⟨ua, uc, a1, d1, c1, a2, d2, c2, a3, d3, c3, by simp only [msE, inE, snV, sn1, List.cons_append, List.nil_append]; rw [hM], hrd.below hb, hokl, hid⟩
  simp only [msE, inE, snV, hM, sn1, List.cons_append, List.nil_append] at hrd HMI HMV ⊢
  have HOKD := Lib.hid hokl
  have HID1 : Hid (okI (n3, n4, n5)) := Lib.hid hid
  clear hM sn1 hm hrd hokl hid
  obtain ⟨K, hK⟩ : ∃ K, l.length = K := ⟨_, rfl⟩
  have hlen := hl.rd.len
  rw [hl.len, hK] at hlen
  have hK63 : K ≤ 9223372036854775807 := by unfold maxLen at hlen; omega
  obtain ⟨N, hN⟩ : ∃ N, zs.length = N := ⟨_, rfl⟩
  have hN63 := hr.len
  rw [hK] at HOl hl ⊢
  rw [hN] at hN63 ⊢
  have HR := Lib.hid hl
  have HK := Lib.hid hK
  have HN' := Lib.hid hN
  have HIt := Lib.hid hr
  have HML := Lib.hid hml
  obtain ⟨X0, hX0⟩ : ∃ X0, (((W.alloc (.cells #[.int .i64 ep, .slice ao N co] 24)).alloc (.cells #[.int .i64 n0, .int .i64 n1, .int .i64 n2, .int .i64 n3, .int .i64 n4, .int .i64 n5, .int .i64 n6, .int .i64 n7, .int .i64 n8, .int .i64 n9, .int .i64 n10, .int .i64 n11, .int .i64 n12, .int .i64 n13, .int .i64 n14, .int .i64 n15, .string n16, .string n17, .int .i64 n18, .int .i64 n19, .int .i64 n20, .int .i64 n21, .slice ua M uc, .int .i64 n23, .slice a1 d1 c1, .slice a2 d2 c2, .slice a3 d3 c3] 54)).alloc (.cells #[.int .i64 i1, .int .i64 i2, .int .i64 i3] 37)) = X0 := ⟨_, rfl⟩
  have HB0 : Hid (Bk X0 (W.heap.size) 24 [.int .i64 ep, .slice ao N co]) := Lib.hid (by rw [← hX0]; exact ((Bk.newA (by simp) _ [.int .i64 ep, .slice ao N co]).old _).old _)
  have HB1 : Hid (Bk X0 (W.heap.size + 1) 54 [.int .i64 n0, .int .i64 n1, .int .i64 n2, .int .i64 n3, .int .i64 n4, .int .i64 n5, .int .i64 n6, .int .i64 n7, .int .i64 n8, .int .i64 n9, .int .i64 n10, .int .i64 n11, .int .i64 n12, .int .i64 n13, .int .i64 n14, .int .i64 n15, .string n16, .string n17, .int .i64 n18, .int .i64 n19, .int .i64 n20, .int .i64 n21, .slice ua M uc, .int .i64 n23, .slice a1 d1 c1, .slice a2 d2 c2, .slice a3 d3 c3]) := Lib.hid (by rw [← hX0]; exact (Bk.newA (by simp) _ [.int .i64 n0, .int .i64 n1, .int .i64 n2, .int .i64 n3, .int .i64 n4, .int .i64 n5, .int .i64 n6, .int .i64 n7, .int .i64 n8, .int .i64 n9, .int .i64 n10, .int .i64 n11, .int .i64 n12, .int .i64 n13, .int .i64 n14, .int .i64 n15, .string n16, .string n17, .int .i64 n18, .int .i64 n19, .int .i64 n20, .int .i64 n21, .slice ua M uc, .int .i64 n23, .slice a1 d1 c1, .slice a2 d2 c2, .slice a3 d3 c3]).old _)
  have HB2 : Hid (Bk X0 (W.heap.size + 1 + 1) 37 [.int .i64 i1, .int .i64 i2, .int .i64 i3]) := Lib.hid (by rw [← hX0]; exact Bk.newA (by simp) _ [.int .i64 i1, .int .i64 i2, .int .i64 i3])
  have HX : Hid (Below W.heap.size W X0) := Lib.hid (by rw [← hX0]; exact (((Below.refl _ _).alloc (by simp <;> omega) _).alloc (by simp <;> omega) _).alloc (by simp <;> omega) _)
  have HZ0 : Hid (X0.heap.size = W.heap.size + 1 + 1 + 1) := Lib.hid (by rw [← hX0]; simp)
  have HWk := Lib.hid (works_any X0 (hml.below HX.out))
  have HOv2 : Hid (∀ V : World, Below W.heap.size W V → ∀ g, V.heap.size = g → Calls Tryz.prog 12 #[.slice (some ⟨g, 0, none⟩) 1 1] (V.alloc (.cells #[.int .i64 n0, .int .i64 n1, .int .i64 n2, .int .i64 n3, .int .i64 n4, .int .i64 n5, .int .i64 n6, .int .i64 n7, .int .i64 n8, .int .i64 n9, .int .i64 n10, .int .i64 n11, .int .i64 n12, .int .i64 n13, .int .i64 n14, .int .i64 n15, .string n16, .string n17, .int .i64 n18, .int .i64 n19, .int .i64 n20, .int .i64 n21, .slice ua M uc, .int .i64 n23, .slice a1 d1 c1, .slice a2 d2 c2, .slice a3 d3 c3] 54)) (OvA [⟨n0, n1, n2, (n3, n4, n5), (n6, n7), ⟨n8, (n9, n10), (n11, n12), ⟨n13, n14, n15, n16, n17, n18, n19, n20⟩, (n21, dl)⟩, sn0⟩] (V.alloc (.cells #[.int .i64 n0, .int .i64 n1, .int .i64 n2, .int .i64 n3, .int .i64 n4, .int .i64 n5, .int .i64 n6, .int .i64 n7, .int .i64 n8, .int .i64 n9, .int .i64 n10, .int .i64 n11, .int .i64 n12, .int .i64 n13, .int .i64 n14, .int .i64 n15, .string n16, .string n17, .int .i64 n18, .int .i64 n19, .int .i64 n20, .int .i64 n21, .slice ua M uc, .int .i64 n23, .slice a1 d1 c1, .slice a2 d2 c2, .slice a3 d3 c3] 54)))) := Lib.hid fun V hV g hg => overA1_any (cs := #[.int .i64 n0, .int .i64 n1, .int .i64 n2, .int .i64 n3, .int .i64 n4, .int .i64 n5, .int .i64 n6, .int .i64 n7, .int .i64 n8, .int .i64 n9, .int .i64 n10, .int .i64 n11, .int .i64 n12, .int .i64 n13, .int .i64 n14, .int .i64 n15, .string n16, .string n17, .int .i64 n18, .int .i64 n19, .int .i64 n20, .int .i64 n21, .slice ua M uc, .int .i64 n23, .slice a1 d1 c1, .slice a2 d2 c2, .slice a3 d3 c3]) (HMI.out.on hV) g hg
  clear hr hl hlen hml HMI
  go_enter Tryz.func6, Tryz.ntmps6
  go_wp2_with fail
  try rw [hX0]
  refine HWk.out.mono ?_
  rintro e w1 ⟨rfl, hb⟩
  have HX1 := Lib.hid hb
  have HX' := Lib.hid (HX.out.trans (hb.mono HX.out.size))
  clear hb HX
  have HX := HX'
  clear HX'
  clear hX0 HWk
  go_wp2_with fail
  refine (overA_any _ rs l w1 (HOl.out.on HX.out)).mono ?_
  rintro e w2 ⟨R, he, hR, hb⟩
  rw [he.out]
  have HX2 : Hid (Below X0.heap.size X0 w2) := Lib.hid (HX1.out.trans (hb.mono HX1.out.size))
  have HX' := Lib.hid (HX.out.trans (hb.mono HX.out.size))
  clear hb HX
  have HX := HX'
  clear HX'
  cases R with
  | true =>
    go_wp2
    go_ret
    exact ⟨rfl, HX.out⟩
  | false =>
  have HLl := Lib.hid (hR rfl)
  clear he hR
  have HD0 := Lib.hid (HB0.out.below HX2.out)
  have HD1 := Lib.hid (HB1.out.below HX2.out)
  have HD2 := Lib.hid (HB2.out.below HX2.out)
  go_wp2_with (first
    | refine wpList_load_rowG rfl _ _ rfl (W.heap.size + 1) rfl 54 _ (0, 0) _ HD1.out Tryz.underlying54 rfl (by kernel_rfl) ?_
    | fail)
  refine (HOv2.out w2 HX.out _ rfl).mono ?_
  rintro e w3 ⟨R, he, hR, hb⟩
  rw [he.out]
  have hb := (al1 w2 (.cells #[.int .i64 n0, .int .i64 n1, .int .i64 n2, .int .i64 n3, .int .i64 n4, .int .i64 n5, .int .i64 n6, .int .i64 n7, .int .i64 n8, .int .i64 n9, .int .i64 n10, .int .i64 n11, .int .i64 n12, .int .i64 n13, .int .i64 n14, .int .i64 n15, .string n16, .string n17, .int .i64 n18, .int .i64 n19, .int .i64 n20, .int .i64 n21, .slice ua M uc, .int .i64 n23, .slice a1 d1 c1, .slice a2 d2 c2, .slice a3 d3 c3] 54)).trans (hb.mono (by simp))
  have HX3 : Hid (Below X0.heap.size X0 w3) := Lib.hid (HX2.out.trans (hb.mono HX2.out.size))
  have HX' := Lib.hid (HX.out.trans (hb.mono HX.out.size))
  clear hb HX
  have HX := HX'
  clear HX'
  cases R with
  | true =>
    go_wp2
    go_ret
    exact ⟨rfl, HX.out⟩
  | false =>
  have HSx : Hid (SmMg ⟨n0, n1, n2, (n3, n4, n5), (n6, n7), ⟨n8, (n9, n10), (n11, n12), ⟨n13, n14, n15, n16, n17, n18, n19, n20⟩, (n21, dl)⟩, sn0⟩) := Lib.hid ((hR rfl).2 ⟨n0, n1, n2, (n3, n4, n5), (n6, n7), ⟨n8, (n9, n10), (n11, n12), ⟨n13, n14, n15, n16, n17, n18, n19, n20⟩, (n21, dl)⟩, sn0⟩ (by simp))

  clear he hR HD0 HD1 HD2 HX1 HX2
  have HE0 := Lib.hid (HB0.out.below HX3.out)
  have HE1 := Lib.hid (HB1.out.below HX3.out)
  have HE2 := Lib.hid (HB2.out.below HX3.out)
  have cc0 := HE0.out.cell 0
  have cc1 := HE0.out.cell 1
  simp only [List.getElem?_cons_zero, List.getElem?_cons_succ] at cc0 cc1
  by_cases q1 : (40 : Int) < (N : Int)
  · have dq1 : decide ((40 : Int) < (N : Int)) = true := decide_eq_true q1
    have dq1n : decide (40 < N) = true := decide_eq_true (by omega)
    go_wp2
    go_ret
    exact ⟨rfl, HX.out⟩
  have dq1 : decide ((40 : Int) < (N : Int)) = false := decide_eq_false q1
  have dq1n : decide (40 < N) = false := decide_eq_false (by omega)
  have HN : Hid (zs.length ≤ 40) := Lib.hid (by rw [HN'.out]; omega)
  have HKb : Hid (K ≤ 40) := Lib.hid (by have := HLl.out.1; rw [HK.out] at this; exact this)
  have HNw : Hid (Calls Tryz.prog 13 #[.int .i64 nd, .agg #[.int .i64 ep, .slice ao N co]] w3 (BnP ⟨nd, ep, zs, []⟩ w3)) := Lib.hid (by
    have q := bnew_any nd ep ao co zs w3 (HIt.out.below HX.out) (by have := HN.out; omega)
    rw [HN'.out] at q
    exact q)
  clear hN
  go_wp2_with fail
  refine HNw.out.mono ?_
  rintro e w4 ⟨g, mb, he, hB, hb⟩
  rw [he.out]
  obtain ⟨B, hBe⟩ : ∃ B, w3.heap.size = B := ⟨_, rfl⟩
  rw [hBe] at hB hb
  have HWB : Hid (W.heap.size ≤ B) := Lib.hid (hBe ▸ HX.out.size)
  have HXB : Hid (W.heap.size + 1 + 1 + 1 ≤ B) := Lib.hid (by have := HX3.out.size; have := HZ0.out; omega)
  have hX4 : Below W.heap.size W w4 := HX.out.trans (hb.mono HWB.out)
  have hX34 : Below X0.heap.size X0 w4 := HX3.out.trans (hb.mono (by have := HX3.out.size; omega))
  have HX4 := Lib.hid hX4
  have H0 : Hid (BkIn w4 B g mb 0 (heardB ⟨nd, ep, zs, []⟩ (l.take 0)) w4) := Lib.hid ⟨hB, SmBk.nil _ _ _, Below.refl _ _⟩
  have HG0 := Lib.hid (HB0.out.below hX34)
  have HG1 := Lib.hid (HB1.out.below hX34)
  have HG2 := Lib.hid (HB2.out.below hX34)
  have HB4 : Hid (B ≤ w4.heap.size) := Lib.hid (by rw [← hBe]; exact hb.size)
  clear he hB hb hBe hX4 hX34 HX HX3 HNw cc0 cc1 dq1 dq1n q1 HZ0 HE0 HB0 HE1 HB1 HE2 HB2
  go_wp2_with fail
  go_loopw [13] (fun i wr => ∃ (k : Nat), k ≤ K ∧ i = .int .i64 k ∧ Hid (BkIn w4 B g mb k (heardB ⟨nd, ep, zs, []⟩ (l.take k)) wr)) (fun i _ => K - (intOf i).toNat)
  case atStart => exact ⟨0, Nat.zero_le _, rfl, H0⟩
  case round =>
    clear H0
    obtain ⟨k, hk, rfl, H⟩ := hrel
    by_cases hlt : k < K
    · have hk1 : (k : Int) < (K : Int) := by omega
      have hk2 : decide ((k : Int) < (K : Int)) = true := decide_eq_true hk1
      have hk3 : decide (k < K) = true := decide_eq_true hlt
      obtain ⟨-, hlk, gg, off, cs, ha, hg, hcs, hc⟩ := HR.out.el rfl k hlt
      subst ha
      have eK : KM.k = 27 := rfl
      rw [eK] at hc
      clear eK
      have hWr : Below W.heap.size W wr := HX4.out.trans (H.out.gr.mono HWB.out)
      have HRG : Hid (wr.rangeAt gg (off + k * 27) cs) := Lib.hid fun j v hv => (hWr.cell (p := ⟨gg, off + k * 27 + j, none⟩) hg).trans (hc j v hv)
      have hlc : cs.length = 27 := by obtain ⟨u, u1, u2, u3, hq⟩ := hcs; rw [hq.cs]; rfl
      have Hinf : Hid ((Tryz.prog.info? 54).map (·.size) = some cs.length) := Lib.hid (by rw [hlc]; kernel_rfl)
      have hmk : MgA wr (.agg cs.toArray) l[k] := (MsgIs.on ⟨cs.toArray, rfl, by simpa using hcs⟩ hWr).mga
      have HHr := Lib.hid (hear_in H.out (by have := HKb.out; omega) (by rw [(heard_same ⟨nd, ep, zs, []⟩ (l.take k)).2.2]; have := HN.out; show zs.length ≤ 1000; omega) (HML.out.below hWr) hmk (HLl.out.2 _ (List.getElem_mem hlk)))
      have HSn : Hid (heardB ⟨nd, ep, zs, []⟩ (l.take (k + 1)) = (hearB lclA (heardB ⟨nd, ep, zs, []⟩ (l.take k)) l[k]).1) := Lib.hid (by rw [List.take_succ_eq_append_getElem hlk, heard_snoc])
      have hgw : gg < wr.heap.size := Nat.lt_of_lt_of_le hg hWr.size
      clear hc hcs hlc hmk hWr hg
      go_wp2_with (first | refine wpList_load_mid rfl _ _ rfl gg (off + k * 27) rfl _ _ HRG.out Tryz.underlying54 rfl Hinf.out ?_ | fail)
      refine HHr.out.mono ?_
      rintro e w7 ⟨v7, he, hk7, hg7, ha7⟩
      rw [he.out]
      have H7 : Hid (BkIn w4 B g mb (k + 1) (heardB ⟨nd, ep, zs, []⟩ (l.take (k + 1))) w7) := Lib.hid (by rw [HSn.out]; exact hk7)
      clear he hk7 hg7 ha7 H HHr HRG HSn Hinf
      go_wp2_with fail
      go_roundw
      case rel => exact ⟨k + 1, by omega, by go_num, H7⟩
      case measure => simp [intOf]; omega
    · have e : k = K := by omega
      subst e
      have hk2 : decide ((k : Int) < (k : Int)) = false := decide_eq_false (by omega)
      have hk3 : decide (k < k) = false := decide_eq_false (by omega)
      obtain ⟨b, hbe⟩ : ∃ b, heardB ⟨nd, ep, zs, []⟩ l = b := ⟨_, rfl⟩
      have HSm : Hid (b.node = nd ∧ b.ep = ep ∧ b.ns = zs) := Lib.hid (by rw [← hbe]; exact heard_same _ _)
      have HH : Hid (BkIn w4 B g mb k b wr) := Lib.hid (by have h := H.out; rw [← HK.out, List.take_length, hbe, HK.out] at h; exact h)
      have HX : Hid (Below W.heap.size W wr) := Lib.hid (HX4.out.trans (HH.out.gr.mono HWB.out))
      have HNs : Hid (b.ns.length ≤ 1000) := Lib.hid (by rw [HSm.out.2.2]; have := HN.out; omega)
      have HB0 : Hid (Bk wr (W.heap.size) 24 [.int .i64 ep, .slice ao N co]) := Lib.hid ((HH.out.gr.block _ (by have := HXB.out; omega)).trans HG0.out)
      have HB1 : Hid (Bk wr (W.heap.size + 1) 54 [.int .i64 n0, .int .i64 n1, .int .i64 n2, .int .i64 n3, .int .i64 n4, .int .i64 n5, .int .i64 n6, .int .i64 n7, .int .i64 n8, .int .i64 n9, .int .i64 n10, .int .i64 n11, .int .i64 n12, .int .i64 n13, .int .i64 n14, .int .i64 n15, .string n16, .string n17, .int .i64 n18, .int .i64 n19, .int .i64 n20, .int .i64 n21, .slice ua M uc, .int .i64 n23, .slice a1 d1 c1, .slice a2 d2 c2, .slice a3 d3 c3]) := Lib.hid ((HH.out.gr.block _ (by have := HXB.out; omega)).trans HG1.out)
      have HB2 : Hid (Bk wr (W.heap.size + 1 + 1) 37 [.int .i64 i1, .int .i64 i2, .int .i64 i3]) := Lib.hid ((HH.out.gr.block _ (by have := HXB.out; omega)).trans HG2.out)
      clear H hbe hlt hk HG0 HG1 HG2
      have hk40 : k ≤ 40 := HKb.out
      have HA := HB1
      have HI := HB2
      have H := Lib.hid HH.out.new
      clear HB1 HB2 HH
      obtain ⟨xo, hxo⟩ : ∃ x, getL b.l (i1, i2, i3) = x := ⟨_, rfl⟩
      obtain ⟨xm, hxm⟩ : ∃ x, getL b.l (n3, n4, n5) = x := ⟨_, rfl⟩
      have HGLo := Lib.hid hxo
      have HGLm := Lib.hid hxm
      have hs1 := (H.out.sm.get H.out.at'.rise (i1, i2, i3)).2.1
      have hs2 := (H.out.sm.get H.out.at'.rise (n3, n4, n5)).2.1
      have HGto := get_in H.out (by omega) hio
      rw [hxo] at HGto hs1
      rw [hxm] at hs2
      have HIO : Hid (okI (i1, i2, i3)) := Lib.hid hio
      obtain ⟨q0, ⟨q1, q2⟩, ⟨q3, q4⟩, ⟨q5, q6, q7, q8, q9, q10, q11, q12⟩, qs, ql⟩ := xo
      obtain ⟨p0, ⟨p1, p2⟩, ⟨p3, p4⟩, ⟨p5, p6, p7, p8, p9, p10, p11, p12⟩, ps, pl⟩ := xm
      obtain ⟨P, hP⟩ : ∃ P, pl.length = P := ⟨_, rfl⟩
      obtain ⟨Q, hQ⟩ : ∃ Q, ql.length = Q := ⟨_, rfl⟩
      have HPl := Lib.hid hP
      have HQl := Lib.hid hQ
      have HPs : Hid (pl.length ≤ 10000) := Lib.hid (by simp only at hs2; omega)
      have HQs : Hid (ql.length ≤ 10000) := Lib.hid (by simp only at hs1; omega)
      have HGt2 : Hid (Calls Tryz.prog 20 #[bP g, .agg #[.int .i64 i1, .int .i64 i2, .int .i64 i3]] wr (fun e w' => ∃ oa oc, Hid (e = .returned (.agg #[.int .i64 q0, .int .i64 q1, .int .i64 q2, .int .i64 q3, .int .i64 q4, .int .i64 q5, .int .i64 q6, .int .i64 q7, .string q8, .string q9, .int .i64 q10, .int .i64 q11, .int .i64 q12, .int .i64 qs, .slice oa Q oc])) ∧ IK.Own w' 0 (.slice oa Q oc) ql ∧ Below wr.heap.size wr w')) := Lib.hid (HGto.mono fun e w' ⟨v', he, ho, hb⟩ => by
        obtain ⟨ga, gc, hv⟩ := ho.slice
        simp only at hv ho
        rw [hQ] at hv
        subst hv
        exact ⟨ga, gc, he, ho.base (Nat.zero_le _), hb⟩)
      have y0 := Bk.cell HI.out 0
      have y1 := Bk.cell HI.out 1
      have y2 := Bk.cell HI.out 2
      simp only [msE, ansB, List.cons_append, List.nil_append, List.getElem?_cons_zero, List.getElem?_cons_succ] at y0 y1 y2
      clear HGto hP hQ hxo hxm hs1 hs2 hio
      go_wp2_with fail
      refine HGt2.out.mono ?_
      rintro e w5 ⟨oa, oc, he, how, hb⟩
      rw [he.out]
      have hbq : Below wr.heap.size wr (w5.alloc (.cells #[.int .i64 q0, .int .i64 q1, .int .i64 q2, .int .i64 q3, .int .i64 q4, .int .i64 q5, .int .i64 q6, .int .i64 q7, .string q8, .string q9, .int .i64 q10, .int .i64 q11, .int .i64 q12, .int .i64 qs, .slice oa Q oc] 48)) := hb.alloc hb.size _
      have HWo : Hid (Bk (w5.alloc (.cells #[.int .i64 q0, .int .i64 q1, .int .i64 q2, .int .i64 q3, .int .i64 q4, .int .i64 q5, .int .i64 q6, .int .i64 q7, .string q8, .string q9, .int .i64 q10, .int .i64 q11, .int .i64 q12, .int .i64 qs, .slice oa Q oc] 48)) w5.heap.size 48 [.int .i64 q0, .int .i64 q1, .int .i64 q2, .int .i64 q3, .int .i64 q4, .int .i64 q5, .int .i64 q6, .int .i64 q7, .string q8, .string q9, .int .i64 q10, .int .i64 q11, .int .i64 q12, .int .i64 qs, .slice oa Q oc]) := Lib.hid (Bk.new w5 _ _)
      have HWq0 : Hid (IK.Own (w5.alloc (.cells #[.int .i64 q0, .int .i64 q1, .int .i64 q2, .int .i64 q3, .int .i64 q4, .int .i64 q5, .int .i64 q6, .int .i64 q7, .string q8, .string q9, .int .i64 q10, .int .i64 q11, .int .i64 q12, .int .i64 qs, .slice oa Q oc] 48)) 0 (.slice oa Q oc) ql) := Lib.hid (how.below ((Below.refl _ _).alloc (Nat.le_refl _) _))
      obtain ⟨wo, hwo⟩ : ∃ q, w5.heap.size = q := ⟨_, rfl⟩
      obtain ⟨w6, hw6⟩ : ∃ w6, w5.alloc (.cells #[.int .i64 q0, .int .i64 q1, .int .i64 q2, .int .i64 q3, .int .i64 q4, .int .i64 q5, .int .i64 q6, .int .i64 q7, .string q8, .string q9, .int .i64 q10, .int .i64 q11, .int .i64 q12, .int .i64 qs, .slice oa Q oc] 48) = w6 := ⟨_, rfl⟩
      rw [hw6] at HWo hbq HWq0
      rw [hwo] at HWo
      have HX' := Lib.hid (HX.out.trans (hbq.mono HX.out.size))
      have H' := Lib.hid (H.out.on hbq (Nat.le_trans H.out.at'.lo.1 (Nat.le_of_lt H.out.at'.lt)))
      have HA' := Lib.hid (Bk.below HA.out hbq)
      have HI' := Lib.hid (Bk.below HI.out hbq)
      clear hbq HX H HA HI
      have HX := HX'
      have H := H'
      have HA := HA'
      have HI := HI'
      clear HX' H' HA' HI'
      clear he hb HGt2 y0 y1 y2 how
      have HGtm := get_in H.out (by omega) HID1.out
      rw [HGLm.out] at HGtm
      have HGt3 : Hid (Calls Tryz.prog 20 #[bP g, .agg #[.int .i64 n3, .int .i64 n4, .int .i64 n5]] w6 (fun e w' => ∃ ga gc, Hid (e = .returned (.agg #[.int .i64 p0, .int .i64 p1, .int .i64 p2, .int .i64 p3, .int .i64 p4, .int .i64 p5, .int .i64 p6, .int .i64 p7, .string p8, .string p9, .int .i64 p10, .int .i64 p11, .int .i64 p12, .int .i64 ps, .slice ga P gc])) ∧ IK.Own w' 0 (.slice ga P gc) pl ∧ Below w6.heap.size w6 w')) := Lib.hid (HGtm.mono fun e w' ⟨v', he, ho, hb⟩ => by
        obtain ⟨ga, gc, hv⟩ := ho.slice
        simp only at hv ho
        rw [HPl.out] at hv
        subst hv
        exact ⟨ga, gc, he, ho.base (Nat.zero_le _), hb⟩)
      have y3 := Bk.cell HA.out 3
      have y4 := Bk.cell HA.out 4
      have y5 := Bk.cell HA.out 5
      simp only [msE, ansB, List.cons_append, List.nil_append, List.getElem?_cons_zero, List.getElem?_cons_succ] at y3 y4 y5
      clear HGtm
      go_wp2_with fail
      try rw [hw6]
      try rw [hwo]
      clear hw6 hwo
      refine HGt3.out.mono ?_
      rintro e w7 ⟨ga, gc, he, how, hb⟩
      rw [he.out]
      have hbq : Below w6.heap.size w6 (w7.alloc (.cells #[.int .i64 p0, .int .i64 p1, .int .i64 p2, .int .i64 p3, .int .i64 p4, .int .i64 p5, .int .i64 p6, .int .i64 p7, .string p8, .string p9, .int .i64 p10, .int .i64 p11, .int .i64 p12, .int .i64 ps, .slice ga P gc] 48)) := hb.alloc hb.size _
      have HWm : Hid (Bk (w7.alloc (.cells #[.int .i64 p0, .int .i64 p1, .int .i64 p2, .int .i64 p3, .int .i64 p4, .int .i64 p5, .int .i64 p6, .int .i64 p7, .string p8, .string p9, .int .i64 p10, .int .i64 p11, .int .i64 p12, .int .i64 ps, .slice ga P gc] 48)) w7.heap.size 48 [.int .i64 p0, .int .i64 p1, .int .i64 p2, .int .i64 p3, .int .i64 p4, .int .i64 p5, .int .i64 p6, .int .i64 p7, .string p8, .string p9, .int .i64 p10, .int .i64 p11, .int .i64 p12, .int .i64 ps, .slice ga P gc]) := Lib.hid (Bk.new w7 _ _)
      have HWp0 : Hid (IK.Own (w7.alloc (.cells #[.int .i64 p0, .int .i64 p1, .int .i64 p2, .int .i64 p3, .int .i64 p4, .int .i64 p5, .int .i64 p6, .int .i64 p7, .string p8, .string p9, .int .i64 p10, .int .i64 p11, .int .i64 p12, .int .i64 ps, .slice ga P gc] 48)) 0 (.slice ga P gc) pl) := Lib.hid (how.below ((Below.refl _ _).alloc (Nat.le_refl _) _))
      obtain ⟨wm, hwm⟩ : ∃ q, w7.heap.size = q := ⟨_, rfl⟩
      obtain ⟨w8, hw8⟩ : ∃ w8, w7.alloc (.cells #[.int .i64 p0, .int .i64 p1, .int .i64 p2, .int .i64 p3, .int .i64 p4, .int .i64 p5, .int .i64 p6, .int .i64 p7, .string p8, .string p9, .int .i64 p10, .int .i64 p11, .int .i64 p12, .int .i64 ps, .slice ga P gc] 48) = w8 := ⟨_, rfl⟩
      rw [hw8] at HWm hbq HWp0
      rw [hwm] at HWm
      have HWq0' := Lib.hid (HWq0.out.below hbq)
      clear HWq0
      have HWq0 := HWq0'
      clear HWq0'
      have HX' := Lib.hid (HX.out.trans (hbq.mono HX.out.size))
      have H' := Lib.hid (H.out.on hbq (Nat.le_trans H.out.at'.lo.1 (Nat.le_of_lt H.out.at'.lt)))
      have HA' := Lib.hid (Bk.below HA.out hbq)
      have HI' := Lib.hid (Bk.below HI.out hbq)
      have HWo' := Lib.hid (Bk.below HWo.out hbq)
      clear hbq HX H HA HI HWo
      have HX := HX'
      have H := H'
      have HA := HA'
      have HI := HI'
      have HWo := HWo'
      clear HX' H' HA' HI' HWo'
      clear he hb HGt3 y3 y4 y5 how
      have HRb := Lib.hid (bright_any H.out.at' HNs.out (HMk.out n0 w8 HX.out) (by have h : dl.length ≤ 60 := HSx.out.1; show dl.length ≤ 10000; omega))
      go_wp2_with (first
        | refine wpList_load_rowG rfl _ _ rfl (W.heap.size + 1) rfl 54 _ (0, 0) _ HA.out Tryz.underlying54 rfl (by kernel_rfl) ?_
        | fail)
      try rw [hw8]
      try rw [hwm]
      clear hw8 hwm
      refine HRb.out.mono ?_
      rintro e w9 ⟨rfl, hb⟩
      have HWq0' := Lib.hid (HWq0.out.below hb)
      have HWp0' := Lib.hid (HWp0.out.below hb)
      clear HWq0 HWp0 HRb
      have HWq0 := HWq0'
      have HWp0 := HWp0'
      clear HWq0' HWp0'
      have HX' := Lib.hid (HX.out.trans (hb.mono HX.out.size))
      have H' := Lib.hid (H.out.on hb (Nat.le_trans H.out.at'.lo.1 (Nat.le_of_lt H.out.at'.lt)))
      have HA' := Lib.hid (Bk.below HA.out hb)
      have HI' := Lib.hid (Bk.below HI.out hb)
      have HWo' := Lib.hid (Bk.below HWo.out hb)
      have HWm' := Lib.hid (Bk.below HWm.out hb)
      clear hb HX H HA HI HWo HWm
      have HX := HX'
      have H := H'
      have HA := HA'
      have HI := HI'
      have HWo := HWo'
      have HWm := HWm'
      clear HX' H' HA' HI' HWo' HWm'
      obtain ⟨qr, hqr⟩ : ∃ q, rightB b ⟨n0, n1, n2, (n3, n4, n5), (n6, n7), ⟨n8, (n9, n10), (n11, n12), ⟨n13, n14, n15, n16, n17, n18, n19, n20⟩, (n21, dl)⟩, sn0⟩ = q := ⟨_, rfl⟩
      rw [hqr]
      have HHm := Lib.hid (hear_in H.out (by omega) HNs.out (HML.out.below HX.out) (HMk.out n0 _ HX.out) (show SmMg ⟨n0, n1, n2, (n3, n4, n5), (n6, n7), ⟨n8, (n9, n10), (n11, n12), ⟨n13, n14, n15, n16, n17, n18, n19, n20⟩, (n21, dl)⟩, sn0⟩ from HSx.out))
      have HOth : Hid (((i1, i2, i3) : I3) ≠ (n3, n4, n5) → getL (hearB lclA b ⟨n0, n1, n2, (n3, n4, n5), (n6, n7), ⟨n8, (n9, n10), (n11, n12), ⟨n13, n14, n15, n16, n17, n18, n19, n20⟩, (n21, dl)⟩, sn0⟩).1.l (i1, i2, i3) = ⟨q0, (q1, q2), (q3, q4), ⟨q5, q6, q7, q8, q9, q10, q11, q12⟩, (qs, ql)⟩) := Lib.hid fun hne => by
        rw [hear_other lclA H.out.at'.rise ⟨n0, n1, n2, (n3, n4, n5), (n6, n7), ⟨n8, (n9, n10), (n11, n12), ⟨n13, n14, n15, n16, n17, n18, n19, n20⟩, (n21, dl)⟩, sn0⟩ hne]
        exact HGLo.out
      have HQR := Lib.hid hqr
      clear hqr
      go_wp2_with (first
        | refine wpList_load_rowG rfl _ _ rfl (W.heap.size + 1) rfl 54 _ (0, 0) _ HA.out Tryz.underlying54 rfl (by kernel_rfl) ?_
        | fail)
      refine HHm.out.mono ?_
      rintro e wy ⟨vy, he, hkh, hgh, hah⟩
      rw [he.out]
      have HA' := Lib.hid ((hgh.block _ (Bk.lt HA.out) (by simpa using H.out.at'.blkNe _ _ _ _ HA.out)).trans HA.out)
      have HI' := Lib.hid ((hgh.block _ (Bk.lt HI.out) (by simpa using H.out.at'.blkNe _ _ _ _ HI.out)).trans HI.out)
      have HWo' := Lib.hid ((hgh.block _ (Bk.lt HWo.out) (by simpa using H.out.at'.blkNe _ _ _ _ HWo.out)).trans HWo.out)
      have HWm' := Lib.hid ((hgh.block _ (Bk.lt HWm.out) (by simpa using H.out.at'.blkNe _ _ _ _ HWm.out)).trans HWm.out)
      have HX' : Hid (Below W.heap.size W wy) := Lib.hid (HX.out.grown hgh HX.out.size (fun k e => by cases e; exact Nat.le_trans HWB.out H.out.at'.lo.2))
      have HWq : Hid (IK.Rd wy (.slice oa Q oc) ql) := Lib.hid (HWq0.out.outA hgh H.out.at'.blkNe).rd
      have HWp : Hid (IK.Rd wy (.slice ga P gc) pl) := Lib.hid (HWp0.out.outA hgh H.out.at'.blkNe).rd
      have H1 := Lib.hid hkh
      clear he hgh HHm H HX HA HI HWo HWm HWq0 HWp0 hkh
      have HX := HX'
      have HA := HA'
      have HI := HI'
      have HWo := HWo'
      have HWm := HWm'
      clear HX' HA' HI' HWo' HWm'
      have HKP15 : Hid (∀ w', Below wy.heap.size wy w' → OtS (W.heap.size + 1) (W.heap.size + 1 + 1) wo wm [.int .i64 n0, .int .i64 n1, .int .i64 n2, .int .i64 n3, .int .i64 n4, .int .i64 n5, .int .i64 n6, .int .i64 n7, .int .i64 n8, .int .i64 n9, .int .i64 n10, .int .i64 n11, .int .i64 n12, .int .i64 n13, .int .i64 n14, .int .i64 n15, .string n16, .string n17, .int .i64 n18, .int .i64 n19, .int .i64 n20, .int .i64 n21, .slice ua M uc, .int .i64 n23, .slice a1 d1 c1, .slice a2 d2 c2, .slice a3 d3 c3] [.int .i64 i1, .int .i64 i2, .int .i64 i3] [.int .i64 q0, .int .i64 q1, .int .i64 q2, .int .i64 q3, .int .i64 q4, .int .i64 q5, .int .i64 q6, .int .i64 q7, .string q8, .string q9, .int .i64 q10, .int .i64 q11, .int .i64 q12, .int .i64 qs, .slice oa Q oc] [.int .i64 p0, .int .i64 p1, .int .i64 p2, .int .i64 p3, .int .i64 p4, .int .i64 p5, .int .i64 p6, .int .i64 p7, .string p8, .string p9, .int .i64 p10, .int .i64 p11, .int .i64 p12, .int .i64 ps, .slice ga P gc] w') := Lib.hid fun w' hb => ⟨Bk.below HA.out hb, Bk.below HI.out hb, Bk.below HWo.out hb, Bk.below HWm.out hb⟩
      cases qr with
      | false =>
        have hno := hear_not lclA HQR.out
        rw [hno] at hah
        have HOth2 := HOth
        rw [hno] at HOth2 H1
        rcases hah with ⟨_, rfl⟩ | ⟨_, _, _, e9, _⟩
        case inr => cases e9
        have HG2 : Hid (∀ w', Below wy.heap.size wy w' → Calls Tryz.prog 20 #[bP g, .agg #[.int .i64 n3, .int .i64 n4, .int .i64 n5]] w' (fun e w'' => ∃ gb gd, e = .returned (.agg #[.int .i64 p0, .int .i64 p1, .int .i64 p2, .int .i64 p3, .int .i64 p4, .int .i64 p5, .int .i64 p6, .int .i64 p7, .string p8, .string p9, .int .i64 p10, .int .i64 p11, .int .i64 p12, .int .i64 ps, .slice gb P gd]) ∧ IK.Rd w'' (.slice gb P gd) pl ∧ Below w'.heap.size w' w'')) := Lib.hid fun w' hb => by
          have q := get_in (H1.out.on hb (Nat.le_trans H1.out.at'.lo.1 (Nat.le_of_lt H1.out.at'.lt))) (by have := HKb.out; omega) HID1.out
          rw [HGLm.out] at q
          refine q.mono fun e w'' ⟨v', he, ho, hb⟩ => ?_
          obtain ⟨gb, gd, hv⟩ := ho.slice
          simp only at hv ho
          rw [HPl.out] at hv
          subst hv
          exact ⟨gb, gd, he.out, ho.rd, hb⟩
        have HSa : Hid (∀ w' gb gd, Below wy.heap.size wy w' → IK.Rd w' (.slice gb P gd) pl → Calls Tryz.prog 19 #[.agg #[.int .i64 p0, .int .i64 p1, .int .i64 p2, .int .i64 p3, .int .i64 p4, .int .i64 p5, .int .i64 p6, .int .i64 p7, .string p8, .string p9, .int .i64 p10, .int .i64 p11, .int .i64 p12, .int .i64 ps, .slice ga P gc], .agg #[.int .i64 p0, .int .i64 p1, .int .i64 p2, .int .i64 p3, .int .i64 p4, .int .i64 p5, .int .i64 p6, .int .i64 p7, .string p8, .string p9, .int .i64 p10, .int .i64 p11, .int .i64 p12, .int .i64 ps, .slice gb P gd]] w' (fun e w'' => e = .returned (.bool true) ∧ Below w'.heap.size w' w'')) := Lib.hid fun w' gb gd hb hr => by
          have q := sameI_any ⟨p0, (p1, p2), (p3, p4), ⟨p5, p6, p7, p8, p9, p10, p11, p12⟩, (ps, pl)⟩ (.slice ga P gc) (.slice gb P gd) w' (HWp.out.below hb) hr HPs.out
          simp only [inE] at q
          exact q
        have HKP := HKP15
        clear hno
        go_wp2_with fail
        refine wp_region_held_drew (S := (OtS (W.heap.size + 1) (W.heap.size + 1 + 1) wo wm [.int .i64 n0, .int .i64 n1, .int .i64 n2, .int .i64 n3, .int .i64 n4, .int .i64 n5, .int .i64 n6, .int .i64 n7, .int .i64 n8, .int .i64 n9, .int .i64 n10, .int .i64 n11, .int .i64 n12, .int .i64 n13, .int .i64 n14, .int .i64 n15, .string n16, .string n17, .int .i64 n18, .int .i64 n19, .int .i64 n20, .int .i64 n21, .slice ua M uc, .int .i64 n23, .slice a1 d1 c1, .slice a2 d2 c2, .slice a3 d3 c3] [.int .i64 i1, .int .i64 i2, .int .i64 i3] [.int .i64 q0, .int .i64 q1, .int .i64 q2, .int .i64 q3, .int .i64 q4, .int .i64 q5, .int .i64 q6, .int .i64 q7, .string q8, .string q9, .int .i64 q10, .int .i64 q11, .int .i64 q12, .int .i64 qs, .slice oa Q oc] [.int .i64 p0, .int .i64 p1, .int .i64 p2, .int .i64 p3, .int .i64 p4, .int .i64 p5, .int .i64 p6, .int .i64 p7, .string p8, .string p9, .int .i64 p10, .int .i64 p11, .int .i64 p12, .int .i64 ps, .slice ga P gc])) (by kernel_rfl) ?_ (fun hHeld => ?_)
        · ((first
          | exact HKP.out _ hbS
          | exact HKP.out _ hbG
          | exact HKP.out _ (Below.refl wy.heap.size wy).drew
          | exact HKP.out _ (Below.refl _ _)
          | fail))
        refine tkA 0 (v := ?_) ?_ ?_
        rotate_left
        · (intro w' hSw; clear hSw; go_simp; try rfl)
        try simp only [Act.put, gA1, gA2, gA3, gA4, gA5, gA6]
        refine tkA 1 (v := ?_) ?_ ?_
        rotate_left
        · (intro w' hSw; clear hSw; go_simp; try rfl)
        try simp only [Act.put, gA1, gA2, gA3, gA4, gA5, gA6]
        refine tkA 2 (v := ?_) ?_ ?_
        rotate_left
        · (intro w' hSw; clear hSw; go_simp; try rfl)
        try simp only [Act.put, gA1, gA2, gA3, gA4, gA5, gA6]
        refine tkA 3 (v := ?_) ?_ ?_
        rotate_left
        · (intro w' hSw; clear hSw; go_simp; try rfl)
        try simp only [Act.put, gA1, gA2, gA3, gA4, gA5, gA6]
        refine wpAnyH_ready (rs := [4]) (by kernel_rfl) (by simp) ?_
        refine (AllReadyH.cons rfl (fun K hK => ?_) AllReadyH.nil)
        go_simp
        refine hK.out _ _ ?_ (fun hHeld => ?_)
        · ((first
          | exact HKP.out _ hbS
          | exact HKP.out _ hbG
          | exact HKP.out _ (Below.refl wy.heap.size wy).drew
          | exact HKP.out _ (Below.refl _ _)
          | fail))
        clear hK K
        try simp only [Act.put, gA1, gA2, gA3, gA4, gA5, gA6]
        refine tkA 5 (v := ?_) ?_ ?_
        rotate_left
        · (intro w' hSw; clear hSw; go_simp; try rfl)
        try simp only [Act.put, gA1, gA2, gA3, gA4, gA5, gA6]
        refine tkA 6 (v := ?_) ?_ ?_
        rotate_left
        · (intro w' hSw; clear hSw; go_simp; try rfl)
        try simp only [Act.put, gA1, gA2, gA3, gA4, gA5, gA6]
        refine tkA 7 (v := ?_) ?_ ?_
        rotate_left
        · (intro w' hSw; refine Eq.trans (load_rowS 48 (.tmp 15) (by rfl) wm (by rfl) 48 #[.int .i64 p0, .int .i64 p1, .int .i64 p2, .int .i64 p3, .int .i64 p4, .int .i64 p5, .int .i64 p6, .int .i64 p7, .string p8, .string p9, .int .i64 p10, .int .i64 p11, .int .i64 p12, .int .i64 ps, .slice ga P gc] (0, 0) _ hSw.wm Tryz.underlying48 rfl infoIn) ?_; rfl)
        try simp only [Act.put, gA1, gA2, gA3, gA4, gA5, gA6]
        refine tkA 8 (v := ?_) ?_ ?_
        rotate_left
        · (intro w' hSw; clear hSw; go_simp; try rfl)
        try simp only [Act.put, gA1, gA2, gA3, gA4, gA5, gA6]
        refine tkA 9 (v := ?_) ?_ ?_
        rotate_left
        · (intro w' hSw; clear hSw; go_simp; try rfl)
        try simp only [Act.put, gA1, gA2, gA3, gA4, gA5, gA6]
        refine tkA 10 (v := ?_) ?_ ?_
        rotate_left
        · (intro w' hSw; have e3 := Bk.cell hSw.ms 3; have e4 := Bk.cell hSw.ms 4; have e5 := Bk.cell hSw.ms 5; simp only [List.getElem?_cons_zero, List.getElem?_cons_succ] at e3 e4 e5; clear hSw; go_simp; try rfl)
        try simp only [Act.put, gA1, gA2, gA3, gA4, gA5, gA6]
        refine wpAnyH_ready (rs := [11]) (by kernel_rfl) (by simp) ?_
        refine (AllReadyH.cons rfl (fun K hK => ?_) AllReadyH.nil)
        go_simp
        (go_at_call 20; refine (HG2.out _ (Below.refl wy.heap.size wy).drew).mono ?_; rintro e wg ⟨gb, gd, he, hrd9, hbq⟩; subst he; have hbG : Below wy.heap.size wy wg := (Below.refl wy.heap.size wy).drew.trans hbq; clear hbq)
        refine hK.out _ _ ?_ (fun hHeld => ?_)
        · ((first
          | exact HKP.out _ hbS
          | exact HKP.out _ hbG
          | exact HKP.out _ (Below.refl wy.heap.size wy).drew
          | exact HKP.out _ (Below.refl _ _)
          | fail))
        clear hK K
        try simp only [Act.put, gA1, gA2, gA3, gA4, gA5, gA6]
        refine wpAnyH_ready (rs := [12]) (by kernel_rfl) (by simp) ?_
        refine (AllReadyH.cons rfl (fun K hK => ?_) AllReadyH.nil)
        go_simp
        (go_at_call 19; refine (HSa.out wg gb gd hbG hrd9).mono ?_; rintro e ws ⟨rfl, hbq⟩; have hbS : Below wy.heap.size wy ws := hbG.trans (hbq.mono hbG.size); clear hbq)
        refine hK.out _ _ ?_ (fun hHeld => ?_)
        · ((first
          | exact HKP.out _ hbS
          | exact HKP.out _ hbG
          | exact HKP.out _ (Below.refl wy.heap.size wy).drew
          | exact HKP.out _ (Below.refl _ _)
          | fail))
        clear hK K
        try simp only [Act.put, gA1, gA2, gA3, gA4, gA5, gA6]
        refine tkA 13 (v := ?_) ?_ ?_
        rotate_left
        · (intro w' hSw; clear hSw; go_simp; try rfl)
        try simp only [Act.put, gA1, gA2, gA3, gA4, gA5, gA6]
        refine tkA 14 (v := ?_) ?_ ?_
        rotate_left
        · (intro w' hSw; clear hSw; go_simp; try rfl)
        try simp only [Act.put, gA1, gA2, gA3, gA4, gA5, gA6]
        refine tkA 15 (v := ?_) ?_ ?_
        rotate_left
        · (intro w' hSw; clear hSw; go_simp; try rfl)
        try simp only [Act.put, gA1, gA2, gA3, gA4, gA5, gA6]
        refine tkA 16 (v := ?_) ?_ ?_
        rotate_left
        · (intro w' hSw; clear hSw; go_simp; try rfl)
        try simp only [Act.put, gA1, gA2, gA3, gA4, gA5, gA6]
        refine tkA 17 (v := ?_) ?_ ?_
        rotate_left
        · (intro w' hSw; clear hSw; go_simp; try rfl)
        try simp only [Act.put, gA1, gA2, gA3, gA4, gA5, gA6]
        refine wpAnyH_ready (rs := [18]) (by kernel_rfl) (by simp) ?_
        refine (AllReadyH.cons rfl (fun K hK => ?_) AllReadyH.nil)
        go_simp
        refine hK.out _ _ ?_ (fun hHeld => ?_)
        · ((first
          | exact HKP.out _ hbS
          | exact HKP.out _ hbG
          | exact HKP.out _ (Below.refl wy.heap.size wy).drew
          | exact HKP.out _ (Below.refl _ _)
          | fail))
        clear hK K
        try simp only [Act.put, gA1, gA2, gA3, gA4, gA5, gA6]
        refine tkA 19 (v := ?_) ?_ ?_
        rotate_left
        · (intro w' hSw; clear hSw; go_simp; try rfl)
        try simp only [Act.put, gA1, gA2, gA3, gA4, gA5, gA6]
        refine tkA 20 (v := ?_) ?_ ?_
        rotate_left
        · (intro w' hSw; clear hSw; go_simp; try rfl)
        try simp only [Act.put, gA1, gA2, gA3, gA4, gA5, gA6]
        refine wpAnyH_done (by kernel_rfl) ?_ _
        go_split_ands
        clear HKP HKP15
        have HX' : Hid (Below W.heap.size W ws) := Lib.hid (HX.out.trans ((hbS).mono HX.out.size))
        have HA' := Lib.hid (Bk.below HA.out (hbS))
        have HI' := Lib.hid (Bk.below HI.out (hbS))
        have HWo' := Lib.hid (Bk.below HWo.out (hbS))
        have HWm' := Lib.hid (Bk.below HWm.out (hbS))
        have HWq' := Lib.hid (HWq.out.below (hbS))
        have H2 := Lib.hid (H1.out.on (hbS) (Nat.le_trans H1.out.at'.lo.1 (Nat.le_of_lt H1.out.at'.lt)))
        clear hbS hbG hrd9
        clear HX HA HI HWo HWm HWq H1
        have HX := HX'
        have HA := HA'
        have HI := HI'
        have HWo := HWo'
        have HWm := HWm'
        have HWq := HWq'
        clear HX' HA' HI' HWo' HWm' HWq'
        obtain ⟨ei, gi⟩ := eqI_run i1 i2 i3 n3 n4 n5
        have HKP : Hid (∀ w', Below ws.heap.size ws w' → OtS (W.heap.size + 1) (W.heap.size + 1 + 1) wo wm [.int .i64 n0, .int .i64 n1, .int .i64 n2, .int .i64 n3, .int .i64 n4, .int .i64 n5, .int .i64 n6, .int .i64 n7, .int .i64 n8, .int .i64 n9, .int .i64 n10, .int .i64 n11, .int .i64 n12, .int .i64 n13, .int .i64 n14, .int .i64 n15, .string n16, .string n17, .int .i64 n18, .int .i64 n19, .int .i64 n20, .int .i64 n21, .slice ua M uc, .int .i64 n23, .slice a1 d1 c1, .slice a2 d2 c2, .slice a3 d3 c3] [.int .i64 i1, .int .i64 i2, .int .i64 i3] [.int .i64 q0, .int .i64 q1, .int .i64 q2, .int .i64 q3, .int .i64 q4, .int .i64 q5, .int .i64 q6, .int .i64 q7, .string q8, .string q9, .int .i64 q10, .int .i64 q11, .int .i64 q12, .int .i64 qs, .slice oa Q oc] [.int .i64 p0, .int .i64 p1, .int .i64 p2, .int .i64 p3, .int .i64 p4, .int .i64 p5, .int .i64 p6, .int .i64 p7, .string p8, .string p9, .int .i64 p10, .int .i64 p11, .int .i64 p12, .int .i64 ps, .slice ga P gc] w') := Lib.hid fun w' hb => ⟨Bk.below HA.out hb, Bk.below HI.out hb, Bk.below HWo.out hb, Bk.below HWm.out hb⟩
        by_cases hq : ((i1, i2, i3) : I3) = (n3, n4, n5)
        case pos =>
          rw [decide_eq_true hq] at ei
          go_wp2_with fail
          refine wp_region_held_drew (S := (OtS (W.heap.size + 1) (W.heap.size + 1 + 1) wo wm [.int .i64 n0, .int .i64 n1, .int .i64 n2, .int .i64 n3, .int .i64 n4, .int .i64 n5, .int .i64 n6, .int .i64 n7, .int .i64 n8, .int .i64 n9, .int .i64 n10, .int .i64 n11, .int .i64 n12, .int .i64 n13, .int .i64 n14, .int .i64 n15, .string n16, .string n17, .int .i64 n18, .int .i64 n19, .int .i64 n20, .int .i64 n21, .slice ua M uc, .int .i64 n23, .slice a1 d1 c1, .slice a2 d2 c2, .slice a3 d3 c3] [.int .i64 i1, .int .i64 i2, .int .i64 i3] [.int .i64 q0, .int .i64 q1, .int .i64 q2, .int .i64 q3, .int .i64 q4, .int .i64 q5, .int .i64 q6, .int .i64 q7, .string q8, .string q9, .int .i64 q10, .int .i64 q11, .int .i64 q12, .int .i64 qs, .slice oa Q oc] [.int .i64 p0, .int .i64 p1, .int .i64 p2, .int .i64 p3, .int .i64 p4, .int .i64 p5, .int .i64 p6, .int .i64 p7, .string p8, .string p9, .int .i64 p10, .int .i64 p11, .int .i64 p12, .int .i64 ps, .slice ga P gc])) (by kernel_rfl) ?_ (fun hHeld => ?_)
          · ((first
            | exact HKP.out _ hbS
            | exact HKP.out _ hbG
            | exact HKP.out _ (Below.refl ws.heap.size ws).drew
            | exact HKP.out _ (Below.refl _ _)
            | fail))
          refine tkA 0 (v := ?_) ?_ ?_
          rotate_left
          · (intro w' hSw; clear hSw; go_simp; try rfl)
          try simp only [Act.put, gA1, gA2, gA3, gA4, gA5, gA6]
          refine tkA 1 (v := ?_) ?_ ?_
          rotate_left
          · (intro w' hSw; clear hSw; go_simp; try rfl)
          try simp only [Act.put, gA1, gA2, gA3, gA4, gA5, gA6]
          refine tkA 2 (v := ?_) ?_ ?_
          rotate_left
          · (intro w' hSw; have e0 := Bk.cell hSw.id 0; have e1 := Bk.cell hSw.id 1; have e2 := Bk.cell hSw.id 2; simp only [List.getElem?_cons_zero, List.getElem?_cons_succ] at e0 e1 e2; clear hSw; go_simp; try rfl)
          try simp only [Act.put, gA1, gA2, gA3, gA4, gA5, gA6]
          refine tkA 3 (v := ?_) ?_ ?_
          rotate_left
          · (intro w' hSw; clear hSw; go_simp; try rfl)
          try simp only [Act.put, gA1, gA2, gA3, gA4, gA5, gA6]
          refine tkA 4 (v := ?_) ?_ ?_
          rotate_left
          · (intro w' hSw; have e3 := Bk.cell hSw.ms 3; have e4 := Bk.cell hSw.ms 4; have e5 := Bk.cell hSw.ms 5; simp only [List.getElem?_cons_zero, List.getElem?_cons_succ] at e3 e4 e5; clear hSw; go_simp; try rfl)
          try simp only [Act.put, gA1, gA2, gA3, gA4, gA5, gA6]
          refine tkA 5 (v := ?_) ?_ ?_
          rotate_left
          · (intro w' hSw; clear hSw; go_simp; try rfl)
          try simp only [Act.put, gA1, gA2, gA3, gA4, gA5, gA6]
          refine tkA 6 (v := ?_) ?_ ?_
          rotate_left
          · (intro w' hSw; clear hSw; go_simp; try rfl)
          try simp only [Act.put, gA1, gA2, gA3, gA4, gA5, gA6]
          refine utA 7 ?_
          try simp only [Act.put, gA1, gA2, gA3, gA4, gA5, gA6]
          refine utA 8 ?_
          try simp only [Act.put, gA1, gA2, gA3, gA4, gA5, gA6]
          refine utA 9 ?_
          try simp only [Act.put, gA1, gA2, gA3, gA4, gA5, gA6]
          refine utA 10 ?_
          try simp only [Act.put, gA1, gA2, gA3, gA4, gA5, gA6]
          refine utA 11 ?_
          try simp only [Act.put, gA1, gA2, gA3, gA4, gA5, gA6]
          refine tkA 12 (v := ?_) ?_ ?_
          rotate_left
          · (intro w' hSw; clear hSw; go_simp; try rfl)
          try simp only [Act.put, gA1, gA2, gA3, gA4, gA5, gA6]
          refine tkA 13 (v := ?_) ?_ ?_
          rotate_left
          · (intro w' hSw; clear hSw; go_simp; try rfl)
          try simp only [Act.put, gA1, gA2, gA3, gA4, gA5, gA6]
          refine tkA 14 (v := ?_) ?_ ?_
          rotate_left
          · (intro w' hSw; clear hSw; go_simp; try rfl)
          try simp only [Act.put, gA1, gA2, gA3, gA4, gA5, gA6]
          refine wpAnyH_done (by kernel_rfl) ?_ _
          go_split_ands
          have HXf : Hid (Below W.heap.size W ws.drew) := Lib.hid (HX.out.drew)
          clear HKP
          go_wp2
          go_ret
          exact ⟨rfl, HXf.out⟩

        case neg =>
          rw [decide_eq_false hq] at ei
          have hoth : getL b.l (i1, i2, i3) = ⟨q0, (q1, q2), (q3, q4), ⟨q5, q6, q7, q8, q9, q10, q11, q12⟩, (qs, ql)⟩ := HOth2.out hq
          have HGo : Hid (∀ w', Below ws.heap.size ws w' → Calls Tryz.prog 20 #[bP g, .agg #[.int .i64 i1, .int .i64 i2, .int .i64 i3]] w' (fun e w'' => ∃ gb gd, e = .returned (.agg #[.int .i64 q0, .int .i64 q1, .int .i64 q2, .int .i64 q3, .int .i64 q4, .int .i64 q5, .int .i64 q6, .int .i64 q7, .string q8, .string q9, .int .i64 q10, .int .i64 q11, .int .i64 q12, .int .i64 qs, .slice gb Q gd]) ∧ IK.Rd w'' (.slice gb Q gd) ql ∧ Below w'.heap.size w' w'')) := Lib.hid fun w' hb => by
            have q := get_in (H2.out.on hb (Nat.le_trans H2.out.at'.lo.1 (Nat.le_of_lt H2.out.at'.lt))) (by have := HKb.out; omega) HIO.out
            rw [hoth] at q
            refine q.mono fun e w'' ⟨v', he, ho, hb⟩ => ?_
            obtain ⟨gb, gd, hv⟩ := ho.slice
            simp only at hv ho
            rw [HQl.out] at hv
            subst hv
            exact ⟨gb, gd, he.out, ho.rd, hb⟩
          have HSo : Hid (∀ w' gb gd, Below ws.heap.size ws w' → IK.Rd w' (.slice gb Q gd) ql → Calls Tryz.prog 19 #[.agg #[.int .i64 q0, .int .i64 q1, .int .i64 q2, .int .i64 q3, .int .i64 q4, .int .i64 q5, .int .i64 q6, .int .i64 q7, .string q8, .string q9, .int .i64 q10, .int .i64 q11, .int .i64 q12, .int .i64 qs, .slice oa Q oc], .agg #[.int .i64 q0, .int .i64 q1, .int .i64 q2, .int .i64 q3, .int .i64 q4, .int .i64 q5, .int .i64 q6, .int .i64 q7, .string q8, .string q9, .int .i64 q10, .int .i64 q11, .int .i64 q12, .int .i64 qs, .slice gb Q gd]] w' (fun e w'' => e = .returned (.bool true) ∧ Below w'.heap.size w' w'')) := Lib.hid fun w' gb gd hb hr => by
            have q := sameI_any ⟨q0, (q1, q2), (q3, q4), ⟨q5, q6, q7, q8, q9, q10, q11, q12⟩, (qs, ql)⟩ (.slice oa Q oc) (.slice gb Q gd) w' (HWq.out.below hb) hr HQs.out
            simp only [inE] at q
            exact q
          go_wp2_with fail
          refine wp_region_held_drew (S := (OtS (W.heap.size + 1) (W.heap.size + 1 + 1) wo wm [.int .i64 n0, .int .i64 n1, .int .i64 n2, .int .i64 n3, .int .i64 n4, .int .i64 n5, .int .i64 n6, .int .i64 n7, .int .i64 n8, .int .i64 n9, .int .i64 n10, .int .i64 n11, .int .i64 n12, .int .i64 n13, .int .i64 n14, .int .i64 n15, .string n16, .string n17, .int .i64 n18, .int .i64 n19, .int .i64 n20, .int .i64 n21, .slice ua M uc, .int .i64 n23, .slice a1 d1 c1, .slice a2 d2 c2, .slice a3 d3 c3] [.int .i64 i1, .int .i64 i2, .int .i64 i3] [.int .i64 q0, .int .i64 q1, .int .i64 q2, .int .i64 q3, .int .i64 q4, .int .i64 q5, .int .i64 q6, .int .i64 q7, .string q8, .string q9, .int .i64 q10, .int .i64 q11, .int .i64 q12, .int .i64 qs, .slice oa Q oc] [.int .i64 p0, .int .i64 p1, .int .i64 p2, .int .i64 p3, .int .i64 p4, .int .i64 p5, .int .i64 p6, .int .i64 p7, .string p8, .string p9, .int .i64 p10, .int .i64 p11, .int .i64 p12, .int .i64 ps, .slice ga P gc])) (by kernel_rfl) ?_ (fun hHeld => ?_)
          · ((first
            | exact HKP.out _ hbS
            | exact HKP.out _ hbG
            | exact HKP.out _ (Below.refl ws.heap.size ws).drew
            | exact HKP.out _ (Below.refl _ _)
            | fail))
          refine tkA 0 (v := ?_) ?_ ?_
          rotate_left
          · (intro w' hSw; clear hSw; go_simp; try rfl)
          try simp only [Act.put, gA1, gA2, gA3, gA4, gA5, gA6]
          refine tkA 1 (v := ?_) ?_ ?_
          rotate_left
          · (intro w' hSw; clear hSw; go_simp; try rfl)
          try simp only [Act.put, gA1, gA2, gA3, gA4, gA5, gA6]
          refine tkA 2 (v := ?_) ?_ ?_
          rotate_left
          · (intro w' hSw; have e0 := Bk.cell hSw.id 0; have e1 := Bk.cell hSw.id 1; have e2 := Bk.cell hSw.id 2; simp only [List.getElem?_cons_zero, List.getElem?_cons_succ] at e0 e1 e2; clear hSw; go_simp; try rfl)
          try simp only [Act.put, gA1, gA2, gA3, gA4, gA5, gA6]
          refine tkA 3 (v := ?_) ?_ ?_
          rotate_left
          · (intro w' hSw; clear hSw; go_simp; try rfl)
          try simp only [Act.put, gA1, gA2, gA3, gA4, gA5, gA6]
          refine tkA 4 (v := ?_) ?_ ?_
          rotate_left
          · (intro w' hSw; have e3 := Bk.cell hSw.ms 3; have e4 := Bk.cell hSw.ms 4; have e5 := Bk.cell hSw.ms 5; simp only [List.getElem?_cons_zero, List.getElem?_cons_succ] at e3 e4 e5; clear hSw; go_simp; try rfl)
          try simp only [Act.put, gA1, gA2, gA3, gA4, gA5, gA6]
          refine tkA 5 (v := ?_) ?_ ?_
          rotate_left
          · (intro w' hSw; clear hSw; go_simp; try rfl)
          try simp only [Act.put, gA1, gA2, gA3, gA4, gA5, gA6]
          refine tkA 6 (v := ?_) ?_ ?_
          rotate_left
          · (intro w' hSw; clear hSw; go_simp; try rfl)
          try simp only [Act.put, gA1, gA2, gA3, gA4, gA5, gA6]
          refine tkA 7 (v := ?_) ?_ ?_
          rotate_left
          · (intro w' hSw; refine Eq.trans (load_rowS 48 (.tmp 14) (by rfl) wo (by rfl) 48 #[.int .i64 q0, .int .i64 q1, .int .i64 q2, .int .i64 q3, .int .i64 q4, .int .i64 q5, .int .i64 q6, .int .i64 q7, .string q8, .string q9, .int .i64 q10, .int .i64 q11, .int .i64 q12, .int .i64 qs, .slice oa Q oc] (0, 0) _ hSw.wo Tryz.underlying48 rfl infoIn) ?_; rfl)
          try simp only [Act.put, gA1, gA2, gA3, gA4, gA5, gA6]
          refine tkA 8 (v := ?_) ?_ ?_
          rotate_left
          · (intro w' hSw; clear hSw; go_simp; try rfl)
          try simp only [Act.put, gA1, gA2, gA3, gA4, gA5, gA6]
          refine tkA 9 (v := ?_) ?_ ?_
          rotate_left
          · (intro w' hSw; have e0 := Bk.cell hSw.id 0; have e1 := Bk.cell hSw.id 1; have e2 := Bk.cell hSw.id 2; simp only [List.getElem?_cons_zero, List.getElem?_cons_succ] at e0 e1 e2; clear hSw; go_simp; try rfl)
          try simp only [Act.put, gA1, gA2, gA3, gA4, gA5, gA6]
          refine wpAnyH_ready (rs := [10]) (by kernel_rfl) (by simp) ?_
          refine (AllReadyH.cons rfl (fun K hK => ?_) AllReadyH.nil)
          go_simp
          (go_at_call 20; refine (HGo.out _ (Below.refl ws.heap.size ws).drew).mono ?_; rintro e wg ⟨gb, gd, he, hrd9, hbq⟩; subst he; have hbG : Below ws.heap.size ws wg := (Below.refl ws.heap.size ws).drew.trans hbq; clear hbq)
          refine hK.out _ _ ?_ (fun hHeld => ?_)
          · ((first
            | exact HKP.out _ hbS
            | exact HKP.out _ hbG
            | exact HKP.out _ (Below.refl ws.heap.size ws).drew
            | exact HKP.out _ (Below.refl _ _)
            | fail))
          clear hK K
          try simp only [Act.put, gA1, gA2, gA3, gA4, gA5, gA6]
          refine wpAnyH_ready (rs := [11]) (by kernel_rfl) (by simp) ?_
          refine (AllReadyH.cons rfl (fun K hK => ?_) AllReadyH.nil)
          go_simp
          (go_at_call 19; refine (HSo.out wg gb gd hbG hrd9).mono ?_; rintro e wz ⟨rfl, hbq⟩; have hbS : Below ws.heap.size ws wz := hbG.trans (hbq.mono hbG.size); clear hbq)
          refine hK.out _ _ ?_ (fun hHeld => ?_)
          · ((first
            | exact HKP.out _ hbS
            | exact HKP.out _ hbG
            | exact HKP.out _ (Below.refl ws.heap.size ws).drew
            | exact HKP.out _ (Below.refl _ _)
            | fail))
          clear hK K
          try simp only [Act.put, gA1, gA2, gA3, gA4, gA5, gA6]
          refine tkA 12 (v := ?_) ?_ ?_
          rotate_left
          · (intro w' hSw; clear hSw; go_simp; try rfl)
          try simp only [Act.put, gA1, gA2, gA3, gA4, gA5, gA6]
          refine tkA 13 (v := ?_) ?_ ?_
          rotate_left
          · (intro w' hSw; clear hSw; go_simp; try rfl)
          try simp only [Act.put, gA1, gA2, gA3, gA4, gA5, gA6]
          refine tkA 14 (v := ?_) ?_ ?_
          rotate_left
          · (intro w' hSw; clear hSw; go_simp; try rfl)
          try simp only [Act.put, gA1, gA2, gA3, gA4, gA5, gA6]
          refine wpAnyH_done (by kernel_rfl) ?_ _
          go_split_ands
          have HXf : Hid (Below W.heap.size W wz) := Lib.hid (HX.out.trans (hbS.mono HX.out.size))
          clear HKP
          go_wp2
          go_ret
          exact ⟨rfl, HXf.out⟩
      | true =>
        rcases hah with ⟨_, rfl⟩ | ⟨M9, g9, u9, _, rfl, _, _, _⟩
        case inl =>
          have HKP := HKP15
          go_wp2_with fail
          refine wp_region_held_drew (S := (OtS (W.heap.size + 1) (W.heap.size + 1 + 1) wo wm [.int .i64 n0, .int .i64 n1, .int .i64 n2, .int .i64 n3, .int .i64 n4, .int .i64 n5, .int .i64 n6, .int .i64 n7, .int .i64 n8, .int .i64 n9, .int .i64 n10, .int .i64 n11, .int .i64 n12, .int .i64 n13, .int .i64 n14, .int .i64 n15, .string n16, .string n17, .int .i64 n18, .int .i64 n19, .int .i64 n20, .int .i64 n21, .slice ua M uc, .int .i64 n23, .slice a1 d1 c1, .slice a2 d2 c2, .slice a3 d3 c3] [.int .i64 i1, .int .i64 i2, .int .i64 i3] [.int .i64 q0, .int .i64 q1, .int .i64 q2, .int .i64 q3, .int .i64 q4, .int .i64 q5, .int .i64 q6, .int .i64 q7, .string q8, .string q9, .int .i64 q10, .int .i64 q11, .int .i64 q12, .int .i64 qs, .slice oa Q oc] [.int .i64 p0, .int .i64 p1, .int .i64 p2, .int .i64 p3, .int .i64 p4, .int .i64 p5, .int .i64 p6, .int .i64 p7, .string p8, .string p9, .int .i64 p10, .int .i64 p11, .int .i64 p12, .int .i64 ps, .slice ga P gc])) (by kernel_rfl) ?_ (fun hHeld => ?_)
          · ((first
            | exact HKP.out _ hbS
            | exact HKP.out _ hbG
            | exact HKP.out _ (Below.refl wy.heap.size wy).drew
            | exact HKP.out _ (Below.refl _ _)
            | fail))
          refine tkA 0 (v := ?_) ?_ ?_
          rotate_left
          · (intro w' hSw; clear hSw; go_simp; try rfl)
          try simp only [Act.put, gA1, gA2, gA3, gA4, gA5, gA6]
          refine tkA 1 (v := ?_) ?_ ?_
          rotate_left
          · (intro w' hSw; clear hSw; go_simp; try rfl)
          try simp only [Act.put, gA1, gA2, gA3, gA4, gA5, gA6]
          refine tkA 2 (v := ?_) ?_ ?_
          rotate_left
          · (intro w' hSw; clear hSw; go_simp; try rfl)
          try simp only [Act.put, gA1, gA2, gA3, gA4, gA5, gA6]
          refine utA 3 ?_
          try simp only [Act.put, gA1, gA2, gA3, gA4, gA5, gA6]
          refine utA 4 ?_
          try simp only [Act.put, gA1, gA2, gA3, gA4, gA5, gA6]
          refine utA 5 ?_
          try simp only [Act.put, gA1, gA2, gA3, gA4, gA5, gA6]
          refine utA 6 ?_
          try simp only [Act.put, gA1, gA2, gA3, gA4, gA5, gA6]
          refine utA 7 ?_
          try simp only [Act.put, gA1, gA2, gA3, gA4, gA5, gA6]
          refine utA 8 ?_
          try simp only [Act.put, gA1, gA2, gA3, gA4, gA5, gA6]
          refine utA 9 ?_
          try simp only [Act.put, gA1, gA2, gA3, gA4, gA5, gA6]
          refine utA 10 ?_
          try simp only [Act.put, gA1, gA2, gA3, gA4, gA5, gA6]
          refine utA 11 ?_
          try simp only [Act.put, gA1, gA2, gA3, gA4, gA5, gA6]
          refine utA 12 ?_
          try simp only [Act.put, gA1, gA2, gA3, gA4, gA5, gA6]
          refine utA 13 ?_
          try simp only [Act.put, gA1, gA2, gA3, gA4, gA5, gA6]
          refine utA 14 ?_
          try simp only [Act.put, gA1, gA2, gA3, gA4, gA5, gA6]
          refine tkA 15 (v := ?_) ?_ ?_
          rotate_left
          · (intro w' hSw; clear hSw; go_simp; try rfl)
          try simp only [Act.put, gA1, gA2, gA3, gA4, gA5, gA6]
          refine tkA 16 (v := ?_) ?_ ?_
          rotate_left
          · (intro w' hSw; clear hSw; go_simp; try rfl)
          try simp only [Act.put, gA1, gA2, gA3, gA4, gA5, gA6]
          refine tkA 17 (v := ?_) ?_ ?_
          rotate_left
          · (intro w' hSw; clear hSw; go_simp; try rfl)
          try simp only [Act.put, gA1, gA2, gA3, gA4, gA5, gA6]
          refine wpAnyH_ready (rs := [18]) (by kernel_rfl) (by simp) ?_
          refine (AllReadyH.cons rfl (fun K hK => ?_) AllReadyH.nil)
          go_simp
          refine hK.out _ _ ?_ (fun hHeld => ?_)
          · ((first
            | exact HKP.out _ hbS
            | exact HKP.out _ hbG
            | exact HKP.out _ (Below.refl wy.heap.size wy).drew
            | exact HKP.out _ (Below.refl _ _)
            | fail))
          clear hK K
          try simp only [Act.put, gA1, gA2, gA3, gA4, gA5, gA6]
          refine tkA 19 (v := ?_) ?_ ?_
          rotate_left
          · (intro w' hSw; clear hSw; go_simp; try rfl)
          try simp only [Act.put, gA1, gA2, gA3, gA4, gA5, gA6]
          refine tkA 20 (v := ?_) ?_ ?_
          rotate_left
          · (intro w' hSw; clear hSw; go_simp; try rfl)
          try simp only [Act.put, gA1, gA2, gA3, gA4, gA5, gA6]
          refine wpAnyH_done (by kernel_rfl) ?_ _
          go_split_ands
          clear HKP HKP15
          have HX' : Hid (Below W.heap.size W wy.drew) := Lib.hid (HX.out.trans (((Below.refl wy.heap.size wy).drew).mono HX.out.size))
          have HA' := Lib.hid (Bk.below HA.out ((Below.refl wy.heap.size wy).drew))
          have HI' := Lib.hid (Bk.below HI.out ((Below.refl wy.heap.size wy).drew))
          have HWo' := Lib.hid (Bk.below HWo.out ((Below.refl wy.heap.size wy).drew))
          have HWm' := Lib.hid (Bk.below HWm.out ((Below.refl wy.heap.size wy).drew))
          have HWq' := Lib.hid (HWq.out.below ((Below.refl wy.heap.size wy).drew))
          have H2 := Lib.hid (H1.out.on ((Below.refl wy.heap.size wy).drew) (Nat.le_trans H1.out.at'.lo.1 (Nat.le_of_lt H1.out.at'.lt)))
          generalize wy.drew = ws at *
          clear HX HA HI HWo HWm HWq H1
          have HX := HX'
          have HA := HA'
          have HI := HI'
          have HWo := HWo'
          have HWm := HWm'
          have HWq := HWq'
          clear HX' HA' HI' HWo' HWm' HWq'
          obtain ⟨ei, gi⟩ := eqI_run i1 i2 i3 n3 n4 n5
          have HKP : Hid (∀ w', Below ws.heap.size ws w' → OtS (W.heap.size + 1) (W.heap.size + 1 + 1) wo wm [.int .i64 n0, .int .i64 n1, .int .i64 n2, .int .i64 n3, .int .i64 n4, .int .i64 n5, .int .i64 n6, .int .i64 n7, .int .i64 n8, .int .i64 n9, .int .i64 n10, .int .i64 n11, .int .i64 n12, .int .i64 n13, .int .i64 n14, .int .i64 n15, .string n16, .string n17, .int .i64 n18, .int .i64 n19, .int .i64 n20, .int .i64 n21, .slice ua M uc, .int .i64 n23, .slice a1 d1 c1, .slice a2 d2 c2, .slice a3 d3 c3] [.int .i64 i1, .int .i64 i2, .int .i64 i3] [.int .i64 q0, .int .i64 q1, .int .i64 q2, .int .i64 q3, .int .i64 q4, .int .i64 q5, .int .i64 q6, .int .i64 q7, .string q8, .string q9, .int .i64 q10, .int .i64 q11, .int .i64 q12, .int .i64 qs, .slice oa Q oc] [.int .i64 p0, .int .i64 p1, .int .i64 p2, .int .i64 p3, .int .i64 p4, .int .i64 p5, .int .i64 p6, .int .i64 p7, .string p8, .string p9, .int .i64 p10, .int .i64 p11, .int .i64 p12, .int .i64 ps, .slice ga P gc] w') := Lib.hid fun w' hb => ⟨Bk.below HA.out hb, Bk.below HI.out hb, Bk.below HWo.out hb, Bk.below HWm.out hb⟩
          by_cases hq : ((i1, i2, i3) : I3) = (n3, n4, n5)
          case pos =>
            rw [decide_eq_true hq] at ei
            go_wp2_with fail
            refine wp_region_held_drew (S := (OtS (W.heap.size + 1) (W.heap.size + 1 + 1) wo wm [.int .i64 n0, .int .i64 n1, .int .i64 n2, .int .i64 n3, .int .i64 n4, .int .i64 n5, .int .i64 n6, .int .i64 n7, .int .i64 n8, .int .i64 n9, .int .i64 n10, .int .i64 n11, .int .i64 n12, .int .i64 n13, .int .i64 n14, .int .i64 n15, .string n16, .string n17, .int .i64 n18, .int .i64 n19, .int .i64 n20, .int .i64 n21, .slice ua M uc, .int .i64 n23, .slice a1 d1 c1, .slice a2 d2 c2, .slice a3 d3 c3] [.int .i64 i1, .int .i64 i2, .int .i64 i3] [.int .i64 q0, .int .i64 q1, .int .i64 q2, .int .i64 q3, .int .i64 q4, .int .i64 q5, .int .i64 q6, .int .i64 q7, .string q8, .string q9, .int .i64 q10, .int .i64 q11, .int .i64 q12, .int .i64 qs, .slice oa Q oc] [.int .i64 p0, .int .i64 p1, .int .i64 p2, .int .i64 p3, .int .i64 p4, .int .i64 p5, .int .i64 p6, .int .i64 p7, .string p8, .string p9, .int .i64 p10, .int .i64 p11, .int .i64 p12, .int .i64 ps, .slice ga P gc])) (by kernel_rfl) ?_ (fun hHeld => ?_)
            · ((first
              | exact HKP.out _ hbS
              | exact HKP.out _ hbG
              | exact HKP.out _ (Below.refl ws.heap.size ws).drew
              | exact HKP.out _ (Below.refl _ _)
              | fail))
            refine tkA 0 (v := ?_) ?_ ?_
            rotate_left
            · (intro w' hSw; clear hSw; go_simp; try rfl)
            try simp only [Act.put, gA1, gA2, gA3, gA4, gA5, gA6]
            refine tkA 1 (v := ?_) ?_ ?_
            rotate_left
            · (intro w' hSw; clear hSw; go_simp; try rfl)
            try simp only [Act.put, gA1, gA2, gA3, gA4, gA5, gA6]
            refine tkA 2 (v := ?_) ?_ ?_
            rotate_left
            · (intro w' hSw; have e0 := Bk.cell hSw.id 0; have e1 := Bk.cell hSw.id 1; have e2 := Bk.cell hSw.id 2; simp only [List.getElem?_cons_zero, List.getElem?_cons_succ] at e0 e1 e2; clear hSw; go_simp; try rfl)
            try simp only [Act.put, gA1, gA2, gA3, gA4, gA5, gA6]
            refine tkA 3 (v := ?_) ?_ ?_
            rotate_left
            · (intro w' hSw; clear hSw; go_simp; try rfl)
            try simp only [Act.put, gA1, gA2, gA3, gA4, gA5, gA6]
            refine tkA 4 (v := ?_) ?_ ?_
            rotate_left
            · (intro w' hSw; have e3 := Bk.cell hSw.ms 3; have e4 := Bk.cell hSw.ms 4; have e5 := Bk.cell hSw.ms 5; simp only [List.getElem?_cons_zero, List.getElem?_cons_succ] at e3 e4 e5; clear hSw; go_simp; try rfl)
            try simp only [Act.put, gA1, gA2, gA3, gA4, gA5, gA6]
            refine tkA 5 (v := ?_) ?_ ?_
            rotate_left
            · (intro w' hSw; clear hSw; go_simp; try rfl)
            try simp only [Act.put, gA1, gA2, gA3, gA4, gA5, gA6]
            refine tkA 6 (v := ?_) ?_ ?_
            rotate_left
            · (intro w' hSw; clear hSw; go_simp; try rfl)
            try simp only [Act.put, gA1, gA2, gA3, gA4, gA5, gA6]
            refine utA 7 ?_
            try simp only [Act.put, gA1, gA2, gA3, gA4, gA5, gA6]
            refine utA 8 ?_
            try simp only [Act.put, gA1, gA2, gA3, gA4, gA5, gA6]
            refine utA 9 ?_
            try simp only [Act.put, gA1, gA2, gA3, gA4, gA5, gA6]
            refine utA 10 ?_
            try simp only [Act.put, gA1, gA2, gA3, gA4, gA5, gA6]
            refine utA 11 ?_
            try simp only [Act.put, gA1, gA2, gA3, gA4, gA5, gA6]
            refine tkA 12 (v := ?_) ?_ ?_
            rotate_left
            · (intro w' hSw; clear hSw; go_simp; try rfl)
            try simp only [Act.put, gA1, gA2, gA3, gA4, gA5, gA6]
            refine tkA 13 (v := ?_) ?_ ?_
            rotate_left
            · (intro w' hSw; clear hSw; go_simp; try rfl)
            try simp only [Act.put, gA1, gA2, gA3, gA4, gA5, gA6]
            refine tkA 14 (v := ?_) ?_ ?_
            rotate_left
            · (intro w' hSw; clear hSw; go_simp; try rfl)
            try simp only [Act.put, gA1, gA2, gA3, gA4, gA5, gA6]
            refine wpAnyH_done (by kernel_rfl) ?_ _
            go_split_ands
            have HXf : Hid (Below W.heap.size W ws.drew) := Lib.hid (HX.out.drew)
            clear HKP
            go_wp2
            go_ret
            exact ⟨rfl, HXf.out⟩

          case neg =>
            rw [decide_eq_false hq] at ei
            have hoth : getL (hearB lclA b ⟨n0, n1, n2, (n3, n4, n5), (n6, n7), ⟨n8, (n9, n10), (n11, n12), ⟨n13, n14, n15, n16, n17, n18, n19, n20⟩, (n21, dl)⟩, sn0⟩).1.l (i1, i2, i3) = ⟨q0, (q1, q2), (q3, q4), ⟨q5, q6, q7, q8, q9, q10, q11, q12⟩, (qs, ql)⟩ := HOth.out hq
            have HGo : Hid (∀ w', Below ws.heap.size ws w' → Calls Tryz.prog 20 #[bP g, .agg #[.int .i64 i1, .int .i64 i2, .int .i64 i3]] w' (fun e w'' => ∃ gb gd, e = .returned (.agg #[.int .i64 q0, .int .i64 q1, .int .i64 q2, .int .i64 q3, .int .i64 q4, .int .i64 q5, .int .i64 q6, .int .i64 q7, .string q8, .string q9, .int .i64 q10, .int .i64 q11, .int .i64 q12, .int .i64 qs, .slice gb Q gd]) ∧ IK.Rd w'' (.slice gb Q gd) ql ∧ Below w'.heap.size w' w'')) := Lib.hid fun w' hb => by
              have q := get_in (H2.out.on hb (Nat.le_trans H2.out.at'.lo.1 (Nat.le_of_lt H2.out.at'.lt))) (by have := HKb.out; omega) HIO.out
              rw [hoth] at q
              refine q.mono fun e w'' ⟨v', he, ho, hb⟩ => ?_
              obtain ⟨gb, gd, hv⟩ := ho.slice
              simp only at hv ho
              rw [HQl.out] at hv
              subst hv
              exact ⟨gb, gd, he.out, ho.rd, hb⟩
            have HSo : Hid (∀ w' gb gd, Below ws.heap.size ws w' → IK.Rd w' (.slice gb Q gd) ql → Calls Tryz.prog 19 #[.agg #[.int .i64 q0, .int .i64 q1, .int .i64 q2, .int .i64 q3, .int .i64 q4, .int .i64 q5, .int .i64 q6, .int .i64 q7, .string q8, .string q9, .int .i64 q10, .int .i64 q11, .int .i64 q12, .int .i64 qs, .slice oa Q oc], .agg #[.int .i64 q0, .int .i64 q1, .int .i64 q2, .int .i64 q3, .int .i64 q4, .int .i64 q5, .int .i64 q6, .int .i64 q7, .string q8, .string q9, .int .i64 q10, .int .i64 q11, .int .i64 q12, .int .i64 qs, .slice gb Q gd]] w' (fun e w'' => e = .returned (.bool true) ∧ Below w'.heap.size w' w'')) := Lib.hid fun w' gb gd hb hr => by
              have q := sameI_any ⟨q0, (q1, q2), (q3, q4), ⟨q5, q6, q7, q8, q9, q10, q11, q12⟩, (qs, ql)⟩ (.slice oa Q oc) (.slice gb Q gd) w' (HWq.out.below hb) hr HQs.out
              simp only [inE] at q
              exact q
            go_wp2_with fail
            refine wp_region_held_drew (S := (OtS (W.heap.size + 1) (W.heap.size + 1 + 1) wo wm [.int .i64 n0, .int .i64 n1, .int .i64 n2, .int .i64 n3, .int .i64 n4, .int .i64 n5, .int .i64 n6, .int .i64 n7, .int .i64 n8, .int .i64 n9, .int .i64 n10, .int .i64 n11, .int .i64 n12, .int .i64 n13, .int .i64 n14, .int .i64 n15, .string n16, .string n17, .int .i64 n18, .int .i64 n19, .int .i64 n20, .int .i64 n21, .slice ua M uc, .int .i64 n23, .slice a1 d1 c1, .slice a2 d2 c2, .slice a3 d3 c3] [.int .i64 i1, .int .i64 i2, .int .i64 i3] [.int .i64 q0, .int .i64 q1, .int .i64 q2, .int .i64 q3, .int .i64 q4, .int .i64 q5, .int .i64 q6, .int .i64 q7, .string q8, .string q9, .int .i64 q10, .int .i64 q11, .int .i64 q12, .int .i64 qs, .slice oa Q oc] [.int .i64 p0, .int .i64 p1, .int .i64 p2, .int .i64 p3, .int .i64 p4, .int .i64 p5, .int .i64 p6, .int .i64 p7, .string p8, .string p9, .int .i64 p10, .int .i64 p11, .int .i64 p12, .int .i64 ps, .slice ga P gc])) (by kernel_rfl) ?_ (fun hHeld => ?_)
            · ((first
              | exact HKP.out _ hbS
              | exact HKP.out _ hbG
              | exact HKP.out _ (Below.refl ws.heap.size ws).drew
              | exact HKP.out _ (Below.refl _ _)
              | fail))
            refine tkA 0 (v := ?_) ?_ ?_
            rotate_left
            · (intro w' hSw; clear hSw; go_simp; try rfl)
            try simp only [Act.put, gA1, gA2, gA3, gA4, gA5, gA6]
            refine tkA 1 (v := ?_) ?_ ?_
            rotate_left
            · (intro w' hSw; clear hSw; go_simp; try rfl)
            try simp only [Act.put, gA1, gA2, gA3, gA4, gA5, gA6]
            refine tkA 2 (v := ?_) ?_ ?_
            rotate_left
            · (intro w' hSw; have e0 := Bk.cell hSw.id 0; have e1 := Bk.cell hSw.id 1; have e2 := Bk.cell hSw.id 2; simp only [List.getElem?_cons_zero, List.getElem?_cons_succ] at e0 e1 e2; clear hSw; go_simp; try rfl)
            try simp only [Act.put, gA1, gA2, gA3, gA4, gA5, gA6]
            refine tkA 3 (v := ?_) ?_ ?_
            rotate_left
            · (intro w' hSw; clear hSw; go_simp; try rfl)
            try simp only [Act.put, gA1, gA2, gA3, gA4, gA5, gA6]
            refine tkA 4 (v := ?_) ?_ ?_
            rotate_left
            · (intro w' hSw; have e3 := Bk.cell hSw.ms 3; have e4 := Bk.cell hSw.ms 4; have e5 := Bk.cell hSw.ms 5; simp only [List.getElem?_cons_zero, List.getElem?_cons_succ] at e3 e4 e5; clear hSw; go_simp; try rfl)
            try simp only [Act.put, gA1, gA2, gA3, gA4, gA5, gA6]
            refine tkA 5 (v := ?_) ?_ ?_
            rotate_left
            · (intro w' hSw; clear hSw; go_simp; try rfl)
            try simp only [Act.put, gA1, gA2, gA3, gA4, gA5, gA6]
            refine tkA 6 (v := ?_) ?_ ?_
            rotate_left
            · (intro w' hSw; clear hSw; go_simp; try rfl)
            try simp only [Act.put, gA1, gA2, gA3, gA4, gA5, gA6]
            refine tkA 7 (v := ?_) ?_ ?_
            rotate_left
            · (intro w' hSw; refine Eq.trans (load_rowS 48 (.tmp 14) (by rfl) wo (by rfl) 48 #[.int .i64 q0, .int .i64 q1, .int .i64 q2, .int .i64 q3, .int .i64 q4, .int .i64 q5, .int .i64 q6, .int .i64 q7, .string q8, .string q9, .int .i64 q10, .int .i64 q11, .int .i64 q12, .int .i64 qs, .slice oa Q oc] (0, 0) _ hSw.wo Tryz.underlying48 rfl infoIn) ?_; rfl)
            try simp only [Act.put, gA1, gA2, gA3, gA4, gA5, gA6]
            refine tkA 8 (v := ?_) ?_ ?_
            rotate_left
            · (intro w' hSw; clear hSw; go_simp; try rfl)
            try simp only [Act.put, gA1, gA2, gA3, gA4, gA5, gA6]
            refine tkA 9 (v := ?_) ?_ ?_
            rotate_left
            · (intro w' hSw; have e0 := Bk.cell hSw.id 0; have e1 := Bk.cell hSw.id 1; have e2 := Bk.cell hSw.id 2; simp only [List.getElem?_cons_zero, List.getElem?_cons_succ] at e0 e1 e2; clear hSw; go_simp; try rfl)
            try simp only [Act.put, gA1, gA2, gA3, gA4, gA5, gA6]
            refine wpAnyH_ready (rs := [10]) (by kernel_rfl) (by simp) ?_
            refine (AllReadyH.cons rfl (fun K hK => ?_) AllReadyH.nil)
            go_simp
            (go_at_call 20; refine (HGo.out _ (Below.refl ws.heap.size ws).drew).mono ?_; rintro e wg ⟨gb, gd, he, hrd9, hbq⟩; subst he; have hbG : Below ws.heap.size ws wg := (Below.refl ws.heap.size ws).drew.trans hbq; clear hbq)
            refine hK.out _ _ ?_ (fun hHeld => ?_)
            · ((first
              | exact HKP.out _ hbS
              | exact HKP.out _ hbG
              | exact HKP.out _ (Below.refl ws.heap.size ws).drew
              | exact HKP.out _ (Below.refl _ _)
              | fail))
            clear hK K
            try simp only [Act.put, gA1, gA2, gA3, gA4, gA5, gA6]
            refine wpAnyH_ready (rs := [11]) (by kernel_rfl) (by simp) ?_
            refine (AllReadyH.cons rfl (fun K hK => ?_) AllReadyH.nil)
            go_simp
            (go_at_call 19; refine (HSo.out wg gb gd hbG hrd9).mono ?_; rintro e wz ⟨rfl, hbq⟩; have hbS : Below ws.heap.size ws wz := hbG.trans (hbq.mono hbG.size); clear hbq)
            refine hK.out _ _ ?_ (fun hHeld => ?_)
            · ((first
              | exact HKP.out _ hbS
              | exact HKP.out _ hbG
              | exact HKP.out _ (Below.refl ws.heap.size ws).drew
              | exact HKP.out _ (Below.refl _ _)
              | fail))
            clear hK K
            try simp only [Act.put, gA1, gA2, gA3, gA4, gA5, gA6]
            refine tkA 12 (v := ?_) ?_ ?_
            rotate_left
            · (intro w' hSw; clear hSw; go_simp; try rfl)
            try simp only [Act.put, gA1, gA2, gA3, gA4, gA5, gA6]
            refine tkA 13 (v := ?_) ?_ ?_
            rotate_left
            · (intro w' hSw; clear hSw; go_simp; try rfl)
            try simp only [Act.put, gA1, gA2, gA3, gA4, gA5, gA6]
            refine tkA 14 (v := ?_) ?_ ?_
            rotate_left
            · (intro w' hSw; clear hSw; go_simp; try rfl)
            try simp only [Act.put, gA1, gA2, gA3, gA4, gA5, gA6]
            refine wpAnyH_done (by kernel_rfl) ?_ _
            go_split_ands
            have HXf : Hid (Below W.heap.size W wz) := Lib.hid (HX.out.trans (hbS.mono HX.out.size))
            clear HKP
            go_wp2
            go_ret
            exact ⟨rfl, HXf.out⟩
        case inr =>
          have HKP := HKP15
          go_wp2_with fail
          refine wp_region_held_drew (S := (OtS (W.heap.size + 1) (W.heap.size + 1 + 1) wo wm [.int .i64 n0, .int .i64 n1, .int .i64 n2, .int .i64 n3, .int .i64 n4, .int .i64 n5, .int .i64 n6, .int .i64 n7, .int .i64 n8, .int .i64 n9, .int .i64 n10, .int .i64 n11, .int .i64 n12, .int .i64 n13, .int .i64 n14, .int .i64 n15, .string n16, .string n17, .int .i64 n18, .int .i64 n19, .int .i64 n20, .int .i64 n21, .slice ua M uc, .int .i64 n23, .slice a1 d1 c1, .slice a2 d2 c2, .slice a3 d3 c3] [.int .i64 i1, .int .i64 i2, .int .i64 i3] [.int .i64 q0, .int .i64 q1, .int .i64 q2, .int .i64 q3, .int .i64 q4, .int .i64 q5, .int .i64 q6, .int .i64 q7, .string q8, .string q9, .int .i64 q10, .int .i64 q11, .int .i64 q12, .int .i64 qs, .slice oa Q oc] [.int .i64 p0, .int .i64 p1, .int .i64 p2, .int .i64 p3, .int .i64 p4, .int .i64 p5, .int .i64 p6, .int .i64 p7, .string p8, .string p9, .int .i64 p10, .int .i64 p11, .int .i64 p12, .int .i64 ps, .slice ga P gc])) (by kernel_rfl) ?_ (fun hHeld => ?_)
          · ((first
            | exact HKP.out _ hbS
            | exact HKP.out _ hbG
            | exact HKP.out _ (Below.refl wy.heap.size wy).drew
            | exact HKP.out _ (Below.refl _ _)
            | fail))
          refine tkA 0 (v := ?_) ?_ ?_
          rotate_left
          · (intro w' hSw; clear hSw; go_simp; try rfl)
          try simp only [Act.put, gA1, gA2, gA3, gA4, gA5, gA6]
          refine tkA 1 (v := ?_) ?_ ?_
          rotate_left
          · (intro w' hSw; clear hSw; go_simp; try rfl)
          try simp only [Act.put, gA1, gA2, gA3, gA4, gA5, gA6]
          refine tkA 2 (v := ?_) ?_ ?_
          rotate_left
          · (intro w' hSw; clear hSw; go_simp; try rfl)
          try simp only [Act.put, gA1, gA2, gA3, gA4, gA5, gA6]
          refine utA 3 ?_
          try simp only [Act.put, gA1, gA2, gA3, gA4, gA5, gA6]
          refine utA 4 ?_
          try simp only [Act.put, gA1, gA2, gA3, gA4, gA5, gA6]
          refine utA 5 ?_
          try simp only [Act.put, gA1, gA2, gA3, gA4, gA5, gA6]
          refine utA 6 ?_
          try simp only [Act.put, gA1, gA2, gA3, gA4, gA5, gA6]
          refine utA 7 ?_
          try simp only [Act.put, gA1, gA2, gA3, gA4, gA5, gA6]
          refine utA 8 ?_
          try simp only [Act.put, gA1, gA2, gA3, gA4, gA5, gA6]
          refine utA 9 ?_
          try simp only [Act.put, gA1, gA2, gA3, gA4, gA5, gA6]
          refine utA 10 ?_
          try simp only [Act.put, gA1, gA2, gA3, gA4, gA5, gA6]
          refine utA 11 ?_
          try simp only [Act.put, gA1, gA2, gA3, gA4, gA5, gA6]
          refine utA 12 ?_
          try simp only [Act.put, gA1, gA2, gA3, gA4, gA5, gA6]
          refine utA 13 ?_
          try simp only [Act.put, gA1, gA2, gA3, gA4, gA5, gA6]
          refine utA 14 ?_
          try simp only [Act.put, gA1, gA2, gA3, gA4, gA5, gA6]
          refine tkA 15 (v := ?_) ?_ ?_
          rotate_left
          · (intro w' hSw; clear hSw; go_simp; try rfl)
          try simp only [Act.put, gA1, gA2, gA3, gA4, gA5, gA6]
          refine tkA 16 (v := ?_) ?_ ?_
          rotate_left
          · (intro w' hSw; clear hSw; go_simp; try rfl)
          try simp only [Act.put, gA1, gA2, gA3, gA4, gA5, gA6]
          refine tkA 17 (v := ?_) ?_ ?_
          rotate_left
          · (intro w' hSw; clear hSw; go_simp; try rfl)
          try simp only [Act.put, gA1, gA2, gA3, gA4, gA5, gA6]
          refine wpAnyH_ready (rs := [18]) (by kernel_rfl) (by simp) ?_
          refine (AllReadyH.cons rfl (fun K hK => ?_) AllReadyH.nil)
          go_simp
          refine hK.out _ _ ?_ (fun hHeld => ?_)
          · ((first
            | exact HKP.out _ hbS
            | exact HKP.out _ hbG
            | exact HKP.out _ (Below.refl wy.heap.size wy).drew
            | exact HKP.out _ (Below.refl _ _)
            | fail))
          clear hK K
          try simp only [Act.put, gA1, gA2, gA3, gA4, gA5, gA6]
          refine tkA 19 (v := ?_) ?_ ?_
          rotate_left
          · (intro w' hSw; clear hSw; go_simp; try rfl)
          try simp only [Act.put, gA1, gA2, gA3, gA4, gA5, gA6]
          refine tkA 20 (v := ?_) ?_ ?_
          rotate_left
          · (intro w' hSw; clear hSw; go_simp; try rfl)
          try simp only [Act.put, gA1, gA2, gA3, gA4, gA5, gA6]
          refine wpAnyH_done (by kernel_rfl) ?_ _
          go_split_ands
          clear HKP HKP15
          have HX' : Hid (Below W.heap.size W wy.drew) := Lib.hid (HX.out.trans (((Below.refl wy.heap.size wy).drew).mono HX.out.size))
          have HA' := Lib.hid (Bk.below HA.out ((Below.refl wy.heap.size wy).drew))
          have HI' := Lib.hid (Bk.below HI.out ((Below.refl wy.heap.size wy).drew))
          have HWo' := Lib.hid (Bk.below HWo.out ((Below.refl wy.heap.size wy).drew))
          have HWm' := Lib.hid (Bk.below HWm.out ((Below.refl wy.heap.size wy).drew))
          have HWq' := Lib.hid (HWq.out.below ((Below.refl wy.heap.size wy).drew))
          have H2 := Lib.hid (H1.out.on ((Below.refl wy.heap.size wy).drew) (Nat.le_trans H1.out.at'.lo.1 (Nat.le_of_lt H1.out.at'.lt)))
          generalize wy.drew = ws at *
          clear HX HA HI HWo HWm HWq H1
          have HX := HX'
          have HA := HA'
          have HI := HI'
          have HWo := HWo'
          have HWm := HWm'
          have HWq := HWq'
          clear HX' HA' HI' HWo' HWm' HWq'
          obtain ⟨ei, gi⟩ := eqI_run i1 i2 i3 n3 n4 n5
          have HKP : Hid (∀ w', Below ws.heap.size ws w' → OtS (W.heap.size + 1) (W.heap.size + 1 + 1) wo wm [.int .i64 n0, .int .i64 n1, .int .i64 n2, .int .i64 n3, .int .i64 n4, .int .i64 n5, .int .i64 n6, .int .i64 n7, .int .i64 n8, .int .i64 n9, .int .i64 n10, .int .i64 n11, .int .i64 n12, .int .i64 n13, .int .i64 n14, .int .i64 n15, .string n16, .string n17, .int .i64 n18, .int .i64 n19, .int .i64 n20, .int .i64 n21, .slice ua M uc, .int .i64 n23, .slice a1 d1 c1, .slice a2 d2 c2, .slice a3 d3 c3] [.int .i64 i1, .int .i64 i2, .int .i64 i3] [.int .i64 q0, .int .i64 q1, .int .i64 q2, .int .i64 q3, .int .i64 q4, .int .i64 q5, .int .i64 q6, .int .i64 q7, .string q8, .string q9, .int .i64 q10, .int .i64 q11, .int .i64 q12, .int .i64 qs, .slice oa Q oc] [.int .i64 p0, .int .i64 p1, .int .i64 p2, .int .i64 p3, .int .i64 p4, .int .i64 p5, .int .i64 p6, .int .i64 p7, .string p8, .string p9, .int .i64 p10, .int .i64 p11, .int .i64 p12, .int .i64 ps, .slice ga P gc] w') := Lib.hid fun w' hb => ⟨Bk.below HA.out hb, Bk.below HI.out hb, Bk.below HWo.out hb, Bk.below HWm.out hb⟩
          by_cases hq : ((i1, i2, i3) : I3) = (n3, n4, n5)
          case pos =>
            rw [decide_eq_true hq] at ei
            go_wp2_with fail
            refine wp_region_held_drew (S := (OtS (W.heap.size + 1) (W.heap.size + 1 + 1) wo wm [.int .i64 n0, .int .i64 n1, .int .i64 n2, .int .i64 n3, .int .i64 n4, .int .i64 n5, .int .i64 n6, .int .i64 n7, .int .i64 n8, .int .i64 n9, .int .i64 n10, .int .i64 n11, .int .i64 n12, .int .i64 n13, .int .i64 n14, .int .i64 n15, .string n16, .string n17, .int .i64 n18, .int .i64 n19, .int .i64 n20, .int .i64 n21, .slice ua M uc, .int .i64 n23, .slice a1 d1 c1, .slice a2 d2 c2, .slice a3 d3 c3] [.int .i64 i1, .int .i64 i2, .int .i64 i3] [.int .i64 q0, .int .i64 q1, .int .i64 q2, .int .i64 q3, .int .i64 q4, .int .i64 q5, .int .i64 q6, .int .i64 q7, .string q8, .string q9, .int .i64 q10, .int .i64 q11, .int .i64 q12, .int .i64 qs, .slice oa Q oc] [.int .i64 p0, .int .i64 p1, .int .i64 p2, .int .i64 p3, .int .i64 p4, .int .i64 p5, .int .i64 p6, .int .i64 p7, .string p8, .string p9, .int .i64 p10, .int .i64 p11, .int .i64 p12, .int .i64 ps, .slice ga P gc])) (by kernel_rfl) ?_ (fun hHeld => ?_)
            · ((first
              | exact HKP.out _ hbS
              | exact HKP.out _ hbG
              | exact HKP.out _ (Below.refl ws.heap.size ws).drew
              | exact HKP.out _ (Below.refl _ _)
              | fail))
            refine tkA 0 (v := ?_) ?_ ?_
            rotate_left
            · (intro w' hSw; clear hSw; go_simp; try rfl)
            try simp only [Act.put, gA1, gA2, gA3, gA4, gA5, gA6]
            refine tkA 1 (v := ?_) ?_ ?_
            rotate_left
            · (intro w' hSw; clear hSw; go_simp; try rfl)
            try simp only [Act.put, gA1, gA2, gA3, gA4, gA5, gA6]
            refine tkA 2 (v := ?_) ?_ ?_
            rotate_left
            · (intro w' hSw; have e0 := Bk.cell hSw.id 0; have e1 := Bk.cell hSw.id 1; have e2 := Bk.cell hSw.id 2; simp only [List.getElem?_cons_zero, List.getElem?_cons_succ] at e0 e1 e2; clear hSw; go_simp; try rfl)
            try simp only [Act.put, gA1, gA2, gA3, gA4, gA5, gA6]
            refine tkA 3 (v := ?_) ?_ ?_
            rotate_left
            · (intro w' hSw; clear hSw; go_simp; try rfl)
            try simp only [Act.put, gA1, gA2, gA3, gA4, gA5, gA6]
            refine tkA 4 (v := ?_) ?_ ?_
            rotate_left
            · (intro w' hSw; have e3 := Bk.cell hSw.ms 3; have e4 := Bk.cell hSw.ms 4; have e5 := Bk.cell hSw.ms 5; simp only [List.getElem?_cons_zero, List.getElem?_cons_succ] at e3 e4 e5; clear hSw; go_simp; try rfl)
            try simp only [Act.put, gA1, gA2, gA3, gA4, gA5, gA6]
            refine tkA 5 (v := ?_) ?_ ?_
            rotate_left
            · (intro w' hSw; clear hSw; go_simp; try rfl)
            try simp only [Act.put, gA1, gA2, gA3, gA4, gA5, gA6]
            refine tkA 6 (v := ?_) ?_ ?_
            rotate_left
            · (intro w' hSw; clear hSw; go_simp; try rfl)
            try simp only [Act.put, gA1, gA2, gA3, gA4, gA5, gA6]
            refine utA 7 ?_
            try simp only [Act.put, gA1, gA2, gA3, gA4, gA5, gA6]
            refine utA 8 ?_
            try simp only [Act.put, gA1, gA2, gA3, gA4, gA5, gA6]
            refine utA 9 ?_
            try simp only [Act.put, gA1, gA2, gA3, gA4, gA5, gA6]
            refine utA 10 ?_
            try simp only [Act.put, gA1, gA2, gA3, gA4, gA5, gA6]
            refine utA 11 ?_
            try simp only [Act.put, gA1, gA2, gA3, gA4, gA5, gA6]
            refine tkA 12 (v := ?_) ?_ ?_
            rotate_left
            · (intro w' hSw; clear hSw; go_simp; try rfl)
            try simp only [Act.put, gA1, gA2, gA3, gA4, gA5, gA6]
            refine tkA 13 (v := ?_) ?_ ?_
            rotate_left
            · (intro w' hSw; clear hSw; go_simp; try rfl)
            try simp only [Act.put, gA1, gA2, gA3, gA4, gA5, gA6]
            refine tkA 14 (v := ?_) ?_ ?_
            rotate_left
            · (intro w' hSw; clear hSw; go_simp; try rfl)
            try simp only [Act.put, gA1, gA2, gA3, gA4, gA5, gA6]
            refine wpAnyH_done (by kernel_rfl) ?_ _
            go_split_ands
            have HXf : Hid (Below W.heap.size W ws.drew) := Lib.hid (HX.out.drew)
            clear HKP
            go_wp2
            go_ret
            exact ⟨rfl, HXf.out⟩

          case neg =>
            rw [decide_eq_false hq] at ei
            have hoth : getL (hearB lclA b ⟨n0, n1, n2, (n3, n4, n5), (n6, n7), ⟨n8, (n9, n10), (n11, n12), ⟨n13, n14, n15, n16, n17, n18, n19, n20⟩, (n21, dl)⟩, sn0⟩).1.l (i1, i2, i3) = ⟨q0, (q1, q2), (q3, q4), ⟨q5, q6, q7, q8, q9, q10, q11, q12⟩, (qs, ql)⟩ := HOth.out hq
            have HGo : Hid (∀ w', Below ws.heap.size ws w' → Calls Tryz.prog 20 #[bP g, .agg #[.int .i64 i1, .int .i64 i2, .int .i64 i3]] w' (fun e w'' => ∃ gb gd, e = .returned (.agg #[.int .i64 q0, .int .i64 q1, .int .i64 q2, .int .i64 q3, .int .i64 q4, .int .i64 q5, .int .i64 q6, .int .i64 q7, .string q8, .string q9, .int .i64 q10, .int .i64 q11, .int .i64 q12, .int .i64 qs, .slice gb Q gd]) ∧ IK.Rd w'' (.slice gb Q gd) ql ∧ Below w'.heap.size w' w'')) := Lib.hid fun w' hb => by
              have q := get_in (H2.out.on hb (Nat.le_trans H2.out.at'.lo.1 (Nat.le_of_lt H2.out.at'.lt))) (by have := HKb.out; omega) HIO.out
              rw [hoth] at q
              refine q.mono fun e w'' ⟨v', he, ho, hb⟩ => ?_
              obtain ⟨gb, gd, hv⟩ := ho.slice
              simp only at hv ho
              rw [HQl.out] at hv
              subst hv
              exact ⟨gb, gd, he.out, ho.rd, hb⟩
            have HSo : Hid (∀ w' gb gd, Below ws.heap.size ws w' → IK.Rd w' (.slice gb Q gd) ql → Calls Tryz.prog 19 #[.agg #[.int .i64 q0, .int .i64 q1, .int .i64 q2, .int .i64 q3, .int .i64 q4, .int .i64 q5, .int .i64 q6, .int .i64 q7, .string q8, .string q9, .int .i64 q10, .int .i64 q11, .int .i64 q12, .int .i64 qs, .slice oa Q oc], .agg #[.int .i64 q0, .int .i64 q1, .int .i64 q2, .int .i64 q3, .int .i64 q4, .int .i64 q5, .int .i64 q6, .int .i64 q7, .string q8, .string q9, .int .i64 q10, .int .i64 q11, .int .i64 q12, .int .i64 qs, .slice gb Q gd]] w' (fun e w'' => e = .returned (.bool true) ∧ Below w'.heap.size w' w'')) := Lib.hid fun w' gb gd hb hr => by
              have q := sameI_any ⟨q0, (q1, q2), (q3, q4), ⟨q5, q6, q7, q8, q9, q10, q11, q12⟩, (qs, ql)⟩ (.slice oa Q oc) (.slice gb Q gd) w' (HWq.out.below hb) hr HQs.out
              simp only [inE] at q
              exact q
            go_wp2_with fail
            refine wp_region_held_drew (S := (OtS (W.heap.size + 1) (W.heap.size + 1 + 1) wo wm [.int .i64 n0, .int .i64 n1, .int .i64 n2, .int .i64 n3, .int .i64 n4, .int .i64 n5, .int .i64 n6, .int .i64 n7, .int .i64 n8, .int .i64 n9, .int .i64 n10, .int .i64 n11, .int .i64 n12, .int .i64 n13, .int .i64 n14, .int .i64 n15, .string n16, .string n17, .int .i64 n18, .int .i64 n19, .int .i64 n20, .int .i64 n21, .slice ua M uc, .int .i64 n23, .slice a1 d1 c1, .slice a2 d2 c2, .slice a3 d3 c3] [.int .i64 i1, .int .i64 i2, .int .i64 i3] [.int .i64 q0, .int .i64 q1, .int .i64 q2, .int .i64 q3, .int .i64 q4, .int .i64 q5, .int .i64 q6, .int .i64 q7, .string q8, .string q9, .int .i64 q10, .int .i64 q11, .int .i64 q12, .int .i64 qs, .slice oa Q oc] [.int .i64 p0, .int .i64 p1, .int .i64 p2, .int .i64 p3, .int .i64 p4, .int .i64 p5, .int .i64 p6, .int .i64 p7, .string p8, .string p9, .int .i64 p10, .int .i64 p11, .int .i64 p12, .int .i64 ps, .slice ga P gc])) (by kernel_rfl) ?_ (fun hHeld => ?_)
            · ((first
              | exact HKP.out _ hbS
              | exact HKP.out _ hbG
              | exact HKP.out _ (Below.refl ws.heap.size ws).drew
              | exact HKP.out _ (Below.refl _ _)
              | fail))
            refine tkA 0 (v := ?_) ?_ ?_
            rotate_left
            · (intro w' hSw; clear hSw; go_simp; try rfl)
            try simp only [Act.put, gA1, gA2, gA3, gA4, gA5, gA6]
            refine tkA 1 (v := ?_) ?_ ?_
            rotate_left
            · (intro w' hSw; clear hSw; go_simp; try rfl)
            try simp only [Act.put, gA1, gA2, gA3, gA4, gA5, gA6]
            refine tkA 2 (v := ?_) ?_ ?_
            rotate_left
            · (intro w' hSw; have e0 := Bk.cell hSw.id 0; have e1 := Bk.cell hSw.id 1; have e2 := Bk.cell hSw.id 2; simp only [List.getElem?_cons_zero, List.getElem?_cons_succ] at e0 e1 e2; clear hSw; go_simp; try rfl)
            try simp only [Act.put, gA1, gA2, gA3, gA4, gA5, gA6]
            refine tkA 3 (v := ?_) ?_ ?_
            rotate_left
            · (intro w' hSw; clear hSw; go_simp; try rfl)
            try simp only [Act.put, gA1, gA2, gA3, gA4, gA5, gA6]
            refine tkA 4 (v := ?_) ?_ ?_
            rotate_left
            · (intro w' hSw; have e3 := Bk.cell hSw.ms 3; have e4 := Bk.cell hSw.ms 4; have e5 := Bk.cell hSw.ms 5; simp only [List.getElem?_cons_zero, List.getElem?_cons_succ] at e3 e4 e5; clear hSw; go_simp; try rfl)
            try simp only [Act.put, gA1, gA2, gA3, gA4, gA5, gA6]
            refine tkA 5 (v := ?_) ?_ ?_
            rotate_left
            · (intro w' hSw; clear hSw; go_simp; try rfl)
            try simp only [Act.put, gA1, gA2, gA3, gA4, gA5, gA6]
            refine tkA 6 (v := ?_) ?_ ?_
            rotate_left
            · (intro w' hSw; clear hSw; go_simp; try rfl)
            try simp only [Act.put, gA1, gA2, gA3, gA4, gA5, gA6]
            refine tkA 7 (v := ?_) ?_ ?_
            rotate_left
            · (intro w' hSw; refine Eq.trans (load_rowS 48 (.tmp 14) (by rfl) wo (by rfl) 48 #[.int .i64 q0, .int .i64 q1, .int .i64 q2, .int .i64 q3, .int .i64 q4, .int .i64 q5, .int .i64 q6, .int .i64 q7, .string q8, .string q9, .int .i64 q10, .int .i64 q11, .int .i64 q12, .int .i64 qs, .slice oa Q oc] (0, 0) _ hSw.wo Tryz.underlying48 rfl infoIn) ?_; rfl)
            try simp only [Act.put, gA1, gA2, gA3, gA4, gA5, gA6]
            refine tkA 8 (v := ?_) ?_ ?_
            rotate_left
            · (intro w' hSw; clear hSw; go_simp; try rfl)
            try simp only [Act.put, gA1, gA2, gA3, gA4, gA5, gA6]
            refine tkA 9 (v := ?_) ?_ ?_
            rotate_left
            · (intro w' hSw; have e0 := Bk.cell hSw.id 0; have e1 := Bk.cell hSw.id 1; have e2 := Bk.cell hSw.id 2; simp only [List.getElem?_cons_zero, List.getElem?_cons_succ] at e0 e1 e2; clear hSw; go_simp; try rfl)
            try simp only [Act.put, gA1, gA2, gA3, gA4, gA5, gA6]
            refine wpAnyH_ready (rs := [10]) (by kernel_rfl) (by simp) ?_
            refine (AllReadyH.cons rfl (fun K hK => ?_) AllReadyH.nil)
            go_simp
            (go_at_call 20; refine (HGo.out _ (Below.refl ws.heap.size ws).drew).mono ?_; rintro e wg ⟨gb, gd, he, hrd9, hbq⟩; subst he; have hbG : Below ws.heap.size ws wg := (Below.refl ws.heap.size ws).drew.trans hbq; clear hbq)
            refine hK.out _ _ ?_ (fun hHeld => ?_)
            · ((first
              | exact HKP.out _ hbS
              | exact HKP.out _ hbG
              | exact HKP.out _ (Below.refl ws.heap.size ws).drew
              | exact HKP.out _ (Below.refl _ _)
              | fail))
            clear hK K
            try simp only [Act.put, gA1, gA2, gA3, gA4, gA5, gA6]
            refine wpAnyH_ready (rs := [11]) (by kernel_rfl) (by simp) ?_
            refine (AllReadyH.cons rfl (fun K hK => ?_) AllReadyH.nil)
            go_simp
            (go_at_call 19; refine (HSo.out wg gb gd hbG hrd9).mono ?_; rintro e wz ⟨rfl, hbq⟩; have hbS : Below ws.heap.size ws wz := hbG.trans (hbq.mono hbG.size); clear hbq)
            refine hK.out _ _ ?_ (fun hHeld => ?_)
            · ((first
              | exact HKP.out _ hbS
              | exact HKP.out _ hbG
              | exact HKP.out _ (Below.refl ws.heap.size ws).drew
              | exact HKP.out _ (Below.refl _ _)
              | fail))
            clear hK K
            try simp only [Act.put, gA1, gA2, gA3, gA4, gA5, gA6]
            refine tkA 12 (v := ?_) ?_ ?_
            rotate_left
            · (intro w' hSw; clear hSw; go_simp; try rfl)
            try simp only [Act.put, gA1, gA2, gA3, gA4, gA5, gA6]
            refine tkA 13 (v := ?_) ?_ ?_
            rotate_left
            · (intro w' hSw; clear hSw; go_simp; try rfl)
            try simp only [Act.put, gA1, gA2, gA3, gA4, gA5, gA6]
            refine tkA 14 (v := ?_) ?_ ?_
            rotate_left
            · (intro w' hSw; clear hSw; go_simp; try rfl)
            try simp only [Act.put, gA1, gA2, gA3, gA4, gA5, gA6]
            refine wpAnyH_done (by kernel_rfl) ?_ _
            go_split_ands
            have HXf : Hid (Below W.heap.size W wz) := Lib.hid (HX.out.trans (hbS.mono HX.out.size))
            clear HKP
            go_wp2
            go_ret
            exact ⟨rfl, HXf.out⟩
end Go.Proofs.YtchhcaoondfpiaaGreat
