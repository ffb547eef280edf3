/-
  Package accept's laws: AcceptAgain.
-/
import Derived.Test.YtchhcaoondfpiaaGreatAcL2
import Derived.Test.YtchhcaoondfpiaaGreatAcS2
namespace Go.Proofs.YtchhcaoondfpiaaGreat
open Go.RowKit Go.Sort
open Go.WideMaps
set_option linter.unusedSimpArgs false
set_option linter.unusedVariables false
set_option maxRecDepth 100000

set_option maxHeartbeats 16000000 in
theorem again_law (nd : Int) (ep : Int) (ao : Option Addr) (co : Nat) (zs : List Int) (x : Mg) (v2 v3 : Value) (rs : List (Cls 27)) (l : List Mg) (W : World) (hr : It W (.slice ao zs.length co) zs) (hl : RowIs KM msS W v2 rs l) (hm : MsgIs W v3 x) (hml : Tc.ML W) :
    Calls Tryz.prog 8 #[.int .i64 nd, .agg #[.int .i64 ep, .slice ao zs.length co], v2, v3] W fun e w' => e = .returned (.bool true) ∧ Below W.heap.size W w' := by
  have HOl := Lib.hid hl
  obtain ⟨a2', c2', e2'⟩ := rowSl hl
  subst e2'
  have HMI := Lib.hid hm
  have HMV := Lib.hid hm.mga
  obtain ⟨ua, uc, a1, d1, c1, a2, d2, c2, a3, d3, c3, rfl, hrd, hokl, hid⟩ := hm.mga
  obtain ⟨n0, n1, n2, ⟨n3, n4, n5⟩, ⟨n6, n7⟩, ⟨n8, ⟨n9, n10⟩, ⟨n11, n12⟩, ⟨n13, n14, n15, n16, n17, n18, n19, n20⟩, n21, dl⟩, sn0⟩ := x
  obtain ⟨n23, sn1⟩ : ∃ q, sn0.1.1 = q := ⟨_, rfl⟩
  obtain ⟨M, hM⟩ : ∃ M, dl.length = M := ⟨_, rfl⟩
  have HMl := Lib.hid hM
  simp only at hrd hokl hid
  have HMk : Hid (∀ (k : Int) w', Below W.heap.size W w' → MgA w' (.agg #[.int .i64 k, .int .i64 n1, .int .i64 n2, .int .i64 n3, .int .i64 n4, .int .i64 n5, .int .i64 n6, .int .i64 n7, .int .i64 n8, .int .i64 n9, .int .i64 n10, .int .i64 n11, .int .i64 n12, .int .i64 n13, .int .i64 n14, .int .i64 n15, .string n16, .string n17, .int .i64 n18, .int .i64 n19, .int .i64 n20, .int .i64 n21, .slice ua M uc, .int .i64 n23, .slice a1 d1 c1, .slice a2 d2 c2, .slice a3 d3 c3]) ⟨k, n1, n2, (n3, n4, n5), (n6, n7), ⟨n8, (n9, n10), (n11, n12), ⟨n13, n14, n15, n16, n17, n18, n19, n20⟩, (n21, dl)⟩, sn0⟩) := Lib.hid fun k w' hb => ⟨ua, uc, a1, d1, c1, a2, d2, c2, a3, d3, c3, by simp only [msE, inE, snV, sn1, List.cons_append, List.nil_append]; rw [hM], hrd.below hb, hokl, hid⟩
  simp only [msE, inE, snV, hM, sn1, List.cons_append, List.nil_append] at hrd HMI HMV ⊢
  have HOKD := Lib.hid hokl
  have HID1 : Hid (okI (n3, n4, n5)) := Lib.hid hid
  clear hM sn1 hm hrd hokl hid
  obtain ⟨K, hK⟩ : ∃ K, l.length = K := ⟨_, rfl⟩
  have hlen := hl.rd.len
  rw [hl.len, hK] at hlen
  have hK63 : K ≤ 9223372036854775807 := by unfold maxLen at hlen; omega
  obtain ⟨N, hN⟩ : ∃ N, zs.length = N := ⟨_, rfl⟩
  have hN63 := hr.len
  rw [hK] at HOl hl ⊢
  rw [hN] at hN63 ⊢
  have HR := Lib.hid hl
  have HK := Lib.hid hK
  have HN' := Lib.hid hN
  have HIt := Lib.hid hr
  have HML := Lib.hid hml
  obtain ⟨X0, hX0⟩ : ∃ X0, ((W.alloc (.cells #[.int .i64 ep, .slice ao N co] 24)).alloc (.cells #[.int .i64 n0, .int .i64 n1, .int .i64 n2, .int .i64 n3, .int .i64 n4, .int .i64 n5, .int .i64 n6, .int .i64 n7, .int .i64 n8, .int .i64 n9, .int .i64 n10, .int .i64 n11, .int .i64 n12, .int .i64 n13, .int .i64 n14, .int .i64 n15, .string n16, .string n17, .int .i64 n18, .int .i64 n19, .int .i64 n20, .int .i64 n21, .slice ua M uc, .int .i64 n23, .slice a1 d1 c1, .slice a2 d2 c2, .slice a3 d3 c3] 54)) = X0 := ⟨_, rfl⟩
  have HB0 : Hid (Bk X0 (W.heap.size) 24 [.int .i64 ep, .slice ao N co]) := Lib.hid (by rw [← hX0]; exact (Bk.newA (by simp) _ [.int .i64 ep, .slice ao N co]).old _)
  have HB1 : Hid (Bk X0 (W.heap.size + 1) 54 [.int .i64 n0, .int .i64 n1, .int .i64 n2, .int .i64 n3, .int .i64 n4, .int .i64 n5, .int .i64 n6, .int .i64 n7, .int .i64 n8, .int .i64 n9, .int .i64 n10, .int .i64 n11, .int .i64 n12, .int .i64 n13, .int .i64 n14, .int .i64 n15, .string n16, .string n17, .int .i64 n18, .int .i64 n19, .int .i64 n20, .int .i64 n21, .slice ua M uc, .int .i64 n23, .slice a1 d1 c1, .slice a2 d2 c2, .slice a3 d3 c3]) := Lib.hid (by rw [← hX0]; exact Bk.newA (by simp) _ [.int .i64 n0, .int .i64 n1, .int .i64 n2, .int .i64 n3, .int .i64 n4, .int .i64 n5, .int .i64 n6, .int .i64 n7, .int .i64 n8, .int .i64 n9, .int .i64 n10, .int .i64 n11, .int .i64 n12, .int .i64 n13, .int .i64 n14, .int .i64 n15, .string n16, .string n17, .int .i64 n18, .int .i64 n19, .int .i64 n20, .int .i64 n21, .slice ua M uc, .int .i64 n23, .slice a1 d1 c1, .slice a2 d2 c2, .slice a3 d3 c3])
  have HX : Hid (Below W.heap.size W X0) := Lib.hid (by rw [← hX0]; exact ((Below.refl _ _).alloc (by simp <;> omega) _).alloc (by simp <;> omega) _)
  have HZ0 : Hid (X0.heap.size = W.heap.size + 1 + 1) := Lib.hid (by rw [← hX0]; simp)
  have HWk := Lib.hid (works_any X0 (hml.below HX.out))
  have HOv2 : Hid (∀ V : World, Below W.heap.size W V → ∀ g, V.heap.size = g → Calls Tryz.prog 12 #[.slice (some ⟨g, 0, none⟩) 1 1] (V.alloc (.cells #[.int .i64 n0, .int .i64 n1, .int .i64 n2, .int .i64 n3, .int .i64 n4, .int .i64 n5, .int .i64 n6, .int .i64 n7, .int .i64 n8, .int .i64 n9, .int .i64 n10, .int .i64 n11, .int .i64 n12, .int .i64 n13, .int .i64 n14, .int .i64 n15, .string n16, .string n17, .int .i64 n18, .int .i64 n19, .int .i64 n20, .int .i64 n21, .slice ua M uc, .int .i64 n23, .slice a1 d1 c1, .slice a2 d2 c2, .slice a3 d3 c3] 54)) (OvA [⟨n0, n1, n2, (n3, n4, n5), (n6, n7), ⟨n8, (n9, n10), (n11, n12), ⟨n13, n14, n15, n16, n17, n18, n19, n20⟩, (n21, dl)⟩, sn0⟩] (V.alloc (.cells #[.int .i64 n0, .int .i64 n1, .int .i64 n2, .int .i64 n3, .int .i64 n4, .int .i64 n5, .int .i64 n6, .int .i64 n7, .int .i64 n8, .int .i64 n9, .int .i64 n10, .int .i64 n11, .int .i64 n12, .int .i64 n13, .int .i64 n14, .int .i64 n15, .string n16, .string n17, .int .i64 n18, .int .i64 n19, .int .i64 n20, .int .i64 n21, .slice ua M uc, .int .i64 n23, .slice a1 d1 c1, .slice a2 d2 c2, .slice a3 d3 c3] 54)))) := Lib.hid fun V hV g hg => overA1_any (cs := #[.int .i64 n0, .int .i64 n1, .int .i64 n2, .int .i64 n3, .int .i64 n4, .int .i64 n5, .int .i64 n6, .int .i64 n7, .int .i64 n8, .int .i64 n9, .int .i64 n10, .int .i64 n11, .int .i64 n12, .int .i64 n13, .int .i64 n14, .int .i64 n15, .string n16, .string n17, .int .i64 n18, .int .i64 n19, .int .i64 n20, .int .i64 n21, .slice ua M uc, .int .i64 n23, .slice a1 d1 c1, .slice a2 d2 c2, .slice a3 d3 c3]) (HMI.out.on hV) g hg
  clear hr hl hlen hml HMI
  go_enter Tryz.func8, Tryz.ntmps8
  go_wp2_with fail
  try rw [hX0]
  refine HWk.out.mono ?_
  rintro e w1 ⟨rfl, hb⟩
  have HX1 := Lib.hid hb
  have HX' := Lib.hid (HX.out.trans (hb.mono HX.out.size))
  clear hb HX
  have HX := HX'
  clear HX'
  clear hX0 HWk
  go_wp2_with fail
  refine (overA_any _ rs l w1 (HOl.out.on HX.out)).mono ?_
  rintro e w2 ⟨R, he, hR, hb⟩
  rw [he.out]
  have HX2 : Hid (Below X0.heap.size X0 w2) := Lib.hid (HX1.out.trans (hb.mono HX1.out.size))
  have HX' := Lib.hid (HX.out.trans (hb.mono HX.out.size))
  clear hb HX
  have HX := HX'
  clear HX'
  cases R with
  | true =>
    go_wp2
    go_ret
    exact ⟨rfl, HX.out⟩
  | false =>
  have HLl := Lib.hid (hR rfl)
  clear he hR
  have HD0 := Lib.hid (HB0.out.below HX2.out)
  have HD1 := Lib.hid (HB1.out.below HX2.out)
  go_wp2_with (first
    | refine wpList_load_rowG rfl _ _ rfl (W.heap.size + 1) rfl 54 _ (0, 0) _ HD1.out Tryz.underlying54 rfl (by kernel_rfl) ?_
    | fail)
  refine (HOv2.out w2 HX.out _ rfl).mono ?_
  rintro e w3 ⟨R, he, hR, hb⟩
  rw [he.out]
  have hb := (al1 w2 (.cells #[.int .i64 n0, .int .i64 n1, .int .i64 n2, .int .i64 n3, .int .i64 n4, .int .i64 n5, .int .i64 n6, .int .i64 n7, .int .i64 n8, .int .i64 n9, .int .i64 n10, .int .i64 n11, .int .i64 n12, .int .i64 n13, .int .i64 n14, .int .i64 n15, .string n16, .string n17, .int .i64 n18, .int .i64 n19, .int .i64 n20, .int .i64 n21, .slice ua M uc, .int .i64 n23, .slice a1 d1 c1, .slice a2 d2 c2, .slice a3 d3 c3] 54)).trans (hb.mono (by simp))
  have HX3 : Hid (Below X0.heap.size X0 w3) := Lib.hid (HX2.out.trans (hb.mono HX2.out.size))
  have HX' := Lib.hid (HX.out.trans (hb.mono HX.out.size))
  clear hb HX
  have HX := HX'
  clear HX'
  cases R with
  | true =>
    go_wp2
    go_ret
    exact ⟨rfl, HX.out⟩
  | false =>
  have HSx : Hid (SmMg ⟨n0, n1, n2, (n3, n4, n5), (n6, n7), ⟨n8, (n9, n10), (n11, n12), ⟨n13, n14, n15, n16, n17, n18, n19, n20⟩, (n21, dl)⟩, sn0⟩) := Lib.hid ((hR rfl).2 ⟨n0, n1, n2, (n3, n4, n5), (n6, n7), ⟨n8, (n9, n10), (n11, n12), ⟨n13, n14, n15, n16, n17, n18, n19, n20⟩, (n21, dl)⟩, sn0⟩ (by simp))

  clear he hR HD0 HD1 HX1 HX2
  have HE0 := Lib.hid (HB0.out.below HX3.out)
  have HE1 := Lib.hid (HB1.out.below HX3.out)
  have cc0 := HE0.out.cell 0
  have cc1 := HE0.out.cell 1
  simp only [List.getElem?_cons_zero, List.getElem?_cons_succ] at cc0 cc1
  by_cases q1 : (40 : Int) < (N : Int)
  · have dq1 : decide ((40 : Int) < (N : Int)) = true := decide_eq_true q1
    have dq1n : decide (40 < N) = true := decide_eq_true (by omega)
    go_wp2
    go_ret
    exact ⟨rfl, HX.out⟩
  have dq1 : decide ((40 : Int) < (N : Int)) = false := decide_eq_false q1
  have dq1n : decide (40 < N) = false := decide_eq_false (by omega)
  have HN : Hid (zs.length ≤ 40) := Lib.hid (by rw [HN'.out]; omega)
  have HKb : Hid (K ≤ 40) := Lib.hid (by have := HLl.out.1; rw [HK.out] at this; exact this)
  have HNw : Hid (Calls Tryz.prog 13 #[.int .i64 nd, .agg #[.int .i64 ep, .slice ao N co]] w3 (BnP ⟨nd, ep, zs, []⟩ w3)) := Lib.hid (by
    have q := bnew_any nd ep ao co zs w3 (HIt.out.below HX.out) (by have := HN.out; omega)
    rw [HN'.out] at q
    exact q)
  clear hN
  go_wp2_with fail
  refine HNw.out.mono ?_
  rintro e w4 ⟨g, mb, he, hB, hb⟩
  rw [he.out]
  obtain ⟨B, hBe⟩ : ∃ B, w3.heap.size = B := ⟨_, rfl⟩
  rw [hBe] at hB hb
  have HWB : Hid (W.heap.size ≤ B) := Lib.hid (hBe ▸ HX.out.size)
  have HXB : Hid (W.heap.size + 1 + 1 ≤ B) := Lib.hid (by have := HX3.out.size; have := HZ0.out; omega)
  have hX4 : Below W.heap.size W w4 := HX.out.trans (hb.mono HWB.out)
  have hX34 : Below X0.heap.size X0 w4 := HX3.out.trans (hb.mono (by have := HX3.out.size; omega))
  have HX4 := Lib.hid hX4
  have H0 : Hid (BkIn w4 B g mb 0 (heardB ⟨nd, ep, zs, []⟩ (l.take 0)) w4) := Lib.hid ⟨hB, SmBk.nil _ _ _, Below.refl _ _⟩
  have HG0 := Lib.hid (HB0.out.below hX34)
  have HG1 := Lib.hid (HB1.out.below hX34)
  have HB4 : Hid (B ≤ w4.heap.size) := Lib.hid (by rw [← hBe]; exact hb.size)
  clear he hB hb hBe hX4 hX34 HX HX3 HNw cc0 cc1 dq1 dq1n q1 HZ0 HE0 HB0 HE1 HB1
  go_wp2_with fail
  go_loopw [11] (fun i wr => ∃ (k : Nat), k ≤ K ∧ i = .int .i64 k ∧ Hid (BkIn w4 B g mb k (heardB ⟨nd, ep, zs, []⟩ (l.take k)) wr)) (fun i _ => K - (intOf i).toNat)
  case atStart => exact ⟨0, Nat.zero_le _, rfl, H0⟩
  case round =>
    clear H0
    obtain ⟨k, hk, rfl, H⟩ := hrel
    by_cases hlt : k < K
    · have hk1 : (k : Int) < (K : Int) := by omega
      have hk2 : decide ((k : Int) < (K : Int)) = true := decide_eq_true hk1
      have hk3 : decide (k < K) = true := decide_eq_true hlt
      obtain ⟨-, hlk, gg, off, cs, ha, hg, hcs, hc⟩ := HR.out.el rfl k hlt
      subst ha
      have eK : KM.k = 27 := rfl
      rw [eK] at hc
      clear eK
      have hWr : Below W.heap.size W wr := HX4.out.trans (H.out.gr.mono HWB.out)
      have HRG : Hid (wr.rangeAt gg (off + k * 27) cs) := Lib.hid fun j v hv => (hWr.cell (p := ⟨gg, off + k * 27 + j, none⟩) hg).trans (hc j v hv)
      have hlc : cs.length = 27 := by obtain ⟨u, u1, u2, u3, hq⟩ := hcs; rw [hq.cs]; rfl
      have Hinf : Hid ((Tryz.prog.info? 54).map (·.size) = some cs.length) := Lib.hid (by rw [hlc]; kernel_rfl)
      have hmk : MgA wr (.agg cs.toArray) l[k] := (MsgIs.on ⟨cs.toArray, rfl, by simpa using hcs⟩ hWr).mga
      have HHr := Lib.hid (hear_in H.out (by have := HKb.out; omega) (by rw [(heard_same ⟨nd, ep, zs, []⟩ (l.take k)).2.2]; have := HN.out; show zs.length ≤ 1000; omega) (HML.out.below hWr) hmk (HLl.out.2 _ (List.getElem_mem hlk)))
      have HSn : Hid (heardB ⟨nd, ep, zs, []⟩ (l.take (k + 1)) = (hearB lclA (heardB ⟨nd, ep, zs, []⟩ (l.take k)) l[k]).1) := Lib.hid (by rw [List.take_succ_eq_append_getElem hlk, heard_snoc])
      have hgw : gg < wr.heap.size := Nat.lt_of_lt_of_le hg hWr.size
      clear hc hcs hlc hmk hWr hg
      go_wp2_with (first | refine wpList_load_mid rfl _ _ rfl gg (off + k * 27) rfl _ _ HRG.out Tryz.underlying54 rfl Hinf.out ?_ | fail)
      refine HHr.out.mono ?_
      rintro e w7 ⟨v7, he, hk7, hg7, ha7⟩
      rw [he.out]
      have H7 : Hid (BkIn w4 B g mb (k + 1) (heardB ⟨nd, ep, zs, []⟩ (l.take (k + 1))) w7) := Lib.hid (by rw [HSn.out]; exact hk7)
      clear he hk7 hg7 ha7 H HHr HRG HSn Hinf
      go_wp2_with fail
      go_roundw
      case rel => exact ⟨k + 1, by omega, by go_num, H7⟩
      case measure => simp [intOf]; omega
    · have e : k = K := by omega
      subst e
      have hk2 : decide ((k : Int) < (k : Int)) = false := decide_eq_false (by omega)
      have hk3 : decide (k < k) = false := decide_eq_false (by omega)
      obtain ⟨b, hbe⟩ : ∃ b, heardB ⟨nd, ep, zs, []⟩ l = b := ⟨_, rfl⟩
      have HSm : Hid (b.node = nd ∧ b.ep = ep ∧ b.ns = zs) := Lib.hid (by rw [← hbe]; exact heard_same _ _)
      have HH : Hid (BkIn w4 B g mb k b wr) := Lib.hid (by have h := H.out; rw [← HK.out, List.take_length, hbe, HK.out] at h; exact h)
      have HX : Hid (Below W.heap.size W wr) := Lib.hid (HX4.out.trans (HH.out.gr.mono HWB.out))
      have HNs : Hid (b.ns.length ≤ 1000) := Lib.hid (by rw [HSm.out.2.2]; have := HN.out; omega)
      have HB0 : Hid (Bk wr (W.heap.size) 24 [.int .i64 ep, .slice ao N co]) := Lib.hid ((HH.out.gr.block _ (by have := HXB.out; omega)).trans HG0.out)
      have HB1 : Hid (Bk wr (W.heap.size + 1) 54 [.int .i64 n0, .int .i64 n1, .int .i64 n2, .int .i64 n3, .int .i64 n4, .int .i64 n5, .int .i64 n6, .int .i64 n7, .int .i64 n8, .int .i64 n9, .int .i64 n10, .int .i64 n11, .int .i64 n12, .int .i64 n13, .int .i64 n14, .int .i64 n15, .string n16, .string n17, .int .i64 n18, .int .i64 n19, .int .i64 n20, .int .i64 n21, .slice ua M uc, .int .i64 n23, .slice a1 d1 c1, .slice a2 d2 c2, .slice a3 d3 c3]) := Lib.hid ((HH.out.gr.block _ (by have := HXB.out; omega)).trans HG1.out)
      clear H hbe hlt hk HG0 HG1
      have hk40 : k ≤ 40 := HKb.out
      have HA := HB1
      have H := Lib.hid HH.out.new
      have HAg := Lib.hid (hear_again lclA H.out.at'.rise ⟨n0, n1, n2, (n3, n4, n5), (n6, n7), ⟨n8, (n9, n10), (n11, n12), ⟨n13, n14, n15, n16, n17, n18, n19, n20⟩, (n21, dl)⟩, sn0⟩)
      clear HB1 HH
      have HHm := Lib.hid (hear_in H.out (by omega) HNs.out (HML.out.below HX.out) (HMk.out n0 _ HX.out) (show SmMg ⟨n0, n1, n2, (n3, n4, n5), (n6, n7), ⟨n8, (n9, n10), (n11, n12), ⟨n13, n14, n15, n16, n17, n18, n19, n20⟩, (n21, dl)⟩, sn0⟩ from HSx.out))
      have HAn1 := Lib.hid (hear_ans H.out.sm H.out.at'.rise H.out.at'.keys (show SmMg ⟨n0, n1, n2, (n3, n4, n5), (n6, n7), ⟨n8, (n9, n10), (n11, n12), ⟨n13, n14, n15, n16, n17, n18, n19, n20⟩, (n21, dl)⟩, sn0⟩ from HSx.out) (by omega))
      go_wp2_with (first
        | refine wpList_load_rowG rfl _ _ rfl (W.heap.size + 1) rfl 54 _ (0, 0) _ HA.out Tryz.underlying54 rfl (by kernel_rfl) ?_
        | fail)
      refine HHm.out.mono ?_
      rintro e w1h ⟨v1, he, hkh, hgh, hah⟩
      rw [he.out]
      have HA' := Lib.hid ((hgh.block _ (Bk.lt HA.out) (by simpa using H.out.at'.blkNe _ _ _ _ HA.out)).trans HA.out)
      have HX' : Hid (Below W.heap.size W w1h) := Lib.hid (HX.out.grown hgh HX.out.size (fun k e => by cases e; exact Nat.le_trans HWB.out H.out.at'.lo.2))
      have HV1 := Lib.hid hah
      have H1 := Lib.hid hkh
      obtain ⟨sl1, sn1, sc1, hsv⟩ := hah.slice
      subst hsv
      clear he hkh hgh hah HHm H HX HA 
      have H := H1
      have HX := HX'
      have HA := HA'

      clear H1 HX' HA' 
      have HNs1 : Hid ((hearB lclA b ⟨n0, n1, n2, (n3, n4, n5), (n6, n7), ⟨n8, (n9, n10), (n11, n12), ⟨n13, n14, n15, n16, n17, n18, n19, n20⟩, (n21, dl)⟩, sn0⟩).1.ns.length ≤ 1000) := Lib.hid (by rw [(hear_same lclA (b := b) ⟨n0, n1, n2, (n3, n4, n5), (n6, n7), ⟨n8, (n9, n10), (n11, n12), ⟨n13, n14, n15, n16, n17, n18, n19, n20⟩, (n21, dl)⟩, sn0⟩).2.2]; exact HNs.out)
      obtain ⟨xg, hxg⟩ : ∃ x, getL (hearB lclA b ⟨n0, n1, n2, (n3, n4, n5), (n6, n7), ⟨n8, (n9, n10), (n11, n12), ⟨n13, n14, n15, n16, n17, n18, n19, n20⟩, (n21, dl)⟩, sn0⟩).1.l (n3, n4, n5) = x := ⟨_, rfl⟩
      have HGL := Lib.hid hxg
      have hs2 := (H.out.sm.get H.out.at'.rise (n3, n4, n5)).2.1
      rw [hxg] at hs2
      obtain ⟨p0, ⟨p1, p2⟩, ⟨p3, p4⟩, ⟨p5, p6, p7, p8, p9, p10, p11, p12⟩, ps, pl⟩ := xg
      obtain ⟨P, hP⟩ : ∃ P, pl.length = P := ⟨_, rfl⟩
      have HPl := Lib.hid hP
      have HPs : Hid (pl.length ≤ 10000) := Lib.hid (by simp only at hs2; omega)
      clear hP hxg hs2
      have HGt := get_in H.out (by omega) HID1.out
      rw [HGL.out] at HGt
      have HGt2 : Hid (Calls Tryz.prog 20 #[bP g, .agg #[.int .i64 n3, .int .i64 n4, .int .i64 n5]] w1h (fun e w' => ∃ ga gc, Hid (e = .returned (.agg #[.int .i64 p0, .int .i64 p1, .int .i64 p2, .int .i64 p3, .int .i64 p4, .int .i64 p5, .int .i64 p6, .int .i64 p7, .string p8, .string p9, .int .i64 p10, .int .i64 p11, .int .i64 p12, .int .i64 ps, .slice ga P gc])) ∧ IK.Own w' 0 (.slice ga P gc) pl ∧ Below w1h.heap.size w1h w')) := Lib.hid (HGt.mono fun e w' ⟨v', he, ho, hb⟩ => by
        obtain ⟨ga, gc, hv⟩ := ho.slice
        simp only at hv ho
        rw [HPl.out] at hv
        subst hv
        exact ⟨ga, gc, he, ho.base (Nat.zero_le _), hb⟩)
      have y3 := Bk.cell HA.out 3
      have y4 := Bk.cell HA.out 4
      have y5 := Bk.cell HA.out 5
      simp only [msE, ansB, List.cons_append, List.nil_append, List.getElem?_cons_zero, List.getElem?_cons_succ] at y3 y4 y5
      clear HGt
      go_wp2_with fail
      refine HGt2.out.mono ?_
      rintro e w2g ⟨ga, gc, he, how, hb⟩
      rw [he.out]
      have hbq : Below w1h.heap.size w1h (w2g.alloc (.cells #[.int .i64 p0, .int .i64 p1, .int .i64 p2, .int .i64 p3, .int .i64 p4, .int .i64 p5, .int .i64 p6, .int .i64 p7, .string p8, .string p9, .int .i64 p10, .int .i64 p11, .int .i64 p12, .int .i64 ps, .slice ga P gc] 48)) := hb.alloc hb.size _
      have HWs : Hid (Bk (w2g.alloc (.cells #[.int .i64 p0, .int .i64 p1, .int .i64 p2, .int .i64 p3, .int .i64 p4, .int .i64 p5, .int .i64 p6, .int .i64 p7, .string p8, .string p9, .int .i64 p10, .int .i64 p11, .int .i64 p12, .int .i64 ps, .slice ga P gc] 48)) w2g.heap.size 48 [.int .i64 p0, .int .i64 p1, .int .i64 p2, .int .i64 p3, .int .i64 p4, .int .i64 p5, .int .i64 p6, .int .i64 p7, .string p8, .string p9, .int .i64 p10, .int .i64 p11, .int .i64 p12, .int .i64 ps, .slice ga P gc]) := Lib.hid (Bk.new w2g _ _)
      have HWso : Hid (IK.Own (w2g.alloc (.cells #[.int .i64 p0, .int .i64 p1, .int .i64 p2, .int .i64 p3, .int .i64 p4, .int .i64 p5, .int .i64 p6, .int .i64 p7, .string p8, .string p9, .int .i64 p10, .int .i64 p11, .int .i64 p12, .int .i64 ps, .slice ga P gc] 48)) 0 (.slice ga P gc) pl) := Lib.hid (how.below ((Below.refl _ _).alloc (Nat.le_refl _) _))
      obtain ⟨wb, hwb⟩ : ∃ q, w2g.heap.size = q := ⟨_, rfl⟩
      obtain ⟨w2, hw2⟩ : ∃ q, w2g.alloc (.cells #[.int .i64 p0, .int .i64 p1, .int .i64 p2, .int .i64 p3, .int .i64 p4, .int .i64 p5, .int .i64 p6, .int .i64 p7, .string p8, .string p9, .int .i64 p10, .int .i64 p11, .int .i64 p12, .int .i64 ps, .slice ga P gc] 48) = q := ⟨_, rfl⟩
      rw [hw2] at HWs HWso hbq
      rw [hwb] at HWs
      have HBq := Lib.hid hbq
      have HX' := Lib.hid (HX.out.trans (hbq.mono HX.out.size))
      have H' := Lib.hid (H.out.on hbq (Nat.le_trans H.out.at'.lo.1 (Nat.le_of_lt H.out.at'.lt)))
      have HA' := Lib.hid (Bk.below HA.out hbq)
      have HV1' := Lib.hid (HV1.out.below hbq)
      clear hbq HX H HA HV1
      have HX := HX'
      have H := H'
      have HA := HA'
      have HV1 := HV1'
      clear HX' H' HA' HV1'
      clear he hb HGt2 y3 y4 y5 how
      have HHm := Lib.hid (hear_in H.out (by omega) HNs1.out (HML.out.below HX.out) (HMk.out n0 _ HX.out) (show SmMg ⟨n0, n1, n2, (n3, n4, n5), (n6, n7), ⟨n8, (n9, n10), (n11, n12), ⟨n13, n14, n15, n16, n17, n18, n19, n20⟩, (n21, dl)⟩, sn0⟩ from HSx.out))
      have HAn2 := Lib.hid (hear_ans H.out.sm H.out.at'.rise H.out.at'.keys (show SmMg ⟨n0, n1, n2, (n3, n4, n5), (n6, n7), ⟨n8, (n9, n10), (n11, n12), ⟨n13, n14, n15, n16, n17, n18, n19, n20⟩, (n21, dl)⟩, sn0⟩ from HSx.out) (by omega))
      go_wp2_with (first
        | refine wpList_load_rowG rfl _ _ rfl (W.heap.size + 1) rfl 54 _ (0, 0) _ HA.out Tryz.underlying54 rfl (by kernel_rfl) ?_
        | fail)
      try rw [hw2]
      try rw [hwb]
      clear hw2 hwb
      refine HHm.out.mono ?_
      rintro e w2h ⟨v2, he, hkh, hgh, hah⟩
      rw [he.out]
      have HA' := Lib.hid ((hgh.block _ (Bk.lt HA.out) (by simpa using H.out.at'.blkNe _ _ _ _ HA.out)).trans HA.out)
      have HWs' := Lib.hid ((hgh.block _ (Bk.lt HWs.out) (by simpa using H.out.at'.blkNe _ _ _ _ HWs.out)).trans HWs.out)
      have HV1' := Lib.hid (HV1.out.out hgh H.out.at'.blkNe)
      have HX' : Hid (Below W.heap.size W w2h) := Lib.hid (HX.out.grown hgh HX.out.size (fun k e => by cases e; exact Nat.le_trans HWB.out H.out.at'.lo.2))
      have HWso' := Lib.hid (HWso.out.outA hgh H.out.at'.blkNe)
      clear HWso
      have HWso := HWso'
      clear HWso'
      have HV2 := Lib.hid hah
      have H1 := Lib.hid hkh
      obtain ⟨sl2, sn2, sc2, hsv⟩ := hah.slice
      subst hsv
      clear he hkh hgh hah HHm H HX HA HWs HV1
      have H := H1
      have HX := HX'
      have HA := HA'
      have HWs := HWs'
      have HV1 := HV1'
      clear H1 HX' HA' HWs' HV1'
      have HGL2 : Hid (getL (hearB lclA (hearB lclA b ⟨n0, n1, n2, (n3, n4, n5), (n6, n7), ⟨n8, (n9, n10), (n11, n12), ⟨n13, n14, n15, n16, n17, n18, n19, n20⟩, (n21, dl)⟩, sn0⟩).1 ⟨n0, n1, n2, (n3, n4, n5), (n6, n7), ⟨n8, (n9, n10), (n11, n12), ⟨n13, n14, n15, n16, n17, n18, n19, n20⟩, (n21, dl)⟩, sn0⟩).1.l (n3, n4, n5) = ⟨p0, (p1, p2), (p3, p4), ⟨p5, p6, p7, p8, p9, p10, p11, p12⟩, (ps, pl)⟩) := Lib.hid (HAg.out.2.trans HGL.out)
      have HGt := get_in H.out (by omega) HID1.out
      rw [HGL2.out] at HGt
      have HGt2 : Hid (Calls Tryz.prog 20 #[bP g, .agg #[.int .i64 n3, .int .i64 n4, .int .i64 n5]] w2h (fun e w' => ∃ na nc, Hid (e = .returned (.agg #[.int .i64 p0, .int .i64 p1, .int .i64 p2, .int .i64 p3, .int .i64 p4, .int .i64 p5, .int .i64 p6, .int .i64 p7, .string p8, .string p9, .int .i64 p10, .int .i64 p11, .int .i64 p12, .int .i64 ps, .slice na P nc])) ∧ IK.Own w' 0 (.slice na P nc) pl ∧ Below w2h.heap.size w2h w')) := Lib.hid (HGt.mono fun e w' ⟨v', he, ho, hb⟩ => by
        obtain ⟨ga, gc, hv⟩ := ho.slice
        simp only at hv ho
        rw [HPl.out] at hv
        subst hv
        exact ⟨ga, gc, he, ho.base (Nat.zero_le _), hb⟩)
      have y3 := Bk.cell HA.out 3
      have y4 := Bk.cell HA.out 4
      have y5 := Bk.cell HA.out 5
      simp only [msE, ansB, List.cons_append, List.nil_append, List.getElem?_cons_zero, List.getElem?_cons_succ] at y3 y4 y5
      clear HGt
      go_wp2_with fail
      refine HGt2.out.mono ?_
      rintro e w3g ⟨na, nc, he, how, hb⟩
      rw [he.out]
      have hbq : Below w2h.heap.size w2h (w3g.alloc (.cells #[.int .i64 p0, .int .i64 p1, .int .i64 p2, .int .i64 p3, .int .i64 p4, .int .i64 p5, .int .i64 p6, .int .i64 p7, .string p8, .string p9, .int .i64 p10, .int .i64 p11, .int .i64 p12, .int .i64 ps, .slice na P nc] 48)) := hb.alloc hb.size _
      have HNw : Hid (Bk (w3g.alloc (.cells #[.int .i64 p0, .int .i64 p1, .int .i64 p2, .int .i64 p3, .int .i64 p4, .int .i64 p5, .int .i64 p6, .int .i64 p7, .string p8, .string p9, .int .i64 p10, .int .i64 p11, .int .i64 p12, .int .i64 ps, .slice na P nc] 48)) w3g.heap.size 48 [.int .i64 p0, .int .i64 p1, .int .i64 p2, .int .i64 p3, .int .i64 p4, .int .i64 p5, .int .i64 p6, .int .i64 p7, .string p8, .string p9, .int .i64 p10, .int .i64 p11, .int .i64 p12, .int .i64 ps, .slice na P nc]) := Lib.hid (Bk.new w3g _ _)
      have HNwo : Hid (IK.Own (w3g.alloc (.cells #[.int .i64 p0, .int .i64 p1, .int .i64 p2, .int .i64 p3, .int .i64 p4, .int .i64 p5, .int .i64 p6, .int .i64 p7, .string p8, .string p9, .int .i64 p10, .int .i64 p11, .int .i64 p12, .int .i64 ps, .slice na P nc] 48)) 0 (.slice na P nc) pl) := Lib.hid (how.below ((Below.refl _ _).alloc (Nat.le_refl _) _))
      obtain ⟨nb, hnb⟩ : ∃ q, w3g.heap.size = q := ⟨_, rfl⟩
      obtain ⟨w3, hw3⟩ : ∃ q, w3g.alloc (.cells #[.int .i64 p0, .int .i64 p1, .int .i64 p2, .int .i64 p3, .int .i64 p4, .int .i64 p5, .int .i64 p6, .int .i64 p7, .string p8, .string p9, .int .i64 p10, .int .i64 p11, .int .i64 p12, .int .i64 ps, .slice na P nc] 48) = q := ⟨_, rfl⟩
      rw [hw3] at HNw HNwo hbq
      rw [hnb] at HNw
      have HBq := Lib.hid hbq
      have HX' := Lib.hid (HX.out.trans (hbq.mono HX.out.size))
      have H' := Lib.hid (H.out.on hbq (Nat.le_trans H.out.at'.lo.1 (Nat.le_of_lt H.out.at'.lt)))
      have HA' := Lib.hid (Bk.below HA.out hbq)
      have HV1' := Lib.hid (HV1.out.below hbq)
      have HV2' := Lib.hid (HV2.out.below hbq)
      have HWs' := Lib.hid (Bk.below HWs.out hbq)
      clear hbq HX H HA HV1 HV2 HWs
      have HX := HX'
      have H := H'
      have HA := HA'
      have HV1 := HV1'
      have HV2 := HV2'
      have HWs := HWs'
      clear HX' H' HA' HV1' HV2' HWs'
      clear he hb HGt2 y3 y4 y5 how
      have HWso' := Lib.hid (HWso.out.below HBq.out)
      clear HWso
      have HWso := HWso'
      clear HWso'
      have HV2b : Hid (AnsIs w3 w2.heap.size (.slice sl2 sn2 sc2) (hearB lclA b ⟨n0, n1, n2, (n3, n4, n5), (n6, n7), ⟨n8, (n9, n10), (n11, n12), ⟨n13, n14, n15, n16, n17, n18, n19, n20⟩, (n21, dl)⟩, sn0⟩).2) := Lib.hid (by rw [← HAg.out.1]; exact HV2.out)
      have HMs := Lib.hid (msgs_any HV1.out HV2b.out (fun M hM => ⟨(HAn1.out M hM).1, by have := (HAn1.out M hM).2; omega⟩))
      go_wp2_with (first
        | refine wpList_load_rowG rfl _ _ rfl wb rfl 48 _ (0, 0) _ HWs.out Tryz.underlying48 rfl infoIn ?_
        | refine wpList_load_rowG rfl _ _ rfl nb rfl 48 _ (0, 0) _ HNw.out Tryz.underlying48 rfl infoIn ?_
        | fail)
      try rw [hw3]
      try rw [hnb]
      refine HMs.out.mono ?_
      rintro e w4 ⟨rfl, hb⟩
      have HWs' := Lib.hid (Bk.below HWs.out hb)
      have HNw' := Lib.hid (Bk.below HNw.out hb)
      have HSa := Lib.hid (sameI_any ⟨p0, (p1, p2), (p3, p4), ⟨p5, p6, p7, p8, p9, p10, p11, p12⟩, (ps, pl)⟩ (.slice ga P gc) (.slice na P nc) w4 ((HWso.out.below hb).rd) ((HNwo.out.below hb).rd) HPs.out)
      simp only [inE] at HSa
      have HX' := Lib.hid (HX.out.trans (hb.mono HX.out.size))
      clear hb HX HWs HNw HWso HNwo HV1 HV2 HV2b HMs H HA
      go_wp2_with (first
        | refine wpList_load_rowG rfl _ _ rfl wb rfl 48 _ (0, 0) _ HWs'.out Tryz.underlying48 rfl infoIn ?_
        | refine wpList_load_rowG rfl _ _ rfl nb rfl 48 _ (0, 0) _ HNw'.out Tryz.underlying48 rfl infoIn ?_
        | fail)
      refine HSa.out.mono ?_
      rintro e w5 ⟨rfl, hb⟩
      have HXf := Lib.hid (HX'.out.trans (hb.mono HX'.out.size))
      clear hb
      go_wp2
      go_ret
      exact ⟨rfl, HXf.out⟩
end Go.Proofs.YtchhcaoondfpiaaGreat
