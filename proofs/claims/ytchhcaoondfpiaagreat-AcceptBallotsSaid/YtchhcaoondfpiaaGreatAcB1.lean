/-
  Package accept's laws: AcceptBallots.
-/
import Derived.Test.YtchhcaoondfpiaaGreatAcLl
namespace Go.Proofs.YtchhcaoondfpiaaGreat
open Go.RowKit Go.Sort
open Go.WideMaps
set_option linter.unusedSimpArgs false
set_option linter.unusedVariables false
set_option maxRecDepth 100000

set_option maxHeartbeats 16000000 in
theorem ballots_law (nd : Int) (ep : Int) (ao : Option Addr) (co : Nat) (zs : List Int) (x y : Mg) (v2 v3 v4 : Value) (rs : List (Cls 27)) (l : List Mg) (W : World) (hr : It W (.slice ao zs.length co) zs) (hl : RowIs KM msS W v2 rs l) (hm : MsgIs W v3 x) (hm2 : MsgIs W v4 y) (hml : Tc.ML W) :
    Calls Tryz.prog 10 #[.int .i64 nd, .agg #[.int .i64 ep, .slice ao zs.length co], v2, v3, v4] W fun e w' => e = .returned (.bool true) ∧ Below W.heap.size W w' := by
  have HOl := Lib.hid hl
  obtain ⟨a2', c2', e2'⟩ := rowSl hl
  subst e2'
  have HMI := Lib.hid hm
  have HMV := Lib.hid hm.mga
  obtain ⟨ua, uc, a1, d1, c1, a2, d2, c2, a3, d3, c3, rfl, hrd, hokl, hid⟩ := hm.mga
  obtain ⟨n0, n1, n2, ⟨n3, n4, n5⟩, ⟨n6, n7⟩, ⟨n8, ⟨n9, n10⟩, ⟨n11, n12⟩, ⟨n13, n14, n15, n16, n17, n18, n19, n20⟩, n21, dl⟩, sn0⟩ := x
  obtain ⟨n23, sn1⟩ : ∃ q, sn0.1.1 = q := ⟨_, rfl⟩
  obtain ⟨M, hM⟩ : ∃ M, dl.length = M := ⟨_, rfl⟩
  have HMl := Lib.hid hM
  simp only at hrd hokl hid
  have HMk : Hid (∀ (k : Int) w', Below W.heap.size W w' → MgA w' (.agg #[.int .i64 k, .int .i64 n1, .int .i64 n2, .int .i64 n3, .int .i64 n4, .int .i64 n5, .int .i64 n6, .int .i64 n7, .int .i64 n8, .int .i64 n9, .int .i64 n10, .int .i64 n11, .int .i64 n12, .int .i64 n13, .int .i64 n14, .int .i64 n15, .string n16, .string n17, .int .i64 n18, .int .i64 n19, .int .i64 n20, .int .i64 n21, .slice ua M uc, .int .i64 n23, .slice a1 d1 c1, .slice a2 d2 c2, .slice a3 d3 c3]) ⟨k, n1, n2, (n3, n4, n5), (n6, n7), ⟨n8, (n9, n10), (n11, n12), ⟨n13, n14, n15, n16, n17, n18, n19, n20⟩, (n21, dl)⟩, sn0⟩) := Lib.hid fun k w' hb => ⟨ua, uc, a1, d1, c1, a2, d2, c2, a3, d3, c3, by simp only [msE, inE, snV, sn1, List.cons_append, List.nil_append]; rw [hM], hrd.below hb, hokl, hid⟩
  simp only [msE, inE, snV, hM, sn1, List.cons_append, List.nil_append] at hrd HMI HMV ⊢
  have HOKD := Lib.hid hokl
  have HID1 : Hid (okI (n3, n4, n5)) := Lib.hid hid
  clear hM sn1 hm hrd hokl hid
  have HMI2 := Lib.hid hm2
  have HMV2 := Lib.hid hm2.mga
  obtain ⟨ub, ub2, b1, g1, k1, b2, g2, k2, b3, g3, k3, rfl, hrd, hokl, hid⟩ := hm2.mga
  obtain ⟨m0, m1, m2, ⟨m3, m4, m5⟩, ⟨m6, m7⟩, ⟨m8, ⟨m9, m10⟩, ⟨m11, m12⟩, ⟨m13, m14, m15, m16, m17, m18, m19, m20⟩, m21, el⟩, tn0⟩ := y
  obtain ⟨m23, sn1⟩ : ∃ q, tn0.1.1 = q := ⟨_, rfl⟩
  obtain ⟨Mb, hM⟩ : ∃ M, el.length = M := ⟨_, rfl⟩
  have HMl2 := Lib.hid hM
  simp only at hrd hokl hid
  have HMk2 : Hid (∀ (k : Int) w', Below W.heap.size W w' → MgA w' (.agg #[.int .i64 k, .int .i64 m1, .int .i64 m2, .int .i64 m3, .int .i64 m4, .int .i64 m5, .int .i64 m6, .int .i64 m7, .int .i64 m8, .int .i64 m9, .int .i64 m10, .int .i64 m11, .int .i64 m12, .int .i64 m13, .int .i64 m14, .int .i64 m15, .string m16, .string m17, .int .i64 m18, .int .i64 m19, .int .i64 m20, .int .i64 m21, .slice ub Mb ub2, .int .i64 m23, .slice b1 g1 k1, .slice b2 g2 k2, .slice b3 g3 k3]) ⟨k, m1, m2, (m3, m4, m5), (m6, m7), ⟨m8, (m9, m10), (m11, m12), ⟨m13, m14, m15, m16, m17, m18, m19, m20⟩, (m21, el)⟩, tn0⟩) := Lib.hid fun k w' hb => ⟨ub, ub2, b1, g1, k1, b2, g2, k2, b3, g3, k3, by simp only [msE, inE, snV, sn1, List.cons_append, List.nil_append]; rw [hM], hrd.below hb, hokl, hid⟩
  simp only [msE, inE, snV, hM, sn1, List.cons_append, List.nil_append] at hrd HMI2 HMV2 ⊢
  have HOKD2 := Lib.hid hokl
  have HID2 : Hid (okI (m3, m4, m5)) := Lib.hid hid
  clear hM sn1 hm2 hrd hokl hid
  obtain ⟨K, hK⟩ : ∃ K, l.length = K := ⟨_, rfl⟩
  have hlen := hl.rd.len
  rw [hl.len, hK] at hlen
  have hK63 : K ≤ 9223372036854775807 := by unfold maxLen at hlen; omega
  obtain ⟨N, hN⟩ : ∃ N, zs.length = N := ⟨_, rfl⟩
  have hN63 := hr.len
  rw [hK] at HOl hl ⊢
  rw [hN] at hN63 ⊢
  have HR := Lib.hid hl
  have HK := Lib.hid hK
  have HN' := Lib.hid hN
  have HIt := Lib.hid hr
  have HML := Lib.hid hml
  obtain ⟨X0, hX0⟩ : ∃ X0, (((W.alloc (.cells #[.int .i64 ep, .slice ao N co] 24)).alloc (.cells #[.int .i64 n0, .int .i64 n1, .int .i64 n2, .int .i64 n3, .int .i64 n4, .int .i64 n5, .int .i64 n6, .int .i64 n7, .int .i64 n8, .int .i64 n9, .int .i64 n10, .int .i64 n11, .int .i64 n12, .int .i64 n13, .int .i64 n14, .int .i64 n15, .string n16, .string n17, .int .i64 n18, .int .i64 n19, .int .i64 n20, .int .i64 n21, .slice ua M uc, .int .i64 n23, .slice a1 d1 c1, .slice a2 d2 c2, .slice a3 d3 c3] 54)).alloc (.cells #[.int .i64 m0, .int .i64 m1, .int .i64 m2, .int .i64 m3, .int .i64 m4, .int .i64 m5, .int .i64 m6, .int .i64 m7, .int .i64 m8, .int .i64 m9, .int .i64 m10, .int .i64 m11, .int .i64 m12, .int .i64 m13, .int .i64 m14, .int .i64 m15, .string m16, .string m17, .int .i64 m18, .int .i64 m19, .int .i64 m20, .int .i64 m21, .slice ub Mb ub2, .int .i64 m23, .slice b1 g1 k1, .slice b2 g2 k2, .slice b3 g3 k3] 54)) = X0 := ⟨_, rfl⟩
  have HB0 : Hid (Bk X0 (W.heap.size) 24 [.int .i64 ep, .slice ao N co]) := Lib.hid (by rw [← hX0]; exact ((Bk.newA (by simp) _ [.int .i64 ep, .slice ao N co]).old _).old _)
  have HB1 : Hid (Bk X0 (W.heap.size + 1) 54 [.int .i64 n0, .int .i64 n1, .int .i64 n2, .int .i64 n3, .int .i64 n4, .int .i64 n5, .int .i64 n6, .int .i64 n7, .int .i64 n8, .int .i64 n9, .int .i64 n10, .int .i64 n11, .int .i64 n12, .int .i64 n13, .int .i64 n14, .int .i64 n15, .string n16, .string n17, .int .i64 n18, .int .i64 n19, .int .i64 n20, .int .i64 n21, .slice ua M uc, .int .i64 n23, .slice a1 d1 c1, .slice a2 d2 c2, .slice a3 d3 c3]) := Lib.hid (by rw [← hX0]; exact (Bk.newA (by simp) _ [.int .i64 n0, .int .i64 n1, .int .i64 n2, .int .i64 n3, .int .i64 n4, .int .i64 n5, .int .i64 n6, .int .i64 n7, .int .i64 n8, .int .i64 n9, .int .i64 n10, .int .i64 n11, .int .i64 n12, .int .i64 n13, .int .i64 n14, .int .i64 n15, .string n16, .string n17, .int .i64 n18, .int .i64 n19, .int .i64 n20, .int .i64 n21, .slice ua M uc, .int .i64 n23, .slice a1 d1 c1, .slice a2 d2 c2, .slice a3 d3 c3]).old _)
  have HB2 : Hid (Bk X0 (W.heap.size + 1 + 1) 54 [.int .i64 m0, .int .i64 m1, .int .i64 m2, .int .i64 m3, .int .i64 m4, .int .i64 m5, .int .i64 m6, .int .i64 m7, .int .i64 m8, .int .i64 m9, .int .i64 m10, .int .i64 m11, .int .i64 m12, .int .i64 m13, .int .i64 m14, .int .i64 m15, .string m16, .string m17, .int .i64 m18, .int .i64 m19, .int .i64 m20, .int .i64 m21, .slice ub Mb ub2, .int .i64 m23, .slice b1 g1 k1, .slice b2 g2 k2, .slice b3 g3 k3]) := Lib.hid (by rw [← hX0]; exact Bk.newA (by simp) _ [.int .i64 m0, .int .i64 m1, .int .i64 m2, .int .i64 m3, .int .i64 m4, .int .i64 m5, .int .i64 m6, .int .i64 m7, .int .i64 m8, .int .i64 m9, .int .i64 m10, .int .i64 m11, .int .i64 m12, .int .i64 m13, .int .i64 m14, .int .i64 m15, .string m16, .string m17, .int .i64 m18, .int .i64 m19, .int .i64 m20, .int .i64 m21, .slice ub Mb ub2, .int .i64 m23, .slice b1 g1 k1, .slice b2 g2 k2, .slice b3 g3 k3])
  have HX : Hid (Below W.heap.size W X0) := Lib.hid (by rw [← hX0]; exact (((Below.refl _ _).alloc (by simp <;> omega) _).alloc (by simp <;> omega) _).alloc (by simp <;> omega) _)
  have HZ0 : Hid (X0.heap.size = W.heap.size + 1 + 1 + 1) := Lib.hid (by rw [← hX0]; simp)
  have HWk := Lib.hid (works_any X0 (hml.below HX.out))
  have HOv2 : Hid (∀ V : World, Below W.heap.size W V → ∀ g, V.heap.size = g → Calls Tryz.prog 12 #[.slice (some ⟨g, 0, none⟩) 2 2] (V.alloc (.cells #[.int .i64 n0, .int .i64 n1, .int .i64 n2, .int .i64 n3, .int .i64 n4, .int .i64 n5, .int .i64 n6, .int .i64 n7, .int .i64 n8, .int .i64 n9, .int .i64 n10, .int .i64 n11, .int .i64 n12, .int .i64 n13, .int .i64 n14, .int .i64 n15, .string n16, .string n17, .int .i64 n18, .int .i64 n19, .int .i64 n20, .int .i64 n21, .slice ua M uc, .int .i64 n23, .slice a1 d1 c1, .slice a2 d2 c2, .slice a3 d3 c3, .int .i64 m0, .int .i64 m1, .int .i64 m2, .int .i64 m3, .int .i64 m4, .int .i64 m5, .int .i64 m6, .int .i64 m7, .int .i64 m8, .int .i64 m9, .int .i64 m10, .int .i64 m11, .int .i64 m12, .int .i64 m13, .int .i64 m14, .int .i64 m15, .string m16, .string m17, .int .i64 m18, .int .i64 m19, .int .i64 m20, .int .i64 m21, .slice ub Mb ub2, .int .i64 m23, .slice b1 g1 k1, .slice b2 g2 k2, .slice b3 g3 k3] 54)) (OvA [⟨n0, n1, n2, (n3, n4, n5), (n6, n7), ⟨n8, (n9, n10), (n11, n12), ⟨n13, n14, n15, n16, n17, n18, n19, n20⟩, (n21, dl)⟩, sn0⟩, ⟨m0, m1, m2, (m3, m4, m5), (m6, m7), ⟨m8, (m9, m10), (m11, m12), ⟨m13, m14, m15, m16, m17, m18, m19, m20⟩, (m21, el)⟩, tn0⟩] (V.alloc (.cells #[.int .i64 n0, .int .i64 n1, .int .i64 n2, .int .i64 n3, .int .i64 n4, .int .i64 n5, .int .i64 n6, .int .i64 n7, .int .i64 n8, .int .i64 n9, .int .i64 n10, .int .i64 n11, .int .i64 n12, .int .i64 n13, .int .i64 n14, .int .i64 n15, .string n16, .string n17, .int .i64 n18, .int .i64 n19, .int .i64 n20, .int .i64 n21, .slice ua M uc, .int .i64 n23, .slice a1 d1 c1, .slice a2 d2 c2, .slice a3 d3 c3, .int .i64 m0, .int .i64 m1, .int .i64 m2, .int .i64 m3, .int .i64 m4, .int .i64 m5, .int .i64 m6, .int .i64 m7, .int .i64 m8, .int .i64 m9, .int .i64 m10, .int .i64 m11, .int .i64 m12, .int .i64 m13, .int .i64 m14, .int .i64 m15, .string m16, .string m17, .int .i64 m18, .int .i64 m19, .int .i64 m20, .int .i64 m21, .slice ub Mb ub2, .int .i64 m23, .slice b1 g1 k1, .slice b2 g2 k2, .slice b3 g3 k3] 54)))) := Lib.hid fun V hV g hg => overA2_any (cs := [.int .i64 n0, .int .i64 n1, .int .i64 n2, .int .i64 n3, .int .i64 n4, .int .i64 n5, .int .i64 n6, .int .i64 n7, .int .i64 n8, .int .i64 n9, .int .i64 n10, .int .i64 n11, .int .i64 n12, .int .i64 n13, .int .i64 n14, .int .i64 n15, .string n16, .string n17, .int .i64 n18, .int .i64 n19, .int .i64 n20, .int .i64 n21, .slice ua M uc, .int .i64 n23, .slice a1 d1 c1, .slice a2 d2 c2, .slice a3 d3 c3]) (ds := [.int .i64 m0, .int .i64 m1, .int .i64 m2, .int .i64 m3, .int .i64 m4, .int .i64 m5, .int .i64 m6, .int .i64 m7, .int .i64 m8, .int .i64 m9, .int .i64 m10, .int .i64 m11, .int .i64 m12, .int .i64 m13, .int .i64 m14, .int .i64 m15, .string m16, .string m17, .int .i64 m18, .int .i64 m19, .int .i64 m20, .int .i64 m21, .slice ub Mb ub2, .int .i64 m23, .slice b1 g1 k1, .slice b2 g2 k2, .slice b3 g3 k3]) (HMI.out.on hV) (HMI2.out.on hV) _ rfl g hg
  clear hr hl hlen hml HMI HMI2
  go_enter Tryz.func10, Tryz.ntmps10
  go_wp2_with fail
  try rw [hX0]
  refine HWk.out.mono ?_
  rintro e w1 ⟨rfl, hb⟩
  have HX1 := Lib.hid hb
  have HX' := Lib.hid (HX.out.trans (hb.mono HX.out.size))
  clear hb HX
  have HX := HX'
  clear HX'
  clear hX0 HWk
  go_wp2_with fail
  refine (overA_any _ rs l w1 (HOl.out.on HX.out)).mono ?_
  rintro e w2 ⟨R, he, hR, hb⟩
  rw [he.out]
  have HX2 : Hid (Below X0.heap.size X0 w2) := Lib.hid (HX1.out.trans (hb.mono HX1.out.size))
  have HX' := Lib.hid (HX.out.trans (hb.mono HX.out.size))
  clear hb HX
  have HX := HX'
  clear HX'
  cases R with
  | true =>
    go_wp2
    go_ret
    exact ⟨rfl, HX.out⟩
  | false =>
  have HLl := Lib.hid (hR rfl)
  clear he hR
  have HD0 := Lib.hid (HB0.out.below HX2.out)
  have HD1 := Lib.hid (HB1.out.below HX2.out)
  have HD2 := Lib.hid (HB2.out.below HX2.out)
  go_wp2_with (first
    | refine wpList_load_rowG rfl _ _ rfl (W.heap.size + 1) rfl 54 _ (0, 0) _ HD1.out Tryz.underlying54 rfl (by kernel_rfl) ?_
    | refine wpList_load_rowG rfl _ _ rfl (W.heap.size + 1 + 1) rfl 54 _ (0, 0) _ HD2.out Tryz.underlying54 rfl (by kernel_rfl) ?_
    | fail)
  refine (HOv2.out w2 HX.out _ rfl).mono ?_
  rintro e w3 ⟨R, he, hR, hb⟩
  rw [he.out]
  have hb := (al1 w2 (.cells #[.int .i64 n0, .int .i64 n1, .int .i64 n2, .int .i64 n3, .int .i64 n4, .int .i64 n5, .int .i64 n6, .int .i64 n7, .int .i64 n8, .int .i64 n9, .int .i64 n10, .int .i64 n11, .int .i64 n12, .int .i64 n13, .int .i64 n14, .int .i64 n15, .string n16, .string n17, .int .i64 n18, .int .i64 n19, .int .i64 n20, .int .i64 n21, .slice ua M uc, .int .i64 n23, .slice a1 d1 c1, .slice a2 d2 c2, .slice a3 d3 c3, .int .i64 m0, .int .i64 m1, .int .i64 m2, .int .i64 m3, .int .i64 m4, .int .i64 m5, .int .i64 m6, .int .i64 m7, .int .i64 m8, .int .i64 m9, .int .i64 m10, .int .i64 m11, .int .i64 m12, .int .i64 m13, .int .i64 m14, .int .i64 m15, .string m16, .string m17, .int .i64 m18, .int .i64 m19, .int .i64 m20, .int .i64 m21, .slice ub Mb ub2, .int .i64 m23, .slice b1 g1 k1, .slice b2 g2 k2, .slice b3 g3 k3] 54)).trans (hb.mono (by simp))
  have HX3 : Hid (Below X0.heap.size X0 w3) := Lib.hid (HX2.out.trans (hb.mono HX2.out.size))
  have HX' := Lib.hid (HX.out.trans (hb.mono HX.out.size))
  clear hb HX
  have HX := HX'
  clear HX'
  cases R with
  | true =>
    go_wp2
    go_ret
    exact ⟨rfl, HX.out⟩
  | false =>
  have HSx : Hid (SmMg ⟨n0, n1, n2, (n3, n4, n5), (n6, n7), ⟨n8, (n9, n10), (n11, n12), ⟨n13, n14, n15, n16, n17, n18, n19, n20⟩, (n21, dl)⟩, sn0⟩) := Lib.hid ((hR rfl).2 ⟨n0, n1, n2, (n3, n4, n5), (n6, n7), ⟨n8, (n9, n10), (n11, n12), ⟨n13, n14, n15, n16, n17, n18, n19, n20⟩, (n21, dl)⟩, sn0⟩ (by simp))
  have HSy : Hid (SmMg ⟨m0, m1, m2, (m3, m4, m5), (m6, m7), ⟨m8, (m9, m10), (m11, m12), ⟨m13, m14, m15, m16, m17, m18, m19, m20⟩, (m21, el)⟩, tn0⟩) := Lib.hid ((hR rfl).2 ⟨m0, m1, m2, (m3, m4, m5), (m6, m7), ⟨m8, (m9, m10), (m11, m12), ⟨m13, m14, m15, m16, m17, m18, m19, m20⟩, (m21, el)⟩, tn0⟩ (by simp))
  clear he hR HD0 HD1 HD2 HX1 HX2
  have HE0 := Lib.hid (HB0.out.below HX3.out)
  have HE1 := Lib.hid (HB1.out.below HX3.out)
  have HE2 := Lib.hid (HB2.out.below HX3.out)
  have cc0 := HE0.out.cell 0
  have cc1 := HE0.out.cell 1
  simp only [List.getElem?_cons_zero, List.getElem?_cons_succ] at cc0 cc1
  by_cases q1 : (40 : Int) < (N : Int)
  · have dq1 : decide ((40 : Int) < (N : Int)) = true := decide_eq_true q1
    have dq1n : decide (40 < N) = true := decide_eq_true (by omega)
    go_wp2
    go_ret
    exact ⟨rfl, HX.out⟩
  have dq1 : decide ((40 : Int) < (N : Int)) = false := decide_eq_false q1
  have dq1n : decide (40 < N) = false := decide_eq_false (by omega)
  have HN : Hid (zs.length ≤ 40) := Lib.hid (by rw [HN'.out]; omega)
  have HKb : Hid (K ≤ 40) := Lib.hid (by have := HLl.out.1; rw [HK.out] at this; exact this)
  have HNw : Hid (Calls Tryz.prog 13 #[.int .i64 nd, .agg #[.int .i64 ep, .slice ao N co]] w3 (BnP ⟨nd, ep, zs, []⟩ w3)) := Lib.hid (by
    have q := bnew_any nd ep ao co zs w3 (HIt.out.below HX.out) (by have := HN.out; omega)
    rw [HN'.out] at q
    exact q)
  clear hN
  go_wp2_with fail
  refine HNw.out.mono ?_
  rintro e w4 ⟨g, mb, he, hB, hb⟩
  rw [he.out]
  obtain ⟨B, hBe⟩ : ∃ B, w3.heap.size = B := ⟨_, rfl⟩
  rw [hBe] at hB hb
  have HWB : Hid (W.heap.size ≤ B) := Lib.hid (hBe ▸ HX.out.size)
  have HXB : Hid (W.heap.size + 1 + 1 + 1 ≤ B) := Lib.hid (by have := HX3.out.size; have := HZ0.out; omega)
  have hX4 : Below W.heap.size W w4 := HX.out.trans (hb.mono HWB.out)
  have hX34 : Below X0.heap.size X0 w4 := HX3.out.trans (hb.mono (by have := HX3.out.size; omega))
  have HX4 := Lib.hid hX4
  have H0 : Hid (BkIn w4 B g mb 0 (heardB ⟨nd, ep, zs, []⟩ (l.take 0)) w4) := Lib.hid ⟨hB, SmBk.nil _ _ _, Below.refl _ _⟩
  have HG0 := Lib.hid (HB0.out.below hX34)
  have HG1 := Lib.hid (HB1.out.below hX34)
  have HG2 := Lib.hid (HB2.out.below hX34)
  have HB4 : Hid (B ≤ w4.heap.size) := Lib.hid (by rw [← hBe]; exact hb.size)
  clear he hB hb hBe hX4 hX34 HX HX3 HNw cc0 cc1 dq1 dq1n q1 HZ0 HE0 HB0 HE1 HB1 HE2 HB2
  go_wp2_with fail
  go_loopw [13] (fun i wr => ∃ (k : Nat), k ≤ K ∧ i = .int .i64 k ∧ Hid (BkIn w4 B g mb k (heardB ⟨nd, ep, zs, []⟩ (l.take k)) wr)) (fun i _ => K - (intOf i).toNat)
  case atStart => exact ⟨0, Nat.zero_le _, rfl, H0⟩
  case round =>
    clear H0
    obtain ⟨k, hk, rfl, H⟩ := hrel
    by_cases hlt : k < K
    · have hk1 : (k : Int) < (K : Int) := by omega
      have hk2 : decide ((k : Int) < (K : Int)) = true := decide_eq_true hk1
      have hk3 : decide (k < K) = true := decide_eq_true hlt
      obtain ⟨-, hlk, gg, off, cs, ha, hg, hcs, hc⟩ := HR.out.el rfl k hlt
      subst ha
      have eK : KM.k = 27 := rfl
      rw [eK] at hc
      clear eK
      have hWr : Below W.heap.size W wr := HX4.out.trans (H.out.gr.mono HWB.out)
      have HRG : Hid (wr.rangeAt gg (off + k * 27) cs) := Lib.hid fun j v hv => (hWr.cell (p := ⟨gg, off + k * 27 + j, none⟩) hg).trans (hc j v hv)
      have hlc : cs.length = 27 := by obtain ⟨u, u1, u2, u3, hq⟩ := hcs; rw [hq.cs]; rfl
      have Hinf : Hid ((Tryz.prog.info? 54).map (·.size) = some cs.length) := Lib.hid (by rw [hlc]; kernel_rfl)
      have hmk : MgA wr (.agg cs.toArray) l[k] := (MsgIs.on ⟨cs.toArray, rfl, by simpa using hcs⟩ hWr).mga
      have HHr := Lib.hid (hear_in H.out (by have := HKb.out; omega) (by rw [(heard_same ⟨nd, ep, zs, []⟩ (l.take k)).2.2]; have := HN.out; show zs.length ≤ 1000; omega) (HML.out.below hWr) hmk (HLl.out.2 _ (List.getElem_mem hlk)))
      have HSn : Hid (heardB ⟨nd, ep, zs, []⟩ (l.take (k + 1)) = (hearB lclA (heardB ⟨nd, ep, zs, []⟩ (l.take k)) l[k]).1) := Lib.hid (by rw [List.take_succ_eq_append_getElem hlk, heard_snoc])
      have hgw : gg < wr.heap.size := Nat.lt_of_lt_of_le hg hWr.size
      clear hc hcs hlc hmk hWr hg
      go_wp2_with (first | refine wpList_load_mid rfl _ _ rfl gg (off + k * 27) rfl _ _ HRG.out Tryz.underlying54 rfl Hinf.out ?_ | fail)
      refine HHr.out.mono ?_
      rintro e w7 ⟨v7, he, hk7, hg7, ha7⟩
      rw [he.out]
      have H7 : Hid (BkIn w4 B g mb (k + 1) (heardB ⟨nd, ep, zs, []⟩ (l.take (k + 1))) w7) := Lib.hid (by rw [HSn.out]; exact hk7)
      clear he hk7 hg7 ha7 H HHr HRG HSn Hinf
      go_wp2_with fail
      go_roundw
      case rel => exact ⟨k + 1, by omega, by go_num, H7⟩
      case measure => simp [intOf]; omega
    · have e : k = K := by omega
      subst e
      have hk2 : decide ((k : Int) < (k : Int)) = false := decide_eq_false (by omega)
      have hk3 : decide (k < k) = false := decide_eq_false (by omega)
      obtain ⟨b, hbe⟩ : ∃ b, heardB ⟨nd, ep, zs, []⟩ l = b := ⟨_, rfl⟩
      have HSm : Hid (b.node = nd ∧ b.ep = ep ∧ b.ns = zs) := Lib.hid (by rw [← hbe]; exact heard_same _ _)
      have HH : Hid (BkIn w4 B g mb k b wr) := Lib.hid (by have h := H.out; rw [← HK.out, List.take_length, hbe, HK.out] at h; exact h)
      have HX : Hid (Below W.heap.size W wr) := Lib.hid (HX4.out.trans (HH.out.gr.mono HWB.out))
      have HNs : Hid (b.ns.length ≤ 1000) := Lib.hid (by rw [HSm.out.2.2]; have := HN.out; omega)
      have HB0 : Hid (Bk wr (W.heap.size) 24 [.int .i64 ep, .slice ao N co]) := Lib.hid ((HH.out.gr.block _ (by have := HXB.out; omega)).trans HG0.out)
      have HB1 : Hid (Bk wr (W.heap.size + 1) 54 [.int .i64 n0, .int .i64 n1, .int .i64 n2, .int .i64 n3, .int .i64 n4, .int .i64 n5, .int .i64 n6, .int .i64 n7, .int .i64 n8, .int .i64 n9, .int .i64 n10, .int .i64 n11, .int .i64 n12, .int .i64 n13, .int .i64 n14, .int .i64 n15, .string n16, .string n17, .int .i64 n18, .int .i64 n19, .int .i64 n20, .int .i64 n21, .slice ua M uc, .int .i64 n23, .slice a1 d1 c1, .slice a2 d2 c2, .slice a3 d3 c3]) := Lib.hid ((HH.out.gr.block _ (by have := HXB.out; omega)).trans HG1.out)
      have HB2 : Hid (Bk wr (W.heap.size + 1 + 1) 54 [.int .i64 m0, .int .i64 m1, .int .i64 m2, .int .i64 m3, .int .i64 m4, .int .i64 m5, .int .i64 m6, .int .i64 m7, .int .i64 m8, .int .i64 m9, .int .i64 m10, .int .i64 m11, .int .i64 m12, .int .i64 m13, .int .i64 m14, .int .i64 m15, .string m16, .string m17, .int .i64 m18, .int .i64 m19, .int .i64 m20, .int .i64 m21, .slice ub Mb ub2, .int .i64 m23, .slice b1 g1 k1, .slice b2 g2 k2, .slice b3 g3 k3]) := Lib.hid ((HH.out.gr.block _ (by have := HXB.out; omega)).trans HG2.out)
      clear H hbe hlt hk HG0 HG1 HG2
      have u1 := HB1.out.cell 0
      have u2 := HB2.out.cell 0
      have uf1 := HB1.out.fz 0
      have uf2 := HB2.out.fz 0
      simp only [List.getElem?_cons_zero, List.getElem?_cons_succ] at u1 u2
      obtain ⟨V, hV⟩ : ∃ V, (wr.setCell ⟨W.heap.size + 1, 0, none⟩ (.int .i64 2)).setCell ⟨W.heap.size + 1 + 1, 0, none⟩ (.int .i64 2) = V := ⟨_, rfl⟩
      have hq1 := HB2.out.other (b2 := W.heap.size + 1) (by omega) 0 (.int .i64 2)
      have HA : Hid (Bk V (W.heap.size + 1) 54 [.int .i64 2, .int .i64 n1, .int .i64 n2, .int .i64 n3, .int .i64 n4, .int .i64 n5, .int .i64 n6, .int .i64 n7, .int .i64 n8, .int .i64 n9, .int .i64 n10, .int .i64 n11, .int .i64 n12, .int .i64 n13, .int .i64 n14, .int .i64 n15, .string n16, .string n17, .int .i64 n18, .int .i64 n19, .int .i64 n20, .int .i64 n21, .slice ua M uc, .int .i64 n23, .slice a1 d1 c1, .slice a2 d2 c2, .slice a3 d3 c3]) := Lib.hid (by rw [← hV]; exact (HB1.out.set 0 (.int .i64 2)).other (by omega) 0 (.int .i64 2))
      have HB : Hid (Bk V (W.heap.size + 1 + 1) 54 [.int .i64 2, .int .i64 m1, .int .i64 m2, .int .i64 m3, .int .i64 m4, .int .i64 m5, .int .i64 m6, .int .i64 m7, .int .i64 m8, .int .i64 m9, .int .i64 m10, .int .i64 m11, .int .i64 m12, .int .i64 m13, .int .i64 m14, .int .i64 m15, .string m16, .string m17, .int .i64 m18, .int .i64 m19, .int .i64 m20, .int .i64 m21, .slice ub Mb ub2, .int .i64 m23, .slice b1 g1 k1, .slice b2 g2 k2, .slice b3 g3 k3]) := Lib.hid (by rw [← hV]; exact hq1.set 0 (.int .i64 2))
      have H : Hid (BkIn V B g mb k b V) := Lib.hid (by rw [← hV]; exact (HH.out.blk (grown_setCell _ _ _ _) HB1.out (by decide) (by decide) (by decide)).blk (grown_setCell _ _ _ _) hq1 (by decide) (by decide) (by decide))
      have HX' : Hid (Below W.heap.size W V) := Lib.hid (by rw [← hV]; exact (HX.out.setCell (show W.heap.size ≤ (⟨W.heap.size + 1, 0, none⟩ : Addr).block from Nat.le_succ _) _).setCell (show W.heap.size ≤ (⟨W.heap.size + 1 + 1, 0, none⟩ : Addr).block from Nat.le_succ_of_le (Nat.le_succ _)) _)
      have k3 := HB1.out.cell 3
      have k4 := HB1.out.cell 4
      have k5 := HB1.out.cell 5
      simp only [List.getElem?_cons_zero, List.getElem?_cons_succ] at k3 k4 k5
      obtain ⟨xg, hxg⟩ : ∃ x, getL b.l (n3, n4, n5) = x := ⟨_, rfl⟩
      have HGL := Lib.hid hxg
      have hk40 : k ≤ 40 := HKb.out
      have HGt := get_in H.out (by omega) HID1.out
      rw [hxg] at HGt
      obtain ⟨p0, ⟨p1, p2⟩, ⟨p3, p4⟩, ⟨p5, p6, p7, p8, p9, p10, p11, p12⟩, ps, pl⟩ := xg
      obtain ⟨P, hP⟩ : ∃ P, pl.length = P := ⟨_, rfl⟩
      have HGt2 : Hid (Calls Tryz.prog 20 #[bP g, .agg #[.int .i64 n3, .int .i64 n4, .int .i64 n5]] V (fun e w' => ∃ ga gc, Hid (e = .returned (.agg #[.int .i64 p0, .int .i64 p1, .int .i64 p2, .int .i64 p3, .int .i64 p4, .int .i64 p5, .int .i64 p6, .int .i64 p7, .string p8, .string p9, .int .i64 p10, .int .i64 p11, .int .i64 p12, .int .i64 ps, .slice ga P gc])) ∧ Below V.heap.size V w')) := Lib.hid (HGt.mono fun e w' ⟨v', he, ho, hb⟩ => by
        obtain ⟨ga, gc, hv⟩ := ho.slice
        simp only at hv
        rw [hP] at hv
        subst hv
        exact ⟨ga, gc, he, hb⟩)
      have m0 := HA.out.cell 3
      have m1' := HA.out.cell 4
      have m2' := HA.out.cell 5
      simp only [List.getElem?_cons_zero, List.getElem?_cons_succ] at m0 m1' m2'
      clear HX HH HGt hP hxg hq1
      have HX := HX'
      clear HX'
      go_wp2_with fail
      try rw [hV]
      refine HGt2.out.mono ?_
      rintro e w10 ⟨ga, gc, he, hb⟩
      rw [he.out]
      have hbq : Below V.heap.size V (w10.alloc (.cells #[.int .i64 p0, .int .i64 p1, .int .i64 p2, .int .i64 p3, .int .i64 p4, .int .i64 p5, .int .i64 p6, .int .i64 p7, .string p8, .string p9, .int .i64 p10, .int .i64 p11, .int .i64 p12, .int .i64 ps, .slice ga P gc] 48)) := hb.alloc hb.size _
      have HWs : Hid (Bk (w10.alloc (.cells #[.int .i64 p0, .int .i64 p1, .int .i64 p2, .int .i64 p3, .int .i64 p4, .int .i64 p5, .int .i64 p6, .int .i64 p7, .string p8, .string p9, .int .i64 p10, .int .i64 p11, .int .i64 p12, .int .i64 ps, .slice ga P gc] 48)) w10.heap.size 48 [.int .i64 p0, .int .i64 p1, .int .i64 p2, .int .i64 p3, .int .i64 p4, .int .i64 p5, .int .i64 p6, .int .i64 p7, .string p8, .string p9, .int .i64 p10, .int .i64 p11, .int .i64 p12, .int .i64 ps, .slice ga P gc]) := Lib.hid (Bk.new w10 _ _)
      obtain ⟨wb, hwb⟩ : ∃ q, w10.heap.size = q := ⟨_, rfl⟩
      obtain ⟨w11, hw11⟩ : ∃ w11, w10.alloc (.cells #[.int .i64 p0, .int .i64 p1, .int .i64 p2, .int .i64 p3, .int .i64 p4, .int .i64 p5, .int .i64 p6, .int .i64 p7, .string p8, .string p9, .int .i64 p10, .int .i64 p11, .int .i64 p12, .int .i64 ps, .slice ga P gc] 48) = w11 := ⟨_, rfl⟩
      rw [hw11] at HWs hbq
      rw [hwb] at HWs
      have HX' := Lib.hid (HX.out.trans (hbq.mono HX.out.size))
      have H' := Lib.hid (H.out.on hbq (Nat.le_trans H.out.at'.lo.1 (Nat.le_of_lt H.out.at'.lt)))
      have HA' := Lib.hid (HA.out.below hbq)
      have HB' := Lib.hid (HB.out.below hbq)
      clear hbq HX H HA HB
      have HX := HX'
      have H := H'
      have HA := HA'
      have HB := HB'
      clear HX' H' HA' HB'
      clear he hb HGt2 hV u1 u2 uf1 uf2 k3 k4 k5 m0 m1' m2' HB1 HB2
      have HRa := Lib.hid (bright_any H.out.at' HNs.out (HMk.out 2 w11 HX.out) (by have h : dl.length ≤ 60 := HSx.out.1; show dl.length ≤ 10000; omega))
      go_wp2_with (first
        | refine wpList_load_rowG rfl _ _ rfl (W.heap.size + 1) rfl 54 _ (0, 0) _ HA.out Tryz.underlying54 rfl (by kernel_rfl) ?_
        | refine wpList_load_rowG rfl _ _ rfl (W.heap.size + 1 + 1) rfl 54 _ (0, 0) _ HB.out Tryz.underlying54 rfl (by kernel_rfl) ?_
        | fail)
      try rw [hw11]
      try rw [hwb]
      clear hw11 hwb
      refine HRa.out.mono ?_
      rintro e w12 ⟨rfl, hb⟩
      clear HRa
      have HX' := Lib.hid (HX.out.trans (hb.mono HX.out.size))
      have H' := Lib.hid (H.out.on hb (Nat.le_trans H.out.at'.lo.1 (Nat.le_of_lt H.out.at'.lt)))
      have HA' := Lib.hid (HA.out.below hb)
      have HB' := Lib.hid (HB.out.below hb)
      have HWs' := Lib.hid (HWs.out.below hb)
      clear hb HX H HA HB HWs
      have HX := HX'
      have H := H'
      have HA := HA'
      have HB := HB'
      have HWs := HWs'
      clear HX' H' HA' HB' HWs'
      cases qra : rightB b ⟨2, n1, n2, (n3, n4, n5), (n6, n7), ⟨n8, (n9, n10), (n11, n12), ⟨n13, n14, n15, n16, n17, n18, n19, n20⟩, (n21, dl)⟩, sn0⟩ with
      | false =>
        go_wp2
        go_ret
        exact ⟨rfl, HX.out⟩
      | true =>
      have HRb := Lib.hid (bright_any H.out.at' HNs.out (HMk2.out 2 w12 HX.out) (by have h : el.length ≤ 60 := HSy.out.1; show el.length ≤ 10000; omega))
      have HQA := Lib.hid qra
      clear qra
      go_wp2_with (first
        | refine wpList_load_rowG rfl _ _ rfl (W.heap.size + 1) rfl 54 _ (0, 0) _ HA.out Tryz.underlying54 rfl (by kernel_rfl) ?_
        | refine wpList_load_rowG rfl _ _ rfl (W.heap.size + 1 + 1) rfl 54 _ (0, 0) _ HB.out Tryz.underlying54 rfl (by kernel_rfl) ?_
        | fail)
      refine HRb.out.mono ?_
      rintro e w13 ⟨rfl, hb⟩
      clear HRb
      have HX' := Lib.hid (HX.out.trans (hb.mono HX.out.size))
      have H' := Lib.hid (H.out.on hb (Nat.le_trans H.out.at'.lo.1 (Nat.le_of_lt H.out.at'.lt)))
      have HA' := Lib.hid (HA.out.below hb)
      have HB' := Lib.hid (HB.out.below hb)
      have HWs' := Lib.hid (HWs.out.below hb)
      clear hb HX H HA HB HWs
      have HX := HX'
      have H := H'
      have HA := HA'
      have HB := HB'
      have HWs := HWs'
      clear HX' H' HA' HB' HWs'
      cases qrb : rightB b ⟨2, m1, m2, (m3, m4, m5), (m6, m7), ⟨m8, (m9, m10), (m11, m12), ⟨m13, m14, m15, m16, m17, m18, m19, m20⟩, (m21, el)⟩, tn0⟩ with
      | false =>
        go_wp2
        go_ret
        exact ⟨rfl, HX.out⟩
      | true =>
      have HQB := Lib.hid qrb
      clear qrb
      have z3 := HA.out.cell 3
      have z4 := HA.out.cell 4
      have z5 := HA.out.cell 5
      have y3 := HB.out.cell 3
      have y4 := HB.out.cell 4
      have y5 := HB.out.cell 5
      have z6 := HA.out.cell 6
      have z7 := HA.out.cell 7
      have y6 := HB.out.cell 6
      have y7 := HB.out.cell 7
      have v0 := HWs.out.cell 0
      have v1 := HWs.out.cell 1
      have v2 := HWs.out.cell 2
      simp only [List.getElem?_cons_zero, List.getElem?_cons_succ] at z3 z4 z5 y3 y4 y5 z6 z7 y6 y7 v0 v1 v2
      obtain ⟨_, gdi⟩ := eqI_run n3 n4 n5 m3 m4 m5
      by_cases hq : ((n3, n4, n5) : I3) = (m3, m4, m5)
      case neg =>
        have nd1 := neI_runA n3 n4 n5 m3 m4 m5 false (decide_eq_false hq)
        go_wp2
        go_ret
        exact ⟨rfl, HX.out⟩
      obtain ⟨rfl, h2⟩ := Prod.mk.inj hq
      obtain ⟨rfl, rfl⟩ := Prod.mk.inj h2
      have nd1 := neI_runA n3 n4 n5 n3 n4 n5 true (by simp)
      clear h2 hq
      by_cases h3 : p0 = 3
      case pos =>
        subst h3
        go_wp2
        go_ret
        exact ⟨rfl, HX.out⟩
      have h3b : (p0 == 3) = false := by simpa using h3
      have HL1 := Lib.hid (Bb.less_any n6 n7 p1 p2 w13)
      cases ql1 : lessBl (n6, n7) (p1, p2) with
      | true =>
        rw [show Bb.lessB n6 n7 p1 p2 = true from ql1] at HL1
        clear ql1
        go_wp2_with fail
        refine HL1.out.mono ?_
        rintro e w14 ⟨rfl, hb⟩
        have HX' := Lib.hid (HX.out.trans (hb.mono HX.out.size))
        clear hb z3 z4 z5 y3 y4 y5 z6 z7 y6 y7 v0 v1 v2
        go_wp2
        go_ret
        exact ⟨rfl, HX'.out⟩
      | false =>
      rw [show Bb.lessB n6 n7 p1 p2 = false from ql1] at HL1
      have HQ1 := Lib.hid ql1
      clear ql1
      go_wp2_with fail
      refine HL1.out.mono ?_
      rintro e w14 ⟨rfl, hb⟩
      clear z3 z4 z5 y3 y4 y5 z6 z7 y6 y7 v0 v1 v2 HL1
      have HX' := Lib.hid (HX.out.trans (hb.mono HX.out.size))
      have H' := Lib.hid (H.out.on hb (Nat.le_trans H.out.at'.lo.1 (Nat.le_of_lt H.out.at'.lt)))
      have HA' := Lib.hid (HA.out.below hb)
      have HB' := Lib.hid (HB.out.below hb)
      have HWs' := Lib.hid (HWs.out.below hb)
      clear hb HX H HA HB HWs
      have HX := HX'
      have H := H'
      have HA := HA'
      have HB := HB'
      have HWs := HWs'
      clear HX' H' HA' HB' HWs'
      have z3 := HA.out.cell 3
      have z4 := HA.out.cell 4
      have z5 := HA.out.cell 5
      have y3 := HB.out.cell 3
      have y4 := HB.out.cell 4
      have y5 := HB.out.cell 5
      have z6 := HA.out.cell 6
      have z7 := HA.out.cell 7
      have y6 := HB.out.cell 6
      have y7 := HB.out.cell 7
      have v0 := HWs.out.cell 0
      have v1 := HWs.out.cell 1
      have v2 := HWs.out.cell 2
      simp only [List.getElem?_cons_zero, List.getElem?_cons_succ] at z3 z4 z5 y3 y4 y5 z6 z7 y6 y7 v0 v1 v2
      have HL2 := Lib.hid (Bb.less_any n6 n7 m6 m7 w14)
      cases ql2 : lessBl (n6, n7) (m6, m7) with
      | false =>
        rw [show Bb.lessB n6 n7 m6 m7 = false from ql2] at HL2
        clear ql2
        go_wp2_with fail
        refine HL2.out.mono ?_
        rintro e w15 ⟨rfl, hb⟩
        have HX' := Lib.hid (HX.out.trans (hb.mono HX.out.size))
        clear hb z3 z4 z5 y3 y4 y5 z6 z7 y6 y7 v0 v1 v2
        go_wp2
        go_ret
        exact ⟨rfl, HX'.out⟩
      | true =>
      rw [show Bb.lessB n6 n7 m6 m7 = true from ql2] at HL2
      have HBal := Lib.hid (hear_ballots lclA H.out.at'.rise (a := ⟨2, n1, n2, (n3, n4, n5), (n6, n7), ⟨n8, (n9, n10), (n11, n12), ⟨n13, n14, n15, n16, n17, n18, n19, n20⟩, (n21, dl)⟩, sn0⟩) (b := ⟨2, m1, m2, (n3, n4, n5), (m6, m7), ⟨m8, (m9, m10), (m11, m12), ⟨m13, m14, m15, m16, m17, m18, m19, m20⟩, (m21, el)⟩, tn0⟩) rfl rfl HQA.out HQB.out rfl (by rw [HGL.out]; exact h3) (by rw [HGL.out]; exact HQ1.out) ql2)
      clear ql2
      go_wp2_with fail
      refine HL2.out.mono ?_
      rintro e w15 ⟨rfl, hb⟩
      clear z3 z4 z5 y3 y4 y5 z6 z7 y6 y7 v0 v1 v2 HL2 gdi nd1 h3 h3b
      have HX' := Lib.hid (HX.out.trans (hb.mono HX.out.size))
      have H' := Lib.hid (H.out.on hb (Nat.le_trans H.out.at'.lo.1 (Nat.le_of_lt H.out.at'.lt)))
      have HA' := Lib.hid (HA.out.below hb)
      have HB' := Lib.hid (HB.out.below hb)
      have HWs' := Lib.hid (HWs.out.below hb)
      clear hb HX H HA HB HWs
      have HX := HX'
      have H := H'
      have HA := HA'
      have HB := HB'
      have HWs := HWs'
      clear HX' H' HA' HB' HWs'
      obtain ⟨xa, xb, e1, e2, e3, e4⟩ := HBal.out
      have HE0 := Lib.hid e1
      have HE1 := Lib.hid e2
      have HE2 := Lib.hid e3
      have HE4 := Lib.hid e4
      have hwl := HWs.out.lt
      clear e1 e2 e3 e4 HBal HQA HQB HQ1 HWs hwl
      have HHr := Lib.hid (hear_in H.out (by omega) HNs.out (HML.out.below HX.out) (HMk.out 2 _ HX.out) (show SmMg ⟨2, n1, n2, (n3, n4, n5), (n6, n7), ⟨n8, (n9, n10), (n11, n12), ⟨n13, n14, n15, n16, n17, n18, n19, n20⟩, (n21, dl)⟩, sn0⟩ from HSx.out))
      go_wp2_with (first
        | refine wpList_load_rowG rfl _ _ rfl (W.heap.size + 1) rfl 54 _ (0, 0) _ HA.out Tryz.underlying54 rfl (by kernel_rfl) ?_
        | refine wpList_load_rowG rfl _ _ rfl (W.heap.size + 1 + 1) rfl 54 _ (0, 0) _ HB.out Tryz.underlying54 rfl (by kernel_rfl) ?_
        | fail)
      refine HHr.out.mono ?_
      rintro e wh0 ⟨vh0, he, hkh, hgh, hah⟩
      rw [he.out]
      rw [HE0.out] at hah
      obtain ⟨gh0, uh0, rfl, hc0, _, _⟩ := ans_one hah
      have HC0 : Hid (Bk wh0 gh0 54 (msE (ansB b 3 ⟨2, n1, n2, (n3, n4, n5), (n6, n7), ⟨n8, (n9, n10), (n11, n12), ⟨n13, n14, n15, n16, n17, n18, n19, n20⟩, (n21, dl)⟩, sn0⟩ (n6, n7) xa) uh0 (.slice none 0 0) (.slice none 0 0) (.slice none 0 0))) := Lib.hid hc0
      have HA' := Lib.hid ((hgh.block _ (Bk.lt HA.out) (by simpa using H.out.at'.blkNe _ _ _ _ HA.out)).trans HA.out)
      have HB' := Lib.hid ((hgh.block _ (Bk.lt HB.out) (by simpa using H.out.at'.blkNe _ _ _ _ HB.out)).trans HB.out)
      have HX' : Hid (Below W.heap.size W wh0) := Lib.hid (HX.out.grown hgh HX.out.size (fun k e => by cases e; exact Nat.le_trans HWB.out H.out.at'.lo.2))
      have H' := Lib.hid hkh
      clear he hkh hgh hah hc0 HHr H HX HA HB
      have H := H'
      have HX := HX'
      have HA := HA'
      have HB := HB'
      clear H' HX' HA' HB'
      have HHr := Lib.hid (hear_in H.out (by omega) (by rw [(hear_same lclA (b := b) ⟨2, n1, n2, (n3, n4, n5), (n6, n7), ⟨n8, (n9, n10), (n11, n12), ⟨n13, n14, n15, n16, n17, n18, n19, n20⟩, (n21, dl)⟩, sn0⟩).2.2]; exact HNs.out) (HML.out.below HX.out) (HMk2.out 2 _ HX.out) (show SmMg ⟨2, m1, m2, (n3, n4, n5), (m6, m7), ⟨m8, (m9, m10), (m11, m12), ⟨m13, m14, m15, m16, m17, m18, m19, m20⟩, (m21, el)⟩, tn0⟩ from HSy.out))
      go_wp2_with (first
        | refine wpList_load_rowG rfl _ _ rfl (W.heap.size + 1) rfl 54 _ (0, 0) _ HA.out Tryz.underlying54 rfl (by kernel_rfl) ?_
        | refine wpList_load_rowG rfl _ _ rfl (W.heap.size + 1 + 1) rfl 54 _ (0, 0) _ HB.out Tryz.underlying54 rfl (by kernel_rfl) ?_
        | fail)
      refine HHr.out.mono ?_
      rintro e wh1 ⟨vh1, he, hkh, hgh, hah⟩
      rw [he.out]
      rw [HE1.out] at hah
      obtain ⟨gh1, uh1, rfl, hc1, _, _⟩ := ans_one hah
      have HC1 : Hid (Bk wh1 gh1 54 (msE (ansB b 3 ⟨2, m1, m2, (n3, n4, n5), (m6, m7), ⟨m8, (m9, m10), (m11, m12), ⟨m13, m14, m15, m16, m17, m18, m19, m20⟩, (m21, el)⟩, tn0⟩ (m6, m7) xb) uh1 (.slice none 0 0) (.slice none 0 0) (.slice none 0 0))) := Lib.hid hc1
      have HA' := Lib.hid ((hgh.block _ (Bk.lt HA.out) (by simpa using H.out.at'.blkNe _ _ _ _ HA.out)).trans HA.out)
      have HB' := Lib.hid ((hgh.block _ (Bk.lt HB.out) (by simpa using H.out.at'.blkNe _ _ _ _ HB.out)).trans HB.out)
      have HC0' := Lib.hid ((hgh.block _ (Bk.lt HC0.out) (by simpa using H.out.at'.blkNe _ _ _ _ HC0.out)).trans HC0.out)
      have HX' : Hid (Below W.heap.size W wh1) := Lib.hid (HX.out.grown hgh HX.out.size (fun k e => by cases e; exact Nat.le_trans HWB.out H.out.at'.lo.2))
      have H' := Lib.hid hkh
      clear he hkh hgh hah hc1 HHr H HX HA HB HC0
      have H := H'
      have HX := HX'
      have HA := HA'
      have HB := HB'
      have HC0 := HC0'
      clear H' HX' HA' HB' HC0'
      have HHr := Lib.hid (hear_in H.out (by omega) (by rw [(hear_same lclA (b := (hearB lclA b ⟨2, n1, n2, (n3, n4, n5), (n6, n7), ⟨n8, (n9, n10), (n11, n12), ⟨n13, n14, n15, n16, n17, n18, n19, n20⟩, (n21, dl)⟩, sn0⟩).1) ⟨2, m1, m2, (n3, n4, n5), (m6, m7), ⟨m8, (m9, m10), (m11, m12), ⟨m13, m14, m15, m16, m17, m18, m19, m20⟩, (m21, el)⟩, tn0⟩).2.2, (hear_same lclA (b := b) ⟨2, n1, n2, (n3, n4, n5), (n6, n7), ⟨n8, (n9, n10), (n11, n12), ⟨n13, n14, n15, n16, n17, n18, n19, n20⟩, (n21, dl)⟩, sn0⟩).2.2]; exact HNs.out) (HML.out.below HX.out) (HMk.out 2 _ HX.out) (show SmMg ⟨2, n1, n2, (n3, n4, n5), (n6, n7), ⟨n8, (n9, n10), (n11, n12), ⟨n13, n14, n15, n16, n17, n18, n19, n20⟩, (n21, dl)⟩, sn0⟩ from HSx.out))
      go_wp2_with (first
        | refine wpList_load_rowG rfl _ _ rfl (W.heap.size + 1) rfl 54 _ (0, 0) _ HA.out Tryz.underlying54 rfl (by kernel_rfl) ?_
        | refine wpList_load_rowG rfl _ _ rfl (W.heap.size + 1 + 1) rfl 54 _ (0, 0) _ HB.out Tryz.underlying54 rfl (by kernel_rfl) ?_
        | fail)
      refine HHr.out.mono ?_
      rintro e wh2 ⟨vh2, he, hkh, hgh, hah⟩
      rw [he.out]
      rw [HE2.out] at hah
      obtain ⟨gh2, uh2, rfl, hc2, _, _⟩ := ans_one hah
      have HC2 : Hid (Bk wh2 gh2 54 (msE (ansB b 7 ⟨2, n1, n2, (n3, n4, n5), (n6, n7), ⟨n8, (n9, n10), (n11, n12), ⟨n13, n14, n15, n16, n17, n18, n19, n20⟩, (n21, dl)⟩, sn0⟩ (m6, m7) in0) uh2 (.slice none 0 0) (.slice none 0 0) (.slice none 0 0))) := Lib.hid hc2
      have HA' := Lib.hid ((hgh.block _ (Bk.lt HA.out) (by simpa using H.out.at'.blkNe _ _ _ _ HA.out)).trans HA.out)
      have HB' := Lib.hid ((hgh.block _ (Bk.lt HB.out) (by simpa using H.out.at'.blkNe _ _ _ _ HB.out)).trans HB.out)
      have HC0' := Lib.hid ((hgh.block _ (Bk.lt HC0.out) (by simpa using H.out.at'.blkNe _ _ _ _ HC0.out)).trans HC0.out)
      have HC1' := Lib.hid ((hgh.block _ (Bk.lt HC1.out) (by simpa using H.out.at'.blkNe _ _ _ _ HC1.out)).trans HC1.out)
      have HX' : Hid (Below W.heap.size W wh2) := Lib.hid (HX.out.grown hgh HX.out.size (fun k e => by cases e; exact Nat.le_trans HWB.out H.out.at'.lo.2))
      have H' := Lib.hid hkh
      clear he hkh hgh hah hc2 HHr H HX HA HB HC0 HC1
      have H := H'
      have HX := HX'
      have HA := HA'
      have HB := HB'
      have HC0 := HC0'
      have HC1 := HC1'
      clear H' HX' HA' HB' HC0' HC1'
      have HGt := get_in H.out (by omega) HID1.out
      rw [HE4.out] at HGt
      have HGt2 : Hid (Calls Tryz.prog 20 #[bP g, .agg #[.int .i64 n3, .int .i64 n4, .int .i64 n5]] wh2 (fun e w' => ∃ na nc, Hid (e = .returned (.agg #[.int .i64 2, .int .i64 m6, .int .i64 m7, .int .i64 m6, .int .i64 m7, .int .i64 m13, .int .i64 m14, .int .i64 m15, .string m16, .string m17, .int .i64 m18, .int .i64 m19, .int .i64 m20, .int .i64 m21, .slice na Mb nc])) ∧ Below wh2.heap.size wh2 w')) := Lib.hid (HGt.mono fun e w' ⟨v', he, ho, hb⟩ => by
        obtain ⟨na, nc, hv⟩ := ho.slice
        simp only at hv
        rw [HMl2.out] at hv
        subst hv
        exact ⟨na, nc, he, hb⟩)
      have z3 := Bk.cell HA.out 3
      have z4 := Bk.cell HA.out 4
      have z5 := Bk.cell HA.out 5
      simp only [List.getElem?_cons_zero, List.getElem?_cons_succ] at z3 z4 z5
      clear HGt HE0 HE1 HE2 HE4
      go_wp2_with fail
      refine HGt2.out.mono ?_
      rintro e w20 ⟨na, nc, he, hb⟩
      rw [he.out]
      have hbq : Below wh2.heap.size wh2 (w20.alloc (.cells #[.int .i64 2, .int .i64 m6, .int .i64 m7, .int .i64 m6, .int .i64 m7, .int .i64 m13, .int .i64 m14, .int .i64 m15, .string m16, .string m17, .int .i64 m18, .int .i64 m19, .int .i64 m20, .int .i64 m21, .slice na Mb nc] 48)) := hb.alloc hb.size _
      have hNw : Bk (w20.alloc (.cells #[.int .i64 2, .int .i64 m6, .int .i64 m7, .int .i64 m6, .int .i64 m7, .int .i64 m13, .int .i64 m14, .int .i64 m15, .string m16, .string m17, .int .i64 m18, .int .i64 m19, .int .i64 m20, .int .i64 m21, .slice na Mb nc] 48)) w20.heap.size 48 [.int .i64 2, .int .i64 m6, .int .i64 m7, .int .i64 m6, .int .i64 m7, .int .i64 m13, .int .i64 m14, .int .i64 m15, .string m16, .string m17, .int .i64 m18, .int .i64 m19, .int .i64 m20, .int .i64 m21, .slice na Mb nc] := Bk.new w20 _ _
      obtain ⟨nb, hnb⟩ : ∃ q, w20.heap.size = q := ⟨_, rfl⟩
      obtain ⟨w21, hw21⟩ : ∃ w21, w20.alloc (.cells #[.int .i64 2, .int .i64 m6, .int .i64 m7, .int .i64 m6, .int .i64 m7, .int .i64 m13, .int .i64 m14, .int .i64 m15, .string m16, .string m17, .int .i64 m18, .int .i64 m19, .int .i64 m20, .int .i64 m21, .slice na Mb nc] 48) = w21 := ⟨_, rfl⟩
      rw [hw21] at hNw hbq
      rw [hnb] at hNw
      have r0 := (Bk.below HC0.out hbq).cell 0
      have r1 := (Bk.below HC1.out hbq).cell 0
      have r2 := (Bk.below HC2.out hbq).cell 0
      have q0 := hNw.cell 0
      have q3 := hNw.cell 3
      have q4 := hNw.cell 4
      have q5 := hNw.cell 5
      have q6 := hNw.cell 6
      have q7 := hNw.cell 7
      have q8 := hNw.cell 8
      have q9 := hNw.cell 9
      have q10 := hNw.cell 10
      have q11 := hNw.cell 11
      have q12 := hNw.cell 12
      have s6 := (Bk.below HB.out hbq).cell 6
      have s7 := (Bk.below HB.out hbq).cell 7
      have s13 := (Bk.below HB.out hbq).cell 13
      have s14 := (Bk.below HB.out hbq).cell 14
      have s15 := (Bk.below HB.out hbq).cell 15
      have s16 := (Bk.below HB.out hbq).cell 16
      have s17 := (Bk.below HB.out hbq).cell 17
      have s18 := (Bk.below HB.out hbq).cell 18
      have s19 := (Bk.below HB.out hbq).cell 19
      have s20 := (Bk.below HB.out hbq).cell 20
      simp only [msE, ansB, List.cons_append, List.nil_append, List.getElem?_cons_zero, List.getElem?_cons_succ] at r0 r1 r2 q0 q3 q4 q5 q6 q7 q8 q9 q10 q11 q12 s6 s7 s13 s14 s15 s16 s17 s18 s19 s20
      have hl0 := (Bk.below HC0.out hbq).lt
      have hl1 := (Bk.below HC1.out hbq).lt
      have hl2 := (Bk.below HC2.out hbq).lt
      obtain ⟨ebb, gbb⟩ := eqB_runA m6 m7 m6 m7 true (by simp)
      obtain ⟨ecc, _, gcc⟩ := eqC_selfA m13 m14 m15 m16 m17 m18 m19 m20
      have HXf : Hid (Below W.heap.size W w21) := Lib.hid (HX.out.trans (hbq.mono HX.out.size))
      clear he hb hbq hNw HGt2 HC0 HC1 HC2 HA HB H HX z3 z4 z5
      go_wp2
      try rw [hw21]
      go_ret
      exact ⟨rfl, by first | exact HXf.out | (rw [hw21]; exact HXf.out)⟩
end Go.Proofs.YtchhcaoondfpiaaGreat
