/-
  Package accept's laws: AcceptPromise.
-/
import Derived.Test.YtchhcaoondfpiaaGreatAcLl
namespace Go.Proofs.YtchhcaoondfpiaaGreat
open Go.RowKit Go.Sort
open Go.WideMaps
set_option linter.unusedSimpArgs false
set_option linter.unusedVariables false
set_option maxRecDepth 100000

structure PrS (ba bm bz wb : Nat) (ca cm cy cw : List Value) (w' : World) : Prop where
  pp : Bk w' ba 54 ca
  mm : Bk w' bm 54 cm
  yy : Bk w' bz 54 cy
  ww : Bk w' wb 48 cw
set_option maxHeartbeats 16000000 in
theorem promise_law (nd : Int) (ep : Int) (ao : Option Addr) (co : Nat) (zs : List Int) (x y : Mg) (v2 v3 v4 : Value) (rs : List (Cls 27)) (l : List Mg) (W : World) (hr : It W (.slice ao zs.length co) zs) (hl : RowIs KM msS W v2 rs l) (hm : MsgIs W v3 x) (hm2 : MsgIs W v4 y) (hml : Tc.ML W) :
    Calls Tryz.prog 9 #[.int .i64 nd, .agg #[.int .i64 ep, .slice ao zs.length co], v2, v3, v4] W fun e w' => e = .returned (.bool true) ∧ Below W.heap.size W w' := by
  have HOl := Lib.hid hl
  obtain ⟨a2', c2', e2'⟩ := rowSl hl
  subst e2'
  have HMI := Lib.hid hm
  have HMV := Lib.hid hm.mga
  obtain ⟨ua, uc, a1, d1, c1, a2, d2, c2, a3, d3, c3, rfl, hrd, hokl, hid⟩ := hm.mga
  obtain ⟨n0, n1, n2, ⟨n3, n4, n5⟩, ⟨n6, n7⟩, ⟨n8, ⟨n9, n10⟩, ⟨n11, n12⟩, ⟨n13, n14, n15, n16, n17, n18, n19, n20⟩, n21, dl⟩, sn0⟩ := x
  obtain ⟨n23, sn1⟩ : ∃ q, sn0.1.1 = q := ⟨_, rfl⟩
  obtain ⟨M, hM⟩ : ∃ M, dl.length = M := ⟨_, rfl⟩
  have HMl := Lib.hid hM
  simp only at hrd hokl hid
  have HMk : Hid (∀ (k : Int) w', Below W.heap.size W w' → MgA w' (.agg #[.int .i64 k, .int .i64 n1, .int .i64 n2, .int .i64 n3, .int .i64 n4, .int .i64 n5, .int .i64 n6, .int .i64 n7, .int .i64 n8, .int .i64 n9, .int .i64 n10, .int .i64 n11, .int .i64 n12, .int .i64 n13, .int .i64 n14, .int .i64 n15, .string n16, .string n17, .int .i64 n18, .int .i64 n19, .int .i64 n20, .int .i64 n21, .slice ua M uc, .int .i64 n23, .slice a1 d1 c1, .slice a2 d2 c2, .slice a3 d3 c3]) ⟨k, n1, n2, (n3, n4, n5), (n6, n7), ⟨n8, (n9, n10), (n11, n12), ⟨n13, n14, n15, n16, n17, n18, n19, n20⟩, (n21, dl)⟩, sn0⟩) := Lib.hid fun k w' hb => ⟨ua, uc, a1, d1, c1, a2, d2, c2, a3, d3, c3, by simp only [msE, inE, snV, sn1, List.cons_append, List.nil_append]; rw [hM], hrd.below hb, hokl, hid⟩
  simp only [msE, inE, snV, hM, sn1, List.cons_append, List.nil_append] at hrd HMI HMV ⊢
  have HOKD := Lib.hid hokl
  have HID1 : Hid (okI (n3, n4, n5)) := Lib.hid hid
  clear hM sn1 hm hrd hokl hid
  have HMI2 := Lib.hid hm2
  have HMV2 := Lib.hid hm2.mga
  obtain ⟨ub, ub2, b1, g1, k1, b2, g2, k2, b3, g3, k3, rfl, hrd, hokl, hid⟩ := hm2.mga
  obtain ⟨m0, m1, m2, ⟨m3, m4, m5⟩, ⟨m6, m7⟩, ⟨m8, ⟨m9, m10⟩, ⟨m11, m12⟩, ⟨m13, m14, m15, m16, m17, m18, m19, m20⟩, m21, el⟩, tn0⟩ := y
  obtain ⟨m23, sn1⟩ : ∃ q, tn0.1.1 = q := ⟨_, rfl⟩
  obtain ⟨Mb, hM⟩ : ∃ M, el.length = M := ⟨_, rfl⟩
  have HMl2 := Lib.hid hM
  simp only at hrd hokl hid
  have HMk2 : Hid (∀ (k : Int) w', Below W.heap.size W w' → MgA w' (.agg #[.int .i64 k, .int .i64 m1, .int .i64 m2, .int .i64 m3, .int .i64 m4, .int .i64 m5, .int .i64 m6, .int .i64 m7, .int .i64 m8, .int .i64 m9, .int .i64 m10, .int .i64 m11, .int .i64 m12, .int .i64 m13, .int .i64 m14, .int .i64 m15, .string m16, .string m17, .int .i64 m18, .int .i64 m19, .int .i64 m20, .int .i64 m21, .slice ub Mb ub2, .int .i64 m23, .slice b1 g1 k1, .slice b2 g2 k2, .slice b3 g3 k3]) ⟨k, m1, m2, (m3, m4, m5), (m6, m7), ⟨m8, (m9, m10), (m11, m12), ⟨m13, m14, m15, m16, m17, m18, m19, m20⟩, (m21, el)⟩, tn0⟩) := Lib.hid fun k w' hb => ⟨ub, ub2, b1, g1, k1, b2, g2, k2, b3, g3, k3, by simp only [msE, inE, snV, sn1, List.cons_append, List.nil_append]; rw [hM], hrd.below hb, hokl, hid⟩
  simp only [msE, inE, snV, hM, sn1, List.cons_append, List.nil_append] at hrd HMI2 HMV2 ⊢
  have HOKD2 := Lib.hid hokl
  have HID2 : Hid (okI (m3, m4, m5)) := Lib.hid hid
  clear hM sn1 hm2 hrd hokl hid
  obtain ⟨K, hK⟩ : ∃ K, l.length = K := ⟨_, rfl⟩
  have hlen := hl.rd.len
  rw [hl.len, hK] at hlen
  have hK63 : K ≤ 9223372036854775807 := by unfold maxLen at hlen; omega
  obtain ⟨N, hN⟩ : ∃ N, zs.length = N := ⟨_, rfl⟩
  have hN63 := hr.len
  rw [hK] at HOl hl ⊢
  rw [hN] at hN63 ⊢
  have HR := Lib.hid hl
  have HK := Lib.hid hK
  have HN' := Lib.hid hN
  have HIt := Lib.hid hr
  have HML := Lib.hid hml
  obtain ⟨X0, hX0⟩ : ∃ X0, (((W.alloc (.cells #[.int .i64 ep, .slice ao N co] 24)).alloc (.cells #[.int .i64 n0, .int .i64 n1, .int .i64 n2, .int .i64 n3, .int .i64 n4, .int .i64 n5, .int .i64 n6, .int .i64 n7, .int .i64 n8, .int .i64 n9, .int .i64 n10, .int .i64 n11, .int .i64 n12, .int .i64 n13, .int .i64 n14, .int .i64 n15, .string n16, .string n17, .int .i64 n18, .int .i64 n19, .int .i64 n20, .int .i64 n21, .slice ua M uc, .int .i64 n23, .slice a1 d1 c1, .slice a2 d2 c2, .slice a3 d3 c3] 54)).alloc (.cells #[.int .i64 m0, .int .i64 m1, .int .i64 m2, .int .i64 m3, .int .i64 m4, .int .i64 m5, .int .i64 m6, .int .i64 m7, .int .i64 m8, .int .i64 m9, .int .i64 m10, .int .i64 m11, .int .i64 m12, .int .i64 m13, .int .i64 m14, .int .i64 m15, .string m16, .string m17, .int .i64 m18, .int .i64 m19, .int .i64 m20, .int .i64 m21, .slice ub Mb ub2, .int .i64 m23, .slice b1 g1 k1, .slice b2 g2 k2, .slice b3 g3 k3] 54)) = X0 := ⟨_, rfl⟩
  have HB0 : Hid (Bk X0 (W.heap.size) 24 [.int .i64 ep, .slice ao N co]) := Lib.hid (by rw [← hX0]; exact ((Bk.newA (by simp) _ [.int .i64 ep, .slice ao N co]).old _).old _)
  have HB1 : Hid (Bk X0 (W.heap.size + 1) 54 [.int .i64 n0, .int .i64 n1, .int .i64 n2, .int .i64 n3, .int .i64 n4, .int .i64 n5, .int .i64 n6, .int .i64 n7, .int .i64 n8, .int .i64 n9, .int .i64 n10, .int .i64 n11, .int .i64 n12, .int .i64 n13, .int .i64 n14, .int .i64 n15, .string n16, .string n17, .int .i64 n18, .int .i64 n19, .int .i64 n20, .int .i64 n21, .slice ua M uc, .int .i64 n23, .slice a1 d1 c1, .slice a2 d2 c2, .slice a3 d3 c3]) := Lib.hid (by rw [← hX0]; exact (Bk.newA (by simp) _ [.int .i64 n0, .int .i64 n1, .int .i64 n2, .int .i64 n3, .int .i64 n4, .int .i64 n5, .int .i64 n6, .int .i64 n7, .int .i64 n8, .int .i64 n9, .int .i64 n10, .int .i64 n11, .int .i64 n12, .int .i64 n13, .int .i64 n14, .int .i64 n15, .string n16, .string n17, .int .i64 n18, .int .i64 n19, .int .i64 n20, .int .i64 n21, .slice ua M uc, .int .i64 n23, .slice a1 d1 c1, .slice a2 d2 c2, .slice a3 d3 c3]).old _)
  have HB2 : Hid (Bk X0 (W.heap.size + 1 + 1) 54 [.int .i64 m0, .int .i64 m1, .int .i64 m2, .int .i64 m3, .int .i64 m4, .int .i64 m5, .int .i64 m6, .int .i64 m7, .int .i64 m8, .int .i64 m9, .int .i64 m10, .int .i64 m11, .int .i64 m12, .int .i64 m13, .int .i64 m14, .int .i64 m15, .string m16, .string m17, .int .i64 m18, .int .i64 m19, .int .i64 m20, .int .i64 m21, .slice ub Mb ub2, .int .i64 m23, .slice b1 g1 k1, .slice b2 g2 k2, .slice b3 g3 k3]) := Lib.hid (by rw [← hX0]; exact Bk.newA (by simp) _ [.int .i64 m0, .int .i64 m1, .int .i64 m2, .int .i64 m3, .int .i64 m4, .int .i64 m5, .int .i64 m6, .int .i64 m7, .int .i64 m8, .int .i64 m9, .int .i64 m10, .int .i64 m11, .int .i64 m12, .int .i64 m13, .int .i64 m14, .int .i64 m15, .string m16, .string m17, .int .i64 m18, .int .i64 m19, .int .i64 m20, .int .i64 m21, .slice ub Mb ub2, .int .i64 m23, .slice b1 g1 k1, .slice b2 g2 k2, .slice b3 g3 k3])
  have HX : Hid (Below W.heap.size W X0) := Lib.hid (by rw [← hX0]; exact (((Below.refl _ _).alloc (by simp <;> omega) _).alloc (by simp <;> omega) _).alloc (by simp <;> omega) _)
  have HZ0 : Hid (X0.heap.size = W.heap.size + 1 + 1 + 1) := Lib.hid (by rw [← hX0]; simp)
  have HWk := Lib.hid (works_any X0 (hml.below HX.out))
  have HOv2 : Hid (∀ V : World, Below W.heap.size W V → ∀ g, V.heap.size = g → Calls Tryz.prog 12 #[.slice (some ⟨g, 0, none⟩) 2 2] (V.alloc (.cells #[.int .i64 n0, .int .i64 n1, .int .i64 n2, .int .i64 n3, .int .i64 n4, .int .i64 n5, .int .i64 n6, .int .i64 n7, .int .i64 n8, .int .i64 n9, .int .i64 n10, .int .i64 n11, .int .i64 n12, .int .i64 n13, .int .i64 n14, .int .i64 n15, .string n16, .string n17, .int .i64 n18, .int .i64 n19, .int .i64 n20, .int .i64 n21, .slice ua M uc, .int .i64 n23, .slice a1 d1 c1, .slice a2 d2 c2, .slice a3 d3 c3, .int .i64 m0, .int .i64 m1, .int .i64 m2, .int .i64 m3, .int .i64 m4, .int .i64 m5, .int .i64 m6, .int .i64 m7, .int .i64 m8, .int .i64 m9, .int .i64 m10, .int .i64 m11, .int .i64 m12, .int .i64 m13, .int .i64 m14, .int .i64 m15, .string m16, .string m17, .int .i64 m18, .int .i64 m19, .int .i64 m20, .int .i64 m21, .slice ub Mb ub2, .int .i64 m23, .slice b1 g1 k1, .slice b2 g2 k2, .slice b3 g3 k3] 54)) (OvA [⟨n0, n1, n2, (n3, n4, n5), (n6, n7), ⟨n8, (n9, n10), (n11, n12), ⟨n13, n14, n15, n16, n17, n18, n19, n20⟩, (n21, dl)⟩, sn0⟩, ⟨m0, m1, m2, (m3, m4, m5), (m6, m7), ⟨m8, (m9, m10), (m11, m12), ⟨m13, m14, m15, m16, m17, m18, m19, m20⟩, (m21, el)⟩, tn0⟩] (V.alloc (.cells #[.int .i64 n0, .int .i64 n1, .int .i64 n2, .int .i64 n3, .int .i64 n4, .int .i64 n5, .int .i64 n6, .int .i64 n7, .int .i64 n8, .int .i64 n9, .int .i64 n10, .int .i64 n11, .int .i64 n12, .int .i64 n13, .int .i64 n14, .int .i64 n15, .string n16, .string n17, .int .i64 n18, .int .i64 n19, .int .i64 n20, .int .i64 n21, .slice ua M uc, .int .i64 n23, .slice a1 d1 c1, .slice a2 d2 c2, .slice a3 d3 c3, .int .i64 m0, .int .i64 m1, .int .i64 m2, .int .i64 m3, .int .i64 m4, .int .i64 m5, .int .i64 m6, .int .i64 m7, .int .i64 m8, .int .i64 m9, .int .i64 m10, .int .i64 m11, .int .i64 m12, .int .i64 m13, .int .i64 m14, .int .i64 m15, .string m16, .string m17, .int .i64 m18, .int .i64 m19, .int .i64 m20, .int .i64 m21, .slice ub Mb ub2, .int .i64 m23, .slice b1 g1 k1, .slice b2 g2 k2, .slice b3 g3 k3] 54)))) := Lib.hid fun V hV g hg => overA2_any (cs := [.int .i64 n0, .int .i64 n1, .int .i64 n2, .int .i64 n3, .int .i64 n4, .int .i64 n5, .int .i64 n6, .int .i64 n7, .int .i64 n8, .int .i64 n9, .int .i64 n10, .int .i64 n11, .int .i64 n12, .int .i64 n13, .int .i64 n14, .int .i64 n15, .string n16, .string n17, .int .i64 n18, .int .i64 n19, .int .i64 n20, .int .i64 n21, .slice ua M uc, .int .i64 n23, .slice a1 d1 c1, .slice a2 d2 c2, .slice a3 d3 c3]) (ds := [.int .i64 m0, .int .i64 m1, .int .i64 m2, .int .i64 m3, .int .i64 m4, .int .i64 m5, .int .i64 m6, .int .i64 m7, .int .i64 m8, .int .i64 m9, .int .i64 m10, .int .i64 m11, .int .i64 m12, .int .i64 m13, .int .i64 m14, .int .i64 m15, .string m16, .string m17, .int .i64 m18, .int .i64 m19, .int .i64 m20, .int .i64 m21, .slice ub Mb ub2, .int .i64 m23, .slice b1 g1 k1, .slice b2 g2 k2, .slice b3 g3 k3]) (HMI.out.on hV) (HMI2.out.on hV) _ rfl g hg
  clear hr hl hlen hml HMI HMI2
  go_enter Tryz.func9, Tryz.ntmps9
  go_wp2_with fail
  try rw [hX0]
  refine HWk.out.mono ?_
  rintro e w1 ⟨rfl, hb⟩
  have HX1 := Lib.hid hb
  have HX' := Lib.hid (HX.out.trans (hb.mono HX.out.size))
  clear hb HX
  have HX := HX'
  clear HX'
  clear hX0 HWk
  go_wp2_with fail
  refine (overA_any _ rs l w1 (HOl.out.on HX.out)).mono ?_
  rintro e w2 ⟨R, he, hR, hb⟩
  rw [he.out]
  have HX2 : Hid (Below X0.heap.size X0 w2) := Lib.hid (HX1.out.trans (hb.mono HX1.out.size))
  have HX' := Lib.hid (HX.out.trans (hb.mono HX.out.size))
  clear hb HX
  have HX := HX'
  clear HX'
  cases R with
  | true =>
    go_wp2
    go_ret
    exact ⟨rfl, HX.out⟩
  | false =>
  have HLl := Lib.hid (hR rfl)
  clear he hR
  have HD0 := Lib.hid (HB0.out.below HX2.out)
  have HD1 := Lib.hid (HB1.out.below HX2.out)
  have HD2 := Lib.hid (HB2.out.below HX2.out)
  go_wp2_with (first
    | refine wpList_load_rowG rfl _ _ rfl (W.heap.size + 1) rfl 54 _ (0, 0) _ HD1.out Tryz.underlying54 rfl (by kernel_rfl) ?_
    | refine wpList_load_rowG rfl _ _ rfl (W.heap.size + 1 + 1) rfl 54 _ (0, 0) _ HD2.out Tryz.underlying54 rfl (by kernel_rfl) ?_
    | fail)
  refine (HOv2.out w2 HX.out _ rfl).mono ?_
  rintro e w3 ⟨R, he, hR, hb⟩
  rw [he.out]
  have hb := (al1 w2 (.cells #[.int .i64 n0, .int .i64 n1, .int .i64 n2, .int .i64 n3, .int .i64 n4, .int .i64 n5, .int .i64 n6, .int .i64 n7, .int .i64 n8, .int .i64 n9, .int .i64 n10, .int .i64 n11, .int .i64 n12, .int .i64 n13, .int .i64 n14, .int .i64 n15, .string n16, .string n17, .int .i64 n18, .int .i64 n19, .int .i64 n20, .int .i64 n21, .slice ua M uc, .int .i64 n23, .slice a1 d1 c1, .slice a2 d2 c2, .slice a3 d3 c3, .int .i64 m0, .int .i64 m1, .int .i64 m2, .int .i64 m3, .int .i64 m4, .int .i64 m5, .int .i64 m6, .int .i64 m7, .int .i64 m8, .int .i64 m9, .int .i64 m10, .int .i64 m11, .int .i64 m12, .int .i64 m13, .int .i64 m14, .int .i64 m15, .string m16, .string m17, .int .i64 m18, .int .i64 m19, .int .i64 m20, .int .i64 m21, .slice ub Mb ub2, .int .i64 m23, .slice b1 g1 k1, .slice b2 g2 k2, .slice b3 g3 k3] 54)).trans (hb.mono (by simp))
  have HX3 : Hid (Below X0.heap.size X0 w3) := Lib.hid (HX2.out.trans (hb.mono HX2.out.size))
  have HX' := Lib.hid (HX.out.trans (hb.mono HX.out.size))
  clear hb HX
  have HX := HX'
  clear HX'
  cases R with
  | true =>
    go_wp2
    go_ret
    exact ⟨rfl, HX.out⟩
  | false =>
  have HSx : Hid (SmMg ⟨n0, n1, n2, (n3, n4, n5), (n6, n7), ⟨n8, (n9, n10), (n11, n12), ⟨n13, n14, n15, n16, n17, n18, n19, n20⟩, (n21, dl)⟩, sn0⟩) := Lib.hid ((hR rfl).2 ⟨n0, n1, n2, (n3, n4, n5), (n6, n7), ⟨n8, (n9, n10), (n11, n12), ⟨n13, n14, n15, n16, n17, n18, n19, n20⟩, (n21, dl)⟩, sn0⟩ (by simp))
  have HSy : Hid (SmMg ⟨m0, m1, m2, (m3, m4, m5), (m6, m7), ⟨m8, (m9, m10), (m11, m12), ⟨m13, m14, m15, m16, m17, m18, m19, m20⟩, (m21, el)⟩, tn0⟩) := Lib.hid ((hR rfl).2 ⟨m0, m1, m2, (m3, m4, m5), (m6, m7), ⟨m8, (m9, m10), (m11, m12), ⟨m13, m14, m15, m16, m17, m18, m19, m20⟩, (m21, el)⟩, tn0⟩ (by simp))
  clear he hR HD0 HD1 HD2 HX1 HX2
  have HE0 := Lib.hid (HB0.out.below HX3.out)
  have HE1 := Lib.hid (HB1.out.below HX3.out)
  have HE2 := Lib.hid (HB2.out.below HX3.out)
  have cc0 := HE0.out.cell 0
  have cc1 := HE0.out.cell 1
  simp only [List.getElem?_cons_zero, List.getElem?_cons_succ] at cc0 cc1
  by_cases q1 : (40 : Int) < (N : Int)
  · have dq1 : decide ((40 : Int) < (N : Int)) = true := decide_eq_true q1
    have dq1n : decide (40 < N) = true := decide_eq_true (by omega)
    go_wp2
    go_ret
    exact ⟨rfl, HX.out⟩
  have dq1 : decide ((40 : Int) < (N : Int)) = false := decide_eq_false q1
  have dq1n : decide (40 < N) = false := decide_eq_false (by omega)
  have HN : Hid (zs.length ≤ 40) := Lib.hid (by rw [HN'.out]; omega)
  have HKb : Hid (K ≤ 40) := Lib.hid (by have := HLl.out.1; rw [HK.out] at this; exact this)
  have HNw : Hid (Calls Tryz.prog 13 #[.int .i64 nd, .agg #[.int .i64 ep, .slice ao N co]] w3 (BnP ⟨nd, ep, zs, []⟩ w3)) := Lib.hid (by
    have q := bnew_any nd ep ao co zs w3 (HIt.out.below HX.out) (by have := HN.out; omega)
    rw [HN'.out] at q
    exact q)
  clear hN
  go_wp2_with fail
  refine HNw.out.mono ?_
  rintro e w4 ⟨g, mb, he, hB, hb⟩
  rw [he.out]
  obtain ⟨B, hBe⟩ : ∃ B, w3.heap.size = B := ⟨_, rfl⟩
  rw [hBe] at hB hb
  have HWB : Hid (W.heap.size ≤ B) := Lib.hid (hBe ▸ HX.out.size)
  have HXB : Hid (W.heap.size + 1 + 1 + 1 ≤ B) := Lib.hid (by have := HX3.out.size; have := HZ0.out; omega)
  have hX4 : Below W.heap.size W w4 := HX.out.trans (hb.mono HWB.out)
  have hX34 : Below X0.heap.size X0 w4 := HX3.out.trans (hb.mono (by have := HX3.out.size; omega))
  have HX4 := Lib.hid hX4
  have H0 : Hid (BkIn w4 B g mb 0 (heardB ⟨nd, ep, zs, []⟩ (l.take 0)) w4) := Lib.hid ⟨hB, SmBk.nil _ _ _, Below.refl _ _⟩
  have HG0 := Lib.hid (HB0.out.below hX34)
  have HG1 := Lib.hid (HB1.out.below hX34)
  have HG2 := Lib.hid (HB2.out.below hX34)
  have HB4 : Hid (B ≤ w4.heap.size) := Lib.hid (by rw [← hBe]; exact hb.size)
  clear he hB hb hBe hX4 hX34 HX HX3 HNw cc0 cc1 dq1 dq1n q1 HZ0 HE0 HB0 HE1 HB1 HE2 HB2
  go_wp2_with fail
  go_loopw [13] (fun i wr => ∃ (k : Nat), k ≤ K ∧ i = .int .i64 k ∧ Hid (BkIn w4 B g mb k (heardB ⟨nd, ep, zs, []⟩ (l.take k)) wr)) (fun i _ => K - (intOf i).toNat)
  case atStart => exact ⟨0, Nat.zero_le _, rfl, H0⟩
  case round =>
    clear H0
    obtain ⟨k, hk, rfl, H⟩ := hrel
    by_cases hlt : k < K
    · have hk1 : (k : Int) < (K : Int) := by omega
      have hk2 : decide ((k : Int) < (K : Int)) = true := decide_eq_true hk1
      have hk3 : decide (k < K) = true := decide_eq_true hlt
      obtain ⟨-, hlk, gg, off, cs, ha, hg, hcs, hc⟩ := HR.out.el rfl k hlt
      subst ha
      have eK : KM.k = 27 := rfl
      rw [eK] at hc
      clear eK
      have hWr : Below W.heap.size W wr := HX4.out.trans (H.out.gr.mono HWB.out)
      have HRG : Hid (wr.rangeAt gg (off + k * 27) cs) := Lib.hid fun j v hv => (hWr.cell (p := ⟨gg, off + k * 27 + j, none⟩) hg).trans (hc j v hv)
      have hlc : cs.length = 27 := by obtain ⟨u, u1, u2, u3, hq⟩ := hcs; rw [hq.cs]; rfl
      have Hinf : Hid ((Tryz.prog.info? 54).map (·.size) = some cs.length) := Lib.hid (by rw [hlc]; kernel_rfl)
      have hmk : MgA wr (.agg cs.toArray) l[k] := (MsgIs.on ⟨cs.toArray, rfl, by simpa using hcs⟩ hWr).mga
      have HHr := Lib.hid (hear_in H.out (by have := HKb.out; omega) (by rw [(heard_same ⟨nd, ep, zs, []⟩ (l.take k)).2.2]; have := HN.out; show zs.length ≤ 1000; omega) (HML.out.below hWr) hmk (HLl.out.2 _ (List.getElem_mem hlk)))
      have HSn : Hid (heardB ⟨nd, ep, zs, []⟩ (l.take (k + 1)) = (hearB lclA (heardB ⟨nd, ep, zs, []⟩ (l.take k)) l[k]).1) := Lib.hid (by rw [List.take_succ_eq_append_getElem hlk, heard_snoc])
      have hgw : gg < wr.heap.size := Nat.lt_of_lt_of_le hg hWr.size
      clear hc hcs hlc hmk hWr hg
      go_wp2_with (first | refine wpList_load_mid rfl _ _ rfl gg (off + k * 27) rfl _ _ HRG.out Tryz.underlying54 rfl Hinf.out ?_ | fail)
      refine HHr.out.mono ?_
      rintro e w7 ⟨v7, he, hk7, hg7, ha7⟩
      rw [he.out]
      have H7 : Hid (BkIn w4 B g mb (k + 1) (heardB ⟨nd, ep, zs, []⟩ (l.take (k + 1))) w7) := Lib.hid (by rw [HSn.out]; exact hk7)
      clear he hk7 hg7 ha7 H HHr HRG HSn Hinf
      go_wp2_with fail
      go_roundw
      case rel => exact ⟨k + 1, by omega, by go_num, H7⟩
      case measure => simp [intOf]; omega
    · have e : k = K := by omega
      subst e
      have hk2 : decide ((k : Int) < (k : Int)) = false := decide_eq_false (by omega)
      have hk3 : decide (k < k) = false := decide_eq_false (by omega)
      obtain ⟨b, hbe⟩ : ∃ b, heardB ⟨nd, ep, zs, []⟩ l = b := ⟨_, rfl⟩
      have HSm : Hid (b.node = nd ∧ b.ep = ep ∧ b.ns = zs) := Lib.hid (by rw [← hbe]; exact heard_same _ _)
      have HH : Hid (BkIn w4 B g mb k b wr) := Lib.hid (by have h := H.out; rw [← HK.out, List.take_length, hbe, HK.out] at h; exact h)
      have HX : Hid (Below W.heap.size W wr) := Lib.hid (HX4.out.trans (HH.out.gr.mono HWB.out))
      have HNs : Hid (b.ns.length ≤ 1000) := Lib.hid (by rw [HSm.out.2.2]; have := HN.out; omega)
      have HB0 : Hid (Bk wr (W.heap.size) 24 [.int .i64 ep, .slice ao N co]) := Lib.hid ((HH.out.gr.block _ (by have := HXB.out; omega)).trans HG0.out)
      have HB1 : Hid (Bk wr (W.heap.size + 1) 54 [.int .i64 n0, .int .i64 n1, .int .i64 n2, .int .i64 n3, .int .i64 n4, .int .i64 n5, .int .i64 n6, .int .i64 n7, .int .i64 n8, .int .i64 n9, .int .i64 n10, .int .i64 n11, .int .i64 n12, .int .i64 n13, .int .i64 n14, .int .i64 n15, .string n16, .string n17, .int .i64 n18, .int .i64 n19, .int .i64 n20, .int .i64 n21, .slice ua M uc, .int .i64 n23, .slice a1 d1 c1, .slice a2 d2 c2, .slice a3 d3 c3]) := Lib.hid ((HH.out.gr.block _ (by have := HXB.out; omega)).trans HG1.out)
      have HB2 : Hid (Bk wr (W.heap.size + 1 + 1) 54 [.int .i64 m0, .int .i64 m1, .int .i64 m2, .int .i64 m3, .int .i64 m4, .int .i64 m5, .int .i64 m6, .int .i64 m7, .int .i64 m8, .int .i64 m9, .int .i64 m10, .int .i64 m11, .int .i64 m12, .int .i64 m13, .int .i64 m14, .int .i64 m15, .string m16, .string m17, .int .i64 m18, .int .i64 m19, .int .i64 m20, .int .i64 m21, .slice ub Mb ub2, .int .i64 m23, .slice b1 g1 k1, .slice b2 g2 k2, .slice b3 g3 k3]) := Lib.hid ((HH.out.gr.block _ (by have := HXB.out; omega)).trans HG2.out)
      clear H hbe hlt hk HG0 HG1 HG2
      have u1 := HB1.out.cell 0
      have uf1 := HB1.out.fz 0
      simp only [List.getElem?_cons_zero, List.getElem?_cons_succ] at u1
      obtain ⟨V, hV⟩ : ∃ V, wr.setCell ⟨W.heap.size + 1, 0, none⟩ (.int .i64 5) = V := ⟨_, rfl⟩
      have HA : Hid (Bk V (W.heap.size + 1) 54 [.int .i64 5, .int .i64 n1, .int .i64 n2, .int .i64 n3, .int .i64 n4, .int .i64 n5, .int .i64 n6, .int .i64 n7, .int .i64 n8, .int .i64 n9, .int .i64 n10, .int .i64 n11, .int .i64 n12, .int .i64 n13, .int .i64 n14, .int .i64 n15, .string n16, .string n17, .int .i64 n18, .int .i64 n19, .int .i64 n20, .int .i64 n21, .slice ua M uc, .int .i64 n23, .slice a1 d1 c1, .slice a2 d2 c2, .slice a3 d3 c3]) := Lib.hid (by rw [← hV]; exact HB1.out.set 0 (.int .i64 5))
      have HB : Hid (Bk V (W.heap.size + 1 + 1) 54 [.int .i64 m0, .int .i64 m1, .int .i64 m2, .int .i64 m3, .int .i64 m4, .int .i64 m5, .int .i64 m6, .int .i64 m7, .int .i64 m8, .int .i64 m9, .int .i64 m10, .int .i64 m11, .int .i64 m12, .int .i64 m13, .int .i64 m14, .int .i64 m15, .string m16, .string m17, .int .i64 m18, .int .i64 m19, .int .i64 m20, .int .i64 m21, .slice ub Mb ub2, .int .i64 m23, .slice b1 g1 k1, .slice b2 g2 k2, .slice b3 g3 k3]) := Lib.hid (by rw [← hV]; exact HB2.out.other (b2 := W.heap.size + 1) (by omega) 0 (.int .i64 5))
      have H : Hid (BkIn V B g mb k b V) := Lib.hid (by rw [← hV]; exact HH.out.blk (grown_setCell _ _ _ _) HB1.out (by decide) (by decide) (by decide))
      have HX' : Hid (Below W.heap.size W V) := Lib.hid (by rw [← hV]; exact HX.out.setCell (show W.heap.size ≤ (⟨W.heap.size + 1, 0, none⟩ : Addr).block from Nat.le_succ _) _)
      have hk40 : k ≤ 40 := HKb.out
      clear HX HH
      have HX := HX'
      clear HX'
      have HA5 : Hid (Bk (wr.setCell ⟨W.heap.size + 1, 0, none⟩ (.int .i64 5)) (W.heap.size + 1) 54 [.int .i64 5, .int .i64 n1, .int .i64 n2, .int .i64 n3, .int .i64 n4, .int .i64 n5, .int .i64 n6, .int .i64 n7, .int .i64 n8, .int .i64 n9, .int .i64 n10, .int .i64 n11, .int .i64 n12, .int .i64 n13, .int .i64 n14, .int .i64 n15, .string n16, .string n17, .int .i64 n18, .int .i64 n19, .int .i64 n20, .int .i64 n21, .slice ua M uc, .int .i64 n23, .slice a1 d1 c1, .slice a2 d2 c2, .slice a3 d3 c3]) := Lib.hid (HB1.out.set 0 (.int .i64 5))
      have HHr := Lib.hid (hear_in H.out (by omega) HNs.out (HML.out.below HX.out) (HMk.out 5 _ HX.out) (show SmMg ⟨5, n1, n2, (n3, n4, n5), (n6, n7), ⟨n8, (n9, n10), (n11, n12), ⟨n13, n14, n15, n16, n17, n18, n19, n20⟩, (n21, dl)⟩, sn0⟩ from HSx.out))
      go_wp2_with (first
        | refine wpList_load_rowG rfl _ _ rfl (W.heap.size + 1) rfl 54 _ (0, 0) _ HA5.out Tryz.underlying54 rfl (by kernel_rfl) ?_
        | refine wpList_load_rowG rfl _ _ rfl (W.heap.size + 1) rfl 54 _ (0, 0) _ HA.out Tryz.underlying54 rfl (by kernel_rfl) ?_
        | fail)
      try rw [hV]
      clear HA5
      refine HHr.out.mono ?_
      rintro e w1 ⟨v1, he, hkh, hgh, hah⟩
      rw [he.out]
      have HA' := Lib.hid ((hgh.block _ (Bk.lt HA.out) (by simpa using H.out.at'.blkNe _ _ _ _ HA.out)).trans HA.out)
      have HB' := Lib.hid ((hgh.block _ (Bk.lt HB.out) (by simpa using H.out.at'.blkNe _ _ _ _ HB.out)).trans HB.out)
      have HX' : Hid (Below W.heap.size W w1) := Lib.hid (HX.out.grown hgh HX.out.size (fun k e => by cases e; exact Nat.le_trans HWB.out H.out.at'.lo.2))
      have HR0 := Lib.hid H.out.at'.rise
      have H1 := Lib.hid hkh
      clear he hkh hgh HHr H HX HA HB u1 uf1 hV
      have H := H1
      have HX := HX'
      have HA := HA'
      have HB := HB'
      clear H1 HX' HA' HB'
      rcases hah with ⟨hnil, rfl⟩ | ⟨M1, gx, ux, hone, rfl, hx1, _, _⟩
      case inl =>
        clear hnil
        go_wp2
        go_ret
        exact ⟨rfl, HX.out⟩
      have HXc : Hid (Bk w1 gx 54 (msE M1 ux (.slice none 0 0) (.slice none 0 0) (.slice none 0 0))) := Lib.hid hx1
      have HOne := Lib.hid hone
      obtain ⟨kx, hkx⟩ : ∃ q, M1.kind = q := ⟨_, rfl⟩
      have x0 := Bk.cell HXc.out 0
      simp only [msE, List.cons_append, List.nil_append, List.getElem?_cons_zero] at x0
      rw [hkx] at x0
      have xl := Bk.lt HXc.out
      have HKX := Lib.hid hkx
      clear hx1 hone hkx
      by_cases hk6 : kx = 6
      case neg =>
        have hk6b : (kx != 6) = true := by simpa using hk6
        go_wp2
        go_ret
        exact ⟨rfl, HX.out⟩
      subst hk6
      have z3 := Bk.cell HA.out 3
      have z4 := Bk.cell HA.out 4
      have z5 := Bk.cell HA.out 5
      have y3 := Bk.cell HB.out 3
      have y4 := Bk.cell HB.out 4
      have y5 := Bk.cell HB.out 5
      have z6 := Bk.cell HA.out 6
      have z7 := Bk.cell HA.out 7
      have y6 := Bk.cell HB.out 6
      have y7 := Bk.cell HB.out 7
      simp only [msE, ansB, List.cons_append, List.nil_append, List.getElem?_cons_zero, List.getElem?_cons_succ] at z3 z4 z5 y3 y4 y5 z6 z7 y6 y7
      obtain ⟨_, gdi⟩ := eqI_run m3 m4 m5 n3 n4 n5
      by_cases hq : ((m3, m4, m5) : I3) = (n3, n4, n5)
      case neg =>
        have nd1 := neI_runA m3 m4 m5 n3 n4 n5 false (decide_eq_false hq)
        go_wp2
        go_ret
        exact ⟨rfl, HX.out⟩
      obtain ⟨rfl, h2⟩ := Prod.mk.inj hq.symm
      obtain ⟨rfl, rfl⟩ := Prod.mk.inj h2
      have nd1 := neI_runA n3 n4 n5 n3 n4 n5 true (by simp)
      clear h2 hq
      have HL1 := Lib.hid (Bb.less_any m6 m7 n6 n7 w1)
      cases ql1 : lessBl (m6, m7) (n6, n7) with
      | false =>
        rw [show Bb.lessB m6 m7 n6 n7 = false from ql1] at HL1
        clear ql1
        go_wp2_with fail
        refine HL1.out.mono ?_
        rintro e w14 ⟨rfl, hb⟩
        have HX' := Lib.hid (HX.out.trans (hb.mono HX.out.size))
        clear hb z3 z4 z5 y3 y4 y5 z6 z7 y6 y7 x0 xl
        go_wp2
        go_ret
        exact ⟨rfl, HX'.out⟩
      | true =>
      rw [show Bb.lessB m6 m7 n6 n7 = true from ql1] at HL1
      have HQ1 := Lib.hid ql1
      clear ql1
      go_wp2_with fail
      refine HL1.out.mono ?_
      rintro e w2 ⟨rfl, hb⟩
      clear z3 z4 z5 y3 y4 y5 z6 z7 y6 y7 x0 xl HL1 HXc nd1 gdi
      have HX' := Lib.hid (HX.out.trans (hb.mono HX.out.size))
      have H' := Lib.hid (H.out.on hb (Nat.le_trans H.out.at'.lo.1 (Nat.le_of_lt H.out.at'.lt)))
      have HA' := Lib.hid (Bk.below HA.out hb)
      have HB' := Lib.hid (Bk.below HB.out hb)
      clear hb HX H HA HB
      have HX := HX'
      have H := H'
      have HA := HA'
      have HB := HB'
      clear HX' H' HA' HB'
      have HNs1 : Hid ((hearB lclA b ⟨5, n1, n2, (n3, n4, n5), (n6, n7), ⟨n8, (n9, n10), (n11, n12), ⟨n13, n14, n15, n16, n17, n18, n19, n20⟩, (n21, dl)⟩, sn0⟩).1.ns.length ≤ 1000) := Lib.hid (by rw [(hear_same lclA (b := b) ⟨5, n1, n2, (n3, n4, n5), (n6, n7), ⟨n8, (n9, n10), (n11, n12), ⟨n13, n14, n15, n16, n17, n18, n19, n20⟩, (n21, dl)⟩, sn0⟩).2.2]; exact HNs.out)
      have HRb := Lib.hid (bright_any H.out.at' HNs1.out (HMk2.out m0 w2 HX.out) (by have h : el.length ≤ 60 := HSy.out.1; show el.length ≤ 10000; omega))
      cases qrt : rightB (hearB lclA b ⟨5, n1, n2, (n3, n4, n5), (n6, n7), ⟨n8, (n9, n10), (n11, n12), ⟨n13, n14, n15, n16, n17, n18, n19, n20⟩, (n21, dl)⟩, sn0⟩).1 ⟨m0, m1, m2, (n3, n4, n5), (m6, m7), ⟨m8, (m9, m10), (m11, m12), ⟨m13, m14, m15, m16, m17, m18, m19, m20⟩, (m21, el)⟩, tn0⟩ with
      | false =>
        rw [qrt] at HRb
        clear qrt
        go_wp2_with (first
          | refine wpList_load_rowG rfl _ _ rfl (W.heap.size + 1) rfl 54 _ (0, 0) _ HA.out Tryz.underlying54 rfl (by kernel_rfl) ?_
          | refine wpList_load_rowG rfl _ _ rfl (W.heap.size + 1 + 1) rfl 54 _ (0, 0) _ HB.out Tryz.underlying54 rfl (by kernel_rfl) ?_
          | fail)
        refine HRb.out.mono ?_
        rintro e w3 ⟨rfl, hb⟩
        have HX' := Lib.hid (HX.out.trans (hb.mono HX.out.size))
        clear hb
        go_wp2
        go_ret
        exact ⟨rfl, HX'.out⟩
      | true =>
      rw [qrt] at HRb
      have HPr := Lib.hid (hear_promise lclA HR0.out (p := ⟨5, n1, n2, (n3, n4, n5), (n6, n7), ⟨n8, (n9, n10), (n11, n12), ⟨n13, n14, n15, n16, n17, n18, n19, n20⟩, (n21, dl)⟩, sn0⟩) (m := ⟨m0, m1, m2, (n3, n4, n5), (m6, m7), ⟨m8, (m9, m10), (m11, m12), ⟨m13, m14, m15, m16, m17, m18, m19, m20⟩, (m21, el)⟩, tn0⟩) rfl ⟨M1, HOne.out, HKX.out⟩ rfl HQ1.out (by rw [← right_same (hear_same lclA (b := b) ⟨5, n1, n2, (n3, n4, n5), (n6, n7), ⟨n8, (n9, n10), (n11, n12), ⟨n13, n14, n15, n16, n17, n18, n19, n20⟩, (n21, dl)⟩, sn0⟩) ⟨m0, m1, m2, (n3, n4, n5), (m6, m7), ⟨m8, (m9, m10), (m11, m12), ⟨m13, m14, m15, m16, m17, m18, m19, m20⟩, (m21, el)⟩, tn0⟩]; exact qrt))
      clear qrt
      go_wp2_with (first
        | refine wpList_load_rowG rfl _ _ rfl (W.heap.size + 1) rfl 54 _ (0, 0) _ HA.out Tryz.underlying54 rfl (by kernel_rfl) ?_
        | refine wpList_load_rowG rfl _ _ rfl (W.heap.size + 1 + 1) rfl 54 _ (0, 0) _ HB.out Tryz.underlying54 rfl (by kernel_rfl) ?_
        | fail)
      refine HRb.out.mono ?_
      rintro e w3 ⟨rfl, hb⟩
      clear HRb
      have HX' := Lib.hid (HX.out.trans (hb.mono HX.out.size))
      have H' := Lib.hid (H.out.on hb (Nat.le_trans H.out.at'.lo.1 (Nat.le_of_lt H.out.at'.lt)))
      have HA' := Lib.hid (Bk.below HA.out hb)
      have HB' := Lib.hid (Bk.below HB.out hb)
      clear hb HX H HA HB
      have HX := HX'
      have H := H'
      have HA := HA'
      have HB := HB'
      clear HX' H' HA' HB'
      obtain ⟨xg, hxg⟩ : ∃ x, getL (hearB lclA b ⟨5, n1, n2, (n3, n4, n5), (n6, n7), ⟨n8, (n9, n10), (n11, n12), ⟨n13, n14, n15, n16, n17, n18, n19, n20⟩, (n21, dl)⟩, sn0⟩).1.l (n3, n4, n5) = x := ⟨_, rfl⟩
      have HGL := Lib.hid hxg
      have HPs0 := (H.out.sm.get H.out.at'.rise (n3, n4, n5)).2.1
      rw [hxg] at HPs0
      have HGt := get_in H.out (by omega) HID1.out
      rw [hxg] at HGt
      obtain ⟨p0, ⟨p1, p2⟩, ⟨p3, p4⟩, ⟨p5, p6, p7, p8, p9, p10, p11, p12⟩, ps, pl⟩ := xg
      obtain ⟨P, hP⟩ : ∃ P, pl.length = P := ⟨_, rfl⟩
      have HPl := Lib.hid hP
      have HPs : Hid (pl.length ≤ 10000) := Lib.hid (by simp only at HPs0; omega)
      have HGt2 : Hid (Calls Tryz.prog 20 #[bP g, .agg #[.int .i64 n3, .int .i64 n4, .int .i64 n5]] w3 (fun e w' => ∃ ga gc, Hid (e = .returned (.agg #[.int .i64 p0, .int .i64 p1, .int .i64 p2, .int .i64 p3, .int .i64 p4, .int .i64 p5, .int .i64 p6, .int .i64 p7, .string p8, .string p9, .int .i64 p10, .int .i64 p11, .int .i64 p12, .int .i64 ps, .slice ga P gc])) ∧ IK.Own w' 0 (.slice ga P gc) pl ∧ Below w3.heap.size w3 w')) := Lib.hid (HGt.mono fun e w' ⟨v', he, ho, hb⟩ => by
        obtain ⟨ga, gc, hv⟩ := ho.slice
        simp only at hv ho
        rw [hP] at hv
        subst hv
        exact ⟨ga, gc, he, ho.base (Nat.zero_le _), hb⟩)
      have y3 := Bk.cell HB.out 3
      have y4 := Bk.cell HB.out 4
      have y5 := Bk.cell HB.out 5
      simp only [msE, ansB, List.cons_append, List.nil_append, List.getElem?_cons_zero, List.getElem?_cons_succ] at y3 y4 y5
      clear HGt hP hxg HPs0
      go_wp2_with fail
      refine HGt2.out.mono ?_
      rintro e w10 ⟨ga, gc, he, how, hb⟩
      rw [he.out]
      have hbq : Below w3.heap.size w3 (w10.alloc (.cells #[.int .i64 p0, .int .i64 p1, .int .i64 p2, .int .i64 p3, .int .i64 p4, .int .i64 p5, .int .i64 p6, .int .i64 p7, .string p8, .string p9, .int .i64 p10, .int .i64 p11, .int .i64 p12, .int .i64 ps, .slice ga P gc] 48)) := hb.alloc hb.size _
      have HWs : Hid (Bk (w10.alloc (.cells #[.int .i64 p0, .int .i64 p1, .int .i64 p2, .int .i64 p3, .int .i64 p4, .int .i64 p5, .int .i64 p6, .int .i64 p7, .string p8, .string p9, .int .i64 p10, .int .i64 p11, .int .i64 p12, .int .i64 ps, .slice ga P gc] 48)) w10.heap.size 48 [.int .i64 p0, .int .i64 p1, .int .i64 p2, .int .i64 p3, .int .i64 p4, .int .i64 p5, .int .i64 p6, .int .i64 p7, .string p8, .string p9, .int .i64 p10, .int .i64 p11, .int .i64 p12, .int .i64 ps, .slice ga P gc]) := Lib.hid (Bk.new w10 _ _)
      have HWr0 : Hid (IK.Own (w10.alloc (.cells #[.int .i64 p0, .int .i64 p1, .int .i64 p2, .int .i64 p3, .int .i64 p4, .int .i64 p5, .int .i64 p6, .int .i64 p7, .string p8, .string p9, .int .i64 p10, .int .i64 p11, .int .i64 p12, .int .i64 ps, .slice ga P gc] 48)) 0 (.slice ga P gc) pl) := Lib.hid (how.below ((Below.refl _ _).alloc (Nat.le_refl _) _))
      obtain ⟨wb, hwb⟩ : ∃ q, w10.heap.size = q := ⟨_, rfl⟩
      obtain ⟨w11, hw11⟩ : ∃ w11, w10.alloc (.cells #[.int .i64 p0, .int .i64 p1, .int .i64 p2, .int .i64 p3, .int .i64 p4, .int .i64 p5, .int .i64 p6, .int .i64 p7, .string p8, .string p9, .int .i64 p10, .int .i64 p11, .int .i64 p12, .int .i64 ps, .slice ga P gc] 48) = w11 := ⟨_, rfl⟩
      rw [hw11] at HWs hbq HWr0
      rw [hwb] at HWs
      have HX' := Lib.hid (HX.out.trans (hbq.mono HX.out.size))
      have H' := Lib.hid (H.out.on hbq (Nat.le_trans H.out.at'.lo.1 (Nat.le_of_lt H.out.at'.lt)))
      have HA' := Lib.hid (Bk.below HA.out hbq)
      have HB' := Lib.hid (Bk.below HB.out hbq)
      clear hbq HX H HA HB
      have HX := HX'
      have H := H'
      have HA := HA'
      have HB := HB'
      clear HX' H' HA' HB'
      clear he hb HGt2 y3 y4 y5 how
      have HHm := Lib.hid (hear_in H.out (by omega) HNs1.out (HML.out.below HX.out) (HMk2.out m0 _ HX.out) (show SmMg ⟨m0, m1, m2, (n3, n4, n5), (m6, m7), ⟨m8, (m9, m10), (m11, m12), ⟨m13, m14, m15, m16, m17, m18, m19, m20⟩, (m21, el)⟩, tn0⟩ from HSy.out))
      go_wp2_with (first
        | refine wpList_load_rowG rfl _ _ rfl (W.heap.size + 1) rfl 54 _ (0, 0) _ HA.out Tryz.underlying54 rfl (by kernel_rfl) ?_
        | refine wpList_load_rowG rfl _ _ rfl (W.heap.size + 1 + 1) rfl 54 _ (0, 0) _ HB.out Tryz.underlying54 rfl (by kernel_rfl) ?_
        | fail)
      try rw [hw11]
      try rw [hwb]
      clear hw11 hwb
      refine HHm.out.mono ?_
      rintro e wy ⟨vy, he, hkh, hgh, hah⟩
      rw [he.out]
      have HA' := Lib.hid ((hgh.block _ (Bk.lt HA.out) (by simpa using H.out.at'.blkNe _ _ _ _ HA.out)).trans HA.out)
      have HB' := Lib.hid ((hgh.block _ (Bk.lt HB.out) (by simpa using H.out.at'.blkNe _ _ _ _ HB.out)).trans HB.out)
      have HWs' := Lib.hid ((hgh.block _ (Bk.lt HWs.out) (by simpa using H.out.at'.blkNe _ _ _ _ HWs.out)).trans HWs.out)
      have HX' : Hid (Below W.heap.size W wy) := Lib.hid (HX.out.grown hgh HX.out.size (fun k e => by cases e; exact Nat.le_trans HWB.out H.out.at'.lo.2))
      have HWr : Hid (IK.Rd wy (.slice ga P gc) pl) := Lib.hid (HWr0.out.outA hgh H.out.at'.blkNe).rd
      clear he hgh HHm H HX HA HB HWs HWr0
      have HX := HX'
      have HA := HA'
      have HB := HB'
      have HWs := HWs'
      clear HX' HA' HB' HWs'
      by_cases kz0 : m0 = 0
      case pos =>
        subst kz0
        have hpm := HPr.out
        rw [if_pos (show (0 : Int) = 0 ∨ (0 : Int) = 2 ∨ (0 : Int) = 5 from .inl rfl)] at hpm
        rw [hpm] at hah hkh
        obtain ⟨gy, uy, rfl, hyc, _, _⟩ := ans_one hah
        have HY : Hid (Bk wy gy 54 (msE (ansB b 7 ⟨0, m1, m2, (n3, n4, n5), (m6, m7), ⟨m8, (m9, m10), (m11, m12), ⟨m13, m14, m15, m16, m17, m18, m19, m20⟩, (m21, el)⟩, tn0⟩ (n6, n7) in0) uy (.slice none 0 0) (.slice none 0 0) (.slice none 0 0))) := Lib.hid hyc
        have H9 := Lib.hid hkh
        have HKP : Hid (∀ w', Below wy.heap.size wy w' → PrS (W.heap.size + 1) (W.heap.size + 1 + 1) gy wb [.int .i64 5, .int .i64 n1, .int .i64 n2, .int .i64 n3, .int .i64 n4, .int .i64 n5, .int .i64 n6, .int .i64 n7, .int .i64 n8, .int .i64 n9, .int .i64 n10, .int .i64 n11, .int .i64 n12, .int .i64 n13, .int .i64 n14, .int .i64 n15, .string n16, .string n17, .int .i64 n18, .int .i64 n19, .int .i64 n20, .int .i64 n21, .slice ua M uc, .int .i64 n23, .slice a1 d1 c1, .slice a2 d2 c2, .slice a3 d3 c3] [.int .i64 0, .int .i64 m1, .int .i64 m2, .int .i64 n3, .int .i64 n4, .int .i64 n5, .int .i64 m6, .int .i64 m7, .int .i64 m8, .int .i64 m9, .int .i64 m10, .int .i64 m11, .int .i64 m12, .int .i64 m13, .int .i64 m14, .int .i64 m15, .string m16, .string m17, .int .i64 m18, .int .i64 m19, .int .i64 m20, .int .i64 m21, .slice ub Mb ub2, .int .i64 m23, .slice b1 g1 k1, .slice b2 g2 k2, .slice b3 g3 k3] (msE (ansB b 7 ⟨0, m1, m2, (n3, n4, n5), (m6, m7), ⟨m8, (m9, m10), (m11, m12), ⟨m13, m14, m15, m16, m17, m18, m19, m20⟩, (m21, el)⟩, tn0⟩ (n6, n7) in0) uy (.slice none 0 0) (.slice none 0 0) (.slice none 0 0)) [.int .i64 p0, .int .i64 p1, .int .i64 p2, .int .i64 p3, .int .i64 p4, .int .i64 p5, .int .i64 p6, .int .i64 p7, .string p8, .string p9, .int .i64 p10, .int .i64 p11, .int .i64 p12, .int .i64 ps, .slice ga P gc] w') := Lib.hid fun w' hb => ⟨Bk.below HA.out hb, Bk.below HB.out hb, Bk.below HY.out hb, Bk.below HWs.out hb⟩
        have HG2 : Hid (∀ w', Below wy.heap.size wy w' → Calls Tryz.prog 20 #[bP g, .agg #[.int .i64 n3, .int .i64 n4, .int .i64 n5]] w' (fun e w'' => ∃ gb gd, e = .returned (.agg #[.int .i64 p0, .int .i64 p1, .int .i64 p2, .int .i64 p3, .int .i64 p4, .int .i64 p5, .int .i64 p6, .int .i64 p7, .string p8, .string p9, .int .i64 p10, .int .i64 p11, .int .i64 p12, .int .i64 ps, .slice gb P gd]) ∧ IK.Rd w'' (.slice gb P gd) pl ∧ Below w'.heap.size w' w'')) := Lib.hid fun w' hb => by
          have q := get_in (H9.out.on hb (Nat.le_trans H9.out.at'.lo.1 (Nat.le_of_lt H9.out.at'.lt))) (by have := HKb.out; omega) HID1.out
          rw [HGL.out] at q
          refine q.mono fun e w'' ⟨v', he, ho, hb⟩ => ?_
          obtain ⟨gb, gd, hv⟩ := ho.slice
          simp only at hv ho
          rw [HPl.out] at hv
          subst hv
          exact ⟨gb, gd, he.out, ho.rd, hb⟩
        have HSa : Hid (∀ w' gb gd, Below wy.heap.size wy w' → IK.Rd w' (.slice gb P gd) pl → Calls Tryz.prog 19 #[.agg #[.int .i64 p0, .int .i64 p1, .int .i64 p2, .int .i64 p3, .int .i64 p4, .int .i64 p5, .int .i64 p6, .int .i64 p7, .string p8, .string p9, .int .i64 p10, .int .i64 p11, .int .i64 p12, .int .i64 ps, .slice ga P gc], .agg #[.int .i64 p0, .int .i64 p1, .int .i64 p2, .int .i64 p3, .int .i64 p4, .int .i64 p5, .int .i64 p6, .int .i64 p7, .string p8, .string p9, .int .i64 p10, .int .i64 p11, .int .i64 p12, .int .i64 ps, .slice gb P gd]] w' (fun e w'' => e = .returned (.bool true) ∧ Below w'.heap.size w' w'')) := Lib.hid fun w' gb gd hb hr => by
          have q := sameI_any ⟨p0, (p1, p2), (p3, p4), ⟨p5, p6, p7, p8, p9, p10, p11, p12⟩, (ps, pl)⟩ (.slice ga P gc) (.slice gb P gd) w' (HWr.out.below hb) hr HPs.out
          simp only [inE] at q
          exact q
        obtain ⟨ebp, gbp⟩ := eqB_runA n6 n7 n6 n7 true (by simp)
        have yk := Bk.cell HB.out 0
        simp only [msE, ansB, List.cons_append, List.nil_append, List.getElem?_cons_zero, List.getElem?_cons_succ] at yk
        have ly := Bk.lt HY.out
        clear hah hkh hyc hpm HPr H9
        go_wp2_with fail
        refine wp_region_held_drew (S := (PrS (W.heap.size + 1) (W.heap.size + 1 + 1) gy wb [.int .i64 5, .int .i64 n1, .int .i64 n2, .int .i64 n3, .int .i64 n4, .int .i64 n5, .int .i64 n6, .int .i64 n7, .int .i64 n8, .int .i64 n9, .int .i64 n10, .int .i64 n11, .int .i64 n12, .int .i64 n13, .int .i64 n14, .int .i64 n15, .string n16, .string n17, .int .i64 n18, .int .i64 n19, .int .i64 n20, .int .i64 n21, .slice ua M uc, .int .i64 n23, .slice a1 d1 c1, .slice a2 d2 c2, .slice a3 d3 c3] [.int .i64 0, .int .i64 m1, .int .i64 m2, .int .i64 n3, .int .i64 n4, .int .i64 n5, .int .i64 m6, .int .i64 m7, .int .i64 m8, .int .i64 m9, .int .i64 m10, .int .i64 m11, .int .i64 m12, .int .i64 m13, .int .i64 m14, .int .i64 m15, .string m16, .string m17, .int .i64 m18, .int .i64 m19, .int .i64 m20, .int .i64 m21, .slice ub Mb ub2, .int .i64 m23, .slice b1 g1 k1, .slice b2 g2 k2, .slice b3 g3 k3] (msE (ansB b 7 ⟨0, m1, m2, (n3, n4, n5), (m6, m7), ⟨m8, (m9, m10), (m11, m12), ⟨m13, m14, m15, m16, m17, m18, m19, m20⟩, (m21, el)⟩, tn0⟩ (n6, n7) in0) uy (.slice none 0 0) (.slice none 0 0) (.slice none 0 0)) [.int .i64 p0, .int .i64 p1, .int .i64 p2, .int .i64 p3, .int .i64 p4, .int .i64 p5, .int .i64 p6, .int .i64 p7, .string p8, .string p9, .int .i64 p10, .int .i64 p11, .int .i64 p12, .int .i64 ps, .slice ga P gc])) (by kernel_rfl) ?_ (fun hHeld => ?_)
        · ((first
          | exact HKP.out _ hbS
          | exact HKP.out _ hbG
          | exact HKP.out _ (Below.refl wy.heap.size wy).drew
          | exact HKP.out _ (Below.refl _ _)
          | fail))
        refine tkA 0 (v := ?_) ?_ ?_
        rotate_left
        · (intro w' hSw; clear hSw; go_simp; try rfl)
        try simp only [Act.put, gA1, gA2, gA3, gA4, gA5, gA6]
        refine tkA 1 (v := ?_) ?_ ?_
        rotate_left
        · (intro w' hSw; clear hSw; go_simp; try rfl)
        try simp only [Act.put, gA1, gA2, gA3, gA4, gA5, gA6]
        refine tkA 2 (v := ?_) ?_ ?_
        rotate_left
        · (intro w' hSw; clear hSw; go_simp; try rfl)
        try simp only [Act.put, gA1, gA2, gA3, gA4, gA5, gA6]
        refine wpAnyH_ready (rs := [3]) (by kernel_rfl) (by simp) ?_
        refine (AllReadyH.cons rfl (fun K hK => ?_) AllReadyH.nil)
        go_simp
        refine hK.out _ _ ?_ (fun hHeld => ?_)
        · ((first
          | exact HKP.out _ hbS
          | exact HKP.out _ hbG
          | exact HKP.out _ (Below.refl wy.heap.size wy).drew
          | exact HKP.out _ (Below.refl _ _)
          | fail))
        clear hK K
        try simp only [Act.put, gA1, gA2, gA3, gA4, gA5, gA6]
        refine tkA 4 (v := ?_) ?_ ?_
        rotate_left
        · (intro w' hSw; clear hSw; go_simp; try rfl)
        try simp only [Act.put, gA1, gA2, gA3, gA4, gA5, gA6]
        refine tkA 5 (v := ?_) ?_ ?_
        rotate_left
        · (intro w' hSw; clear hSw; go_simp; try rfl)
        try simp only [Act.put, gA1, gA2, gA3, gA4, gA5, gA6]
        refine tkA 6 (v := ?_) ?_ ?_
        rotate_left
        · (intro w' hSw; clear hSw; go_simp; try rfl)
        try simp only [Act.put, gA1, gA2, gA3, gA4, gA5, gA6]
        refine tkA 7 (v := ?_) ?_ ?_
        rotate_left
        · (intro w' hSw; clear hSw; go_simp; try rfl)
        try simp only [Act.put, gA1, gA2, gA3, gA4, gA5, gA6]
        refine tkA 8 (v := ?_) ?_ ?_
        rotate_left
        · (intro w' hSw; clear hSw; go_simp; try rfl)
        try simp only [Act.put, gA1, gA2, gA3, gA4, gA5, gA6]
        refine tkA 9 (v := ?_) ?_ ?_
        rotate_left
        · (intro w' hSw; clear hSw; go_simp; try rfl)
        try simp only [Act.put, gA1, gA2, gA3, gA4, gA5, gA6]
        refine tkA 10 (v := ?_) ?_ ?_
        rotate_left
        · (intro w' hSw; have e0 := Bk.cell hSw.yy 0; simp only [msE, ansB, List.cons_append, List.nil_append, List.getElem?_cons_zero, List.getElem?_cons_succ] at e0; clear hSw; go_simp; try rfl)
        try simp only [Act.put, gA1, gA2, gA3, gA4, gA5, gA6]
        refine tkA 11 (v := ?_) ?_ ?_
        rotate_left
        · (intro w' hSw; clear hSw; go_simp; try rfl)
        try simp only [Act.put, gA1, gA2, gA3, gA4, gA5, gA6]
        refine tkA 12 (v := ?_) ?_ ?_
        rotate_left
        · (intro w' hSw; clear hSw; go_simp; try rfl)
        try simp only [Act.put, gA1, gA2, gA3, gA4, gA5, gA6]
        refine tkA 13 (v := ?_) ?_ ?_
        rotate_left
        · (intro w' hSw; clear hSw; go_simp; try rfl)
        try simp only [Act.put, gA1, gA2, gA3, gA4, gA5, gA6]
        refine tkA 14 (v := ?_) ?_ ?_
        rotate_left
        · (intro w' hSw; clear hSw; go_simp; try rfl)
        try simp only [Act.put, gA1, gA2, gA3, gA4, gA5, gA6]
        refine tkA 15 (v := ?_) ?_ ?_
        rotate_left
        · (intro w' hSw; clear hSw; go_simp; try rfl)
        try simp only [Act.put, gA1, gA2, gA3, gA4, gA5, gA6]
        refine tkA 16 (v := ?_) ?_ ?_
        rotate_left
        · (intro w' hSw; clear hSw; go_simp; try rfl)
        try simp only [Act.put, gA1, gA2, gA3, gA4, gA5, gA6]
        refine tkA 17 (v := ?_) ?_ ?_
        rotate_left
        · (intro w' hSw; have e6 := Bk.cell hSw.yy 6; have e7 := Bk.cell hSw.yy 7; simp only [msE, ansB, List.cons_append, List.nil_append, List.getElem?_cons_zero, List.getElem?_cons_succ] at e6 e7; clear hSw; go_simp; try rfl)
        try simp only [Act.put, gA1, gA2, gA3, gA4, gA5, gA6]
        refine tkA 18 (v := ?_) ?_ ?_
        rotate_left
        · (intro w' hSw; clear hSw; go_simp; try rfl)
        try simp only [Act.put, gA1, gA2, gA3, gA4, gA5, gA6]
        refine tkA 19 (v := ?_) ?_ ?_
        rotate_left
        · (intro w' hSw; have e6 := Bk.cell hSw.pp 6; have e7 := Bk.cell hSw.pp 7; simp only [msE, ansB, List.cons_append, List.nil_append, List.getElem?_cons_zero, List.getElem?_cons_succ] at e6 e7; clear hSw; go_simp; try rfl)
        try simp only [Act.put, gA1, gA2, gA3, gA4, gA5, gA6]
        refine tkA 20 (v := ?_) ?_ ?_
        rotate_left
        · (intro w' hSw; clear hSw; go_simp; try rfl)
        try simp only [Act.put, gA1, gA2, gA3, gA4, gA5, gA6]
        refine tkA 21 (v := ?_) ?_ ?_
        rotate_left
        · (intro w' hSw; clear hSw; go_simp; try rfl)
        try simp only [Act.put, gA1, gA2, gA3, gA4, gA5, gA6]
        refine tkA 22 (v := ?_) ?_ ?_
        rotate_left
        · (intro w' hSw; clear hSw; go_simp; try rfl)
        try simp only [Act.put, gA1, gA2, gA3, gA4, gA5, gA6]
        refine tkA 23 (v := ?_) ?_ ?_
        rotate_left
        · (intro w' hSw; refine Eq.trans (load_rowS 48 (.tmp 15) (by rfl) wb (by rfl) 48 #[.int .i64 p0, .int .i64 p1, .int .i64 p2, .int .i64 p3, .int .i64 p4, .int .i64 p5, .int .i64 p6, .int .i64 p7, .string p8, .string p9, .int .i64 p10, .int .i64 p11, .int .i64 p12, .int .i64 ps, .slice ga P gc] (0, 0) _ hSw.ww Tryz.underlying48 rfl infoIn) ?_; rfl)
        try simp only [Act.put, gA1, gA2, gA3, gA4, gA5, gA6]
        refine tkA 24 (v := ?_) ?_ ?_
        rotate_left
        · (intro w' hSw; clear hSw; go_simp; try rfl)
        try simp only [Act.put, gA1, gA2, gA3, gA4, gA5, gA6]
        refine tkA 25 (v := ?_) ?_ ?_
        rotate_left
        · (intro w' hSw; clear hSw; go_simp; try rfl)
        try simp only [Act.put, gA1, gA2, gA3, gA4, gA5, gA6]
        refine tkA 26 (v := ?_) ?_ ?_
        rotate_left
        · (intro w' hSw; have e3 := Bk.cell hSw.mm 3; have e4 := Bk.cell hSw.mm 4; have e5 := Bk.cell hSw.mm 5; simp only [msE, ansB, List.cons_append, List.nil_append, List.getElem?_cons_zero, List.getElem?_cons_succ] at e3 e4 e5; clear hSw; go_simp; try rfl)
        try simp only [Act.put, gA1, gA2, gA3, gA4, gA5, gA6]
        refine wpAnyH_ready (rs := [27]) (by kernel_rfl) (by simp) ?_
        refine (AllReadyH.cons rfl (fun K hK => ?_) AllReadyH.nil)
        go_simp
        (go_at_call 20; refine (HG2.out _ (Below.refl wy.heap.size wy).drew).mono ?_; rintro e wg ⟨gb, gd, he, hrd9, hbq⟩; subst he; have hbG : Below wy.heap.size wy wg := (Below.refl wy.heap.size wy).drew.trans hbq; clear hbq)
        refine hK.out _ _ ?_ (fun hHeld => ?_)
        · ((first
          | exact HKP.out _ hbS
          | exact HKP.out _ hbG
          | exact HKP.out _ (Below.refl wy.heap.size wy).drew
          | exact HKP.out _ (Below.refl _ _)
          | fail))
        clear hK K
        try simp only [Act.put, gA1, gA2, gA3, gA4, gA5, gA6]
        refine wpAnyH_ready (rs := [28]) (by kernel_rfl) (by simp) ?_
        refine (AllReadyH.cons rfl (fun K hK => ?_) AllReadyH.nil)
        go_simp
        (go_at_call 19; refine (HSa.out wg gb gd hbG hrd9).mono ?_; rintro e ws ⟨rfl, hbq⟩; have hbS : Below wy.heap.size wy ws := hbG.trans (hbq.mono hbG.size); clear hbq)
        refine hK.out _ _ ?_ (fun hHeld => ?_)
        · ((first
          | exact HKP.out _ hbS
          | exact HKP.out _ hbG
          | exact HKP.out _ (Below.refl wy.heap.size wy).drew
          | exact HKP.out _ (Below.refl _ _)
          | fail))
        clear hK K
        try simp only [Act.put, gA1, gA2, gA3, gA4, gA5, gA6]
        refine tkA 29 (v := ?_) ?_ ?_
        rotate_left
        · (intro w' hSw; clear hSw; go_simp; try rfl)
        try simp only [Act.put, gA1, gA2, gA3, gA4, gA5, gA6]
        refine tkA 30 (v := ?_) ?_ ?_
        rotate_left
        · (intro w' hSw; clear hSw; go_simp; try rfl)
        try simp only [Act.put, gA1, gA2, gA3, gA4, gA5, gA6]
        refine wpAnyH_done (by kernel_rfl) ?_ _
        go_split_ands
        clear HKP
        have HXf : Hid (Below W.heap.size W ws) := Lib.hid (HX.out.trans (hbS.mono HX.out.size))
        clear hbS hbG hrd9
        go_wp2
        go_ret
        exact ⟨rfl, HXf.out⟩
      by_cases kz2 : m0 = 2
      case pos =>
        subst kz2
        have hpm := HPr.out
        rw [if_pos (show (2 : Int) = 0 ∨ (2 : Int) = 2 ∨ (2 : Int) = 5 from .inr (.inl rfl))] at hpm
        rw [hpm] at hah hkh
        obtain ⟨gy, uy, rfl, hyc, _, _⟩ := ans_one hah
        have HY : Hid (Bk wy gy 54 (msE (ansB b 7 ⟨2, m1, m2, (n3, n4, n5), (m6, m7), ⟨m8, (m9, m10), (m11, m12), ⟨m13, m14, m15, m16, m17, m18, m19, m20⟩, (m21, el)⟩, tn0⟩ (n6, n7) in0) uy (.slice none 0 0) (.slice none 0 0) (.slice none 0 0))) := Lib.hid hyc
        have H9 := Lib.hid hkh
        have HKP : Hid (∀ w', Below wy.heap.size wy w' → PrS (W.heap.size + 1) (W.heap.size + 1 + 1) gy wb [.int .i64 5, .int .i64 n1, .int .i64 n2, .int .i64 n3, .int .i64 n4, .int .i64 n5, .int .i64 n6, .int .i64 n7, .int .i64 n8, .int .i64 n9, .int .i64 n10, .int .i64 n11, .int .i64 n12, .int .i64 n13, .int .i64 n14, .int .i64 n15, .string n16, .string n17, .int .i64 n18, .int .i64 n19, .int .i64 n20, .int .i64 n21, .slice ua M uc, .int .i64 n23, .slice a1 d1 c1, .slice a2 d2 c2, .slice a3 d3 c3] [.int .i64 2, .int .i64 m1, .int .i64 m2, .int .i64 n3, .int .i64 n4, .int .i64 n5, .int .i64 m6, .int .i64 m7, .int .i64 m8, .int .i64 m9, .int .i64 m10, .int .i64 m11, .int .i64 m12, .int .i64 m13, .int .i64 m14, .int .i64 m15, .string m16, .string m17, .int .i64 m18, .int .i64 m19, .int .i64 m20, .int .i64 m21, .slice ub Mb ub2, .int .i64 m23, .slice b1 g1 k1, .slice b2 g2 k2, .slice b3 g3 k3] (msE (ansB b 7 ⟨2, m1, m2, (n3, n4, n5), (m6, m7), ⟨m8, (m9, m10), (m11, m12), ⟨m13, m14, m15, m16, m17, m18, m19, m20⟩, (m21, el)⟩, tn0⟩ (n6, n7) in0) uy (.slice none 0 0) (.slice none 0 0) (.slice none 0 0)) [.int .i64 p0, .int .i64 p1, .int .i64 p2, .int .i64 p3, .int .i64 p4, .int .i64 p5, .int .i64 p6, .int .i64 p7, .string p8, .string p9, .int .i64 p10, .int .i64 p11, .int .i64 p12, .int .i64 ps, .slice ga P gc] w') := Lib.hid fun w' hb => ⟨Bk.below HA.out hb, Bk.below HB.out hb, Bk.below HY.out hb, Bk.below HWs.out hb⟩
        have HG2 : Hid (∀ w', Below wy.heap.size wy w' → Calls Tryz.prog 20 #[bP g, .agg #[.int .i64 n3, .int .i64 n4, .int .i64 n5]] w' (fun e w'' => ∃ gb gd, e = .returned (.agg #[.int .i64 p0, .int .i64 p1, .int .i64 p2, .int .i64 p3, .int .i64 p4, .int .i64 p5, .int .i64 p6, .int .i64 p7, .string p8, .string p9, .int .i64 p10, .int .i64 p11, .int .i64 p12, .int .i64 ps, .slice gb P gd]) ∧ IK.Rd w'' (.slice gb P gd) pl ∧ Below w'.heap.size w' w'')) := Lib.hid fun w' hb => by
          have q := get_in (H9.out.on hb (Nat.le_trans H9.out.at'.lo.1 (Nat.le_of_lt H9.out.at'.lt))) (by have := HKb.out; omega) HID1.out
          rw [HGL.out] at q
          refine q.mono fun e w'' ⟨v', he, ho, hb⟩ => ?_
          obtain ⟨gb, gd, hv⟩ := ho.slice
          simp only at hv ho
          rw [HPl.out] at hv
          subst hv
          exact ⟨gb, gd, he.out, ho.rd, hb⟩
        have HSa : Hid (∀ w' gb gd, Below wy.heap.size wy w' → IK.Rd w' (.slice gb P gd) pl → Calls Tryz.prog 19 #[.agg #[.int .i64 p0, .int .i64 p1, .int .i64 p2, .int .i64 p3, .int .i64 p4, .int .i64 p5, .int .i64 p6, .int .i64 p7, .string p8, .string p9, .int .i64 p10, .int .i64 p11, .int .i64 p12, .int .i64 ps, .slice ga P gc], .agg #[.int .i64 p0, .int .i64 p1, .int .i64 p2, .int .i64 p3, .int .i64 p4, .int .i64 p5, .int .i64 p6, .int .i64 p7, .string p8, .string p9, .int .i64 p10, .int .i64 p11, .int .i64 p12, .int .i64 ps, .slice gb P gd]] w' (fun e w'' => e = .returned (.bool true) ∧ Below w'.heap.size w' w'')) := Lib.hid fun w' gb gd hb hr => by
          have q := sameI_any ⟨p0, (p1, p2), (p3, p4), ⟨p5, p6, p7, p8, p9, p10, p11, p12⟩, (ps, pl)⟩ (.slice ga P gc) (.slice gb P gd) w' (HWr.out.below hb) hr HPs.out
          simp only [inE] at q
          exact q
        obtain ⟨ebp, gbp⟩ := eqB_runA n6 n7 n6 n7 true (by simp)
        have yk := Bk.cell HB.out 0
        simp only [msE, ansB, List.cons_append, List.nil_append, List.getElem?_cons_zero, List.getElem?_cons_succ] at yk
        have ly := Bk.lt HY.out
        clear hah hkh hyc hpm HPr H9
        go_wp2_with fail
        refine wp_region_held_drew (S := (PrS (W.heap.size + 1) (W.heap.size + 1 + 1) gy wb [.int .i64 5, .int .i64 n1, .int .i64 n2, .int .i64 n3, .int .i64 n4, .int .i64 n5, .int .i64 n6, .int .i64 n7, .int .i64 n8, .int .i64 n9, .int .i64 n10, .int .i64 n11, .int .i64 n12, .int .i64 n13, .int .i64 n14, .int .i64 n15, .string n16, .string n17, .int .i64 n18, .int .i64 n19, .int .i64 n20, .int .i64 n21, .slice ua M uc, .int .i64 n23, .slice a1 d1 c1, .slice a2 d2 c2, .slice a3 d3 c3] [.int .i64 2, .int .i64 m1, .int .i64 m2, .int .i64 n3, .int .i64 n4, .int .i64 n5, .int .i64 m6, .int .i64 m7, .int .i64 m8, .int .i64 m9, .int .i64 m10, .int .i64 m11, .int .i64 m12, .int .i64 m13, .int .i64 m14, .int .i64 m15, .string m16, .string m17, .int .i64 m18, .int .i64 m19, .int .i64 m20, .int .i64 m21, .slice ub Mb ub2, .int .i64 m23, .slice b1 g1 k1, .slice b2 g2 k2, .slice b3 g3 k3] (msE (ansB b 7 ⟨2, m1, m2, (n3, n4, n5), (m6, m7), ⟨m8, (m9, m10), (m11, m12), ⟨m13, m14, m15, m16, m17, m18, m19, m20⟩, (m21, el)⟩, tn0⟩ (n6, n7) in0) uy (.slice none 0 0) (.slice none 0 0) (.slice none 0 0)) [.int .i64 p0, .int .i64 p1, .int .i64 p2, .int .i64 p3, .int .i64 p4, .int .i64 p5, .int .i64 p6, .int .i64 p7, .string p8, .string p9, .int .i64 p10, .int .i64 p11, .int .i64 p12, .int .i64 ps, .slice ga P gc])) (by kernel_rfl) ?_ (fun hHeld => ?_)
        · ((first
          | exact HKP.out _ hbS
          | exact HKP.out _ hbG
          | exact HKP.out _ (Below.refl wy.heap.size wy).drew
          | exact HKP.out _ (Below.refl _ _)
          | fail))
        refine tkA 0 (v := ?_) ?_ ?_
        rotate_left
        · (intro w' hSw; clear hSw; go_simp; try rfl)
        try simp only [Act.put, gA1, gA2, gA3, gA4, gA5, gA6]
        refine tkA 1 (v := ?_) ?_ ?_
        rotate_left
        · (intro w' hSw; clear hSw; go_simp; try rfl)
        try simp only [Act.put, gA1, gA2, gA3, gA4, gA5, gA6]
        refine tkA 2 (v := ?_) ?_ ?_
        rotate_left
        · (intro w' hSw; clear hSw; go_simp; try rfl)
        try simp only [Act.put, gA1, gA2, gA3, gA4, gA5, gA6]
        refine wpAnyH_ready (rs := [3]) (by kernel_rfl) (by simp) ?_
        refine (AllReadyH.cons rfl (fun K hK => ?_) AllReadyH.nil)
        go_simp
        refine hK.out _ _ ?_ (fun hHeld => ?_)
        · ((first
          | exact HKP.out _ hbS
          | exact HKP.out _ hbG
          | exact HKP.out _ (Below.refl wy.heap.size wy).drew
          | exact HKP.out _ (Below.refl _ _)
          | fail))
        clear hK K
        try simp only [Act.put, gA1, gA2, gA3, gA4, gA5, gA6]
        refine tkA 4 (v := ?_) ?_ ?_
        rotate_left
        · (intro w' hSw; clear hSw; go_simp; try rfl)
        try simp only [Act.put, gA1, gA2, gA3, gA4, gA5, gA6]
        refine tkA 5 (v := ?_) ?_ ?_
        rotate_left
        · (intro w' hSw; clear hSw; go_simp; try rfl)
        try simp only [Act.put, gA1, gA2, gA3, gA4, gA5, gA6]
        refine tkA 6 (v := ?_) ?_ ?_
        rotate_left
        · (intro w' hSw; clear hSw; go_simp; try rfl)
        try simp only [Act.put, gA1, gA2, gA3, gA4, gA5, gA6]
        refine tkA 7 (v := ?_) ?_ ?_
        rotate_left
        · (intro w' hSw; clear hSw; go_simp; try rfl)
        try simp only [Act.put, gA1, gA2, gA3, gA4, gA5, gA6]
        refine tkA 8 (v := ?_) ?_ ?_
        rotate_left
        · (intro w' hSw; clear hSw; go_simp; try rfl)
        try simp only [Act.put, gA1, gA2, gA3, gA4, gA5, gA6]
        refine tkA 9 (v := ?_) ?_ ?_
        rotate_left
        · (intro w' hSw; clear hSw; go_simp; try rfl)
        try simp only [Act.put, gA1, gA2, gA3, gA4, gA5, gA6]
        refine tkA 10 (v := ?_) ?_ ?_
        rotate_left
        · (intro w' hSw; have e0 := Bk.cell hSw.yy 0; simp only [msE, ansB, List.cons_append, List.nil_append, List.getElem?_cons_zero, List.getElem?_cons_succ] at e0; clear hSw; go_simp; try rfl)
        try simp only [Act.put, gA1, gA2, gA3, gA4, gA5, gA6]
        refine tkA 11 (v := ?_) ?_ ?_
        rotate_left
        · (intro w' hSw; clear hSw; go_simp; try rfl)
        try simp only [Act.put, gA1, gA2, gA3, gA4, gA5, gA6]
        refine tkA 12 (v := ?_) ?_ ?_
        rotate_left
        · (intro w' hSw; clear hSw; go_simp; try rfl)
        try simp only [Act.put, gA1, gA2, gA3, gA4, gA5, gA6]
        refine tkA 13 (v := ?_) ?_ ?_
        rotate_left
        · (intro w' hSw; clear hSw; go_simp; try rfl)
        try simp only [Act.put, gA1, gA2, gA3, gA4, gA5, gA6]
        refine tkA 14 (v := ?_) ?_ ?_
        rotate_left
        · (intro w' hSw; clear hSw; go_simp; try rfl)
        try simp only [Act.put, gA1, gA2, gA3, gA4, gA5, gA6]
        refine tkA 15 (v := ?_) ?_ ?_
        rotate_left
        · (intro w' hSw; clear hSw; go_simp; try rfl)
        try simp only [Act.put, gA1, gA2, gA3, gA4, gA5, gA6]
        refine tkA 16 (v := ?_) ?_ ?_
        rotate_left
        · (intro w' hSw; clear hSw; go_simp; try rfl)
        try simp only [Act.put, gA1, gA2, gA3, gA4, gA5, gA6]
        refine tkA 17 (v := ?_) ?_ ?_
        rotate_left
        · (intro w' hSw; have e6 := Bk.cell hSw.yy 6; have e7 := Bk.cell hSw.yy 7; simp only [msE, ansB, List.cons_append, List.nil_append, List.getElem?_cons_zero, List.getElem?_cons_succ] at e6 e7; clear hSw; go_simp; try rfl)
        try simp only [Act.put, gA1, gA2, gA3, gA4, gA5, gA6]
        refine tkA 18 (v := ?_) ?_ ?_
        rotate_left
        · (intro w' hSw; clear hSw; go_simp; try rfl)
        try simp only [Act.put, gA1, gA2, gA3, gA4, gA5, gA6]
        refine tkA 19 (v := ?_) ?_ ?_
        rotate_left
        · (intro w' hSw; have e6 := Bk.cell hSw.pp 6; have e7 := Bk.cell hSw.pp 7; simp only [msE, ansB, List.cons_append, List.nil_append, List.getElem?_cons_zero, List.getElem?_cons_succ] at e6 e7; clear hSw; go_simp; try rfl)
        try simp only [Act.put, gA1, gA2, gA3, gA4, gA5, gA6]
        refine tkA 20 (v := ?_) ?_ ?_
        rotate_left
        · (intro w' hSw; clear hSw; go_simp; try rfl)
        try simp only [Act.put, gA1, gA2, gA3, gA4, gA5, gA6]
        refine tkA 21 (v := ?_) ?_ ?_
        rotate_left
        · (intro w' hSw; clear hSw; go_simp; try rfl)
        try simp only [Act.put, gA1, gA2, gA3, gA4, gA5, gA6]
        refine tkA 22 (v := ?_) ?_ ?_
        rotate_left
        · (intro w' hSw; clear hSw; go_simp; try rfl)
        try simp only [Act.put, gA1, gA2, gA3, gA4, gA5, gA6]
        refine tkA 23 (v := ?_) ?_ ?_
        rotate_left
        · (intro w' hSw; refine Eq.trans (load_rowS 48 (.tmp 15) (by rfl) wb (by rfl) 48 #[.int .i64 p0, .int .i64 p1, .int .i64 p2, .int .i64 p3, .int .i64 p4, .int .i64 p5, .int .i64 p6, .int .i64 p7, .string p8, .string p9, .int .i64 p10, .int .i64 p11, .int .i64 p12, .int .i64 ps, .slice ga P gc] (0, 0) _ hSw.ww Tryz.underlying48 rfl infoIn) ?_; rfl)
        try simp only [Act.put, gA1, gA2, gA3, gA4, gA5, gA6]
        refine tkA 24 (v := ?_) ?_ ?_
        rotate_left
        · (intro w' hSw; clear hSw; go_simp; try rfl)
        try simp only [Act.put, gA1, gA2, gA3, gA4, gA5, gA6]
        refine tkA 25 (v := ?_) ?_ ?_
        rotate_left
        · (intro w' hSw; clear hSw; go_simp; try rfl)
        try simp only [Act.put, gA1, gA2, gA3, gA4, gA5, gA6]
        refine tkA 26 (v := ?_) ?_ ?_
        rotate_left
        · (intro w' hSw; have e3 := Bk.cell hSw.mm 3; have e4 := Bk.cell hSw.mm 4; have e5 := Bk.cell hSw.mm 5; simp only [msE, ansB, List.cons_append, List.nil_append, List.getElem?_cons_zero, List.getElem?_cons_succ] at e3 e4 e5; clear hSw; go_simp; try rfl)
        try simp only [Act.put, gA1, gA2, gA3, gA4, gA5, gA6]
        refine wpAnyH_ready (rs := [27]) (by kernel_rfl) (by simp) ?_
        refine (AllReadyH.cons rfl (fun K hK => ?_) AllReadyH.nil)
        go_simp
        (go_at_call 20; refine (HG2.out _ (Below.refl wy.heap.size wy).drew).mono ?_; rintro e wg ⟨gb, gd, he, hrd9, hbq⟩; subst he; have hbG : Below wy.heap.size wy wg := (Below.refl wy.heap.size wy).drew.trans hbq; clear hbq)
        refine hK.out _ _ ?_ (fun hHeld => ?_)
        · ((first
          | exact HKP.out _ hbS
          | exact HKP.out _ hbG
          | exact HKP.out _ (Below.refl wy.heap.size wy).drew
          | exact HKP.out _ (Below.refl _ _)
          | fail))
        clear hK K
        try simp only [Act.put, gA1, gA2, gA3, gA4, gA5, gA6]
        refine wpAnyH_ready (rs := [28]) (by kernel_rfl) (by simp) ?_
        refine (AllReadyH.cons rfl (fun K hK => ?_) AllReadyH.nil)
        go_simp
        (go_at_call 19; refine (HSa.out wg gb gd hbG hrd9).mono ?_; rintro e ws ⟨rfl, hbq⟩; have hbS : Below wy.heap.size wy ws := hbG.trans (hbq.mono hbG.size); clear hbq)
        refine hK.out _ _ ?_ (fun hHeld => ?_)
        · ((first
          | exact HKP.out _ hbS
          | exact HKP.out _ hbG
          | exact HKP.out _ (Below.refl wy.heap.size wy).drew
          | exact HKP.out _ (Below.refl _ _)
          | fail))
        clear hK K
        try simp only [Act.put, gA1, gA2, gA3, gA4, gA5, gA6]
        refine tkA 29 (v := ?_) ?_ ?_
        rotate_left
        · (intro w' hSw; clear hSw; go_simp; try rfl)
        try simp only [Act.put, gA1, gA2, gA3, gA4, gA5, gA6]
        refine tkA 30 (v := ?_) ?_ ?_
        rotate_left
        · (intro w' hSw; clear hSw; go_simp; try rfl)
        try simp only [Act.put, gA1, gA2, gA3, gA4, gA5, gA6]
        refine wpAnyH_done (by kernel_rfl) ?_ _
        go_split_ands
        clear HKP
        have HXf : Hid (Below W.heap.size W ws) := Lib.hid (HX.out.trans (hbS.mono HX.out.size))
        clear hbS hbG hrd9
        go_wp2
        go_ret
        exact ⟨rfl, HXf.out⟩
      by_cases kz5 : m0 = 5
      case pos =>
        subst kz5
        have hpm := HPr.out
        rw [if_pos (show (5 : Int) = 0 ∨ (5 : Int) = 2 ∨ (5 : Int) = 5 from .inr (.inr rfl))] at hpm
        rw [hpm] at hah hkh
        obtain ⟨gy, uy, rfl, hyc, _, _⟩ := ans_one hah
        have HY : Hid (Bk wy gy 54 (msE (ansB b 7 ⟨5, m1, m2, (n3, n4, n5), (m6, m7), ⟨m8, (m9, m10), (m11, m12), ⟨m13, m14, m15, m16, m17, m18, m19, m20⟩, (m21, el)⟩, tn0⟩ (n6, n7) in0) uy (.slice none 0 0) (.slice none 0 0) (.slice none 0 0))) := Lib.hid hyc
        have H9 := Lib.hid hkh
        have HKP : Hid (∀ w', Below wy.heap.size wy w' → PrS (W.heap.size + 1) (W.heap.size + 1 + 1) gy wb [.int .i64 5, .int .i64 n1, .int .i64 n2, .int .i64 n3, .int .i64 n4, .int .i64 n5, .int .i64 n6, .int .i64 n7, .int .i64 n8, .int .i64 n9, .int .i64 n10, .int .i64 n11, .int .i64 n12, .int .i64 n13, .int .i64 n14, .int .i64 n15, .string n16, .string n17, .int .i64 n18, .int .i64 n19, .int .i64 n20, .int .i64 n21, .slice ua M uc, .int .i64 n23, .slice a1 d1 c1, .slice a2 d2 c2, .slice a3 d3 c3] [.int .i64 5, .int .i64 m1, .int .i64 m2, .int .i64 n3, .int .i64 n4, .int .i64 n5, .int .i64 m6, .int .i64 m7, .int .i64 m8, .int .i64 m9, .int .i64 m10, .int .i64 m11, .int .i64 m12, .int .i64 m13, .int .i64 m14, .int .i64 m15, .string m16, .string m17, .int .i64 m18, .int .i64 m19, .int .i64 m20, .int .i64 m21, .slice ub Mb ub2, .int .i64 m23, .slice b1 g1 k1, .slice b2 g2 k2, .slice b3 g3 k3] (msE (ansB b 7 ⟨5, m1, m2, (n3, n4, n5), (m6, m7), ⟨m8, (m9, m10), (m11, m12), ⟨m13, m14, m15, m16, m17, m18, m19, m20⟩, (m21, el)⟩, tn0⟩ (n6, n7) in0) uy (.slice none 0 0) (.slice none 0 0) (.slice none 0 0)) [.int .i64 p0, .int .i64 p1, .int .i64 p2, .int .i64 p3, .int .i64 p4, .int .i64 p5, .int .i64 p6, .int .i64 p7, .string p8, .string p9, .int .i64 p10, .int .i64 p11, .int .i64 p12, .int .i64 ps, .slice ga P gc] w') := Lib.hid fun w' hb => ⟨Bk.below HA.out hb, Bk.below HB.out hb, Bk.below HY.out hb, Bk.below HWs.out hb⟩
        have HG2 : Hid (∀ w', Below wy.heap.size wy w' → Calls Tryz.prog 20 #[bP g, .agg #[.int .i64 n3, .int .i64 n4, .int .i64 n5]] w' (fun e w'' => ∃ gb gd, e = .returned (.agg #[.int .i64 p0, .int .i64 p1, .int .i64 p2, .int .i64 p3, .int .i64 p4, .int .i64 p5, .int .i64 p6, .int .i64 p7, .string p8, .string p9, .int .i64 p10, .int .i64 p11, .int .i64 p12, .int .i64 ps, .slice gb P gd]) ∧ IK.Rd w'' (.slice gb P gd) pl ∧ Below w'.heap.size w' w'')) := Lib.hid fun w' hb => by
          have q := get_in (H9.out.on hb (Nat.le_trans H9.out.at'.lo.1 (Nat.le_of_lt H9.out.at'.lt))) (by have := HKb.out; omega) HID1.out
          rw [HGL.out] at q
          refine q.mono fun e w'' ⟨v', he, ho, hb⟩ => ?_
          obtain ⟨gb, gd, hv⟩ := ho.slice
          simp only at hv ho
          rw [HPl.out] at hv
          subst hv
          exact ⟨gb, gd, he.out, ho.rd, hb⟩
        have HSa : Hid (∀ w' gb gd, Below wy.heap.size wy w' → IK.Rd w' (.slice gb P gd) pl → Calls Tryz.prog 19 #[.agg #[.int .i64 p0, .int .i64 p1, .int .i64 p2, .int .i64 p3, .int .i64 p4, .int .i64 p5, .int .i64 p6, .int .i64 p7, .string p8, .string p9, .int .i64 p10, .int .i64 p11, .int .i64 p12, .int .i64 ps, .slice ga P gc], .agg #[.int .i64 p0, .int .i64 p1, .int .i64 p2, .int .i64 p3, .int .i64 p4, .int .i64 p5, .int .i64 p6, .int .i64 p7, .string p8, .string p9, .int .i64 p10, .int .i64 p11, .int .i64 p12, .int .i64 ps, .slice gb P gd]] w' (fun e w'' => e = .returned (.bool true) ∧ Below w'.heap.size w' w'')) := Lib.hid fun w' gb gd hb hr => by
          have q := sameI_any ⟨p0, (p1, p2), (p3, p4), ⟨p5, p6, p7, p8, p9, p10, p11, p12⟩, (ps, pl)⟩ (.slice ga P gc) (.slice gb P gd) w' (HWr.out.below hb) hr HPs.out
          simp only [inE] at q
          exact q
        obtain ⟨ebp, gbp⟩ := eqB_runA n6 n7 n6 n7 true (by simp)
        have yk := Bk.cell HB.out 0
        simp only [msE, ansB, List.cons_append, List.nil_append, List.getElem?_cons_zero, List.getElem?_cons_succ] at yk
        have ly := Bk.lt HY.out
        clear hah hkh hyc hpm HPr H9
        go_wp2_with fail
        refine wp_region_held_drew (S := (PrS (W.heap.size + 1) (W.heap.size + 1 + 1) gy wb [.int .i64 5, .int .i64 n1, .int .i64 n2, .int .i64 n3, .int .i64 n4, .int .i64 n5, .int .i64 n6, .int .i64 n7, .int .i64 n8, .int .i64 n9, .int .i64 n10, .int .i64 n11, .int .i64 n12, .int .i64 n13, .int .i64 n14, .int .i64 n15, .string n16, .string n17, .int .i64 n18, .int .i64 n19, .int .i64 n20, .int .i64 n21, .slice ua M uc, .int .i64 n23, .slice a1 d1 c1, .slice a2 d2 c2, .slice a3 d3 c3] [.int .i64 5, .int .i64 m1, .int .i64 m2, .int .i64 n3, .int .i64 n4, .int .i64 n5, .int .i64 m6, .int .i64 m7, .int .i64 m8, .int .i64 m9, .int .i64 m10, .int .i64 m11, .int .i64 m12, .int .i64 m13, .int .i64 m14, .int .i64 m15, .string m16, .string m17, .int .i64 m18, .int .i64 m19, .int .i64 m20, .int .i64 m21, .slice ub Mb ub2, .int .i64 m23, .slice b1 g1 k1, .slice b2 g2 k2, .slice b3 g3 k3] (msE (ansB b 7 ⟨5, m1, m2, (n3, n4, n5), (m6, m7), ⟨m8, (m9, m10), (m11, m12), ⟨m13, m14, m15, m16, m17, m18, m19, m20⟩, (m21, el)⟩, tn0⟩ (n6, n7) in0) uy (.slice none 0 0) (.slice none 0 0) (.slice none 0 0)) [.int .i64 p0, .int .i64 p1, .int .i64 p2, .int .i64 p3, .int .i64 p4, .int .i64 p5, .int .i64 p6, .int .i64 p7, .string p8, .string p9, .int .i64 p10, .int .i64 p11, .int .i64 p12, .int .i64 ps, .slice ga P gc])) (by kernel_rfl) ?_ (fun hHeld => ?_)
        · ((first
          | exact HKP.out _ hbS
          | exact HKP.out _ hbG
          | exact HKP.out _ (Below.refl wy.heap.size wy).drew
          | exact HKP.out _ (Below.refl _ _)
          | fail))
        refine tkA 0 (v := ?_) ?_ ?_
        rotate_left
        · (intro w' hSw; clear hSw; go_simp; try rfl)
        try simp only [Act.put, gA1, gA2, gA3, gA4, gA5, gA6]
        refine tkA 1 (v := ?_) ?_ ?_
        rotate_left
        · (intro w' hSw; clear hSw; go_simp; try rfl)
        try simp only [Act.put, gA1, gA2, gA3, gA4, gA5, gA6]
        refine tkA 2 (v := ?_) ?_ ?_
        rotate_left
        · (intro w' hSw; clear hSw; go_simp; try rfl)
        try simp only [Act.put, gA1, gA2, gA3, gA4, gA5, gA6]
        refine wpAnyH_ready (rs := [3]) (by kernel_rfl) (by simp) ?_
        refine (AllReadyH.cons rfl (fun K hK => ?_) AllReadyH.nil)
        go_simp
        refine hK.out _ _ ?_ (fun hHeld => ?_)
        · ((first
          | exact HKP.out _ hbS
          | exact HKP.out _ hbG
          | exact HKP.out _ (Below.refl wy.heap.size wy).drew
          | exact HKP.out _ (Below.refl _ _)
          | fail))
        clear hK K
        try simp only [Act.put, gA1, gA2, gA3, gA4, gA5, gA6]
        refine tkA 4 (v := ?_) ?_ ?_
        rotate_left
        · (intro w' hSw; clear hSw; go_simp; try rfl)
        try simp only [Act.put, gA1, gA2, gA3, gA4, gA5, gA6]
        refine tkA 5 (v := ?_) ?_ ?_
        rotate_left
        · (intro w' hSw; clear hSw; go_simp; try rfl)
        try simp only [Act.put, gA1, gA2, gA3, gA4, gA5, gA6]
        refine tkA 6 (v := ?_) ?_ ?_
        rotate_left
        · (intro w' hSw; clear hSw; go_simp; try rfl)
        try simp only [Act.put, gA1, gA2, gA3, gA4, gA5, gA6]
        refine tkA 7 (v := ?_) ?_ ?_
        rotate_left
        · (intro w' hSw; clear hSw; go_simp; try rfl)
        try simp only [Act.put, gA1, gA2, gA3, gA4, gA5, gA6]
        refine tkA 8 (v := ?_) ?_ ?_
        rotate_left
        · (intro w' hSw; clear hSw; go_simp; try rfl)
        try simp only [Act.put, gA1, gA2, gA3, gA4, gA5, gA6]
        refine tkA 9 (v := ?_) ?_ ?_
        rotate_left
        · (intro w' hSw; clear hSw; go_simp; try rfl)
        try simp only [Act.put, gA1, gA2, gA3, gA4, gA5, gA6]
        refine tkA 10 (v := ?_) ?_ ?_
        rotate_left
        · (intro w' hSw; have e0 := Bk.cell hSw.yy 0; simp only [msE, ansB, List.cons_append, List.nil_append, List.getElem?_cons_zero, List.getElem?_cons_succ] at e0; clear hSw; go_simp; try rfl)
        try simp only [Act.put, gA1, gA2, gA3, gA4, gA5, gA6]
        refine tkA 11 (v := ?_) ?_ ?_
        rotate_left
        · (intro w' hSw; clear hSw; go_simp; try rfl)
        try simp only [Act.put, gA1, gA2, gA3, gA4, gA5, gA6]
        refine tkA 12 (v := ?_) ?_ ?_
        rotate_left
        · (intro w' hSw; clear hSw; go_simp; try rfl)
        try simp only [Act.put, gA1, gA2, gA3, gA4, gA5, gA6]
        refine tkA 13 (v := ?_) ?_ ?_
        rotate_left
        · (intro w' hSw; clear hSw; go_simp; try rfl)
        try simp only [Act.put, gA1, gA2, gA3, gA4, gA5, gA6]
        refine tkA 14 (v := ?_) ?_ ?_
        rotate_left
        · (intro w' hSw; clear hSw; go_simp; try rfl)
        try simp only [Act.put, gA1, gA2, gA3, gA4, gA5, gA6]
        refine tkA 15 (v := ?_) ?_ ?_
        rotate_left
        · (intro w' hSw; clear hSw; go_simp; try rfl)
        try simp only [Act.put, gA1, gA2, gA3, gA4, gA5, gA6]
        refine tkA 16 (v := ?_) ?_ ?_
        rotate_left
        · (intro w' hSw; clear hSw; go_simp; try rfl)
        try simp only [Act.put, gA1, gA2, gA3, gA4, gA5, gA6]
        refine tkA 17 (v := ?_) ?_ ?_
        rotate_left
        · (intro w' hSw; have e6 := Bk.cell hSw.yy 6; have e7 := Bk.cell hSw.yy 7; simp only [msE, ansB, List.cons_append, List.nil_append, List.getElem?_cons_zero, List.getElem?_cons_succ] at e6 e7; clear hSw; go_simp; try rfl)
        try simp only [Act.put, gA1, gA2, gA3, gA4, gA5, gA6]
        refine tkA 18 (v := ?_) ?_ ?_
        rotate_left
        · (intro w' hSw; clear hSw; go_simp; try rfl)
        try simp only [Act.put, gA1, gA2, gA3, gA4, gA5, gA6]
        refine tkA 19 (v := ?_) ?_ ?_
        rotate_left
        · (intro w' hSw; have e6 := Bk.cell hSw.pp 6; have e7 := Bk.cell hSw.pp 7; simp only [msE, ansB, List.cons_append, List.nil_append, List.getElem?_cons_zero, List.getElem?_cons_succ] at e6 e7; clear hSw; go_simp; try rfl)
        try simp only [Act.put, gA1, gA2, gA3, gA4, gA5, gA6]
        refine tkA 20 (v := ?_) ?_ ?_
        rotate_left
        · (intro w' hSw; clear hSw; go_simp; try rfl)
        try simp only [Act.put, gA1, gA2, gA3, gA4, gA5, gA6]
        refine tkA 21 (v := ?_) ?_ ?_
        rotate_left
        · (intro w' hSw; clear hSw; go_simp; try rfl)
        try simp only [Act.put, gA1, gA2, gA3, gA4, gA5, gA6]
        refine tkA 22 (v := ?_) ?_ ?_
        rotate_left
        · (intro w' hSw; clear hSw; go_simp; try rfl)
        try simp only [Act.put, gA1, gA2, gA3, gA4, gA5, gA6]
        refine tkA 23 (v := ?_) ?_ ?_
        rotate_left
        · (intro w' hSw; refine Eq.trans (load_rowS 48 (.tmp 15) (by rfl) wb (by rfl) 48 #[.int .i64 p0, .int .i64 p1, .int .i64 p2, .int .i64 p3, .int .i64 p4, .int .i64 p5, .int .i64 p6, .int .i64 p7, .string p8, .string p9, .int .i64 p10, .int .i64 p11, .int .i64 p12, .int .i64 ps, .slice ga P gc] (0, 0) _ hSw.ww Tryz.underlying48 rfl infoIn) ?_; rfl)
        try simp only [Act.put, gA1, gA2, gA3, gA4, gA5, gA6]
        refine tkA 24 (v := ?_) ?_ ?_
        rotate_left
        · (intro w' hSw; clear hSw; go_simp; try rfl)
        try simp only [Act.put, gA1, gA2, gA3, gA4, gA5, gA6]
        refine tkA 25 (v := ?_) ?_ ?_
        rotate_left
        · (intro w' hSw; clear hSw; go_simp; try rfl)
        try simp only [Act.put, gA1, gA2, gA3, gA4, gA5, gA6]
        refine tkA 26 (v := ?_) ?_ ?_
        rotate_left
        · (intro w' hSw; have e3 := Bk.cell hSw.mm 3; have e4 := Bk.cell hSw.mm 4; have e5 := Bk.cell hSw.mm 5; simp only [msE, ansB, List.cons_append, List.nil_append, List.getElem?_cons_zero, List.getElem?_cons_succ] at e3 e4 e5; clear hSw; go_simp; try rfl)
        try simp only [Act.put, gA1, gA2, gA3, gA4, gA5, gA6]
        refine wpAnyH_ready (rs := [27]) (by kernel_rfl) (by simp) ?_
        refine (AllReadyH.cons rfl (fun K hK => ?_) AllReadyH.nil)
        go_simp
        (go_at_call 20; refine (HG2.out _ (Below.refl wy.heap.size wy).drew).mono ?_; rintro e wg ⟨gb, gd, he, hrd9, hbq⟩; subst he; have hbG : Below wy.heap.size wy wg := (Below.refl wy.heap.size wy).drew.trans hbq; clear hbq)
        refine hK.out _ _ ?_ (fun hHeld => ?_)
        · ((first
          | exact HKP.out _ hbS
          | exact HKP.out _ hbG
          | exact HKP.out _ (Below.refl wy.heap.size wy).drew
          | exact HKP.out _ (Below.refl _ _)
          | fail))
        clear hK K
        try simp only [Act.put, gA1, gA2, gA3, gA4, gA5, gA6]
        refine wpAnyH_ready (rs := [28]) (by kernel_rfl) (by simp) ?_
        refine (AllReadyH.cons rfl (fun K hK => ?_) AllReadyH.nil)
        go_simp
        (go_at_call 19; refine (HSa.out wg gb gd hbG hrd9).mono ?_; rintro e ws ⟨rfl, hbq⟩; have hbS : Below wy.heap.size wy ws := hbG.trans (hbq.mono hbG.size); clear hbq)
        refine hK.out _ _ ?_ (fun hHeld => ?_)
        · ((first
          | exact HKP.out _ hbS
          | exact HKP.out _ hbG
          | exact HKP.out _ (Below.refl wy.heap.size wy).drew
          | exact HKP.out _ (Below.refl _ _)
          | fail))
        clear hK K
        try simp only [Act.put, gA1, gA2, gA3, gA4, gA5, gA6]
        refine tkA 29 (v := ?_) ?_ ?_
        rotate_left
        · (intro w' hSw; clear hSw; go_simp; try rfl)
        try simp only [Act.put, gA1, gA2, gA3, gA4, gA5, gA6]
        refine tkA 30 (v := ?_) ?_ ?_
        rotate_left
        · (intro w' hSw; clear hSw; go_simp; try rfl)
        try simp only [Act.put, gA1, gA2, gA3, gA4, gA5, gA6]
        refine wpAnyH_done (by kernel_rfl) ?_ _
        go_split_ands
        clear HKP
        have HXf : Hid (Below W.heap.size W ws) := Lib.hid (HX.out.trans (hbS.mono HX.out.size))
        clear hbS hbG hrd9
        go_wp2
        go_ret
        exact ⟨rfl, HXf.out⟩
      have hpm := HPr.out
      rw [if_neg (show ¬ (m0 = 0 ∨ m0 = 2 ∨ m0 = 5) from fun q => q.elim kz0 fun q => q.elim kz2 kz5)] at hpm
      rw [hpm] at hah
      rcases hah with ⟨_, rfl⟩ | ⟨_, _, _, e9, _⟩
      case inr => cases e9
      have d0 : (m0 != 0) = true := by simpa using kz0
      have d2 : (m0 != 2) = true := by simpa using kz2
      have d5 : (m0 != 5) = true := by simpa using kz5
      have yk := Bk.cell HB.out 0
      simp only [msE, ansB, List.cons_append, List.nil_append, List.getElem?_cons_zero, List.getElem?_cons_succ] at yk
      clear hkh hpm HPr
      go_wp2
      go_ret
      exact ⟨rfl, HX.out⟩
end Go.Proofs.YtchhcaoondfpiaaGreat
