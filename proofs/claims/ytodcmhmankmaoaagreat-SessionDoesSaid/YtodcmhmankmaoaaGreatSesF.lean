/-
 What the laws of machines lean on; the document's example.
-/
import Derived.Test.YtodcmhmankmaoaaGreatSesE
namespace Go.Proofs.YtodcmhmankmaoaaGreat
open Go.RowKit
set_option linter.unusedSimpArgs false
set_option linter.unusedVariables false

theorem skrd_nms {w : World} {v : Value} {ns : List ByteArray} (h : SK.Rd w v ns) : Nms w v ns := by
 obtain ⟨a, c, e, h1, _, h3⟩ := h
 refine ⟨a, c, e, by unfold maxLen at h1; omega, ?_⟩
 rcases h3 with h3 | ⟨g, off, ha, hg, hc⟩
 ·exact .inl h3
 ·refine .inr ⟨g, off, ha, hg, fun i hi => hc i _ ?_⟩
  rw [sk_row, List.getElem?_map, List.getElem?_eq_getElem hi, List.getD, List.getElem?_eq_getElem hi]
  rfl
theorem RB.two {b : Nat} {r : Rep} {X w w' : World} {g d bk sb K : Nat} {m : Mac} (h : RB b r w) (hM : MacAt X g d bk sb K m w) (ht : Two w w' bk sb) : RB b r w' := by
 obtain ⟨w1, g1, g2, hc, _⟩ := ht.mid
 exact (h.out g1 hM.lw.ne).out g2 hc
theorem CB.two {b : Nat} {t : Cm} {X w w' : World} {g d bk sb K : Nat} {m : Mac} (h : CB b t w) (hM : MacAt X g d bk sb K m w) (ht : Two w w' bk sb) : CB b t w' := by
 obtain ⟨w1, g1, g2, hc, _⟩ := ht.mid
 exact (h.out g1 hM.lw.ne).out g2 hc
theorem Knd.Rd.two {P : Program} {α : Type} {K1 : Knd P α} {v : Value} {l : List α} {X w w' : World} {g d bk sb K : Nat} {m : Mac} (h : K1.Rd w v l) (hM : MacAt X g d bk sb K m w) (ht : Two w w' bk sb) : K1.Rd w' v l := by
 obtain ⟨w1, g1, g2, hc, _⟩ := ht.mid
 exact (h.out g1 hM.lw.ne).out g2 hc
theorem Match.two {xs : List SV} {s : List S3} {X w w' : World} {g d bk sb K : Nat} {m : Mac} (h : Match w xs s) (hM : MacAt X g d bk sb K m w) (ht : Two w w' bk sb) : Match w' xs s := by
 obtain ⟨w1, g1, g2, _, hk⟩ := ht.mid
 exact (h.out g1 hM.lw.blkNe).out g2 hk
/-- The maps of two machines are four. -/
structure Ap (bk sb b2 s2 : Nat) : Prop where
 a : b2 ≠ bk
 b : s2 ≠ bk
 c : b2 ≠ sb
 d : s2 ≠ sb
theorem Ap.symm {bk sb b2 s2 : Nat} (h : Ap bk sb b2 s2) : Ap b2 s2 bk sb := ⟨h.a.symm, h.c.symm, h.b.symm, h.d.symm⟩
theorem MacAt.box {X w : World} {g d bk sb K : Nat} {m : Mac} (h : MacAt X g d bk sb K m w) (cs : Array Value) (T : TypeId) : MacAt X g d bk sb K m (w.alloc (.cells cs T)) := h.on ((Below.refl _ _).alloc (Nat.le_refl _) _)
abbrev r0 : Rep := bad 0
def wM1 : Mac := ⟨[(pA, v0, 1)], [(1, 1, ⟨0, v0, 1, []⟩)]⟩
theorem wm1_is : appM ⟨[], []⟩ ⟨1, 1, 1, pA, v0, 0, 0, 0⟩ r0 = (⟨0, v0, 1, []⟩, wM1) := by rfl
theorem wm2_is : appM wM1 ⟨1, 1, 1, pA, v0, 0, 0, 0⟩ r0 = (⟨0, v0, 1, []⟩, wM1) := by rfl
set_option maxRecDepth 100000 in
set_option maxHeartbeats 4000000 in
theorem works9_any (w : World) (hm : ML w) : Calls Tryz.prog 16 #[] w fun e w' => e = .returned (.bool true) ∧ Below w.heap.size w w' := by
 have HN := Lib.hid (mnew_any (Below.refl _ w) hm)
 clear hm
 go_enter Tryz.func16, Tryz.ntmps16
 go_wp2_with fail
 refine HN.out.mono ?_
 rintro e w1 ⟨g, d, bk, sb, he, hM⟩
 have he := he.out
 subst he
 have HM1 := Lib.hid hM
 have HS1 := Lib.hid SmM.empty
 clear hM HN
 go_wp2_with fail
 obtain ⟨Z1, hZ1⟩ : ∃ Z, w1.alloc (.cells #[.int .i64 1, .int .i64 1, .int .i64 1, .string pA, .string v0, .int .i64 0, .int .i64 0, .int .i64 0] 40) = Z := ⟨_, rfl⟩
 obtain ⟨gc, hgc⟩ : ∃ g, w1.heap.size = g := ⟨_, rfl⟩
 have HC : Hid (CB gc ⟨1, 1, 1, pA, v0, 0, 0, 0⟩ Z1) := Lib.hid (by rw [← hZ1, ← hgc]; exact CB.mk' ⟨1, 1, 1, pA, v0, 0, 0, 0⟩ _ _)
 have HMa := Lib.hid (HM1.out.box #[.int .i64 1, .int .i64 1, .int .i64 1, .string pA, .string v0, .int .i64 0, .int .i64 0, .int .i64 0] 40)
 rw [hZ1] at HMa
 rw [hZ1, hgc]
 clear hZ1 hgc HM1
 refine (mapply_any HMa.out HS1.out ⟨1, 1, 1, pA, v0, 0, 0, 0⟩ r0 (.slice none 0 0) (Knd.Rd.nil _) (by simp [bad]) trivial (by omega) (by decide)).mono ?_
 have HLEN2 := Lib.hid HMa.out.lw.len
 obtain ⟨⟨⟨er2, vl2, vr2, ns2⟩, m2⟩, hR2⟩ : ∃ R, appM ⟨[], []⟩ ⟨1, 1, 1, pA, v0, 0, 0, 0⟩ r0 = R := ⟨_, rfl⟩
 have HS2 : Hid (SmM m2) := Lib.hid (by
  have h1 := HS1.out.app (by have := HLEN2.out; omega) ⟨1, 1, 1, pA, v0, 0, 0, 0⟩ r0 (by simp [bad])
  rw [hR2] at h1
  exact h1)
 rw [hR2]
 have HE2 := Lib.hid hR2
 rintro e w2 ⟨v2, he, hro2, hM2, hT2⟩
 have hrd2 := hro2.rd
 have he := he.out
 subst he
 simp only at hrd2 hM2
 obtain ⟨a2, c2, hv2⟩ := hrd2.slice
 obtain ⟨M2, hMM2⟩ : ∃ M, ns2.length = M := ⟨_, rfl⟩
 rw [hMM2] at hv2
 subst hv2
 have HMM2 := Lib.hid hMM2
 have hn2 := skrd_nms hrd2
 obtain ⟨Z2, hZ2⟩ : ∃ Z, w2.alloc (.cells #[.int .i64 er2, .string vl2, .int .i64 vr2, .slice a2 M2 c2] 36) = Z := ⟨_, rfl⟩
 obtain ⟨g2, hgg2⟩ : ∃ g, w2.heap.size = g := ⟨_, rfl⟩
 have HB2 : Hid (RB g2 ⟨er2, vl2, vr2, ns2⟩ Z2) := Lib.hid (by rw [← hZ2, ← hgg2]; exact RB.mk' _ hn2)
 have HM2 := Lib.hid (hM2.box #[.int .i64 er2, .string vl2, .int .i64 vr2, .slice a2 M2 c2] 36)
 rw [hZ2] at HM2
 have HC2 := Lib.hid ((HC.out.two HMa.out hT2).low ((Below.refl _ _).alloc (Nat.le_refl _) (.cells #[.int .i64 er2, .string vl2, .int .i64 vr2, .slice a2 M2 c2] 36)))
 rw [hZ2] at HC2
 clear HMa HC hrd2 hM2 hT2 hR2 hn2 hMM2
 have hq := HE2.out
 rw [wm1_is] at hq
 simp only [Prod.mk.injEq, Rep.mk.injEq] at hq
 obtain ⟨⟨rfl, rfl, rfl, rfl⟩, rfl⟩ := hq
 clear HE2
 obtain ⟨m0, m1, m2, m3, m4, m5, m6, m7⟩ := HC2.out
 simp only at m0 m1 m2 m3 m4 m5 m6 m7
 go_wp2_with fail
 try rw [hZ2]
 try rw [hgg2]
 clear hZ2 hgg2
 clear m0 m1 m2 m3 m4 m5 m6 m7
 refine (mapply_any HM2.out HS2.out ⟨1, 1, 1, pA, v0, 0, 0, 0⟩ r0 (.slice none 0 0) (Knd.Rd.nil _) (by simp [bad]) trivial (by omega) (by decide)).mono ?_
 have HLEN3 := Lib.hid HM2.out.lw.len
 obtain ⟨⟨⟨er3, vl3, vr3, ns3⟩, m3⟩, hR3⟩ : ∃ R, appM wM1 ⟨1, 1, 1, pA, v0, 0, 0, 0⟩ r0 = R := ⟨_, rfl⟩
 have HS3 : Hid (SmM m3) := Lib.hid (by
  have h1 := HS2.out.app (by have := HLEN3.out; omega) ⟨1, 1, 1, pA, v0, 0, 0, 0⟩ r0 (by simp [bad])
  rw [hR3] at h1
  exact h1)
 rw [hR3]
 have HE3 := Lib.hid hR3
 rintro e w3 ⟨v3, he, hro3, hM3, hT3⟩
 have hrd3 := hro3.rd
 have he := he.out
 subst he
 simp only at hrd3 hM3
 obtain ⟨a3, c3, hv3⟩ := hrd3.slice
 obtain ⟨M3, hMM3⟩ : ∃ M, ns3.length = M := ⟨_, rfl⟩
 rw [hMM3] at hv3
 subst hv3
 have HMM3 := Lib.hid hMM3
 have hn3 := skrd_nms hrd3
 obtain ⟨Z3, hZ3⟩ : ∃ Z, w3.alloc (.cells #[.int .i64 er3, .string vl3, .int .i64 vr3, .slice a3 M3 c3] 36) = Z := ⟨_, rfl⟩
 obtain ⟨g3, hgg3⟩ : ∃ g, w3.heap.size = g := ⟨_, rfl⟩
 have HB3 : Hid (RB g3 ⟨er3, vl3, vr3, ns3⟩ Z3) := Lib.hid (by rw [← hZ3, ← hgg3]; exact RB.mk' _ hn3)
 have HM3 := Lib.hid (hM3.box #[.int .i64 er3, .string vl3, .int .i64 vr3, .slice a3 M3 c3] 36)
 rw [hZ3] at HM3
 have HB2b := Lib.hid ((HB2.out.two HM2.out hT3).on ((Below.refl _ _).alloc (Nat.le_refl _) (.cells #[.int .i64 er3, .string vl3, .int .i64 vr3, .slice a3 M3 c3] 36)))
 rw [hZ3] at HB2b
 have HC3 := Lib.hid ((HC2.out.two HM2.out hT3).low ((Below.refl _ _).alloc (Nat.le_refl _) (.cells #[.int .i64 er3, .string vl3, .int .i64 vr3, .slice a3 M3 c3] 36)))
 rw [hZ3] at HC3
 clear HM2 HB2 HC2 hrd3 hM3 hT3 hR3 hn3 hMM3
 have hq := HE3.out
 rw [wm2_is] at hq
 simp only [Prod.mk.injEq, Rep.mk.injEq] at hq
 obtain ⟨⟨rfl, rfl, rfl, rfl⟩, rfl⟩ := hq
 clear HE3
 go_wp2_with fail
 try rw [hZ3]
 try rw [hgg3]
 clear hZ3 hgg3
 refine (paths_any HM3.out (by omega)).mono ?_
 rintro e w4 ⟨v4, he, ho, hb⟩
 have he := he.out
 subst he
 obtain ⟨a4, c4, rfl⟩ := ho.slice
 have HO4 := Lib.hid ho.rd
 have HM4 := Lib.hid (HM3.out.on hb)
 have HB2c := Lib.hid (HB2b.out.on hb)
 have HB3c := Lib.hid (HB3.out.on hb)
 have HC4 := Lib.hid (HC3.out.low hb)
 clear ho hb HM3 HB2b HB3 HC3
 go_wp2_with fail
 refine (sessions_any HM4.out HS3.out (by omega)).mono ?_
 rintro e w5 ⟨v5, xs, he, ho, hmt, hb⟩
 have he := he.out
 subst he
 obtain ⟨a5, c5, hv5⟩ := ho.slice
 have hx1 : xs.length = 1 := hmt.len
 rw [hx1] at hv5
 subst hv5
 have HO5 := Lib.hid ho.rd
 have HMt5 := Lib.hid hmt
 have HO4b := Lib.hid (HO4.out.below hb)
 have HM5 := Lib.hid (HM4.out.on hb)
 have HB2d := Lib.hid (HB2c.out.on hb)
 have HB3d := Lib.hid (HB3c.out.on hb)
 have HC5 := Lib.hid (HC4.out.low hb)
 clear ho hmt hb HM4 HB2c HB3c HC4 HO4 hx1
 go_wp2_with fail
 refine (mof_any (X := w) _ _ _ _ _ _ _ xs _ HM5.out.lw.below HO4b.out HO5.out HMt5.out (by simp [wM1]) (by simp [wM1]) (by have := HM5.out.lw.ver; exact fun e he => by have h := this e he; exact ⟨h.1, by omega⟩) HM5.out.right HS3.out HM5.out.lw.ml).mono ?_
 rintro e w6 ⟨g6, d6, b6, s6, he, _, _, hb⟩
 have he := he.out
 subst he
 have HM6 := Lib.hid (HM5.out.on hb)
 have HB2e := Lib.hid (HB2d.out.on hb)
 have HB3e := Lib.hid (HB3d.out.on hb)
 have HC6 := Lib.hid (HC5.out.low hb)
 clear hb HM5 HB2d HB3d HC5 HO4b HO5 HMt5
 have t20 := HB2e.out.c0
 have t21 := HB2e.out.c1
 have t22 := HB2e.out.c2
 simp only at t20 t21 t22
 have t30 := HB3e.out.c0
 have t31 := HB3e.out.c1
 have t32 := HB3e.out.c2
 simp only at t30 t31 t32
 go_wp2_with fail
 refine (paths_any HM6.out (by omega)).mono ?_
 rintro e w7 ⟨v7, he, ho, hb⟩
 have he := he.out
 subst he
 obtain ⟨a7, c7, hv7⟩ := ho.slice
 simp only [wM1, List.length_cons, List.length_nil, Nat.zero_add] at hv7
 subst hv7
 have HM7 := Lib.hid (HM6.out.on hb)
 have HC7 := Lib.hid (HC6.out.low hb)
 clear ho hb HM6 HC6 t20 t21 t22 t30 t31 t32 HB2e HB3e
 go_wp2_with fail
 refine (sessions_any HM7.out HS3.out (by omega)).mono ?_
 rintro e w8 ⟨v8, ys, he, ho, hmt, hb⟩
 have he := he.out
 subst he
 obtain ⟨a8, c8, hv8⟩ := ho.slice
 have hx1 : ys.length = 1 := hmt.len
 rw [hx1] at hv8
 subst hv8
 have HM8 := Lib.hid (HM7.out.on hb)
 have HC8 := Lib.hid (HC7.out.low hb)
 clear ho hmt hb HM7 HC7 hx1
 obtain ⟨m0, m1, m2, m3, m4, m5, m6, m7⟩ := HC8.out
 simp only at m0 m1 m2 m3 m4 m5 m6 m7
 have hvl := valid9_any 1 1 1 pA v0 0 0 0 w8
 rw [show valS 1 1 = true from rfl] at hvl
 have HVL := Lib.hid hvl
 clear hvl
 go_wp2_with fail
 refine HVL.out.mono ?_
 rintro e w9 ⟨rfl, hb⟩
 have HM9 := Lib.hid (HM8.out.on hb)
 clear hb HM8 m0 m1 m2 m3 m4 m5 m6 m7 HC8
 go_wp2_with fail
 refine (mclone_any HM9.out).mono ?_
 rintro e wa ⟨ga, da, ba, sa, he, _, _, hb⟩
 have he := he.out
 subst he
 have HMb := Lib.hid (HM9.out.on hb)
 clear hb HM9
 go_wp2
 go_ret
 exact ⟨rfl, HMb.out.lw.below⟩
end Go.Proofs.YtodcmhmankmaoaaGreat
