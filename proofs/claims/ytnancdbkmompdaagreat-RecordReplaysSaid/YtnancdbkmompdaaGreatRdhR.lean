/-
 The document's Add: a record put in its place.
-/
import Derived.Test.YtnancdbkmompdaaGreatRY
import Derived.Test.YtnancdbkmompdaaGreatRZ
import Derived.Test.YtnancdbkmompdaaGreatRdgR
namespace Go.Proofs.YtnancdbkmompdaaGreat
open Go.RowKit Go.Sort
set_option linter.unusedSimpArgs false
set_option linter.unusedVariables false
set_option maxRecDepth 100000
set_option maxHeartbeats 40000000
/-- Between two rounds. -/
structure AdI (w wr : World) (b5 : Nat) (sc rc : List Value) (s0 s1 s2 s3 vZ : Value) (Z : List OV) : Prop where
 lo : Below w.heap.size w wr
 b2 : Bk wr w.heap.size 41 sc
 b3 : Bk wr (w.heap.size + 1) 81 rc
 b4 : Bk wr (w.heap.size + 1 + 1) 41 [.int .i64 0, .slice none 0 0, .slice none 0 0, .slice none 0 0, .slice none 0 0]
 bx : Bk wr b5 41 [s0, s1, s2, s3, vZ]
 ow : KO.Own wr (b5 + 1) vZ Z
 big : w.heap.size + 3 ≤ b5 ∧ b5 + 1 ≤ wr.heap.size
theorem AdI.under {w wr w' : World} {b5 : Nat} {sc rc : List Value} {s0 s1 s2 s3 vZ : Value} {Z : List OV} (h : AdI w wr b5 sc rc s0 s1 s2 s3 vZ Z) (hb : Below wr.heap.size wr w') : AdI w w' b5 sc rc s0 s1 s2 s3 vZ Z :=
 ⟨h.lo.trans (hb.mono h.lo.size), h.b2.below hb, h.b3.below hb, h.b4.below hb, h.bx.below hb, h.ow.below hb, h.big.1, Nat.le_trans h.big.2 hb.size⟩
theorem AdI.app {w wr w2 w3 : World} {b5 : Nat} {sc rc : List Value} {s0 s1 s2 s3 vZ v2 : Value} {Z Z2 : List OV} (h : AdI w wr b5 sc rc s0 s1 s2 s3 vZ Z) (ho : KO.Own w2 (b5 + 1) v2 Z2) (hb : Below (b5 + 1) wr w2) (hq : w2.setCell ⟨b5, 4, none⟩ v2 = w3) : AdI w w3 b5 sc rc s0 s1 s2 s3 v2 Z2 := by
 subst hq
 have hbig := h.big
 have lo2 : Below w.heap.size w w2 := h.lo.trans (hb.mono (by omega))
 refine ⟨lo2.setCell (p := ⟨b5, 4, none⟩) (by show w.heap.size ≤ b5; omega) _, (h.b2.on hb (by omega)).other (by omega) _ _, (h.b3.on hb (by omega)).other (by omega) _ _, (h.b4.on hb (by omega)).other (by omega) _ _, ?_, ho.keepB (fun k hk => Below.heap_setCell _ _ _ _ (by have := ho.from k hk; show k ≠ b5; omega)), hbig.1, ?_⟩
 ·exact (h.bx.on hb (by omega)).set 4 v2
 ·have := hb.size; simp; omega
theorem radd_d (x : Snp) (l : List OV) (cs : Array Value) (vr : Value) (r : Rec4) (w : World) (h : RS w cs x l) (hr : RecIs w vr r) (hL : l.length ≤ 1000) (hN : Sn6 r.2.2.2) (h0 : r.1 = false) (hv : r.2.1.1 = x.1.1) : Calls Tryz.prog 23 #[.agg cs, vr] w (RaP x l cs vr r (addR x (l.map (·.1)) r) w) := by
 obtain ⟨a1, k1, c1, a2, k2, c2, a3, k3, c3, aL, cL, hcs, hsn, hrd⟩ := h.lit
 obtain ⟨x0, hx0⟩ : ∃ q, x.1.1 = q := ⟨_, rfl⟩
 obtain ⟨NL, hNL⟩ : ∃ q, l.length = q := ⟨_, rfl⟩
 rw [hx0, hNL] at hcs
 rw [hx0] at hsn
 rw [hNL] at hrd
 obtain ⟨cr, rfl, hrc⟩ := hr
 obtain ⟨a18, m18, p18, rs18, a20, m20, p20, rs20, a21, m21, p21, rs21, a22, m22, p22, rs22, hcr, hs12, hs13, hr18, hr20, hr21, hr22⟩ := rc_is hrc
 obtain ⟨n0, ⟨n1, n2, n3⟩, ⟨n4, ⟨n5, n6⟩, ⟨n7, n8⟩, ⟨n9, n10, n11, n12, n13, n14, n15, n16⟩, n17, l18⟩, ⟨n19, l20⟩, l21, l22⟩ := r
 obtain rfl : cr = #[.bool n0, .int .i64 n1, .int .i64 n2, .int .i64 n3, .int .i64 n4, .int .i64 n5, .int .i64 n6, .int .i64 n7, .int .i64 n8, .int .i64 n9, .int .i64 n10, .int .i64 n11, .string n12, .string n13, .int .i64 n14, .int .i64 n15, .int .i64 n16, .int .i64 n17, .slice a18 m18 p18, .int .i64 n19, .slice a20 m20 p20, .slice a21 m21 p21, .slice a22 m22 p22] := by
  cases cr
  simpa [idE, inV, snV] using hcr
 subst hcs
 obtain ⟨X, hX⟩ : ∃ X, ((w.alloc (.cells #[.int .i64 x0, .slice a1 k1 c1, .slice a2 k2 c2, .slice a3 k3 c3, .slice aL NL cL] 41)).alloc (.cells #[.bool n0, .int .i64 n1, .int .i64 n2, .int .i64 n3, .int .i64 n4, .int .i64 n5, .int .i64 n6, .int .i64 n7, .int .i64 n8, .int .i64 n9, .int .i64 n10, .int .i64 n11, .string n12, .string n13, .int .i64 n14, .int .i64 n15, .int .i64 n16, .int .i64 n17, .slice a18 m18 p18, .int .i64 n19, .slice a20 m20 p20, .slice a21 m21 p21, .slice a22 m22 p22] 81)).alloc (.cells #[.int .i64 0, .slice none 0 0, .slice none 0 0, .slice none 0 0, .slice none 0 0] 41) = X := ⟨_, rfl⟩
 have hB : Below w.heap.size w X := by rw [← hX]; exact (((Below.refl _ _).alloc (Nat.le_refl _) _).alloc (by simp) _).alloc (by simp; omega) _
 have hXz : X.heap.size = w.heap.size + 3 := by rw [← hX]; simp
 have hb2 : Bk X w.heap.size 41 [.int .i64 x0, .slice a1 k1 c1, .slice a2 k2 c2, .slice a3 k3 c3, .slice aL NL cL] := by rw [← hX]; exact ((Bk.new w _ _).old _).old _
 have hb3 : Bk X (w.heap.size + 1) 81 [.bool n0, .int .i64 n1, .int .i64 n2, .int .i64 n3, .int .i64 n4, .int .i64 n5, .int .i64 n6, .int .i64 n7, .int .i64 n8, .int .i64 n9, .int .i64 n10, .int .i64 n11, .string n12, .string n13, .int .i64 n14, .int .i64 n15, .int .i64 n16, .int .i64 n17, .slice a18 m18 p18, .int .i64 n19, .slice a20 m20 p20, .slice a21 m21 p21, .slice a22 m22 p22] := by rw [← hX]; have := (Bk.new (w.alloc (.cells #[.int .i64 x0, .slice a1 k1 c1, .slice a2 k2 c2, .slice a3 k3 c3, .slice aL NL cL] 41)) 81 [.bool n0, .int .i64 n1, .int .i64 n2, .int .i64 n3, .int .i64 n4, .int .i64 n5, .int .i64 n6, .int .i64 n7, .int .i64 n8, .int .i64 n9, .int .i64 n10, .int .i64 n11, .string n12, .string n13, .int .i64 n14, .int .i64 n15, .int .i64 n16, .int .i64 n17, .slice a18 m18 p18, .int .i64 n19, .slice a20 m20 p20, .slice a21 m21 p21, .slice a22 m22 p22]).old (.cells #[.int .i64 0, .slice none 0 0, .slice none 0 0, .slice none 0 0, .slice none 0 0] 41); rwa [World.size_alloc] at this
 have hb4 : Bk X (w.heap.size + 1 + 1) 41 [.int .i64 0, .slice none 0 0, .slice none 0 0, .slice none 0 0, .slice none 0 0] := by rw [← hX]; have := Bk.new ((w.alloc (.cells #[.int .i64 x0, .slice a1 k1 c1, .slice a2 k2 c2, .slice a3 k3 c3, .slice aL NL cL] 41)).alloc (.cells #[.bool n0, .int .i64 n1, .int .i64 n2, .int .i64 n3, .int .i64 n4, .int .i64 n5, .int .i64 n6, .int .i64 n7, .int .i64 n8, .int .i64 n9, .int .i64 n10, .int .i64 n11, .string n12, .string n13, .int .i64 n14, .int .i64 n15, .int .i64 n16, .int .i64 n17, .slice a18 m18 p18, .int .i64 n19, .slice a20 m20 p20, .slice a21 m21 p21, .slice a22 m22 p22] 81)) 41 [.int .i64 0, .slice none 0 0, .slice none 0 0, .slice none 0 0, .slice none 0 0]; simpa using this
 have HB := Hd hB
 have H2 := Hd hb2
 have H3 := Hd hb3
 have H4 := Hd hb4
 have HXz := Hd hXz
 have HRS := Hd h
 have HSn := Hd hsn
 have HRd := Hd hrd
 have HNL := Hd hNL
 have HI5 : Hid ((Tryz.prog.info? 41).map (·.size) = some 5) := Hd (by kernel_rfl)
 have HS2 : Hid (snS.is w [.int .i64 n19, .slice a20 m20 p20, .slice a21 m21 p21, .slice a22 m22 p22] ((n19, l20), l21, l22)) := Hd (sn_mk (x := ((n19, l20), l21, l22)) hr20 hr21 hr22)
 have HIk := Hd (ik_of_row hr18)
 have HVa := Hd (fun (W : World) (hW : Below w.heap.size w W) => rv10 n19 a20 m20 p20 rs20 l20 W (hr20.on hW) hN.a)
 have HXX := Hd hX
 have hx0' := hx0
 have HX0 := Hd hx0'
 clear h hsn hrd hrc hcr hs12 hs13 hr18 hr20 hr21 hr22 hB hb2 hb3 hb4 hXz hX hNL hx0'
 simp only at h0 hv
 subst h0
 rw [hx0] at hv
 clear hx0
 have e : addR x (l.map (·.1)) (false, (n1, n2, n3), (n4, (n5, n6), (n7, n8), (n9, n10, n11, n12, n13, n14, n15, n16), n17, l18), ((n19, l20), l21, l22)) = (x, (insR kO ((((n1, n2, n3), (n4, (n5, n6), (n7, n8), (n9, n10, n11, n12, n13, n14, n15, n16), n17, l18)), (a18, m18, p18)) : OV) l).map (·.1)) := by
  unfold addR
  rw [if_neg Bool.false_ne_true, if_neg (by rw [HX0.out]; exact fun z => z hv)]
  rw [insR_map (·.1) kO Go.Proofs.YtnancdbkmompdaaGreat.k1 (fun _ => rfl)]
 rw [e]
 have q1 : (n1 == x0) = true := by simpa using hv
 have q2 : (n1 != x0) = false := by simpa using hv
 have HDn : Hid (Dp w ((((n1, n2, n3), (n4, (n5, n6), (n7, n8), (n9, n10, n11, n12, n13, n14, n15, n16), n17, l18)), (a18, m18, p18)) : OV)) := HIk
 have HNl1 := Hd hL
 clear hv e hL
 have s0 := H2.out.cell 0
 have s1 := H2.out.cell 1
 have s2 := H2.out.cell 2
 have s3 := H2.out.cell 3
 simp only [gB] at s0 s1 s2 s3
 have z0 := H3.out.cell 0
 have z1 := H3.out.cell 1
 simp only [gB] at z0 z1
 obtain ⟨Y, hY⟩ : ∃ q, X.alloc (.cells #[.int .i64 x0, .slice a1 k1 c1, .slice a2 k2 c2, .slice a3 k3 c3, .slice none 0 0] 41) = q := ⟨_, rfl⟩
 have HAY : Hid (AdI w Y X.heap.size [.int .i64 x0, .slice a1 k1 c1, .slice a2 k2 c2, .slice a3 k3 c3, .slice aL NL cL] [.bool false, .int .i64 n1, .int .i64 n2, .int .i64 n3, .int .i64 n4, .int .i64 n5, .int .i64 n6, .int .i64 n7, .int .i64 n8, .int .i64 n9, .int .i64 n10, .int .i64 n11, .string n12, .string n13, .int .i64 n14, .int .i64 n15, .int .i64 n16, .int .i64 n17, .slice a18 m18 p18, .int .i64 n19, .slice a20 m20 p20, .slice a21 m21 p21, .slice a22 m22 p22] (.int .i64 x0) (.slice a1 k1 c1) (.slice a2 k2 c2) (.slice a3 k3 c3) (.slice none 0 0) ([])) := Hd (by
  have hb : Below X.heap.size X Y := by rw [← hY]; exact (Below.refl _ _).alloc (Nat.le_refl _) _
  exact ⟨HB.out.trans (hb.mono HB.out.size), H2.out.below hb, H3.out.below hb, H4.out.below hb, by rw [← hY]; exact Bk.new X _ [.int .i64 x0, .slice a1 k1 c1, .slice a2 k2 c2, .slice a3 k3 c3, .slice none 0 0], Knd.Own.nil _ _, by have := HXz.out; omega, by rw [← hY]; simp⟩)
 have HYY := Hd hY
 clear hY
 go_enter Tryz.func23, Tryz.ntmps23
 go_upto_region 1 with fail
 rw [HXX.out]
 go_wp2_with fail
 rw [HYY.out]
 clear HYY HXX s0 s1 s2 s3 z0 z1 q1 q2
 go_loopw [6, 7] (fun s6 s7 wr => ∃ (k : Nat) (Z : List OV) (d : Bool) (aZ : Option Addr) (nZ cZ : Nat), k ≤ NL ∧ s6 = .bool d ∧ s7 = .int .i64 k ∧ Hid ((l.take k).foldl (insS kO ((((n1, n2, n3), (n4, (n5, n6), (n7, n8), (n9, n10, n11, n12, n13, n14, n15, n16), n17, l18)), (a18, m18, p18)) : OV)) ([], false) = (Z, d)) ∧ Hid (AdI w wr X.heap.size [.int .i64 x0, .slice a1 k1 c1, .slice a2 k2 c2, .slice a3 k3 c3, .slice aL NL cL] [.bool false, .int .i64 n1, .int .i64 n2, .int .i64 n3, .int .i64 n4, .int .i64 n5, .int .i64 n6, .int .i64 n7, .int .i64 n8, .int .i64 n9, .int .i64 n10, .int .i64 n11, .string n12, .string n13, .int .i64 n14, .int .i64 n15, .int .i64 n16, .int .i64 n17, .slice a18 m18 p18, .int .i64 n19, .slice a20 m20 p20, .slice a21 m21 p21, .slice a22 m22 p22] (.int .i64 x0) (.slice a1 k1 c1) (.slice a2 k2 c2) (.slice a3 k3 c3) (.slice aZ nZ cZ) (Z))) (fun _ s7 _ => NL - (intOf s7).toNat)
 case atStart => exact ⟨0, [], false, none, 0, 0, Nat.zero_le _, rfl, rfl, Hd rfl, HAY⟩
 case round =>
  clear HAY
  obtain ⟨k, Z, d, aZ, nZ, cZ, hk, rfl, rfl, HF, HA⟩ := hrel
  have s4 := HA.out.b2.cell 4
  simp only [gB] at s4
  by_cases hlt : k < NL
  ·have hlt' : (k : Int) < (NL : Int) := by omega
   have hNLb : NL ≤ 1000 := by have := HNl1.out; have := HNL.out; omega
   obtain ⟨g, off, hga, hg, hkl, hce⟩ := ovCell HRd.out k hlt
   have HLz := Hd (show Z.length ≤ 2000 by
    have h1 := insS_len kO ((((n1, n2, n3), (n4, (n5, n6), (n7, n8), (n9, n10, n11, n12, n13, n14, n15, n16), n17, l18)), (a18, m18, p18)) : OV) (l.take k) ([], false)
    rw [HF.out] at h1
    have h2 : (l.take k).length ≤ k := by rw [List.length_take]; omega
    have := HNl1.out
    simp at h1
    omega)
   have HFn := Hd (insS_snoc kO ((((n1, n2, n3), (n4, (n5, n6), (n7, n8), (n9, n10, n11, n12, n13, n14, n15, n16), n17, l18)), (a18, m18, p18)) : OV) l k hkl ([], false))
   rw [HF.out] at HFn
   have hget : l.getD k KO.d = l[k] := by simp [List.getD, hkl]
   rw [hget] at hce
   obtain ⟨E, hE⟩ : ∃ q, l[k] = q := ⟨_, rfl⟩
   rw [hE] at hce HFn
   obtain ⟨⟨⟨e1, e2, e3⟩, e4, ⟨e5, e6⟩, ⟨e7, e8⟩, ⟨e9, e10, e11, e12, e13, e14, e15, e16⟩, e17, el⟩, ea, em, ec⟩ := E
   have HCe : Hid (∀ (j : Nat) (v : Value), ([.int .i64 e1, .int .i64 e2, .int .i64 e3, .int .i64 e4, .int .i64 e5, .int .i64 e6, .int .i64 e7, .int .i64 e8, .int .i64 e9, .int .i64 e10, .int .i64 e11, .string e12, .string e13, .int .i64 e14, .int .i64 e15, .int .i64 e16, .int .i64 e17, .slice ea em ec] : List Value)[j]? = some v → wr.cell? ⟨g, off + k * 18 + j, none⟩ = some v) := Hd (fun j v hv => (HA.out.lo.cell (p := ⟨g, off + k * 18 + j, none⟩) hg).trans (hce j v hv))
   have HCew : Hid (∀ (j : Nat) (v : Value), ([.int .i64 e1, .int .i64 e2, .int .i64 e3, .int .i64 e4, .int .i64 e5, .int .i64 e6, .int .i64 e7, .int .i64 e8, .int .i64 e9, .int .i64 e10, .int .i64 e11, .string e12, .string e13, .int .i64 e14, .int .i64 e15, .int .i64 e16, .int .i64 e17, .slice ea em ec] : List Value)[j]? = some v → w.cell? ⟨g, off + k * 18 + j, none⟩ = some v) := Hd hce
   have hgw : g < wr.heap.size := Nat.lt_of_lt_of_le hg HA.out.lo.size
   have HG := Hd hg
   subst hga
   clear hce hg hget hE hkl
   go_upto_region 12 with fail
   clear s4
   have HCw : Hid (∀ (j : Nat) (v : Value), ([.int .i64 e1, .int .i64 e2, .int .i64 e3, .int .i64 e4, .int .i64 e5, .int .i64 e6, .int .i64 e7, .int .i64 e8, .int .i64 e9, .int .i64 e10, .int .i64 e11, .string e12, .string e13, .int .i64 e14, .int .i64 e15, .int .i64 e16, .int .i64 e17, .slice ea em ec] : List Value)[j]? = some v → w.cell? ⟨g, off + k * 18 + j, none⟩ = some v) := HCew
   cases d with
   | true =>
    refine wp_region_held_drew (S := fun w' => Below wr.heap.size wr w') (by kernel_rfl) ?_ (fun hHeld => ?_)
    ·(first | exact Below.refl _ _ | exact (Below.refl _ _).drew | assumption | exact below_self (by assumption) (by assumption))
    refine tkA 0 (v := ?_) ?_ ?_
    rotate_left
    ·(intro w hSw; (try dsimp only at hSw); go_simp; try rfl)
    try simp only [Act.put, gA]
    refine tkA 1 (v := ?_) ?_ ?_
    rotate_left
    ·(intro w hSw; (try dsimp only at hSw); go_simp; try rfl)
    try simp only [Act.put, gA]
    refine tkA 2 (v := ?_) ?_ ?_
    rotate_left
    ·(intro w hSw; (try dsimp only at hSw); go_simp; try rfl)
    try simp only [Act.put, gA]
    refine utA 3 ?_; try simp only [Act.put, gA]
    refine utA 4 ?_; try simp only [Act.put, gA]
    refine utA 5 ?_; try simp only [Act.put, gA]
    refine utA 6 ?_; try simp only [Act.put, gA]
    refine utA 7 ?_; try simp only [Act.put, gA]
    refine utA 8 ?_; try simp only [Act.put, gA]
    refine utA 9 ?_; try simp only [Act.put, gA]
    refine utA 10 ?_; try simp only [Act.put, gA]
    refine utA 11 ?_; try simp only [Act.put, gA]
    refine tkA 12 (v := ?_) ?_ ?_
    rotate_left
    ·(intro w hSw; (try dsimp only at hSw); go_simp; try rfl)
    try simp only [Act.put, gA]
    refine wpAnyH_done (by kernel_rfl) ?_ _
    have hb := hHeld
    clear hHeld
    generalize wr.drew = wz at hb ⊢
    have HAz := Hd (HA.out.under hb)
    have HCz : Hid (∀ (j : Nat) (v : Value), ([.int .i64 e1, .int .i64 e2, .int .i64 e3, .int .i64 e4, .int .i64 e5, .int .i64 e6, .int .i64 e7, .int .i64 e8, .int .i64 e9, .int .i64 e10, .int .i64 e11, .string e12, .string e13, .int .i64 e14, .int .i64 e15, .int .i64 e16, .int .i64 e17, .slice ea em ec] : List Value)[j]? = some v → wz.cell? ⟨g, off + k * 18 + j, none⟩ = some v) := Hd (fun j v hv => (HAz.out.lo.cell (p := ⟨g, off + k * 18 + j, none⟩) HG.out).trans (HCw.out j v hv))
    clear HA HCe hgw hb
    have hlt9 := True.intro
    go_upto_region 15 with fail
    have hd15 := HAz.out
    have t4 := hd15.b2.cell 4
    have u1 := hd15.b3.cell 1
    have u2 := hd15.b3.cell 2
    have u3 := hd15.b3.cell 3
    simp only [gB] at t4 u1 u2 u3
    have t0 := HCz.out 0 _ rfl
    have t1 := HCz.out 1 _ rfl
    have t2 := HCz.out 2 _ rfl
    simp only [Nat.add_zero] at t0
    obtain ⟨hne, hgd⟩ := neI_run e1 e2 e3 n1 n2 n3
    have hgz : g < wz.heap.size := Nat.lt_of_lt_of_le HG.out hd15.lo.size
    clear hd15
    cases hq9 : decide ((e1, e2, e3) = (n1, n2, n3)) with
    | true =>
     rw [hq9] at hne
     have heq9 : (e1, e2, e3) = (n1, n2, n3) := of_decide_eq_true hq9
     simp only [Bool.not_true] at hne
     clear hq9
     go_wp2_with fail
     go_quiet (fail)
     clear t0 t1 t2 t4 u1 u2 u3 hne hgd
     generalize hwq : World.drewN wz _ = wq
     have hbq : Below wz.heap.size wz wq := by rw [← hwq]; exact below_drewN_q (Below.refl _ _) _
     have HAq := Hd (HAz.out.under hbq)
     clear hwq hbq
     go_wp2_with fail
     go_roundw
     case rel => exact ⟨k + 1, Z, true, aZ, nZ, cZ, by omega, by first | rfl | simp, by go_num, Hd (by rw [HFn.out]; unfold insS; simp [kO, hlt9, heq9, ltI_irrefl]), HAq⟩
     case measure => simp [intOf]; omega
    | false =>
     rw [hq9] at hne
     have heq9 : ¬ (e1, e2, e3) = (n1, n2, n3) := of_decide_eq_false hq9
     simp only [Bool.not_false] at hne
     clear hq9
     go_wp2_with fail
     go_quiet (fail)
     clear t0 t1 t2 t4 u1 u2 u3 hne hgd
     generalize hwq : World.drewN wz _ = wq
     have hbq : Below wz.heap.size wz wq := by rw [← hwq]; exact below_drewN_q (Below.refl _ _) _
     have HAq := Hd (HAz.out.under hbq)
     clear hwq hbq
     go_wp2_with fail
     have HAd := Hd (HAq.out.under (Below.refl _ _).drew)
     have HAb := Hd (HAd.out.under ((Below.refl _ _).alloc (Nat.le_refl _) (.cells #[.int .i64 e1, .int .i64 e2, .int .i64 e3, .int .i64 e4, .int .i64 e5, .int .i64 e6, .int .i64 e7, .int .i64 e8, .int .i64 e9, .int .i64 e10, .int .i64 e11, .string e12, .string e13, .int .i64 e14, .int .i64 e15, .int .i64 e16, .int .i64 e17, .slice ea em ec] 86)))
     have cA := HAd.out.bx.cell 4
     have cB := HAb.out.bx.cell 4
     simp only [gB] at cA cB
     have cF : (World.drew (wq.alloc (.cells #[.int .i64 e1, .int .i64 e2, .int .i64 e3, .int .i64 e4, .int .i64 e5, .int .i64 e6, .int .i64 e7, .int .i64 e8, .int .i64 e9, .int .i64 e10, .int .i64 e11, .string e12, .string e13, .int .i64 e14, .int .i64 e15, .int .i64 e16, .int .i64 e17, .slice ea em ec] 86))).cell? ⟨X.heap.size, 4, none⟩ = some (.slice aZ nZ cZ) := cB
     have HOw := Hd HAb.out.ow
     have hbigW := HAq.out.big
     refine wp_region_held_drew (S := fun w' => Below w.heap.size w w' ∧ Bk w' w.heap.size 41 [.int .i64 x0, .slice a1 k1 c1, .slice a2 k2 c2, .slice a3 k3 c3, .slice (some ⟨g, off, none⟩) NL cL] ∧ (∀ (j : Nat) (v : Value), ([.int .i64 e1, .int .i64 e2, .int .i64 e3, .int .i64 e4, .int .i64 e5, .int .i64 e6, .int .i64 e7, .int .i64 e8, .int .i64 e9, .int .i64 e10, .int .i64 e11, .string e12, .string e13, .int .i64 e14, .int .i64 e15, .int .i64 e16, .int .i64 e17, .slice ea em ec] : List Value)[j]? = some v → w'.cell? ⟨g, off + k * 18 + j, none⟩ = some v)) (by kernel_rfl) ?_ (fun hHeld => ?_)
     ·(first | exact hS7 | exact hS6 | exact ⟨HAb.out.lo, HAb.out.b2, fun j v hv => (HAb.out.lo.cell (p := ⟨g, off + k * 18 + j, none⟩) HG.out).trans (HCw.out j v hv)⟩ | exact ⟨HAd.out.lo, HAd.out.b2, fun j v hv => (HAd.out.lo.cell (p := ⟨g, off + k * 18 + j, none⟩) HG.out).trans (HCw.out j v hv)⟩)
     refine tkA 0 (v := ?_) ?_ ?_
     rotate_left
     ·(intro w hSw; (try dsimp only at hSw); go_simp; try rfl)
     try simp only [Act.put, gA]
     refine tkA 2 (v := ?_) ?_ ?_
     rotate_left
     ·(intro w hSw; (try dsimp only at hSw); go_simp; try rfl)
     try simp only [Act.put, gA]
     refine tkA 3 (v := ?_) ?_ ?_
     rotate_left
     ·(intro w' hSw; have t4 := hSw.2.1.cell 4; simp only [gB] at t4; clear hSw; go_simp; try rfl)
     try simp only [Act.put, gA]
     refine tkA 4 (v := ?_) ?_ ?_
     rotate_left
     ·(intro w hSw; (try dsimp only at hSw); go_simp; try rfl)
     try simp only [Act.put, gA]
     refine tkA 5 (v := ?_) ?_ ?_
     rotate_left
     ·(intro w hSw; (try dsimp only at hSw); go_simp; try rfl)
     try simp only [Act.put, gA]
     refine tkA 6 (v := ?_) ?_ ?_
     rotate_left
     ·(intro w' hSw; refine Eq.trans (take_load_at 86 _ rfl ⟨g, off + k * 18, none⟩ rfl [.int .i64 e1, .int .i64 e2, .int .i64 e3, .int .i64 e4, .int .i64 e5, .int .i64 e6, .int .i64 e7, .int .i64 e8, .int .i64 e9, .int .i64 e10, .int .i64 e11, .string e12, .string e13, .int .i64 e14, .int .i64 e15, .int .i64 e16, .int .i64 e17, .slice ea em ec] _ (fun j v hv => by rw [addr_add]; exact hSw.2.2 j v hv) Tryz.underlying86 rfl (by kernel_rfl)) ?_; rfl)
     try simp only [Act.put, gA]
     refine wpAnyH_ready (rs := [1, 7]) (by kernel_rfl) (by simp) ?_
     refine (AllReadyH.cons rfl (fun K hK => ?_) (AllReadyH.cons rfl (fun K hK => ?_) AllReadyH.nil))
     ·go_simp
      refine hK.out _ _ ?_ (fun hHeld => ?_)
      ·(first | exact hS7 | exact hS6 | exact ⟨HAb.out.lo, HAb.out.b2, fun j v hv => (HAb.out.lo.cell (p := ⟨g, off + k * 18 + j, none⟩) HG.out).trans (HCw.out j v hv)⟩ | exact ⟨HAd.out.lo, HAd.out.b2, fun j v hv => (HAd.out.lo.cell (p := ⟨g, off + k * 18 + j, none⟩) HG.out).trans (HCw.out j v hv)⟩)
      clear hK K
      try simp only [Act.put, gA]
      refine wpAnyH_ready (rs := [7]) (by kernel_rfl) (by simp) ?_
      refine (AllReadyH.cons rfl (fun K hK => ?_) AllReadyH.nil)
      go_simp
      refine hK.out _ _ ?_ (fun hHeld => ?_)
      ·(first | exact hS7 | exact hS6 | exact ⟨HAb.out.lo, HAb.out.b2, fun j v hv => (HAb.out.lo.cell (p := ⟨g, off + k * 18 + j, none⟩) HG.out).trans (HCw.out j v hv)⟩ | exact ⟨HAd.out.lo, HAd.out.b2, fun j v hv => (HAd.out.lo.cell (p := ⟨g, off + k * 18 + j, none⟩) HG.out).trans (HCw.out j v hv)⟩)
      clear hK K
      try simp only [Act.put, gA]
      refine wpAnyH_ready (rs := [8]) (by kernel_rfl) (by simp) ?_
      refine (AllReadyH.cons rfl (fun K hK => ?_) AllReadyH.nil)
      refine KO.step_appV rfl _ _ rfl (X.heap.size + 1) (.slice aZ nZ cZ) (Z) rfl HOw.out (.slice (some ⟨wq.heap.size, 0, none⟩) 1 1) ((((e1, e2, e3), (e4, (e5, e6), (e7, e8), (e9, e10, e11, e12, e13, e14, e15, e16), e17, el)), (ea, em, ec)) : OV) rfl (KO.rd_boxAt ((((e1, e2, e3), (e4, (e5, e6), (e7, e8), (e9, e10, e11, e12, e13, e14, e15, e16), e17, el)), (ea, em, ec)) : OV) 86 1 wq.drew _ rfl) (by have := HLz.out; simp; omega) (by simp; omega) ?_
      intro v6 w6 ho6 hb6 hg6
      obtain ⟨aW, nW, cW, rfl⟩ : ∃ aW nW cW, v6 = .slice aW nW cW := by
       obtain ⟨a6, c6, e6⟩ := ho6.slice
       exact ⟨a6, _, c6, e6⟩
      have hx6 := HAb.out.bx.on hb6 (by omega)
      have cC := hx6.cell 4
      have fC := hx6.fz 4
      simp only [gB] at cC
      have hlo6 : Below w.heap.size w w6 := HAb.out.lo.trans (hb6.mono (by omega))
      have hS6 : Below w.heap.size w w6 ∧ Bk w6 w.heap.size 41 [.int .i64 x0, .slice a1 k1 c1, .slice a2 k2 c2, .slice a3 k3 c3, .slice (some ⟨g, off, none⟩) NL cL] ∧ (∀ (j : Nat) (v : Value), ([.int .i64 e1, .int .i64 e2, .int .i64 e3, .int .i64 e4, .int .i64 e5, .int .i64 e6, .int .i64 e7, .int .i64 e8, .int .i64 e9, .int .i64 e10, .int .i64 e11, .string e12, .string e13, .int .i64 e14, .int .i64 e15, .int .i64 e16, .int .i64 e17, .slice ea em ec] : List Value)[j]? = some v → w6.cell? ⟨g, off + k * 18 + j, none⟩ = some v) := ⟨hlo6, HAb.out.b2.on hb6 (by omega), fun j v hv => (hlo6.cell (p := ⟨g, off + k * 18 + j, none⟩) HG.out).trans (HCw.out j v hv)⟩
      have HA7 := Hd (HAb.out.app ho6 hb6 rfl)
      have hS7 : Below w.heap.size w _ ∧ Bk _ w.heap.size 41 [.int .i64 x0, .slice a1 k1 c1, .slice a2 k2 c2, .slice a3 k3 c3, .slice (some ⟨g, off, none⟩) NL cL] ∧ (∀ (j : Nat) (v : Value), ([.int .i64 e1, .int .i64 e2, .int .i64 e3, .int .i64 e4, .int .i64 e5, .int .i64 e6, .int .i64 e7, .int .i64 e8, .int .i64 e9, .int .i64 e10, .int .i64 e11, .string e12, .string e13, .int .i64 e14, .int .i64 e15, .int .i64 e16, .int .i64 e17, .slice ea em ec] : List Value)[j]? = some v → (w6.setCell ⟨X.heap.size, 4, none⟩ (.slice aW nW cW)).cell? ⟨g, off + k * 18 + j, none⟩ = some v) := ⟨HA7.out.lo, HA7.out.b2, fun j v hv => (HA7.out.lo.cell (p := ⟨g, off + k * 18 + j, none⟩) HG.out).trans (HCw.out j v hv)⟩
      clear ho6 hb6 hg6 hx6 hlo6 cA cB cF
      refine hK.out _ _ ?_ (fun hHeld => ?_)
      ·(first | exact hS7 | exact hS6 | exact ⟨HAb.out.lo, HAb.out.b2, fun j v hv => (HAb.out.lo.cell (p := ⟨g, off + k * 18 + j, none⟩) HG.out).trans (HCw.out j v hv)⟩ | exact ⟨HAd.out.lo, HAd.out.b2, fun j v hv => (HAd.out.lo.cell (p := ⟨g, off + k * 18 + j, none⟩) HG.out).trans (HCw.out j v hv)⟩)
      clear hK K
      try simp only [Act.put, gA]
      refine tkA 9 (v := ?_) ?_ ?_
      rotate_left
      ·(intro w hSw; (try dsimp only at hSw); go_simp; try rfl)
      try simp only [Act.put, gA]
      refine wpAnyH_ready (rs := [10]) (by kernel_rfl) (by simp) ?_
      refine (AllReadyH.cons rfl (fun K hK => ?_) AllReadyH.nil)
      go_simp
      refine hK.out _ _ ?_ (fun hHeld => ?_)
      ·(first | exact hS7 | exact hS6 | exact ⟨HAb.out.lo, HAb.out.b2, fun j v hv => (HAb.out.lo.cell (p := ⟨g, off + k * 18 + j, none⟩) HG.out).trans (HCw.out j v hv)⟩ | exact ⟨HAd.out.lo, HAd.out.b2, fun j v hv => (HAd.out.lo.cell (p := ⟨g, off + k * 18 + j, none⟩) HG.out).trans (HCw.out j v hv)⟩)
      clear hK K
      try simp only [Act.put, gA]
      refine wpAnyH_done (by kernel_rfl) ?_ _
      clear hHeld
      clear hS6 hS7 cC fC HOw HAd HAb
      go_wp2_with fail
      go_roundw
      case rel => exact ⟨k + 1, Z ++ [((((e1, e2, e3), (e4, (e5, e6), (e7, e8), (e9, e10, e11, e12, e13, e14, e15, e16), e17, el)), (ea, em, ec)) : OV)], true, aW, nW, cW, by omega, by first | rfl | simp, by go_num, Hd (by rw [HFn.out]; unfold insS; simp [kO, hlt9, heq9, ltI_irrefl]), HA7⟩
      case measure => simp [intOf]; omega
     ·go_simp
      refine hK.out _ _ ?_ (fun hHeld => ?_)
      ·(first | exact hS7 | exact hS6 | exact ⟨HAb.out.lo, HAb.out.b2, fun j v hv => (HAb.out.lo.cell (p := ⟨g, off + k * 18 + j, none⟩) HG.out).trans (HCw.out j v hv)⟩ | exact ⟨HAd.out.lo, HAd.out.b2, fun j v hv => (HAd.out.lo.cell (p := ⟨g, off + k * 18 + j, none⟩) HG.out).trans (HCw.out j v hv)⟩)
      clear hK K
      try simp only [Act.put, gA]
      refine wpAnyH_ready (rs := [1]) (by kernel_rfl) (by simp) ?_
      refine (AllReadyH.cons rfl (fun K hK => ?_) AllReadyH.nil)
      go_simp
      refine hK.out _ _ ?_ (fun hHeld => ?_)
      ·(first | exact hS7 | exact hS6 | exact ⟨HAb.out.lo, HAb.out.b2, fun j v hv => (HAb.out.lo.cell (p := ⟨g, off + k * 18 + j, none⟩) HG.out).trans (HCw.out j v hv)⟩ | exact ⟨HAd.out.lo, HAd.out.b2, fun j v hv => (HAd.out.lo.cell (p := ⟨g, off + k * 18 + j, none⟩) HG.out).trans (HCw.out j v hv)⟩)
      clear hK K
      try simp only [Act.put, gA]
      refine wpAnyH_ready (rs := [8]) (by kernel_rfl) (by simp) ?_
      refine (AllReadyH.cons rfl (fun K hK => ?_) AllReadyH.nil)
      refine KO.step_appV rfl _ _ rfl (X.heap.size + 1) (.slice aZ nZ cZ) (Z) rfl HOw.out (.slice (some ⟨wq.heap.size, 0, none⟩) 1 1) ((((e1, e2, e3), (e4, (e5, e6), (e7, e8), (e9, e10, e11, e12, e13, e14, e15, e16), e17, el)), (ea, em, ec)) : OV) rfl (KO.rd_boxAt ((((e1, e2, e3), (e4, (e5, e6), (e7, e8), (e9, e10, e11, e12, e13, e14, e15, e16), e17, el)), (ea, em, ec)) : OV) 86 1 wq.drew _ rfl) (by have := HLz.out; simp; omega) (by simp; omega) ?_
      intro v6 w6 ho6 hb6 hg6
      obtain ⟨aW, nW, cW, rfl⟩ : ∃ aW nW cW, v6 = .slice aW nW cW := by
       obtain ⟨a6, c6, e6⟩ := ho6.slice
       exact ⟨a6, _, c6, e6⟩
      have hx6 := HAb.out.bx.on hb6 (by omega)
      have cC := hx6.cell 4
      have fC := hx6.fz 4
      simp only [gB] at cC
      have hlo6 : Below w.heap.size w w6 := HAb.out.lo.trans (hb6.mono (by omega))
      have hS6 : Below w.heap.size w w6 ∧ Bk w6 w.heap.size 41 [.int .i64 x0, .slice a1 k1 c1, .slice a2 k2 c2, .slice a3 k3 c3, .slice (some ⟨g, off, none⟩) NL cL] ∧ (∀ (j : Nat) (v : Value), ([.int .i64 e1, .int .i64 e2, .int .i64 e3, .int .i64 e4, .int .i64 e5, .int .i64 e6, .int .i64 e7, .int .i64 e8, .int .i64 e9, .int .i64 e10, .int .i64 e11, .string e12, .string e13, .int .i64 e14, .int .i64 e15, .int .i64 e16, .int .i64 e17, .slice ea em ec] : List Value)[j]? = some v → w6.cell? ⟨g, off + k * 18 + j, none⟩ = some v) := ⟨hlo6, HAb.out.b2.on hb6 (by omega), fun j v hv => (hlo6.cell (p := ⟨g, off + k * 18 + j, none⟩) HG.out).trans (HCw.out j v hv)⟩
      have HA7 := Hd (HAb.out.app ho6 hb6 rfl)
      have hS7 : Below w.heap.size w _ ∧ Bk _ w.heap.size 41 [.int .i64 x0, .slice a1 k1 c1, .slice a2 k2 c2, .slice a3 k3 c3, .slice (some ⟨g, off, none⟩) NL cL] ∧ (∀ (j : Nat) (v : Value), ([.int .i64 e1, .int .i64 e2, .int .i64 e3, .int .i64 e4, .int .i64 e5, .int .i64 e6, .int .i64 e7, .int .i64 e8, .int .i64 e9, .int .i64 e10, .int .i64 e11, .string e12, .string e13, .int .i64 e14, .int .i64 e15, .int .i64 e16, .int .i64 e17, .slice ea em ec] : List Value)[j]? = some v → (w6.setCell ⟨X.heap.size, 4, none⟩ (.slice aW nW cW)).cell? ⟨g, off + k * 18 + j, none⟩ = some v) := ⟨HA7.out.lo, HA7.out.b2, fun j v hv => (HA7.out.lo.cell (p := ⟨g, off + k * 18 + j, none⟩) HG.out).trans (HCw.out j v hv)⟩
      clear ho6 hb6 hg6 hx6 hlo6 cA cB cF
      refine hK.out _ _ ?_ (fun hHeld => ?_)
      ·(first | exact hS7 | exact hS6 | exact ⟨HAb.out.lo, HAb.out.b2, fun j v hv => (HAb.out.lo.cell (p := ⟨g, off + k * 18 + j, none⟩) HG.out).trans (HCw.out j v hv)⟩ | exact ⟨HAd.out.lo, HAd.out.b2, fun j v hv => (HAd.out.lo.cell (p := ⟨g, off + k * 18 + j, none⟩) HG.out).trans (HCw.out j v hv)⟩)
      clear hK K
      try simp only [Act.put, gA]
      refine tkA 9 (v := ?_) ?_ ?_
      rotate_left
      ·(intro w hSw; (try dsimp only at hSw); go_simp; try rfl)
      try simp only [Act.put, gA]
      refine wpAnyH_ready (rs := [10]) (by kernel_rfl) (by simp) ?_
      refine (AllReadyH.cons rfl (fun K hK => ?_) AllReadyH.nil)
      go_simp
      refine hK.out _ _ ?_ (fun hHeld => ?_)
      ·(first | exact hS7 | exact hS6 | exact ⟨HAb.out.lo, HAb.out.b2, fun j v hv => (HAb.out.lo.cell (p := ⟨g, off + k * 18 + j, none⟩) HG.out).trans (HCw.out j v hv)⟩ | exact ⟨HAd.out.lo, HAd.out.b2, fun j v hv => (HAd.out.lo.cell (p := ⟨g, off + k * 18 + j, none⟩) HG.out).trans (HCw.out j v hv)⟩)
      clear hK K
      try simp only [Act.put, gA]
      refine wpAnyH_done (by kernel_rfl) ?_ _
      clear hHeld
      clear hS6 hS7 cC fC HOw HAd HAb
      go_wp2_with fail
      go_roundw
      case rel => exact ⟨k + 1, Z ++ [((((e1, e2, e3), (e4, (e5, e6), (e7, e8), (e9, e10, e11, e12, e13, e14, e15, e16), e17, el)), (ea, em, ec)) : OV)], true, aW, nW, cW, by omega, by first | rfl | simp, by go_num, Hd (by rw [HFn.out]; unfold insS; simp [kO, hlt9, heq9, ltI_irrefl]), HA7⟩
      case measure => simp [intOf]; omega
   | false =>
    cases hlt9 : ltI (n1, n2, n3) (e1, e2, e3) with
    | true =>
     refine wp_region_held_drew (S := fun w' => Below wr.heap.size wr w') (by kernel_rfl) ?_ (fun hHeld => ?_)
     ·(first | exact Below.refl _ _ | exact (Below.refl _ _).drew | assumption | exact below_self (by assumption) (by assumption))
     refine tkA 0 (v := ?_) ?_ ?_
     rotate_left
     ·(intro w hSw; (try dsimp only at hSw); go_simp; try rfl)
     try simp only [Act.put, gA]
     refine tkA 1 (v := ?_) ?_ ?_
     rotate_left
     ·(intro w hSw; (try dsimp only at hSw); go_simp; try rfl)
     try simp only [Act.put, gA]
     refine tkA 2 (v := ?_) ?_ ?_
     rotate_left
     ·(intro w hSw; (try dsimp only at hSw); go_simp; try rfl)
     try simp only [Act.put, gA]
     refine tkA 3 (v := ?_) ?_ ?_
     rotate_left
     ·(intro w hSw; (try dsimp only at hSw); go_simp; try rfl)
     try simp only [Act.put, gA]
     refine tkA 4 (v := ?_) ?_ ?_
     rotate_left
     ·(intro w' hSw; have hd := HA.out.under hSw; have t1 := hd.b3.cell 1; have t2 := hd.b3.cell 2; have t3 := hd.b3.cell 3; simp only [gB] at t1 t2 t3; clear hSw hd; go_simp; try rfl)
     try simp only [Act.put, gA]
     refine tkA 5 (v := ?_) ?_ ?_
     rotate_left
     ·(intro w hSw; (try dsimp only at hSw); go_simp; try rfl)
     try simp only [Act.put, gA]
     refine tkA 6 (v := ?_) ?_ ?_
     rotate_left
     ·(intro w' hSw; have hd := HA.out.under hSw; have t4 := hd.b2.cell 4; simp only [gB] at t4; clear hSw hd; go_simp; try rfl)
     try simp only [Act.put, gA]
     refine tkA 7 (v := ?_) ?_ ?_
     rotate_left
     ·(intro w hSw; (try dsimp only at hSw); go_simp; try rfl)
     try simp only [Act.put, gA]
     refine tkA 8 (v := ?_) ?_ ?_
     rotate_left
     ·(intro w hSw; (try dsimp only at hSw); go_simp; try rfl)
     try simp only [Act.put, gA]
     refine tkA 9 (v := ?_) ?_ ?_
     rotate_left
     ·(intro w hSw; (try dsimp only at hSw); go_simp; try rfl)
     try simp only [Act.put, gA]
     refine tkA 10 (v := ?_) ?_ ?_
     rotate_left
     ·(intro w' hSw; have t0 := (hSw.cell (p := ⟨g, off + k * 18 + 0, none⟩) hgw).trans (HCe.out 0 _ rfl); have t1 := (hSw.cell (p := ⟨g, off + k * 18 + 1, none⟩) hgw).trans (HCe.out 1 _ rfl); have t2 := (hSw.cell (p := ⟨g, off + k * 18 + 2, none⟩) hgw).trans (HCe.out 2 _ rfl); clear hSw; simp only [Nat.add_zero] at t0; go_simp; try rfl)
     try simp only [Act.put, gA]
     refine wpAnyH_ready (rs := [11]) (by kernel_rfl) (by simp) ?_
     refine (AllReadyH.cons rfl (fun K hK => ?_) AllReadyH.nil)
     go_simp
     (refine (rless_any n1 n2 n3 e1 e2 e3 _).mono ?_; rintro e z ⟨rfl, hz⟩; rw [hlt9]; have hb := hz.below; clear hz; have hb := below_self (by assumption) hb)
     refine hK.out _ _ ?_ (fun hHeld => ?_)
     ·(first | exact Below.refl _ _ | exact (Below.refl _ _).drew | assumption | exact below_self (by assumption) (by assumption))
     clear hK K
     try simp only [Act.put, gA]
     refine tkA 12 (v := ?_) ?_ ?_
     rotate_left
     ·(intro w hSw; (try dsimp only at hSw); go_simp; try rfl)
     try simp only [Act.put, gA]
     refine wpAnyH_done (by kernel_rfl) ?_ _
     clear hHeld
     have HAz := Hd (HA.out.under hb)
     have HCz : Hid (∀ (j : Nat) (v : Value), ([.int .i64 e1, .int .i64 e2, .int .i64 e3, .int .i64 e4, .int .i64 e5, .int .i64 e6, .int .i64 e7, .int .i64 e8, .int .i64 e9, .int .i64 e10, .int .i64 e11, .string e12, .string e13, .int .i64 e14, .int .i64 e15, .int .i64 e16, .int .i64 e17, .slice ea em ec] : List Value)[j]? = some v → z.cell? ⟨g, off + k * 18 + j, none⟩ = some v) := Hd (fun j v hv => (HAz.out.lo.cell (p := ⟨g, off + k * 18 + j, none⟩) HG.out).trans (HCw.out j v hv))
     clear HA HCe hgw hb
     have hx0 := HAz.out
     have cD := hx0.bx.cell 4
     simp only [gB] at cD
     have u1 := hx0.b3.cell 1
     have u2 := hx0.b3.cell 2
     have u3 := hx0.b3.cell 3
     have u4 := hx0.b3.cell 4
     have u5 := hx0.b3.cell 5
     have u6 := hx0.b3.cell 6
     have u7 := hx0.b3.cell 7
     have u8 := hx0.b3.cell 8
     have u9 := hx0.b3.cell 9
     have u10 := hx0.b3.cell 10
     have u11 := hx0.b3.cell 11
     have u12 := hx0.b3.cell 12
     have u13 := hx0.b3.cell 13
     have u14 := hx0.b3.cell 14
     have u15 := hx0.b3.cell 15
     have u16 := hx0.b3.cell 16
     have u17 := hx0.b3.cell 17
     have u18 := hx0.b3.cell 18
     simp only [gB] at u1 u2 u3 u4 u5 u6 u7 u8 u9 u10 u11 u12 u13 u14 u15 u16 u17 u18
     have hbig0 := hx0.big
     have HAw := Hd (HAz.out.under ((Below.refl _ _).alloc (Nat.le_refl _) (.cells #[.int .i64 n1, .int .i64 n2, .int .i64 n3, .int .i64 n4, .int .i64 n5, .int .i64 n6, .int .i64 n7, .int .i64 n8, .int .i64 n9, .int .i64 n10, .int .i64 n11, .string n12, .string n13, .int .i64 n14, .int .i64 n15, .int .i64 n16, .int .i64 n17, .slice a18 m18 p18] 86)))
     clear hx0
     go_wp2_with (refine KO.app rfl _ _ rfl (X.heap.size + 1) (.slice aZ nZ cZ) Z rfl HAw.out.ow (.slice (some ⟨z.heap.size, 0, none⟩) 1 1) [((((n1, n2, n3), (n4, (n5, n6), (n7, n8), (n9, n10, n11, n12, n13, n14, n15, n16), n17, l18)), (a18, m18, p18)) : OV)] rfl (KO.rd_boxAt ((((n1, n2, n3), (n4, (n5, n6), (n7, n8), (n9, n10, n11, n12, n13, n14, n15, n16), n17, l18)), (a18, m18, p18)) : OV) 86 1 z _ rfl) (by have := HLz.out; simp; omega) (by simp; omega) ?_)
     intro v4 w4 ho4 hb4 hg4 _
     obtain ⟨aN, nN, cN, rfl⟩ : ∃ aN nN cN, v4 = .slice aN nN cN := by
      obtain ⟨aN, cN, e6⟩ := ho4.slice
      exact ⟨aN, _, cN, e6⟩
     have hx4 := HAw.out.bx.on hb4 (by omega)
     have cE := hx4.cell 4
     have fE := hx4.fz 4
     simp only [gB] at cE
     obtain ⟨w5, hw5⟩ : ∃ q, w4.setCell ⟨X.heap.size, 4, none⟩ (.slice aN nN cN) = q := ⟨_, rfl⟩
     have HA5 := Hd (HAw.out.app ho4 hb4 hw5)
     clear ho4 hb4 hg4 hx4 cD u1 u2 u3 u4 u5 u6 u7 u8 u9 u10 u11 u12 u13 u14 u15 u16 u17 u18
     go_upto_region 15 with fail
     clear hw5 cE fE HAw HAz HCz
     have HCz : Hid (∀ (j : Nat) (v : Value), ([.int .i64 e1, .int .i64 e2, .int .i64 e3, .int .i64 e4, .int .i64 e5, .int .i64 e6, .int .i64 e7, .int .i64 e8, .int .i64 e9, .int .i64 e10, .int .i64 e11, .string e12, .string e13, .int .i64 e14, .int .i64 e15, .int .i64 e16, .int .i64 e17, .slice ea em ec] : List Value)[j]? = some v → w5.cell? ⟨g, off + k * 18 + j, none⟩ = some v) := Hd (fun j v hv => (HA5.out.lo.cell (p := ⟨g, off + k * 18 + j, none⟩) HG.out).trans (HCw.out j v hv))
     have hd15 := HA5.out
     have t4 := hd15.b2.cell 4
     have u1 := hd15.b3.cell 1
     have u2 := hd15.b3.cell 2
     have u3 := hd15.b3.cell 3
     simp only [gB] at t4 u1 u2 u3
     have t0 := HCz.out 0 _ rfl
     have t1 := HCz.out 1 _ rfl
     have t2 := HCz.out 2 _ rfl
     simp only [Nat.add_zero] at t0
     obtain ⟨hne, hgd⟩ := neI_run e1 e2 e3 n1 n2 n3
     have hgz : g < w5.heap.size := Nat.lt_of_lt_of_le HG.out hd15.lo.size
     clear hd15
     have heq9 : ¬ (e1, e2, e3) = (n1, n2, n3) := ltI_ne hlt9
     rw [decide_eq_false heq9] at hne
     simp only [Bool.not_false] at hne
     go_wp2_with fail
     go_quiet (fail)
     clear t0 t1 t2 t4 u1 u2 u3 hne hgd
     generalize hwq : World.drewN w5 _ = wq
     have hbq : Below w5.heap.size w5 wq := by rw [← hwq]; exact below_drewN_q (Below.refl _ _) _
     have HAq := Hd (HA5.out.under hbq)
     clear hwq hbq
     go_wp2_with fail
     have HAd := Hd (HAq.out.under (Below.refl _ _).drew)
     have HAb := Hd (HAd.out.under ((Below.refl _ _).alloc (Nat.le_refl _) (.cells #[.int .i64 e1, .int .i64 e2, .int .i64 e3, .int .i64 e4, .int .i64 e5, .int .i64 e6, .int .i64 e7, .int .i64 e8, .int .i64 e9, .int .i64 e10, .int .i64 e11, .string e12, .string e13, .int .i64 e14, .int .i64 e15, .int .i64 e16, .int .i64 e17, .slice ea em ec] 86)))
     have cA := HAd.out.bx.cell 4
     have cB := HAb.out.bx.cell 4
     simp only [gB] at cA cB
     have cF : (World.drew (wq.alloc (.cells #[.int .i64 e1, .int .i64 e2, .int .i64 e3, .int .i64 e4, .int .i64 e5, .int .i64 e6, .int .i64 e7, .int .i64 e8, .int .i64 e9, .int .i64 e10, .int .i64 e11, .string e12, .string e13, .int .i64 e14, .int .i64 e15, .int .i64 e16, .int .i64 e17, .slice ea em ec] 86))).cell? ⟨X.heap.size, 4, none⟩ = some (.slice aN nN cN) := cB
     have HOw := Hd HAb.out.ow
     have hbigW := HAq.out.big
     refine wp_region_held_drew (S := fun w' => Below w.heap.size w w' ∧ Bk w' w.heap.size 41 [.int .i64 x0, .slice a1 k1 c1, .slice a2 k2 c2, .slice a3 k3 c3, .slice (some ⟨g, off, none⟩) NL cL] ∧ (∀ (j : Nat) (v : Value), ([.int .i64 e1, .int .i64 e2, .int .i64 e3, .int .i64 e4, .int .i64 e5, .int .i64 e6, .int .i64 e7, .int .i64 e8, .int .i64 e9, .int .i64 e10, .int .i64 e11, .string e12, .string e13, .int .i64 e14, .int .i64 e15, .int .i64 e16, .int .i64 e17, .slice ea em ec] : List Value)[j]? = some v → w'.cell? ⟨g, off + k * 18 + j, none⟩ = some v)) (by kernel_rfl) ?_ (fun hHeld => ?_)
     ·(first | exact hS7 | exact hS6 | exact ⟨HAb.out.lo, HAb.out.b2, fun j v hv => (HAb.out.lo.cell (p := ⟨g, off + k * 18 + j, none⟩) HG.out).trans (HCw.out j v hv)⟩ | exact ⟨HAd.out.lo, HAd.out.b2, fun j v hv => (HAd.out.lo.cell (p := ⟨g, off + k * 18 + j, none⟩) HG.out).trans (HCw.out j v hv)⟩)
     refine tkA 0 (v := ?_) ?_ ?_
     rotate_left
     ·(intro w hSw; (try dsimp only at hSw); go_simp; try rfl)
     try simp only [Act.put, gA]
     refine tkA 2 (v := ?_) ?_ ?_
     rotate_left
     ·(intro w hSw; (try dsimp only at hSw); go_simp; try rfl)
     try simp only [Act.put, gA]
     refine tkA 3 (v := ?_) ?_ ?_
     rotate_left
     ·(intro w' hSw; have t4 := hSw.2.1.cell 4; simp only [gB] at t4; clear hSw; go_simp; try rfl)
     try simp only [Act.put, gA]
     refine tkA 4 (v := ?_) ?_ ?_
     rotate_left
     ·(intro w hSw; (try dsimp only at hSw); go_simp; try rfl)
     try simp only [Act.put, gA]
     refine tkA 5 (v := ?_) ?_ ?_
     rotate_left
     ·(intro w hSw; (try dsimp only at hSw); go_simp; try rfl)
     try simp only [Act.put, gA]
     refine tkA 6 (v := ?_) ?_ ?_
     rotate_left
     ·(intro w' hSw; refine Eq.trans (take_load_at 86 _ rfl ⟨g, off + k * 18, none⟩ rfl [.int .i64 e1, .int .i64 e2, .int .i64 e3, .int .i64 e4, .int .i64 e5, .int .i64 e6, .int .i64 e7, .int .i64 e8, .int .i64 e9, .int .i64 e10, .int .i64 e11, .string e12, .string e13, .int .i64 e14, .int .i64 e15, .int .i64 e16, .int .i64 e17, .slice ea em ec] _ (fun j v hv => by rw [addr_add]; exact hSw.2.2 j v hv) Tryz.underlying86 rfl (by kernel_rfl)) ?_; rfl)
     try simp only [Act.put, gA]
     refine wpAnyH_ready (rs := [1, 7]) (by kernel_rfl) (by simp) ?_
     refine (AllReadyH.cons rfl (fun K hK => ?_) (AllReadyH.cons rfl (fun K hK => ?_) AllReadyH.nil))
     ·go_simp
      refine hK.out _ _ ?_ (fun hHeld => ?_)
      ·(first | exact hS7 | exact hS6 | exact ⟨HAb.out.lo, HAb.out.b2, fun j v hv => (HAb.out.lo.cell (p := ⟨g, off + k * 18 + j, none⟩) HG.out).trans (HCw.out j v hv)⟩ | exact ⟨HAd.out.lo, HAd.out.b2, fun j v hv => (HAd.out.lo.cell (p := ⟨g, off + k * 18 + j, none⟩) HG.out).trans (HCw.out j v hv)⟩)
      clear hK K
      try simp only [Act.put, gA]
      refine wpAnyH_ready (rs := [7]) (by kernel_rfl) (by simp) ?_
      refine (AllReadyH.cons rfl (fun K hK => ?_) AllReadyH.nil)
      go_simp
      refine hK.out _ _ ?_ (fun hHeld => ?_)
      ·(first | exact hS7 | exact hS6 | exact ⟨HAb.out.lo, HAb.out.b2, fun j v hv => (HAb.out.lo.cell (p := ⟨g, off + k * 18 + j, none⟩) HG.out).trans (HCw.out j v hv)⟩ | exact ⟨HAd.out.lo, HAd.out.b2, fun j v hv => (HAd.out.lo.cell (p := ⟨g, off + k * 18 + j, none⟩) HG.out).trans (HCw.out j v hv)⟩)
      clear hK K
      try simp only [Act.put, gA]
      refine wpAnyH_ready (rs := [8]) (by kernel_rfl) (by simp) ?_
      refine (AllReadyH.cons rfl (fun K hK => ?_) AllReadyH.nil)
      refine KO.step_appV rfl _ _ rfl (X.heap.size + 1) (.slice aN nN cN) ((Z ++ [((((n1, n2, n3), (n4, (n5, n6), (n7, n8), (n9, n10, n11, n12, n13, n14, n15, n16), n17, l18)), (a18, m18, p18)) : OV)])) rfl HOw.out (.slice (some ⟨wq.heap.size, 0, none⟩) 1 1) ((((e1, e2, e3), (e4, (e5, e6), (e7, e8), (e9, e10, e11, e12, e13, e14, e15, e16), e17, el)), (ea, em, ec)) : OV) rfl (KO.rd_boxAt ((((e1, e2, e3), (e4, (e5, e6), (e7, e8), (e9, e10, e11, e12, e13, e14, e15, e16), e17, el)), (ea, em, ec)) : OV) 86 1 wq.drew _ rfl) (by have := HLz.out; simp; omega) (by simp; omega) ?_
      intro v6 w6 ho6 hb6 hg6
      obtain ⟨aW, nW, cW, rfl⟩ : ∃ aW nW cW, v6 = .slice aW nW cW := by
       obtain ⟨a6, c6, e6⟩ := ho6.slice
       exact ⟨a6, _, c6, e6⟩
      have hx6 := HAb.out.bx.on hb6 (by omega)
      have cC := hx6.cell 4
      have fC := hx6.fz 4
      simp only [gB] at cC
      have hlo6 : Below w.heap.size w w6 := HAb.out.lo.trans (hb6.mono (by omega))
      have hS6 : Below w.heap.size w w6 ∧ Bk w6 w.heap.size 41 [.int .i64 x0, .slice a1 k1 c1, .slice a2 k2 c2, .slice a3 k3 c3, .slice (some ⟨g, off, none⟩) NL cL] ∧ (∀ (j : Nat) (v : Value), ([.int .i64 e1, .int .i64 e2, .int .i64 e3, .int .i64 e4, .int .i64 e5, .int .i64 e6, .int .i64 e7, .int .i64 e8, .int .i64 e9, .int .i64 e10, .int .i64 e11, .string e12, .string e13, .int .i64 e14, .int .i64 e15, .int .i64 e16, .int .i64 e17, .slice ea em ec] : List Value)[j]? = some v → w6.cell? ⟨g, off + k * 18 + j, none⟩ = some v) := ⟨hlo6, HAb.out.b2.on hb6 (by omega), fun j v hv => (hlo6.cell (p := ⟨g, off + k * 18 + j, none⟩) HG.out).trans (HCw.out j v hv)⟩
      have HA7 := Hd (HAb.out.app ho6 hb6 rfl)
      have hS7 : Below w.heap.size w _ ∧ Bk _ w.heap.size 41 [.int .i64 x0, .slice a1 k1 c1, .slice a2 k2 c2, .slice a3 k3 c3, .slice (some ⟨g, off, none⟩) NL cL] ∧ (∀ (j : Nat) (v : Value), ([.int .i64 e1, .int .i64 e2, .int .i64 e3, .int .i64 e4, .int .i64 e5, .int .i64 e6, .int .i64 e7, .int .i64 e8, .int .i64 e9, .int .i64 e10, .int .i64 e11, .string e12, .string e13, .int .i64 e14, .int .i64 e15, .int .i64 e16, .int .i64 e17, .slice ea em ec] : List Value)[j]? = some v → (w6.setCell ⟨X.heap.size, 4, none⟩ (.slice aW nW cW)).cell? ⟨g, off + k * 18 + j, none⟩ = some v) := ⟨HA7.out.lo, HA7.out.b2, fun j v hv => (HA7.out.lo.cell (p := ⟨g, off + k * 18 + j, none⟩) HG.out).trans (HCw.out j v hv)⟩
      clear ho6 hb6 hg6 hx6 hlo6 cA cB cF
      refine hK.out _ _ ?_ (fun hHeld => ?_)
      ·(first | exact hS7 | exact hS6 | exact ⟨HAb.out.lo, HAb.out.b2, fun j v hv => (HAb.out.lo.cell (p := ⟨g, off + k * 18 + j, none⟩) HG.out).trans (HCw.out j v hv)⟩ | exact ⟨HAd.out.lo, HAd.out.b2, fun j v hv => (HAd.out.lo.cell (p := ⟨g, off + k * 18 + j, none⟩) HG.out).trans (HCw.out j v hv)⟩)
      clear hK K
      try simp only [Act.put, gA]
      refine tkA 9 (v := ?_) ?_ ?_
      rotate_left
      ·(intro w hSw; (try dsimp only at hSw); go_simp; try rfl)
      try simp only [Act.put, gA]
      refine wpAnyH_ready (rs := [10]) (by kernel_rfl) (by simp) ?_
      refine (AllReadyH.cons rfl (fun K hK => ?_) AllReadyH.nil)
      go_simp
      refine hK.out _ _ ?_ (fun hHeld => ?_)
      ·(first | exact hS7 | exact hS6 | exact ⟨HAb.out.lo, HAb.out.b2, fun j v hv => (HAb.out.lo.cell (p := ⟨g, off + k * 18 + j, none⟩) HG.out).trans (HCw.out j v hv)⟩ | exact ⟨HAd.out.lo, HAd.out.b2, fun j v hv => (HAd.out.lo.cell (p := ⟨g, off + k * 18 + j, none⟩) HG.out).trans (HCw.out j v hv)⟩)
      clear hK K
      try simp only [Act.put, gA]
      refine wpAnyH_done (by kernel_rfl) ?_ _
      clear hHeld
      clear hS6 hS7 cC fC HOw HAd HAb
      go_wp2_with fail
      go_roundw
      case rel => exact ⟨k + 1, (Z ++ [((((n1, n2, n3), (n4, (n5, n6), (n7, n8), (n9, n10, n11, n12, n13, n14, n15, n16), n17, l18)), (a18, m18, p18)) : OV)]) ++ [((((e1, e2, e3), (e4, (e5, e6), (e7, e8), (e9, e10, e11, e12, e13, e14, e15, e16), e17, el)), (ea, em, ec)) : OV)], true, aW, nW, cW, by omega, by first | rfl | simp, by go_num, Hd (by rw [HFn.out]; unfold insS; simp [kO, hlt9, heq9, ltI_irrefl]), HA7⟩
      case measure => simp [intOf]; omega
     ·go_simp
      refine hK.out _ _ ?_ (fun hHeld => ?_)
      ·(first | exact hS7 | exact hS6 | exact ⟨HAb.out.lo, HAb.out.b2, fun j v hv => (HAb.out.lo.cell (p := ⟨g, off + k * 18 + j, none⟩) HG.out).trans (HCw.out j v hv)⟩ | exact ⟨HAd.out.lo, HAd.out.b2, fun j v hv => (HAd.out.lo.cell (p := ⟨g, off + k * 18 + j, none⟩) HG.out).trans (HCw.out j v hv)⟩)
      clear hK K
      try simp only [Act.put, gA]
      refine wpAnyH_ready (rs := [1]) (by kernel_rfl) (by simp) ?_
      refine (AllReadyH.cons rfl (fun K hK => ?_) AllReadyH.nil)
      go_simp
      refine hK.out _ _ ?_ (fun hHeld => ?_)
      ·(first | exact hS7 | exact hS6 | exact ⟨HAb.out.lo, HAb.out.b2, fun j v hv => (HAb.out.lo.cell (p := ⟨g, off + k * 18 + j, none⟩) HG.out).trans (HCw.out j v hv)⟩ | exact ⟨HAd.out.lo, HAd.out.b2, fun j v hv => (HAd.out.lo.cell (p := ⟨g, off + k * 18 + j, none⟩) HG.out).trans (HCw.out j v hv)⟩)
      clear hK K
      try simp only [Act.put, gA]
      refine wpAnyH_ready (rs := [8]) (by kernel_rfl) (by simp) ?_
      refine (AllReadyH.cons rfl (fun K hK => ?_) AllReadyH.nil)
      refine KO.step_appV rfl _ _ rfl (X.heap.size + 1) (.slice aN nN cN) ((Z ++ [((((n1, n2, n3), (n4, (n5, n6), (n7, n8), (n9, n10, n11, n12, n13, n14, n15, n16), n17, l18)), (a18, m18, p18)) : OV)])) rfl HOw.out (.slice (some ⟨wq.heap.size, 0, none⟩) 1 1) ((((e1, e2, e3), (e4, (e5, e6), (e7, e8), (e9, e10, e11, e12, e13, e14, e15, e16), e17, el)), (ea, em, ec)) : OV) rfl (KO.rd_boxAt ((((e1, e2, e3), (e4, (e5, e6), (e7, e8), (e9, e10, e11, e12, e13, e14, e15, e16), e17, el)), (ea, em, ec)) : OV) 86 1 wq.drew _ rfl) (by have := HLz.out; simp; omega) (by simp; omega) ?_
      intro v6 w6 ho6 hb6 hg6
      obtain ⟨aW, nW, cW, rfl⟩ : ∃ aW nW cW, v6 = .slice aW nW cW := by
       obtain ⟨a6, c6, e6⟩ := ho6.slice
       exact ⟨a6, _, c6, e6⟩
      have hx6 := HAb.out.bx.on hb6 (by omega)
      have cC := hx6.cell 4
      have fC := hx6.fz 4
      simp only [gB] at cC
      have hlo6 : Below w.heap.size w w6 := HAb.out.lo.trans (hb6.mono (by omega))
      have hS6 : Below w.heap.size w w6 ∧ Bk w6 w.heap.size 41 [.int .i64 x0, .slice a1 k1 c1, .slice a2 k2 c2, .slice a3 k3 c3, .slice (some ⟨g, off, none⟩) NL cL] ∧ (∀ (j : Nat) (v : Value), ([.int .i64 e1, .int .i64 e2, .int .i64 e3, .int .i64 e4, .int .i64 e5, .int .i64 e6, .int .i64 e7, .int .i64 e8, .int .i64 e9, .int .i64 e10, .int .i64 e11, .string e12, .string e13, .int .i64 e14, .int .i64 e15, .int .i64 e16, .int .i64 e17, .slice ea em ec] : List Value)[j]? = some v → w6.cell? ⟨g, off + k * 18 + j, none⟩ = some v) := ⟨hlo6, HAb.out.b2.on hb6 (by omega), fun j v hv => (hlo6.cell (p := ⟨g, off + k * 18 + j, none⟩) HG.out).trans (HCw.out j v hv)⟩
      have HA7 := Hd (HAb.out.app ho6 hb6 rfl)
      have hS7 : Below w.heap.size w _ ∧ Bk _ w.heap.size 41 [.int .i64 x0, .slice a1 k1 c1, .slice a2 k2 c2, .slice a3 k3 c3, .slice (some ⟨g, off, none⟩) NL cL] ∧ (∀ (j : Nat) (v : Value), ([.int .i64 e1, .int .i64 e2, .int .i64 e3, .int .i64 e4, .int .i64 e5, .int .i64 e6, .int .i64 e7, .int .i64 e8, .int .i64 e9, .int .i64 e10, .int .i64 e11, .string e12, .string e13, .int .i64 e14, .int .i64 e15, .int .i64 e16, .int .i64 e17, .slice ea em ec] : List Value)[j]? = some v → (w6.setCell ⟨X.heap.size, 4, none⟩ (.slice aW nW cW)).cell? ⟨g, off + k * 18 + j, none⟩ = some v) := ⟨HA7.out.lo, HA7.out.b2, fun j v hv => (HA7.out.lo.cell (p := ⟨g, off + k * 18 + j, none⟩) HG.out).trans (HCw.out j v hv)⟩
      clear ho6 hb6 hg6 hx6 hlo6 cA cB cF
      refine hK.out _ _ ?_ (fun hHeld => ?_)
      ·(first | exact hS7 | exact hS6 | exact ⟨HAb.out.lo, HAb.out.b2, fun j v hv => (HAb.out.lo.cell (p := ⟨g, off + k * 18 + j, none⟩) HG.out).trans (HCw.out j v hv)⟩ | exact ⟨HAd.out.lo, HAd.out.b2, fun j v hv => (HAd.out.lo.cell (p := ⟨g, off + k * 18 + j, none⟩) HG.out).trans (HCw.out j v hv)⟩)
      clear hK K
      try simp only [Act.put, gA]
      refine tkA 9 (v := ?_) ?_ ?_
      rotate_left
      ·(intro w hSw; (try dsimp only at hSw); go_simp; try rfl)
      try simp only [Act.put, gA]
      refine wpAnyH_ready (rs := [10]) (by kernel_rfl) (by simp) ?_
      refine (AllReadyH.cons rfl (fun K hK => ?_) AllReadyH.nil)
      go_simp
      refine hK.out _ _ ?_ (fun hHeld => ?_)
      ·(first | exact hS7 | exact hS6 | exact ⟨HAb.out.lo, HAb.out.b2, fun j v hv => (HAb.out.lo.cell (p := ⟨g, off + k * 18 + j, none⟩) HG.out).trans (HCw.out j v hv)⟩ | exact ⟨HAd.out.lo, HAd.out.b2, fun j v hv => (HAd.out.lo.cell (p := ⟨g, off + k * 18 + j, none⟩) HG.out).trans (HCw.out j v hv)⟩)
      clear hK K
      try simp only [Act.put, gA]
      refine wpAnyH_done (by kernel_rfl) ?_ _
      clear hHeld
      clear hS6 hS7 cC fC HOw HAd HAb
      go_wp2_with fail
      go_roundw
      case rel => exact ⟨k + 1, (Z ++ [((((n1, n2, n3), (n4, (n5, n6), (n7, n8), (n9, n10, n11, n12, n13, n14, n15, n16), n17, l18)), (a18, m18, p18)) : OV)]) ++ [((((e1, e2, e3), (e4, (e5, e6), (e7, e8), (e9, e10, e11, e12, e13, e14, e15, e16), e17, el)), (ea, em, ec)) : OV)], true, aW, nW, cW, by omega, by first | rfl | simp, by go_num, Hd (by rw [HFn.out]; unfold insS; simp [kO, hlt9, heq9, ltI_irrefl]), HA7⟩
      case measure => simp [intOf]; omega
    | false =>
     refine wp_region_held_drew (S := fun w' => Below wr.heap.size wr w') (by kernel_rfl) ?_ (fun hHeld => ?_)
     ·(first | exact Below.refl _ _ | exact (Below.refl _ _).drew | assumption | exact below_self (by assumption) (by assumption))
     refine tkA 0 (v := ?_) ?_ ?_
     rotate_left
     ·(intro w hSw; (try dsimp only at hSw); go_simp; try rfl)
     try simp only [Act.put, gA]
     refine tkA 1 (v := ?_) ?_ ?_
     rotate_left
     ·(intro w hSw; (try dsimp only at hSw); go_simp; try rfl)
     try simp only [Act.put, gA]
     refine tkA 2 (v := ?_) ?_ ?_
     rotate_left
     ·(intro w hSw; (try dsimp only at hSw); go_simp; try rfl)
     try simp only [Act.put, gA]
     refine tkA 3 (v := ?_) ?_ ?_
     rotate_left
     ·(intro w hSw; (try dsimp only at hSw); go_simp; try rfl)
     try simp only [Act.put, gA]
     refine tkA 4 (v := ?_) ?_ ?_
     rotate_left
     ·(intro w' hSw; have hd := HA.out.under hSw; have t1 := hd.b3.cell 1; have t2 := hd.b3.cell 2; have t3 := hd.b3.cell 3; simp only [gB] at t1 t2 t3; clear hSw hd; go_simp; try rfl)
     try simp only [Act.put, gA]
     refine tkA 5 (v := ?_) ?_ ?_
     rotate_left
     ·(intro w hSw; (try dsimp only at hSw); go_simp; try rfl)
     try simp only [Act.put, gA]
     refine tkA 6 (v := ?_) ?_ ?_
     rotate_left
     ·(intro w' hSw; have hd := HA.out.under hSw; have t4 := hd.b2.cell 4; simp only [gB] at t4; clear hSw hd; go_simp; try rfl)
     try simp only [Act.put, gA]
     refine tkA 7 (v := ?_) ?_ ?_
     rotate_left
     ·(intro w hSw; (try dsimp only at hSw); go_simp; try rfl)
     try simp only [Act.put, gA]
     refine tkA 8 (v := ?_) ?_ ?_
     rotate_left
     ·(intro w hSw; (try dsimp only at hSw); go_simp; try rfl)
     try simp only [Act.put, gA]
     refine tkA 9 (v := ?_) ?_ ?_
     rotate_left
     ·(intro w hSw; (try dsimp only at hSw); go_simp; try rfl)
     try simp only [Act.put, gA]
     refine tkA 10 (v := ?_) ?_ ?_
     rotate_left
     ·(intro w' hSw; have t0 := (hSw.cell (p := ⟨g, off + k * 18 + 0, none⟩) hgw).trans (HCe.out 0 _ rfl); have t1 := (hSw.cell (p := ⟨g, off + k * 18 + 1, none⟩) hgw).trans (HCe.out 1 _ rfl); have t2 := (hSw.cell (p := ⟨g, off + k * 18 + 2, none⟩) hgw).trans (HCe.out 2 _ rfl); clear hSw; simp only [Nat.add_zero] at t0; go_simp; try rfl)
     try simp only [Act.put, gA]
     refine wpAnyH_ready (rs := [11]) (by kernel_rfl) (by simp) ?_
     refine (AllReadyH.cons rfl (fun K hK => ?_) AllReadyH.nil)
     go_simp
     (refine (rless_any n1 n2 n3 e1 e2 e3 _).mono ?_; rintro e z ⟨rfl, hz⟩; rw [hlt9]; have hb := hz.below; clear hz; have hb := below_self (by assumption) hb)
     refine hK.out _ _ ?_ (fun hHeld => ?_)
     ·(first | exact Below.refl _ _ | exact (Below.refl _ _).drew | assumption | exact below_self (by assumption) (by assumption))
     clear hK K
     try simp only [Act.put, gA]
     refine tkA 12 (v := ?_) ?_ ?_
     rotate_left
     ·(intro w hSw; (try dsimp only at hSw); go_simp; try rfl)
     try simp only [Act.put, gA]
     refine wpAnyH_done (by kernel_rfl) ?_ _
     clear hHeld
     have HAz := Hd (HA.out.under hb)
     have HCz : Hid (∀ (j : Nat) (v : Value), ([.int .i64 e1, .int .i64 e2, .int .i64 e3, .int .i64 e4, .int .i64 e5, .int .i64 e6, .int .i64 e7, .int .i64 e8, .int .i64 e9, .int .i64 e10, .int .i64 e11, .string e12, .string e13, .int .i64 e14, .int .i64 e15, .int .i64 e16, .int .i64 e17, .slice ea em ec] : List Value)[j]? = some v → z.cell? ⟨g, off + k * 18 + j, none⟩ = some v) := Hd (fun j v hv => (HAz.out.lo.cell (p := ⟨g, off + k * 18 + j, none⟩) HG.out).trans (HCw.out j v hv))
     clear HA HCe hgw hb
     go_upto_region 15 with fail
     have hd15 := HAz.out
     have t4 := hd15.b2.cell 4
     have u1 := hd15.b3.cell 1
     have u2 := hd15.b3.cell 2
     have u3 := hd15.b3.cell 3
     simp only [gB] at t4 u1 u2 u3
     have t0 := HCz.out 0 _ rfl
     have t1 := HCz.out 1 _ rfl
     have t2 := HCz.out 2 _ rfl
     simp only [Nat.add_zero] at t0
     obtain ⟨hne, hgd⟩ := neI_run e1 e2 e3 n1 n2 n3
     have hgz : g < z.heap.size := Nat.lt_of_lt_of_le HG.out hd15.lo.size
     clear hd15
     cases hq9 : decide ((e1, e2, e3) = (n1, n2, n3)) with
     | true =>
      rw [hq9] at hne
      have heq9 : (e1, e2, e3) = (n1, n2, n3) := of_decide_eq_true hq9
      simp only [Bool.not_true] at hne
      clear hq9
      go_wp2_with fail
      go_quiet (fail)
      clear t0 t1 t2 t4 u1 u2 u3 hne hgd
      generalize hwq : World.drewN z _ = wq
      have hbq : Below z.heap.size z wq := by rw [← hwq]; exact below_drewN_q (Below.refl _ _) _
      have HAq := Hd (HAz.out.under hbq)
      clear hwq hbq
      go_wp2_with fail
      go_roundw
      case rel => exact ⟨k + 1, Z, false, aZ, nZ, cZ, by omega, by first | rfl | simp, by go_num, Hd (by rw [HFn.out]; unfold insS; simp [kO, hlt9, heq9, ltI_irrefl]), HAq⟩
      case measure => simp [intOf]; omega
     | false =>
      rw [hq9] at hne
      have heq9 : ¬ (e1, e2, e3) = (n1, n2, n3) := of_decide_eq_false hq9
      simp only [Bool.not_false] at hne
      clear hq9
      go_wp2_with fail
      go_quiet (fail)
      clear t0 t1 t2 t4 u1 u2 u3 hne hgd
      generalize hwq : World.drewN z _ = wq
      have hbq : Below z.heap.size z wq := by rw [← hwq]; exact below_drewN_q (Below.refl _ _) _
      have HAq := Hd (HAz.out.under hbq)
      clear hwq hbq
      go_wp2_with fail
      have HAd := Hd (HAq.out.under (Below.refl _ _).drew)
      have HAb := Hd (HAd.out.under ((Below.refl _ _).alloc (Nat.le_refl _) (.cells #[.int .i64 e1, .int .i64 e2, .int .i64 e3, .int .i64 e4, .int .i64 e5, .int .i64 e6, .int .i64 e7, .int .i64 e8, .int .i64 e9, .int .i64 e10, .int .i64 e11, .string e12, .string e13, .int .i64 e14, .int .i64 e15, .int .i64 e16, .int .i64 e17, .slice ea em ec] 86)))
      have cA := HAd.out.bx.cell 4
      have cB := HAb.out.bx.cell 4
      simp only [gB] at cA cB
      have cF : (World.drew (wq.alloc (.cells #[.int .i64 e1, .int .i64 e2, .int .i64 e3, .int .i64 e4, .int .i64 e5, .int .i64 e6, .int .i64 e7, .int .i64 e8, .int .i64 e9, .int .i64 e10, .int .i64 e11, .string e12, .string e13, .int .i64 e14, .int .i64 e15, .int .i64 e16, .int .i64 e17, .slice ea em ec] 86))).cell? ⟨X.heap.size, 4, none⟩ = some (.slice aZ nZ cZ) := cB
      have HOw := Hd HAb.out.ow
      have hbigW := HAq.out.big
      refine wp_region_held_drew (S := fun w' => Below w.heap.size w w' ∧ Bk w' w.heap.size 41 [.int .i64 x0, .slice a1 k1 c1, .slice a2 k2 c2, .slice a3 k3 c3, .slice (some ⟨g, off, none⟩) NL cL] ∧ (∀ (j : Nat) (v : Value), ([.int .i64 e1, .int .i64 e2, .int .i64 e3, .int .i64 e4, .int .i64 e5, .int .i64 e6, .int .i64 e7, .int .i64 e8, .int .i64 e9, .int .i64 e10, .int .i64 e11, .string e12, .string e13, .int .i64 e14, .int .i64 e15, .int .i64 e16, .int .i64 e17, .slice ea em ec] : List Value)[j]? = some v → w'.cell? ⟨g, off + k * 18 + j, none⟩ = some v)) (by kernel_rfl) ?_ (fun hHeld => ?_)
      ·(first | exact hS7 | exact hS6 | exact ⟨HAb.out.lo, HAb.out.b2, fun j v hv => (HAb.out.lo.cell (p := ⟨g, off + k * 18 + j, none⟩) HG.out).trans (HCw.out j v hv)⟩ | exact ⟨HAd.out.lo, HAd.out.b2, fun j v hv => (HAd.out.lo.cell (p := ⟨g, off + k * 18 + j, none⟩) HG.out).trans (HCw.out j v hv)⟩)
      refine tkA 0 (v := ?_) ?_ ?_
      rotate_left
      ·(intro w hSw; (try dsimp only at hSw); go_simp; try rfl)
      try simp only [Act.put, gA]
      refine tkA 2 (v := ?_) ?_ ?_
      rotate_left
      ·(intro w hSw; (try dsimp only at hSw); go_simp; try rfl)
      try simp only [Act.put, gA]
      refine tkA 3 (v := ?_) ?_ ?_
      rotate_left
      ·(intro w' hSw; have t4 := hSw.2.1.cell 4; simp only [gB] at t4; clear hSw; go_simp; try rfl)
      try simp only [Act.put, gA]
      refine tkA 4 (v := ?_) ?_ ?_
      rotate_left
      ·(intro w hSw; (try dsimp only at hSw); go_simp; try rfl)
      try simp only [Act.put, gA]
      refine tkA 5 (v := ?_) ?_ ?_
      rotate_left
      ·(intro w hSw; (try dsimp only at hSw); go_simp; try rfl)
      try simp only [Act.put, gA]
      refine tkA 6 (v := ?_) ?_ ?_
      rotate_left
      ·(intro w' hSw; refine Eq.trans (take_load_at 86 _ rfl ⟨g, off + k * 18, none⟩ rfl [.int .i64 e1, .int .i64 e2, .int .i64 e3, .int .i64 e4, .int .i64 e5, .int .i64 e6, .int .i64 e7, .int .i64 e8, .int .i64 e9, .int .i64 e10, .int .i64 e11, .string e12, .string e13, .int .i64 e14, .int .i64 e15, .int .i64 e16, .int .i64 e17, .slice ea em ec] _ (fun j v hv => by rw [addr_add]; exact hSw.2.2 j v hv) Tryz.underlying86 rfl (by kernel_rfl)) ?_; rfl)
      try simp only [Act.put, gA]
      refine wpAnyH_ready (rs := [1, 7]) (by kernel_rfl) (by simp) ?_
      refine (AllReadyH.cons rfl (fun K hK => ?_) (AllReadyH.cons rfl (fun K hK => ?_) AllReadyH.nil))
      ·go_simp
       refine hK.out _ _ ?_ (fun hHeld => ?_)
       ·(first | exact hS7 | exact hS6 | exact ⟨HAb.out.lo, HAb.out.b2, fun j v hv => (HAb.out.lo.cell (p := ⟨g, off + k * 18 + j, none⟩) HG.out).trans (HCw.out j v hv)⟩ | exact ⟨HAd.out.lo, HAd.out.b2, fun j v hv => (HAd.out.lo.cell (p := ⟨g, off + k * 18 + j, none⟩) HG.out).trans (HCw.out j v hv)⟩)
       clear hK K
       try simp only [Act.put, gA]
       refine wpAnyH_ready (rs := [7]) (by kernel_rfl) (by simp) ?_
       refine (AllReadyH.cons rfl (fun K hK => ?_) AllReadyH.nil)
       go_simp
       refine hK.out _ _ ?_ (fun hHeld => ?_)
       ·(first | exact hS7 | exact hS6 | exact ⟨HAb.out.lo, HAb.out.b2, fun j v hv => (HAb.out.lo.cell (p := ⟨g, off + k * 18 + j, none⟩) HG.out).trans (HCw.out j v hv)⟩ | exact ⟨HAd.out.lo, HAd.out.b2, fun j v hv => (HAd.out.lo.cell (p := ⟨g, off + k * 18 + j, none⟩) HG.out).trans (HCw.out j v hv)⟩)
       clear hK K
       try simp only [Act.put, gA]
       refine wpAnyH_ready (rs := [8]) (by kernel_rfl) (by simp) ?_
       refine (AllReadyH.cons rfl (fun K hK => ?_) AllReadyH.nil)
       refine KO.step_appV rfl _ _ rfl (X.heap.size + 1) (.slice aZ nZ cZ) (Z) rfl HOw.out (.slice (some ⟨wq.heap.size, 0, none⟩) 1 1) ((((e1, e2, e3), (e4, (e5, e6), (e7, e8), (e9, e10, e11, e12, e13, e14, e15, e16), e17, el)), (ea, em, ec)) : OV) rfl (KO.rd_boxAt ((((e1, e2, e3), (e4, (e5, e6), (e7, e8), (e9, e10, e11, e12, e13, e14, e15, e16), e17, el)), (ea, em, ec)) : OV) 86 1 wq.drew _ rfl) (by have := HLz.out; simp; omega) (by simp; omega) ?_
       intro v6 w6 ho6 hb6 hg6
       obtain ⟨aW, nW, cW, rfl⟩ : ∃ aW nW cW, v6 = .slice aW nW cW := by
        obtain ⟨a6, c6, e6⟩ := ho6.slice
        exact ⟨a6, _, c6, e6⟩
       have hx6 := HAb.out.bx.on hb6 (by omega)
       have cC := hx6.cell 4
       have fC := hx6.fz 4
       simp only [gB] at cC
       have hlo6 : Below w.heap.size w w6 := HAb.out.lo.trans (hb6.mono (by omega))
       have hS6 : Below w.heap.size w w6 ∧ Bk w6 w.heap.size 41 [.int .i64 x0, .slice a1 k1 c1, .slice a2 k2 c2, .slice a3 k3 c3, .slice (some ⟨g, off, none⟩) NL cL] ∧ (∀ (j : Nat) (v : Value), ([.int .i64 e1, .int .i64 e2, .int .i64 e3, .int .i64 e4, .int .i64 e5, .int .i64 e6, .int .i64 e7, .int .i64 e8, .int .i64 e9, .int .i64 e10, .int .i64 e11, .string e12, .string e13, .int .i64 e14, .int .i64 e15, .int .i64 e16, .int .i64 e17, .slice ea em ec] : List Value)[j]? = some v → w6.cell? ⟨g, off + k * 18 + j, none⟩ = some v) := ⟨hlo6, HAb.out.b2.on hb6 (by omega), fun j v hv => (hlo6.cell (p := ⟨g, off + k * 18 + j, none⟩) HG.out).trans (HCw.out j v hv)⟩
       have HA7 := Hd (HAb.out.app ho6 hb6 rfl)
       have hS7 : Below w.heap.size w _ ∧ Bk _ w.heap.size 41 [.int .i64 x0, .slice a1 k1 c1, .slice a2 k2 c2, .slice a3 k3 c3, .slice (some ⟨g, off, none⟩) NL cL] ∧ (∀ (j : Nat) (v : Value), ([.int .i64 e1, .int .i64 e2, .int .i64 e3, .int .i64 e4, .int .i64 e5, .int .i64 e6, .int .i64 e7, .int .i64 e8, .int .i64 e9, .int .i64 e10, .int .i64 e11, .string e12, .string e13, .int .i64 e14, .int .i64 e15, .int .i64 e16, .int .i64 e17, .slice ea em ec] : List Value)[j]? = some v → (w6.setCell ⟨X.heap.size, 4, none⟩ (.slice aW nW cW)).cell? ⟨g, off + k * 18 + j, none⟩ = some v) := ⟨HA7.out.lo, HA7.out.b2, fun j v hv => (HA7.out.lo.cell (p := ⟨g, off + k * 18 + j, none⟩) HG.out).trans (HCw.out j v hv)⟩
       clear ho6 hb6 hg6 hx6 hlo6 cA cB cF
       refine hK.out _ _ ?_ (fun hHeld => ?_)
       ·(first | exact hS7 | exact hS6 | exact ⟨HAb.out.lo, HAb.out.b2, fun j v hv => (HAb.out.lo.cell (p := ⟨g, off + k * 18 + j, none⟩) HG.out).trans (HCw.out j v hv)⟩ | exact ⟨HAd.out.lo, HAd.out.b2, fun j v hv => (HAd.out.lo.cell (p := ⟨g, off + k * 18 + j, none⟩) HG.out).trans (HCw.out j v hv)⟩)
       clear hK K
       try simp only [Act.put, gA]
       refine tkA 9 (v := ?_) ?_ ?_
       rotate_left
       ·(intro w hSw; (try dsimp only at hSw); go_simp; try rfl)
       try simp only [Act.put, gA]
       refine wpAnyH_ready (rs := [10]) (by kernel_rfl) (by simp) ?_
       refine (AllReadyH.cons rfl (fun K hK => ?_) AllReadyH.nil)
       go_simp
       refine hK.out _ _ ?_ (fun hHeld => ?_)
       ·(first | exact hS7 | exact hS6 | exact ⟨HAb.out.lo, HAb.out.b2, fun j v hv => (HAb.out.lo.cell (p := ⟨g, off + k * 18 + j, none⟩) HG.out).trans (HCw.out j v hv)⟩ | exact ⟨HAd.out.lo, HAd.out.b2, fun j v hv => (HAd.out.lo.cell (p := ⟨g, off + k * 18 + j, none⟩) HG.out).trans (HCw.out j v hv)⟩)
       clear hK K
       try simp only [Act.put, gA]
       refine wpAnyH_done (by kernel_rfl) ?_ _
       clear hHeld
       clear hS6 hS7 cC fC HOw HAd HAb
       go_wp2_with fail
       go_roundw
       case rel => exact ⟨k + 1, Z ++ [((((e1, e2, e3), (e4, (e5, e6), (e7, e8), (e9, e10, e11, e12, e13, e14, e15, e16), e17, el)), (ea, em, ec)) : OV)], false, aW, nW, cW, by omega, by first | rfl | simp, by go_num, Hd (by rw [HFn.out]; unfold insS; simp [kO, hlt9, heq9, ltI_irrefl]), HA7⟩
       case measure => simp [intOf]; omega
      ·go_simp
       refine hK.out _ _ ?_ (fun hHeld => ?_)
       ·(first | exact hS7 | exact hS6 | exact ⟨HAb.out.lo, HAb.out.b2, fun j v hv => (HAb.out.lo.cell (p := ⟨g, off + k * 18 + j, none⟩) HG.out).trans (HCw.out j v hv)⟩ | exact ⟨HAd.out.lo, HAd.out.b2, fun j v hv => (HAd.out.lo.cell (p := ⟨g, off + k * 18 + j, none⟩) HG.out).trans (HCw.out j v hv)⟩)
       clear hK K
       try simp only [Act.put, gA]
       refine wpAnyH_ready (rs := [1]) (by kernel_rfl) (by simp) ?_
       refine (AllReadyH.cons rfl (fun K hK => ?_) AllReadyH.nil)
       go_simp
       refine hK.out _ _ ?_ (fun hHeld => ?_)
       ·(first | exact hS7 | exact hS6 | exact ⟨HAb.out.lo, HAb.out.b2, fun j v hv => (HAb.out.lo.cell (p := ⟨g, off + k * 18 + j, none⟩) HG.out).trans (HCw.out j v hv)⟩ | exact ⟨HAd.out.lo, HAd.out.b2, fun j v hv => (HAd.out.lo.cell (p := ⟨g, off + k * 18 + j, none⟩) HG.out).trans (HCw.out j v hv)⟩)
       clear hK K
       try simp only [Act.put, gA]
       refine wpAnyH_ready (rs := [8]) (by kernel_rfl) (by simp) ?_
       refine (AllReadyH.cons rfl (fun K hK => ?_) AllReadyH.nil)
       refine KO.step_appV rfl _ _ rfl (X.heap.size + 1) (.slice aZ nZ cZ) (Z) rfl HOw.out (.slice (some ⟨wq.heap.size, 0, none⟩) 1 1) ((((e1, e2, e3), (e4, (e5, e6), (e7, e8), (e9, e10, e11, e12, e13, e14, e15, e16), e17, el)), (ea, em, ec)) : OV) rfl (KO.rd_boxAt ((((e1, e2, e3), (e4, (e5, e6), (e7, e8), (e9, e10, e11, e12, e13, e14, e15, e16), e17, el)), (ea, em, ec)) : OV) 86 1 wq.drew _ rfl) (by have := HLz.out; simp; omega) (by simp; omega) ?_
       intro v6 w6 ho6 hb6 hg6
       obtain ⟨aW, nW, cW, rfl⟩ : ∃ aW nW cW, v6 = .slice aW nW cW := by
        obtain ⟨a6, c6, e6⟩ := ho6.slice
        exact ⟨a6, _, c6, e6⟩
       have hx6 := HAb.out.bx.on hb6 (by omega)
       have cC := hx6.cell 4
       have fC := hx6.fz 4
       simp only [gB] at cC
       have hlo6 : Below w.heap.size w w6 := HAb.out.lo.trans (hb6.mono (by omega))
       have hS6 : Below w.heap.size w w6 ∧ Bk w6 w.heap.size 41 [.int .i64 x0, .slice a1 k1 c1, .slice a2 k2 c2, .slice a3 k3 c3, .slice (some ⟨g, off, none⟩) NL cL] ∧ (∀ (j : Nat) (v : Value), ([.int .i64 e1, .int .i64 e2, .int .i64 e3, .int .i64 e4, .int .i64 e5, .int .i64 e6, .int .i64 e7, .int .i64 e8, .int .i64 e9, .int .i64 e10, .int .i64 e11, .string e12, .string e13, .int .i64 e14, .int .i64 e15, .int .i64 e16, .int .i64 e17, .slice ea em ec] : List Value)[j]? = some v → w6.cell? ⟨g, off + k * 18 + j, none⟩ = some v) := ⟨hlo6, HAb.out.b2.on hb6 (by omega), fun j v hv => (hlo6.cell (p := ⟨g, off + k * 18 + j, none⟩) HG.out).trans (HCw.out j v hv)⟩
       have HA7 := Hd (HAb.out.app ho6 hb6 rfl)
       have hS7 : Below w.heap.size w _ ∧ Bk _ w.heap.size 41 [.int .i64 x0, .slice a1 k1 c1, .slice a2 k2 c2, .slice a3 k3 c3, .slice (some ⟨g, off, none⟩) NL cL] ∧ (∀ (j : Nat) (v : Value), ([.int .i64 e1, .int .i64 e2, .int .i64 e3, .int .i64 e4, .int .i64 e5, .int .i64 e6, .int .i64 e7, .int .i64 e8, .int .i64 e9, .int .i64 e10, .int .i64 e11, .string e12, .string e13, .int .i64 e14, .int .i64 e15, .int .i64 e16, .int .i64 e17, .slice ea em ec] : List Value)[j]? = some v → (w6.setCell ⟨X.heap.size, 4, none⟩ (.slice aW nW cW)).cell? ⟨g, off + k * 18 + j, none⟩ = some v) := ⟨HA7.out.lo, HA7.out.b2, fun j v hv => (HA7.out.lo.cell (p := ⟨g, off + k * 18 + j, none⟩) HG.out).trans (HCw.out j v hv)⟩
       clear ho6 hb6 hg6 hx6 hlo6 cA cB cF
       refine hK.out _ _ ?_ (fun hHeld => ?_)
       ·(first | exact hS7 | exact hS6 | exact ⟨HAb.out.lo, HAb.out.b2, fun j v hv => (HAb.out.lo.cell (p := ⟨g, off + k * 18 + j, none⟩) HG.out).trans (HCw.out j v hv)⟩ | exact ⟨HAd.out.lo, HAd.out.b2, fun j v hv => (HAd.out.lo.cell (p := ⟨g, off + k * 18 + j, none⟩) HG.out).trans (HCw.out j v hv)⟩)
       clear hK K
       try simp only [Act.put, gA]
       refine tkA 9 (v := ?_) ?_ ?_
       rotate_left
       ·(intro w hSw; (try dsimp only at hSw); go_simp; try rfl)
       try simp only [Act.put, gA]
       refine wpAnyH_ready (rs := [10]) (by kernel_rfl) (by simp) ?_
       refine (AllReadyH.cons rfl (fun K hK => ?_) AllReadyH.nil)
       go_simp
       refine hK.out _ _ ?_ (fun hHeld => ?_)
       ·(first | exact hS7 | exact hS6 | exact ⟨HAb.out.lo, HAb.out.b2, fun j v hv => (HAb.out.lo.cell (p := ⟨g, off + k * 18 + j, none⟩) HG.out).trans (HCw.out j v hv)⟩ | exact ⟨HAd.out.lo, HAd.out.b2, fun j v hv => (HAd.out.lo.cell (p := ⟨g, off + k * 18 + j, none⟩) HG.out).trans (HCw.out j v hv)⟩)
       clear hK K
       try simp only [Act.put, gA]
       refine wpAnyH_done (by kernel_rfl) ?_ _
       clear hHeld
       clear hS6 hS7 cC fC HOw HAd HAb
       go_wp2_with fail
       go_roundw
       case rel => exact ⟨k + 1, Z ++ [((((e1, e2, e3), (e4, (e5, e6), (e7, e8), (e9, e10, e11, e12, e13, e14, e15, e16), e17, el)), (ea, em, ec)) : OV)], false, aW, nW, cW, by omega, by first | rfl | simp, by go_num, Hd (by rw [HFn.out]; unfold insS; simp [kO, hlt9, heq9, ltI_irrefl]), HA7⟩
       case measure => simp [intOf]; omega
  ·have hlt' : ¬ (k : Int) < (NL : Int) := by omega
   obtain rfl : k = NL := by omega
   have hll : l.take k = l := by rw [← HNL.out]; exact List.take_length
   rw [hll] at HF
   have HLz := Hd (show Z.length ≤ 2000 by
    have h1 := insS_len kO ((((n1, n2, n3), (n4, (n5, n6), (n7, n8), (n9, n10, n11, n12, n13, n14, n15, n16), n17, l18)), (a18, m18, p18)) : OV) l ([], false)
    rw [HF.out] at h1
    have := HNl1.out
    simp at h1
    omega)
   have HMm : Hid (∀ W'' : World, Dp W'' ((((n1, n2, n3), (n4, (n5, n6), (n7, n8), (n9, n10, n11, n12, n13, n14, n15, n16), n17, l18)), (a18, m18, p18)) : OV) → (∀ e ∈ l, Dp W'' e) → ∀ e ∈ Z, Dp W'' e) := Hd (fun W'' h1 h2 => by
    have h := insS_mem kO ((((n1, n2, n3), (n4, (n5, n6), (n7, n8), (n9, n10, n11, n12, n13, n14, n15, n16), n17, l18)), (a18, m18, p18)) : OV) (Dp W'') h1 l ([], false) h2 (fun e he => by cases he)
    rw [HF.out] at h
    exact h)
   clear hll
   cases d with
   | true =>
    have hRR : insR kO ((((n1, n2, n3), (n4, (n5, n6), (n7, n8), (n9, n10, n11, n12, n13, n14, n15, n16), n17, l18)), (a18, m18, p18)) : OV) l = Z := by unfold insR; rw [HF.out]; rfl
    have HRR := Hd hRR
    clear hRR
    have hA := HA.out
    have hbigA := hA.big
    obtain ⟨w9, hw9⟩ : ∃ q, wr.setRow (w.heap.size + 1 + 1) #[.int .i64 x0, .slice a1 k1 c1, .slice a2 k2 c2, .slice a3 k3 c3, .slice aZ nZ cZ] = q := ⟨_, rfl⟩
    have hrow9 : w9.heap[w.heap.size + 1 + 1]? = some (.cells #[.int .i64 x0, .slice a1 k1 c1, .slice a2 k2 c2, .slice a3 k3 c3, .slice aZ nZ cZ] 41 (0, 0)) := by rw [← hw9]; exact heap_setRow_same _ _ #[.int .i64 0, .slice none 0 0, .slice none 0 0, .slice none 0 0, .slice none 0 0] _ _ hA.b4
    have HLv := Hd (run_loadVar_row (P := Tryz.prog) w9 _ _ 41 #[.int .i64 x0, .slice a1 k1 c1, .slice a2 k2 c2, .slice a3 k3 c3, .slice aZ nZ cZ] (0, 0) _ hrow9 Tryz.underlying41 rfl HI5.out)
    have hsx9 : Sx (w.heap.size + 1 + 1) (wr) w9 := by rw [← hw9]; exact sx_setRow _ _ _
    have HBe : Hid (Below w.heap.size w w9) := Hd (by rw [← hw9]; exact below_setRow hA.lo (by omega) _)
    have HOld := Hd hA.b4
    have HW9 := Hd hw9
    have HOw := Hd (show KO.Own w9 (X.heap.size + 1) (.slice aZ nZ cZ) Z from hA.ow.keepB (fun i hi => hsx9.block i (by have := hA.ow.from i hi; omega)))
    have HBx := Hd hA.bx
    clear hw9 hrow9 hsx9 hA
    go_upto_region 19 with fail
    go_wp2_with (first | refine wpList_load_rowG rfl _ _ rfl X.heap.size rfl 41 #[.int .i64 x0, .slice a1 k1 c1, .slice a2 k2 c2, .slice a3 k3 c3, .slice aZ nZ cZ] (0, 0) _ HBx.out Tryz.underlying41 rfl HI5.out ?_ | refine wpList_store_rnA rfl 41 _ _ rfl (w.heap.size + 1 + 1) rfl #[.int .i64 x0, .slice a1 k1 c1, .slice a2 k2 c2, .slice a3 k3 c3, .slice aZ nZ cZ] rfl #[.int .i64 0, .slice none 0 0, .slice none 0 0, .slice none 0 0, .slice none 0 0] 41 HOld.out HI5.out rfl (by rw [← Array.all_toList]; rfl) HW9.out ?_)
    have hlv := HLv.out
    exact bodyPost_ret (v := .agg #[.int .i64 x0, .slice a1 k1 c1, .slice a2 k2 c2, .slice a3 k3 c3, .slice aZ nZ cZ]) (by simp [results, Tryz.results23, asAddr, Act.put, hlv]) rfl ⟨#[.int .i64 x0, .slice a1 k1 c1, .slice a2 k2 c2, .slice a3 k3 c3, .slice aZ nZ cZ], Z, Hd rfl, fun w'' hS hR hk => ⟨⟨_, _, _, _, by rw [HX0.out], RS.sn hS, (HOw.out.keepB (fun i hi => hk i (by have := HOw.out.from i hi; have := HXz.out; omega) (HOw.out.blk i hi).1)).rd⟩, fun e he => HMm.out w'' (rec_read hR).2 hS.dep e he⟩, by rw [HRR.out], HBe.out⟩
   | false =>
    have hRR : insR kO ((((n1, n2, n3), (n4, (n5, n6), (n7, n8), (n9, n10, n11, n12, n13, n14, n15, n16), n17, l18)), (a18, m18, p18)) : OV) l = Z ++ [((((n1, n2, n3), (n4, (n5, n6), (n7, n8), (n9, n10, n11, n12, n13, n14, n15, n16), n17, l18)), (a18, m18, p18)) : OV)] := by unfold insR; rw [HF.out]; rfl
    have HRR := Hd hRR
    clear hRR
    have hx0 := HA.out
    have cD := hx0.bx.cell 4
    simp only [gB] at cD
    have u1 := hx0.b3.cell 1
    have u2 := hx0.b3.cell 2
    have u3 := hx0.b3.cell 3
    have u4 := hx0.b3.cell 4
    have u5 := hx0.b3.cell 5
    have u6 := hx0.b3.cell 6
    have u7 := hx0.b3.cell 7
    have u8 := hx0.b3.cell 8
    have u9 := hx0.b3.cell 9
    have u10 := hx0.b3.cell 10
    have u11 := hx0.b3.cell 11
    have u12 := hx0.b3.cell 12
    have u13 := hx0.b3.cell 13
    have u14 := hx0.b3.cell 14
    have u15 := hx0.b3.cell 15
    have u16 := hx0.b3.cell 16
    have u17 := hx0.b3.cell 17
    have u18 := hx0.b3.cell 18
    simp only [gB] at u1 u2 u3 u4 u5 u6 u7 u8 u9 u10 u11 u12 u13 u14 u15 u16 u17 u18
    have hbig0 := hx0.big
    have HAw := Hd (HA.out.under ((Below.refl _ _).alloc (Nat.le_refl _) (.cells #[.int .i64 n1, .int .i64 n2, .int .i64 n3, .int .i64 n4, .int .i64 n5, .int .i64 n6, .int .i64 n7, .int .i64 n8, .int .i64 n9, .int .i64 n10, .int .i64 n11, .string n12, .string n13, .int .i64 n14, .int .i64 n15, .int .i64 n16, .int .i64 n17, .slice a18 m18 p18] 86)))
    clear hx0
    go_wp2_with (refine KO.app rfl _ _ rfl (X.heap.size + 1) (.slice aZ nZ cZ) Z rfl HAw.out.ow (.slice (some ⟨wr.heap.size, 0, none⟩) 1 1) [((((n1, n2, n3), (n4, (n5, n6), (n7, n8), (n9, n10, n11, n12, n13, n14, n15, n16), n17, l18)), (a18, m18, p18)) : OV)] rfl (KO.rd_boxAt ((((n1, n2, n3), (n4, (n5, n6), (n7, n8), (n9, n10, n11, n12, n13, n14, n15, n16), n17, l18)), (a18, m18, p18)) : OV) 86 1 wr _ rfl) (by have := HLz.out; simp; omega) (by simp; omega) ?_)
    intro v4 w4 ho4 hb4 hg4 _
    obtain ⟨aN, nN, cN, rfl⟩ : ∃ aN nN cN, v4 = .slice aN nN cN := by
     obtain ⟨aN, cN, e6⟩ := ho4.slice
     exact ⟨aN, _, cN, e6⟩
    have hx4 := HAw.out.bx.on hb4 (by omega)
    have cE := hx4.cell 4
    have fE := hx4.fz 4
    simp only [gB] at cE
    obtain ⟨w5, hw5⟩ : ∃ q, w4.setCell ⟨X.heap.size, 4, none⟩ (.slice aN nN cN) = q := ⟨_, rfl⟩
    have HA5 := Hd (HAw.out.app ho4 hb4 hw5)
    clear ho4 hb4 hg4 hx4 cD u1 u2 u3 u4 u5 u6 u7 u8 u9 u10 u11 u12 u13 u14 u15 u16 u17 u18
    go_upto_region 19 with fail
    clear hw5 cE fE HAw
    have hA := HA5.out
    have hbigA := hA.big
    obtain ⟨w9, hw9⟩ : ∃ q, w5.setRow (w.heap.size + 1 + 1) #[.int .i64 x0, .slice a1 k1 c1, .slice a2 k2 c2, .slice a3 k3 c3, .slice aN nN cN] = q := ⟨_, rfl⟩
    have hrow9 : w9.heap[w.heap.size + 1 + 1]? = some (.cells #[.int .i64 x0, .slice a1 k1 c1, .slice a2 k2 c2, .slice a3 k3 c3, .slice aN nN cN] 41 (0, 0)) := by rw [← hw9]; exact heap_setRow_same _ _ #[.int .i64 0, .slice none 0 0, .slice none 0 0, .slice none 0 0, .slice none 0 0] _ _ hA.b4
    have HLv := Hd (run_loadVar_row (P := Tryz.prog) w9 _ _ 41 #[.int .i64 x0, .slice a1 k1 c1, .slice a2 k2 c2, .slice a3 k3 c3, .slice aN nN cN] (0, 0) _ hrow9 Tryz.underlying41 rfl HI5.out)
    have hsx9 : Sx (w.heap.size + 1 + 1) (w5) w9 := by rw [← hw9]; exact sx_setRow _ _ _
    have HBe : Hid (Below w.heap.size w w9) := Hd (by rw [← hw9]; exact below_setRow hA.lo (by omega) _)
    have HOld := Hd hA.b4
    have HW9 := Hd hw9
    have HOw := Hd (show KO.Own w9 (X.heap.size + 1) (.slice aN nN cN) (Z ++ [((((n1, n2, n3), (n4, (n5, n6), (n7, n8), (n9, n10, n11, n12, n13, n14, n15, n16), n17, l18)), (a18, m18, p18)) : OV)]) from hA.ow.keepB (fun i hi => hsx9.block i (by have := hA.ow.from i hi; omega)))
    have HBx := Hd hA.bx
    clear hw9 hrow9 hsx9 hA
    go_wp2_with (first | refine wpList_load_rowG rfl _ _ rfl X.heap.size rfl 41 #[.int .i64 x0, .slice a1 k1 c1, .slice a2 k2 c2, .slice a3 k3 c3, .slice aN nN cN] (0, 0) _ HBx.out Tryz.underlying41 rfl HI5.out ?_ | refine wpList_store_rnA rfl 41 _ _ rfl (w.heap.size + 1 + 1) rfl #[.int .i64 x0, .slice a1 k1 c1, .slice a2 k2 c2, .slice a3 k3 c3, .slice aN nN cN] rfl #[.int .i64 0, .slice none 0 0, .slice none 0 0, .slice none 0 0, .slice none 0 0] 41 HOld.out HI5.out rfl (by rw [← Array.all_toList]; rfl) HW9.out ?_)
    have hlv := HLv.out
    exact bodyPost_ret (v := .agg #[.int .i64 x0, .slice a1 k1 c1, .slice a2 k2 c2, .slice a3 k3 c3, .slice aN nN cN]) (by simp [results, Tryz.results23, asAddr, Act.put, hlv]) rfl ⟨#[.int .i64 x0, .slice a1 k1 c1, .slice a2 k2 c2, .slice a3 k3 c3, .slice aN nN cN], Z ++ [((((n1, n2, n3), (n4, (n5, n6), (n7, n8), (n9, n10, n11, n12, n13, n14, n15, n16), n17, l18)), (a18, m18, p18)) : OV)], Hd rfl, fun w'' hS hR hk => ⟨⟨_, _, _, _, by rw [HX0.out], RS.sn hS, (HOw.out.keepB (fun i hi => hk i (by have := HOw.out.from i hi; have := HXz.out; omega) (HOw.out.blk i hi).1)).rd⟩, fun e he => by
     rcases List.mem_append.1 he with he | he
     ·exact HMm.out w'' (rec_read hR).2 hS.dep e he
     ·rw [List.mem_singleton.1 he]; exact (rec_read hR).2⟩, by rw [HRR.out], HBe.out⟩
end Go.Proofs.YtnancdbkmompdaaGreat
