/-
  Graph: GraphReach.
-/
import Derived.Test.YtlckjpjcfalfnaaLc
namespace Go.Proofs.Ytlckjpjcfalfnaa
open Go.RowKit Go.Sort
open Go.WideMaps
set_option linter.unusedSimpArgs false
set_option linter.unusedVariables false
set_option maxRecDepth 100000

set_option maxHeartbeats 16000000 in
theorem reach_law {w : World} {v vd : Value} {nv : List NV} {dn : List I3} (h : NRow w v nv) (hd : IK.Rd w vd dn) (ho : okL dn) (a1 a2 a3 : Int) (ha : okI (a1, a2, a3)) :
    Calls Try.prog 7 #[v, .agg #[.int .i64 a1, .int .i64 a2, .int .i64 a3], vd] w fun e w' => e = .returned (.bool true) ∧ Below w.heap.size w w' := by
  obtain ⟨z0, hz0⟩ : ∃ q, w.heap.size = q := ⟨_, rfl⟩
  obtain ⟨X, hX⟩ : ∃ q, w.alloc (.cells #[.int .i64 a1, .int .i64 a2, .int .i64 a3] 25) = q := ⟨_, rfl⟩
  have HX0 : Hid (Below w.heap.size w X) := Lib.hid (by rw [← hX]; exact (Below.refl _ _).alloc (Nat.le_refl _) _)
  have HA0 : Hid (Bk X z0 25 [.int .i64 a1, .int .i64 a2, .int .i64 a3]) := Lib.hid (by rw [← hX]; exact Bk.newAg hz0 _ [.int .i64 a1, .int .i64 a2, .int .i64 a3])
  have HXe := Lib.hid hX
  have HAo := Lib.hid ha
  clear hX ha
  go_enter Try.func7, Try.ntmps7
  go_wp2_with fail
  try rw [HXe.out]
  clear HXe
  refine (works_any _).mono ?_
  rintro e w1 ⟨rfl, hb⟩
  have HX1 : Hid (Below w.heap.size w w1) := Lib.hid (HX0.out.trans (hb.mono HX0.out.size))
  have HA1 : Hid (Bk w1 z0 25 [.int .i64 a1, .int .i64 a2, .int .i64 a3]) := Lib.hid (Bk.below HA0.out hb)
  clear HA0
  have HOv := Lib.hid (over_any (h.below HX1.out) (hd.below HX1.out))
  obtain ⟨B, hB⟩ : ∃ q, overB nv dn = q := ⟨_, rfl⟩
  rw [hB] at HOv
  have HR := Lib.hid h
  have HD := Lib.hid hd
  have HO := Lib.hid ho
  obtain ⟨av, cv, hvv, _, _⟩ := h.el
  obtain ⟨a2', c2', hvd⟩ := hd.slice
  subst hvd
  subst hvv
  have HBo := Lib.hid hB
  clear hb h hd ho hB HX0
  go_wp2_with fail
  refine HOv.out.mono ?_
  rintro e w2 ⟨rfl, hb⟩
  have HX2 : Hid (Below w.heap.size w w2) := Lib.hid (HX1.out.trans (hb.mono HX1.out.size))
  have HA2 := Lib.hid (Bk.below HA1.out hb)
  clear hb HOv HX1 HA1
  cases B with
  | true =>
    go_wp2
    go_ret
    exact ⟨rfl, HX2.out⟩
  | false =>
  have HFw := Lib.hid (fw_of HBo.out)
  have HVa := Lib.hid (gvalid_any (HR.out.below HX2.out) (by have := HFw.out.few; omega))
  obtain ⟨V, hV⟩ : ∃ q, decide (nv.length ≤ 1024 ∧ (nv.map (·.d.id)).Nodup) = q := ⟨_, rfl⟩
  rw [hV] at HVa
  have HVe := Lib.hid hV
  clear hV HBo
  go_wp2_with fail
  refine HVa.out.mono ?_
  rintro e w3 ⟨rfl, hb⟩
  have HX3 : Hid (Below w.heap.size w w3) := Lib.hid (HX2.out.trans (hb.mono HX2.out.size))
  have HA3 := Lib.hid (Bk.below HA2.out hb)
  clear hb HVa HX2 HA2
  cases V with
  | false =>
    go_wp2
    go_ret
    exact ⟨rfl, HX3.out⟩
  | true =>
  have HG : Hid (GrIn w (.slice av nv.length cv) (.slice a2' dn.length c2') nv dn) := Lib.hid ⟨HR.out, HD.out, HO.out, HFw.out, (of_decide_eq_true HVe.out).2⟩
  obtain ⟨Nv, hNv⟩ : ∃ q, nv.length = q := ⟨_, rfl⟩
  have hNv14 : Nv ≤ 14 := by rw [← hNv]; exact HFw.out.few
  rw [hNv] at HG
  have HNv := Lib.hid hNv
  try rw [hNv]
  clear hNv HR HD HO HVe
  obtain ⟨Nd, hNd⟩ : ∃ q, dn.length = q := ⟨_, rfl⟩
  have hNd14 : Nd ≤ 14 := by rw [← hNd]; exact HFw.out.over
  rw [hNd] at HG
  have HNd := Lib.hid hNd
  try rw [hNd]
  clear hNd
  have r0 := Bk.cell HA3.out 0
  have r1 := Bk.cell HA3.out 1
  have r2 := Bk.cell HA3.out 2
  simp only [List.getElem?_cons_zero, List.getElem?_cons_succ] at r0 r1 r2
  have HRe := Lib.hid ((HG.out.below HX3.out).reach a1 a2 a3 HAo.out)
  go_upto_region 6 with fail
  go_wp2_with fail
  refine HRe.out.mono ?_
  rintro e w4 ⟨r, hr, hrl, hro, ar, cr, he, hrow, hb⟩
  rw [he.out]
  obtain ⟨Nr, hNr⟩ : ∃ q, r.length = q := ⟨_, rfl⟩
  rw [hNr] at hrow hrl ⊢
  have HR4 := Lib.hid hrow
  have HRm := Lib.hid hr
  have HRo := Lib.hid hro
  have HNr := Lib.hid hNr
  have HX4 := Lib.hid (HX3.out.trans (hb.mono HX3.out.size))
  clear he hr hro hNr hrow hb HRe r0 r1 r2 HA3 HX3
  go_wp2_with fail
  go_loopw [9] (fun i wr => ∃ (k : Nat), k ≤ Nr ∧ i = .int .i64 k ∧ Hid (Below w4.heap.size w4 wr)) (fun i _ => Nr - (intOf i).toNat)
  case atStart => exact ⟨0, Nat.zero_le _, rfl, Lib.hid (Below.refl _ _)⟩
  case round =>
  obtain ⟨k, hk, rfl, HB⟩ := hrel
  by_cases hkN : k < Nr
  · have hk1 : (k : Int) < (Nr : Int) := by omega
    have hk2 : decide ((k : Int) < (Nr : Int)) = true := decide_eq_true hk1
    have hk3 : decide (k < Nr) = true := decide_eq_true hkN
    have hkl : k < r.length := by rw [HNr.out]; exact hkN
    obtain ⟨x, hx⟩ : ∃ x, r[k] = x := ⟨_, rfl⟩
    have hxm : x ∈ r := by rw [← hx]; exact List.getElem_mem hkl
    have hxo := HRo.out x hxm
    have hxr := (HRm.out x).1 hxm
    obtain ⟨x1, x2, x3⟩ := x
    obtain ⟨gr, rfl, i0, i1, i2⟩ := row_at HR4.out HB.out k hkl hx
    have HRe := Lib.hid ((HG.out.below (HX4.out.trans (HB.out.mono HX4.out.size))).reach x1 x2 x3 hxo)
    have HXr := Lib.hid hxr
    clear hkl hx hxm hxo hxr
    go_wp2_with fail
    refine HRe.out.mono ?_
    rintro e w5 ⟨s, hs, hsl, hso, sa, sc, he, hrow, hb⟩
    rw [he.out]
    obtain ⟨Ns, hNs⟩ : ∃ q, s.length = q := ⟨_, rfl⟩
    rw [hNs] at hrow hsl ⊢
    have HS5 := Lib.hid hrow
    have HSm := Lib.hid hs
    have HNs := Lib.hid hNs
    have HB5 := Lib.hid (HB.out.trans (hb.mono HB.out.size))
    clear he hs hso hNs hrow hb HRe i0 i1 i2 HB hk1 hk2 hk3
    go_wp2_with fail
    go_loopw [11] (fun i wr => ∃ (q : Nat), q ≤ Ns ∧ i = .int .i64 q ∧ Hid (Below w5.heap.size w5 wr)) (fun i _ => Ns - (intOf i).toNat)
    case atStart => exact ⟨0, Nat.zero_le _, rfl, Lib.hid (Below.refl _ _)⟩
    case round =>
    obtain ⟨q, hq, rfl, HB2⟩ := hrel
    by_cases hqN : q < Ns
    · have hq1 : (q : Int) < (Ns : Int) := by omega
      have hq2 : decide ((q : Int) < (Ns : Int)) = true := decide_eq_true hq1
      have hq3 : decide (q < Ns) = true := decide_eq_true hqN
      have hql : q < s.length := by rw [HNs.out]; exact hqN
      obtain ⟨y, hy⟩ : ∃ y, s[q] = y := ⟨_, rfl⟩
      have hym : y ∈ s := by rw [← hy]; exact List.getElem_mem hql
      obtain ⟨y1, y2, y3⟩ := y
      obtain ⟨gs, rfl, i0, i1, i2⟩ := row_at HS5.out HB2.out q hql hy
      have HRw := Lib.hid (HR4.out.below (HB5.out.trans (HB2.out.mono HB5.out.size))).rd
      have hyr : (y1, y2, y3) ∈ r := (HRm.out _).2 (Rch.trans HXr.out ((HSm.out _).1 hym))
      have HYr := Lib.hid hyr
      clear hql hy hym hyr
      go_wp2_with fail
      refine (at_any HRw.out (by have := HNr.out; omega) _ _ _).mono ?_
      rintro e w6 ⟨z, rfl, hz, _, _, hb⟩
      have hz1 : ¬ z < 0 := fun r => hz.1 r HYr.out
      have hz2 : decide (z < 0) = false := decide_eq_false hz1
      have HB6 := Lib.hid (HB2.out.trans (hb.mono HB2.out.size))
      clear hz hb HB2 HRw HYr i0 i1 i2 hq1 hq2 hq3
      go_wp2_with fail
      go_roundw
      case rel => exact ⟨q + 1, by omega, by go_num, HB6⟩
      case measure => simp [intOf]; omega
    · obtain rfl : q = Ns := by omega
      have hq2 : decide ((q : Int) < (q : Int)) = false := decide_eq_false (by omega)
      have hq3 : decide (q < q) = false := decide_eq_false (by omega)
      go_wp2_with fail
      go_roundw
      case rel => exact ⟨k + 1, by omega, by go_num, Lib.hid (HB5.out.trans (HB2.out.mono HB5.out.size))⟩
      case measure => simp [intOf]; omega
  · obtain rfl : k = Nr := by omega
    have hk2 : decide ((k : Int) < (k : Int)) = false := decide_eq_false (by omega)
    have hk3 : decide (k < k) = false := decide_eq_false (by omega)
    have HX5 := Lib.hid (HX4.out.trans (HB.out.mono HX4.out.size))
    have HRy := Lib.hid (HG.out.none.below HX5.out).ready
    clear HR4 HRm HRo HNr HX4 HB hk2
    go_upto_region 16 with fail
    go_wp2_with fail
    refine HRy.out.mono ?_
    rintro e w6 ⟨c1, l1, hri1, _, hl1, hll1, hlo1, ar, cr1, he, hrow, hb⟩
    rw [he.out]
    obtain ⟨N1, hN1⟩ : ∃ q, l1.length = q := ⟨_, rfl⟩
    rw [hN1] at hrow hll1 ⊢
    have HR6 := Lib.hid hrow
    have HC1 := Lib.hid hri1
    have HL1 : Hid (∀ x, x ∈ l1 ↔ x ∈ keysV c1) := Lib.hid fun x => by rw [hl1]; exact mem_clnI _ _
    have HO1 := Lib.hid hlo1
    have HN1 := Lib.hid hN1
    have HX6 := Lib.hid (HX5.out.trans (hb.mono HX5.out.size))
    have HRy2 := Lib.hid (HG.out.below HX6.out).ready
    clear he hri1 hl1 hlo1 hN1 hrow hb HRy HX5
    go_wp2_with fail
    refine HRy2.out.mono ?_
    rintro e w7 ⟨c2, l2, hri2, _, hl2, hll2, hlo2, ar2, cr2, he, hrow, hb⟩
    rw [he.out]
    obtain ⟨N2, hN2⟩ : ∃ q, l2.length = q := ⟨_, rfl⟩
    rw [hN2] at hrow hll2 ⊢
    have HR7 := Lib.hid hrow
    have HR6' := Lib.hid (HR6.out.below hb)
    have HM2 : Hid (∀ x, x ∈ l1 → x ∉ dn → x ∈ l2) := Lib.hid fun x hx hn => by rw [hl2, mem_clnI]; exact rdy_more HC1.out hri2 ((HL1.out x).1 hx) hn
    have HN2 := Lib.hid hN2
    have HX7 := Lib.hid (HX6.out.trans (hb.mono HX6.out.size))
    clear he hri2 hl2 hlo2 hN2 hrow hb HRy2 HX6 HR6
    go_wp2_with fail
    go_loopw [14] (fun i wr => ∃ (k : Nat), k ≤ N1 ∧ i = .int .i64 k ∧ Hid (Below w7.heap.size w7 wr)) (fun i _ => N1 - (intOf i).toNat)
    case atStart => exact ⟨0, Nat.zero_le _, rfl, Lib.hid (Below.refl _ _)⟩
    case round =>
    clear hk hk3 hkN
    obtain ⟨k, hk, rfl, HB⟩ := hrel
    by_cases hkN : k < N1
    · have hk1 : (k : Int) < (N1 : Int) := by omega
      have hk2 : decide ((k : Int) < (N1 : Int)) = true := decide_eq_true hk1
      have hk3 : decide (k < N1) = true := decide_eq_true hkN
      have hkl : k < l1.length := by rw [HN1.out]; exact hkN
      obtain ⟨x, hx⟩ : ∃ x, l1[k] = x := ⟨_, rfl⟩
      have hxm : x ∈ l1 := by rw [← hx]; exact List.getElem_mem hkl
      have hxo := HO1.out x hxm
      have hxk := (HL1.out x).1 hxm
      obtain ⟨x1, x2, x3⟩ := x
      obtain ⟨gr, rfl, i0, i1, i2⟩ := row_at HR6'.out HB.out k hkl hx
      have i0' := fun W (hb : Below w7.heap.size w7 W) => row_at HR6'.out hb k hkl hx
      have HRc : Hid (∀ W, Below w7.heap.size w7 W → W.cell? ⟨gr, k * 3, none⟩ = some (.int .i64 x1) ∧ W.cell? ⟨gr, k * 3 + 1, none⟩ = some (.int .i64 x2) ∧ W.cell? ⟨gr, k * 3 + 2, none⟩ = some (.int .i64 x3)) := Lib.hid fun W hb => by
        obtain ⟨g', e, q⟩ := i0' W hb
        cases e
        exact q
      have HRd := Lib.hid (HG.out.don.below (HX7.out.trans (HB.out.mono HX7.out.size)))
      have HXm := Lib.hid hxm
      have HXo := Lib.hid hxo
      have HXk := Lib.hid hxk
      clear hkl hx hxm hxo hxk i0'
      go_wp2_with fail
      refine (at_any HRd.out (by rw [HNd.out]; omega) _ _ _).mono ?_
      rintro e w8 ⟨z, rfl, hz, _, _, hb⟩
      have HB8 := Lib.hid (HB.out.trans (hb.mono HB.out.size))
      have HZ := Lib.hid hz
      clear hz hb HRd HB i0 i1 i2
      obtain ⟨i0, i1, i2⟩ := HRc.out _ HB8.out
      by_cases hdn : (x1, x2, x3) ∈ dn
      · have hz1 : ¬ z < 0 := fun r => HZ.out.1 r hdn
        have hz2 : decide (z < 0) = false := decide_eq_false hz1
        clear HZ hdn
        have HRe := Lib.hid ((HG.out.below (HX7.out.trans (HB8.out.mono HX7.out.size))).reach x1 x2 x3 HXo.out)
        go_upto_region 23 with fail
        go_wp2_with fail
        refine HRe.out.mono ?_
        rintro e w5 ⟨s, hs, hsl, hso, sa, sc, he, hrow, hb⟩
        rw [he.out]
        obtain ⟨Ns, hNs⟩ : ∃ q, s.length = q := ⟨_, rfl⟩
        rw [hNs] at hrow hsl ⊢
        have HS5 := Lib.hid hrow
        have HSm := Lib.hid hs
        have HNs := Lib.hid hNs
        have HB5 := Lib.hid (HB8.out.trans (hb.mono HB8.out.size))
        clear he hs hso hNs hrow hb HRe i0 i1 i2 HB8 hk1 hk2 hk3 hz1 hz2
        go_wp2_with fail
        go_loopw [16] (fun i wr => ∃ (q : Nat), q ≤ Ns ∧ i = .int .i64 q ∧ Hid (Below w5.heap.size w5 wr)) (fun i _ => Ns - (intOf i).toNat)
        case atStart => exact ⟨0, Nat.zero_le _, rfl, Lib.hid (Below.refl _ _)⟩
        case round =>
        obtain ⟨q, hq, rfl, HB2⟩ := hrel
        by_cases hqN : q < Ns
        · have hq1 : (q : Int) < (Ns : Int) := by omega
          have hq2 : decide ((q : Int) < (Ns : Int)) = true := decide_eq_true hq1
          have hq3 : decide (q < Ns) = true := decide_eq_true hqN
          have hql : q < s.length := by rw [HNs.out]; exact hqN
          obtain ⟨y, hy⟩ : ∃ y, s[q] = y := ⟨_, rfl⟩
          have hym : y ∈ s := by rw [← hy]; exact List.getElem_mem hql
          obtain ⟨y1, y2, y3⟩ := y
          obtain ⟨gs, rfl, i0, i1, i2⟩ := row_at HS5.out HB2.out q hql hy
          have HRw := Lib.hid (HR6'.out.below (HB5.out.trans (HB2.out.mono HB5.out.size))).rd
          have hyr : (y1, y2, y3) ∈ l1 := (HL1.out _).2 (rdy_reach HC1.out HXk.out ((HSm.out _).1 hym))
          have HYr := Lib.hid hyr
          clear hql hy hym hyr
          go_wp2_with fail
          refine (at_any HRw.out (by have := HN1.out; omega) _ _ _).mono ?_
          rintro e w6 ⟨z, rfl, hz, _, _, hb⟩
          have hz1 : ¬ z < 0 := fun r => hz.1 r HYr.out
          have hz2 : decide (z < 0) = false := decide_eq_false hz1
          have HB6 := Lib.hid (HB2.out.trans (hb.mono HB2.out.size))
          clear hz hb HB2 HRw HYr i0 i1 i2 hq1 hq2 hq3
          go_wp2_with fail
          go_roundw
          case rel => exact ⟨q + 1, by omega, by go_num, HB6⟩
          case measure => simp [intOf]; omega
        · obtain rfl : q = Ns := by omega
          have hq2 : decide ((q : Int) < (q : Int)) = false := decide_eq_false (by omega)
          have hq3 : decide (q < q) = false := decide_eq_false (by omega)
          go_wp2_with fail
          go_roundw
          case rel => exact ⟨k + 1, by omega, by go_num, Lib.hid (HB5.out.trans (HB2.out.mono HB5.out.size))⟩
          case measure => simp [intOf]; omega
      · have hz1 : z < 0 := HZ.out.2 hdn
        have hz2 : decide (z < 0) = true := decide_eq_true hz1
        have HR2 := Lib.hid (HR7.out.below HB8.out).rd
        have HX2 := Lib.hid (HM2.out _ HXm.out hdn)
        clear HZ hdn
        go_wp2_with fail
        refine (at_any HR2.out (by rw [HN2.out]; omega) _ _ _).mono ?_
        rintro e w9 ⟨z2, rfl, hz, _, _, hb⟩
        have hy1 : ¬ z2 < 0 := fun r => hz.1 r HX2.out
        have hy2 : decide (z2 < 0) = false := decide_eq_false hy1
        have HB9 := Lib.hid (HB8.out.trans (hb.mono HB8.out.size))
        clear hz hb HR2 HX2 HB8 i0 i1 i2
        obtain ⟨i0, i1, i2⟩ := HRc.out _ HB9.out
        have HRe := Lib.hid ((HG.out.below (HX7.out.trans (HB9.out.mono HX7.out.size))).reach x1 x2 x3 HXo.out)
        go_upto_region 23 with fail
        go_wp2_with fail
        refine HRe.out.mono ?_
        rintro e w5 ⟨s, hs, hsl, hso, sa, sc, he, hrow, hb⟩
        rw [he.out]
        obtain ⟨Ns, hNs⟩ : ∃ q, s.length = q := ⟨_, rfl⟩
        rw [hNs] at hrow hsl ⊢
        have HS5 := Lib.hid hrow
        have HSm := Lib.hid hs
        have HNs := Lib.hid hNs
        have HB5 := Lib.hid (HB9.out.trans (hb.mono HB9.out.size))
        clear hy1 hy2 he hs hso hNs hrow hb HRe i0 i1 i2 HB9 hk1 hk2 hk3 hz1 hz2
        go_wp2_with fail
        go_loopw [16] (fun i wr => ∃ (q : Nat), q ≤ Ns ∧ i = .int .i64 q ∧ Hid (Below w5.heap.size w5 wr)) (fun i _ => Ns - (intOf i).toNat)
        case atStart => exact ⟨0, Nat.zero_le _, rfl, Lib.hid (Below.refl _ _)⟩
        case round =>
        obtain ⟨q, hq, rfl, HB2⟩ := hrel
        by_cases hqN : q < Ns
        · have hq1 : (q : Int) < (Ns : Int) := by omega
          have hq2 : decide ((q : Int) < (Ns : Int)) = true := decide_eq_true hq1
          have hq3 : decide (q < Ns) = true := decide_eq_true hqN
          have hql : q < s.length := by rw [HNs.out]; exact hqN
          obtain ⟨y, hy⟩ : ∃ y, s[q] = y := ⟨_, rfl⟩
          have hym : y ∈ s := by rw [← hy]; exact List.getElem_mem hql
          obtain ⟨y1, y2, y3⟩ := y
          obtain ⟨gs, rfl, i0, i1, i2⟩ := row_at HS5.out HB2.out q hql hy
          have HRw := Lib.hid (HR6'.out.below (HB5.out.trans (HB2.out.mono HB5.out.size))).rd
          have hyr : (y1, y2, y3) ∈ l1 := (HL1.out _).2 (rdy_reach HC1.out HXk.out ((HSm.out _).1 hym))
          have HYr := Lib.hid hyr
          clear hql hy hym hyr
          go_wp2_with fail
          refine (at_any HRw.out (by have := HN1.out; omega) _ _ _).mono ?_
          rintro e w6 ⟨z, rfl, hz, _, _, hb⟩
          have hz1 : ¬ z < 0 := fun r => hz.1 r HYr.out
          have hz2 : decide (z < 0) = false := decide_eq_false hz1
          have HB6 := Lib.hid (HB2.out.trans (hb.mono HB2.out.size))
          clear hz hb HB2 HRw HYr i0 i1 i2 hq1 hq2 hq3
          go_wp2_with fail
          go_roundw
          case rel => exact ⟨q + 1, by omega, by go_num, HB6⟩
          case measure => simp [intOf]; omega
        · obtain rfl : q = Ns := by omega
          have hq2 : decide ((q : Int) < (q : Int)) = false := decide_eq_false (by omega)
          have hq3 : decide (q < q) = false := decide_eq_false (by omega)
          go_wp2_with fail
          go_roundw
          case rel => exact ⟨k + 1, by omega, by go_num, Lib.hid (HB5.out.trans (HB2.out.mono HB5.out.size))⟩
          case measure => simp [intOf]; omega
    · obtain rfl : k = N1 := by omega
      have hk2 : decide ((k : Int) < (k : Int)) = false := decide_eq_false (by omega)
      have hk3 : decide (k < k) = false := decide_eq_false (by omega)
      have HX9 := Lib.hid (HX7.out.trans (HB.out.mono HX7.out.size))
      clear HB HX7
      go_wp2
      go_ret
      exact ⟨rfl, HX9.out⟩
end Go.Proofs.Ytlckjpjcfalfnaa
