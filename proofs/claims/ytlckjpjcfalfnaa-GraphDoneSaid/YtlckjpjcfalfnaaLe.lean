/-
  Graph: GraphDone.
-/
import Derived.Test.YtlckjpjcfalfnaaLd
namespace Go.Proofs.Ytlckjpjcfalfnaa
open Go.RowKit Go.Sort
open Go.WideMaps
set_option linter.unusedSimpArgs false
set_option linter.unusedVariables false
set_option maxRecDepth 100000

set_option maxHeartbeats 16000000 in
theorem done_law {w : World} {v vd : Value} {nv : List NV} {dn : List I3} (h : NRow w v nv) (hd : IK.Rd w vd dn) (ho : okL dn) :
    Calls Try.prog 9 #[v, vd] w fun e w' => e = .returned (.bool true) ∧ Below w.heap.size w w' := by
  have HX0 : Hid (Below w.heap.size w w) := Lib.hid (Below.refl _ _)
  go_enter Try.func9, Try.ntmps9
  go_wp2_with fail
  refine (works_any _).mono ?_
  rintro e w1 ⟨rfl, hb⟩
  have HX1 : Hid (Below w.heap.size w w1) := Lib.hid (HX0.out.trans (hb.mono HX0.out.size))

  have HOv := Lib.hid (over_any (h.below HX1.out) (hd.below HX1.out))
  obtain ⟨B, hB⟩ : ∃ q, overB nv dn = q := ⟨_, rfl⟩
  rw [hB] at HOv
  have HR := Lib.hid h
  have HD := Lib.hid hd
  have HO := Lib.hid ho
  obtain ⟨av, cv, hvv, _, _⟩ := h.el
  obtain ⟨a2', c2', hvd⟩ := hd.slice
  subst hvd
  subst hvv
  have HBo := Lib.hid hB
  clear hb h hd ho hB HX0
  go_wp2_with fail
  refine HOv.out.mono ?_
  rintro e w2 ⟨rfl, hb⟩
  have HX2 : Hid (Below w.heap.size w w2) := Lib.hid (HX1.out.trans (hb.mono HX1.out.size))
  clear hb HOv HX1
  cases B with
  | true =>
    go_wp2
    go_ret
    exact ⟨rfl, HX2.out⟩
  | false =>
  have HFw := Lib.hid (fw_of HBo.out)
  have HVa := Lib.hid (gvalid_any (HR.out.below HX2.out) (by have := HFw.out.few; omega))
  obtain ⟨V, hV⟩ : ∃ q, decide (nv.length ≤ 1024 ∧ (nv.map (·.d.id)).Nodup) = q := ⟨_, rfl⟩
  rw [hV] at HVa
  have HVe := Lib.hid hV
  clear hV HBo
  go_wp2_with fail
  refine HVa.out.mono ?_
  rintro e w3 ⟨rfl, hb⟩
  have HX3 : Hid (Below w.heap.size w w3) := Lib.hid (HX2.out.trans (hb.mono HX2.out.size))
  clear hb HVa HX2
  cases V with
  | false =>
    go_wp2
    go_ret
    exact ⟨rfl, HX3.out⟩
  | true =>
  have HG : Hid (GrIn w (.slice av nv.length cv) (.slice a2' dn.length c2') nv dn) := Lib.hid ⟨HR.out, HD.out, HO.out, HFw.out, (of_decide_eq_true HVe.out).2⟩
  obtain ⟨Nv, hNv⟩ : ∃ q, nv.length = q := ⟨_, rfl⟩
  have hNv14 : Nv ≤ 14 := by rw [← hNv]; exact HFw.out.few
  rw [hNv] at HG
  have HNv := Lib.hid hNv
  try rw [hNv]
  clear hNv HR HD HO HVe
  obtain ⟨Nd, hNd⟩ : ∃ q, dn.length = q := ⟨_, rfl⟩
  have hNd14 : Nd ≤ 14 := by rw [← hNd]; exact HFw.out.over
  rw [hNd] at HG
  have HNd := Lib.hid hNd
  try rw [hNd]
  clear hNd
  have HOr := Lib.hid (HG.out.below HX3.out).order
  go_upto_region 6 with fail
  go_wp2_with fail
  refine HOr.out.mono ?_
  rintro e w4 ⟨v4, cur, os, he, hri, hnd, hos, hrow, hb⟩
  rw [he.out]
  have hsem := ord_sem hos
  have hfew := flat_few hsem hri hnd HFw.out.few
  have HX4 := Lib.hid (HX3.out.trans (hb.mono HX3.out.size))
  have HFl := Lib.hid (flat_any hrow (by omega))
  have HRi := Lib.hid hri
  have HSem := Lib.hid hsem
  have HFew := Lib.hid hfew
  clear he hri hnd hos hb HOr HX3 hsem hfew hrow
  go_wp2_with fail
  refine HFl.out.mono ?_
  rintro e w5 ⟨v5, he, ho5, hb⟩
  rw [he.out]
  obtain ⟨f, hf⟩ : ∃ q, os.flatten = q := ⟨_, rfl⟩
  rw [hf] at ho5
  obtain ⟨af, cf, ev5⟩ := ho5.slice
  obtain ⟨Nf, hNf⟩ : ∃ q, f.length = q := ⟨_, rfl⟩
  rw [hNf] at ev5
  subst ev5
  have HF5 := Lib.hid ho5
  have HFm : Hid (∀ x, x ∈ f ↔ x ∈ keysV cur) := Lib.hid fun x => by rw [← hf]; exact HSem.out.mem x
  have HNf : Hid (f.length ≤ 14) := Lib.hid (by rw [← hf]; exact HFew.out.1)
  have HX5 := Lib.hid (HX4.out.trans (hb.mono HX4.out.size))
  clear he ho5 hb HFl HX4 hNf hf
  go_wp2_with fail
  go_loopw [7] (fun i wr => ∃ (k : Nat), k ≤ Nv ∧ i = .int .i64 k ∧ Hid (Below w5.heap.size w5 wr)) (fun i _ => Nv - (intOf i).toNat)
  case atStart => exact ⟨0, Nat.zero_le _, rfl, Lib.hid (Below.refl _ _)⟩
  case round =>
  obtain ⟨k, hk, rfl, HB⟩ := hrel
  by_cases hkN : k < Nv
  · have hk1 : (k : Int) < (Nv : Int) := by omega
    have hk2 : decide ((k : Int) < (Nv : Int)) = true := decide_eq_true hk1
    have hk3 : decide (k < Nv) = true := decide_eq_true hkN
    have hkl : k < nv.length := by rw [HNv.out]; exact hkN
    obtain ⟨g, off, j1, j2, j3, sq, dl, na, nc, rfl, hnk, hjo, hdo, hcell⟩ := node_at HG.out.row k hkl
    obtain ⟨D, hD⟩ : ∃ q, dl.length = q := ⟨_, rfl⟩
    rw [hD] at hcell
    have hmem : nv[k] ∈ nv := List.getElem_mem hkl
    rw [hnk] at hmem
    have hD14 : D ≤ 14 := by rw [← hD]; exact HFw.out.steps _ hmem
    have hst := webL_steps HG.out.one hmem
    have hgt := webL_get HG.out.one hmem
    simp only at hst hgt
    have HC := Lib.hid (fun W (hb : Below w5.heap.size w5 W) => hcell W (HX5.out.trans (hb.mono HX5.out.size)))
    have HDo := Lib.hid hdo
    have HD := Lib.hid hD
    have HX := Lib.hid (And.intro hst hgt)
    have hD63 : D ≤ 9223372036854775807 := by omega
    have HRdy : Hid ((j1, j2, j3) ∉ dn → (∀ d ∈ dl, d ∈ dn) → (j1, j2, j3) ∈ f) := Lib.hid fun hn hd => by
      rw [HFm.out]
      refine HRi.out.great (fun y => y = (j1, j2, j3)) (fun y hy => ?_) _ rfl
      subst hy
      exact ⟨mem_keys.2 ⟨_, HX.out.2⟩, hn, fun d hd2 => .inl (hd d (by rw [HX.out.1] at hd2; exact hd2))⟩
    have HNo : Hid ((j1, j2, j3) ∈ dn → (j1, j2, j3) ∉ f) := Lib.hid fun hx hf => by
      obtain ⟨n, q⟩ := mem_keys.1 ((HFm.out _).1 hf)
      exact (HRi.out.sub _ n q).2 hx
    obtain ⟨i0, i1, i2, -, -, -⟩ := HC.out _ HB.out
    have HRd := Lib.hid (HG.out.don.below (HX5.out.trans (HB.out.mono HX5.out.size)))
    clear hkl hnk hjo hdo hcell hD hmem hst hgt HX
    go_wp2_with fail
    refine (at_any HRd.out (by rw [HNd.out]; omega) _ _ _).mono ?_
    rintro e w6 ⟨z, rfl, hz, _, _, hb⟩
    have HZ := Lib.hid hz
    have HB6 := Lib.hid (HB.out.trans (hb.mono HB.out.size))
    obtain ⟨b0, hb0⟩ : ∃ b, decide (z < 0) = b := ⟨_, rfl⟩
    have HB0 : Hid (RbIs b0 ((j1, j2, j3) ∉ dn)) := Lib.hid (by unfold RbIs; rw [← hb0, decide_eq_true_iff]; exact hz)
    clear hz hb HRd HB i0 i1 i2
    go_upto_region 11 with fail
    try rw [hb0]
    clear hb0 HZ
    go_wp2_with fail
    go_loopw [8, 9] (fun rv i wr => ∃ (q : Nat) (rb : Bool), q ≤ D ∧ i = .int .i64 q ∧ rv = .bool rb ∧ Hid (RbIs rb ((j1, j2, j3) ∉ dn ∧ ∀ d ∈ dl.take q, d ∈ dn)) ∧ Hid (Below w5.heap.size w5 wr)) (fun _ i _ => D - (intOf i).toNat)
    case atStart => exact ⟨0, b0, Nat.zero_le _, rfl, rfl, Lib.hid (by unfold RbIs; rw [HB0.out.iff]; simp), HB6⟩
    case round =>
    clear HB6 HB0
    obtain ⟨q, rb, hq, rfl, rfl, HRb, HB⟩ := hrel
    obtain ⟨i0, i1, i2, i3, i4, hrd⟩ := HC.out _ HB.out
    by_cases hqD : q < D
    · have hq1 : (q : Int) < (D : Int) := by omega
      have hq2 : decide ((q : Int) < (D : Int)) = true := decide_eq_true hq1
      have hq3 : decide (q < D) = true := decide_eq_true hqD
      have hql : q < dl.length := by rw [HD.out]; exact hqD
      have htk : dl.take (q + 1) = dl.take q ++ [dl[q]] := List.take_succ_eq_append_getElem hql
      cases rb with
      | false =>
        have HRb2 : Hid (RbIs false ((j1, j2, j3) ∉ dn ∧ ∀ d ∈ dl.take (q + 1), d ∈ dn)) := Lib.hid ⟨fun h => (by cases h), fun h => HRb.out.iff.2 ⟨h.1, fun d hd => h.2 d (by rw [htk]; exact List.mem_append_left _ hd)⟩⟩
        clear hql htk hrd
        go_wp2_with fail
        go_roundw
        case rel => exact ⟨q + 1, false, by omega, by go_num, rfl, HRb2, HB⟩
        case measure => simp [intOf]; omega
      | true =>
        obtain ⟨-, gd, od, hna, hgd, hcd⟩ := hrd.at (by intro e; rw [e] at hql; simp at hql)
        subst hna
        have eK : IK.k = 3 := rfl
        have hc := hcd q hqD
        have eg : dl.getD q IK.d = dl[q] := by simp [List.getD, hql]
        rw [eg, eK] at hc
        obtain ⟨y, hy⟩ : ∃ y, dl[q] = y := ⟨_, rfl⟩
        rw [hy] at hc htk
        obtain ⟨y1, y2, y3⟩ := y
        have q0 := hc 0 _ rfl
        have q1 := hc 1 _ rfl
        have q2 := hc 2 _ rfl
        simp only [Nat.add_zero] at q0
        have HTk := Lib.hid htk
        have HRd := Lib.hid (HG.out.don.below (HX5.out.trans (HB.out.mono HX5.out.size)))
        clear hql htk hrd hcd hc eK eg hy hgd
        go_wp2_with fail
        refine (at_any HRd.out (by rw [HNd.out]; omega) _ _ _).mono ?_
        rintro e w7 ⟨z, rfl, hz, _, _, hb⟩
        have HB7 := Lib.hid (HB.out.trans (hb.mono HB.out.size))
        by_cases hdn : (y1, y2, y3) ∈ dn
        · have hz1 : (0 : Int) ≤ z := by
            have h9 : ¬ z < 0 := fun r => hz.1 r hdn
            omega
          have hz2 : decide ((0 : Int) ≤ z) = true := decide_eq_true hz1
          have hz3 : ¬ z < 0 := by omega
          have HRb2 : Hid (RbIs true ((j1, j2, j3) ∉ dn ∧ ∀ d ∈ dl.take (q + 1), d ∈ dn)) := Lib.hid ⟨fun _ => ⟨(HRb.out.iff.1 rfl).1, fun d hd => by
            rw [HTk.out] at hd
            rcases List.mem_append.1 hd with r | r
            · exact (HRb.out.iff.1 rfl).2 d r
            · simp at r; rw [r]; exact hdn⟩, fun _ => rfl⟩
          clear hz hb HRd HB HRb q0 q1 q2 i0 i1 i2 i3 i4 hdn
          go_wp2_with fail
          go_roundw
          case rel => exact ⟨q + 1, true, by omega, by go_num, rfl, HRb2, HB7⟩
          case measure => simp [intOf]; omega
        · have hz3 : z < 0 := hz.2 hdn
          have hz1 : ¬ (0 : Int) ≤ z := by omega
          have hz2 : decide ((0 : Int) ≤ z) = false := decide_eq_false hz1
          have HRb2 : Hid (RbIs false ((j1, j2, j3) ∉ dn ∧ ∀ d ∈ dl.take (q + 1), d ∈ dn)) := Lib.hid ⟨fun h => (by cases h), fun h => absurd (h.2 _ (by rw [HTk.out]; simp)) hdn⟩
          clear hz hb HRd HB HRb q0 q1 q2 i0 i1 i2 i3 i4 hdn
          go_wp2_with fail
          go_roundw
          case rel => exact ⟨q + 1, false, by omega, by go_num, rfl, HRb2, HB7⟩
          case measure => simp [intOf]; omega
    · obtain rfl : q = D := by omega
      have hq2 : decide ((q : Int) < (q : Int)) = false := decide_eq_false (by omega)
      have hq3 : decide (q < q) = false := decide_eq_false (by omega)
      have htk : dl.take q = dl := List.take_of_length_le (by rw [HD.out]; exact Nat.le_refl _)
      have HRf := Lib.hid (HF5.out.below HB.out).rd
      have HRd := Lib.hid (HG.out.don.below (HX5.out.trans (HB.out.mono HX5.out.size)))
      cases rb with
      | true =>
        have hx := HRb.out.iff.1 rfl
        rw [htk] at hx
        have HXf := Lib.hid (HRdy.out hx.1 hx.2)
        have HXn := Lib.hid hx.1
        clear htk hx hrd HRb
        go_wp2_with fail
        refine (at_any HRf.out (by have := HNf.out; omega) _ _ _).mono ?_
        rintro e w7 ⟨z, rfl, hz, _, _, hb⟩
        have hz1 : ¬ z < 0 := fun r => hz.1 r HXf.out
        have hz2 : decide (z < 0) = false := decide_eq_false hz1
        have HB7 := Lib.hid (HB.out.trans (hb.mono HB.out.size))
        have HRd7 := Lib.hid (HRd.out.below hb)
        clear hz hb HRd HRf HB i0 i1 i2 i3 i4
        obtain ⟨i0, i1, i2, -, -, -⟩ := HC.out _ HB7.out
        go_wp2_with fail
        refine (at_any HRd7.out (by rw [HNd.out]; omega) _ _ _).mono ?_
        rintro e w8 ⟨z', rfl, hz, _, _, hb⟩
        have hy3 : z' < 0 := hz.2 HXn.out
        have hy1 : ¬ (0 : Int) ≤ z' := by omega
        have hy2 : decide ((0 : Int) ≤ z') = false := decide_eq_false hy1
        have HB8 := Lib.hid (HB7.out.trans (hb.mono HB7.out.size))
        clear hz hb HRd7 HB7 i0 i1 i2
        go_wp2_with fail
        go_roundw
        case rel => exact ⟨k + 1, by omega, by go_num, HB8⟩
        case measure => simp [intOf]; omega
      | false =>
        clear htk hrd HRb
        go_wp2_with fail
        refine (at_any HRd.out (by rw [HNd.out]; omega) _ _ _).mono ?_
        rintro e w7 ⟨z, rfl, hz, _, _, hb⟩
        have HB7 := Lib.hid (HB.out.trans (hb.mono HB.out.size))
        have HRf7 := Lib.hid (HRf.out.below hb)
        by_cases hdn : (j1, j2, j3) ∈ dn
        · have hz1 : (0 : Int) ≤ z := by
            have h9 : ¬ z < 0 := fun r => hz.1 r hdn
            omega
          have hz2 : decide ((0 : Int) ≤ z) = true := decide_eq_true hz1
          have hz3 : ¬ z < 0 := by omega
          have HXf := Lib.hid (HNo.out hdn)
          clear hz hb HRd HRf HB i0 i1 i2 i3 i4 hdn
          obtain ⟨i0, i1, i2, -, -, -⟩ := HC.out _ HB7.out
          go_wp2_with fail
          refine (at_any HRf7.out (by have := HNf.out; omega) _ _ _).mono ?_
          rintro e w8 ⟨z', rfl, hz, _, _, hb⟩
          have hy3 : z' < 0 := hz.2 HXf.out
          have hy1 : ¬ (0 : Int) ≤ z' := by omega
          have hy2 : decide ((0 : Int) ≤ z') = false := decide_eq_false hy1
          have HB8 := Lib.hid (HB7.out.trans (hb.mono HB7.out.size))
          clear hz hb HRf7 HB7 i0 i1 i2
          go_wp2_with fail
          go_roundw
          case rel => exact ⟨k + 1, by omega, by go_num, HB8⟩
          case measure => simp [intOf]; omega
        · have hz3 : z < 0 := hz.2 hdn
          have hz1 : ¬ (0 : Int) ≤ z := by omega
          have hz2 : decide ((0 : Int) ≤ z) = false := decide_eq_false hz1
          clear hz hb HRd HRf HB i0 i1 i2 i3 i4 hdn
          go_wp2_with fail
          go_roundw
          case rel => exact ⟨k + 1, by omega, by go_num, HB7⟩
          case measure => simp [intOf]; omega
  · obtain rfl : k = Nv := by omega
    have hk2 : decide ((k : Int) < (k : Int)) = false := decide_eq_false (by omega)
    have hk3 : decide (k < k) = false := decide_eq_false (by omega)
    have HX9 := Lib.hid (HX5.out.trans (HB.out.mono HX5.out.size))
    clear HB HX5
    go_wp2
    go_ret
    exact ⟨rfl, HX9.out⟩
end Go.Proofs.Ytlckjpjcfalfnaa
