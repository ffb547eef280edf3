/-
  Graph: GraphOrders.
-/
import Derived.Test.YtlckjpjcfalfnaaGrQ
import Derived.Test.YtlckjpjcfalfnaaWk
namespace Go.Proofs.Ytlckjpjcfalfnaa
open Go.RowKit Go.Sort
open Go.WideMaps
set_option linter.unusedSimpArgs false
set_option linter.unusedVariables false
set_option maxRecDepth 100000

set_option maxHeartbeats 16000000 in
theorem orders_law {w : World} {v vd : Value} {nv : List NV} {dn : List I3} (h : NRow w v nv) (hd : IK.Rd w vd dn) (ho : okL dn) (a1 a2 a3 : Int) (hi : okI (a1, a2, a3)) :
    Calls Try.prog 3 #[v, vd, .agg #[.int .i64 a1, .int .i64 a2, .int .i64 a3]] w fun e w' => e = .returned (.bool true) ∧ Below w.heap.size w w' := by
  obtain ⟨z0, hz0⟩ : ∃ q, w.heap.size = q := ⟨_, rfl⟩
  obtain ⟨X, hX⟩ : ∃ q, w.alloc (.cells #[.int .i64 a1, .int .i64 a2, .int .i64 a3] 25) = q := ⟨_, rfl⟩
  have HX0 : Hid (Below w.heap.size w X) := Lib.hid (by rw [← hX]; exact (Below.refl _ _).alloc (Nat.le_refl _) _)
  have HA0 : Hid (Bk X z0 25 [.int .i64 a1, .int .i64 a2, .int .i64 a3]) := Lib.hid (by rw [← hX]; exact Bk.newAg hz0 _ [.int .i64 a1, .int .i64 a2, .int .i64 a3])
  have HXe := Lib.hid hX
  have HIo := Lib.hid hi
  clear hX hi
  go_enter Try.func3, Try.ntmps3
  go_wp2_with fail
  try rw [HXe.out]
  clear HXe
  refine (works_any _).mono ?_
  rintro e w1 ⟨rfl, hb⟩
  have HX1 : Hid (Below w.heap.size w w1) := Lib.hid (HX0.out.trans (hb.mono HX0.out.size))
  have HA1 : Hid (Bk w1 z0 25 [.int .i64 a1, .int .i64 a2, .int .i64 a3]) := Lib.hid (Bk.below HA0.out hb)
  clear HA0
  have HOv := Lib.hid (over_any (h.below HX1.out) (hd.below HX1.out))
  obtain ⟨B, hB⟩ : ∃ q, overB nv dn = q := ⟨_, rfl⟩
  rw [hB] at HOv
  have HR := Lib.hid h
  have HD := Lib.hid hd
  have HO := Lib.hid ho
  obtain ⟨av, cv, hvv, _, _⟩ := h.el
  obtain ⟨a2', c2', hvd⟩ := hd.slice
  subst hvd
  subst hvv
  have HBo := Lib.hid hB
  clear hb h hd ho hB HX0
  go_wp2_with fail
  refine HOv.out.mono ?_
  rintro e w2 ⟨rfl, hb⟩
  have HX2 : Hid (Below w.heap.size w w2) := Lib.hid (HX1.out.trans (hb.mono HX1.out.size))
  have HA2 := Lib.hid (Bk.below HA1.out hb)
  clear hb HOv HX1 HA1
  cases B with
  | true =>
    go_wp2
    go_ret
    exact ⟨rfl, HX2.out⟩
  | false =>
  have HFw := Lib.hid (fw_of HBo.out)
  have HOf := Lib.hid (of_any (HR.out.below HX2.out) (by have := HFw.out.few; omega))
  go_wp2_with fail
  refine HOf.out.mono ?_
  rintro e w5 ⟨v2, he, hr2, hb⟩
  rw [he.out]
  obtain ⟨b2, d2, hv2, -, -⟩ := hr2.el
  subst hv2
  have HX5 : Hid (Below w.heap.size w w5) := Lib.hid (HX2.out.trans (hb.mono HX2.out.size))
  have HA5 := Lib.hid (Bk.below HA2.out hb)
  have HR2 := Lib.hid hr2
  obtain ⟨V, hV⟩ : ∃ q, decide (nv.length ≤ 1024 ∧ (nv.map (·.d.id)).Nodup) = q := ⟨_, rfl⟩
  have HVe := Lib.hid hV
  have HVa : Hid (∀ W, Below w.heap.size w W → Calls Try.prog 16 #[.slice av nv.length cv] W fun e w' => e = .returned (.bool V) ∧ Below W.heap.size W w') := Lib.hid fun W hW => by
    have q := gvalid_any (HR.out.below hW) (by have := HFw.out.few; omega)
    rwa [hV] at q
  have HVb : Hid (∀ W, Below w5.heap.size w5 W → Calls Try.prog 14 #[.slice b2 nv.length d2] W fun e w' => e = .returned (.bool V) ∧ Below W.heap.size W w') := Lib.hid fun W hW => by
    have q := rvalidN_any (hr2.below hW) (by have := HFw.out.few; omega)
    rwa [hV] at q
  obtain ⟨Nd, hNd⟩ : ∃ q, dn.length = q := ⟨_, rfl⟩
  clear he hr2 hb HOf HX2 HA2 hV
  cases V with
  | true =>
    have HG0 : Hid (GrIn w (.slice av nv.length cv) (.slice a2' dn.length c2') nv dn) := Lib.hid ⟨HR.out, HD.out, HO.out, HFw.out, (of_decide_eq_true HVe.out).2⟩
    have HGb0 : Hid (GrIn w5 (.slice b2 nv.length d2) (.slice a2' dn.length c2') nv dn) := Lib.hid ⟨HR2.out, HD.out.below HX5.out, HO.out, HFw.out, (of_decide_eq_true HVe.out).2⟩
    obtain ⟨Nv, hNv⟩ : ∃ q, nv.length = q := ⟨_, rfl⟩
    have hNv14 : Nv ≤ 14 := by rw [← hNv]; exact HFw.out.few
    have hNd14 : Nd ≤ 14 := by rw [← hNd]; exact HFw.out.over
    rw [hNv, hNd] at HG0 HGb0
    rw [hNv] at HVa HVb
    have HNv := Lib.hid hNv
    have HG := Lib.hid HG0.out
    have HGb := Lib.hid HGb0.out
    try rw [hNv]
    try rw [hNd]
    clear hNv hNd HR HR2 HD HO HVe HG0 HGb0
    have HOr := Lib.hid (HG.out.below HX5.out).order
    go_wp2_with fail
    refine HOr.out.mono ?_
    rintro e w6 ⟨va, cur, os, he, hri, hnd, hos, hrow, hb⟩
    rw [he.out]
    have HSem := Lib.hid (ord_sem hos)
    have HRi := Lib.hid hri
    have hfw := ord_few hri (ord_sem hos)
    obtain ⟨oa, oc, eo, hol, -⟩ := id hrow
    obtain ⟨no, hno⟩ : ∃ q, os.length = q := ⟨_, rfl⟩
    rw [hno] at eo
    subst eo
    have hno14 : no ≤ 14 := by rw [← hno]; have := HNv.out; omega
    have HFl : Hid (os.flatten.length ≤ 14) := Lib.hid (by have := HNv.out; omega)
    have HNo := Lib.hid hno
    have HRa := Lib.hid hrow
    have HXb := Lib.hid hb
    have HX6 := Lib.hid (HX5.out.trans (hb.mono HX5.out.size))
    have HA6 := Lib.hid (Bk.below HA5.out hb)
    have HRc : Hid (∀ W, Below w.heap.size w W → Calls Try.prog 18 #[.slice av Nv cv, .agg #[.int .i64 a1, .int .i64 a2, .int .i64 a3]] W (fun e w' => ∃ M, Hid (∀ x, x ∈ M ↔ Rch (stepsV (webL nv)) (a1, a2, a3) x) ∧ RowP (clnI M) W e w')) := Lib.hid fun W hW =>
      (reach_any (HG.out.row.below hW) (by have := HG.out.few.few; omega) ⟨by have := HG.out.few.few; omega, HG.out.one⟩ a1 a2 a3 HIo.out (depsU nv) depsU_mem HG.out.ulen (depsU_ok HG.out.row.ok)).mono fun e w' ⟨M, h1, h2, h3⟩ => ⟨M, Lib.hid h1, h3⟩
    have HRd : Hid (∀ W, Below w5.heap.size w5 W → Calls Try.prog 19 #[.slice b2 Nv d2, .agg #[.int .i64 a1, .int .i64 a2, .int .i64 a3]] W (fun e w' => ∃ M, Hid (∀ x, x ∈ M ↔ Rch (stepsV (webL nv)) (a1, a2, a3) x) ∧ Hid (M.length ≤ 196) ∧ RowP (clnI M) W e w')) := Lib.hid fun W hW => reach12_any (HGb.out.below hW) a1 a2 a3
    have HYc : Hid (∀ W, Below w.heap.size w W → Calls Try.prog 20 #[.slice av Nv cv, .slice a2' Nd c2'] W (fun e w' => ∃ cur l, RdyIs (webL nv) cur dn ∧ (keysV cur).Nodup ∧ l = clnI (keysV cur) ∧ l.length ≤ 14 ∧ okL l ∧ RowP1 W l e w')) := Lib.hid fun W hW => (HG.out.below hW).ready
    have HYd : Hid (∀ W, Below w5.heap.size w5 W → Calls Try.prog 21 #[.slice b2 Nv d2, .slice a2' Nd c2'] W (fun e w' => ∃ S, Hid (∀ x, x ∈ S ↔ x ∈ idsN nv ∧ RdyX nv dn x) ∧ RowP (clnI S) W e w')) := Lib.hid fun W hW => ready12_any (HGb.out.below hW)
    clear he hri hnd hos hrow hb hfw hol hno HOr HX5 HA5
    go_wp2_with fail
    refine (HVb.out w6 HXb.out).mono ?_
    rintro e w7 ⟨rfl, hb⟩
    have HX7 := Lib.hid (HX6.out.trans (hb.mono HX6.out.size))
    have HXb7 := Lib.hid (HXb.out.trans (hb.mono HXb.out.size))
    have HA7 := Lib.hid (Bk.below HA6.out hb)
    have HRa7 := Lib.hid (HRa.out.below hb)
    have HO12 := Lib.hid (order12_any (HGb.out.below HXb7.out) HRi.out HSem.out)
    clear hb HVb HX6 HXb HA6 HRa
    go_wp2_with fail
    refine HO12.out.mono ?_
    rintro e w8 ⟨vb, he, hrow, hb⟩
    rw [he.out]
    obtain ⟨ob, od, eo, -, -⟩ := id hrow
    rw [HNo.out] at eo
    subst eo
    have HX8 := Lib.hid (HX7.out.trans (hb.mono HX7.out.size))
    have HXb8 := Lib.hid (HXb7.out.trans (hb.mono HXb7.out.size))
    have HA8 := Lib.hid (Bk.below HA7.out hb)
    have HRa8 := Lib.hid (HRa7.out.below hb)
    have HRb8 := Lib.hid hrow
    clear he hrow hb HO12 HX7 HXb7 HA7 HRa7
    go_wp2_with fail
    refine (HVa.out w8 HX8.out).mono ?_
    rintro e w9 ⟨rfl, hb⟩
    have HX9 := Lib.hid (HX8.out.trans (hb.mono HX8.out.size))
    have HXb9 := Lib.hid (HXb8.out.trans (hb.mono HXb8.out.size))
    have HA9 := Lib.hid (Bk.below HA8.out hb)
    have HRa9 := Lib.hid (HRa8.out.below hb)
    have HRb9 := Lib.hid (HRb8.out.below hb)
    clear hb HVa HX8 HXb8 HA8 HRa8 HRb8
    go_wp2_with fail
    go_loopw [12] (fun i wr => ∃ k : Nat, k ≤ no ∧ i = .int .i64 k ∧ Hid (Below w9.heap.size w9 wr)) (fun i _ => no - (intOf i).toNat)
    case atStart => exact ⟨0, Nat.zero_le _, rfl, Lib.hid (Below.refl _ _)⟩
    case round =>
      obtain ⟨k, hk, rfl, HB⟩ := hrel
      by_cases hlt : k < no
      · have kno1 : (k : Int) < (no : Int) := by omega
        have kno2 : decide ((k : Int) < (no : Int)) = true := decide_eq_true kno1
        have kno3 : decide (k < no) = true := decide_eq_true (by omega)
        obtain ⟨oa', oc', e1, -, hel⟩ := HRa9.out.below HB.out
        obtain ⟨g1, f1, p1, n1, r1, u1, u2, u3, u4⟩ := hel k (by rw [HNo.out]; exact hlt)
        obtain ⟨ob', od', e2, -, hel2⟩ := HRb9.out.below HB.out
        obtain ⟨g3, f3, p3, n3, r3, t1, t2, t3, t4⟩ := hel2 k (by rw [HNo.out]; exact hlt)
        simp only [Value.slice.injEq] at e1 e2
        obtain ⟨rfl, -, -⟩ := e1
        obtain ⟨rfl, -, -⟩ := e2
        subst u1
        subst t1
        have hkl : k < os.length := by rw [HNo.out]; exact hlt
        obtain ⟨l, hll⟩ : ∃ q, os[k] = q := ⟨_, rfl⟩
        rw [hll] at u4 t4
        have HLl : Hid (l.length ≤ 10000) := Lib.hid (by
          have q := flat_le (ls := os) (k + 1)
          rw [flat_take (l := l) (by rw [← hll]; exact List.getElem?_eq_getElem hkl), List.length_append] at q
          have := HFl.out
          omega)
        have HRw : Hid (∀ W, Below wr.heap.size wr W → Calls Try.prog 17 #[.slice p1 n1 r1, .slice p3 n3 r3] W fun e w' => e = .returned (.bool true) ∧ Below W.heap.size W w') := Lib.hid fun W hW => by
          have q := row_any _ _ l l W (u4.below hW) (t4.below hW) HLl.out HLl.out
          rwa [decide_eq_true rfl] at q
        have HC17 : Hid (∀ wq, Below wr.heap.size wr wq → wq.cell? ⟨g1, f1 + k, none⟩ = some (.slice p1 n1 r1) ∧ wq.cell? ⟨g3, f3 + k, none⟩ = some (.slice p3 n3 r3)) := Lib.hid fun wq hq => ⟨(hq.cell (p := ⟨g1, f1 + k, none⟩) u2).trans u3, (hq.cell (p := ⟨g3, f3 + k, none⟩) t2).trans t3⟩
        have hd0 : Below wr.heap.size wr wr.drew := (Below.refl wr.heap.size wr).drew
        clear hel hel2 u2 u3 u4 t2 t3 t4 hkl hll HLl
        go_wp2_with fail
        refine wp_region_held_drew (S := (fun w' => w'.cell? ⟨g1, f1 + k, none⟩ = some (.slice p1 n1 r1) ∧ w'.cell? ⟨g3, f3 + k, none⟩ = some (.slice p3 n3 r3))) (by kernel_rfl) ?_ (fun hHeld => ?_)
        · ((first
    | exact HC17.out _ hbl
    | exact HC17.out _ (Below.refl _ _)
    | exact HC17.out _ hd0
    | fail))
        refine wpAnyH_take (i := 0) (v := ?_) rfl (by kernel_rfl) (by kernel_rfl) (by kernel_rfl) (fun _ _ _ h => h) (Or.inl ⟨by rfl, ?_⟩) (by assumption) ?_
        rotate_left
        · (intro w hSw; (try dsimp only at hSw); go_simp; try rfl)
        try simp only [Act.put, List.setIfInBounds_toArray, List.set_cons_zero, List.set_cons_succ, List.getElem_toArray, List.getElem_cons_zero, List.getElem_cons_succ]
        refine wpAnyH_take (i := 1) (v := ?_) rfl (by kernel_rfl) (by kernel_rfl) (by kernel_rfl) (fun _ _ _ h => h) (Or.inl ⟨by rfl, ?_⟩) (by assumption) ?_
        rotate_left
        · (intro w hSw; (try dsimp only at hSw); go_simp; try rfl)
        try simp only [Act.put, List.setIfInBounds_toArray, List.set_cons_zero, List.set_cons_succ, List.getElem_toArray, List.getElem_cons_zero, List.getElem_cons_succ]
        refine wpAnyH_take (i := 2) (v := ?_) rfl (by kernel_rfl) (by kernel_rfl) (by kernel_rfl) (fun _ _ _ h => h) (Or.inl ⟨by rfl, ?_⟩) (by assumption) ?_
        rotate_left
        · (intro w hSw; (try dsimp only at hSw); go_simp; try rfl)
        try simp only [Act.put, List.setIfInBounds_toArray, List.set_cons_zero, List.set_cons_succ, List.getElem_toArray, List.getElem_cons_zero, List.getElem_cons_succ]
        refine wpAnyH_take (i := 3) (v := ?_) rfl (by kernel_rfl) (by kernel_rfl) (by kernel_rfl) (fun _ _ _ h => h) (Or.inl ⟨by rfl, ?_⟩) (by assumption) ?_
        rotate_left
        · (intro w hSw; (try dsimp only at hSw); go_simp; try rfl)
        try simp only [Act.put, List.setIfInBounds_toArray, List.set_cons_zero, List.set_cons_succ, List.getElem_toArray, List.getElem_cons_zero, List.getElem_cons_succ]
        refine wpAnyH_take (i := 4) (v := ?_) rfl (by kernel_rfl) (by kernel_rfl) (by kernel_rfl) (fun _ _ _ h => h) (Or.inl ⟨by rfl, ?_⟩) (by assumption) ?_
        rotate_left
        · (intro w hSw; (try dsimp only at hSw); go_simp; try rfl)
        try simp only [Act.put, List.setIfInBounds_toArray, List.set_cons_zero, List.set_cons_succ, List.getElem_toArray, List.getElem_cons_zero, List.getElem_cons_succ]
        refine wpAnyH_take (i := 5) (v := ?_) rfl (by kernel_rfl) (by kernel_rfl) (by kernel_rfl) (fun _ _ _ h => h) (Or.inl ⟨by rfl, ?_⟩) (by assumption) ?_
        rotate_left
        · (intro w hSw; (try dsimp only at hSw); go_simp; try rfl)
        try simp only [Act.put, List.setIfInBounds_toArray, List.set_cons_zero, List.set_cons_succ, List.getElem_toArray, List.getElem_cons_zero, List.getElem_cons_succ]
        refine wpAnyH_take (i := 6) (v := ?_) rfl (by kernel_rfl) (by kernel_rfl) (by kernel_rfl) (fun _ _ _ h => h) (Or.inl ⟨by rfl, ?_⟩) (by assumption) ?_
        rotate_left
        · (intro w hSw; (try dsimp only at hSw); go_simp; try rfl)
        try simp only [Act.put, List.setIfInBounds_toArray, List.set_cons_zero, List.set_cons_succ, List.getElem_toArray, List.getElem_cons_zero, List.getElem_cons_succ]
        refine wpAnyH_take (i := 7) (v := ?_) rfl (by kernel_rfl) (by kernel_rfl) (by kernel_rfl) (fun _ _ _ h => h) (Or.inl ⟨by rfl, ?_⟩) (by assumption) ?_
        rotate_left
        · (intro w hSw; (try dsimp only at hSw); go_simp; try rfl)
        try simp only [Act.put, List.setIfInBounds_toArray, List.set_cons_zero, List.set_cons_succ, List.getElem_toArray, List.getElem_cons_zero, List.getElem_cons_succ]
        refine wpAnyH_ready (rs := [8]) (by kernel_rfl) (by simp) ?_
        refine (AllReadyH.cons rfl (fun K hK => ?_) AllReadyH.nil)
        go_simp
        (go_at_call 17; refine (HRw.out _ hd0).mono ?_; rintro e wl ⟨rfl, hb⟩; have hbl : Below wr.heap.size wr wl := hd0.trans (hb.mono hd0.size); clear hb)
        refine hK.out _ _ ?_ (fun hHeld => ?_)
        · ((first
    | exact HC17.out _ hbl
    | exact HC17.out _ (Below.refl _ _)
    | exact HC17.out _ hd0
    | fail))
        clear hK K
        try simp only [Act.put, List.setIfInBounds_toArray, List.set_cons_zero, List.set_cons_succ, List.getElem_toArray, List.getElem_cons_zero, List.getElem_cons_succ]
        refine wpAnyH_take (i := 9) (v := ?_) rfl (by kernel_rfl) (by kernel_rfl) (by kernel_rfl) (fun _ _ _ h => h) (Or.inl ⟨by rfl, ?_⟩) (by assumption) ?_
        rotate_left
        · (intro w hSw; (try dsimp only at hSw); go_simp; try rfl)
        try simp only [Act.put, List.setIfInBounds_toArray, List.set_cons_zero, List.set_cons_succ, List.getElem_toArray, List.getElem_cons_zero, List.getElem_cons_succ]
        refine wpAnyH_done (by kernel_rfl) ?_ _
        have HBl := Lib.hid (HB.out.trans (hbl.mono HB.out.size))
        clear HC17 hd0 HRw hbl HB
        go_wp2_with fail
        go_roundw
        case rel => exact ⟨k + 1, by omega, by go_num, HBl⟩
        case measure => simp [intOf]; omega
      · obtain rfl : k = no := by omega
        have kk1 : ¬ (k : Int) < (k : Int) := by omega
        have kk2 : decide ((k : Int) < (k : Int)) = false := decide_eq_false kk1
        have kk3 : decide (k < k) = false := decide_eq_false (by omega)
        have HX10 := Lib.hid (HX9.out.trans (HB.out.mono HX9.out.size))
        have HXb10 := Lib.hid (HXb9.out.trans (HB.out.mono HXb9.out.size))
        have HA10 := Lib.hid (Bk.below HA9.out HB.out)
        have HRa10 := Lib.hid (HRa9.out.below HB.out)
        have HRb10 := Lib.hid (HRb9.out.below HB.out)
        have hba := HA10.out
        have c0 := Bk.cell hba 0
        have c1 := Bk.cell hba 1
        have c2 := Bk.cell hba 2
        have hzl := hba.lt
        simp only [List.getElem?_cons_zero, List.getElem?_cons_succ] at c0 c1 c2
        have HC19 : Hid (∀ wq, Below wr.heap.size wr wq → wq.cell? ⟨z0, 0, none⟩ = some (.int .i64 a1) ∧ wq.cell? ⟨z0, 1, none⟩ = some (.int .i64 a2) ∧ wq.cell? ⟨z0, 2, none⟩ = some (.int .i64 a3)) := Lib.hid fun wq hq => ⟨(hq.cell (p := ⟨z0, 0, none⟩) hzl).trans c0, (hq.cell (p := ⟨z0, 1, none⟩) hzl).trans c1, (hq.cell (p := ⟨z0, 2, none⟩) hzl).trans c2⟩
        have hd0 : Below wr.heap.size wr wr.drew := (Below.refl wr.heap.size wr).drew
        clear HB HX9 HXb9 HA9 HRa9 HRb9 hba c0 c1 c2 hzl
        go_wp2_with fail
        refine wp_region_held_drew (S := (fun w' => w'.cell? ⟨z0, 0, none⟩ = some (.int .i64 a1) ∧ w'.cell? ⟨z0, 1, none⟩ = some (.int .i64 a2) ∧ w'.cell? ⟨z0, 2, none⟩ = some (.int .i64 a3))) (by kernel_rfl) ?_ (fun hHeld => ?_)
        · ((first
    | exact HC19.out _ hb3
    | exact HC19.out _ hb2
    | exact HC19.out _ hb1
    | exact HC19.out _ (Below.refl _ _)
    | exact HC19.out _ hd0
    | fail))
        refine wpAnyH_take (i := 0) (v := ?_) rfl (by kernel_rfl) (by kernel_rfl) (by kernel_rfl) (fun _ _ _ h => h) (Or.inl ⟨by rfl, ?_⟩) (by assumption) ?_
        rotate_left
        · (intro w hSw; (try dsimp only at hSw); go_simp; try rfl)
        try simp only [Act.put, List.setIfInBounds_toArray, List.set_cons_zero, List.set_cons_succ, List.getElem_toArray, List.getElem_cons_zero, List.getElem_cons_succ]
        refine wpAnyH_take (i := 1) (v := ?_) rfl (by kernel_rfl) (by kernel_rfl) (by kernel_rfl) (fun _ _ _ h => h) (Or.inl ⟨by rfl, ?_⟩) (by assumption) ?_
        rotate_left
        · (intro w hSw; (try dsimp only at hSw); go_simp; try rfl)
        try simp only [Act.put, List.setIfInBounds_toArray, List.set_cons_zero, List.set_cons_succ, List.getElem_toArray, List.getElem_cons_zero, List.getElem_cons_succ]
        refine wpAnyH_take (i := 3) (v := ?_) rfl (by kernel_rfl) (by kernel_rfl) (by kernel_rfl) (fun _ _ _ h => h) (Or.inl ⟨by rfl, ?_⟩) (by assumption) ?_
        rotate_left
        · (intro w hSw; (try dsimp only at hSw); go_simp; try rfl)
        try simp only [Act.put, List.setIfInBounds_toArray, List.set_cons_zero, List.set_cons_succ, List.getElem_toArray, List.getElem_cons_zero, List.getElem_cons_succ]
        refine wpAnyH_take (i := 4) (v := ?_) rfl (by kernel_rfl) (by kernel_rfl) (by kernel_rfl) (fun _ _ _ h => h) (Or.inl ⟨by rfl, ?_⟩) (by assumption) ?_
        rotate_left
        · (intro w hSw; (try dsimp only at hSw); go_simp; try rfl)
        try simp only [Act.put, List.setIfInBounds_toArray, List.set_cons_zero, List.set_cons_succ, List.getElem_toArray, List.getElem_cons_zero, List.getElem_cons_succ]
        refine wpAnyH_ready (rs := [2]) (by kernel_rfl) (by simp) ?_
        refine (AllReadyH.cons rfl (fun K hK => ?_) AllReadyH.nil)
        go_simp
        (first
    | (go_at_call 17
       refine (row_any _ _ (clnI M1) (clnI M1) _ HO2.out.rd HO3.out.rd (by have := HM1f.out; omega) (by have := HM1f.out; omega)).mono ?_
       rintro e wn ⟨rfl, hb⟩
       rw [decide_eq_true rfl]
       have hb3 : Below wr.heap.size wr wn := hb2.trans (hb.mono hb2.size)
       clear hb)
    | (go_at_call 19
       refine (HRd.out _ (HXb10.out.trans (hb1.mono HXb10.out.size))).mono ?_
       rintro e wm ⟨M2, hM2, hM2f, vm2, he, ho, hb⟩
       rw [he.out]
       have hMe : clnI M2 = clnI M1 := clnI_congr fun x => (hM2.out x).trans (HM1.out x).symm
       have HM1f : Hid ((clnI M1).length ≤ 196) := Lib.hid (by rw [← hMe]; exact Nat.le_trans (len_clnI M2) hM2f.out)
       rw [hMe] at ho
       obtain ⟨am2, cm2, e2⟩ := ho.slice
       subst e2
       have hb2 : Below wr.heap.size wr wm := hb1.trans (hb.mono hb1.size)
       have HO2 := Lib.hid (HO1.out.below hb)
       have HO3 := Lib.hid ho
       clear he ho hb hM2 hM2f hMe)
    | (go_at_call 18
       refine (HRc.out _ (HX10.out.trans (hd0.mono HX10.out.size))).mono ?_
       rintro e wl ⟨M1, hM1, vm1, he, ho, hb⟩
       rw [he.out]
       obtain ⟨am1, cm1, e1⟩ := ho.slice
       subst e1
       have HM1 := hM1
       have hb1 : Below wr.heap.size wr wl := hd0.trans (hb.mono hd0.size)
       have HO1 := Lib.hid ho
       clear he ho hb hM1)
    | fail)
        refine hK.out _ _ ?_ (fun hHeld => ?_)
        · ((first
    | exact HC19.out _ hb3
    | exact HC19.out _ hb2
    | exact HC19.out _ hb1
    | exact HC19.out _ (Below.refl _ _)
    | exact HC19.out _ hd0
    | fail))
        clear hK K
        try simp only [Act.put, List.setIfInBounds_toArray, List.set_cons_zero, List.set_cons_succ, List.getElem_toArray, List.getElem_cons_zero, List.getElem_cons_succ]
        refine wpAnyH_ready (rs := [5]) (by kernel_rfl) (by simp) ?_
        refine (AllReadyH.cons rfl (fun K hK => ?_) AllReadyH.nil)
        go_simp
        (first
    | (go_at_call 17
       refine (row_any _ _ (clnI M1) (clnI M1) _ HO2.out.rd HO3.out.rd (by have := HM1f.out; omega) (by have := HM1f.out; omega)).mono ?_
       rintro e wn ⟨rfl, hb⟩
       rw [decide_eq_true rfl]
       have hb3 : Below wr.heap.size wr wn := hb2.trans (hb.mono hb2.size)
       clear hb)
    | (go_at_call 19
       refine (HRd.out _ (HXb10.out.trans (hb1.mono HXb10.out.size))).mono ?_
       rintro e wm ⟨M2, hM2, hM2f, vm2, he, ho, hb⟩
       rw [he.out]
       have hMe : clnI M2 = clnI M1 := clnI_congr fun x => (hM2.out x).trans (HM1.out x).symm
       have HM1f : Hid ((clnI M1).length ≤ 196) := Lib.hid (by rw [← hMe]; exact Nat.le_trans (len_clnI M2) hM2f.out)
       rw [hMe] at ho
       obtain ⟨am2, cm2, e2⟩ := ho.slice
       subst e2
       have hb2 : Below wr.heap.size wr wm := hb1.trans (hb.mono hb1.size)
       have HO2 := Lib.hid (HO1.out.below hb)
       have HO3 := Lib.hid ho
       clear he ho hb hM2 hM2f hMe)
    | (go_at_call 18
       refine (HRc.out _ (HX10.out.trans (hd0.mono HX10.out.size))).mono ?_
       rintro e wl ⟨M1, hM1, vm1, he, ho, hb⟩
       rw [he.out]
       obtain ⟨am1, cm1, e1⟩ := ho.slice
       subst e1
       have HM1 := hM1
       have hb1 : Below wr.heap.size wr wl := hd0.trans (hb.mono hd0.size)
       have HO1 := Lib.hid ho
       clear he ho hb hM1)
    | fail)
        refine hK.out _ _ ?_ (fun hHeld => ?_)
        · ((first
    | exact HC19.out _ hb3
    | exact HC19.out _ hb2
    | exact HC19.out _ hb1
    | exact HC19.out _ (Below.refl _ _)
    | exact HC19.out _ hd0
    | fail))
        clear hK K
        try simp only [Act.put, List.setIfInBounds_toArray, List.set_cons_zero, List.set_cons_succ, List.getElem_toArray, List.getElem_cons_zero, List.getElem_cons_succ]
        refine wpAnyH_ready (rs := [6]) (by kernel_rfl) (by simp) ?_
        refine (AllReadyH.cons rfl (fun K hK => ?_) AllReadyH.nil)
        go_simp
        (first
    | (go_at_call 17
       refine (row_any _ _ (clnI M1) (clnI M1) _ HO2.out.rd HO3.out.rd (by have := HM1f.out; omega) (by have := HM1f.out; omega)).mono ?_
       rintro e wn ⟨rfl, hb⟩
       rw [decide_eq_true rfl]
       have hb3 : Below wr.heap.size wr wn := hb2.trans (hb.mono hb2.size)
       clear hb)
    | (go_at_call 19
       refine (HRd.out _ (HXb10.out.trans (hb1.mono HXb10.out.size))).mono ?_
       rintro e wm ⟨M2, hM2, hM2f, vm2, he, ho, hb⟩
       rw [he.out]
       have hMe : clnI M2 = clnI M1 := clnI_congr fun x => (hM2.out x).trans (HM1.out x).symm
       have HM1f : Hid ((clnI M1).length ≤ 196) := Lib.hid (by rw [← hMe]; exact Nat.le_trans (len_clnI M2) hM2f.out)
       rw [hMe] at ho
       obtain ⟨am2, cm2, e2⟩ := ho.slice
       subst e2
       have hb2 : Below wr.heap.size wr wm := hb1.trans (hb.mono hb1.size)
       have HO2 := Lib.hid (HO1.out.below hb)
       have HO3 := Lib.hid ho
       clear he ho hb hM2 hM2f hMe)
    | (go_at_call 18
       refine (HRc.out _ (HX10.out.trans (hd0.mono HX10.out.size))).mono ?_
       rintro e wl ⟨M1, hM1, vm1, he, ho, hb⟩
       rw [he.out]
       obtain ⟨am1, cm1, e1⟩ := ho.slice
       subst e1
       have HM1 := hM1
       have hb1 : Below wr.heap.size wr wl := hd0.trans (hb.mono hd0.size)
       have HO1 := Lib.hid ho
       clear he ho hb hM1)
    | fail)
        refine hK.out _ _ ?_ (fun hHeld => ?_)
        · ((first
    | exact HC19.out _ hb3
    | exact HC19.out _ hb2
    | exact HC19.out _ hb1
    | exact HC19.out _ (Below.refl _ _)
    | exact HC19.out _ hd0
    | fail))
        clear hK K
        try simp only [Act.put, List.setIfInBounds_toArray, List.set_cons_zero, List.set_cons_succ, List.getElem_toArray, List.getElem_cons_zero, List.getElem_cons_succ]
        refine wpAnyH_take (i := 7) (v := ?_) rfl (by kernel_rfl) (by kernel_rfl) (by kernel_rfl) (fun _ _ _ h => h) (Or.inl ⟨by rfl, ?_⟩) (by assumption) ?_
        rotate_left
        · (intro w hSw; (try dsimp only at hSw); go_simp; try rfl)
        try simp only [Act.put, List.setIfInBounds_toArray, List.set_cons_zero, List.set_cons_succ, List.getElem_toArray, List.getElem_cons_zero, List.getElem_cons_succ]
        refine wpAnyH_done (by kernel_rfl) ?_ _
        have HX11 := Lib.hid (HX10.out.trans (hb3.mono HX10.out.size))
        have HXb11 := Lib.hid (HXb10.out.trans (hb3.mono HXb10.out.size))
        have HRa11 := Lib.hid (HRa10.out.below hb3)
        have HRb11 := Lib.hid (HRb10.out.below hb3)
        clear HC19 hd0 hb1 hb2 hb3 HO1 HO2 HO3 HM1 HM1f HX10 HXb10 HRa10 HRb10 HA10 HRc HRd
        go_wp2_with fail
        refine (HYc.out _ HX11.out).mono ?_
        rintro e w12 ⟨c1, l1, hri1, _, hl1, hll1, hlo1, ar, cr1, he, hrow, hb⟩
        rw [he.out]
        have HX12 := Lib.hid (HX11.out.trans (hb.mono HX11.out.size))
        have HXb12 := Lib.hid (HXb11.out.trans (hb.mono HXb11.out.size))
        have HRa12 := Lib.hid (HRa11.out.below hb)
        have HRb12 := Lib.hid (HRb11.out.below hb)
        have HL1 := Lib.hid hl1
        have HRi1 := Lib.hid hri1
        have HLl := Lib.hid hll1
        have HRow := Lib.hid hrow
        clear he hri1 hl1 hll1 hlo1 hrow hb HX11 HXb11 HRa11 HRb11
        go_wp2_with fail
        refine (HYd.out _ HXb12.out).mono ?_
        rintro e w13 ⟨S, hS, vs, he, ho, hb⟩
        rw [he.out]
        have hSe : clnI S = l1 := by
          rw [HL1.out]
          exact clnI_congr fun x => by rw [hS.out x, rdy_iff HRi1.out x]
        rw [hSe] at ho
        obtain ⟨asx, csx, es⟩ := ho.slice
        subst es
        have HX13 := Lib.hid (HX12.out.trans (hb.mono HX12.out.size))
        have HRa13 := Lib.hid (HRa12.out.below hb)
        have HRb13 := Lib.hid (HRb12.out.below hb)
        have HRow2 := Lib.hid (HRow.out.below hb)
        have HQ := Lib.hid (row_any _ _ l1 l1 w13 HRow2.out.rd ho.rd (by have := HLl.out; omega) (by have := HLl.out; omega))
        rw [decide_eq_true rfl] at HQ
        clear he ho hb hS hSe HX12 HXb12 HRa12 HRb12 HL1 HRi1 HRow HYc HYd
        go_wp2_with fail
        refine HQ.out.mono ?_
        rintro e w14 ⟨rfl, hb⟩
        have HX14 := Lib.hid (HX13.out.trans (hb.mono HX13.out.size))
        have HRa14 := Lib.hid (HRa13.out.below hb)
        have HRb14 := Lib.hid (HRb13.out.below hb)
        have HFa := Lib.hid (flat_any HRa14.out (by have := HFl.out; omega))
        clear hb HQ HX13 HRa13 HRb13 HRow2 HLl
        go_wp2_with fail
        refine HFa.out.mono ?_
        rintro e w15 ⟨vf, he, ho, hb⟩
        rw [he.out]
        obtain ⟨FL, hFL⟩ : ∃ q, os.flatten = q := ⟨_, rfl⟩
        have hFl := HFl.out
        have HFb := Lib.hid (flat12_any (HRb14.out.below hb) (by have := HFl.out; omega))
        rw [hFL] at ho hFl HFb
        obtain ⟨nf, hnf⟩ : ∃ q, FL.length = q := ⟨_, rfl⟩
        obtain ⟨af, cf, ef⟩ := ho.slice
        rw [hnf] at ef hFl
        subst ef
        have HNf := Lib.hid hnf
        have HX15 := Lib.hid (HX14.out.trans (hb.mono HX14.out.size))
        have HRb15 := Lib.hid (HRb14.out.below hb)
        have HFo := Lib.hid ho
        clear he ho hb HFa HX14 HRa14 HRb14 hFL hnf
        go_wp2_with fail
        refine HFb.out.mono ?_
        rintro e w16 ⟨vf2, he, ho, hb⟩
        rw [he.out]
        obtain ⟨af2, cf2, ef⟩ := ho.slice
        rw [HNf.out] at ef
        subst ef
        have HX16 := Lib.hid (HX15.out.trans (hb.mono HX15.out.size))
        have HFo2 := Lib.hid (HFo.out.below hb)
        have HQ := Lib.hid (row_any _ _ FL FL w16 HFo2.out.rd ho.rd (by rw [HNf.out]; omega) (by rw [HNf.out]; omega))
        rw [decide_eq_true rfl] at HQ
        clear he ho hb HFb HX15 HRb15 HFo
        go_wp2_with fail
        refine HQ.out.mono ?_
        rintro e w17 ⟨rfl, hb⟩
        have HX17 := Lib.hid (HX16.out.trans (hb.mono HX16.out.size))
        clear hb HQ HX16 HFo2 hFl kk1 kk2 kk3 hk hno14 hNv14 hNd14 HFl HNo HNv HRi HSem HG HGb HFw HIo
        go_wp2_with fail
        go_ret
        exact ⟨rfl, HX17.out⟩
  | false =>
    have HL1000 : nv.length ≤ 1000 := by have := HFw.out.few; omega
    have HOb := Lib.hid (order_bad (vd := .slice a2' Nd c2') (HR.out.below HX5.out) HL1000 HVe.out)
    have HYc : Hid (∀ W, Below w.heap.size w W → Calls Try.prog 20 #[.slice av nv.length cv, .slice a2' Nd c2'] W (fun e w' => e = .returned (.slice none 0 0) ∧ Below W.heap.size W w')) := Lib.hid fun W hW => ready_bad (HR.out.below hW) HL1000 HVe.out
    have HYd : Hid (∀ W, Below w5.heap.size w5 W → Calls Try.prog 21 #[.slice b2 nv.length d2, .slice a2' Nd c2'] W (fun e w' => e = .returned (.slice none 0 0) ∧ Below W.heap.size W w')) := Lib.hid fun W hW => ready12_bad (HR2.out.below hW) HL1000 HVe.out
    have HRc : Hid (∀ W, Below w.heap.size w W → Calls Try.prog 18 #[.slice av nv.length cv, .agg #[.int .i64 a1, .int .i64 a2, .int .i64 a3]] W (fun e w' => e = .returned (.slice none 0 0) ∧ Below W.heap.size W w')) := Lib.hid fun W hW => reach_bad (vd := .slice none 0 0) (HR.out.below hW) HL1000 HVe.out a1 a2 a3
    have HRd : Hid (∀ W, Below w5.heap.size w5 W → Calls Try.prog 19 #[.slice b2 nv.length d2, .agg #[.int .i64 a1, .int .i64 a2, .int .i64 a3]] W (fun e w' => e = .returned (.slice none 0 0) ∧ Below W.heap.size W w')) := Lib.hid fun W hW => reach12_bad (vd := .slice none 0 0) (HR2.out.below hW) HL1000 HVe.out a1 a2 a3
    have HRow0 : Hid (∀ W, Calls Try.prog 17 #[.slice none 0 0, .slice none 0 0] W fun e w' => e = .returned (.bool true) ∧ Below W.heap.size W w') := Lib.hid fun W => by
      have q := row_any _ _ [] [] W (Knd.Rd.nil W) (Knd.Rd.nil W) (Nat.zero_le _) (Nat.zero_le _)
      rwa [decide_eq_true rfl] at q
    have HFa : Hid (∀ W, Calls Try.prog 22 #[.slice none 0 0] W (ConP [] W)) := Lib.hid fun W => flat_any (ls := []) ⟨none, 0, rfl, Nat.zero_le _, fun j hj => absurd hj (Nat.not_lt_zero _)⟩ (Nat.zero_le _)
    have HFb : Hid (∀ W, Calls Try.prog 23 #[.slice none 0 0] W (RowP [] W)) := Lib.hid fun W => flat12_any (ls := []) ⟨none, 0, rfl, Nat.zero_le _, fun j hj => absurd hj (Nat.not_lt_zero _)⟩ (Nat.zero_le _)
    obtain ⟨Nv, hNv⟩ : ∃ q, nv.length = q := ⟨_, rfl⟩
    rw [hNv] at HVa HVb HOb HYc HYd HRc HRd
    try rw [hNv]
    try rw [hNd]
    clear hNv hNd HR HR2 HD HO HVe HL1000
    go_wp2_with fail
    refine HOb.out.mono ?_
    rintro e w6 ⟨rfl, hb⟩
    have HXb := Lib.hid hb
    have HX6 := Lib.hid (HX5.out.trans (hb.mono HX5.out.size))
    have HA6 := Lib.hid (Bk.below HA5.out hb)
    clear hb HX5 HA5 HOb
    go_wp2_with fail
    refine (HVb.out w6 HXb.out).mono ?_
    rintro e w7 ⟨rfl, hb⟩
    have HX7 := Lib.hid (HX6.out.trans (hb.mono HX6.out.size))
    have HXb7 := Lib.hid (HXb.out.trans (hb.mono HXb.out.size))
    have HA7 := Lib.hid (Bk.below HA6.out hb)
    clear hb HVb HX6 HXb HA6
    go_wp2_with fail
    refine (HVa.out w7 HX7.out).mono ?_
    rintro e w9 ⟨rfl, hb⟩
    have HX9 := Lib.hid (HX7.out.trans (hb.mono HX7.out.size))
    have HXb9 := Lib.hid (HXb7.out.trans (hb.mono HXb7.out.size))
    have HA9 := Lib.hid (Bk.below HA7.out hb)
    clear hb HVa HX7 HXb7 HA7
    go_wp2_with fail
    go_loopw [12] (fun i wr => i = .int .i64 0 ∧ Hid (Below w9.heap.size w9 wr)) (fun i _ => 0)
    case atStart => exact ⟨rfl, Lib.hid (Below.refl _ _)⟩
    case round =>
      obtain ⟨rfl, HB⟩ := hrel
      have HX10 := Lib.hid (HX9.out.trans (HB.out.mono HX9.out.size))
      have HXb10 := Lib.hid (HXb9.out.trans (HB.out.mono HXb9.out.size))
      have HA10 := Lib.hid (Bk.below HA9.out HB.out)
      have hba := HA10.out
      have c0 := Bk.cell hba 0
      have c1 := Bk.cell hba 1
      have c2 := Bk.cell hba 2
      have hzl := hba.lt
      simp only [List.getElem?_cons_zero, List.getElem?_cons_succ] at c0 c1 c2
      have HC19 : Hid (∀ wq, Below wr.heap.size wr wq → wq.cell? ⟨z0, 0, none⟩ = some (.int .i64 a1) ∧ wq.cell? ⟨z0, 1, none⟩ = some (.int .i64 a2) ∧ wq.cell? ⟨z0, 2, none⟩ = some (.int .i64 a3)) := Lib.hid fun wq hq => ⟨(hq.cell (p := ⟨z0, 0, none⟩) hzl).trans c0, (hq.cell (p := ⟨z0, 1, none⟩) hzl).trans c1, (hq.cell (p := ⟨z0, 2, none⟩) hzl).trans c2⟩
      have hd0 : Below wr.heap.size wr wr.drew := (Below.refl wr.heap.size wr).drew
      clear HB HX9 HXb9 HA9 hba c0 c1 c2 hzl
      go_wp2_with fail
      refine wp_region_held_drew (S := (fun w' => w'.cell? ⟨z0, 0, none⟩ = some (.int .i64 a1) ∧ w'.cell? ⟨z0, 1, none⟩ = some (.int .i64 a2) ∧ w'.cell? ⟨z0, 2, none⟩ = some (.int .i64 a3))) (by kernel_rfl) ?_ (fun hHeld => ?_)
      · ((first
    | exact HC19.out _ hb3
    | exact HC19.out _ hb2
    | exact HC19.out _ hb1
    | exact HC19.out _ (Below.refl _ _)
    | exact HC19.out _ hd0
    | fail))
      refine wpAnyH_take (i := 0) (v := ?_) rfl (by kernel_rfl) (by kernel_rfl) (by kernel_rfl) (fun _ _ _ h => h) (Or.inl ⟨by rfl, ?_⟩) (by assumption) ?_
      rotate_left
      · (intro w hSw; (try dsimp only at hSw); go_simp; try rfl)
      try simp only [Act.put, List.setIfInBounds_toArray, List.set_cons_zero, List.set_cons_succ, List.getElem_toArray, List.getElem_cons_zero, List.getElem_cons_succ]
      refine wpAnyH_take (i := 1) (v := ?_) rfl (by kernel_rfl) (by kernel_rfl) (by kernel_rfl) (fun _ _ _ h => h) (Or.inl ⟨by rfl, ?_⟩) (by assumption) ?_
      rotate_left
      · (intro w hSw; (try dsimp only at hSw); go_simp; try rfl)
      try simp only [Act.put, List.setIfInBounds_toArray, List.set_cons_zero, List.set_cons_succ, List.getElem_toArray, List.getElem_cons_zero, List.getElem_cons_succ]
      refine wpAnyH_take (i := 3) (v := ?_) rfl (by kernel_rfl) (by kernel_rfl) (by kernel_rfl) (fun _ _ _ h => h) (Or.inl ⟨by rfl, ?_⟩) (by assumption) ?_
      rotate_left
      · (intro w hSw; (try dsimp only at hSw); go_simp; try rfl)
      try simp only [Act.put, List.setIfInBounds_toArray, List.set_cons_zero, List.set_cons_succ, List.getElem_toArray, List.getElem_cons_zero, List.getElem_cons_succ]
      refine wpAnyH_take (i := 4) (v := ?_) rfl (by kernel_rfl) (by kernel_rfl) (by kernel_rfl) (fun _ _ _ h => h) (Or.inl ⟨by rfl, ?_⟩) (by assumption) ?_
      rotate_left
      · (intro w hSw; (try dsimp only at hSw); go_simp; try rfl)
      try simp only [Act.put, List.setIfInBounds_toArray, List.set_cons_zero, List.set_cons_succ, List.getElem_toArray, List.getElem_cons_zero, List.getElem_cons_succ]
      refine wpAnyH_ready (rs := [2]) (by kernel_rfl) (by simp) ?_
      refine (AllReadyH.cons rfl (fun K hK => ?_) AllReadyH.nil)
      go_simp
      (first
    | (go_at_call 17
       refine (HRow0.out _).mono ?_
       rintro e wn ⟨rfl, hb⟩
       have hb3 : Below wr.heap.size wr wn := hb2.trans (hb.mono hb2.size)
       clear hb)
    | (go_at_call 19
       refine (HRd.out _ (HXb10.out.trans (hb1.mono HXb10.out.size))).mono ?_
       rintro e wm ⟨rfl, hb⟩
       have hb2 : Below wr.heap.size wr wm := hb1.trans (hb.mono hb1.size)
       clear hb)
    | (go_at_call 18
       refine (HRc.out _ (HX10.out.trans (hd0.mono HX10.out.size))).mono ?_
       rintro e wl ⟨rfl, hb⟩
       have hb1 : Below wr.heap.size wr wl := hd0.trans (hb.mono hd0.size)
       clear hb)
    | fail)
      refine hK.out _ _ ?_ (fun hHeld => ?_)
      · ((first
    | exact HC19.out _ hb3
    | exact HC19.out _ hb2
    | exact HC19.out _ hb1
    | exact HC19.out _ (Below.refl _ _)
    | exact HC19.out _ hd0
    | fail))
      clear hK K
      try simp only [Act.put, List.setIfInBounds_toArray, List.set_cons_zero, List.set_cons_succ, List.getElem_toArray, List.getElem_cons_zero, List.getElem_cons_succ]
      refine wpAnyH_ready (rs := [5]) (by kernel_rfl) (by simp) ?_
      refine (AllReadyH.cons rfl (fun K hK => ?_) AllReadyH.nil)
      go_simp
      (first
    | (go_at_call 17
       refine (HRow0.out _).mono ?_
       rintro e wn ⟨rfl, hb⟩
       have hb3 : Below wr.heap.size wr wn := hb2.trans (hb.mono hb2.size)
       clear hb)
    | (go_at_call 19
       refine (HRd.out _ (HXb10.out.trans (hb1.mono HXb10.out.size))).mono ?_
       rintro e wm ⟨rfl, hb⟩
       have hb2 : Below wr.heap.size wr wm := hb1.trans (hb.mono hb1.size)
       clear hb)
    | (go_at_call 18
       refine (HRc.out _ (HX10.out.trans (hd0.mono HX10.out.size))).mono ?_
       rintro e wl ⟨rfl, hb⟩
       have hb1 : Below wr.heap.size wr wl := hd0.trans (hb.mono hd0.size)
       clear hb)
    | fail)
      refine hK.out _ _ ?_ (fun hHeld => ?_)
      · ((first
    | exact HC19.out _ hb3
    | exact HC19.out _ hb2
    | exact HC19.out _ hb1
    | exact HC19.out _ (Below.refl _ _)
    | exact HC19.out _ hd0
    | fail))
      clear hK K
      try simp only [Act.put, List.setIfInBounds_toArray, List.set_cons_zero, List.set_cons_succ, List.getElem_toArray, List.getElem_cons_zero, List.getElem_cons_succ]
      refine wpAnyH_ready (rs := [6]) (by kernel_rfl) (by simp) ?_
      refine (AllReadyH.cons rfl (fun K hK => ?_) AllReadyH.nil)
      go_simp
      (first
    | (go_at_call 17
       refine (HRow0.out _).mono ?_
       rintro e wn ⟨rfl, hb⟩
       have hb3 : Below wr.heap.size wr wn := hb2.trans (hb.mono hb2.size)
       clear hb)
    | (go_at_call 19
       refine (HRd.out _ (HXb10.out.trans (hb1.mono HXb10.out.size))).mono ?_
       rintro e wm ⟨rfl, hb⟩
       have hb2 : Below wr.heap.size wr wm := hb1.trans (hb.mono hb1.size)
       clear hb)
    | (go_at_call 18
       refine (HRc.out _ (HX10.out.trans (hd0.mono HX10.out.size))).mono ?_
       rintro e wl ⟨rfl, hb⟩
       have hb1 : Below wr.heap.size wr wl := hd0.trans (hb.mono hd0.size)
       clear hb)
    | fail)
      refine hK.out _ _ ?_ (fun hHeld => ?_)
      · ((first
    | exact HC19.out _ hb3
    | exact HC19.out _ hb2
    | exact HC19.out _ hb1
    | exact HC19.out _ (Below.refl _ _)
    | exact HC19.out _ hd0
    | fail))
      clear hK K
      try simp only [Act.put, List.setIfInBounds_toArray, List.set_cons_zero, List.set_cons_succ, List.getElem_toArray, List.getElem_cons_zero, List.getElem_cons_succ]
      refine wpAnyH_take (i := 7) (v := ?_) rfl (by kernel_rfl) (by kernel_rfl) (by kernel_rfl) (fun _ _ _ h => h) (Or.inl ⟨by rfl, ?_⟩) (by assumption) ?_
      rotate_left
      · (intro w hSw; (try dsimp only at hSw); go_simp; try rfl)
      try simp only [Act.put, List.setIfInBounds_toArray, List.set_cons_zero, List.set_cons_succ, List.getElem_toArray, List.getElem_cons_zero, List.getElem_cons_succ]
      refine wpAnyH_done (by kernel_rfl) ?_ _
      have HX11 := Lib.hid (HX10.out.trans (hb3.mono HX10.out.size))
      have HXb11 := Lib.hid (HXb10.out.trans (hb3.mono HXb10.out.size))
      clear HC19 hd0 hb1 hb2 hb3 HX10 HXb10 HA10 HRc HRd
      go_wp2_with fail
      refine (HYc.out _ HX11.out).mono ?_
      rintro e w12 ⟨rfl, hb⟩
      have HX12 := Lib.hid (HX11.out.trans (hb.mono HX11.out.size))
      have HXb12 := Lib.hid (HXb11.out.trans (hb.mono HXb11.out.size))
      clear hb HX11 HXb11
      go_wp2_with fail
      refine (HYd.out _ HXb12.out).mono ?_
      rintro e w13 ⟨rfl, hb⟩
      have HX13 := Lib.hid (HX12.out.trans (hb.mono HX12.out.size))
      clear hb HX12 HXb12 HYc HYd
      go_wp2_with fail
      refine (HRow0.out _).mono ?_
      rintro e w14 ⟨rfl, hb⟩
      have HX14 := Lib.hid (HX13.out.trans (hb.mono HX13.out.size))
      clear hb HX13
      go_wp2_with fail
      refine (HFa.out _).mono ?_
      rintro e w15 ⟨vf, he, ho, hb⟩
      rw [he.out]
      obtain ⟨af, cf, ef⟩ := ho.slice
      subst ef
      have HX15 := Lib.hid (HX14.out.trans (hb.mono HX14.out.size))
      have HFo := Lib.hid ho
      clear he ho hb HFa HX14
      go_wp2_with fail
      refine (HFb.out _).mono ?_
      rintro e w16 ⟨vf2, he, ho, hb⟩
      rw [he.out]
      obtain ⟨af2, cf2, ef⟩ := ho.slice
      subst ef
      have HX16 := Lib.hid (HX15.out.trans (hb.mono HX15.out.size))
      have HFo2 := Lib.hid (HFo.out.below hb)
      have HQ := Lib.hid (row_any _ _ [] [] w16 HFo2.out.rd ho.rd (Nat.zero_le _) (Nat.zero_le _))
      rw [decide_eq_true rfl] at HQ
      clear he ho hb HFb HX15 HFo
      go_wp2_with fail
      refine HQ.out.mono ?_
      rintro e w17 ⟨rfl, hb⟩
      have HX17 := Lib.hid (HX16.out.trans (hb.mono HX16.out.size))
      clear hb HQ HX16 HFo2
      go_wp2
      go_ret
      exact ⟨rfl, HX17.out⟩
end Go.Proofs.Ytlckjpjcfalfnaa
