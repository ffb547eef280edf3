/-
  Graph: GraphSteps.
-/
import Derived.Test.YtlckjpjcfalfnaaLs
import Derived.Test.YtlckjpjcfalfnaaIds8
import Derived.StillTailTactics
namespace Go.Proofs.Ytlckjpjcfalfnaa
open Go.RowKit Go.Sort
open Go.WideMaps
set_option linter.unusedSimpArgs false
set_option linter.unusedVariables false
set_option maxRecDepth 100000

set_option maxHeartbeats 16000000 in
theorem steps_law {w : World} {v : Value} {nv : List NV} (h : NRow w v nv) (kk : Int) :
    Calls Try.prog 6 #[v, .int .i64 kk] w fun e w' => e = .returned (.bool true) ∧ Below w.heap.size w w' := by
  have HX0 : Hid (Below w.heap.size w w) := Lib.hid (Below.refl _ _)
  have hd : IK.Rd w (.slice none 0 0) [] := Knd.Rd.nil w
  have ho : okL [] := fun x hx => by cases hx
  go_enter Try.func6, Try.ntmps6
  go_wp2_with fail
  refine (works_any _).mono ?_
  rintro e w1 ⟨rfl, hb⟩
  have HX1 : Hid (Below w.heap.size w w1) := Lib.hid (HX0.out.trans (hb.mono HX0.out.size))

  have HOv := Lib.hid (over_any (h.below HX1.out) (hd.below HX1.out))
  obtain ⟨B, hB⟩ : ∃ q, overB nv [] = q := ⟨_, rfl⟩
  rw [hB] at HOv
  have HR := Lib.hid h
  have HD := Lib.hid hd
  have HO := Lib.hid ho
  obtain ⟨av, cv, hvv, _, _⟩ := h.el
  subst hvv
  have HBo := Lib.hid hB
  clear hb h hd ho hB HX0
  go_wp2_with fail
  refine HOv.out.mono ?_
  rintro e w2 ⟨rfl, hb⟩
  have HX2 : Hid (Below w.heap.size w w2) := Lib.hid (HX1.out.trans (hb.mono HX1.out.size))
  clear hb HOv HX1
  cases B with
  | true =>
    go_wp2
    go_ret
    exact ⟨rfl, HX2.out⟩
  | false =>
  have HFw := Lib.hid (fw_of HBo.out)
  have HVa := Lib.hid (gvalid_any (HR.out.below HX2.out) (by have := HFw.out.few; omega))
  obtain ⟨V, hV⟩ : ∃ q, decide (nv.length ≤ 1024 ∧ (nv.map (·.d.id)).Nodup) = q := ⟨_, rfl⟩
  rw [hV] at HVa
  have HVe := Lib.hid hV
  clear hV HBo
  go_wp2_with fail
  refine HVa.out.mono ?_
  rintro e w3 ⟨rfl, hb⟩
  have HX3 : Hid (Below w.heap.size w w3) := Lib.hid (HX2.out.trans (hb.mono HX2.out.size))
  clear hb HVa HX2
  cases V with
  | false =>
    go_wp2
    go_ret
    exact ⟨rfl, HX3.out⟩
  | true =>
  have HG : Hid (GrIn w (.slice av nv.length cv) (.slice none 0 0) nv []) := Lib.hid ⟨HR.out, HD.out, HO.out, HFw.out, (of_decide_eq_true HVe.out).2⟩
  obtain ⟨Nv, hNv⟩ : ∃ q, nv.length = q := ⟨_, rfl⟩
  have hNv14 : Nv ≤ 14 := by rw [← hNv]; exact HFw.out.few
  rw [hNv] at HG
  have HNv := Lib.hid hNv
  try rw [hNv]
  clear hNv HR HD HO HVe
  by_cases hk0 : kk < 0
  · have hk1 : decide (kk < 0) = true := decide_eq_true hk0
    go_wp2
    go_ret
    exact ⟨rfl, HX3.out⟩
  obtain ⟨K, rfl⟩ : ∃ K : Nat, kk = K := ⟨kk.toNat, by omega⟩
  have hk1 : decide ((K : Int) < 0) = false := decide_eq_false hk0
  have hk2 : (0 : Int) ≤ (K : Int) := by omega
  have HOr := Lib.hid (HG.out.below HX3.out).order2
  go_upto_region 6 with fail
  clear hk0 hk1
  go_wp2_with fail
  refine HOr.out.mono ?_
  rintro e w4 ⟨v4, cur, os, he, hri, hnd, hos, hrow, hb, a4, c4, hv4, hcap⟩
  rw [he.out]
  subst hv4
  have hsem := ord_sem hos
  have hfew := flat_few hsem hri hnd HFw.out.few
  have HX4 := Lib.hid (HX3.out.trans (hb.mono HX3.out.size))
  have HRi := Lib.hid hri
  have HSem := Lib.hid hsem
  have HFew := Lib.hid hfew
  have HRow := Lib.hid hrow
  obtain ⟨N4, hN4⟩ : ∃ q, os.length = q := ⟨_, rfl⟩
  have hN14 : N4 ≤ 14 := by rw [← hN4]; exact hfew.2
  rw [hN4] at hcap
  have HN4 := Lib.hid hN4
  try rw [hN4]
  clear he hri hnd hos hrow hb HOr HX3 hsem hfew hN4
  by_cases hKN : N4 < K
  · have hg1 : (N4 : Int) < (K : Int) := by omega
    have hg2 : decide ((N4 : Int) < (K : Int)) = true := decide_eq_true hg1
    have hg3 : decide (N4 < K) = true := decide_eq_true hKN
    go_wp2
    go_ret
    exact ⟨rfl, HX4.out⟩
  have hg1 : ¬ (N4 : Int) < (K : Int) := by omega
  have hg2 : decide ((N4 : Int) < (K : Int)) = false := decide_eq_false hg1
  have hg3 : decide (N4 < K) = false := decide_eq_false hKN
  have hkc : (K : Int) ≤ (c4 : Int) := by omega
  have hkc2 : K ≤ c4 := by omega
  have HTk : Hid (RowsAt w4 (.slice a4 K c4) (os.take K)) := Lib.hid (by
    obtain ⟨a', c', e, h1, h2⟩ := HRow.out
    simp only [Value.slice.injEq] at e
    obtain ⟨rfl, -, rfl⟩ := e
    have hl : (os.take K).length = K := by rw [List.length_take, HN4.out]; omega
    refine ⟨a4, c4, by rw [hl], by omega, fun j hj => ?_⟩
    have hj2 : j < os.length := by rw [HN4.out]; omega
    obtain ⟨g, off, b, n', c', ha, hg, hc, hr⟩ := h2 j hj2
    exact ⟨g, off, b, n', c', ha, hg, hc, by rw [List.getElem_take]; exact hr⟩)
  have hfl : (os.take K).flatten.length ≤ 14 := by
    have q := congrArg (fun l => (List.flatten l).length) (List.take_append_drop K os)
    simp only [List.flatten_append, List.length_append] at q
    have := HFew.out.1
    omega
  have HFl := Lib.hid (flat_any HTk.out (by omega))
  have HF14 := Lib.hid hfl
  clear hfl HTk
  go_upto_region 9 with fail
  clear hg1 hg2 hg3
  go_wp2_with fail
  refine HFl.out.mono ?_
  rintro e w5 ⟨v5, he, ho5, hb⟩
  rw [he.out]
  obtain ⟨a5, c5, ev5⟩ := ho5.slice
  obtain ⟨N5, hN5⟩ : ∃ q, (os.take K).flatten.length = q := ⟨_, rfl⟩
  rw [hN5] at ev5
  subst ev5
  have HX5 := Lib.hid (HX4.out.trans (hb.mono HX4.out.size))
  have HRow5 := Lib.hid (HRow.out.below hb)
  have HG5 : Hid (GrIn w5 (.slice av Nv cv) (.slice a5 N5 c5) nv (os.take K).flatten) := Lib.hid ⟨HG.out.row.below HX5.out, ho5.rd, fun x hx => keys_ok HG.out.row.ok HRi.out x ((HSem.out.mem x).1 (by rw [← List.take_append_drop K os, List.flatten_append]; exact List.mem_append_left _ hx)), ⟨HFw.out.few, HFw.out.steps, HF14.out⟩, HG.out.one⟩
  have HOr := Lib.hid HG5.out.order2
  clear he ho5 hb HFl HX4 hN5 HRow hkc hkc2
  go_wp2_with fail
  refine HOr.out.mono ?_
  rintro e w6 ⟨v6, cur', ps, he, hri', hnd', hps, hrow', hb, a6, c6, hv6, hcap6⟩
  rw [he.out]
  subst hv6
  have hpe : ps = os.drop K := (ord_sem hps).uniq (ord_steps HRi.out (by rw [List.take_append_drop]; exact HSem.out) hri')
  obtain ⟨N6, hN6⟩ : ∃ q, ps.length = q := ⟨_, rfl⟩
  have hN64 : N6 = N4 - K := by rw [← hN6, hpe, List.length_drop, HN4.out]
  have hN614 : N6 ≤ 14 := by omega
  rw [hN6]
  have HN6 := Lib.hid hN6
  have HPe := Lib.hid hpe
  have HX6 := Lib.hid (HX5.out.trans (hb.mono HX5.out.size))
  have HRo6 := Lib.hid (HRow5.out.below hb)
  have HRp6 := Lib.hid hrow'
  have hsub : IntKind.i64.wrap ((N4 : Int) - (K : Int)) = (N6 : Int) := by rw [IntKind.wrap_i64]; omega
  have hsub2 : wrap64 ((N4 : Int) - (K : Int)) = (N6 : Int) := by unfold wrap64; omega
  have HNN := Lib.hid hN64
  clear he hri' hnd' hps hrow' hb HOr HX5 HRow5 hpe hN6 hcap6 hcap hN64
  go_upto_region 13 with fail
  clear hsub hsub2
  go_wp2_with fail
  go_loopw [9] (fun i wr => ∃ (k : Nat), k ≤ N6 ∧ i = .int .i64 k ∧ Hid (Below w6.heap.size w6 wr)) (fun i _ => N6 - (intOf i).toNat)
  case atStart => exact ⟨0, Nat.zero_le _, rfl, Lib.hid (Below.refl _ _)⟩
  case round =>
  obtain ⟨i, hi, rfl, HB⟩ := hrel
  by_cases hiN : i < N6
  · have hi1 : (i : Int) < (N6 : Int) := by omega
    have hi2 : decide ((i : Int) < (N6 : Int)) = true := decide_eq_true hi1
    have hi3 : decide (i < N6) = true := decide_eq_true hiN
    obtain ⟨ki, hki⟩ : ∃ q, K + i = q := ⟨_, rfl⟩
    have hkN4 : ki < N4 := by have := HNN.out; omega
    have hil : i < ps.length := by rw [HN6.out]; exact hiN
    have hkl : ki < os.length := by rw [HN4.out]; exact hkN4
    obtain ⟨a', c', e1, -, h1⟩ := HRp6.out.below HB.out
    obtain ⟨a'', c'', e2, -, h2⟩ := HRo6.out.below HB.out
    simp only [Value.slice.injEq] at e1 e2
    obtain ⟨rfl, -, rfl⟩ := e1
    obtain ⟨rfl, -, rfl⟩ := e2
    obtain ⟨gp, fp, bp, np, cp, rfl, hgp, hcp, hrp⟩ := h1 i hil
    obtain ⟨go, fo, bo, no, co, rfl, hgo, hco, hro⟩ := h2 ki hkl
    have hpo : ps[i] = os[ki] := by
      have q : ps[i]? = (os.drop K)[i]? := by rw [HPe.out]
      rw [List.getElem?_drop, hki, List.getElem?_eq_getElem hil, List.getElem?_eq_getElem hkl] at q
      injection q
    have hlp : ps[i].length ≤ 10000 ∧ os[ki].length ≤ 10000 := by
      have q : os[ki].length ≤ os.flatten.length := (List.sublist_flatten_of_mem (List.getElem_mem hkl)).length_le
      have := HFew.out.1
      rw [hpo]
      omega
    have hrt : decide (ps[i] = os[ki]) = true := decide_eq_true hpo
    have HRo : Hid (∀ W, Below wr.heap.size wr W → Calls Try.prog 17 #[.slice bp np cp, .slice bo no co] W fun e w' => e = .returned (.bool (decide (ps[i] = os[ki]))) ∧ Below W.heap.size W w') := Lib.hid fun W hb => row_any _ _ _ _ W (hrp.below hb) (hro.below hb) hlp.1 hlp.2
    have HC16 : Hid (∀ w', Below wr.heap.size wr w' → w'.cell? ⟨gp, fp + i, none⟩ = some (.slice bp np cp) ∧ w'.cell? ⟨go, fo + ki, none⟩ = some (.slice bo no co)) := Lib.hid fun w' hb => ⟨(hb.cell (p := ⟨gp, fp + i, none⟩) hgp).trans hcp, (hb.cell (p := ⟨go, fo + ki, none⟩) hgo).trans hco⟩
    have hadd : IntKind.i64.wrap ((K : Int) + (i : Int)) = (ki : Int) := by rw [IntKind.wrap_i64]; omega
    have hadd2 : wrap64 ((K : Int) + (i : Int)) = (ki : Int) := by unfold wrap64; omega
    have hk1' : (ki : Int) < (N4 : Int) := Int.ofNat_lt.2 hkN4
    have hk2' : decide ((ki : Int) < (N4 : Int)) = true := decide_eq_true hk1'
    clear h1 h2 hgp hcp hrp hgo hco hro hpo hlp
    go_upto_region 16 with fail
    have hd0 : Below wr.heap.size wr wr.drew := (Below.refl _ _).drew
    refine wp_region_held_drew (S := (fun w' => w'.cell? ⟨gp, fp + i, none⟩ = some (.slice bp np cp) ∧ w'.cell? ⟨go, fo + ki, none⟩ = some (.slice bo no co))) (by kernel_rfl) ?_ (fun hHeld => ?_)
    · ((first
  | exact HC16.out _ hbl
  | exact HC16.out _ hd0
  | fail))
    refine wpAnyH_take (i := 0) (v := ?_) rfl (by kernel_rfl) (by kernel_rfl) (by kernel_rfl) (fun _ _ _ h => h) (Or.inl ⟨by rfl, ?_⟩) (by assumption) ?_
    rotate_left
    · (intro w hSw; (try dsimp only at hSw); go_simp; try rfl)
    try simp only [Act.put, List.setIfInBounds_toArray, List.set_cons_zero, List.set_cons_succ, List.getElem_toArray, List.getElem_cons_zero, List.getElem_cons_succ]
    refine wpAnyH_take (i := 1) (v := ?_) rfl (by kernel_rfl) (by kernel_rfl) (by kernel_rfl) (fun _ _ _ h => h) (Or.inl ⟨by rfl, ?_⟩) (by assumption) ?_
    rotate_left
    · (intro w hSw; (try dsimp only at hSw); go_simp; try rfl)
    try simp only [Act.put, List.setIfInBounds_toArray, List.set_cons_zero, List.set_cons_succ, List.getElem_toArray, List.getElem_cons_zero, List.getElem_cons_succ]
    refine wpAnyH_take (i := 2) (v := ?_) rfl (by kernel_rfl) (by kernel_rfl) (by kernel_rfl) (fun _ _ _ h => h) (Or.inl ⟨by rfl, ?_⟩) (by assumption) ?_
    rotate_left
    · (intro w hSw; (try dsimp only at hSw); go_simp; try rfl)
    try simp only [Act.put, List.setIfInBounds_toArray, List.set_cons_zero, List.set_cons_succ, List.getElem_toArray, List.getElem_cons_zero, List.getElem_cons_succ]
    refine wpAnyH_take (i := 3) (v := ?_) rfl (by kernel_rfl) (by kernel_rfl) (by kernel_rfl) (fun _ _ _ h => h) (Or.inl ⟨by rfl, ?_⟩) (by assumption) ?_
    rotate_left
    · (intro w hSw; (try dsimp only at hSw); go_simp; try rfl)
    try simp only [Act.put, List.setIfInBounds_toArray, List.set_cons_zero, List.set_cons_succ, List.getElem_toArray, List.getElem_cons_zero, List.getElem_cons_succ]
    refine wpAnyH_take (i := 4) (v := ?_) rfl (by kernel_rfl) (by kernel_rfl) (by kernel_rfl) (fun _ _ _ h => h) (Or.inl ⟨by rfl, ?_⟩) (by assumption) ?_
    rotate_left
    · (intro w hSw; (try dsimp only at hSw); go_simp; try rfl)
    try simp only [Act.put, List.setIfInBounds_toArray, List.set_cons_zero, List.set_cons_succ, List.getElem_toArray, List.getElem_cons_zero, List.getElem_cons_succ]
    refine wpAnyH_take (i := 5) (v := ?_) rfl (by kernel_rfl) (by kernel_rfl) (by kernel_rfl) (fun _ _ _ h => h) (Or.inl ⟨by rfl, ?_⟩) (by assumption) ?_
    rotate_left
    · (intro w hSw; (try dsimp only at hSw); go_simp; try rfl)
    try simp only [Act.put, List.setIfInBounds_toArray, List.set_cons_zero, List.set_cons_succ, List.getElem_toArray, List.getElem_cons_zero, List.getElem_cons_succ]
    refine wpAnyH_take (i := 6) (v := ?_) rfl (by kernel_rfl) (by kernel_rfl) (by kernel_rfl) (fun _ _ _ h => h) (Or.inl ⟨by rfl, ?_⟩) (by assumption) ?_
    rotate_left
    · (intro w hSw; (try dsimp only at hSw); go_simp; try rfl)
    try simp only [Act.put, List.setIfInBounds_toArray, List.set_cons_zero, List.set_cons_succ, List.getElem_toArray, List.getElem_cons_zero, List.getElem_cons_succ]
    refine wpAnyH_take (i := 7) (v := ?_) rfl (by kernel_rfl) (by kernel_rfl) (by kernel_rfl) (fun _ _ _ h => h) (Or.inl ⟨by rfl, ?_⟩) (by assumption) ?_
    rotate_left
    · (intro w hSw; (try dsimp only at hSw); go_simp; try rfl)
    try simp only [Act.put, List.setIfInBounds_toArray, List.set_cons_zero, List.set_cons_succ, List.getElem_toArray, List.getElem_cons_zero, List.getElem_cons_succ]
    refine wpAnyH_take (i := 8) (v := ?_) rfl (by kernel_rfl) (by kernel_rfl) (by kernel_rfl) (fun _ _ _ h => h) (Or.inl ⟨by rfl, ?_⟩) (by assumption) ?_
    rotate_left
    · (intro w hSw; (try dsimp only at hSw); go_simp; try rfl)
    try simp only [Act.put, List.setIfInBounds_toArray, List.set_cons_zero, List.set_cons_succ, List.getElem_toArray, List.getElem_cons_zero, List.getElem_cons_succ]
    refine wpAnyH_take (i := 9) (v := ?_) rfl (by kernel_rfl) (by kernel_rfl) (by kernel_rfl) (fun _ _ _ h => h) (Or.inl ⟨by rfl, ?_⟩) (by assumption) ?_
    rotate_left
    · (intro w hSw; (try dsimp only at hSw); go_simp; try rfl)
    try simp only [Act.put, List.setIfInBounds_toArray, List.set_cons_zero, List.set_cons_succ, List.getElem_toArray, List.getElem_cons_zero, List.getElem_cons_succ]
    refine wpAnyH_ready (rs := [10]) (by kernel_rfl) (by simp) ?_
    refine (AllReadyH.cons rfl (fun K hK => ?_) AllReadyH.nil)
    go_simp
    (go_at_call 17; refine (HRo.out _ hd0).mono ?_; rintro e wl ⟨rfl, hb⟩; have hbl : Below wr.heap.size wr wl := hd0.trans (hb.mono hd0.size))
    refine hK.out _ _ ?_ (fun hHeld => ?_)
    · ((first
  | exact HC16.out _ hbl
  | exact HC16.out _ hd0
  | fail))
    clear hK K
    try simp only [Act.put, List.setIfInBounds_toArray, List.set_cons_zero, List.set_cons_succ, List.getElem_toArray, List.getElem_cons_zero, List.getElem_cons_succ]
    refine wpAnyH_take (i := 11) (v := ?_) rfl (by kernel_rfl) (by kernel_rfl) (by kernel_rfl) (fun _ _ _ h => h) (Or.inl ⟨by rfl, ?_⟩) (by assumption) ?_
    rotate_left
    · (intro w hSw; (try dsimp only at hSw); go_simp; try rfl)
    try simp only [Act.put, List.setIfInBounds_toArray, List.set_cons_zero, List.set_cons_succ, List.getElem_toArray, List.getElem_cons_zero, List.getElem_cons_succ]
    refine wpAnyH_done (by kernel_rfl) ?_ _
    clear HC16 hb
    have HBl := Lib.hid (HB.out.trans (hbl.mono HB.out.size))
    clear hbl HB hd0
    simp only [hrt]
    clear hrt hadd hadd2 hk1' hk2' hi1 hi2 hi3
    go_wp2_with fail
    go_roundw
    case rel => exact ⟨i + 1, by omega, by go_num, HBl⟩
    case measure => simp [intOf]; omega
  · obtain rfl : i = N6 := by omega
    have hi2 : decide ((i : Int) < (i : Int)) = false := decide_eq_false (by omega)
    have hi3 : decide (i < i) = false := decide_eq_false (by omega)
    have HX9 := Lib.hid (HX6.out.trans (HB.out.mono HX6.out.size))
    clear HB HX6
    go_wp2
    go_ret
    exact ⟨rfl, HX9.out⟩
end Go.Proofs.Ytlckjpjcfalfnaa
