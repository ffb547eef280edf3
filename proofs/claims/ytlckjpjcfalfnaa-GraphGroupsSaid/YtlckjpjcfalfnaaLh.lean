/-
  Graph: GraphGroups.
-/
import Derived.Test.YtlckjpjcfalfnaaLd
import Derived.Test.YtlckjpjcfalfnaaIds7
namespace Go.Proofs.Ytlckjpjcfalfnaa
open Go.RowKit Go.Sort
open Go.WideMaps
set_option linter.unusedSimpArgs false
set_option linter.unusedVariables false
set_option maxRecDepth 100000

theorem rch_cur {web cur : List (I3 × NV)} (hr : RdyIs web cur []) {x y : I3} (hx : x ∈ keysV cur) (h : Rch (stepsV web) x y) : Rch (eV cur) x y := by
  have hcl : ∀ z ∈ keysV cur, ∀ d ∈ stepsV web z, d ∈ keysV cur ∧ d ∈ eV cur z := fun z hz d hd => by
    have q : d ∈ keysV cur := (hr.closed z hz d hd).elim (fun q => by cases q) id
    exact ⟨q, mem_eV.2 ⟨by rw [cur_steps hr hz]; exact hd, by rw [getV_isSome, hasI_iff]; exact q⟩⟩
  have go : Rch (eV cur) x y ∧ y ∈ keysV cur := by
    induction h with
    | one hd => exact ⟨.one (hcl x hx _ hd).2, (hcl x hx _ hd).1⟩
    | more _ hd ih => exact ⟨.more ih.1 (hcl _ ih.2 _ hd).2, (hcl _ ih.2 _ hd).1⟩
  exact go.1
theorem rch_web {web cur : List (I3 × NV)} {dn : List I3} (hr : RdyIs web cur dn) {x y : I3} (h : Rch (eV cur) x y) : x ∈ keysV cur → Rch (stepsV web) x y := by
  intro hx
  have hk : ∀ z, Rch (eV cur) x z → z ∈ keysV cur := fun z hz => by
    cases hz with
    | one hd => have := (mem_eV.1 hd).2; rwa [getV_isSome, hasI_iff] at this
    | more _ hd => have := (mem_eV.1 hd).2; rwa [getV_isSome, hasI_iff] at this
  induction h with
  | one hd => exact .one (by rw [← cur_steps hr hx]; exact (mem_eV.1 hd).1)
  | more h1 hd ih => exact .more ih (by rw [← cur_steps hr (hk _ h1)]; exact (mem_eV.1 hd).1)
/-- Two of one group lead to each other. -/
theorem grp_same {web cur : List (I3 × NV)} {os o1 o2 p1 p2 : List (List I3)} {g k : List I3} (h : OrdSem cur os) (hr : RdyIs web cur []) (e : os = o1 ++ g :: o2) (e2 : os = p1 ++ k :: p2) {x y : I3} (hx : x ∈ g) (hy : y ∈ k) : g = k → ¬ x = y → Rch (stepsV web) x y ∧ Rch (stepsV web) y x := fun q hne => by
  subst q
  have hg : g ∈ os := by rw [e]; simp
  have hk : ∀ z ∈ g, z ∈ keysV cur := fun z hz => (h.mem z).1 (List.mem_flatten.2 ⟨g, hg, hz⟩)
  refine ⟨?_, ?_⟩
  · rcases h.mutu g hg x hx y hy with r | r
    · exact absurd r hne
    · exact rch_web hr r (hk x hx)
  · rcases h.mutu g hg y hy x hx with r | r
    · exact absurd r.symm hne
    · exact rch_web hr r (hk y hy)
theorem grp_one {cur : List (I3 × NV)} {os : List (List I3)} (h : OrdSem cur os) {i j : Nat} (hi : i < os.length) (hj : j < os.length) {x y : I3} (hx : x ∈ os[i]) (hy : y ∈ os[j]) : (x = y ∨ (Rch (eV cur) x y ∧ Rch (eV cur) y x)) → i = j := fun q => by
  have hyi : y ∈ os[i] := by
    rcases q with q | q
    · rw [← q]; exact hx
    · have e : os = os.take i ++ os[i] :: os.drop (i + 1) := by
        have q : os.drop i = os[i] :: os.drop (i + 1) := List.drop_eq_getElem_cons hi
        rw [← q, List.take_append_drop]
      exact h.class' e hx q.1 q.2
  have hn := h.nd
  unfold List.Nodup at hn
  rw [List.pairwise_flatten] at hn
  have hp := hn.2
  rcases Nat.lt_trichotomy i j with r | r | r
  · exact absurd rfl (List.pairwise_iff_getElem.1 hp i j hi hj r y hyi y hy)
  · exact r
  · exact absurd rfl (List.pairwise_iff_getElem.1 hp j i hj hi r y hy y hyi)
set_option maxHeartbeats 16000000 in
theorem groups_law {w : World} {v : Value} {nv : List NV} (h : NRow w v nv) :
    Calls Try.prog 8 #[v] w fun e w' => e = .returned (.bool true) ∧ Below w.heap.size w w' := by
  have HX0 : Hid (Below w.heap.size w w) := Lib.hid (Below.refl _ _)
  have hd : IK.Rd w (.slice none 0 0) [] := Knd.Rd.nil w
  have ho : okL [] := fun x hx => by cases hx
  go_enter Try.func8, Try.ntmps8
  go_wp2_with fail
  refine (works_any _).mono ?_
  rintro e w1 ⟨rfl, hb⟩
  have HX1 : Hid (Below w.heap.size w w1) := Lib.hid (HX0.out.trans (hb.mono HX0.out.size))

  have HOv := Lib.hid (over_any (h.below HX1.out) (hd.below HX1.out))
  obtain ⟨B, hB⟩ : ∃ q, overB nv [] = q := ⟨_, rfl⟩
  rw [hB] at HOv
  have HR := Lib.hid h
  have HD := Lib.hid hd
  have HO := Lib.hid ho
  obtain ⟨av, cv, hvv, _, _⟩ := h.el
  subst hvv
  have HBo := Lib.hid hB
  clear hb h hd ho hB HX0
  go_wp2_with fail
  refine HOv.out.mono ?_
  rintro e w2 ⟨rfl, hb⟩
  have HX2 : Hid (Below w.heap.size w w2) := Lib.hid (HX1.out.trans (hb.mono HX1.out.size))
  clear hb HOv HX1
  cases B with
  | true =>
    go_wp2
    go_ret
    exact ⟨rfl, HX2.out⟩
  | false =>
  have HFw := Lib.hid (fw_of HBo.out)
  have HVa := Lib.hid (gvalid_any (HR.out.below HX2.out) (by have := HFw.out.few; omega))
  obtain ⟨V, hV⟩ : ∃ q, decide (nv.length ≤ 1024 ∧ (nv.map (·.d.id)).Nodup) = q := ⟨_, rfl⟩
  rw [hV] at HVa
  have HVe := Lib.hid hV
  clear hV HBo
  go_wp2_with fail
  refine HVa.out.mono ?_
  rintro e w3 ⟨rfl, hb⟩
  have HX3 : Hid (Below w.heap.size w w3) := Lib.hid (HX2.out.trans (hb.mono HX2.out.size))
  clear hb HVa HX2
  cases V with
  | false =>
    go_wp2
    go_ret
    exact ⟨rfl, HX3.out⟩
  | true =>
  have HG : Hid (GrIn w (.slice av nv.length cv) (.slice none 0 0) nv []) := Lib.hid ⟨HR.out, HD.out, HO.out, HFw.out, (of_decide_eq_true HVe.out).2⟩
  obtain ⟨Nv, hNv⟩ : ∃ q, nv.length = q := ⟨_, rfl⟩
  have hNv14 : Nv ≤ 14 := by rw [← hNv]; exact HFw.out.few
  rw [hNv] at HG
  have HNv := Lib.hid hNv
  try rw [hNv]
  clear hNv HR HD HO HVe
  have HOr := Lib.hid (HG.out.below HX3.out).order
  go_upto_region 6 with fail
  go_wp2_with fail
  refine HOr.out.mono ?_
  rintro e w4 ⟨v4, cur, os, he, hri, hnd, hos, hrow, hb⟩
  rw [he.out]
  have hsem := ord_sem hos
  have hfew := flat_few hsem hri hnd HFw.out.few
  have HX4 := Lib.hid (HX3.out.trans (hb.mono HX3.out.size))
  obtain ⟨a4, c4, hv4, h4len, hel4⟩ := hrow
  obtain ⟨N4, hN4⟩ : ∃ q, os.length = q := ⟨_, rfl⟩
  rw [hN4] at hv4
  subst hv4
  have HRw : Hid (∀ (j : Nat) (hj : j < os.length), ∃ g off b n' c', a4 = some ⟨g, off, none⟩ ∧ (∀ W, Below w4.heap.size w4 W → W.cell? ⟨g, off + j, none⟩ = some (.slice b n' c') ∧ IK.Rd W (.slice b n' c') os[j])) := Lib.hid fun j hj => by
    obtain ⟨g, off, b, n', c', ha, hg, hc, hr⟩ := hel4 j hj
    exact ⟨g, off, b, n', c', ha, fun W hb2 => ⟨(hb2.cell (p := ⟨g, off + j, none⟩) hg).trans hc, hr.below hb2⟩⟩
  have hN414 : N4 ≤ 14 := by rw [← hN4]; exact hfew.2
  have HRi := Lib.hid hri
  have HSem := Lib.hid hsem
  have HFew := Lib.hid hfew
  have HN4 := Lib.hid hN4
  have HKo : Hid (okL (keysV cur)) := Lib.hid (keys_ok HG.out.row.ok HRi.out)
  have HCut : Hid (∀ j (hj : j < os.length), os = os.take j ++ os[j] :: os.drop (j + 1)) := Lib.hid fun j hj => by
    have q : os.drop j = os[j] :: os.drop (j + 1) := List.drop_eq_getElem_cons hj
    rw [← q, List.take_append_drop]
  have HMem : Hid (∀ j (hj : j < os.length), ∀ x ∈ os[j], x ∈ keysV cur) := Lib.hid fun j hj x hx => (HSem.out.mem x).1 (List.mem_flatten.2 ⟨_, List.getElem_mem hj, hx⟩)
  have HLen : Hid (∀ j (hj : j < os.length), os[j].length ≤ 14) := Lib.hid fun j hj => by
    have q : os[j].length ≤ os.flatten.length := (List.sublist_flatten_of_mem (List.getElem_mem hj)).length_le
    have := HFew.out.1
    omega
  clear he hri hnd hos hb HOr HX3 hsem hfew h4len hel4 hN4
  go_wp2_with fail
  go_loopw [5] (fun q wr => ∃ (i : Nat), i ≤ N4 ∧ q = .int .i64 i ∧ Hid (Below w4.heap.size w4 wr)) (fun q _ => N4 - (intOf q).toNat)
  case atStart => exact ⟨0, Nat.zero_le _, rfl, Lib.hid (Below.refl _ _)⟩
  case round =>
  obtain ⟨i, hi, rfl, HB⟩ := hrel
  by_cases hiN : i < N4
  · have hi1 : (i : Int) < (N4 : Int) := by omega
    have hi2 : decide ((i : Int) < (N4 : Int)) = true := decide_eq_true hi1
    have hi3 : decide (i < N4) = true := decide_eq_true hiN
    have hil : i < os.length := by rw [HN4.out]; exact hiN
    obtain ⟨go, fo, bo, no, co, rfl, hcell⟩ := HRw.out i hil
    have hci := HCut.out i hil
    have hmi := HMem.out i hil
    have hli := HLen.out i hil
    obtain ⟨gi, hgi⟩ : ∃ q, os[i] = q := ⟨_, rfl⟩
    rw [hgi] at hci hmi hli
    simp only [hgi] at hcell
    have hno : no = gi.length := by obtain ⟨_, _, e⟩ := (hcell w4 (Below.refl _ _)).2.slice; simp only [Value.slice.injEq] at e; exact e.2.1
    have hno14 : no ≤ 14 := by omega
    have HOw := Lib.hid hcell
    have HCi := Lib.hid hci
    have HMi := Lib.hid hmi
    have HNo := Lib.hid hno
    have HGi := Lib.hid hgi
    obtain ⟨hco, -⟩ := hcell _ HB.out
    clear hcell hci hmi hli hno hgi
    go_wp2_with fail
    clear hco
    go_loopw [6] (fun q wr => ∃ (k : Nat), k ≤ no ∧ q = .int .i64 k ∧ Hid (Below w4.heap.size w4 wr)) (fun q _ => no - (intOf q).toNat)
    case atStart => exact ⟨0, Nat.zero_le _, rfl, HB⟩
    case round =>
    clear HB
    obtain ⟨k, hk, rfl, HB⟩ := hrel
    obtain ⟨hco, hro⟩ := HOw.out _ HB.out
    by_cases hkN : k < no
    · have hk1 : (k : Int) < (no : Int) := by omega
      have hk2 : decide ((k : Int) < (no : Int)) = true := decide_eq_true hk1
      have hk3 : decide (k < no) = true := decide_eq_true hkN
      have hkl : k < gi.length := by rw [← HNo.out]; exact hkN
      obtain ⟨x, hx⟩ : ∃ x, gi[k] = x := ⟨_, rfl⟩
      have hxm : x ∈ gi := by rw [← hx]; exact List.getElem_mem hkl
      have hxo := HKo.out x (HMi.out x hxm)
      obtain ⟨-, gb, ob, hbo, hgb, hcb⟩ := hro.at (by intro e; rw [e] at hkl; simp at hkl)
      subst hbo
      have eK : IK.k = 3 := rfl
      have hc := hcb k (by rw [HNo.out]; exact hkl)
      have eg : gi.getD k IK.d = gi[k] := getD_at hkl
      rw [eg, eK, hx] at hc
      obtain ⟨x1, x2, x3⟩ := x
      have p0 : wr.cell? ⟨gb, ob + k * 3, none⟩ = some (.int .i64 x1) := hc 0 _ rfl
      have p1 : wr.cell? ⟨gb, ob + k * 3 + 1, none⟩ = some (.int .i64 x2) := hc 1 _ rfl
      have p2 : wr.cell? ⟨gb, ob + k * 3 + 2, none⟩ = some (.int .i64 x3) := hc 2 _ rfl
      obtain ⟨bx, hbx⟩ : ∃ q, wr.heap.size = q := ⟨_, rfl⟩
      obtain ⟨wf, hwf⟩ : ∃ q, wr.alloc (.cells #[.int .i64 x1, .int .i64 x2, .int .i64 x3] 25) = q := ⟨_, rfl⟩
      have hbf : Below wr.heap.size wr wf := by rw [← hwf]; exact (Below.refl _ _).alloc (Nat.le_refl _) _
      have HXf : Hid (Bk wf bx 25 [.int .i64 x1, .int .i64 x2, .int .i64 x3]) := Lib.hid (by rw [← hwf]; exact Bk.newAg hbx _ [.int .i64 x1, .int .i64 x2, .int .i64 x3])
      have HBf := Lib.hid (HB.out.trans (hbf.mono HB.out.size))
      have HRe := Lib.hid ((HG.out.below (HX4.out.trans (HBf.out.mono HX4.out.size))).reach x1 x2 x3 hxo)
      have HXm := Lib.hid hxm
      have HXk := Lib.hid hx
      clear hx hxm hxo hgb hcb hc eK eg hro hbf
      go_upto_region 14 with fail
      try rw [hwf]
      try rw [hbx]
      clear hwf hbx p0 p1 p2 HB hco
      have r0 := Bk.cell HXf.out 0
      have r1 := Bk.cell HXf.out 1
      have r2 := Bk.cell HXf.out 2
      simp only [List.getElem?_cons_zero, List.getElem?_cons_succ] at r0 r1 r2
      go_wp2_with fail
      refine HRe.out.mono ?_
      rintro e w5 ⟨r, hr, hrl, hrO, ar, cr, he, hrow, hb⟩
      rw [he.out]
      obtain ⟨Nr, hNr⟩ : ∃ q, r.length = q := ⟨_, rfl⟩
      rw [hNr] at hrow hrl ⊢
      have HR5 := Lib.hid hrow
      have HRm := Lib.hid hr
      have HNr := Lib.hid hNr
      have HX5 := Lib.hid (Bk.below HXf.out hb)
      have HB5 := Lib.hid (HBf.out.trans (hb.mono HBf.out.size))
      clear he hr hrO hNr hrow hb HRe r0 r1 r2 HXf HBf
      go_wp2_with fail
      go_loopw [9] (fun q wr => ∃ (j : Nat), j ≤ N4 ∧ q = .int .i64 j ∧ Hid (Below w5.heap.size w5 wr)) (fun q _ => N4 - (intOf q).toNat)
      case atStart => exact ⟨0, Nat.zero_le _, rfl, Lib.hid (Below.refl _ _)⟩
      case round =>
      obtain ⟨j, hj, rfl, HBj⟩ := hrel
      have HB4j := Lib.hid (HB5.out.trans (HBj.out.mono HB5.out.size))
      by_cases hjN : j < N4
      · have hj1 : (j : Int) < (N4 : Int) := by omega
        have hj2 : decide ((j : Int) < (N4 : Int)) = true := decide_eq_true hj1
        have hj3 : decide (j < N4) = true := decide_eq_true hjN
        have hjl : j < os.length := by rw [HN4.out]; exact hjN
        obtain ⟨go', fo', bj, nj, cj, hgo', hcellj⟩ := HRw.out j hjl
        simp only [Option.some.injEq, Addr.mk.injEq, and_true] at hgo'
        obtain ⟨rfl, rfl⟩ := hgo'
        have hcj := HCut.out j hjl
        have hmj := HMem.out j hjl
        have hlj := HLen.out j hjl
        obtain ⟨gj, hgj⟩ : ∃ q, os[j] = q := ⟨_, rfl⟩
        rw [hgj] at hcj hmj hlj
        simp only [hgj] at hcellj
        have hnj : nj = gj.length := by obtain ⟨_, _, e⟩ := (hcellj w4 (Below.refl _ _)).2.slice; simp only [Value.slice.injEq] at e; exact e.2.1
        have hnj14 : nj ≤ 14 := by omega
        have HOj := Lib.hid hcellj
        have HCj := Lib.hid hcj
        have HMj := Lib.hid hmj
        have HNj := Lib.hid hnj
        have HGj := Lib.hid hgj
        obtain ⟨hco, -⟩ := hcellj _ HB4j.out
        clear hcellj hcj hmj hlj hnj hgj
        go_wp2_with fail
        clear hco
        go_loopw [10] (fun q wr => ∃ (n : Nat), n ≤ nj ∧ q = .int .i64 n ∧ Hid (Below w5.heap.size w5 wr)) (fun q _ => nj - (intOf q).toNat)
        case atStart => exact ⟨0, Nat.zero_le _, rfl, HBj⟩
        case round =>
        clear HBj HB4j
        obtain ⟨n, hn, rfl, HBn⟩ := hrel
        have HB4n := Lib.hid (HB5.out.trans (HBn.out.mono HB5.out.size))
        obtain ⟨hco, hrj⟩ := HOj.out _ HB4n.out
        by_cases hnN : n < nj
        · have hn1 : (n : Int) < (nj : Int) := by omega
          have hn2 : decide ((n : Int) < (nj : Int)) = true := decide_eq_true hn1
          have hn3 : decide (n < nj) = true := decide_eq_true hnN
          have hnl : n < gj.length := by rw [← HNj.out]; exact hnN
          obtain ⟨y, hy⟩ : ∃ y, gj[n] = y := ⟨_, rfl⟩
          have hym : y ∈ gj := by rw [← hy]; exact List.getElem_mem hnl
          have hyo := HKo.out y (HMj.out y hym)
          obtain ⟨-, gd, od, hbj, hgd, hcd⟩ := hrj.at (by intro e; rw [e] at hnl; simp at hnl)
          subst hbj
          have eK : IK.k = 3 := rfl
          have hc := hcd n (by rw [HNj.out]; exact hnl)
          have eg : gj.getD n IK.d = gj[n] := getD_at hnl
          rw [eg, eK, hy] at hc
          have hsame := grp_same HSem.out HRi.out HCi.out HCj.out HXm.out hym
          have hone := grp_one HSem.out (i := i) (j := j) (by rw [HN4.out]; exact hiN) (by rw [HN4.out]; exact hjN) (by rw [HGi.out]; exact HXm.out) (y := y) (by rw [HGj.out]; exact hym)
          obtain ⟨y1, y2, y3⟩ := y
          have p0 : wr.cell? ⟨gd, od + n * 3, none⟩ = some (.int .i64 y1) := hc 0 _ rfl
          have p1 : wr.cell? ⟨gd, od + n * 3 + 1, none⟩ = some (.int .i64 y2) := hc 1 _ rfl
          have p2 : wr.cell? ⟨gd, od + n * 3 + 2, none⟩ = some (.int .i64 y3) := hc 2 _ rfl
          obtain ⟨bd, hbd⟩ : ∃ q, wr.heap.size = q := ⟨_, rfl⟩
          obtain ⟨wg, hwg⟩ : ∃ q, wr.alloc (.cells #[.int .i64 y1, .int .i64 y2, .int .i64 y3] 25) = q := ⟨_, rfl⟩
          have hbg : Below wr.heap.size wr wg := by rw [← hwg]; exact (Below.refl _ _).alloc (Nat.le_refl _) _
          have hbk : Bk wg bd 25 [.int .i64 y1, .int .i64 y2, .int .i64 y3] := by rw [← hwg]; exact Bk.newAg hbd _ [.int .i64 y1, .int .i64 y2, .int .i64 y3]
          have HBg := Lib.hid (HBn.out.trans (hbg.mono HBn.out.size))
          have hbkx := Bk.below HX5.out HBg.out
          have HC22 : Hid (∀ w', Below wg.heap.size wg w' → w'.cell? ⟨bx, 0, none⟩ = some (.int .i64 x1) ∧ w'.cell? ⟨bx, 1, none⟩ = some (.int .i64 x2) ∧ w'.cell? ⟨bx, 2, none⟩ = some (.int .i64 x3) ∧ w'.cell? ⟨bd, 0, none⟩ = some (.int .i64 y1) ∧ w'.cell? ⟨bd, 1, none⟩ = some (.int .i64 y2) ∧ w'.cell? ⟨bd, 2, none⟩ = some (.int .i64 y3)) := Lib.hid fun w' hb => ⟨(Bk.below hbkx hb).cell 0, (Bk.below hbkx hb).cell 1, (Bk.below hbkx hb).cell 2, (Bk.below hbk hb).cell 0, (Bk.below hbk hb).cell 1, (Bk.below hbk hb).cell 2⟩
          have HA1 : Hid (∀ W, Below wg.heap.size wg W → Calls Try.prog 26 #[.slice ar Nr cr, .agg #[.int .i64 y1, .int .i64 y2, .int .i64 y3]] W (AtP r (y1, y2, y3) W)) := Lib.hid fun W hb => at_any (HR5.out.below (HBg.out.trans (hb.mono HBg.out.size))).rd (by rw [HNr.out]; omega) _ _ _
          have HA2 := Lib.hid (fun W (hb : Below wg.heap.size wg W) => (HG.out.below (HX4.out.trans ((HB5.out.trans ((HBg.out.trans (hb.mono HBg.out.size)).mono HB5.out.size)).mono HX4.out.size))).reach y1 y2 y3 hyo)
          have HSame := Lib.hid hsame
          have HYk := Lib.hid (HMj.out _ hym)
          have HOne := Lib.hid hone
          obtain ⟨heq1, hqg⟩ := eqI_run x1 x2 x3 y1 y2 y3
          clear hnl hrj hcd hc eK eg hym hy hyo hgd hbg hbk hbkx hsame hone HBn HB4n
          go_upto_region 22 with fail
          try rw [hwg]
          try rw [hbd]
          clear hwg hbd p0 p1 p2 hn1 hn2 hn3 hco hk1 hk2 hk3 hi1 hi2 hi3 hj1 hj2 hj3
          have hd0 : Below wg.heap.size wg wg.drew := (Below.refl _ _).drew
          by_cases hij : i = j
          · by_cases hxy : ((x1, x2, x3) : I3) = (y1, y2, y3)
            · have hne : decide (((x1, x2, x3) : I3) = (y1, y2, y3)) = true := decide_eq_true hxy
              rw [hne] at heq1
              clear hxy hne HA1 HA2
              refine wp_region_held_drew (S := (fun w' => w'.cell? ⟨bx, 0, none⟩ = some (.int .i64 x1) ∧ w'.cell? ⟨bx, 1, none⟩ = some (.int .i64 x2) ∧ w'.cell? ⟨bx, 2, none⟩ = some (.int .i64 x3) ∧ w'.cell? ⟨bd, 0, none⟩ = some (.int .i64 y1) ∧ w'.cell? ⟨bd, 1, none⟩ = some (.int .i64 y2) ∧ w'.cell? ⟨bd, 2, none⟩ = some (.int .i64 y3))) (by kernel_rfl) ?_ (fun hHeld => ?_)
              · ((first
              | exact HC22.out _ hb3
              | exact HC22.out _ hb2
              | exact HC22.out _ hb1
              | exact HC22.out _ hd0
              | fail))
              refine wpAnyH_take (i := 0) (v := ?_) rfl (by kernel_rfl) (by kernel_rfl) (by kernel_rfl) (fun _ _ _ h => h) (Or.inl ⟨by rfl, ?_⟩) (by assumption) ?_
              rotate_left
              · (intro w hSw; (try dsimp only at hSw); go_simp; try rfl)
              try simp only [Act.put, List.setIfInBounds_toArray, List.set_cons_zero, List.set_cons_succ, List.getElem_toArray, List.getElem_cons_zero, List.getElem_cons_succ]
              refine wpAnyH_take (i := 1) (v := ?_) rfl (by kernel_rfl) (by kernel_rfl) (by kernel_rfl) (fun _ _ _ h => h) (Or.inl ⟨by rfl, ?_⟩) (by assumption) ?_
              rotate_left
              · (intro w hSw; (try dsimp only at hSw); go_simp; try rfl)
              try simp only [Act.put, List.setIfInBounds_toArray, List.set_cons_zero, List.set_cons_succ, List.getElem_toArray, List.getElem_cons_zero, List.getElem_cons_succ]
              refine wpAnyH_take (i := 2) (v := ?_) rfl (by kernel_rfl) (by kernel_rfl) (by kernel_rfl) (fun _ _ _ h => h) (Or.inl ⟨by rfl, ?_⟩) (by assumption) ?_
              rotate_left
              · (intro w hSw; (try dsimp only at hSw); go_simp; try rfl)
              try simp only [Act.put, List.setIfInBounds_toArray, List.set_cons_zero, List.set_cons_succ, List.getElem_toArray, List.getElem_cons_zero, List.getElem_cons_succ]
              refine wpAnyH_take (i := 3) (v := ?_) rfl (by kernel_rfl) (by kernel_rfl) (by kernel_rfl) (fun _ _ _ h => h) (Or.inl ⟨by rfl, ?_⟩) (by assumption) ?_
              rotate_left
              · (intro w hSw; (try dsimp only at hSw); go_simp; try rfl)
              try simp only [Act.put, List.setIfInBounds_toArray, List.set_cons_zero, List.set_cons_succ, List.getElem_toArray, List.getElem_cons_zero, List.getElem_cons_succ]
              refine wpAnyH_take (i := 4) (v := undef) rfl (by kernel_rfl) (by kernel_rfl) (by kernel_rfl) (fun _ _ _ h => h) (Or.inr ⟨by rfl, rfl⟩) (by assumption) ?_
              try simp only [Act.put, List.setIfInBounds_toArray, List.set_cons_zero, List.set_cons_succ, List.getElem_toArray, List.getElem_cons_zero, List.getElem_cons_succ]
              refine wpAnyH_take (i := 5) (v := undef) rfl (by kernel_rfl) (by kernel_rfl) (by kernel_rfl) (fun _ _ _ h => h) (Or.inr ⟨by rfl, rfl⟩) (by assumption) ?_
              try simp only [Act.put, List.setIfInBounds_toArray, List.set_cons_zero, List.set_cons_succ, List.getElem_toArray, List.getElem_cons_zero, List.getElem_cons_succ]
              refine wpAnyH_take (i := 6) (v := undef) rfl (by kernel_rfl) (by kernel_rfl) (by kernel_rfl) (fun _ _ _ h => h) (Or.inr ⟨by rfl, rfl⟩) (by assumption) ?_
              try simp only [Act.put, List.setIfInBounds_toArray, List.set_cons_zero, List.set_cons_succ, List.getElem_toArray, List.getElem_cons_zero, List.getElem_cons_succ]
              refine wpAnyH_take (i := 7) (v := undef) rfl (by kernel_rfl) (by kernel_rfl) (by kernel_rfl) (fun _ _ _ h => h) (Or.inr ⟨by rfl, rfl⟩) (by assumption) ?_
              try simp only [Act.put, List.setIfInBounds_toArray, List.set_cons_zero, List.set_cons_succ, List.getElem_toArray, List.getElem_cons_zero, List.getElem_cons_succ]
              refine wpAnyH_take (i := 8) (v := undef) rfl (by kernel_rfl) (by kernel_rfl) (by kernel_rfl) (fun _ _ _ h => h) (Or.inr ⟨by rfl, rfl⟩) (by assumption) ?_
              try simp only [Act.put, List.setIfInBounds_toArray, List.set_cons_zero, List.set_cons_succ, List.getElem_toArray, List.getElem_cons_zero, List.getElem_cons_succ]
              refine wpAnyH_take (i := 9) (v := undef) rfl (by kernel_rfl) (by kernel_rfl) (by kernel_rfl) (fun _ _ _ h => h) (Or.inr ⟨by rfl, rfl⟩) (by assumption) ?_
              try simp only [Act.put, List.setIfInBounds_toArray, List.set_cons_zero, List.set_cons_succ, List.getElem_toArray, List.getElem_cons_zero, List.getElem_cons_succ]
              refine wpAnyH_take (i := 10) (v := undef) rfl (by kernel_rfl) (by kernel_rfl) (by kernel_rfl) (fun _ _ _ h => h) (Or.inr ⟨by rfl, rfl⟩) (by assumption) ?_
              try simp only [Act.put, List.setIfInBounds_toArray, List.set_cons_zero, List.set_cons_succ, List.getElem_toArray, List.getElem_cons_zero, List.getElem_cons_succ]
              refine wpAnyH_take (i := 11) (v := undef) rfl (by kernel_rfl) (by kernel_rfl) (by kernel_rfl) (fun _ _ _ h => h) (Or.inr ⟨by rfl, rfl⟩) (by assumption) ?_
              try simp only [Act.put, List.setIfInBounds_toArray, List.set_cons_zero, List.set_cons_succ, List.getElem_toArray, List.getElem_cons_zero, List.getElem_cons_succ]
              refine wpAnyH_take (i := 12) (v := undef) rfl (by kernel_rfl) (by kernel_rfl) (by kernel_rfl) (fun _ _ _ h => h) (Or.inr ⟨by rfl, rfl⟩) (by assumption) ?_
              try simp only [Act.put, List.setIfInBounds_toArray, List.set_cons_zero, List.set_cons_succ, List.getElem_toArray, List.getElem_cons_zero, List.getElem_cons_succ]
              refine wpAnyH_take (i := 13) (v := undef) rfl (by kernel_rfl) (by kernel_rfl) (by kernel_rfl) (fun _ _ _ h => h) (Or.inr ⟨by rfl, rfl⟩) (by assumption) ?_
              try simp only [Act.put, List.setIfInBounds_toArray, List.set_cons_zero, List.set_cons_succ, List.getElem_toArray, List.getElem_cons_zero, List.getElem_cons_succ]
              refine wpAnyH_take (i := 14) (v := undef) rfl (by kernel_rfl) (by kernel_rfl) (by kernel_rfl) (fun _ _ _ h => h) (Or.inr ⟨by rfl, rfl⟩) (by assumption) ?_
              try simp only [Act.put, List.setIfInBounds_toArray, List.set_cons_zero, List.set_cons_succ, List.getElem_toArray, List.getElem_cons_zero, List.getElem_cons_succ]
              refine wpAnyH_take (i := 15) (v := undef) rfl (by kernel_rfl) (by kernel_rfl) (by kernel_rfl) (fun _ _ _ h => h) (Or.inr ⟨by rfl, rfl⟩) (by assumption) ?_
              try simp only [Act.put, List.setIfInBounds_toArray, List.set_cons_zero, List.set_cons_succ, List.getElem_toArray, List.getElem_cons_zero, List.getElem_cons_succ]
              refine wpAnyH_take (i := 16) (v := ?_) rfl (by kernel_rfl) (by kernel_rfl) (by kernel_rfl) (fun _ _ _ h => h) (Or.inl ⟨by rfl, ?_⟩) (by assumption) ?_
              rotate_left
              · (intro w hSw; (try dsimp only at hSw); go_simp; try rfl)
              try simp only [Act.put, List.setIfInBounds_toArray, List.set_cons_zero, List.set_cons_succ, List.getElem_toArray, List.getElem_cons_zero, List.getElem_cons_succ]
              refine wpAnyH_take (i := 17) (v := ?_) rfl (by kernel_rfl) (by kernel_rfl) (by kernel_rfl) (fun _ _ _ h => h) (Or.inl ⟨by rfl, ?_⟩) (by assumption) ?_
              rotate_left
              · (intro w hSw; (try dsimp only at hSw); go_simp; try rfl)
              try simp only [Act.put, List.setIfInBounds_toArray, List.set_cons_zero, List.set_cons_succ, List.getElem_toArray, List.getElem_cons_zero, List.getElem_cons_succ]
              refine wpAnyH_done (by kernel_rfl) ?_ _
              have HBl := Lib.hid (HBg.out.trans (hd0.mono HBg.out.size))
              clear HC22 HBg
              have he1 : (i : Int) = (j : Int) := by rw [hij]
              have he2 : decide ((i : Int) = (j : Int)) = true := decide_eq_true he1
              have he3 : ((i : Int) == (j : Int)) = true := by rw [hij]; simp
              go_wp2_with fail
              go_roundw
              case rel => first | exact ⟨n + 1, by omega, by go_num, HBl⟩ | exact ⟨n + 1, by omega, by go_num⟩
              case measure => simp [intOf]; omega
            · have hne : decide (((x1, x2, x3) : I3) = (y1, y2, y3)) = false := decide_eq_false hxy
              rw [hne] at heq1
              have hs := HSame.out (by rw [← HGi.out, ← HGj.out]; simp only [hij]) hxy
              have HIn1 := Lib.hid ((HRm.out _).2 hs.1)
              have HIn2 := Lib.hid hs.2
              clear hxy hne hs
              refine wp_region_held_drew (S := (fun w' => w'.cell? ⟨bx, 0, none⟩ = some (.int .i64 x1) ∧ w'.cell? ⟨bx, 1, none⟩ = some (.int .i64 x2) ∧ w'.cell? ⟨bx, 2, none⟩ = some (.int .i64 x3) ∧ w'.cell? ⟨bd, 0, none⟩ = some (.int .i64 y1) ∧ w'.cell? ⟨bd, 1, none⟩ = some (.int .i64 y2) ∧ w'.cell? ⟨bd, 2, none⟩ = some (.int .i64 y3))) (by kernel_rfl) ?_ (fun hHeld => ?_)
              · ((first
              | exact HC22.out _ hb3
              | exact HC22.out _ hb2
              | exact HC22.out _ hb1
              | exact HC22.out _ hd0
              | fail))
              refine wpAnyH_take (i := 0) (v := ?_) rfl (by kernel_rfl) (by kernel_rfl) (by kernel_rfl) (fun _ _ _ h => h) (Or.inl ⟨by rfl, ?_⟩) (by assumption) ?_
              rotate_left
              · (intro w hSw; (try dsimp only at hSw); go_simp; try rfl)
              try simp only [Act.put, List.setIfInBounds_toArray, List.set_cons_zero, List.set_cons_succ, List.getElem_toArray, List.getElem_cons_zero, List.getElem_cons_succ]
              refine wpAnyH_take (i := 1) (v := ?_) rfl (by kernel_rfl) (by kernel_rfl) (by kernel_rfl) (fun _ _ _ h => h) (Or.inl ⟨by rfl, ?_⟩) (by assumption) ?_
              rotate_left
              · (intro w hSw; (try dsimp only at hSw); go_simp; try rfl)
              try simp only [Act.put, List.setIfInBounds_toArray, List.set_cons_zero, List.set_cons_succ, List.getElem_toArray, List.getElem_cons_zero, List.getElem_cons_succ]
              refine wpAnyH_take (i := 2) (v := ?_) rfl (by kernel_rfl) (by kernel_rfl) (by kernel_rfl) (fun _ _ _ h => h) (Or.inl ⟨by rfl, ?_⟩) (by assumption) ?_
              rotate_left
              · (intro w hSw; (try dsimp only at hSw); go_simp; try rfl)
              try simp only [Act.put, List.setIfInBounds_toArray, List.set_cons_zero, List.set_cons_succ, List.getElem_toArray, List.getElem_cons_zero, List.getElem_cons_succ]
              refine wpAnyH_take (i := 3) (v := ?_) rfl (by kernel_rfl) (by kernel_rfl) (by kernel_rfl) (fun _ _ _ h => h) (Or.inl ⟨by rfl, ?_⟩) (by assumption) ?_
              rotate_left
              · (intro w hSw; (try dsimp only at hSw); go_simp; try rfl)
              try simp only [Act.put, List.setIfInBounds_toArray, List.set_cons_zero, List.set_cons_succ, List.getElem_toArray, List.getElem_cons_zero, List.getElem_cons_succ]
              refine wpAnyH_take (i := 4) (v := ?_) rfl (by kernel_rfl) (by kernel_rfl) (by kernel_rfl) (fun _ _ _ h => h) (Or.inl ⟨by rfl, ?_⟩) (by assumption) ?_
              rotate_left
              · (intro w hSw; (try dsimp only at hSw); go_simp; try rfl)
              try simp only [Act.put, List.setIfInBounds_toArray, List.set_cons_zero, List.set_cons_succ, List.getElem_toArray, List.getElem_cons_zero, List.getElem_cons_succ]
              refine wpAnyH_take (i := 5) (v := ?_) rfl (by kernel_rfl) (by kernel_rfl) (by kernel_rfl) (fun _ _ _ h => h) (Or.inl ⟨by rfl, ?_⟩) (by assumption) ?_
              rotate_left
              · (intro w hSw; (try dsimp only at hSw); go_simp; try rfl)
              try simp only [Act.put, List.setIfInBounds_toArray, List.set_cons_zero, List.set_cons_succ, List.getElem_toArray, List.getElem_cons_zero, List.getElem_cons_succ]
              refine wpAnyH_ready (rs := [6]) (by kernel_rfl) (by simp) ?_
              refine (AllReadyH.cons rfl (fun K hK => ?_) AllReadyH.nil)
              go_simp
              (go_at_call 26; refine (HA1.out _ hd0).mono ?_; rintro e wl ⟨z, rfl, hz, _, _, hb⟩; have hb1 : Below wg.heap.size wg wl := hd0.trans (hb.mono hd0.size); have hz0 : ¬ z < 0 := fun r => hz.1 r HIn1.out; have hz1 : (0 : Int) ≤ z := Int.not_lt.1 hz0; have hz2 : decide ((0 : Int) ≤ z) = true := decide_eq_true hz1; clear hz hb)
              refine hK.out _ _ ?_ (fun hHeld => ?_)
              · ((first
              | exact HC22.out _ hb3
              | exact HC22.out _ hb2
              | exact HC22.out _ hb1
              | exact HC22.out _ hd0
              | fail))
              clear hK K
              try simp only [Act.put, List.setIfInBounds_toArray, List.set_cons_zero, List.set_cons_succ, List.getElem_toArray, List.getElem_cons_zero, List.getElem_cons_succ]
              refine wpAnyH_take (i := 7) (v := ?_) rfl (by kernel_rfl) (by kernel_rfl) (by kernel_rfl) (fun _ _ _ h => h) (Or.inl ⟨by rfl, ?_⟩) (by assumption) ?_
              rotate_left
              · (intro w hSw; (try dsimp only at hSw); go_simp; try rfl)
              try simp only [Act.put, List.setIfInBounds_toArray, List.set_cons_zero, List.set_cons_succ, List.getElem_toArray, List.getElem_cons_zero, List.getElem_cons_succ]
              refine wpAnyH_take (i := 8) (v := ?_) rfl (by kernel_rfl) (by kernel_rfl) (by kernel_rfl) (fun _ _ _ h => h) (Or.inl ⟨by rfl, ?_⟩) (by assumption) ?_
              rotate_left
              · (intro w hSw; (try dsimp only at hSw); go_simp; try rfl)
              try simp only [Act.put, List.setIfInBounds_toArray, List.set_cons_zero, List.set_cons_succ, List.getElem_toArray, List.getElem_cons_zero, List.getElem_cons_succ]
              refine wpAnyH_take (i := 9) (v := ?_) rfl (by kernel_rfl) (by kernel_rfl) (by kernel_rfl) (fun _ _ _ h => h) (Or.inl ⟨by rfl, ?_⟩) (by assumption) ?_
              rotate_left
              · (intro w hSw; (try dsimp only at hSw); go_simp; try rfl)
              try simp only [Act.put, List.setIfInBounds_toArray, List.set_cons_zero, List.set_cons_succ, List.getElem_toArray, List.getElem_cons_zero, List.getElem_cons_succ]
              refine wpAnyH_take (i := 10) (v := ?_) rfl (by kernel_rfl) (by kernel_rfl) (by kernel_rfl) (fun _ _ _ h => h) (Or.inl ⟨by rfl, ?_⟩) (by assumption) ?_
              rotate_left
              · (intro w hSw; (try dsimp only at hSw); go_simp; try rfl)
              try simp only [Act.put, List.setIfInBounds_toArray, List.set_cons_zero, List.set_cons_succ, List.getElem_toArray, List.getElem_cons_zero, List.getElem_cons_succ]
              refine wpAnyH_take (i := 12) (v := ?_) rfl (by kernel_rfl) (by kernel_rfl) (by kernel_rfl) (fun _ _ _ h => h) (Or.inl ⟨by rfl, ?_⟩) (by assumption) ?_
              rotate_left
              · (intro w hSw; (try dsimp only at hSw); go_simp; try rfl)
              try simp only [Act.put, List.setIfInBounds_toArray, List.set_cons_zero, List.set_cons_succ, List.getElem_toArray, List.getElem_cons_zero, List.getElem_cons_succ]
              refine wpAnyH_ready (rs := [11]) (by kernel_rfl) (by simp) ?_
              refine (AllReadyH.cons rfl (fun K hK => ?_) AllReadyH.nil)
              go_simp
              (go_at_call 18; refine (HA2.out _ hb1).mono ?_; rintro e wm ⟨s, hs, hsl, hso, sa, sc, he, hrow, hb⟩; rw [he.out]; have hb2 : Below wg.heap.size wg wm := hb1.trans (hb.mono hb1.size); have HSm := Lib.hid hs; have HSw := Lib.hid hrow; have HSl := Lib.hid hsl; clear he hs hsl hso hrow hb)
              refine hK.out _ _ ?_ (fun hHeld => ?_)
              · ((first
              | exact HC22.out _ hb3
              | exact HC22.out _ hb2
              | exact HC22.out _ hb1
              | exact HC22.out _ hd0
              | fail))
              clear hK K
              try simp only [Act.put, List.setIfInBounds_toArray, List.set_cons_zero, List.set_cons_succ, List.getElem_toArray, List.getElem_cons_zero, List.getElem_cons_succ]
              refine wpAnyH_ready (rs := [13]) (by kernel_rfl) (by simp) ?_
              refine (AllReadyH.cons rfl (fun K hK => ?_) AllReadyH.nil)
              go_simp
              (go_at_call 26; refine (at_any HSw.out.rd (Nat.le_trans HSl.out (by omega)) _ _ _).mono ?_; rintro e wn ⟨z2, rfl, hz, _, _, hb⟩; have hb3 : Below wg.heap.size wg wn := hb2.trans (hb.mono hb2.size); have hz3 : ¬ z2 < 0 := fun r => hz.1 r ((HSm.out _).2 HIn2.out); have hz4 : (0 : Int) ≤ z2 := Int.not_lt.1 hz3; have hz5 : decide ((0 : Int) ≤ z2) = true := decide_eq_true hz4; clear hz hb)
              refine hK.out _ _ ?_ (fun hHeld => ?_)
              · ((first
              | exact HC22.out _ hb3
              | exact HC22.out _ hb2
              | exact HC22.out _ hb1
              | exact HC22.out _ hd0
              | fail))
              clear hK K
              try simp only [Act.put, List.setIfInBounds_toArray, List.set_cons_zero, List.set_cons_succ, List.getElem_toArray, List.getElem_cons_zero, List.getElem_cons_succ]
              refine wpAnyH_take (i := 14) (v := ?_) rfl (by kernel_rfl) (by kernel_rfl) (by kernel_rfl) (fun _ _ _ h => h) (Or.inl ⟨by rfl, ?_⟩) (by assumption) ?_
              rotate_left
              · (intro w hSw; (try dsimp only at hSw); go_simp; try rfl)
              try simp only [Act.put, List.setIfInBounds_toArray, List.set_cons_zero, List.set_cons_succ, List.getElem_toArray, List.getElem_cons_zero, List.getElem_cons_succ]
              refine wpAnyH_take (i := 15) (v := ?_) rfl (by kernel_rfl) (by kernel_rfl) (by kernel_rfl) (fun _ _ _ h => h) (Or.inl ⟨by rfl, ?_⟩) (by assumption) ?_
              rotate_left
              · (intro w hSw; (try dsimp only at hSw); go_simp; try rfl)
              try simp only [Act.put, List.setIfInBounds_toArray, List.set_cons_zero, List.set_cons_succ, List.getElem_toArray, List.getElem_cons_zero, List.getElem_cons_succ]
              refine wpAnyH_take (i := 16) (v := ?_) rfl (by kernel_rfl) (by kernel_rfl) (by kernel_rfl) (fun _ _ _ h => h) (Or.inl ⟨by rfl, ?_⟩) (by assumption) ?_
              rotate_left
              · (intro w hSw; (try dsimp only at hSw); go_simp; try rfl)
              try simp only [Act.put, List.setIfInBounds_toArray, List.set_cons_zero, List.set_cons_succ, List.getElem_toArray, List.getElem_cons_zero, List.getElem_cons_succ]
              refine wpAnyH_take (i := 17) (v := ?_) rfl (by kernel_rfl) (by kernel_rfl) (by kernel_rfl) (fun _ _ _ h => h) (Or.inl ⟨by rfl, ?_⟩) (by assumption) ?_
              rotate_left
              · (intro w hSw; (try dsimp only at hSw); go_simp; try rfl)
              try simp only [Act.put, List.setIfInBounds_toArray, List.set_cons_zero, List.set_cons_succ, List.getElem_toArray, List.getElem_cons_zero, List.getElem_cons_succ]
              refine wpAnyH_done (by kernel_rfl) ?_ _
              have HBl := Lib.hid (HBg.out.trans (hb3.mono HBg.out.size))
              clear HC22 HBg
              have he1 : (i : Int) = (j : Int) := by rw [hij]
              have he2 : decide ((i : Int) = (j : Int)) = true := decide_eq_true he1
              have he3 : ((i : Int) == (j : Int)) = true := by rw [hij]; simp
              go_wp2_with fail
              go_roundw
              case rel => first | exact ⟨n + 1, by omega, by go_num, HBl⟩ | exact ⟨n + 1, by omega, by go_num⟩
              case measure => simp [intOf]; omega
          · have hxy : ¬ ((x1, x2, x3) : I3) = (y1, y2, y3) := fun e => hij (HOne.out (.inl e))
            have hne : decide (((x1, x2, x3) : I3) = (y1, y2, y3)) = false := decide_eq_false hxy
            rw [hne] at heq1
            by_cases hin : (y1, y2, y3) ∈ r
            · have HIn1 := Lib.hid hin
              have HIn2 : Hid (¬ Rch (stepsV (webL nv)) (y1, y2, y3) (x1, x2, x3)) := Lib.hid fun q => hij (HOne.out (.inr ⟨rch_cur HRi.out (HMi.out _ HXm.out) ((HRm.out _).1 hin), rch_cur HRi.out HYk.out q⟩))
              clear hin hxy hne
              refine wp_region_held_drew (S := (fun w' => w'.cell? ⟨bx, 0, none⟩ = some (.int .i64 x1) ∧ w'.cell? ⟨bx, 1, none⟩ = some (.int .i64 x2) ∧ w'.cell? ⟨bx, 2, none⟩ = some (.int .i64 x3) ∧ w'.cell? ⟨bd, 0, none⟩ = some (.int .i64 y1) ∧ w'.cell? ⟨bd, 1, none⟩ = some (.int .i64 y2) ∧ w'.cell? ⟨bd, 2, none⟩ = some (.int .i64 y3))) (by kernel_rfl) ?_ (fun hHeld => ?_)
              · ((first
              | exact HC22.out _ hb3
              | exact HC22.out _ hb2
              | exact HC22.out _ hb1
              | exact HC22.out _ hd0
              | fail))
              refine wpAnyH_take (i := 0) (v := ?_) rfl (by kernel_rfl) (by kernel_rfl) (by kernel_rfl) (fun _ _ _ h => h) (Or.inl ⟨by rfl, ?_⟩) (by assumption) ?_
              rotate_left
              · (intro w hSw; (try dsimp only at hSw); go_simp; try rfl)
              try simp only [Act.put, List.setIfInBounds_toArray, List.set_cons_zero, List.set_cons_succ, List.getElem_toArray, List.getElem_cons_zero, List.getElem_cons_succ]
              refine wpAnyH_take (i := 1) (v := ?_) rfl (by kernel_rfl) (by kernel_rfl) (by kernel_rfl) (fun _ _ _ h => h) (Or.inl ⟨by rfl, ?_⟩) (by assumption) ?_
              rotate_left
              · (intro w hSw; (try dsimp only at hSw); go_simp; try rfl)
              try simp only [Act.put, List.setIfInBounds_toArray, List.set_cons_zero, List.set_cons_succ, List.getElem_toArray, List.getElem_cons_zero, List.getElem_cons_succ]
              refine wpAnyH_take (i := 2) (v := ?_) rfl (by kernel_rfl) (by kernel_rfl) (by kernel_rfl) (fun _ _ _ h => h) (Or.inl ⟨by rfl, ?_⟩) (by assumption) ?_
              rotate_left
              · (intro w hSw; (try dsimp only at hSw); go_simp; try rfl)
              try simp only [Act.put, List.setIfInBounds_toArray, List.set_cons_zero, List.set_cons_succ, List.getElem_toArray, List.getElem_cons_zero, List.getElem_cons_succ]
              refine wpAnyH_take (i := 3) (v := ?_) rfl (by kernel_rfl) (by kernel_rfl) (by kernel_rfl) (fun _ _ _ h => h) (Or.inl ⟨by rfl, ?_⟩) (by assumption) ?_
              rotate_left
              · (intro w hSw; (try dsimp only at hSw); go_simp; try rfl)
              try simp only [Act.put, List.setIfInBounds_toArray, List.set_cons_zero, List.set_cons_succ, List.getElem_toArray, List.getElem_cons_zero, List.getElem_cons_succ]
              refine wpAnyH_take (i := 4) (v := ?_) rfl (by kernel_rfl) (by kernel_rfl) (by kernel_rfl) (fun _ _ _ h => h) (Or.inl ⟨by rfl, ?_⟩) (by assumption) ?_
              rotate_left
              · (intro w hSw; (try dsimp only at hSw); go_simp; try rfl)
              try simp only [Act.put, List.setIfInBounds_toArray, List.set_cons_zero, List.set_cons_succ, List.getElem_toArray, List.getElem_cons_zero, List.getElem_cons_succ]
              refine wpAnyH_take (i := 5) (v := ?_) rfl (by kernel_rfl) (by kernel_rfl) (by kernel_rfl) (fun _ _ _ h => h) (Or.inl ⟨by rfl, ?_⟩) (by assumption) ?_
              rotate_left
              · (intro w hSw; (try dsimp only at hSw); go_simp; try rfl)
              try simp only [Act.put, List.setIfInBounds_toArray, List.set_cons_zero, List.set_cons_succ, List.getElem_toArray, List.getElem_cons_zero, List.getElem_cons_succ]
              refine wpAnyH_ready (rs := [6]) (by kernel_rfl) (by simp) ?_
              refine (AllReadyH.cons rfl (fun K hK => ?_) AllReadyH.nil)
              go_simp
              (go_at_call 26; refine (HA1.out _ hd0).mono ?_; rintro e wl ⟨z, rfl, hz, _, _, hb⟩; have hb1 : Below wg.heap.size wg wl := hd0.trans (hb.mono hd0.size); have hz0 : ¬ z < 0 := fun r => hz.1 r HIn1.out; have hz1 : (0 : Int) ≤ z := Int.not_lt.1 hz0; have hz2 : decide ((0 : Int) ≤ z) = true := decide_eq_true hz1; clear hz hb)
              refine hK.out _ _ ?_ (fun hHeld => ?_)
              · ((first
              | exact HC22.out _ hb3
              | exact HC22.out _ hb2
              | exact HC22.out _ hb1
              | exact HC22.out _ hd0
              | fail))
              clear hK K
              try simp only [Act.put, List.setIfInBounds_toArray, List.set_cons_zero, List.set_cons_succ, List.getElem_toArray, List.getElem_cons_zero, List.getElem_cons_succ]
              refine wpAnyH_take (i := 7) (v := ?_) rfl (by kernel_rfl) (by kernel_rfl) (by kernel_rfl) (fun _ _ _ h => h) (Or.inl ⟨by rfl, ?_⟩) (by assumption) ?_
              rotate_left
              · (intro w hSw; (try dsimp only at hSw); go_simp; try rfl)
              try simp only [Act.put, List.setIfInBounds_toArray, List.set_cons_zero, List.set_cons_succ, List.getElem_toArray, List.getElem_cons_zero, List.getElem_cons_succ]
              refine wpAnyH_take (i := 8) (v := ?_) rfl (by kernel_rfl) (by kernel_rfl) (by kernel_rfl) (fun _ _ _ h => h) (Or.inl ⟨by rfl, ?_⟩) (by assumption) ?_
              rotate_left
              · (intro w hSw; (try dsimp only at hSw); go_simp; try rfl)
              try simp only [Act.put, List.setIfInBounds_toArray, List.set_cons_zero, List.set_cons_succ, List.getElem_toArray, List.getElem_cons_zero, List.getElem_cons_succ]
              refine wpAnyH_take (i := 9) (v := ?_) rfl (by kernel_rfl) (by kernel_rfl) (by kernel_rfl) (fun _ _ _ h => h) (Or.inl ⟨by rfl, ?_⟩) (by assumption) ?_
              rotate_left
              · (intro w hSw; (try dsimp only at hSw); go_simp; try rfl)
              try simp only [Act.put, List.setIfInBounds_toArray, List.set_cons_zero, List.set_cons_succ, List.getElem_toArray, List.getElem_cons_zero, List.getElem_cons_succ]
              refine wpAnyH_take (i := 10) (v := ?_) rfl (by kernel_rfl) (by kernel_rfl) (by kernel_rfl) (fun _ _ _ h => h) (Or.inl ⟨by rfl, ?_⟩) (by assumption) ?_
              rotate_left
              · (intro w hSw; (try dsimp only at hSw); go_simp; try rfl)
              try simp only [Act.put, List.setIfInBounds_toArray, List.set_cons_zero, List.set_cons_succ, List.getElem_toArray, List.getElem_cons_zero, List.getElem_cons_succ]
              refine wpAnyH_take (i := 12) (v := ?_) rfl (by kernel_rfl) (by kernel_rfl) (by kernel_rfl) (fun _ _ _ h => h) (Or.inl ⟨by rfl, ?_⟩) (by assumption) ?_
              rotate_left
              · (intro w hSw; (try dsimp only at hSw); go_simp; try rfl)
              try simp only [Act.put, List.setIfInBounds_toArray, List.set_cons_zero, List.set_cons_succ, List.getElem_toArray, List.getElem_cons_zero, List.getElem_cons_succ]
              refine wpAnyH_ready (rs := [11]) (by kernel_rfl) (by simp) ?_
              refine (AllReadyH.cons rfl (fun K hK => ?_) AllReadyH.nil)
              go_simp
              (go_at_call 18; refine (HA2.out _ hb1).mono ?_; rintro e wm ⟨s, hs, hsl, hso, sa, sc, he, hrow, hb⟩; rw [he.out]; have hb2 : Below wg.heap.size wg wm := hb1.trans (hb.mono hb1.size); have HSm := Lib.hid hs; have HSw := Lib.hid hrow; have HSl := Lib.hid hsl; clear he hs hsl hso hrow hb)
              refine hK.out _ _ ?_ (fun hHeld => ?_)
              · ((first
              | exact HC22.out _ hb3
              | exact HC22.out _ hb2
              | exact HC22.out _ hb1
              | exact HC22.out _ hd0
              | fail))
              clear hK K
              try simp only [Act.put, List.setIfInBounds_toArray, List.set_cons_zero, List.set_cons_succ, List.getElem_toArray, List.getElem_cons_zero, List.getElem_cons_succ]
              refine wpAnyH_ready (rs := [13]) (by kernel_rfl) (by simp) ?_
              refine (AllReadyH.cons rfl (fun K hK => ?_) AllReadyH.nil)
              go_simp
              (go_at_call 26; refine (at_any HSw.out.rd (Nat.le_trans HSl.out (by omega)) _ _ _).mono ?_; rintro e wn ⟨z2, rfl, hz, _, _, hb⟩; have hb3 : Below wg.heap.size wg wn := hb2.trans (hb.mono hb2.size); have hz3 : z2 < 0 := hz.2 (fun r => HIn2.out ((HSm.out _).1 r)); have hz4 : ¬ (0 : Int) ≤ z2 := Int.not_le.2 hz3; have hz5 : decide ((0 : Int) ≤ z2) = false := decide_eq_false hz4; clear hz hb)
              refine hK.out _ _ ?_ (fun hHeld => ?_)
              · ((first
              | exact HC22.out _ hb3
              | exact HC22.out _ hb2
              | exact HC22.out _ hb1
              | exact HC22.out _ hd0
              | fail))
              clear hK K
              try simp only [Act.put, List.setIfInBounds_toArray, List.set_cons_zero, List.set_cons_succ, List.getElem_toArray, List.getElem_cons_zero, List.getElem_cons_succ]
              refine wpAnyH_take (i := 14) (v := ?_) rfl (by kernel_rfl) (by kernel_rfl) (by kernel_rfl) (fun _ _ _ h => h) (Or.inl ⟨by rfl, ?_⟩) (by assumption) ?_
              rotate_left
              · (intro w hSw; (try dsimp only at hSw); go_simp; try rfl)
              try simp only [Act.put, List.setIfInBounds_toArray, List.set_cons_zero, List.set_cons_succ, List.getElem_toArray, List.getElem_cons_zero, List.getElem_cons_succ]
              refine wpAnyH_take (i := 15) (v := ?_) rfl (by kernel_rfl) (by kernel_rfl) (by kernel_rfl) (fun _ _ _ h => h) (Or.inl ⟨by rfl, ?_⟩) (by assumption) ?_
              rotate_left
              · (intro w hSw; (try dsimp only at hSw); go_simp; try rfl)
              try simp only [Act.put, List.setIfInBounds_toArray, List.set_cons_zero, List.set_cons_succ, List.getElem_toArray, List.getElem_cons_zero, List.getElem_cons_succ]
              refine wpAnyH_take (i := 16) (v := ?_) rfl (by kernel_rfl) (by kernel_rfl) (by kernel_rfl) (fun _ _ _ h => h) (Or.inl ⟨by rfl, ?_⟩) (by assumption) ?_
              rotate_left
              · (intro w hSw; (try dsimp only at hSw); go_simp; try rfl)
              try simp only [Act.put, List.setIfInBounds_toArray, List.set_cons_zero, List.set_cons_succ, List.getElem_toArray, List.getElem_cons_zero, List.getElem_cons_succ]
              refine wpAnyH_take (i := 17) (v := ?_) rfl (by kernel_rfl) (by kernel_rfl) (by kernel_rfl) (fun _ _ _ h => h) (Or.inl ⟨by rfl, ?_⟩) (by assumption) ?_
              rotate_left
              · (intro w hSw; (try dsimp only at hSw); go_simp; try rfl)
              try simp only [Act.put, List.setIfInBounds_toArray, List.set_cons_zero, List.set_cons_succ, List.getElem_toArray, List.getElem_cons_zero, List.getElem_cons_succ]
              refine wpAnyH_done (by kernel_rfl) ?_ _
              have HBl := Lib.hid (HBg.out.trans (hb3.mono HBg.out.size))
              clear HC22 HBg
              have he1 : ¬ (i : Int) = (j : Int) := fun r => hij (Int.ofNat.inj r)
              have he2 : decide ((i : Int) = (j : Int)) = false := decide_eq_false he1
              have he3 : ((i : Int) == (j : Int)) = false := by simpa using he1
              go_wp2_with fail
              go_roundw
              case rel => first | exact ⟨n + 1, by omega, by go_num, HBl⟩ | exact ⟨n + 1, by omega, by go_num⟩
              case measure => simp [intOf]; omega
            · have HIn1 := Lib.hid hin
              clear hin hxy hne HA2
              refine wp_region_held_drew (S := (fun w' => w'.cell? ⟨bx, 0, none⟩ = some (.int .i64 x1) ∧ w'.cell? ⟨bx, 1, none⟩ = some (.int .i64 x2) ∧ w'.cell? ⟨bx, 2, none⟩ = some (.int .i64 x3) ∧ w'.cell? ⟨bd, 0, none⟩ = some (.int .i64 y1) ∧ w'.cell? ⟨bd, 1, none⟩ = some (.int .i64 y2) ∧ w'.cell? ⟨bd, 2, none⟩ = some (.int .i64 y3))) (by kernel_rfl) ?_ (fun hHeld => ?_)
              · ((first
              | exact HC22.out _ hb3
              | exact HC22.out _ hb2
              | exact HC22.out _ hb1
              | exact HC22.out _ hd0
              | fail))
              refine wpAnyH_take (i := 0) (v := ?_) rfl (by kernel_rfl) (by kernel_rfl) (by kernel_rfl) (fun _ _ _ h => h) (Or.inl ⟨by rfl, ?_⟩) (by assumption) ?_
              rotate_left
              · (intro w hSw; (try dsimp only at hSw); go_simp; try rfl)
              try simp only [Act.put, List.setIfInBounds_toArray, List.set_cons_zero, List.set_cons_succ, List.getElem_toArray, List.getElem_cons_zero, List.getElem_cons_succ]
              refine wpAnyH_take (i := 1) (v := ?_) rfl (by kernel_rfl) (by kernel_rfl) (by kernel_rfl) (fun _ _ _ h => h) (Or.inl ⟨by rfl, ?_⟩) (by assumption) ?_
              rotate_left
              · (intro w hSw; (try dsimp only at hSw); go_simp; try rfl)
              try simp only [Act.put, List.setIfInBounds_toArray, List.set_cons_zero, List.set_cons_succ, List.getElem_toArray, List.getElem_cons_zero, List.getElem_cons_succ]
              refine wpAnyH_take (i := 2) (v := ?_) rfl (by kernel_rfl) (by kernel_rfl) (by kernel_rfl) (fun _ _ _ h => h) (Or.inl ⟨by rfl, ?_⟩) (by assumption) ?_
              rotate_left
              · (intro w hSw; (try dsimp only at hSw); go_simp; try rfl)
              try simp only [Act.put, List.setIfInBounds_toArray, List.set_cons_zero, List.set_cons_succ, List.getElem_toArray, List.getElem_cons_zero, List.getElem_cons_succ]
              refine wpAnyH_take (i := 3) (v := ?_) rfl (by kernel_rfl) (by kernel_rfl) (by kernel_rfl) (fun _ _ _ h => h) (Or.inl ⟨by rfl, ?_⟩) (by assumption) ?_
              rotate_left
              · (intro w hSw; (try dsimp only at hSw); go_simp; try rfl)
              try simp only [Act.put, List.setIfInBounds_toArray, List.set_cons_zero, List.set_cons_succ, List.getElem_toArray, List.getElem_cons_zero, List.getElem_cons_succ]
              refine wpAnyH_take (i := 4) (v := ?_) rfl (by kernel_rfl) (by kernel_rfl) (by kernel_rfl) (fun _ _ _ h => h) (Or.inl ⟨by rfl, ?_⟩) (by assumption) ?_
              rotate_left
              · (intro w hSw; (try dsimp only at hSw); go_simp; try rfl)
              try simp only [Act.put, List.setIfInBounds_toArray, List.set_cons_zero, List.set_cons_succ, List.getElem_toArray, List.getElem_cons_zero, List.getElem_cons_succ]
              refine wpAnyH_take (i := 5) (v := ?_) rfl (by kernel_rfl) (by kernel_rfl) (by kernel_rfl) (fun _ _ _ h => h) (Or.inl ⟨by rfl, ?_⟩) (by assumption) ?_
              rotate_left
              · (intro w hSw; (try dsimp only at hSw); go_simp; try rfl)
              try simp only [Act.put, List.setIfInBounds_toArray, List.set_cons_zero, List.set_cons_succ, List.getElem_toArray, List.getElem_cons_zero, List.getElem_cons_succ]
              refine wpAnyH_ready (rs := [6]) (by kernel_rfl) (by simp) ?_
              refine (AllReadyH.cons rfl (fun K hK => ?_) AllReadyH.nil)
              go_simp
              (go_at_call 26; refine (HA1.out _ hd0).mono ?_; rintro e wl ⟨z, rfl, hz, _, _, hb⟩; have hb1 : Below wg.heap.size wg wl := hd0.trans (hb.mono hd0.size); have hz0 : z < 0 := hz.2 HIn1.out; have hz1 : ¬ (0 : Int) ≤ z := Int.not_le.2 hz0; have hz2 : decide ((0 : Int) ≤ z) = false := decide_eq_false hz1; clear hz hb)
              refine hK.out _ _ ?_ (fun hHeld => ?_)
              · ((first
              | exact HC22.out _ hb3
              | exact HC22.out _ hb2
              | exact HC22.out _ hb1
              | exact HC22.out _ hd0
              | fail))
              clear hK K
              try simp only [Act.put, List.setIfInBounds_toArray, List.set_cons_zero, List.set_cons_succ, List.getElem_toArray, List.getElem_cons_zero, List.getElem_cons_succ]
              refine wpAnyH_take (i := 7) (v := ?_) rfl (by kernel_rfl) (by kernel_rfl) (by kernel_rfl) (fun _ _ _ h => h) (Or.inl ⟨by rfl, ?_⟩) (by assumption) ?_
              rotate_left
              · (intro w hSw; (try dsimp only at hSw); go_simp; try rfl)
              try simp only [Act.put, List.setIfInBounds_toArray, List.set_cons_zero, List.set_cons_succ, List.getElem_toArray, List.getElem_cons_zero, List.getElem_cons_succ]
              refine wpAnyH_take (i := 8) (v := ?_) rfl (by kernel_rfl) (by kernel_rfl) (by kernel_rfl) (fun _ _ _ h => h) (Or.inl ⟨by rfl, ?_⟩) (by assumption) ?_
              rotate_left
              · (intro w hSw; (try dsimp only at hSw); go_simp; try rfl)
              try simp only [Act.put, List.setIfInBounds_toArray, List.set_cons_zero, List.set_cons_succ, List.getElem_toArray, List.getElem_cons_zero, List.getElem_cons_succ]
              refine wpAnyH_take (i := 9) (v := undef) rfl (by kernel_rfl) (by kernel_rfl) (by kernel_rfl) (fun _ _ _ h => h) (Or.inr ⟨by rfl, rfl⟩) (by assumption) ?_
              try simp only [Act.put, List.setIfInBounds_toArray, List.set_cons_zero, List.set_cons_succ, List.getElem_toArray, List.getElem_cons_zero, List.getElem_cons_succ]
              refine wpAnyH_take (i := 10) (v := undef) rfl (by kernel_rfl) (by kernel_rfl) (by kernel_rfl) (fun _ _ _ h => h) (Or.inr ⟨by rfl, rfl⟩) (by assumption) ?_
              try simp only [Act.put, List.setIfInBounds_toArray, List.set_cons_zero, List.set_cons_succ, List.getElem_toArray, List.getElem_cons_zero, List.getElem_cons_succ]
              refine wpAnyH_take (i := 11) (v := undef) rfl (by kernel_rfl) (by kernel_rfl) (by kernel_rfl) (fun _ _ _ h => h) (Or.inr ⟨by rfl, rfl⟩) (by assumption) ?_
              try simp only [Act.put, List.setIfInBounds_toArray, List.set_cons_zero, List.set_cons_succ, List.getElem_toArray, List.getElem_cons_zero, List.getElem_cons_succ]
              refine wpAnyH_take (i := 12) (v := undef) rfl (by kernel_rfl) (by kernel_rfl) (by kernel_rfl) (fun _ _ _ h => h) (Or.inr ⟨by rfl, rfl⟩) (by assumption) ?_
              try simp only [Act.put, List.setIfInBounds_toArray, List.set_cons_zero, List.set_cons_succ, List.getElem_toArray, List.getElem_cons_zero, List.getElem_cons_succ]
              refine wpAnyH_take (i := 13) (v := undef) rfl (by kernel_rfl) (by kernel_rfl) (by kernel_rfl) (fun _ _ _ h => h) (Or.inr ⟨by rfl, rfl⟩) (by assumption) ?_
              try simp only [Act.put, List.setIfInBounds_toArray, List.set_cons_zero, List.set_cons_succ, List.getElem_toArray, List.getElem_cons_zero, List.getElem_cons_succ]
              refine wpAnyH_take (i := 14) (v := undef) rfl (by kernel_rfl) (by kernel_rfl) (by kernel_rfl) (fun _ _ _ h => h) (Or.inr ⟨by rfl, rfl⟩) (by assumption) ?_
              try simp only [Act.put, List.setIfInBounds_toArray, List.set_cons_zero, List.set_cons_succ, List.getElem_toArray, List.getElem_cons_zero, List.getElem_cons_succ]
              refine wpAnyH_take (i := 15) (v := ?_) rfl (by kernel_rfl) (by kernel_rfl) (by kernel_rfl) (fun _ _ _ h => h) (Or.inl ⟨by rfl, ?_⟩) (by assumption) ?_
              rotate_left
              · (intro w hSw; (try dsimp only at hSw); go_simp; try rfl)
              try simp only [Act.put, List.setIfInBounds_toArray, List.set_cons_zero, List.set_cons_succ, List.getElem_toArray, List.getElem_cons_zero, List.getElem_cons_succ]
              refine wpAnyH_take (i := 16) (v := ?_) rfl (by kernel_rfl) (by kernel_rfl) (by kernel_rfl) (fun _ _ _ h => h) (Or.inl ⟨by rfl, ?_⟩) (by assumption) ?_
              rotate_left
              · (intro w hSw; (try dsimp only at hSw); go_simp; try rfl)
              try simp only [Act.put, List.setIfInBounds_toArray, List.set_cons_zero, List.set_cons_succ, List.getElem_toArray, List.getElem_cons_zero, List.getElem_cons_succ]
              refine wpAnyH_take (i := 17) (v := ?_) rfl (by kernel_rfl) (by kernel_rfl) (by kernel_rfl) (fun _ _ _ h => h) (Or.inl ⟨by rfl, ?_⟩) (by assumption) ?_
              rotate_left
              · (intro w hSw; (try dsimp only at hSw); go_simp; try rfl)
              try simp only [Act.put, List.setIfInBounds_toArray, List.set_cons_zero, List.set_cons_succ, List.getElem_toArray, List.getElem_cons_zero, List.getElem_cons_succ]
              refine wpAnyH_done (by kernel_rfl) ?_ _
              have HBl := Lib.hid (HBg.out.trans (hb1.mono HBg.out.size))
              clear HC22 HBg
              have he1 : ¬ (i : Int) = (j : Int) := fun r => hij (Int.ofNat.inj r)
              have he2 : decide ((i : Int) = (j : Int)) = false := decide_eq_false he1
              have he3 : ((i : Int) == (j : Int)) = false := by simpa using he1
              go_wp2_with fail
              go_roundw
              case rel => first | exact ⟨n + 1, by omega, by go_num, HBl⟩ | exact ⟨n + 1, by omega, by go_num⟩
              case measure => simp [intOf]; omega
        · obtain rfl : n = nj := by omega
          have hn2 : decide ((n : Int) < (n : Int)) = false := decide_eq_false (by omega)
          have hn3 : decide (n < n) = false := decide_eq_false (by omega)
          clear hrj HB4n
          go_wp2_with fail
          go_roundw
          case rel => exact ⟨j + 1, by omega, by go_num, HBn⟩
          case measure => simp [intOf]; omega
      · obtain rfl : j = N4 := by omega
        have hj2 : decide ((j : Int) < (j : Int)) = false := decide_eq_false (by omega)
        have hj3 : decide (j < j) = false := decide_eq_false (by omega)
        have HB6 := Lib.hid (HB5.out.trans (HBj.out.mono HB5.out.size))
        have HX6 := Lib.hid (Bk.below HX5.out HBj.out)
        clear HB4j HBj HB5 HX5 HR5 HRm HNr hrl
        by_cases hk0 : k = 0
        · subst hk0
          have hz1 : decide (((0 : Nat) : Int) = 0) = true := by simp
          clear hk1 hk2 hk3
          go_wp2_with fail
          go_roundw
          case rel => exact ⟨0 + 1, by omega, by go_num, HB6⟩
          case measure => simp [intOf]; omega
        · have hz1 : ¬ (k : Int) = 0 := by omega
          have hz2 : decide ((k : Int) = 0) = false := decide_eq_false hz1
          obtain ⟨K1, hK1⟩ : ∃ q, k = q + 1 := ⟨k - 1, by omega⟩
          have hPl : K1 < gi.length := by have := HNo.out; omega
          obtain ⟨P, hP⟩ : ∃ P, gi[K1] = P := ⟨_, rfl⟩
          have hPm : P ∈ gi := by rw [← hP]; exact List.getElem_mem hPl
          have hlt : ltG cur P (x1, x2, x3) = true := by
            have q := (HSem.out.srt gi (by rw [HCi.out]; simp)).2
            have q2 := List.pairwise_iff_getElem.1 q K1 k hPl hkl (by omega)
            rwa [hP, HXk.out] at q2
          have hsq : ∀ z ∈ gi, sqOf cur z = sqOf (webL nv) z ∧ z ∈ nv.map (·.d.id) := fun z hz => by
            obtain ⟨n, q⟩ := mem_keys.1 (HMi.out z hz)
            have q2 := (HRi.out.sub z n q).1
            refine ⟨?_, ?_⟩
            · unfold sqOf ndOf; rw [q, q2]
            · rw [← webL_keys]; exact mem_keys.2 ⟨n, q2⟩
          rw [ltG_iff, (hsq _ hPm).1, (hsq _ HXm.out).1] at hlt
          have HLt := Lib.hid hlt
          have HPn := Lib.hid (hsq _ hPm).2
          have HXn := Lib.hid (hsq _ HXm.out).2
          have hPX : P ≠ (x1, x2, x3) := fun e => by
            have q := HSem.out.nd
            unfold List.Nodup at q
            rw [List.pairwise_flatten] at q
            have q2 := q.1 gi (by rw [HCi.out]; simp)
            exact List.pairwise_iff_getElem.1 q2 K1 k hPl hkl (by omega) (by rw [hP, HXk.out]; exact e)
          have HPX := Lib.hid hPX
          obtain ⟨W6, rfl⟩ : ∃ q, q = wr := ⟨_, rfl⟩
          obtain ⟨-, hro⟩ := HOw.out _ HB6.out
          obtain ⟨-, gb', ob', hbo', hgb, hcb⟩ := hro.at (by intro e; rw [e] at hkl; simp at hkl)
          simp only [Option.some.injEq, Addr.mk.injEq, and_true] at hbo'
          obtain ⟨rfl, rfl⟩ := hbo'
          have eK : IK.k = 3 := rfl
          have hc := hcb K1 (by rw [HNo.out]; exact hPl)
          have eg : gi.getD K1 IK.d = gi[K1] := getD_at hPl
          rw [eg, eK, hP] at hc
          obtain ⟨p1, p2, p3⟩ := P
          have HPc : Hid (∀ W, Below W6.heap.size W6 W → W.cell? ⟨gb, ob + K1 * 3, none⟩ = some (.int .i64 p1) ∧ W.cell? ⟨gb, ob + K1 * 3 + 1, none⟩ = some (.int .i64 p2) ∧ W.cell? ⟨gb, ob + K1 * 3 + 2, none⟩ = some (.int .i64 p3)) := Lib.hid fun W hb => ⟨(hb.cell (p := ⟨gb, ob + K1 * 3, none⟩) hgb).trans (hc 0 _ rfl), (hb.cell (p := ⟨gb, ob + K1 * 3 + 1, none⟩) hgb).trans (hc 1 _ rfl), (hb.cell (p := ⟨gb, ob + K1 * 3 + 2, none⟩) hgb).trans (hc 2 _ rfl)⟩
          have hsub : IntKind.i64.wrap ((k : Int) - 1) = (K1 : Int) := by rw [IntKind.wrap_i64]; omega
          have hK1n : (K1 : Int) < (no : Int) := by omega
          have hK1d : decide ((K1 : Int) < (no : Int)) = true := decide_eq_true hK1n
          obtain ⟨bp, hbp⟩ : ∃ q, W6.heap.size = q := ⟨_, rfl⟩
          obtain ⟨wa, hwa⟩ : ∃ q, (W6.alloc (.cells #[.int .i64 0, .slice none 0 0] 44)).alloc (.cells #[.int .i64 0, .slice none 0 0] 44) = q := ⟨_, rfl⟩
          have hba : Below W6.heap.size W6 wa := by rw [← hwa]; exact ((Below.refl _ _).alloc (Nat.le_refl _) _).alloc (by simp) _
          have HP0 : Hid (Bk wa bp 44 [.int .i64 0, .slice none 0 0]) := Lib.hid (by rw [← hwa]; exact (Bk.newAg hbp _ [.int .i64 0, .slice none 0 0]).old _)
          have HQ0 : Hid (Bk wa (bp + 1) 44 [.int .i64 0, .slice none 0 0]) := Lib.hid (by rw [← hwa]; exact Bk.newAg (by simp [hbp]) _ [.int .i64 0, .slice none 0 0])
          have HBa := Lib.hid hba
          have HBp := Lib.hid hbp
          have HWa := Lib.hid hwa
          clear hwa hK1 hP hPm hlt hsq hPX hro hcb hc eK eg hba hgb hz1 hz2 hk1 hk2 hk3 hi1 hi2 hi3
          have hzz : (Sem.run Try.prog (zeroValue 44) W6) = .ok (.agg #[.int .i64 0, .slice none 0 0]) W6 := by kernel_rfl
          go_upto_region 28 with fail
          try rw [hbp]
          rw [HWa.out]
          clear HWa hbp hzz
          go_wp2_with fail
          go_loopw [15] (fun q wr => ∃ (j : Nat) (sp sq : Int) (ap aq : Option Addr) (mp2 cp mq2 cq : Nat), j ≤ Nv ∧ q = .int .i64 j ∧ Hid (Bk wr bp 44 [.int .i64 sp, .slice ap mp2 cp]) ∧ Hid (Bk wr (bp + 1) 44 [.int .i64 sq, .slice aq mq2 cq]) ∧ Hid (((p1, p2, p3) ∈ (nv.take j).map (·.d.id) → sp = sqOf (webL nv) (p1, p2, p3)) ∧ ((x1, x2, x3) ∈ (nv.take j).map (·.d.id) → sq = sqOf (webL nv) (x1, x2, x3))) ∧ Hid (Below W6.heap.size W6 wr)) (fun q _ => Nv - (intOf q).toNat)
          case atStart => exact ⟨0, 0, 0, none, none, 0, 0, 0, 0, Nat.zero_le _, rfl, HP0, HQ0, Lib.hid ⟨fun h => by simp at h, fun h => by simp at h⟩, HBa⟩
          case round =>
          clear HP0 HQ0 HBa
          obtain ⟨m, sp, sq, ap, aq, mp2, cp, mq2, cq, hm, rfl, HPb, HQb, HPQ, HBm⟩ := hrel
          have HB4m := Lib.hid (HB6.out.trans (HBm.out.mono HB6.out.size))
          by_cases hmN : m < Nv
          · have hm1 : (m : Int) < (Nv : Int) := by omega
            have hm2 : decide ((m : Int) < (Nv : Int)) = true := decide_eq_true hm1
            have hm3 : decide (m < Nv) = true := decide_eq_true hmN
            have hml : m < nv.length := by rw [HNv.out]; exact hmN
            obtain ⟨gn, fn, j1, j2, j3, sqn, dl, na, nc, rfl, hnk, hjo, hdo, hcell⟩ := node_at HG.out.row m hml
            obtain ⟨D, hD⟩ : ∃ q, dl.length = q := ⟨_, rfl⟩
            rw [hD] at hcell
            have hmem : nv[m] ∈ nv := List.getElem_mem hml
            have htk : (nv.take (m + 1)).map (·.d.id) = (nv.take m).map (·.d.id) ++ [(j1, j2, j3)] := by rw [List.take_succ_eq_append_getElem hml, hnk]; simp
            rw [hnk] at hmem
            have hgt := webL_get HG.out.one hmem
            simp only at hgt
            have hsn : sqOf (webL nv) (j1, j2, j3) = sqn := by unfold sqOf ndOf; rw [hgt]; rfl
            have HC := Lib.hid (fun W (hb : Below W6.heap.size W6 W) => hcell W (HX4.out.trans ((HB6.out.trans (hb.mono HB6.out.size)).mono HX4.out.size)))
            have HTk := Lib.hid htk
            have HSn := Lib.hid hsn
            obtain ⟨n0, n1, n2, -, -, -⟩ := HC.out _ HBm.out
            obtain ⟨p0, p1', p2'⟩ := HPc.out _ HBm.out
            obtain ⟨hco, -⟩ := HOw.out _ HB4m.out
            obtain ⟨heq1, hqg1⟩ := eqI_run j1 j2 j3 p1 p2 p3
            obtain ⟨heq2, hqg2⟩ := eqI_run j1 j2 j3 x1 x2 x3
            have hi1 : (i : Int) < (j : Int) := Int.ofNat_lt.2 hiN
            have hi2 : decide ((i : Int) < (j : Int)) = true := decide_eq_true hi1
            clear hml hnk hjo hdo hcell hD hmem htk hgt hsn
            by_cases hjP : ((j1, j2, j3) : I3) = (p1, p2, p3)
            · have hjX : ¬ ((j1, j2, j3) : I3) = (x1, x2, x3) := fun e => HPX.out (hjP.symm.trans e)
              rw [decide_eq_true hjP] at heq1
              rw [decide_eq_false hjX] at heq2
              have HPQ2 : Hid (((p1, p2, p3) ∈ (nv.take (m + 1)).map (·.d.id) → sqn = sqOf (webL nv) (p1, p2, p3)) ∧ ((x1, x2, x3) ∈ (nv.take (m + 1)).map (·.d.id) → sq = sqOf (webL nv) (x1, x2, x3))) := Lib.hid ⟨fun _ => by rw [← hjP, HSn.out], fun q => HPQ.out.2 (by
                rw [HTk.out, List.mem_append, List.mem_singleton] at q
                exact q.resolve_right (fun e => hjX e.symm))⟩
              clear hjP hjX HPQ
              go_upto_region 31 with fail
              go_quiet (fail)
              generalize hwz : World.drewN _ _ = wz
              have hbz : Below wr.heap.size wr wz := by rw [← hwz]; exact below_drewNA (Below.refl _ _) _
              have HBz := Lib.hid (HBm.out.trans (hbz.mono HBm.out.size))
              have HPz := Lib.hid (Bk.below HPb.out hbz)
              have HQz := Lib.hid (Bk.below HQb.out hbz)
              clear hwz hbz n0 n1 n2 p0 p1' p2' hco HBm HB4m HPb HQb heq1 hqg1
              have k0 := Bk.cell HPz.out 0
              have k1 := Bk.cell HPz.out 1
              have f0 := HPz.out.fz 0
              have f1 := HPz.out.fz 1
              have l0 := HPz.out.lt
              simp only [List.getElem?_cons_zero, List.getElem?_cons_succ] at k0 k1
              obtain ⟨-, -, -, n3, n4, -⟩ := HC.out _ HBz.out
              have HXz := Lib.hid (Bk.below HX6.out HBz.out)
              have HFs : Hid (Fr (fun q => q = bp) wz ((wz.setCell ⟨bp, 0, none⟩ (.int .i64 sqn)).setCell ⟨bp, 1, none⟩ (.slice na D nc))) := Lib.hid ((Fr.set wz ⟨bp, 0, none⟩ _).trans (Fr.set _ ⟨bp, 1, none⟩ _) (fun j _ q => q.elim id id))
              have HP2 : Hid (Bk ((wz.setCell ⟨bp, 0, none⟩ (.int .i64 sqn)).setCell ⟨bp, 1, none⟩ (.slice na D nc)) bp 44 [.int .i64 sqn, .slice na D nc]) := Lib.hid ((HPz.out.set 0 _).set 1 _)
              obtain ⟨wy, hwy⟩ : ∃ q, (wz.setCell ⟨bp, 0, none⟩ (.int .i64 sqn)).setCell ⟨bp, 1, none⟩ (.slice na D nc) = q := ⟨_, rfl⟩
              rw [hwy] at HFs HP2
              have HQ2 := Lib.hid (HFs.out.bk HQz.out (by omega))
              have HBy : Hid (Below W6.heap.size W6 wy) := Lib.hid (HBz.out.trans (HFs.out.to HBz.out.size (fun q hq e => by have := HBp.out; omega)))
              go_upto_region 33 with fail
              try rw [hwy]
              clear hwy HFs HPz HQz HBz HXz k0 k1 f0 f1 l0 n3 n4
              obtain ⟨n0, n1, n2, -, -, -⟩ := HC.out _ HBy.out
              have hbx := Bk.below HX6.out HBy.out
              have r0 := Bk.cell hbx 0
              have r1 := Bk.cell hbx 1
              have r2 := Bk.cell hbx 2
              simp only [List.getElem?_cons_zero, List.getElem?_cons_succ] at r0 r1 r2
              go_quiet (fail)
              generalize hwv : World.drewN _ _ = wv
              have hbv : Below wy.heap.size wy wv := by rw [← hwv]; exact below_drewNA (Below.refl _ _) _
              have HBv := Lib.hid (HBy.out.trans (hbv.mono HBy.out.size))
              clear hwv n0 n1 n2 hbx r0 r1 r2 heq2 hqg2 HBy
              go_wp2_with fail
              go_roundw
              case rel => exact ⟨m + 1, sqn, sq, na, aq, D, nc, mq2, cq, by omega, by go_num, Lib.hid (Bk.below HP2.out hbv), Lib.hid (Bk.below HQ2.out hbv), HPQ2, HBv⟩
              case measure => simp [intOf]; omega
            · rw [decide_eq_false hjP] at heq1
              by_cases hjX : ((j1, j2, j3) : I3) = (x1, x2, x3)
              · rw [decide_eq_true hjX] at heq2
                have HPQ2 : Hid (((p1, p2, p3) ∈ (nv.take (m + 1)).map (·.d.id) → sp = sqOf (webL nv) (p1, p2, p3)) ∧ ((x1, x2, x3) ∈ (nv.take (m + 1)).map (·.d.id) → sqn = sqOf (webL nv) (x1, x2, x3))) := Lib.hid ⟨fun q => HPQ.out.1 (by
                  rw [HTk.out, List.mem_append, List.mem_singleton] at q
                  exact q.resolve_right (fun e => hjP e.symm)), fun _ => by rw [← hjX, HSn.out]⟩
                clear hjP hjX HPQ
                go_upto_region 31 with fail
                go_quiet (fail)
                generalize hwz : World.drewN _ _ = wz
                have hbz : Below wr.heap.size wr wz := by rw [← hwz]; exact below_drewNA (Below.refl _ _) _
                have HBy := Lib.hid (HBm.out.trans (hbz.mono HBm.out.size))
                have HP2 := Lib.hid (Bk.below HPb.out hbz)
                have HQ2 := Lib.hid (Bk.below HQb.out hbz)
                clear hwz hbz n0 n1 n2 p0 p1' p2' hco HBm HB4m HPb HQb heq1 hqg1
                obtain ⟨wy, rfl⟩ : ∃ q, q = wz := ⟨_, rfl⟩
                obtain ⟨n0, n1, n2, -, -, -⟩ := HC.out _ HBy.out
                have hbx := Bk.below HX6.out HBy.out
                have r0 := Bk.cell hbx 0
                have r1 := Bk.cell hbx 1
                have r2 := Bk.cell hbx 2
                simp only [List.getElem?_cons_zero, List.getElem?_cons_succ] at r0 r1 r2
                go_upto_region 33 with fail
                go_quiet (fail)
                generalize hwv : World.drewN _ _ = wv
                have hbv : Below wy.heap.size wy wv := by rw [← hwv]; exact below_drewNA (Below.refl _ _) _
                have HBz := Lib.hid (HBy.out.trans (hbv.mono HBy.out.size))
                have HPz := Lib.hid (Bk.below HP2.out hbv)
                have HQz := Lib.hid (Bk.below HQ2.out hbv)
                clear hwv hbv n0 n1 n2 hbx r0 r1 r2 heq2 hqg2 HBy HP2 HQ2
                have k0 := Bk.cell HQz.out 0
                have k1 := Bk.cell HQz.out 1
                have f0 := HQz.out.fz 0
                have f1 := HQz.out.fz 1
                have l0 := HQz.out.lt
                simp only [List.getElem?_cons_zero, List.getElem?_cons_succ] at k0 k1
                obtain ⟨-, -, -, n3, n4, -⟩ := HC.out _ HBz.out
                have HFs : Hid (Fr (fun q => q = bp + 1) wv ((wv.setCell ⟨bp + 1, 0, none⟩ (.int .i64 sqn)).setCell ⟨bp + 1, 1, none⟩ (.slice na D nc))) := Lib.hid ((Fr.set wv ⟨bp + 1, 0, none⟩ _).trans (Fr.set _ ⟨bp + 1, 1, none⟩ _) (fun j _ q => q.elim id id))
                have HQ2 : Hid (Bk ((wv.setCell ⟨bp + 1, 0, none⟩ (.int .i64 sqn)).setCell ⟨bp + 1, 1, none⟩ (.slice na D nc)) (bp + 1) 44 [.int .i64 sqn, .slice na D nc]) := Lib.hid ((HQz.out.set 0 _).set 1 _)
                obtain ⟨wt, hwt⟩ : ∃ q, (wv.setCell ⟨bp + 1, 0, none⟩ (.int .i64 sqn)).setCell ⟨bp + 1, 1, none⟩ (.slice na D nc) = q := ⟨_, rfl⟩
                rw [hwt] at HFs HQ2
                have HP2 := Lib.hid (HFs.out.bk HPz.out (by omega))
                have HBt : Hid (Below W6.heap.size W6 wt) := Lib.hid (HBz.out.trans (HFs.out.to HBz.out.size (fun q hq e => by have := HBp.out; omega)))
                go_upto_region 30 with fail
                try rw [hwt]
                clear hwt HFs HPz HQz HBz k0 k1 f0 f1 l0 n3 n4
                go_wp2_with fail
                go_roundw
                case rel => exact ⟨m + 1, sp, sqn, ap, na, mp2, cp, D, nc, by omega, by go_num, HP2, HQ2, HPQ2, HBt⟩
                case measure => simp [intOf]; omega
              · rw [decide_eq_false hjX] at heq2
                have HPQ2 : Hid (((p1, p2, p3) ∈ (nv.take (m + 1)).map (·.d.id) → sp = sqOf (webL nv) (p1, p2, p3)) ∧ ((x1, x2, x3) ∈ (nv.take (m + 1)).map (·.d.id) → sq = sqOf (webL nv) (x1, x2, x3))) := Lib.hid ⟨fun q => HPQ.out.1 (by
                  rw [HTk.out, List.mem_append, List.mem_singleton] at q
                  exact q.resolve_right (fun e => hjP e.symm)), fun q => HPQ.out.2 (by
                  rw [HTk.out, List.mem_append, List.mem_singleton] at q
                  exact q.resolve_right (fun e => hjX e.symm))⟩
                clear hjP hjX HPQ
                go_upto_region 31 with fail
                go_quiet (fail)
                generalize hwz : World.drewN _ _ = wz
                have hbz : Below wr.heap.size wr wz := by rw [← hwz]; exact below_drewNA (Below.refl _ _) _
                have HBy := Lib.hid (HBm.out.trans (hbz.mono HBm.out.size))
                have HP2 := Lib.hid (Bk.below HPb.out hbz)
                have HQ2 := Lib.hid (Bk.below HQb.out hbz)
                clear hwz hbz n0 n1 n2 p0 p1' p2' hco HBm HB4m HPb HQb heq1 hqg1
                obtain ⟨wy, rfl⟩ : ∃ q, q = wz := ⟨_, rfl⟩
                go_upto_region 33 with fail
                obtain ⟨n0, n1, n2, -, -, -⟩ := HC.out _ HBy.out
                have hbx := Bk.below HX6.out HBy.out
                have r0 := Bk.cell hbx 0
                have r1 := Bk.cell hbx 1
                have r2 := Bk.cell hbx 2
                simp only [List.getElem?_cons_zero, List.getElem?_cons_succ] at r0 r1 r2
                go_quiet (fail)
                generalize hwv : World.drewN _ _ = wv
                have hbv : Below wy.heap.size wy wv := by rw [← hwv]; exact below_drewNA (Below.refl _ _) _
                have HBv := Lib.hid (HBy.out.trans (hbv.mono HBy.out.size))
                clear hwv n0 n1 n2 hbx r0 r1 r2 heq2 hqg2 HBy
                go_wp2_with fail
                go_roundw
                case rel => exact ⟨m + 1, sp, sq, ap, aq, mp2, cp, mq2, cq, by omega, by go_num, Lib.hid (Bk.below HP2.out hbv), Lib.hid (Bk.below HQ2.out hbv), HPQ2, HBv⟩
                case measure => simp [intOf]; omega
          · obtain rfl : m = Nv := by omega
            have hm2 : decide ((m : Int) < (m : Int)) = false := decide_eq_false (by omega)
            have hm3 : decide (m < m) = false := decide_eq_false (by omega)
            have htk : nv.take m = nv := List.take_of_length_le (by rw [HNv.out]; exact Nat.le_refl _)
            have hpq := HPQ.out
            rw [htk] at hpq
            have hsp := hpq.1 HPn.out
            have hsx := hpq.2 HXn.out
            have hlt := HLt.out
            rw [← hsp, ← hsx] at hlt
            have HLt2 := Lib.hid hlt
            clear htk hpq hsp hsx hlt HPQ
            have hi1 : (i : Int) < (j : Int) := Int.ofNat_lt.2 hiN
            have hi2 : decide ((i : Int) < (j : Int)) = true := decide_eq_true hi1
            have HC35 : Hid (∀ w', Below wr.heap.size wr w' → w'.cell? ⟨bp, 0, none⟩ = some (.int .i64 sp) ∧ w'.cell? ⟨bp + 1, 0, none⟩ = some (.int .i64 sq) ∧ w'.cell? ⟨go, fo + i, none⟩ = some (.slice (some ⟨gb, ob, none⟩) no co) ∧ w'.cell? ⟨gb, ob + K1 * 3, none⟩ = some (.int .i64 p1) ∧ w'.cell? ⟨gb, ob + K1 * 3 + 1, none⟩ = some (.int .i64 p2) ∧ w'.cell? ⟨gb, ob + K1 * 3 + 2, none⟩ = some (.int .i64 p3) ∧ w'.cell? ⟨bx, 0, none⟩ = some (.int .i64 x1) ∧ w'.cell? ⟨bx, 1, none⟩ = some (.int .i64 x2) ∧ w'.cell? ⟨bx, 2, none⟩ = some (.int .i64 x3)) := Lib.hid fun w' hb => by
              have hb6 := HBm.out.trans (hb.mono HBm.out.size)
              obtain ⟨hco, -⟩ := HOw.out _ (HB6.out.trans (hb6.mono HB6.out.size))
              obtain ⟨q0, q1, q2⟩ := HPc.out _ hb6
              have hbx := Bk.below HX6.out hb6
              exact ⟨(Bk.below HPb.out hb).cell 0, (Bk.below HQb.out hb).cell 0, hco, q0, q1, q2, hbx.cell 0, hbx.cell 1, hbx.cell 2⟩
            go_upto_region 35 with fail
            by_cases hqe : sp = sq
            · have hll : ltI (p1, p2, p3) (x1, x2, x3) = true := by
                rcases HLt2.out with r | r
                · omega
                · exact r.2
              subst hqe
              have hg1 : ¬ sp < sp := by omega
              have hg2 : decide (sp < sp) = false := decide_eq_false hg1
              have hg3 : decide (sp = sp) = true := decide_eq_true rfl
              have hg4 : (sp == sp) = true := by simp
              clear HLt2
              refine wp_region_held_drew (S := (fun w' => w'.cell? ⟨bp, 0, none⟩ = some (.int .i64 sp) ∧ w'.cell? ⟨bp + 1, 0, none⟩ = some (.int .i64 sp) ∧ w'.cell? ⟨go, fo + i, none⟩ = some (.slice (some ⟨gb, ob, none⟩) no co) ∧ w'.cell? ⟨gb, ob + K1 * 3, none⟩ = some (.int .i64 p1) ∧ w'.cell? ⟨gb, ob + K1 * 3 + 1, none⟩ = some (.int .i64 p2) ∧ w'.cell? ⟨gb, ob + K1 * 3 + 2, none⟩ = some (.int .i64 p3) ∧ w'.cell? ⟨bx, 0, none⟩ = some (.int .i64 x1) ∧ w'.cell? ⟨bx, 1, none⟩ = some (.int .i64 x2) ∧ w'.cell? ⟨bx, 2, none⟩ = some (.int .i64 x3))) (by kernel_rfl) ?_ (fun hHeld => ?_)
              · ((first
              | exact HC35.out _ hbl
              | exact HC35.out _ (Below.refl _ _)
              | exact HC35.out _ (Below.refl _ _).drew
              | fail))
              refine wpAnyH_take (i := 0) (v := ?_) rfl (by kernel_rfl) (by kernel_rfl) (by kernel_rfl) (fun _ _ _ h => h) (Or.inl ⟨by rfl, ?_⟩) (by assumption) ?_
              rotate_left
              · (intro w hSw; (try dsimp only at hSw); go_simp; try rfl)
              try simp only [Act.put, List.setIfInBounds_toArray, List.set_cons_zero, List.set_cons_succ, List.getElem_toArray, List.getElem_cons_zero, List.getElem_cons_succ]
              refine wpAnyH_take (i := 1) (v := ?_) rfl (by kernel_rfl) (by kernel_rfl) (by kernel_rfl) (fun _ _ _ h => h) (Or.inl ⟨by rfl, ?_⟩) (by assumption) ?_
              rotate_left
              · (intro w hSw; (try dsimp only at hSw); go_simp; try rfl)
              try simp only [Act.put, List.setIfInBounds_toArray, List.set_cons_zero, List.set_cons_succ, List.getElem_toArray, List.getElem_cons_zero, List.getElem_cons_succ]
              refine wpAnyH_take (i := 2) (v := ?_) rfl (by kernel_rfl) (by kernel_rfl) (by kernel_rfl) (fun _ _ _ h => h) (Or.inl ⟨by rfl, ?_⟩) (by assumption) ?_
              rotate_left
              · (intro w hSw; (try dsimp only at hSw); go_simp; try rfl)
              try simp only [Act.put, List.setIfInBounds_toArray, List.set_cons_zero, List.set_cons_succ, List.getElem_toArray, List.getElem_cons_zero, List.getElem_cons_succ]
              refine wpAnyH_take (i := 3) (v := ?_) rfl (by kernel_rfl) (by kernel_rfl) (by kernel_rfl) (fun _ _ _ h => h) (Or.inl ⟨by rfl, ?_⟩) (by assumption) ?_
              rotate_left
              · (intro w hSw; (try dsimp only at hSw); go_simp; try rfl)
              try simp only [Act.put, List.setIfInBounds_toArray, List.set_cons_zero, List.set_cons_succ, List.getElem_toArray, List.getElem_cons_zero, List.getElem_cons_succ]
              refine wpAnyH_take (i := 4) (v := ?_) rfl (by kernel_rfl) (by kernel_rfl) (by kernel_rfl) (fun _ _ _ h => h) (Or.inl ⟨by rfl, ?_⟩) (by assumption) ?_
              rotate_left
              · (intro w hSw; (try dsimp only at hSw); go_simp; try rfl)
              try simp only [Act.put, List.setIfInBounds_toArray, List.set_cons_zero, List.set_cons_succ, List.getElem_toArray, List.getElem_cons_zero, List.getElem_cons_succ]
              refine wpAnyH_take (i := 5) (v := ?_) rfl (by kernel_rfl) (by kernel_rfl) (by kernel_rfl) (fun _ _ _ h => h) (Or.inl ⟨by rfl, ?_⟩) (by assumption) ?_
              rotate_left
              · (intro w hSw; (try dsimp only at hSw); go_simp; try rfl)
              try simp only [Act.put, List.setIfInBounds_toArray, List.set_cons_zero, List.set_cons_succ, List.getElem_toArray, List.getElem_cons_zero, List.getElem_cons_succ]
              refine wpAnyH_take (i := 6) (v := ?_) rfl (by kernel_rfl) (by kernel_rfl) (by kernel_rfl) (fun _ _ _ h => h) (Or.inl ⟨by rfl, ?_⟩) (by assumption) ?_
              rotate_left
              · (intro w hSw; (try dsimp only at hSw); go_simp; try rfl)
              try simp only [Act.put, List.setIfInBounds_toArray, List.set_cons_zero, List.set_cons_succ, List.getElem_toArray, List.getElem_cons_zero, List.getElem_cons_succ]
              refine wpAnyH_take (i := 7) (v := ?_) rfl (by kernel_rfl) (by kernel_rfl) (by kernel_rfl) (fun _ _ _ h => h) (Or.inl ⟨by rfl, ?_⟩) (by assumption) ?_
              rotate_left
              · (intro w hSw; (try dsimp only at hSw); go_simp; try rfl)
              try simp only [Act.put, List.setIfInBounds_toArray, List.set_cons_zero, List.set_cons_succ, List.getElem_toArray, List.getElem_cons_zero, List.getElem_cons_succ]
              refine wpAnyH_take (i := 8) (v := ?_) rfl (by kernel_rfl) (by kernel_rfl) (by kernel_rfl) (fun _ _ _ h => h) (Or.inl ⟨by rfl, ?_⟩) (by assumption) ?_
              rotate_left
              · (intro w hSw; (try dsimp only at hSw); go_simp; try rfl)
              try simp only [Act.put, List.setIfInBounds_toArray, List.set_cons_zero, List.set_cons_succ, List.getElem_toArray, List.getElem_cons_zero, List.getElem_cons_succ]
              refine wpAnyH_take (i := 9) (v := ?_) rfl (by kernel_rfl) (by kernel_rfl) (by kernel_rfl) (fun _ _ _ h => h) (Or.inl ⟨by rfl, ?_⟩) (by assumption) ?_
              rotate_left
              · (intro w hSw; (try dsimp only at hSw); go_simp; try rfl)
              try simp only [Act.put, List.setIfInBounds_toArray, List.set_cons_zero, List.set_cons_succ, List.getElem_toArray, List.getElem_cons_zero, List.getElem_cons_succ]
              refine wpAnyH_take (i := 10) (v := ?_) rfl (by kernel_rfl) (by kernel_rfl) (by kernel_rfl) (fun _ _ _ h => h) (Or.inl ⟨by rfl, ?_⟩) (by assumption) ?_
              rotate_left
              · (intro w hSw; (try dsimp only at hSw); go_simp; try rfl)
              try simp only [Act.put, List.setIfInBounds_toArray, List.set_cons_zero, List.set_cons_succ, List.getElem_toArray, List.getElem_cons_zero, List.getElem_cons_succ]
              refine wpAnyH_take (i := 11) (v := ?_) rfl (by kernel_rfl) (by kernel_rfl) (by kernel_rfl) (fun _ _ _ h => h) (Or.inl ⟨by rfl, ?_⟩) (by assumption) ?_
              rotate_left
              · (intro w hSw; (try dsimp only at hSw); go_simp; try rfl)
              try simp only [Act.put, List.setIfInBounds_toArray, List.set_cons_zero, List.set_cons_succ, List.getElem_toArray, List.getElem_cons_zero, List.getElem_cons_succ]
              refine wpAnyH_take (i := 12) (v := ?_) rfl (by kernel_rfl) (by kernel_rfl) (by kernel_rfl) (fun _ _ _ h => h) (Or.inl ⟨by rfl, ?_⟩) (by assumption) ?_
              rotate_left
              · (intro w hSw; (try dsimp only at hSw); go_simp; try rfl)
              try simp only [Act.put, List.setIfInBounds_toArray, List.set_cons_zero, List.set_cons_succ, List.getElem_toArray, List.getElem_cons_zero, List.getElem_cons_succ]
              refine wpAnyH_take (i := 13) (v := ?_) rfl (by kernel_rfl) (by kernel_rfl) (by kernel_rfl) (fun _ _ _ h => h) (Or.inl ⟨by rfl, ?_⟩) (by assumption) ?_
              rotate_left
              · (intro w hSw; (try dsimp only at hSw); go_simp; try rfl)
              try simp only [Act.put, List.setIfInBounds_toArray, List.set_cons_zero, List.set_cons_succ, List.getElem_toArray, List.getElem_cons_zero, List.getElem_cons_succ]
              refine wpAnyH_take (i := 14) (v := ?_) rfl (by kernel_rfl) (by kernel_rfl) (by kernel_rfl) (fun _ _ _ h => h) (Or.inl ⟨by rfl, ?_⟩) (by assumption) ?_
              rotate_left
              · (intro w hSw; (try dsimp only at hSw); go_simp; try rfl)
              try simp only [Act.put, List.setIfInBounds_toArray, List.set_cons_zero, List.set_cons_succ, List.getElem_toArray, List.getElem_cons_zero, List.getElem_cons_succ]
              refine wpAnyH_take (i := 15) (v := ?_) rfl (by kernel_rfl) (by kernel_rfl) (by kernel_rfl) (fun _ _ _ h => h) (Or.inl ⟨by rfl, ?_⟩) (by assumption) ?_
              rotate_left
              · (intro w hSw; (try dsimp only at hSw); go_simp; try rfl)
              try simp only [Act.put, List.setIfInBounds_toArray, List.set_cons_zero, List.set_cons_succ, List.getElem_toArray, List.getElem_cons_zero, List.getElem_cons_succ]
              refine wpAnyH_take (i := 16) (v := ?_) rfl (by kernel_rfl) (by kernel_rfl) (by kernel_rfl) (fun _ _ _ h => h) (Or.inl ⟨by rfl, ?_⟩) (by assumption) ?_
              rotate_left
              · (intro w hSw; (try dsimp only at hSw); go_simp; try rfl)
              try simp only [Act.put, List.setIfInBounds_toArray, List.set_cons_zero, List.set_cons_succ, List.getElem_toArray, List.getElem_cons_zero, List.getElem_cons_succ]
              refine wpAnyH_take (i := 17) (v := ?_) rfl (by kernel_rfl) (by kernel_rfl) (by kernel_rfl) (fun _ _ _ h => h) (Or.inl ⟨by rfl, ?_⟩) (by assumption) ?_
              rotate_left
              · (intro w hSw; (try dsimp only at hSw); go_simp; try rfl)
              try simp only [Act.put, List.setIfInBounds_toArray, List.set_cons_zero, List.set_cons_succ, List.getElem_toArray, List.getElem_cons_zero, List.getElem_cons_succ]
              refine wpAnyH_take (i := 18) (v := ?_) rfl (by kernel_rfl) (by kernel_rfl) (by kernel_rfl) (fun _ _ _ h => h) (Or.inl ⟨by rfl, ?_⟩) (by assumption) ?_
              rotate_left
              · (intro w hSw; (try dsimp only at hSw); go_simp; try rfl)
              try simp only [Act.put, List.setIfInBounds_toArray, List.set_cons_zero, List.set_cons_succ, List.getElem_toArray, List.getElem_cons_zero, List.getElem_cons_succ]
              refine wpAnyH_take (i := 19) (v := ?_) rfl (by kernel_rfl) (by kernel_rfl) (by kernel_rfl) (fun _ _ _ h => h) (Or.inl ⟨by rfl, ?_⟩) (by assumption) ?_
              rotate_left
              · (intro w hSw; (try dsimp only at hSw); go_simp; try rfl)
              try simp only [Act.put, List.setIfInBounds_toArray, List.set_cons_zero, List.set_cons_succ, List.getElem_toArray, List.getElem_cons_zero, List.getElem_cons_succ]
              refine wpAnyH_take (i := 20) (v := ?_) rfl (by kernel_rfl) (by kernel_rfl) (by kernel_rfl) (fun _ _ _ h => h) (Or.inl ⟨by rfl, ?_⟩) (by assumption) ?_
              rotate_left
              · (intro w hSw; (try dsimp only at hSw); go_simp; try rfl)
              try simp only [Act.put, List.setIfInBounds_toArray, List.set_cons_zero, List.set_cons_succ, List.getElem_toArray, List.getElem_cons_zero, List.getElem_cons_succ]
              refine wpAnyH_ready (rs := [21]) (by kernel_rfl) (by simp) ?_
              refine (AllReadyH.cons rfl (fun K hK => ?_) AllReadyH.nil)
              go_simp
              (go_at_call 27; refine (less_any p1 p2 p3 x1 x2 x3 _).mono ?_; rintro e wl ⟨rfl, hgr⟩; have hbl : Below wr.heap.size wr wl := (Below.refl _ _).drew.trans (hgr.below.mono (by simp)); rw [hll]; clear hgr)
              refine hK.out _ _ ?_ (fun hHeld => ?_)
              · ((first
              | exact HC35.out _ hbl
              | exact HC35.out _ (Below.refl _ _)
              | exact HC35.out _ (Below.refl _ _).drew
              | fail))
              clear hK K
              try simp only [Act.put, List.setIfInBounds_toArray, List.set_cons_zero, List.set_cons_succ, List.getElem_toArray, List.getElem_cons_zero, List.getElem_cons_succ]
              refine wpAnyH_take (i := 22) (v := ?_) rfl (by kernel_rfl) (by kernel_rfl) (by kernel_rfl) (fun _ _ _ h => h) (Or.inl ⟨by rfl, ?_⟩) (by assumption) ?_
              rotate_left
              · (intro w hSw; (try dsimp only at hSw); go_simp; try rfl)
              try simp only [Act.put, List.setIfInBounds_toArray, List.set_cons_zero, List.set_cons_succ, List.getElem_toArray, List.getElem_cons_zero, List.getElem_cons_succ]
              refine wpAnyH_take (i := 23) (v := ?_) rfl (by kernel_rfl) (by kernel_rfl) (by kernel_rfl) (fun _ _ _ h => h) (Or.inl ⟨by rfl, ?_⟩) (by assumption) ?_
              rotate_left
              · (intro w hSw; (try dsimp only at hSw); go_simp; try rfl)
              try simp only [Act.put, List.setIfInBounds_toArray, List.set_cons_zero, List.set_cons_succ, List.getElem_toArray, List.getElem_cons_zero, List.getElem_cons_succ]
              refine wpAnyH_take (i := 24) (v := ?_) rfl (by kernel_rfl) (by kernel_rfl) (by kernel_rfl) (fun _ _ _ h => h) (Or.inl ⟨by rfl, ?_⟩) (by assumption) ?_
              rotate_left
              · (intro w hSw; (try dsimp only at hSw); go_simp; try rfl)
              try simp only [Act.put, List.setIfInBounds_toArray, List.set_cons_zero, List.set_cons_succ, List.getElem_toArray, List.getElem_cons_zero, List.getElem_cons_succ]
              refine wpAnyH_done (by kernel_rfl) ?_ _
              have HBl := Lib.hid (HB4m.out.trans (hbl.mono HB4m.out.size))
              clear HC35 HB4m
              go_wp2_with fail
              go_roundw
              case rel => exact ⟨k + 1, by omega, by go_num, HBl⟩
              case measure => simp [intOf]; omega
            · have hlq : sp < sq := by
                rcases HLt2.out with r | r
                · exact r
                · exact absurd r.1 hqe
              have hg1 : ¬ sq < sp := by omega
              have hg2 : decide (sq < sp) = false := decide_eq_false hg1
              have hg3 : decide (sp = sq) = false := decide_eq_false hqe
              have hg4 : (sp == sq) = false := by simpa using hqe
              clear HLt2
              refine wp_region_held_drew (S := (fun w' => w'.cell? ⟨bp, 0, none⟩ = some (.int .i64 sp) ∧ w'.cell? ⟨bp + 1, 0, none⟩ = some (.int .i64 sq) ∧ w'.cell? ⟨go, fo + i, none⟩ = some (.slice (some ⟨gb, ob, none⟩) no co) ∧ w'.cell? ⟨gb, ob + K1 * 3, none⟩ = some (.int .i64 p1) ∧ w'.cell? ⟨gb, ob + K1 * 3 + 1, none⟩ = some (.int .i64 p2) ∧ w'.cell? ⟨gb, ob + K1 * 3 + 2, none⟩ = some (.int .i64 p3) ∧ w'.cell? ⟨bx, 0, none⟩ = some (.int .i64 x1) ∧ w'.cell? ⟨bx, 1, none⟩ = some (.int .i64 x2) ∧ w'.cell? ⟨bx, 2, none⟩ = some (.int .i64 x3))) (by kernel_rfl) ?_ (fun hHeld => ?_)
              · ((first
              | exact HC35.out _ hbl
              | exact HC35.out _ (Below.refl _ _)
              | exact HC35.out _ (Below.refl _ _).drew
              | fail))
              refine wpAnyH_take (i := 0) (v := ?_) rfl (by kernel_rfl) (by kernel_rfl) (by kernel_rfl) (fun _ _ _ h => h) (Or.inl ⟨by rfl, ?_⟩) (by assumption) ?_
              rotate_left
              · (intro w hSw; (try dsimp only at hSw); go_simp; try rfl)
              try simp only [Act.put, List.setIfInBounds_toArray, List.set_cons_zero, List.set_cons_succ, List.getElem_toArray, List.getElem_cons_zero, List.getElem_cons_succ]
              refine wpAnyH_take (i := 1) (v := ?_) rfl (by kernel_rfl) (by kernel_rfl) (by kernel_rfl) (fun _ _ _ h => h) (Or.inl ⟨by rfl, ?_⟩) (by assumption) ?_
              rotate_left
              · (intro w hSw; (try dsimp only at hSw); go_simp; try rfl)
              try simp only [Act.put, List.setIfInBounds_toArray, List.set_cons_zero, List.set_cons_succ, List.getElem_toArray, List.getElem_cons_zero, List.getElem_cons_succ]
              refine wpAnyH_take (i := 2) (v := ?_) rfl (by kernel_rfl) (by kernel_rfl) (by kernel_rfl) (fun _ _ _ h => h) (Or.inl ⟨by rfl, ?_⟩) (by assumption) ?_
              rotate_left
              · (intro w hSw; (try dsimp only at hSw); go_simp; try rfl)
              try simp only [Act.put, List.setIfInBounds_toArray, List.set_cons_zero, List.set_cons_succ, List.getElem_toArray, List.getElem_cons_zero, List.getElem_cons_succ]
              refine wpAnyH_take (i := 3) (v := ?_) rfl (by kernel_rfl) (by kernel_rfl) (by kernel_rfl) (fun _ _ _ h => h) (Or.inl ⟨by rfl, ?_⟩) (by assumption) ?_
              rotate_left
              · (intro w hSw; (try dsimp only at hSw); go_simp; try rfl)
              try simp only [Act.put, List.setIfInBounds_toArray, List.set_cons_zero, List.set_cons_succ, List.getElem_toArray, List.getElem_cons_zero, List.getElem_cons_succ]
              refine wpAnyH_take (i := 4) (v := ?_) rfl (by kernel_rfl) (by kernel_rfl) (by kernel_rfl) (fun _ _ _ h => h) (Or.inl ⟨by rfl, ?_⟩) (by assumption) ?_
              rotate_left
              · (intro w hSw; (try dsimp only at hSw); go_simp; try rfl)
              try simp only [Act.put, List.setIfInBounds_toArray, List.set_cons_zero, List.set_cons_succ, List.getElem_toArray, List.getElem_cons_zero, List.getElem_cons_succ]
              refine wpAnyH_take (i := 5) (v := ?_) rfl (by kernel_rfl) (by kernel_rfl) (by kernel_rfl) (fun _ _ _ h => h) (Or.inl ⟨by rfl, ?_⟩) (by assumption) ?_
              rotate_left
              · (intro w hSw; (try dsimp only at hSw); go_simp; try rfl)
              try simp only [Act.put, List.setIfInBounds_toArray, List.set_cons_zero, List.set_cons_succ, List.getElem_toArray, List.getElem_cons_zero, List.getElem_cons_succ]
              refine wpAnyH_take (i := 6) (v := ?_) rfl (by kernel_rfl) (by kernel_rfl) (by kernel_rfl) (fun _ _ _ h => h) (Or.inl ⟨by rfl, ?_⟩) (by assumption) ?_
              rotate_left
              · (intro w hSw; (try dsimp only at hSw); go_simp; try rfl)
              try simp only [Act.put, List.setIfInBounds_toArray, List.set_cons_zero, List.set_cons_succ, List.getElem_toArray, List.getElem_cons_zero, List.getElem_cons_succ]
              refine wpAnyH_take (i := 7) (v := ?_) rfl (by kernel_rfl) (by kernel_rfl) (by kernel_rfl) (fun _ _ _ h => h) (Or.inl ⟨by rfl, ?_⟩) (by assumption) ?_
              rotate_left
              · (intro w hSw; (try dsimp only at hSw); go_simp; try rfl)
              try simp only [Act.put, List.setIfInBounds_toArray, List.set_cons_zero, List.set_cons_succ, List.getElem_toArray, List.getElem_cons_zero, List.getElem_cons_succ]
              refine wpAnyH_take (i := 8) (v := ?_) rfl (by kernel_rfl) (by kernel_rfl) (by kernel_rfl) (fun _ _ _ h => h) (Or.inl ⟨by rfl, ?_⟩) (by assumption) ?_
              rotate_left
              · (intro w hSw; (try dsimp only at hSw); go_simp; try rfl)
              try simp only [Act.put, List.setIfInBounds_toArray, List.set_cons_zero, List.set_cons_succ, List.getElem_toArray, List.getElem_cons_zero, List.getElem_cons_succ]
              refine wpAnyH_take (i := 9) (v := ?_) rfl (by kernel_rfl) (by kernel_rfl) (by kernel_rfl) (fun _ _ _ h => h) (Or.inl ⟨by rfl, ?_⟩) (by assumption) ?_
              rotate_left
              · (intro w hSw; (try dsimp only at hSw); go_simp; try rfl)
              try simp only [Act.put, List.setIfInBounds_toArray, List.set_cons_zero, List.set_cons_succ, List.getElem_toArray, List.getElem_cons_zero, List.getElem_cons_succ]
              refine wpAnyH_take (i := 10) (v := ?_) rfl (by kernel_rfl) (by kernel_rfl) (by kernel_rfl) (fun _ _ _ h => h) (Or.inl ⟨by rfl, ?_⟩) (by assumption) ?_
              rotate_left
              · (intro w hSw; (try dsimp only at hSw); go_simp; try rfl)
              try simp only [Act.put, List.setIfInBounds_toArray, List.set_cons_zero, List.set_cons_succ, List.getElem_toArray, List.getElem_cons_zero, List.getElem_cons_succ]
              refine wpAnyH_take (i := 11) (v := ?_) rfl (by kernel_rfl) (by kernel_rfl) (by kernel_rfl) (fun _ _ _ h => h) (Or.inl ⟨by rfl, ?_⟩) (by assumption) ?_
              rotate_left
              · (intro w hSw; (try dsimp only at hSw); go_simp; try rfl)
              try simp only [Act.put, List.setIfInBounds_toArray, List.set_cons_zero, List.set_cons_succ, List.getElem_toArray, List.getElem_cons_zero, List.getElem_cons_succ]
              refine wpAnyH_take (i := 12) (v := undef) rfl (by kernel_rfl) (by kernel_rfl) (by kernel_rfl) (fun _ _ _ h => h) (Or.inr ⟨by rfl, rfl⟩) (by assumption) ?_
              try simp only [Act.put, List.setIfInBounds_toArray, List.set_cons_zero, List.set_cons_succ, List.getElem_toArray, List.getElem_cons_zero, List.getElem_cons_succ]
              refine wpAnyH_take (i := 13) (v := undef) rfl (by kernel_rfl) (by kernel_rfl) (by kernel_rfl) (fun _ _ _ h => h) (Or.inr ⟨by rfl, rfl⟩) (by assumption) ?_
              try simp only [Act.put, List.setIfInBounds_toArray, List.set_cons_zero, List.set_cons_succ, List.getElem_toArray, List.getElem_cons_zero, List.getElem_cons_succ]
              refine wpAnyH_take (i := 14) (v := undef) rfl (by kernel_rfl) (by kernel_rfl) (by kernel_rfl) (fun _ _ _ h => h) (Or.inr ⟨by rfl, rfl⟩) (by assumption) ?_
              try simp only [Act.put, List.setIfInBounds_toArray, List.set_cons_zero, List.set_cons_succ, List.getElem_toArray, List.getElem_cons_zero, List.getElem_cons_succ]
              refine wpAnyH_take (i := 15) (v := undef) rfl (by kernel_rfl) (by kernel_rfl) (by kernel_rfl) (fun _ _ _ h => h) (Or.inr ⟨by rfl, rfl⟩) (by assumption) ?_
              try simp only [Act.put, List.setIfInBounds_toArray, List.set_cons_zero, List.set_cons_succ, List.getElem_toArray, List.getElem_cons_zero, List.getElem_cons_succ]
              refine wpAnyH_take (i := 16) (v := undef) rfl (by kernel_rfl) (by kernel_rfl) (by kernel_rfl) (fun _ _ _ h => h) (Or.inr ⟨by rfl, rfl⟩) (by assumption) ?_
              try simp only [Act.put, List.setIfInBounds_toArray, List.set_cons_zero, List.set_cons_succ, List.getElem_toArray, List.getElem_cons_zero, List.getElem_cons_succ]
              refine wpAnyH_take (i := 17) (v := undef) rfl (by kernel_rfl) (by kernel_rfl) (by kernel_rfl) (fun _ _ _ h => h) (Or.inr ⟨by rfl, rfl⟩) (by assumption) ?_
              try simp only [Act.put, List.setIfInBounds_toArray, List.set_cons_zero, List.set_cons_succ, List.getElem_toArray, List.getElem_cons_zero, List.getElem_cons_succ]
              refine wpAnyH_take (i := 18) (v := undef) rfl (by kernel_rfl) (by kernel_rfl) (by kernel_rfl) (fun _ _ _ h => h) (Or.inr ⟨by rfl, rfl⟩) (by assumption) ?_
              try simp only [Act.put, List.setIfInBounds_toArray, List.set_cons_zero, List.set_cons_succ, List.getElem_toArray, List.getElem_cons_zero, List.getElem_cons_succ]
              refine wpAnyH_take (i := 19) (v := undef) rfl (by kernel_rfl) (by kernel_rfl) (by kernel_rfl) (fun _ _ _ h => h) (Or.inr ⟨by rfl, rfl⟩) (by assumption) ?_
              try simp only [Act.put, List.setIfInBounds_toArray, List.set_cons_zero, List.set_cons_succ, List.getElem_toArray, List.getElem_cons_zero, List.getElem_cons_succ]
              refine wpAnyH_take (i := 20) (v := undef) rfl (by kernel_rfl) (by kernel_rfl) (by kernel_rfl) (fun _ _ _ h => h) (Or.inr ⟨by rfl, rfl⟩) (by assumption) ?_
              try simp only [Act.put, List.setIfInBounds_toArray, List.set_cons_zero, List.set_cons_succ, List.getElem_toArray, List.getElem_cons_zero, List.getElem_cons_succ]
              refine wpAnyH_take (i := 21) (v := undef) rfl (by kernel_rfl) (by kernel_rfl) (by kernel_rfl) (fun _ _ _ h => h) (Or.inr ⟨by rfl, rfl⟩) (by assumption) ?_
              try simp only [Act.put, List.setIfInBounds_toArray, List.set_cons_zero, List.set_cons_succ, List.getElem_toArray, List.getElem_cons_zero, List.getElem_cons_succ]
              refine wpAnyH_take (i := 22) (v := undef) rfl (by kernel_rfl) (by kernel_rfl) (by kernel_rfl) (fun _ _ _ h => h) (Or.inr ⟨by rfl, rfl⟩) (by assumption) ?_
              try simp only [Act.put, List.setIfInBounds_toArray, List.set_cons_zero, List.set_cons_succ, List.getElem_toArray, List.getElem_cons_zero, List.getElem_cons_succ]
              refine wpAnyH_take (i := 23) (v := ?_) rfl (by kernel_rfl) (by kernel_rfl) (by kernel_rfl) (fun _ _ _ h => h) (Or.inl ⟨by rfl, ?_⟩) (by assumption) ?_
              rotate_left
              · (intro w hSw; (try dsimp only at hSw); go_simp; try rfl)
              try simp only [Act.put, List.setIfInBounds_toArray, List.set_cons_zero, List.set_cons_succ, List.getElem_toArray, List.getElem_cons_zero, List.getElem_cons_succ]
              refine wpAnyH_take (i := 24) (v := ?_) rfl (by kernel_rfl) (by kernel_rfl) (by kernel_rfl) (fun _ _ _ h => h) (Or.inl ⟨by rfl, ?_⟩) (by assumption) ?_
              rotate_left
              · (intro w hSw; (try dsimp only at hSw); go_simp; try rfl)
              try simp only [Act.put, List.setIfInBounds_toArray, List.set_cons_zero, List.set_cons_succ, List.getElem_toArray, List.getElem_cons_zero, List.getElem_cons_succ]
              refine wpAnyH_done (by kernel_rfl) ?_ _
              have HBl := Lib.hid (HB4m.out.trans ((Below.refl wr.heap.size wr).drew.mono HB4m.out.size))
              clear HC35 HB4m
              go_wp2_with fail
              go_roundw
              case rel => exact ⟨k + 1, by omega, by go_num, HBl⟩
              case measure => simp [intOf]; omega
    · obtain rfl : k = no := by omega
      have hk2 : decide ((k : Int) < (k : Int)) = false := decide_eq_false (by omega)
      have hk3 : decide (k < k) = false := decide_eq_false (by omega)
      clear hro
      go_wp2_with fail
      go_roundw
      case rel => exact ⟨i + 1, by omega, by go_num, HB⟩
      case measure => simp [intOf]; omega
  · obtain rfl : i = N4 := by omega
    have hi2 : decide ((i : Int) < (i : Int)) = false := decide_eq_false (by omega)
    have hi3 : decide (i < i) = false := decide_eq_false (by omega)
    have HXe := Lib.hid (HX4.out.trans (HB.out.mono HX4.out.size))
    clear HB
    go_wp2
    go_ret
    exact ⟨rfl, HXe.out⟩
end Go.Proofs.Ytlckjpjcfalfnaa
