/-
  Graph: GraphAhead.
-/
import Derived.Test.YtlckjpjcfalfnaaLd
import Derived.Test.YtlckjpjcfalfnaaIds7
namespace Go.Proofs.Ytlckjpjcfalfnaa
open Go.RowKit Go.Sort
open Go.WideMaps
set_option linter.unusedSimpArgs false
set_option linter.unusedVariables false
set_option maxRecDepth 100000

theorem neI_run (a1 a2 a3 b1 b2 b3 : Int) : (∀ w, Sem.run Try.prog (binOp .neq 25 (.agg #[.int .i64 a1, .int .i64 a2, .int .i64 a3]) (.agg #[.int .i64 b1, .int .i64 b2, .int .i64 b3])) w = .ok (.bool (!decide (((a1, a2, a3) : I3) = (b1, b2, b3)))) w) ∧
    (∀ op x y w, Sem.run Try.prog (eqGuard op 25 x y (.agg #[.int .i64 a1, .int .i64 a2, .int .i64 a3]) (.agg #[.int .i64 b1, .int .i64 b2, .int .i64 b3])) w = .ok () w) := by
  refine ⟨fun w => ?_, (eqI_run a1 a2 a3 b1 b2 b3).2⟩
  have u3 := Try.underlying3
  have a3' := Try.isAgg3
  have z3 := Try.sizeOf3
  have hS : Try.prog.underlying 25 = some (.struct (Try.prog.fieldsOf 25)) := by kernel_rfl
  have hp : Try.prog.stoodInHeld 25 = false := by kernel_rfl
  rw [run_neq_struct, show (10000 : Nat) = 9999 + 1 from rfl, run_equalIn_agg w 9999 25 _ _ hS hp]
  simp only [Program.fieldsOf, Try.underlying25]
  go_simp
  by_cases h1 : a1 = b1 <;> by_cases h2 : a2 = b2 <;> by_cases h3 : a3 = b3 <;> simp [h1, h2, h3, Prod.ext_iff]
set_option maxHeartbeats 16000000 in
theorem ahead_law {w : World} {v vd : Value} {nv : List NV} {dn : List I3} (h : NRow w v nv) (hd : IK.Rd w vd dn) (ho : okL dn) :
    Calls Try.prog 4 #[v, vd] w fun e w' => e = .returned (.bool true) ∧ Below w.heap.size w w' := by
  have HX0 : Hid (Below w.heap.size w w) := Lib.hid (Below.refl _ _)
  go_enter Try.func4, Try.ntmps4
  go_wp2_with fail
  refine (works_any _).mono ?_
  rintro e w1 ⟨rfl, hb⟩
  have HX1 : Hid (Below w.heap.size w w1) := Lib.hid (HX0.out.trans (hb.mono HX0.out.size))

  have HOv := Lib.hid (over_any (h.below HX1.out) (hd.below HX1.out))
  obtain ⟨B, hB⟩ : ∃ q, overB nv dn = q := ⟨_, rfl⟩
  rw [hB] at HOv
  have HR := Lib.hid h
  have HD := Lib.hid hd
  have HO := Lib.hid ho
  obtain ⟨av, cv, hvv, _, _⟩ := h.el
  obtain ⟨a2', c2', hvd⟩ := hd.slice
  subst hvd
  subst hvv
  have HBo := Lib.hid hB
  clear hb h hd ho hB HX0
  go_wp2_with fail
  refine HOv.out.mono ?_
  rintro e w2 ⟨rfl, hb⟩
  have HX2 : Hid (Below w.heap.size w w2) := Lib.hid (HX1.out.trans (hb.mono HX1.out.size))
  clear hb HOv HX1
  cases B with
  | true =>
    go_wp2
    go_ret
    exact ⟨rfl, HX2.out⟩
  | false =>
  have HFw := Lib.hid (fw_of HBo.out)
  have HVa := Lib.hid (gvalid_any (HR.out.below HX2.out) (by have := HFw.out.few; omega))
  obtain ⟨V, hV⟩ : ∃ q, decide (nv.length ≤ 1024 ∧ (nv.map (·.d.id)).Nodup) = q := ⟨_, rfl⟩
  rw [hV] at HVa
  have HVe := Lib.hid hV
  clear hV HBo
  go_wp2_with fail
  refine HVa.out.mono ?_
  rintro e w3 ⟨rfl, hb⟩
  have HX3 : Hid (Below w.heap.size w w3) := Lib.hid (HX2.out.trans (hb.mono HX2.out.size))
  clear hb HVa HX2
  cases V with
  | false =>
    go_wp2
    go_ret
    exact ⟨rfl, HX3.out⟩
  | true =>
  have HG : Hid (GrIn w (.slice av nv.length cv) (.slice a2' dn.length c2') nv dn) := Lib.hid ⟨HR.out, HD.out, HO.out, HFw.out, (of_decide_eq_true HVe.out).2⟩
  obtain ⟨Nv, hNv⟩ : ∃ q, nv.length = q := ⟨_, rfl⟩
  have hNv14 : Nv ≤ 14 := by rw [← hNv]; exact HFw.out.few
  rw [hNv] at HG
  have HNv := Lib.hid hNv
  try rw [hNv]
  clear hNv HR HD HO HVe
  obtain ⟨Nd, hNd⟩ : ∃ q, dn.length = q := ⟨_, rfl⟩
  have hNd14 : Nd ≤ 14 := by rw [← hNd]; exact HFw.out.over
  rw [hNd] at HG
  have HNd := Lib.hid hNd
  try rw [hNd]
  clear hNd
  have HOr := Lib.hid (HG.out.below HX3.out).order
  go_upto_region 6 with fail
  go_wp2_with fail
  refine HOr.out.mono ?_
  rintro e w4 ⟨v4, cur, os, he, hri, hnd, hos, hrow, hb⟩
  rw [he.out]
  have hsem := ord_sem hos
  have hfew := flat_few hsem hri hnd HFw.out.few
  have HX4 := Lib.hid (HX3.out.trans (hb.mono HX3.out.size))
  have HFl := Lib.hid (flat_any hrow (by omega))
  obtain ⟨a4, c4, hv4, h4len, hel4⟩ := hrow
  obtain ⟨N4, hN4⟩ : ∃ q, os.length = q := ⟨_, rfl⟩
  rw [hN4] at hv4
  subst hv4
  have HRw : Hid (∀ W, Below w4.heap.size w4 W → ∀ (j : Nat) (hj : j < os.length), ∃ g off b n' c', a4 = some ⟨g, off, none⟩ ∧ g < W.heap.size ∧ W.cell? ⟨g, off + j, none⟩ = some (.slice b n' c') ∧ IK.Rd W (.slice b n' c') os[j]) := Lib.hid fun W hb2 j hj => by
    obtain ⟨g, off, b, n', c', ha, hg, hc, hr⟩ := hel4 j hj
    exact ⟨g, off, b, n', c', ha, Nat.lt_of_lt_of_le hg hb2.size, (hb2.cell (p := ⟨g, off + j, none⟩) hg).trans hc, hr.below hb2⟩
  have hN414 : N4 ≤ 14 := by rw [← hN4]; exact hfew.2
  have HRi := Lib.hid hri
  have HSem := Lib.hid hsem
  have HFew := Lib.hid hfew
  have HN4 := Lib.hid hN4
  clear he hri hnd hos hb HOr HX3 hsem hfew h4len hel4 hN4
  go_wp2_with fail
  refine HFl.out.mono ?_
  rintro e w5 ⟨v5, he, ho5, hb⟩
  rw [he.out]
  obtain ⟨f, hf⟩ : ∃ q, os.flatten = q := ⟨_, rfl⟩
  rw [hf] at ho5
  obtain ⟨af, cf, ev5⟩ := ho5.slice
  obtain ⟨Nf, hNf⟩ : ∃ q, f.length = q := ⟨_, rfl⟩
  rw [hNf] at ev5
  subst ev5
  have HF5 := Lib.hid ho5
  have hfe := hf
  subst hfe
  have HFm := Lib.hid HSem.out.mem
  have hNf14 : Nf ≤ 14 := by rw [← hNf]; exact HFew.out.1
  have HNf := Lib.hid hNf
  have HX5 := Lib.hid (HX4.out.trans (hb.mono HX4.out.size))
  have HB45 := Lib.hid hb
  have HFo : Hid (okL os.flatten) := Lib.hid fun x hx => keys_ok HG.out.row.ok HRi.out x ((HFm.out x).1 hx)
  have HRy := Lib.hid (HG.out.below HX5.out).ready
  clear he ho5 hb HFl HX4 hNf hf
  go_wp2_with fail
  refine HRy.out.mono ?_
  rintro e w6 ⟨c6, l6, hri6, hnd6, hl6, hll6, hlo6, a6, cc6, he, hrow6, hb⟩
  rw [he.out]
  have hsam : samI os.flatten l6 = true := (samI_iff _ _).2 fun x => by
    rw [HFm.out, hl6, mem_clnI]
    constructor
    · intro hx
      refine hri6.great (fun y => y ∈ keysV cur) (fun y hy => ?_) x hx
      obtain ⟨n, q⟩ := mem_keys.1 hy
      exact ⟨mem_keys.2 ⟨n, (HRi.out.sub y n q).1⟩, (HRi.out.sub y n q).2, HRi.out.closed y hy⟩
    · intro hx
      refine HRi.out.great (fun y => y ∈ keysV c6) (fun y hy => ?_) x hx
      obtain ⟨n, q⟩ := mem_keys.1 hy
      exact ⟨mem_keys.2 ⟨n, (hri6.sub y n q).1⟩, (hri6.sub y n q).2, hri6.closed y hy⟩
  have HX6 := Lib.hid (HX5.out.trans (hb.mono HX5.out.size))
  have HF6 := Lib.hid (HF5.out.below hb)
  have HSa := Lib.hid (same_any _ _ _ _ w6 HF6.out.rd HFo.out (by have := HFew.out.1; omega) hrow6.rd hlo6 (by omega))
  rw [hsam] at HSa
  have HB46 := Lib.hid (HB45.out.trans (hb.mono HB45.out.size))
  clear he hri6 hnd6 hl6 hlo6 hrow6 hb HRy HX5 HF5 HB45 hsam
  go_wp2_with fail
  refine HSa.out.mono ?_
  rintro e w7 ⟨rfl, hb⟩
  have HX7 := Lib.hid (HX6.out.trans (hb.mono HX6.out.size))
  have HF7 := Lib.hid (HF6.out.below hb)
  have HB47 := Lib.hid (HB46.out.trans (hb.mono HB46.out.size))
  have HCl := Lib.hid (clean_any _ _ w7 HF7.out.rd HFo.out (by have := HFew.out.1; omega))
  clear hb HSa HX6 HF6 HB46 hll6
  go_wp2_with fail
  refine HCl.out.mono ?_
  rintro e w8 ⟨v8, rfl, ho8, hb⟩
  obtain ⟨a8, c8, ev8⟩ := ho8.slice
  have hlc : (clnI os.flatten).length = Nf := by
    rw [← HNf.out]
    have h1 := len_clnI os.flatten
    have h2 := len_sub HSem.out.nd (k := clnI os.flatten) fun x hx => (mem_clnI _ _).2 hx
    omega
  rw [hlc] at ev8
  subst ev8
  have HX8 := Lib.hid (HX7.out.trans (hb.mono HX7.out.size))
  have HB48 := Lib.hid (HB47.out.trans (hb.mono HB47.out.size))
  clear hb HCl HX7 HF7 HB47 ho8 hlc
  have HDn := Lib.hid (HG.out.don.below HX8.out)
  go_upto_region 12 with (first
    | (refine IK.app (by kernel_rfl) (.tmp 45) (.tmp 46) rfl w8.heap.size (.slice none 0 0) [] rfl (Knd.Own.nil _ _) (.slice a2' Nd c2') dn rfl HDn.out (by rw [HNd.out]; simp; omega) (Nat.le_refl _) ?_; intro v9 w9 ho9 hb9 hg9 _; have HA9 := Lib.hid ho9; have HB9 := Lib.hid hb9; clear ho9 hb9 hg9)
    | fail)
  have HX9 := Lib.hid (HX8.out.trans (HB9.out.mono HX8.out.size))
  have HB49 := Lib.hid (HB48.out.trans (HB9.out.mono HB48.out.size))
  have HA9' : Hid (IK.Own w9 w8.heap.size v9 (dn ++ (os.take 0).flatten)) := Lib.hid (by simpa using HA9.out)
  have HZ8 : Hid (w8.heap.size ≤ w9.heap.size) := Lib.hid HB9.out.size
  have HZw : Hid (w.heap.size ≤ w8.heap.size ∧ w4.heap.size ≤ w8.heap.size) := Lib.hid ⟨HX8.out.size, HB48.out.size⟩
  clear HX8 HB48 HDn HA9 HB9
  go_wp2_with fail
  go_loopw [8, 9] (fun s8 i wr => ∃ (k : Nat), k ≤ N4 ∧ i = .int .i64 k ∧ Hid (IK.Own wr w8.heap.size s8 (dn ++ (os.take k).flatten)) ∧ Hid (Below w.heap.size w wr) ∧ Hid (Below w4.heap.size w4 wr) ∧ Hid (w8.heap.size ≤ wr.heap.size)) (fun _ i _ => N4 - (intOf i).toNat)
  case atStart => exact ⟨0, Nat.zero_le _, rfl, HA9', HX9, HB49, HZ8⟩
  case round =>
  clear HA9' HX9 HB49 HZ8
  obtain ⟨i, hi, rfl, HA, HX, HB4, HZ8⟩ := hrel
  obtain ⟨aa, ca, ea⟩ := HA.out.slice
  obtain ⟨Na, hNa⟩ : ∃ q, (dn ++ (os.take i).flatten).length = q := ⟨_, rfl⟩
  rw [hNa] at ea
  subst ea
  have hNa28 : Na ≤ 28 := by
    rw [← hNa, List.length_append, HNd.out]
    have q := congrArg (fun l => (List.flatten l).length) (List.take_append_drop i os)
    simp only [List.flatten_append, List.length_append] at q
    have := HFew.out.1
    omega
  have HNa := Lib.hid hNa
  clear hNa
  by_cases hiN : i < N4
  · have hi1 : (i : Int) < (N4 : Int) := by omega
    have hi2 : decide ((i : Int) < (N4 : Int)) = true := decide_eq_true hi1
    have hi3 : decide (i < N4) = true := decide_eq_true hiN
    have hil : i < os.length := by rw [HN4.out]; exact hiN
    obtain ⟨go, fo, bo, no, co, rfl, hgo, hco, hro⟩ := HRw.out _ HB4.out i hil
    obtain ⟨gi, hgi⟩ : ∃ q, os[i] = q := ⟨_, rfl⟩
    rw [hgi] at hro
    have hno : no = gi.length := by obtain ⟨_, _, e⟩ := hro.slice; simp only [Value.slice.injEq] at e; exact e.2.1
    have hgl : gi.length ≤ 14 := by
      have q : os[i].length ≤ os.flatten.length := (List.sublist_flatten_of_mem (List.getElem_mem hil)).length_le
      have := HFew.out.1
      rw [hgi] at q
      omega
    have hcut : os = os.take i ++ gi :: os.drop (i + 1) := by
      have q : os.drop i = os[i] :: os.drop (i + 1) := List.drop_eq_getElem_cons hil
      rw [hgi] at q
      rw [← q, List.take_append_drop]
    have hno14 : no ≤ 14 := by omega
    have HOw : Hid (∀ W, Below wr.heap.size wr W → W.cell? ⟨go, fo + i, none⟩ = some (.slice bo no co) ∧ IK.Rd W (.slice bo no co) gi) := Lib.hid fun W hb => ⟨(hb.cell (p := ⟨go, fo + i, none⟩) hgo).trans hco, hro.below hb⟩
    have HCut := Lib.hid hcut
    have HNo := Lib.hid hno
    have HGi := Lib.hid hgi
    have HGo := Lib.hid hgo
    obtain ⟨W0, rfl⟩ : ∃ q, q = wr := ⟨_, rfl⟩
    clear hgo hco hro hno hgl hcut
    go_wp2_with fail
    go_loopw [10] (fun q wr => ∃ (k : Nat), k ≤ no ∧ q = .int .i64 k ∧ Hid (Below W0.heap.size W0 wr)) (fun q _ => no - (intOf q).toNat)
    case atStart => exact ⟨0, Nat.zero_le _, rfl, Lib.hid (Below.refl _ _)⟩
    case round =>
    obtain ⟨k, hk, rfl, HB⟩ := hrel
    obtain ⟨hco, hro⟩ := HOw.out _ HB.out
    by_cases hkN : k < no
    · have hk1 : (k : Int) < (no : Int) := by omega
      have hk2 : decide ((k : Int) < (no : Int)) = true := decide_eq_true hk1
      have hk3 : decide (k < no) = true := decide_eq_true hkN
      have hkl : k < gi.length := by rw [← HNo.out]; exact hkN
      obtain ⟨x, hx⟩ : ∃ x, gi[k] = x := ⟨_, rfl⟩
      have hxm : x ∈ gi := by rw [← hx]; exact List.getElem_mem hkl
      obtain ⟨-, gb, ob, hbo, hgb, hcb⟩ := hro.at (by intro e; rw [e] at hkl; simp at hkl)
      subst hbo
      have eK : IK.k = 3 := rfl
      have hc := hcb k (by rw [HNo.out]; exact hkl)
      have eg : gi.getD k IK.d = gi[k] := getD_at hkl
      rw [eg, eK, hx] at hc
      obtain ⟨x1, x2, x3⟩ := x
      have HXc : Hid (∀ W, Below wr.heap.size wr W → W.cell? ⟨gb, ob + k * 3, none⟩ = some (.int .i64 x1) ∧ W.cell? ⟨gb, ob + k * 3 + 1, none⟩ = some (.int .i64 x2) ∧ W.cell? ⟨gb, ob + k * 3 + 2, none⟩ = some (.int .i64 x3)) := Lib.hid fun W hb => ⟨(hb.cell (p := ⟨gb, ob + k * 3, none⟩) hgb).trans (hc 0 _ rfl), (hb.cell (p := ⟨gb, ob + k * 3 + 1, none⟩) hgb).trans (hc 1 _ rfl), (hb.cell (p := ⟨gb, ob + k * 3 + 2, none⟩) hgb).trans (hc 2 _ rfl)⟩
      have HXm := Lib.hid hxm
      obtain ⟨W1, rfl⟩ : ∃ q, q = wr := ⟨_, rfl⟩
      clear hkl hx hxm hgb hcb hc eK eg hro
      go_wp2_with fail
      clear hco
      go_loopw [11] (fun q wr => ∃ (j : Nat), j ≤ Nv ∧ q = .int .i64 j ∧ Hid (Below W1.heap.size W1 wr)) (fun q _ => Nv - (intOf q).toNat)
      case atStart => exact ⟨0, Nat.zero_le _, rfl, Lib.hid (Below.refl _ _)⟩
      case round =>
      obtain ⟨j, hj, rfl, HBj⟩ := hrel
      have HB0j := Lib.hid (HB.out.trans (HBj.out.mono HB.out.size))
      by_cases hjN : j < Nv
      · have hj1 : (j : Int) < (Nv : Int) := by omega
        have hj2 : decide ((j : Int) < (Nv : Int)) = true := decide_eq_true hj1
        have hj3 : decide (j < Nv) = true := decide_eq_true hjN
        have hjl : j < nv.length := by rw [HNv.out]; exact hjN
        obtain ⟨gn, fn, j1, j2, j3, sq, dl, na, nc, rfl, hnk, hjo, hdo, hcell⟩ := node_at HG.out.row j hjl
        obtain ⟨D, hD⟩ : ∃ q, dl.length = q := ⟨_, rfl⟩
        rw [hD] at hcell
        have hmem : nv[j] ∈ nv := List.getElem_mem hjl
        rw [hnk] at hmem
        have hD14 : D ≤ 14 := by rw [← hD]; exact HFw.out.steps _ hmem
        have hD63 : D ≤ 9223372036854775807 := by omega
        have hst := webL_steps HG.out.one hmem
        simp only at hst
        have HC := Lib.hid (fun W (hb : Below W0.heap.size W0 W) => hcell W (HX.out.trans (hb.mono HX.out.size)))
        have HDo := Lib.hid hdo
        have HD := Lib.hid hD
        have HSt := Lib.hid hst
        obtain ⟨n0, n1, n2, -, -, -⟩ := HC.out _ HB0j.out
        obtain ⟨p0, p1, p2⟩ := HXc.out _ HBj.out
        obtain ⟨hco, -⟩ := HOw.out _ HB0j.out
        obtain ⟨heq1, hqg⟩ := neI_run j1 j2 j3 x1 x2 x3
        clear hjl hnk hjo hdo hcell hD hmem hst
        by_cases hxe : ((j1, j2, j3) : I3) = (x1, x2, x3)
        · have hne : decide (((j1, j2, j3) : I3) = (x1, x2, x3)) = true := decide_eq_true hxe
          rw [hne] at heq1
          have HXe := Lib.hid hxe
          go_upto_region 21 with fail
          go_quiet (fail)
          generalize hwz : World.drewN _ _ = wz
          have hbz : Below wr.heap.size wr wz := by rw [← hwz]; exact below_drewNA (Below.refl _ _) _
          have HBz := Lib.hid (HBj.out.trans (hbz.mono HBj.out.size))
          clear hwz hbz hxe hne heq1 hqg n0 n1 n2 p0 p1 p2 hco HBj HB0j hk1 hk2 hk3 hj1 hj2 hj3 hi1 hi2 hi3
          go_wp2_with fail
          go_loopw [12] (fun q wr => ∃ (d : Nat), d ≤ D ∧ q = .int .i64 d ∧ Hid (Below W1.heap.size W1 wr)) (fun q _ => D - (intOf q).toNat)
          case atStart => exact ⟨0, Nat.zero_le _, rfl, HBz⟩
          case round =>
          clear HBz
          obtain ⟨d, hd, rfl, HBd⟩ := hrel
          have HB0d := Lib.hid (HB.out.trans (HBd.out.mono HB.out.size))
          obtain ⟨-, -, -, -, n4, hrd⟩ := HC.out _ HB0d.out
          by_cases hdD : d < D
          · have hd1 : (d : Int) < (D : Int) := by omega
            have hd2 : decide ((d : Int) < (D : Int)) = true := decide_eq_true hd1
            have hd3 : decide (d < D) = true := decide_eq_true hdD
            have hdl : d < dl.length := by rw [HD.out]; exact hdD
            obtain ⟨-, gd, od, hna, hgd, hcd⟩ := hrd.at (by intro e; rw [e] at hdl; simp at hdl)
            subst hna
            have eK : IK.k = 3 := rfl
            have hc := hcd d hdD
            have eg : dl.getD d IK.d = dl[d] := getD_at hdl
            rw [eg, eK] at hc
            have hym : dl[d] ∈ dl := List.getElem_mem hdl
            obtain ⟨y, hy⟩ : ∃ y, dl[d] = y := ⟨_, rfl⟩
            rw [hy] at hc hym
            have hdep : y ∈ dn ++ (os.take i).flatten ∨ y ∈ gi := by
              have hxk : (x1, x2, x3) ∈ keysV cur := (HFm.out _).1 (by
                rw [HCut.out, List.flatten_append, List.flatten_cons]
                exact List.mem_append_right _ (List.mem_append_left _ HXm.out))
              have hys : y ∈ stepsV (webL nv) (x1, x2, x3) := by rw [← HXe.out, HSt.out]; exact hym
              rcases HRi.out.closed _ hxk y hys with r | r
              · exact .inl (List.mem_append_left _ r)
              · have hye : y ∈ eV cur (x1, x2, x3) := mem_eV.2 ⟨by rw [cur_steps HRi.out hxk]; exact hys, by rw [getV_isSome, hasI_iff]; exact r⟩
                rcases HSem.out.dep _ _ _ HCut.out _ HXm.out y hye with s | s
                · exact .inr s
                · exact .inl (List.mem_append_right _ s)
            obtain ⟨y1, y2, y3⟩ := y
            have q0 : wr.cell? ⟨gd, od + d * 3, none⟩ = some (.int .i64 y1) := hc 0 _ rfl
            have q1 : wr.cell? ⟨gd, od + d * 3 + 1, none⟩ = some (.int .i64 y2) := hc 1 _ rfl
            have q2 : wr.cell? ⟨gd, od + d * 3 + 2, none⟩ = some (.int .i64 y3) := hc 2 _ rfl
            obtain ⟨bd, hbd⟩ : ∃ q, wr.heap.size = q := ⟨_, rfl⟩
            obtain ⟨wg, hwg⟩ : ∃ q, wr.alloc (.cells #[.int .i64 y1, .int .i64 y2, .int .i64 y3] 25) = q := ⟨_, rfl⟩
            have hbg : Below wr.heap.size wr wg := by rw [← hwg]; exact (Below.refl _ _).alloc (Nat.le_refl _) _
            have hbk : Bk wg bd 25 [.int .i64 y1, .int .i64 y2, .int .i64 y3] := by rw [← hwg]; exact Bk.newAg hbd _ [.int .i64 y1, .int .i64 y2, .int .i64 y3]
            have HBg := Lib.hid (HBd.out.trans (hbg.mono HBd.out.size))
            have HB0g := Lib.hid (HB0d.out.trans (hbg.mono HB0d.out.size))
            obtain ⟨hcog, hrog⟩ := HOw.out _ HB0g.out
            have hgob : go < wg.heap.size := Nat.lt_of_lt_of_le HGo.out HB0g.out.size
            have HC26 : Hid (∀ w', Below wg.heap.size wg w' → w'.cell? ⟨bd, 0, none⟩ = some (.int .i64 y1) ∧ w'.cell? ⟨bd, 1, none⟩ = some (.int .i64 y2) ∧ w'.cell? ⟨bd, 2, none⟩ = some (.int .i64 y3) ∧ w'.cell? ⟨go, fo + i, none⟩ = some (.slice (some ⟨gb, ob, none⟩) no co)) := Lib.hid fun w' hb => ⟨(Bk.below hbk hb).cell 0, (Bk.below hbk hb).cell 1, (Bk.below hbk hb).cell 2, (hb.cell (p := ⟨go, fo + i, none⟩) hgob).trans hcog⟩
            have HA1 : Hid (∀ W, Below wg.heap.size wg W → Calls Try.prog 26 #[.slice aa Na ca, .agg #[.int .i64 y1, .int .i64 y2, .int .i64 y3]] W (AtP (dn ++ (os.take i).flatten) (y1, y2, y3) W)) := Lib.hid fun W hb => at_any (HA.out.below (HB0g.out.trans (hb.mono HB0g.out.size))).rd (by rw [HNa.out]; omega) _ _ _
            have HA2 : Hid (∀ W, Below wg.heap.size wg W → Calls Try.prog 26 #[.slice (some ⟨gb, ob, none⟩) no co, .agg #[.int .i64 y1, .int .i64 y2, .int .i64 y3]] W (AtP gi (y1, y2, y3) W)) := Lib.hid fun W hb => at_any (hrog.below hb) (by rw [← HNo.out]; omega) _ _ _
            clear hdl hrd hcd hc eK eg hym hy hgd hbg hbk hcog hrog hgob HB0d HB0g
            go_upto_region 26 with fail
            try rw [hwg]
            try rw [hbd]
            clear hwg hbd q0 q1 q2 n4 hd1 hd2 hd3 HBd
            have hd0 : Below wg.heap.size wg wg.drew := (Below.refl _ _).drew
            have hi1 : (i : Int) < (N4 : Int) := Int.ofNat_lt.2 hiN
            have hi2 : decide ((i : Int) < (N4 : Int)) = true := decide_eq_true hi1
            have hi3 : decide (i < N4) = true := decide_eq_true hiN
            by_cases hin : (y1, y2, y3) ∈ dn ++ (os.take i).flatten
            · have HIn1 := Lib.hid hin
              clear hin hdep HA2
              refine wp_region_held_drew (S := (fun w' => w'.cell? ⟨bd, 0, none⟩ = some (.int .i64 y1) ∧ w'.cell? ⟨bd, 1, none⟩ = some (.int .i64 y2) ∧ w'.cell? ⟨bd, 2, none⟩ = some (.int .i64 y3) ∧ w'.cell? ⟨go, fo + i, none⟩ = some (.slice (some ⟨gb, ob, none⟩) no co))) (by kernel_rfl) ?_ (fun hHeld => ?_)
              · ((first
              | exact HC26.out _ hb2
              | exact HC26.out _ hb1
              | exact HC26.out _ hd0
              | fail))
              refine wpAnyH_take (i := 0) (v := ?_) rfl (by kernel_rfl) (by kernel_rfl) (by kernel_rfl) (fun _ _ _ h => h) (Or.inl ⟨by rfl, ?_⟩) (by assumption) ?_
              rotate_left
              · (intro w hSw; (try dsimp only at hSw); go_simp; try rfl)
              try simp only [Act.put, List.setIfInBounds_toArray, List.set_cons_zero, List.set_cons_succ, List.getElem_toArray, List.getElem_cons_zero, List.getElem_cons_succ]
              refine wpAnyH_take (i := 1) (v := ?_) rfl (by kernel_rfl) (by kernel_rfl) (by kernel_rfl) (fun _ _ _ h => h) (Or.inl ⟨by rfl, ?_⟩) (by assumption) ?_
              rotate_left
              · (intro w hSw; (try dsimp only at hSw); go_simp; try rfl)
              try simp only [Act.put, List.setIfInBounds_toArray, List.set_cons_zero, List.set_cons_succ, List.getElem_toArray, List.getElem_cons_zero, List.getElem_cons_succ]
              refine wpAnyH_ready (rs := [2]) (by kernel_rfl) (by simp) ?_
              refine (AllReadyH.cons rfl (fun K hK => ?_) AllReadyH.nil)
              go_simp
              (go_at_call 26; refine (HA1.out _ hd0).mono ?_; rintro e wl ⟨z, rfl, hz, _, _, hb⟩; have hb1 : Below wg.heap.size wg wl := hd0.trans (hb.mono hd0.size); have hz1 : ¬ z < 0 := fun r => hz.1 r HIn1.out; have hz2 : decide (z < 0) = false := decide_eq_false hz1; clear hz hb)
              refine hK.out _ _ ?_ (fun hHeld => ?_)
              · ((first
              | exact HC26.out _ hb2
              | exact HC26.out _ hb1
              | exact HC26.out _ hd0
              | fail))
              clear hK K
              try simp only [Act.put, List.setIfInBounds_toArray, List.set_cons_zero, List.set_cons_succ, List.getElem_toArray, List.getElem_cons_zero, List.getElem_cons_succ]
              refine wpAnyH_take (i := 3) (v := ?_) rfl (by kernel_rfl) (by kernel_rfl) (by kernel_rfl) (fun _ _ _ h => h) (Or.inl ⟨by rfl, ?_⟩) (by assumption) ?_
              rotate_left
              · (intro w hSw; (try dsimp only at hSw); go_simp; try rfl)
              try simp only [Act.put, List.setIfInBounds_toArray, List.set_cons_zero, List.set_cons_succ, List.getElem_toArray, List.getElem_cons_zero, List.getElem_cons_succ]
              refine wpAnyH_take (i := 4) (v := ?_) rfl (by kernel_rfl) (by kernel_rfl) (by kernel_rfl) (fun _ _ _ h => h) (Or.inl ⟨by rfl, ?_⟩) (by assumption) ?_
              rotate_left
              · (intro w hSw; (try dsimp only at hSw); go_simp; try rfl)
              try simp only [Act.put, List.setIfInBounds_toArray, List.set_cons_zero, List.set_cons_succ, List.getElem_toArray, List.getElem_cons_zero, List.getElem_cons_succ]
              refine wpAnyH_take (i := 5) (v := undef) rfl (by kernel_rfl) (by kernel_rfl) (by kernel_rfl) (fun _ _ _ h => h) (Or.inr ⟨by rfl, rfl⟩) (by assumption) ?_
              try simp only [Act.put, List.setIfInBounds_toArray, List.set_cons_zero, List.set_cons_succ, List.getElem_toArray, List.getElem_cons_zero, List.getElem_cons_succ]
              refine wpAnyH_take (i := 6) (v := undef) rfl (by kernel_rfl) (by kernel_rfl) (by kernel_rfl) (fun _ _ _ h => h) (Or.inr ⟨by rfl, rfl⟩) (by assumption) ?_
              try simp only [Act.put, List.setIfInBounds_toArray, List.set_cons_zero, List.set_cons_succ, List.getElem_toArray, List.getElem_cons_zero, List.getElem_cons_succ]
              refine wpAnyH_take (i := 7) (v := undef) rfl (by kernel_rfl) (by kernel_rfl) (by kernel_rfl) (fun _ _ _ h => h) (Or.inr ⟨by rfl, rfl⟩) (by assumption) ?_
              try simp only [Act.put, List.setIfInBounds_toArray, List.set_cons_zero, List.set_cons_succ, List.getElem_toArray, List.getElem_cons_zero, List.getElem_cons_succ]
              refine wpAnyH_take (i := 8) (v := undef) rfl (by kernel_rfl) (by kernel_rfl) (by kernel_rfl) (fun _ _ _ h => h) (Or.inr ⟨by rfl, rfl⟩) (by assumption) ?_
              try simp only [Act.put, List.setIfInBounds_toArray, List.set_cons_zero, List.set_cons_succ, List.getElem_toArray, List.getElem_cons_zero, List.getElem_cons_succ]
              refine wpAnyH_take (i := 9) (v := undef) rfl (by kernel_rfl) (by kernel_rfl) (by kernel_rfl) (fun _ _ _ h => h) (Or.inr ⟨by rfl, rfl⟩) (by assumption) ?_
              try simp only [Act.put, List.setIfInBounds_toArray, List.set_cons_zero, List.set_cons_succ, List.getElem_toArray, List.getElem_cons_zero, List.getElem_cons_succ]
              refine wpAnyH_take (i := 10) (v := undef) rfl (by kernel_rfl) (by kernel_rfl) (by kernel_rfl) (fun _ _ _ h => h) (Or.inr ⟨by rfl, rfl⟩) (by assumption) ?_
              try simp only [Act.put, List.setIfInBounds_toArray, List.set_cons_zero, List.set_cons_succ, List.getElem_toArray, List.getElem_cons_zero, List.getElem_cons_succ]
              refine wpAnyH_take (i := 11) (v := undef) rfl (by kernel_rfl) (by kernel_rfl) (by kernel_rfl) (fun _ _ _ h => h) (Or.inr ⟨by rfl, rfl⟩) (by assumption) ?_
              try simp only [Act.put, List.setIfInBounds_toArray, List.set_cons_zero, List.set_cons_succ, List.getElem_toArray, List.getElem_cons_zero, List.getElem_cons_succ]
              refine wpAnyH_take (i := 12) (v := ?_) rfl (by kernel_rfl) (by kernel_rfl) (by kernel_rfl) (fun _ _ _ h => h) (Or.inl ⟨by rfl, ?_⟩) (by assumption) ?_
              rotate_left
              · (intro w hSw; (try dsimp only at hSw); go_simp; try rfl)
              try simp only [Act.put, List.setIfInBounds_toArray, List.set_cons_zero, List.set_cons_succ, List.getElem_toArray, List.getElem_cons_zero, List.getElem_cons_succ]
              refine wpAnyH_done (by kernel_rfl) ?_ _
              have HBl := Lib.hid (HBg.out.trans (hb1.mono HBg.out.size))
              clear HC26 hd0 hb1 HBg HB
              go_wp2_with fail
              go_roundw
              case rel => exact ⟨d + 1, by omega, by go_num, HBl⟩
              case measure => simp [intOf]; omega
            · have HIn1 := Lib.hid hin
              have HIn := Lib.hid (hdep.resolve_left hin)
              clear hin hdep
              refine wp_region_held_drew (S := (fun w' => w'.cell? ⟨bd, 0, none⟩ = some (.int .i64 y1) ∧ w'.cell? ⟨bd, 1, none⟩ = some (.int .i64 y2) ∧ w'.cell? ⟨bd, 2, none⟩ = some (.int .i64 y3) ∧ w'.cell? ⟨go, fo + i, none⟩ = some (.slice (some ⟨gb, ob, none⟩) no co))) (by kernel_rfl) ?_ (fun hHeld => ?_)
              · ((first
              | exact HC26.out _ hb2
              | exact HC26.out _ hb1
              | exact HC26.out _ hd0
              | fail))
              refine wpAnyH_take (i := 0) (v := ?_) rfl (by kernel_rfl) (by kernel_rfl) (by kernel_rfl) (fun _ _ _ h => h) (Or.inl ⟨by rfl, ?_⟩) (by assumption) ?_
              rotate_left
              · (intro w hSw; (try dsimp only at hSw); go_simp; try rfl)
              try simp only [Act.put, List.setIfInBounds_toArray, List.set_cons_zero, List.set_cons_succ, List.getElem_toArray, List.getElem_cons_zero, List.getElem_cons_succ]
              refine wpAnyH_take (i := 1) (v := ?_) rfl (by kernel_rfl) (by kernel_rfl) (by kernel_rfl) (fun _ _ _ h => h) (Or.inl ⟨by rfl, ?_⟩) (by assumption) ?_
              rotate_left
              · (intro w hSw; (try dsimp only at hSw); go_simp; try rfl)
              try simp only [Act.put, List.setIfInBounds_toArray, List.set_cons_zero, List.set_cons_succ, List.getElem_toArray, List.getElem_cons_zero, List.getElem_cons_succ]
              refine wpAnyH_ready (rs := [2]) (by kernel_rfl) (by simp) ?_
              refine (AllReadyH.cons rfl (fun K hK => ?_) AllReadyH.nil)
              go_simp
              (go_at_call 26; refine (HA1.out _ hd0).mono ?_; rintro e wl ⟨z, rfl, hz, _, _, hb⟩; have hb1 : Below wg.heap.size wg wl := hd0.trans (hb.mono hd0.size); have hz1 : z < 0 := hz.2 HIn1.out; have hz2 : decide (z < 0) = true := decide_eq_true hz1; clear hz hb)
              refine hK.out _ _ ?_ (fun hHeld => ?_)
              · ((first
              | exact HC26.out _ hb2
              | exact HC26.out _ hb1
              | exact HC26.out _ hd0
              | fail))
              clear hK K
              try simp only [Act.put, List.setIfInBounds_toArray, List.set_cons_zero, List.set_cons_succ, List.getElem_toArray, List.getElem_cons_zero, List.getElem_cons_succ]
              refine wpAnyH_take (i := 3) (v := ?_) rfl (by kernel_rfl) (by kernel_rfl) (by kernel_rfl) (fun _ _ _ h => h) (Or.inl ⟨by rfl, ?_⟩) (by assumption) ?_
              rotate_left
              · (intro w hSw; (try dsimp only at hSw); go_simp; try rfl)
              try simp only [Act.put, List.setIfInBounds_toArray, List.set_cons_zero, List.set_cons_succ, List.getElem_toArray, List.getElem_cons_zero, List.getElem_cons_succ]
              refine wpAnyH_take (i := 4) (v := ?_) rfl (by kernel_rfl) (by kernel_rfl) (by kernel_rfl) (fun _ _ _ h => h) (Or.inl ⟨by rfl, ?_⟩) (by assumption) ?_
              rotate_left
              · (intro w hSw; (try dsimp only at hSw); go_simp; try rfl)
              try simp only [Act.put, List.setIfInBounds_toArray, List.set_cons_zero, List.set_cons_succ, List.getElem_toArray, List.getElem_cons_zero, List.getElem_cons_succ]
              refine wpAnyH_take (i := 5) (v := ?_) rfl (by kernel_rfl) (by kernel_rfl) (by kernel_rfl) (fun _ _ _ h => h) (Or.inl ⟨by rfl, ?_⟩) (by assumption) ?_
              rotate_left
              · (intro w hSw; (try dsimp only at hSw); go_simp; try rfl)
              try simp only [Act.put, List.setIfInBounds_toArray, List.set_cons_zero, List.set_cons_succ, List.getElem_toArray, List.getElem_cons_zero, List.getElem_cons_succ]
              refine wpAnyH_take (i := 6) (v := ?_) rfl (by kernel_rfl) (by kernel_rfl) (by kernel_rfl) (fun _ _ _ h => h) (Or.inl ⟨by rfl, ?_⟩) (by assumption) ?_
              rotate_left
              · (intro w hSw; (try dsimp only at hSw); go_simp; try rfl)
              try simp only [Act.put, List.setIfInBounds_toArray, List.set_cons_zero, List.set_cons_succ, List.getElem_toArray, List.getElem_cons_zero, List.getElem_cons_succ]
              refine wpAnyH_take (i := 7) (v := ?_) rfl (by kernel_rfl) (by kernel_rfl) (by kernel_rfl) (fun _ _ _ h => h) (Or.inl ⟨by rfl, ?_⟩) (by assumption) ?_
              rotate_left
              · (intro w hSw; (try dsimp only at hSw); go_simp; try rfl)
              try simp only [Act.put, List.setIfInBounds_toArray, List.set_cons_zero, List.set_cons_succ, List.getElem_toArray, List.getElem_cons_zero, List.getElem_cons_succ]
              refine wpAnyH_take (i := 8) (v := ?_) rfl (by kernel_rfl) (by kernel_rfl) (by kernel_rfl) (fun _ _ _ h => h) (Or.inl ⟨by rfl, ?_⟩) (by assumption) ?_
              rotate_left
              · (intro w hSw; (try dsimp only at hSw); go_simp; try rfl)
              try simp only [Act.put, List.setIfInBounds_toArray, List.set_cons_zero, List.set_cons_succ, List.getElem_toArray, List.getElem_cons_zero, List.getElem_cons_succ]
              refine wpAnyH_take (i := 9) (v := ?_) rfl (by kernel_rfl) (by kernel_rfl) (by kernel_rfl) (fun _ _ _ h => h) (Or.inl ⟨by rfl, ?_⟩) (by assumption) ?_
              rotate_left
              · (intro w hSw; (try dsimp only at hSw); go_simp; try rfl)
              try simp only [Act.put, List.setIfInBounds_toArray, List.set_cons_zero, List.set_cons_succ, List.getElem_toArray, List.getElem_cons_zero, List.getElem_cons_succ]
              refine wpAnyH_ready (rs := [10]) (by kernel_rfl) (by simp) ?_
              refine (AllReadyH.cons rfl (fun K hK => ?_) AllReadyH.nil)
              go_simp
              (go_at_call 26; refine (HA2.out _ hb1).mono ?_; rintro e wm ⟨z2, rfl, hzb, _, _, hb'⟩; have hb2 : Below wg.heap.size wg wm := hb1.trans (hb'.mono hb1.size); have hy1 : ¬ z2 < 0 := fun r => hzb.1 r HIn.out; have hy2 : decide (z2 < 0) = false := decide_eq_false hy1; clear hzb hb')
              refine hK.out _ _ ?_ (fun hHeld => ?_)
              · ((first
              | exact HC26.out _ hb2
              | exact HC26.out _ hb1
              | exact HC26.out _ hd0
              | fail))
              clear hK K
              try simp only [Act.put, List.setIfInBounds_toArray, List.set_cons_zero, List.set_cons_succ, List.getElem_toArray, List.getElem_cons_zero, List.getElem_cons_succ]
              refine wpAnyH_take (i := 11) (v := ?_) rfl (by kernel_rfl) (by kernel_rfl) (by kernel_rfl) (fun _ _ _ h => h) (Or.inl ⟨by rfl, ?_⟩) (by assumption) ?_
              rotate_left
              · (intro w hSw; (try dsimp only at hSw); go_simp; try rfl)
              try simp only [Act.put, List.setIfInBounds_toArray, List.set_cons_zero, List.set_cons_succ, List.getElem_toArray, List.getElem_cons_zero, List.getElem_cons_succ]
              refine wpAnyH_take (i := 12) (v := ?_) rfl (by kernel_rfl) (by kernel_rfl) (by kernel_rfl) (fun _ _ _ h => h) (Or.inl ⟨by rfl, ?_⟩) (by assumption) ?_
              rotate_left
              · (intro w hSw; (try dsimp only at hSw); go_simp; try rfl)
              try simp only [Act.put, List.setIfInBounds_toArray, List.set_cons_zero, List.set_cons_succ, List.getElem_toArray, List.getElem_cons_zero, List.getElem_cons_succ]
              refine wpAnyH_done (by kernel_rfl) ?_ _
              have HBl := Lib.hid (HBg.out.trans (hb2.mono HBg.out.size))
              clear HC26 hd0 hb1 hb2 HBg HB
              go_wp2_with fail
              go_roundw
              case rel => exact ⟨d + 1, by omega, by go_num, HBl⟩
              case measure => simp [intOf]; omega
          · obtain rfl : d = D := by omega
            have hd2 : decide ((d : Int) < (d : Int)) = false := decide_eq_false (by omega)
            have hd3 : decide (d < d) = false := decide_eq_false (by omega)
            have HBd' := Lib.hid HBd.out
            clear hrd HB0d
            go_wp2_with fail
            go_roundw
            case rel => exact ⟨j + 1, by omega, by go_num, HBd'⟩
            case measure => simp [intOf]; omega
        · have hne : decide (((j1, j2, j3) : I3) = (x1, x2, x3)) = false := decide_eq_false hxe
          rw [hne] at heq1
          go_upto_region 21 with fail
          go_quiet (fail)
          generalize hwz : World.drewN _ _ = wz
          have hbz : Below wr.heap.size wr wz := by rw [← hwz]; exact below_drewNA (Below.refl _ _) _
          have HBz := Lib.hid (HBj.out.trans (hbz.mono HBj.out.size))
          clear hwz hbz hxe hne heq1 hqg n0 n1 n2 p0 p1 p2 hco HBj HB0j hk1 hk2 hk3 hj1 hj2 hj3 hi1 hi2 hi3
          go_wp2_with fail
          go_roundw
          case rel => exact ⟨j + 1, by omega, by go_num, HBz⟩
          case measure => simp [intOf]; omega
      · obtain rfl : j = Nv := by omega
        have hj2 : decide ((j : Int) < (j : Int)) = false := decide_eq_false (by omega)
        have hj3 : decide (j < j) = false := decide_eq_false (by omega)
        have HBe := Lib.hid HB0j.out
        clear HBj HB0j
        go_wp2_with fail
        go_roundw
        case rel => exact ⟨k + 1, by omega, by go_num, HBe⟩
        case measure => simp [intOf]; omega
    · obtain rfl : k = no := by omega
      have hk2 : decide ((k : Int) < (k : Int)) = false := decide_eq_false (by omega)
      have hk3 : decide (k < k) = false := decide_eq_false (by omega)
      have HRo := Lib.hid hro
      have HAk := Lib.hid (HA.out.below HB.out)
      have HZk := Lib.hid (Nat.le_trans HZ8.out HB.out.size)
      have HTk : Hid ((os.take (i + 1)).flatten = (os.take i).flatten ++ gi) := Lib.hid (by
        rw [List.take_succ_eq_append_getElem (by rw [HN4.out]; exact hiN), HGi.out, List.flatten_append]
        simp)
      clear hro HA
      go_upto_region 14 with (first
        | (refine IK.app (by kernel_rfl) (.tmp 115) (.tmp 119) rfl w8.heap.size _ _ rfl HAk.out (.slice bo k co) gi rfl HRo.out (by rw [HNa.out, ← HNo.out]; omega) HZk.out ?_; intro v9 w9 ho9 hb9 hg9 _; have HA9 := Lib.hid ho9; have HB9 := Lib.hid hb9; have HG9 := Lib.hid hg9; clear ho9 hb9 hg9)
        | fail)
      have HX9 := Lib.hid ((HX.out.trans (HB.out.mono HX.out.size)).trans (HB9.out.mono HZw.out.1))
      have HB49 := Lib.hid ((HB4.out.trans (HB.out.mono HB4.out.size)).trans (HB9.out.mono HZw.out.2))
      have HZ9 := Lib.hid (Nat.le_trans HZk.out HB9.out.size)
      have HA9' : Hid (IK.Own w9 w8.heap.size v9 (dn ++ (os.take (i + 1)).flatten)) := Lib.hid (by rw [HTk.out, ← List.append_assoc]; exact HA9.out)
      clear HA9 HB9 HG9 HAk HRo HZk HTk hk2 hk3 hi1 hi2 hi3 hco
      go_wp2_with fail
      go_roundw
      case rel => exact ⟨i + 1, by omega, by go_num, HA9', HX9, HB49, HZ9⟩
      case measure => simp [intOf]; omega
  · obtain rfl : i = N4 := by omega
    have hi2 : decide ((i : Int) < (i : Int)) = false := decide_eq_false (by omega)
    have hi3 : decide (i < i) = false := decide_eq_false (by omega)
    clear HA HB4
    go_wp2
    go_ret
    exact ⟨rfl, HX.out⟩
end Go.Proofs.Ytlckjpjcfalfnaa
