/-
  Graph: find.
-/
import Derived.Test.YtlckjpjcfalfnaaGrD
import Derived.StillTailTactics
import Derived.BigQuiet
import Derived.WalkMore
import Derived.Lib.MinMax
import Derived.Deep.LoopGhost
namespace Go.Proofs.Ytlckjpjcfalfnaa
open Go.RowKit Go.Sort
open Go.WideMaps
set_option linter.unusedSimpArgs false
set_option linter.unusedVariables false
set_option maxRecDepth 100000

theorem MV.ndF {w : World} {b : Nat} {web : List (I3 × NV)} (h : MV ndV w b web) (i1 i2 i3 : Int) (hx : okI (i1, i2, i3)) {u : Value} (hn : ndV (ndOf web (i1, i2, i3)) = u) : (Instr.lookup 53 (.map (some b)) (.agg #[.int .i64 i1, .int .i64 i2, .int .i64 i3]) false).run Try.prog w = .ok u w := by
  have q := h.look (t := 53) Try.underlying53 (zeroNd w) (x := (i1, i2, i3)) hx
  rw [look_ndV, hn] at q
  exact q
theorem MV.ndF2 {w : World} {b : Nat} {web : List (I3 × NV)} (h : MV ndV w b web) (i1 i2 i3 : Int) (hx : okI (i1, i2, i3)) {u : Value} {q : Bool} (hn : ndV (ndOf web (i1, i2, i3)) = u) (hq : (getV web (i1, i2, i3)).isSome = q) : (Instr.lookup 53 (.map (some b)) (.agg #[.int .i64 i1, .int .i64 i2, .int .i64 i3]) true).run Try.prog w = .ok (.tuple #[u, .bool q]) w := by
  have r := h.look2 (t := 53) Try.underlying53 (zeroNd w) (x := (i1, i2, i3)) hx
  rw [look_ndV, hn, hq] at r
  exact r
def look_p : Option Nat → Value | none => .pointer none | some b => encG b
theorem MV.gpF {w : World} {b : Nat} {l : List (I3 × Nat)} (h : MV encG w b l) (i1 i2 i3 : Int) (hx : okI (i1, i2, i3)) {u : Value} (hn : look_p (getV l (i1, i2, i3)) = u) : (Instr.lookup 59 (.map (some b)) (.agg #[.int .i64 i1, .int .i64 i2, .int .i64 i3]) false).run Try.prog w = .ok u w := by
  have q := h.look (t := 59) Try.underlying59 (z := .pointer none) (by kernel_rfl) (x := (i1, i2, i3)) hx
  rw [show ((getV l (i1, i2, i3)).map encG).getD (.pointer none) = look_p (getV l (i1, i2, i3)) by cases getV l (i1, i2, i3) <;> rfl, hn] at q
  exact q
theorem ndV_parts (n : NV) : ∃ u1 u2 u3 u4 u5, ndV n = .agg #[u1, u2, u3, u4, u5] ∧ u1.oneCell' = true ∧ u2.oneCell' = true ∧ u3.oneCell' = true ∧ u4.oneCell' = true ∧ u5.oneCell' = true := ⟨_, _, _, _, _, rfl, rfl, rfl, rfl, rfl, rfl⟩
theorem FdS.below2 {W0 w0 w w' : World} {m bw : Nat} {web : List (I3 × NV)} {M0 : FM} {vw0 vo0 vg0 : Value} {L : Fin} {M : FM} {vw vo vg : Value} (h : FdS W0 w0 m bw web M0 vw0 vo0 vg0 L M vw vo vg w) (hb : Below w.heap.size w w') : FdS W0 w0 m bw web M0 vw0 vo0 vg0 L M vw vo vg w' := h.below hb
def FdP (W0 : World) (m bw : Nat) (web : List (I3 × NV)) (M0 : FM) (vw0 vo0 vg0 : Value) (w0 : World) (e : Ending) (w : World) : Prop := ∃ L M vw vo vg, Hid (e = .returned (.tuple #[])) ∧ FdS W0 w0 m bw web M0 vw0 vo0 vg0 L M vw vo vg w ∧ M.way = []
set_option maxHeartbeats 8000000 in
theorem find_any {W0 w : World} {m bw : Nat} {web : List (I3 × NV)} {L : Fin} {M : FM} {vw vo vg : Value} (h : FinAt w m bw web L vw vo vg) (hr : FRel L M) (hI : FI web M) (hC : FC M) (hgs : GsN w (m + 4) vo L.grp web M.gs) (hw : M.way = []) (hE : ∀ e ∈ web, e.2.Ok W0) (hKo : okL (keysV web)) (hKn : (keysV web).Nodup) (hlen : web.length < 20) (hW0 : W0.heap.size ≤ m) (hbe : Below W0.heap.size W0 w) (i1 i2 i3 : Int) (hi : (i1, i2, i3) ∈ keysV web) (hm : (i1, i2, i3) ∉ keysV M.met) (hsz : m + 4 ≤ w.heap.size) :
    Calls Try.prog 31 #[encG (m + 3), .agg #[.int .i64 i1, .int .i64 i2, .int .i64 i3]] w (FdP W0 m bw web (enM M (i1, i2, i3)) vw vo vg w) := by
  obtain ⟨g, hg⟩ : ∃ q, w.heap.size = q := ⟨_, rfl⟩
  obtain ⟨X, hX⟩ : ∃ q, w.alloc (.cells #[.int .i64 i1, .int .i64 i2, .int .i64 i3] 25) = q := ⟨_, rfl⟩
  have hbX : Below w.heap.size w X := by rw [← hX]; exact (Below.refl _ _).alloc (Nat.le_refl _) _
  have hX1 : Bk X g 25 [.int .i64 i1, .int .i64 i2, .int .i64 i3] := by rw [← hX]; exact Bk.newAg hg _ [.int .i64 i1, .int .i64 i2, .int .i64 i3]
  have hle := hI.lens
  have hio : okI (i1, i2, i3) := hKo _ hi
  have HEn := Lib.hid (enter_any (h.below hbX) i1 i2 i3 hio (by rw [hr.met, hr.low, hr.way, hr.opn]; omega) (Nat.le_trans hsz hbX.size))
  have hFX : Fr (fun _ => False) w X := ⟨hbX.os, hbX.tape, hbX.output, hbX.size, fun k hk _ => hbX.block k hk⟩
  have HB := Lib.hid (fun (w2 : World) (vw2 vo2 : Value) (hf2 : FinAt w2 m bw web (enF L (i1, i2, i3)) vw2 vo2 vg) (hfr : Fr (fun k => k = m ∨ k = m + 1 ∨ k = m + 3 ∨ vw.ownBlock = some k ∨ vo.ownBlock = some k) X w2) (hn1 : Next X vw vw2) (hn2 : Next X vo vo2) => by
    have hfr2 : Fr (fun k => k = m ∨ k = m + 1 ∨ k = m + 3 ∨ vw.ownBlock = some k ∨ vo.ownBlock = some k) w w2 := hFX.trans hfr (fun j hj q => q.elim False.elim id)
    have nx : ∀ {a b : Value}, Next X a b → Next w a b := fun p k hk => (p k hk).imp id fun q => Nat.le_trans hbX.size q
    have hlw := h.way.from
    have hlo := h.opn.from
    exact (⟨hf2, hr.enter _, hI.enter hi hm, hC.enter hI hm, hgs.keep hfr2 h.way h.opn h.grp (fun k hk q => by
        rcases q with q | q | q | q | q
        · omega
        · omega
        · omega
        · exact .inl q
        · exact .inr (.inl q)) (nx hn2), ⟨0, rfl⟩, hfr2.mono (fun j hj q => by
        rcases q with q | q | q | q | q
        · exact .inl (by omega)
        · exact .inl (by omega)
        · exact .inl (by omega)
        · exact .inr (.inl q)
        · exact .inr (.inr (.inl q))), nx hn1, nx hn2, Next.refl _ _, hW0, Nat.le_trans hsz hfr2.size, hbe.trans (hfr2.to hbe.size fun k hk q => by
        rcases q with q | q | q | q | q
        · omega
        · omega
        · omega
        · have := hlw k q; omega
        · have := hlo k q; omega)⟩ : FdS W0 w m bw web (enM M (i1, i2, i3)) vw vo vg (enF L (i1, i2, i3)) (enM M (i1, i2, i3)) vw2 vo2 vg w2))
  have HE := Lib.hid hE
  have HKo := Lib.hid hKo
  have HKn := Lib.hid hKn
  have HLen := Lib.hid hlen
  have k0 := hX1.cell 0
  have k1 := hX1.cell 1
  have k2 := hX1.cell 2
  simp only [List.getElem?_cons_zero, List.getElem?_cons_succ] at k0 k1 k2
  clear h hr hI hC hgs hw hE hKo hKn hlen hW0 hbe hi hm hio hsz hbX hX1 hle hFX
  obtain ⟨M0, hM0⟩ : ∃ q, enM M (i1, i2, i3) = q := ⟨_, rfl⟩
  rw [hM0] at HB ⊢
  clear hM0
  go_enter Try.func31, Try.ntmps31
  go_wp2_with fail
  go_step3
  go_wp2_with fail
  try rw [hX]
  try rw [hg]
  clear hX hg
  refine HEn.out.mono ?_
  rintro e w2 ⟨vw2, vo2, he, hf2, hfr2, hn1, hn2⟩
  rw [he.out]
  have H2 := Lib.hid (HB.out w2 vw2 vo2 hf2 hfr2 hn1 hn2)
  clear he hf2 hfr2 hn1 hn2 HEn HB k0 k1 k2
  go_wp2_with fail
  go_step3
  go_wp2_with fail
  go_loopg [] (phi web M0) (fun n wr => ∃ (L : Fin) (M : FM) (vw1 vo1 vg1 : Value), Hid (FdS W0 w m bw web M0 vw vo vg L M vw1 vo1 vg1 wr) ∧ Hid (phi web M ≤ n))
  case atStart => exact ⟨_, _, _, _, _, H2, Lib.hid (Nat.le_refl _)⟩
  case round =>
    clear H2
    obtain ⟨GK, rfl⟩ : ∃ q, q = gk := ⟨_, rfl⟩
    obtain ⟨L, M, vw1, vo1, vg1, HS, HP⟩ := hrel
    by_cases hway : M.way = []
    · obtain ⟨aw, cw, evw⟩ := HS.out.at'.way.slice
      rw [HS.out.rel.way, hway] at evw
      simp only [List.length_nil] at evw
      subst evw
      have c3 := Bk.cell HS.out.at'.bk 3
      simp only [List.getElem?_cons_zero, List.getElem?_cons_succ] at c3
      have HW := Lib.hid hway
      clear hway
      go_wp2
      try rw [Exit.noGoto_ret]
      go_end0
      exact ⟨L, M, _, _, _, Lib.hid rfl, HS.out, HW.out⟩
    · obtain ⟨wd, u, hu⟩ : ∃ a b, M.way = a ++ [b] := ⟨M.way.dropLast, M.way.getLast hway, (List.dropLast_concat_getLast hway).symm⟩
      obtain ⟨⟨x1, x2, x3⟩, n⟩ := u
      have hLw : L.way = wd ++ [((x1, x2, x3), n)] := HS.out.rel.way.trans hu
      have hown := HS.out.at'.way
      rw [hLw] at hown
      obtain ⟨gw, cw, rfl⟩ := way_row hown
      obtain ⟨T1, hT1⟩ : ∃ q, wd.length = q := ⟨_, rfl⟩
      rw [hT1] at HS hown
      obtain ⟨T, hTT⟩ : ∃ q, T1 + 1 = q := ⟨_, rfl⟩
      rw [hTT] at HS hown
      obtain ⟨e0, e1, e2, e3, hgl, hgm, -, hcap, -⟩ := way_cells hown hT1
      have c3 := Bk.cell HS.out.at'.bk 3
      simp only [List.getElem?_cons_zero, List.getElem?_cons_succ] at c3
      have hxm := (HS.out.inv.top hu).2
      have HXo : Hid (okI (x1, x2, x3)) := Lib.hid (HKo.out _ (HS.out.inv.web _ hxm))
      have hT9 : T ≤ 1000 := by have q := HS.out.inv.lens; have q2 := HLen.out; rw [hu] at q; simp at q; omega
      have hTi : (0 : Int) < (T : Int) := by omega
      have hTd : decide ((0 : Int) < (T : Int)) = true := decide_eq_true hTi
      have hTn : decide (0 < T) = true := decide_eq_true (by omega)
      have hsub : IntKind.i64.wrap ((T : Int) - 1) = (T1 : Int) := by rw [show (T : Int) - 1 = (T1 : Int) by omega, IntKind.wrap_i64]; omega
      have hlt : (T1 : Int) < (T : Int) := by omega
      have hle : (T1 : Int) ≤ (cw : Int) := by omega
      have hltd : decide ((T1 : Int) < (T : Int)) = true := decide_eq_true hlt
      have HT1 := Lib.hid hT1
      have HTT := Lib.hid hTT
      have HU := Lib.hid hu
      have HGm := Lib.hid hgm
      clear hu hLw hown hT1 hTT hway hxm hgm
      go_upto_region 3 with fail
      go_quiet (fail)
      generalize hwz : World.drewN _ _ = wz
      have hbz : Below wr.heap.size wr wz := by rw [← hwz]; exact below_drewNA (Below.refl _ _) _
      have HSz := Lib.hid (HS.out.below hbz)
      have cz0 : wz.cell? ⟨gw, T1 * 4, none⟩ = some (.int .i64 x1) := (hbz.cell (p := ⟨gw, T1 * 4, none⟩) hgl).trans e0
      have cz1 : wz.cell? ⟨gw, T1 * 4 + 1, none⟩ = some (.int .i64 x2) := (hbz.cell (p := ⟨gw, T1 * 4 + 1, none⟩) hgl).trans e1
      have cz2 : wz.cell? ⟨gw, T1 * 4 + 2, none⟩ = some (.int .i64 x3) := (hbz.cell (p := ⟨gw, T1 * 4 + 2, none⟩) hgl).trans e2
      clear hwz hbz HS e0 e1 e2 e3 c3 hTi hTd hTn hsub hlt hle hltd hcap hT9 hgl
      have b0 := Bk.cell HSz.out.at'.bk 0
      simp only [List.getElem?_cons_zero, List.getElem?_cons_succ] at b0
      have hstep : stepsV web (x1, x2, x3) = (ndOf web (x1, x2, x3)).d.dl := rfl
      have hok := ndOf_ok HE.out (x1, x2, x3)
      obtain ⟨nn, hnn⟩ : ∃ n, ndOf web (x1, x2, x3) = n := ⟨_, rfl⟩
      rw [hnn] at hok hstep
      obtain ⟨⟨⟨j1, j2, j3⟩, sq, dl⟩, na, nc⟩ := nn
      obtain ⟨D, hD⟩ : ∃ D, dl.length = D := ⟨_, rfl⟩
      have hnd : ndV (ndOf web (x1, x2, x3)) = .agg #[.int .i64 j1, .int .i64 j2, .int .i64 j3, .int .i64 sq, .slice na D nc] := by rw [hnn]; simp only [ndV, hD]
      have lk := HSz.out.at'.web.ndF x1 x2 x3 HXo.out hnd
      have lkn := fun n => (HSz.out.at'.web.below (below_drewNA (Below.refl _ _) n)).ndF x1 x2 x3 HXo.out hnd
      have hf1 := field_n1 j1 j2 j3 sq (.slice na D nc)
      have hf2 := field_a1 sq (.slice na D nc)
      simp only at hstep
      have HDl := Lib.hid hD
      have HSt := Lib.hid hstep
      have HRd : Hid (IK.Rd W0 (.slice na D nc) dl) := Lib.hid (by have q := hok.2.2; simp only at q; rwa [hD] at q)
      have HDo : Hid (okL dl) := Lib.hid hok.2.1
      have hD63 : D ≤ 9223372036854775807 := by have q := HRd.out.len; rw [hD] at q; unfold maxLen at q; omega
      clear hstep hok hnn hnd hD
      go_upto_region 4 with fail
      go_quiet (fail)
      generalize hwy : World.drewN _ _ = wy
      have hby : Below wz.heap.size wz wy := by rw [← hwy]; exact below_drewNA (Below.refl _ _) _
      have HSy := Lib.hid (HSz.out.below hby)
      clear hwy hby HSz cz0 cz1 cz2 b0 lk lkn hf1 hf2
      go_wp2_with fail
      go_loopg [] (phi web M) (fun q wr => ∃ (L : Fin) (M : FM) (n : Nat), Hid (FdS W0 w m bw web M0 vw vo vg L M (.slice (some ⟨gw, 0, none⟩) T cw) vo1 vg1 wr) ∧ Hid (M.way = wd ++ [((x1, x2, x3), n)] ∧ phi web M ≤ q ∧ phi web M ≤ GK))
      case atStart => exact ⟨_, _, _, HSy, Lib.hid ⟨HU.out, Nat.le_refl _, HP.out⟩⟩
      case round =>
        clear HSy HU HP
        obtain ⟨L, M, n, HS, HU⟩ := hrel
        have hLw : L.way = wd ++ [((x1, x2, x3), n)] := HS.out.rel.way.trans HU.out.1
        have hown := HS.out.at'.way
        rw [hLw] at hown
        obtain ⟨e0, e1, e2, e3, hgl, -, -, -, cs, hBw⟩ := way_cells hown HT1.out
        have hT9 : T ≤ 1000 := by have q := HS.out.inv.lens; have q2 := HLen.out; have q3 := HT1.out; have q4 := HTT.out; rw [HU.out.1] at q; simp at q; omega
        by_cases hkD : n < D
        · have hk1 : (n : Int) < (D : Int) := by omega
          have hk2 : decide ((n : Int) < (D : Int)) = true := decide_eq_true hk1
          have hk3 : decide (n < D) = true := decide_eq_true hkD
          have hkl : n < dl.length := by rw [HDl.out]; exact hkD
          obtain ⟨-, gd, od, hna, hgd, hcd⟩ := HRd.out.at (by intro e; rw [e] at hkl; simp at hkl)
          subst hna
          have eK : IK.k = 3 := rfl
          have hc := hcd n hkD
          have eg : dl.getD n IK.d = dl[n] := by simp [List.getD, hkl]
          rw [eg, eK] at hc
          have hoe := HDo.out _ (List.getElem_mem hkl)
          have hdn : (stepsV web (x1, x2, x3))[n]? = some dl[n] := by rw [HSt.out]; exact List.getElem?_eq_getElem hkl
          obtain ⟨ee, hee⟩ : ∃ x, dl[n] = x := ⟨_, rfl⟩
          rw [hee] at hc hoe hdn
          obtain ⟨d1, d2, d3⟩ := ee
          have HSg := Lib.hid (step_go HU.out.1 hdn)
          have q0 : wr.cell? ⟨gd, od + n * 3, none⟩ = some (.int .i64 d1) := (HS.out.bel.cell (p := ⟨gd, od + n * 3, none⟩) hgd).trans (hc 0 _ rfl)
          have q1 : wr.cell? ⟨gd, od + n * 3 + 1, none⟩ = some (.int .i64 d2) := (HS.out.bel.cell (p := ⟨gd, od + n * 3 + 1, none⟩) hgd).trans (hc 1 _ rfl)
          have q2 : wr.cell? ⟨gd, od + n * 3 + 2, none⟩ = some (.int .i64 d3) := (HS.out.bel.cell (p := ⟨gd, od + n * 3 + 2, none⟩) hgd).trans (hc 2 _ rfl)
          have HOe := Lib.hid hoe
          obtain ⟨bd, hbd⟩ : ∃ q, wr.heap.size = q := ⟨_, rfl⟩
          obtain ⟨wf, hwf⟩ : ∃ q, wr.alloc (.cells #[.int .i64 d1, .int .i64 d2, .int .i64 d3] 25) = q := ⟨_, rfl⟩
          have hb : Below wr.heap.size wr wf := by rw [← hwf]; exact (Below.refl _ _).alloc (Nat.le_refl _) _
          have HDf : Hid (Bk wf bd 25 [.int .i64 d1, .int .i64 d2, .int .i64 d3]) := Lib.hid (by rw [← hwf]; exact Bk.newAg hbd _ [.int .i64 d1, .int .i64 d2, .int .i64 d3])
          have HSf := Lib.hid (HS.out.below hb)
          have HPh := Lib.hid (phi_step (web := web) (M := M) HKn.out HS.out.inv.mnd (by rw [HU.out.1]; simp))
          have hBf := hBw.below hb
          have hgb : gw < bd := by rw [← hbd]; exact hgl
          have hn0 : (0 : Int) ≤ (n : Int) := by omega
          obtain ⟨n1, hn1⟩ : ∃ q, n + 1 = q := ⟨_, rfl⟩
          have hadd : IntKind.i64.wrap ((n : Int) + 1) = (n1 : Int) := by rw [IntKind.wrap_i64]; omega
          have hadd2 : wrap64 ((n : Int) + 1) = (n1 : Int) := by unfold wrap64; omega
          have HN1 := Lib.hid hn1
          have ef3 : wf.cell? ⟨gw, T1 * 4 + 3, none⟩ = some (.int .i64 n) := (hb.cell (p := ⟨gw, T1 * 4 + 3, none⟩) hgl).trans e3
          have f3 := hBf.fz (T1 * 4 + 3)
          have l3 := hBf.lt
          clear hcd hc eK eg hoe hdn hee hkl hgd hb hLw hown HS hBw hgl hn1
          go_upto_region 7 with fail
          try rw [hwf]
          try rw [hbd]
          clear hwf hbd q0 q1 q2 hk1 hk2 hk3 hkD e0 e1 e2 e3 hn0
          go_upto_region 8 with fail
          obtain ⟨wg, hwg⟩ : ∃ q, wf.setCell ⟨gw, T1 * 4 + 3, none⟩ (.int .i64 (n1 : Int)) = q := ⟨_, rfl⟩
          have HB7 : Hid (FdB m bw web L M (wd ++ [((x1, x2, x3), n + 1)]) (.slice (some ⟨gw, 0, none⟩) T cw) vo1 vg1 wf wg) := Lib.hid (by rw [← hwg]; exact HSf.out.bump HU.out.1 HT1.out HN1.out)
          have HD7 : Hid (Bk wg bd 25 [.int .i64 d1, .int .i64 d2, .int .i64 d3]) := Lib.hid (by rw [← hwg]; exact (Fr.set wf ⟨gw, T1 * 4 + 3, none⟩ _).bk HDf.out (by simp; omega))
          try rw [hwg]
          clear hwg hadd hadd2 ef3 f3 l3 hBf HDf
          obtain ⟨okb, hokb⟩ : ∃ q, (getV web (d1, d2, d3)).isSome = q := ⟨_, rfl⟩
          obtain ⟨y1, y2, y3, y4, y5, hnd, hy⟩ := ndV_parts (ndOf web (d1, d2, d3))
          have HY := Lib.hid hy
          have HC8 : Hid (∀ w', Below wg.heap.size wg w' → w'.cell? ⟨m + 3, 0, none⟩ = some (.map (some bw)) ∧ w'.cell? ⟨bd, 0, none⟩ = some (.int .i64 d1) ∧ w'.cell? ⟨bd, 1, none⟩ = some (.int .i64 d2) ∧ w'.cell? ⟨bd, 2, none⟩ = some (.int .i64 d3) ∧ (Instr.lookup 53 (.map (some bw)) (.agg #[.int .i64 d1, .int .i64 d2, .int .i64 d3]) true).run Try.prog w' = .ok (.tuple #[.agg #[y1, y2, y3, y4, y5], .bool okb]) w') := Lib.hid fun w' hb => ⟨(HB7.out.below hb).at'.bk.cell 0, (Bk.below HD7.out hb).cell 0, (Bk.below HD7.out hb).cell 1, (Bk.below HD7.out hb).cell 2, (HB7.out.below hb).at'.web.ndF2 d1 d2 d3 HOe.out hnd hokb⟩
          have HOk := Lib.hid hokb
          clear hokb hnd hy
          refine wp_region_held_drew (S := (fun w' => w'.cell? ⟨m + 3, 0, none⟩ = some (.map (some bw)) ∧ w'.cell? ⟨bd, 0, none⟩ = some (.int .i64 d1) ∧ w'.cell? ⟨bd, 1, none⟩ = some (.int .i64 d2) ∧ w'.cell? ⟨bd, 2, none⟩ = some (.int .i64 d3) ∧ (Instr.lookup 53 (.map (some bw)) (.agg #[.int .i64 d1, .int .i64 d2, .int .i64 d3]) true).run Try.prog w' = .ok (.tuple #[.agg #[y1, y2, y3, y4, y5], .bool okb]) w')) (by kernel_rfl) ?_ (fun hHeld => ?_)
          · ((first
  | exact HC8.out _ hbp
  | exact HC8.out _ hbs
  | exact HC8.out _ (Below.refl _ _)
  | exact HC8.out _ (Below.refl _ _).drew
  | fail))
          refine wpAnyH_take (i := 0) (v := ?_) rfl (by kernel_rfl) (by kernel_rfl) (by kernel_rfl) (fun _ _ _ h => h) (Or.inl ⟨by rfl, ?_⟩) (by assumption) ?_
          rotate_left
          · (intro w hSw; (try dsimp only at hSw); go_simp; try rfl)
          try simp only [Act.put, List.setIfInBounds_toArray, List.set_cons_zero, List.set_cons_succ, List.getElem_toArray, List.getElem_cons_zero, List.getElem_cons_succ]
          refine wpAnyH_take (i := 1) (v := ?_) rfl (by kernel_rfl) (by kernel_rfl) (by kernel_rfl) (fun _ _ _ h => h) (Or.inl ⟨by rfl, ?_⟩) (by assumption) ?_
          rotate_left
          · (intro w hSw; (try dsimp only at hSw); go_simp; try rfl)
          try simp only [Act.put, List.setIfInBounds_toArray, List.set_cons_zero, List.set_cons_succ, List.getElem_toArray, List.getElem_cons_zero, List.getElem_cons_succ]
          refine wpAnyH_take (i := 2) (v := ?_) rfl (by kernel_rfl) (by kernel_rfl) (by kernel_rfl) (fun _ _ _ h => h) (Or.inl ⟨by rfl, ?_⟩) (by assumption) ?_
          rotate_left
          · (intro w hSw; (try dsimp only at hSw); go_simp; try rfl)
          try simp only [Act.put, List.setIfInBounds_toArray, List.set_cons_zero, List.set_cons_succ, List.getElem_toArray, List.getElem_cons_zero, List.getElem_cons_succ]
          refine wpAnyH_take (i := 3) (v := ?_) rfl (by kernel_rfl) (by kernel_rfl) (by kernel_rfl) (fun _ _ _ h => h) (Or.inl ⟨by rfl, ?_⟩) (by assumption) ?_
          rotate_left
          · (intro w hSw; (try dsimp only at hSw); go_simp; try rfl)
          try simp only [Act.put, List.setIfInBounds_toArray, List.set_cons_zero, List.set_cons_succ, List.getElem_toArray, List.getElem_cons_zero, List.getElem_cons_succ]
          refine wpAnyH_take (i := 4) (v := ?_) rfl (by kernel_rfl) (by kernel_rfl) (by kernel_rfl) (fun _ _ _ h => h) (Or.inl ⟨by rfl, ?_⟩) (by assumption) ?_
          rotate_left
          · (intro w hSw; (try dsimp only at hSw); go_simp; try rfl)
          try simp only [Act.put, List.setIfInBounds_toArray, List.set_cons_zero, List.set_cons_succ, List.getElem_toArray, List.getElem_cons_zero, List.getElem_cons_succ]
          refine wpAnyH_take (i := 5) (v := ?_) rfl (by kernel_rfl) (by kernel_rfl) (by kernel_rfl) (fun _ _ _ h => h) (Or.inl ⟨by rfl, ?_⟩) (by assumption) ?_
          rotate_left
          · (intro w hSw; (try dsimp only at hSw); go_simp; try rfl)
          try simp only [Act.put, List.setIfInBounds_toArray, List.set_cons_zero, List.set_cons_succ, List.getElem_toArray, List.getElem_cons_zero, List.getElem_cons_succ]
          refine wpAnyH_take (i := 6) (v := ?_) rfl (by kernel_rfl) (by kernel_rfl) (by kernel_rfl) (fun _ _ _ h => h) (Or.inl ⟨by rfl, ?_⟩) (by assumption) ?_
          rotate_left
          · (intro w hSw; (try dsimp only at hSw); go_simp; try rfl)
          try simp only [Act.put, List.setIfInBounds_toArray, List.set_cons_zero, List.set_cons_succ, List.getElem_toArray, List.getElem_cons_zero, List.getElem_cons_succ]
          refine wpAnyH_take (i := 7) (v := ?_) rfl (by kernel_rfl) (by kernel_rfl) (by kernel_rfl) (fun _ _ _ h => h) (Or.inl ⟨by rfl, ?_⟩) (by assumption) ?_
          rotate_left
          · (intro w hSw; (try dsimp only at hSw); go_simp; try rfl)
          try simp only [Act.put, List.setIfInBounds_toArray, List.set_cons_zero, List.set_cons_succ, List.getElem_toArray, List.getElem_cons_zero, List.getElem_cons_succ]
          refine wpAnyH_take (i := 8) (v := ?_) rfl (by kernel_rfl) (by kernel_rfl) (by kernel_rfl) (fun _ _ _ h => h) (Or.inl ⟨by rfl, ?_⟩) (by assumption) ?_
          rotate_left
          · (intro w hSw; (try dsimp only at hSw); go_simp; try rfl)
          try simp only [Act.put, List.setIfInBounds_toArray, List.set_cons_zero, List.set_cons_succ, List.getElem_toArray, List.getElem_cons_zero, List.getElem_cons_succ]
          refine wpAnyH_take (i := 9) (v := ?_) rfl (by kernel_rfl) (by kernel_rfl) (by kernel_rfl) (fun _ _ _ h => h) (Or.inl ⟨by rfl, ?_⟩) (by assumption) ?_
          rotate_left
          · (intro w hSw; (try dsimp only at hSw); go_simp; try rfl)
          try simp only [Act.put, List.setIfInBounds_toArray, List.set_cons_zero, List.set_cons_succ, List.getElem_toArray, List.getElem_cons_zero, List.getElem_cons_succ]
          refine wpAnyH_ready (rs := [10]) (by kernel_rfl) (by simp) ?_
          refine (AllReadyH.cons rfl (fun K hK => ?_) AllReadyH.nil)
          refine step_allocNd rfl rfl ?_
          intro pn wp hpn hbp0 hpl
          have hbp : Below wg.heap.size wg wp := (Below.refl _ _).drew.trans (hbp0.mono (by simp))
          refine hK.out _ _ ?_ (fun hHeld => ?_)
          · ((first
  | exact HC8.out _ hbp
  | exact HC8.out _ hbs
  | exact HC8.out _ (Below.refl _ _)
  | exact HC8.out _ (Below.refl _ _).drew
  | fail))
          clear hK K
          try simp only [Act.put, List.setIfInBounds_toArray, List.set_cons_zero, List.set_cons_succ, List.getElem_toArray, List.getElem_cons_zero, List.getElem_cons_succ]
          refine wpAnyH_ready (rs := [11]) (by kernel_rfl) (by simp) ?_
          refine (AllReadyH.cons rfl (fun K hK => ?_) AllReadyH.nil)
          refine step_storeNd rfl _ _ rfl pn rfl y1 y2 y3 y4 y5 rfl HY.out.1 HY.out.2.1 HY.out.2.2.1 HY.out.2.2.2.1 HY.out.2.2.2.2 hpn ?_
          intro wq hbq
          have hbs : Below wg.heap.size wg wq := hbp.trans (hbq.mono (Nat.le_trans (by simp) hpl))
          refine hK.out _ _ ?_ (fun hHeld => ?_)
          · ((first
  | exact HC8.out _ hbp
  | exact HC8.out _ hbs
  | exact HC8.out _ (Below.refl _ _)
  | exact HC8.out _ (Below.refl _ _).drew
  | fail))
          clear hK K
          try simp only [Act.put, List.setIfInBounds_toArray, List.set_cons_zero, List.set_cons_succ, List.getElem_toArray, List.getElem_cons_zero, List.getElem_cons_succ]
          refine wpAnyH_take (i := 12) (v := ?_) rfl (by kernel_rfl) (by kernel_rfl) (by kernel_rfl) (fun _ _ _ h => h) (Or.inl ⟨by rfl, ?_⟩) (by assumption) ?_
          rotate_left
          · (intro w hSw; (try dsimp only at hSw); go_simp; try rfl)
          try simp only [Act.put, List.setIfInBounds_toArray, List.set_cons_zero, List.set_cons_succ, List.getElem_toArray, List.getElem_cons_zero, List.getElem_cons_succ]
          refine wpAnyH_done (by kernel_rfl) ?_ _
          clear HC8 hpn hbp0 hpl hbq hbp
          have HS8 := Lib.hid (HB7.out.below hbs)
          have HD8 := Lib.hid (Bk.below HD7.out hbs)
          clear hbs HB7 HD7
          cases okb with
          | false =>
            have hst : stepM web M = { M with way := wd ++ [((x1, x2, x3), n + 1)] } := by rw [HSg.out, if_neg (by rw [HOk.out]; simp)]
            have HE8 := Lib.hid (HS8.out.plain HSf.out hst)
            have HW8 := Lib.hid (congrArg FM.way hst)
            clear hst HSg HS8 HD8 HSf HY HOk
            go_wp2_with fail
            go_roundg (phi web (stepM web M))
            case measure => have := HPh.out; have := HU.out.2.1; omega
            case rel => exact ⟨_, stepM web M, n + 1, HE8, Lib.hid ⟨HW8.out, Nat.le_refl _, by have := HPh.out; have := HU.out.2.2; omega⟩⟩
          | true =>
            have HSh : Hid (stepM web M = if numOf M.met (d1, d2, d3) = 0 then enM { M with way := wd ++ [((x1, x2, x3), n + 1)] } (d1, d2, d3) else if (getV M.ofi (d1, d2, d3)).isNone then { M with way := wd ++ [((x1, x2, x3), n + 1)], low := putV M.low (x1, x2, x3) (min (numOf M.low (x1, x2, x3)) (numOf M.met (d1, d2, d3))) } else { M with way := wd ++ [((x1, x2, x3), n + 1)] }) := Lib.hid (by rw [HSg.out, if_pos HOk.out])
            have c1 := Bk.cell HS8.out.at'.bk 1
            have r0 := Bk.cell HD8.out 0
            have r1 := Bk.cell HD8.out 1
            have r2 := Bk.cell HD8.out 2
            simp only [List.getElem?_cons_zero, List.getElem?_cons_succ] at c1 r0 r1 r2
            obtain ⟨A, hA⟩ : ∃ q, numOf M.met (d1, d2, d3) = q := ⟨_, rfl⟩
            have hA' : numOf L.met (d1, d2, d3) = A := by rw [HSf.out.rel.met]; exact hA
            have lk1 := HS8.out.at'.met.num d1 d2 d3 HOe.out hA'
            have lk1n := fun n => (HS8.out.at'.met.below (below_drewNA (Below.refl _ _) n)).num d1 d2 d3 HOe.out hA'
            have HA := Lib.hid (And.intro hA hA')
            clear hA hA' HSg HY
            go_upto_region 10 with fail
            go_quiet (fail)
            generalize hwv : World.drewN _ _ = wv
            have hbv : Below wq.heap.size wq wv := by rw [← hwv]; exact below_drewNA (Below.refl _ _) _
            have HSv := Lib.hid (HS8.out.below hbv)
            have HDv := Lib.hid (Bk.below HD8.out hbv)
            clear hwv hbv HS8 HD8 c1 r0 r1 r2 lk1 lk1n
            have r0 := Bk.cell HDv.out 0
            have r1 := Bk.cell HDv.out 1
            have r2 := Bk.cell HDv.out 2
            simp only [List.getElem?_cons_zero, List.getElem?_cons_succ] at r0 r1 r2
            have HSz : Hid (m + 4 ≤ wv.heap.size) := Lib.hid (Nat.le_trans HSf.out.sz HSv.out.fr.size)
            have HLs : Hid (L.met.length ≤ 20 ∧ L.low.length ≤ 20 ∧ (wd ++ [((x1, x2, x3), n + 1)]).length ≤ 20 ∧ L.opn.length ≤ 20) := Lib.hid (by
              have q := HSf.out.inv.lens
              have q2 := HLen.out
              have q3 := HU.out.1
              rw [HSf.out.rel.met, HSf.out.rel.low, HSf.out.rel.opn]
              rw [q3] at q
              simp only [List.length_append, List.length_cons, List.length_nil] at q ⊢
              omega)
            by_cases hA0 : A = 0
            · have hAi : (A : Int) = 0 := by omega
              have hAd : decide ((A : Int) = 0) = true := decide_eq_true hAi
              have hst : stepM web M = enM { M with way := wd ++ [((x1, x2, x3), n + 1)] } (d1, d2, d3) := by rw [HSh.out, if_pos (HA.out.1.trans hA0)]
              have HSt2 := Lib.hid hst
              have HEn := Lib.hid (enter_any HSv.out.at' d1 d2 d3 HOe.out (by have q := HLs.out; show L.met.length ≤ 1000 ∧ L.low.length ≤ 1000 ∧ (wd ++ [((x1, x2, x3), n + 1)]).length ≤ 1000 ∧ L.opn.length ≤ 1000; omega) HSz.out)
              clear hst hA0 HSh
              go_upto_region 11 with fail
              go_wp2_with fail
              refine HEn.out.mono ?_
              rintro e9 w9 ⟨vw9, vo9, he, hf9, hfr9, hn1, hn2⟩
              rw [he.out]
              have HE9 := Lib.hid (HSv.out.enter HSf.out HSt2.out hf9 hfr9 hn1 hn2)
              clear he hf9 hfr9 hn1 hn2 HEn HSt2 r0 r1 r2 HSv HDv HSf
              go_wp2_with fail
              go_roundg (phi web (stepM web M))
              case measure => have := HPh.out; have := HU.out.2.2; omega
              case rel => exact ⟨_, _, _, _, _, HE9, Lib.hid (Nat.le_refl _)⟩
            · have hAi : ¬ (A : Int) = 0 := by omega
              have hAd : decide ((A : Int) = 0) = false := decide_eq_false hAi
              have HSh2 : Hid (stepM web M = if (getV M.ofi (d1, d2, d3)).isNone then { M with way := wd ++ [((x1, x2, x3), n + 1)], low := putV M.low (x1, x2, x3) (min (numOf M.low (x1, x2, x3)) (numOf M.met (d1, d2, d3))) } else { M with way := wd ++ [((x1, x2, x3), n + 1)] }) := Lib.hid (by rw [HSh.out, if_neg (by rw [HA.out.1]; exact hA0)])
              have c5 := Bk.cell HSv.out.at'.bk 5
              simp only [List.getElem?_cons_zero, List.getElem?_cons_succ] at c5
              have hof : getV L.of (d1, d2, d3) = (getV M.ofi (d1, d2, d3)).map fun i => L.grp.getD i 0 := by rw [HSf.out.rel.of, atG_get]
              clear HSh hA0
              cases hq : getV M.ofi (d1, d2, d3) with
              | some i =>
                have hst : stepM web M = { M with way := wd ++ [((x1, x2, x3), n + 1)] } := by rw [HSh2.out, hq]; rfl
                have hlp : look_p (getV L.of (d1, d2, d3)) = encG (L.grp.getD i 0) := by rw [hof, hq]; rfl
                obtain ⟨gi, hgi⟩ : ∃ q, L.grp.getD i 0 = q := ⟨_, rfl⟩
                rw [hgi] at hlp
                have lk1 := HSv.out.at'.of.gpF d1 d2 d3 HOe.out hlp
                have lk1n := fun n => (HSv.out.at'.of.below (below_drewNA (Below.refl _ _) n)).gpF d1 d2 d3 HOe.out hlp
                have HSt2 := Lib.hid hst
                clear hst hlp hgi hof hq HSh2
                go_upto_region 12 with fail
                go_quiet (fail)
                generalize hwu : World.drewN _ _ = wu
                have hbu : Below wv.heap.size wv wu := by rw [← hwu]; exact below_drewNA (Below.refl _ _) _
                have HE8 := Lib.hid ((HSv.out.below hbu).plain HSf.out HSt2.out)
                have HW8 := Lib.hid (congrArg FM.way HSt2.out)
                clear hwu hbu lk1 lk1n c5 r0 r1 r2 HSv HDv HSf HSt2
                go_wp2_with fail
                go_roundg (phi web (stepM web M))
                case measure => have := HPh.out; have := HU.out.2.1; omega
                case rel => exact ⟨_, stepM web M, n + 1, HE8, Lib.hid ⟨HW8.out, Nat.le_refl _, by have := HPh.out; have := HU.out.2.2; omega⟩⟩
              | none =>
                have hst : stepM web M = { M with way := wd ++ [((x1, x2, x3), n + 1)], low := putV M.low (x1, x2, x3) (min (numOf M.low (x1, x2, x3)) (numOf M.met (d1, d2, d3))) } := by rw [HSh2.out, hq]; rfl
                have hlp : look_p (getV L.of (d1, d2, d3)) = .pointer none := by rw [hof, hq]; rfl
                have lk1 := HSv.out.at'.of.gpF d1 d2 d3 HOe.out hlp
                have lk1n := fun n => (HSv.out.at'.of.below (below_drewNA (Below.refl _ _) n)).gpF d1 d2 d3 HOe.out hlp
                have HSt2 := Lib.hid hst
                clear hst hlp hof hq HSh2
                go_upto_region 12 with fail
                go_quiet (fail)
                generalize hwu : World.drewN _ _ = wu
                have hbu : Below wv.heap.size wv wu := by rw [← hwu]; exact below_drewNA (Below.refl _ _) _
                have HSu := Lib.hid (HSv.out.below hbu)
                have HDu := Lib.hid (Bk.below HDv.out hbu)
                clear hwu hbu lk1 lk1n c5 r0 r1 r2 HSv HDv
                have r0 := Bk.cell HDu.out 0
                have r1 := Bk.cell HDu.out 1
                have r2 := Bk.cell HDu.out 2
                have c1 := Bk.cell HSu.out.at'.bk 1
                have c2 := Bk.cell HSu.out.at'.bk 2
                simp only [List.getElem?_cons_zero, List.getElem?_cons_succ] at c1 c2 r0 r1 r2
                obtain ⟨e0, e1, e2, -, -, -, -, -, -⟩ := way_cells HSu.out.at'.way HT1.out
                obtain ⟨Bn, hBn⟩ : ∃ q, numOf L.low (x1, x2, x3) = q := ⟨_, rfl⟩
                have hmin : min (Bn : Int) (A : Int) = ((min Bn A : Nat) : Int) := by omega
                have hud : Below wu.heap.size wu wu.drew := (Below.refl wu.heap.size wu).drew
                have lk1 := HSu.out.at'.low.num x1 x2 x3 HXo.out hBn
                have lk1d := (HSu.out.at'.low.below hud).num x1 x2 x3 HXo.out hBn
                have lk2 := HSu.out.at'.met.num d1 d2 d3 HOe.out HA.out.2
                have lk2d := (HSu.out.at'.met.below hud).num d1 d2 d3 HOe.out HA.out.2
                have HBn := Lib.hid hBn
                clear hBn
                go_upto_region 13 with fail
                go_still_tail 24, (by kernel_rfl)
                refine wpList_put_mv rfl _ _ _ 58 rfl 3 Try.underlying58 encN (m + 1) L.low rfl (HSu.out.at'.low.below hud) (by have := HLs.out.2.1; unfold maxLen; omega) (x1, x2, x3) (min Bn A) rfl HXo.out rfl ?_
                intro w5 hm5 ht5
                have hf5 : Fr (fun k => k = m + 1) wu w5 := ⟨ht5.grown.os, ht5.grown.tape, ht5.grown.output, ht5.grown.size, fun k hk hn => ht5.grown.block k hk (by simpa using hn)⟩
                have HE8 := Lib.hid (HSu.out.low HSf.out HSt2.out hf5 (by rw [← HSf.out.rel.low, HBn.out, HA.out.1]; exact hm5))
                have HW8 := Lib.hid (congrArg FM.way HSt2.out)
                clear hm5 ht5 hf5 hud lk1 lk1d lk2 lk2d hmin e0 e1 e2 c1 c2 r0 r1 r2 HSu HDu HSf HSt2
                go_wp2_with fail
                go_roundg (phi web (stepM web M))
                case measure => have := HPh.out; have := HU.out.2.1; omega
                case rel => exact ⟨_, stepM web M, n + 1, HE8, Lib.hid ⟨HW8.out, Nat.le_refl _, by have := HPh.out; have := HU.out.2.2; omega⟩⟩
        · have hk1 : ¬ (n : Int) < (D : Int) := by omega
          have hk2 : decide ((n : Int) < (D : Int)) = false := decide_eq_false hk1
          have hk3 : decide (n < D) = false := decide_eq_false hkD
          have hsn : (stepsV web (x1, x2, x3)).length ≤ n := by rw [HSt.out, HDl.out]; omega
          have HPh := Lib.hid (phi_step (web := web) (M := M) HKn.out HS.out.inv.mnd (by rw [HU.out.1]; simp))
          obtain ⟨hxo, hxm⟩ := HS.out.inv.top HU.out.1
          obtain ⟨pre, post, ho⟩ := List.append_of_mem hxo
          have hx : (x1, x2, x3) ∉ pre := by
            have q := HS.out.inv.ond
            rw [ho, List.nodup_append] at q
            exact fun r => q.2.2 _ r _ (List.mem_cons_self ..) rfl
          have hoL : L.opn = pre ++ (x1, x2, x3) :: post := HS.out.rel.opn.trans ho
          have hok : okL M.opn := fun y hy => HKo.out _ (HS.out.inv.web _ (HS.out.inv.opn y hy))
          have hwo : ∀ e ∈ wd, okI e.1 := fun e he => hok _ (HS.out.inv.way.subset (by rw [HU.out.1]; simp only [List.map_append, List.mem_append]; exact .inl (List.mem_map_of_mem he)))
          have hls := HS.out.inv.lens
          have hl9 := HLen.out
          have hcn := HS.out.cnt
          unfold FC at hcn
          have hof : L.of.length = M.ofi.length := by rw [HS.out.rel.of]; unfold atG; simp
          have HLv : Hid (Calls Try.prog 48 #[encG (m + 3), .agg #[.int .i64 x1, .int .i64 x2, .int .i64 x3]] wr (fun e w' => Hid (e = .returned (.tuple #[])) ∧ ∃ L' vw' vo' vg', FdS W0 w m bw web M0 vw vo vg L' (stepM web M) vw' vo' vg' w')) := Lib.hid (leave_any HS.out.at' x1 x2 x3 HXo.out wd n hLw hwo (by rw [HS.out.rel.met, HS.out.rel.low, HS.out.rel.way, HS.out.rel.opn]; omega) HS.out.sz _ pre post hoL hx (by rw [HS.out.rel.opn]; exact hok) (by rw [HS.out.rel.opn, hof]; omega)
            (fun w' vw' vo' vg' gb g7 c7 y1 y2 y3 ys ha hy hb hi hgb hf hN hv hvo hne => ⟨Lib.hid rfl, _, _, _, _, HS.out.group HU.out.1 hsn hoL hx ha hy hb hi hgb hf hN hv hvo hne⟩) (by rw [HS.out.rel.len]; omega)
            (fun w' vw' ha hf hv hne => ⟨Lib.hid rfl, _, _, _, _, HS.out.back HU.out.1 hsn ha hf hv hne⟩))
          clear hsn hxo hxm ho hx hoL hok hwo hls hl9 hcn hof hLw hown hBw hgl HS hkD
          go_upto_region 14 with fail
          go_wp2_with fail
          refine HLv.out.mono ?_
          rintro e9 w9 ⟨he, L9, vw9, vo9, vg9, h9⟩
          rw [he.out]
          have HE9 := Lib.hid h9
          clear he h9 HLv e0 e1 e2 e3 hk1 hk2 hk3
          go_wp2_with fail
          go_roundg (phi web (stepM web M))
          case measure => have := HPh.out; have := HU.out.2.2; omega
          case rel => exact ⟨_, _, _, _, _, HE9, Lib.hid (Nat.le_refl _)⟩
end Go.Proofs.Ytlckjpjcfalfnaa
