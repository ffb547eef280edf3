/-
  Graph: link.
-/
import Derived.Test.YtlckjpjcfalfnaaGrD
import Derived.Test.YtlckjpjcfalfnaaFd
import Derived.LaidEql
namespace Go.Proofs.Ytlckjpjcfalfnaa
open Go.RowKit Go.Sort
open Go.WideMaps
set_option linter.unusedSimpArgs false
set_option linter.unusedVariables false
set_option maxRecDepth 100000

theorem infoGr : ∃ i, Try.prog.info? 90 = some i ∧ i.size = 6 := by
  have h : (Try.prog.info? 90).map (·.size) = some 6 := by kernel_rfl
  obtain ⟨i, h1, h2⟩ := Option.map_eq_some_iff.1 h
  exact ⟨i, h1, h2⟩
theorem neqG_same (a : Nat) (w : World) : Sem.run Try.prog (binOp .neq 88 (encG a) (encG a)) w = .ok (.bool false) w := by
  obtain ⟨i, h1, h2⟩ := infoGr
  have he : ∀ d : Nat, (Op.equalIn (d + 1) 88 (encG a) (encG a)).run Try.prog w = .ok true w := fun d => by simp [Op.equalIn, run_underlying Try.underlying88, typeInfo, h1, sizeOf, h2, run_sameAddr_same]
  simp only [binOp]
  simp [Op.equal, Op.maxDepth, he 9999]
theorem neqG_other {a b : Nat} {w : World} {ca cb : List Value} {ta tb : TypeId} (hab : a ≠ b) (ha : Bk w a ta ca) (hb : Bk w b tb cb) : Sem.run Try.prog (binOp .neq 88 (encG a) (encG b)) w = .ok (.bool true) w := by
  obtain ⟨i, h1, h2⟩ := infoGr
  have hs := run_sameAddr_other (P := Try.prog) w (a := ⟨a, 0, none⟩) (b := ⟨b, 0, none⟩) (by simp [hab]) ha hb
  have he : ∀ d : Nat, (Op.equalIn (d + 1) 88 (encG a) (encG b)).run Try.prog w = .ok false w := fun d => by simp [Op.equalIn, run_underlying Try.underlying88, typeInfo, h1, sizeOf, h2, hs]
  simp only [binOp]
  simp [Op.equal, Op.maxDepth, he 9999]
theorem pk_cell {w : World} {base n c : Nat} {a : Option Addr} {l : List Nat} (h : PK.Own w base (.slice a n c) l) (j : Nat) (hj : j < l.length) : ∃ g, a = some ⟨g, 0, none⟩ ∧ g < w.heap.size ∧ n = l.length ∧ w.cell? ⟨g, j, none⟩ = some (encG (l.getD j 0)) := by
  have hn := (own_cap h).2
  obtain ⟨-, g, off, ha, hg, hc⟩ := h.rd.at (by intro e; rw [e] at hj; simp at hj)
  have ho : off = 0 := by
    rcases h.2 with ⟨h0, _⟩ | ⟨g', cap, cur, hv, _⟩
    · rw [ha] at h0; cases h0
    · simp only [Value.slice.injEq] at hv
      rw [ha] at hv
      simp at hv
      exact hv.1.2
  subst ho
  refine ⟨g, ha, hg, hn, ?_⟩
  have q := hc j (by omega) 0 _ rfl
  have e1 : (0 : Nat) + j * PK.k + 0 = j := by show 0 + j * 1 + 0 = j; omega
  rw [e1] at q
  exact q
theorem ik_cell {w : World} {base n c : Nat} {a : Option Addr} {l : List I3} (h : IK.Own w base (.slice a n c) l) (j : Nat) (hj : j < l.length) {x1 x2 x3 : Int} (hx : l[j] = (x1, x2, x3)) : ∃ g, a = some ⟨g, 0, none⟩ ∧ g < w.heap.size ∧ n = l.length ∧ w.cell? ⟨g, j * 3, none⟩ = some (.int .i64 x1) ∧ w.cell? ⟨g, j * 3 + 1, none⟩ = some (.int .i64 x2) ∧ w.cell? ⟨g, j * 3 + 2, none⟩ = some (.int .i64 x3) := by
  have hn := (own_cap h).2
  obtain ⟨-, g, off, ha, hg, hc⟩ := h.rd.at (by intro e; rw [e] at hj; simp at hj)
  have ho : off = 0 := by
    rcases h.2 with ⟨h0, _⟩ | ⟨g', cap, cur, hv, _⟩
    · rw [ha] at h0; cases h0
    · simp only [Value.slice.injEq] at hv
      rw [ha] at hv
      simp at hv
      exact hv.1.2
  subst ho
  have q := hc j (by omega)
  have eg : l.getD j IK.d = (x1, x2, x3) := by rw [getD_at hj, hx]
  have eK : IK.k = 3 := rfl
  rw [eg, eK] at q
  refine ⟨g, ha, hg, hn, ?_, ?_, ?_⟩
  · have r := q 0 _ rfl; simpa using r
  · have r := q 1 _ rfl; simpa using r
  · have r := q 2 _ rfl; simpa using r
def LkP (W0 : World) (m bw : Nat) (web : List (I3 × NV)) (L : Fin) (vw vo vg : Value) (N : Nat) (G : Nat → Gp) (vi : Nat → Value) (ids : Nat → List I3) (lst : Nat → I3) (e : Ending) (w : World) : Prop := ∃ vb, Hid (e = .returned (.tuple #[])) ∧ LkS W0 m bw web L vw vo vg N G vi vb w ∧ LkB ids lst 8000 G
set_option maxHeartbeats 8000000 in
theorem link_any {W0 w : World} {m bw : Nat} {web : List (I3 × NV)} {L : Fin} {vw vo vg : Value} {N : Nat} {G : Nat → Gp} {vi vb : Nat → Value} (h : LkS W0 m bw web L vw vo vg N G vi vb w) (ofi : List (I3 × Nat)) (hof : L.of = atG L.grp ofi) (hlt : ∀ e ∈ ofi, e.2 < N) (ids : Nat → List I3) (lst : Nat → I3) (hB : LkB ids lst 0 G) (hids : ∀ j, j < N → okL (ids j) ∧ (ids j).length ≤ 20) (hE : ∀ e ∈ web, e.2.Ok W0) (hdl : ∀ x, (stepsV web x).length ≤ 20) (hN : N ≤ 20) :
    Calls Try.prog 49 #[encG (m + 3)] w (LkP W0 m bw web L vw vo vg N ((List.range N).foldl (lkG web ofi ids) G) vi ids lst) := by
  obtain ⟨ag, cg, evg⟩ := h.fin.grp.slice
  rw [h.gs.len] at evg
  subst evg
  have HLt := Lib.hid hlt
  have HOf := Lib.hid hof
  have HIds := Lib.hid hids
  have HE := Lib.hid hE
  have HDl := Lib.hid hdl
  have HN := Lib.hid hN
  have HS0 := Lib.hid h
  have HB0 := Lib.hid hB
  have c6 := Bk.cell h.fin.bk 6
  simp only [List.getElem?_cons_zero, List.getElem?_cons_succ] at c6
  have hN63 : N ≤ 9223372036854775807 := by omega
  clear h hB hlt hof hids hE hdl hN
  go_enter Try.func49, Try.ntmps49
  go_wp2_with fail
  clear c6
  go_loopw [14] (fun i wr => ∃ (j : Nat) (G1 : Nat → Gp) (vb : Nat → Value), j ≤ N ∧ i = .int .i64 j ∧ Hid (LkS W0 m bw web L vw vo (.slice ag N cg) N G1 vi vb wr) ∧ Hid (LkB ids lst (400 * j) G1) ∧ Hid (G1 = (List.range j).foldl (lkG web ofi ids) G)) (fun i _ => N - (intOf i).toNat)
  case atStart => exact ⟨0, G, vb, Nat.zero_le _, rfl, HS0, HB0, Lib.hid rfl⟩
  case round =>
    clear HS0 HB0
    obtain ⟨j, G1, vb, hj, rfl, HS, HB, HG⟩ := hrel
    by_cases hjN : j < N
    · have hj1 : (j : Int) < (N : Int) := by omega
      have hj2 : decide ((j : Int) < (N : Int)) = true := decide_eq_true hj1
      have hj3 : decide (j < N) = true := decide_eq_true hjN
      obtain ⟨gg, rfl, hgg, -, p0⟩ := pk_cell HS.out.fin.grp j (by rw [HS.out.gs.len]; exact hjN)
      obtain ⟨gj, hgj⟩ : ∃ q, L.grp.getD j 0 = q := ⟨_, rfl⟩
      rw [hgj] at p0
      have hat := HS.out.gs.at' j hjN
      rw [hgj, HB.out.ids j] at hat
      obtain ⟨va, vc, evi⟩ := hat.ids.slice
      obtain ⟨n, hn⟩ : ∃ q, (ids j).length = q := ⟨_, rfl⟩
      rw [hn] at evi
      have k0 := Bk.cell hat.bk 0
      simp only [List.getElem?_cons_zero, List.getElem?_cons_succ] at k0
      rw [evi] at k0
      have HVi := Lib.hid evi
      have HGj := Lib.hid hgj
      have Hn := Lib.hid hn
      have hn20 : n ≤ 20 := by have := (HIds.out j hjN).2; omega
      clear hat evi hgj hn
      go_wp2_with fail
      clear p0 k0 hgg
      go_loopw [23] (fun i wr => ∃ (k : Nat) (G2 : Nat → Gp) (vb : Nat → Value), k ≤ n ∧ i = .int .i64 k ∧ Hid (LkS W0 m bw web L vw vo (.slice (some ⟨gg, 0, none⟩) N cg) N G2 vi vb wr) ∧ Hid (LkB ids lst (400 * j + 20 * k) G2) ∧ Hid (G2 = ((ids j).take k).foldl (lkX web ofi j) G1)) (fun i _ => n - (intOf i).toNat)
      case atStart => exact ⟨0, G1, vb, Nat.zero_le _, rfl, HS, HB, Lib.hid rfl⟩
      case round =>
        clear HS
        obtain ⟨k, G2, vb, hk, rfl, HS, HB2, HG2⟩ := hrel
        by_cases hkn : k < n
        · have hk1 : (k : Int) < (n : Int) := by omega
          have hk2 : decide ((k : Int) < (n : Int)) = true := decide_eq_true hk1
          have hk3 : decide (k < n) = true := decide_eq_true hkn
          have hkl : k < (ids j).length := by rw [Hn.out]; exact hkn
          obtain ⟨x, hx⟩ : ∃ x, (ids j)[k] = x := ⟨_, rfl⟩
          have hxo : okI x := by rw [← hx]; exact (HIds.out j hjN).1 _ (List.getElem_mem hkl)
          have HG2' : Hid (∀ q, lkX web ofi j G2 x = q → ((ids j).take (k + 1)).foldl (lkX web ofi j) G1 = q) := Lib.hid fun q hq => by rw [foldl_snoc_take _ _ _ _ hkl, ← HG2.out, hx]; exact hq
          obtain ⟨x1, x2, x3⟩ := x
          have hat := HS.out.gs.at' j hjN
          rw [HGj.out, HB2.out.ids j, HVi.out] at hat
          obtain ⟨gi, rfl, hgi, -, i0, i1, i2⟩ := ik_cell hat.ids k hkl hx
          obtain ⟨bx, hbx⟩ : ∃ q, wr.heap.size = q := ⟨_, rfl⟩
          obtain ⟨wf, hwf⟩ : ∃ q, wr.alloc (.cells #[.int .i64 x1, .int .i64 x2, .int .i64 x3] 25) = q := ⟨_, rfl⟩
          have hb : Below wr.heap.size wr wf := by rw [← hwf]; exact (Below.refl _ _).alloc (Nat.le_refl _) _
          have HXf : Hid (Bk wf bx 25 [.int .i64 x1, .int .i64 x2, .int .i64 x3]) := Lib.hid (by rw [← hwf]; exact Bk.newAg hbx _ [.int .i64 x1, .int .i64 x2, .int .i64 x3])
          have HSf := Lib.hid (HS.out.below hb)
          have HXo := Lib.hid hxo
          clear hb HS hat hkl hx hxo HG2 hgi
          go_upto_region 6 with fail
          try rw [hwf]
          try rw [hbx]
          clear hwf hbx i0 i1 i2 hk1 hk2 hk3
          have b0 := Bk.cell HSf.out.fin.bk 0
          have r0 := Bk.cell HXf.out 0
          have r1 := Bk.cell HXf.out 1
          have r2 := Bk.cell HXf.out 2
          simp only [List.getElem?_cons_zero, List.getElem?_cons_succ] at b0 r0 r1 r2
          have hstep : stepsV web (x1, x2, x3) = (ndOf web (x1, x2, x3)).d.dl := rfl
          have hok := ndOf_ok HE.out (x1, x2, x3)
          have hd20 := HDl.out (x1, x2, x3)
          obtain ⟨nn, hnn⟩ : ∃ n, ndOf web (x1, x2, x3) = n := ⟨_, rfl⟩
          rw [hnn] at hok hstep
          obtain ⟨⟨⟨j1, j2, j3⟩, sq, dl⟩, na, nc⟩ := nn
          obtain ⟨D, hD⟩ : ∃ D, dl.length = D := ⟨_, rfl⟩
          have hnd : ndV (ndOf web (x1, x2, x3)) = .agg #[.int .i64 j1, .int .i64 j2, .int .i64 j3, .int .i64 sq, .slice na D nc] := by rw [hnn]; simp only [ndV, hD]
          have lk := HSf.out.fin.web.ndF x1 x2 x3 HXo.out hnd
          have lkn := fun n => (HSf.out.fin.web.below (below_drewNA (Below.refl _ _) n)).ndF x1 x2 x3 HXo.out hnd
          have hf1 := field_n1 j1 j2 j3 sq (.slice na D nc)
          have hf2 := field_a1 sq (.slice na D nc)
          simp only at hstep
          rw [hstep, hD] at hd20
          have HDe := Lib.hid hD
          have HSt := Lib.hid hstep
          have HRd : Hid (IK.Rd W0 (.slice na D nc) dl) := Lib.hid (by have q := hok.2.2; simp only at q; rwa [hD] at q)
          have HDo : Hid (okL dl) := Lib.hid hok.2.1
          have hD63 : D ≤ 9223372036854775807 := by omega
          clear hstep hok hnn hnd hD
          go_quiet (fail)
          generalize hwy : World.drewN _ _ = wy
          have hby : Below wf.heap.size wf wy := by rw [← hwy]; exact below_drewNA (Below.refl _ _) _
          have HSy := Lib.hid (HSf.out.below hby)
          clear hwy hby HSf HXf lk lkn hf1 hf2 b0 r0 r1 r2
          go_wp2_with fail
          go_loopw [37] (fun i wr => ∃ (d : Nat) (G3 : Nat → Gp) (vb : Nat → Value), d ≤ D ∧ i = .int .i64 d ∧ Hid (LkS W0 m bw web L vw vo (.slice (some ⟨gg, 0, none⟩) N cg) N G3 vi vb wr) ∧ Hid (LkB ids lst (400 * j + 20 * k + d) G3) ∧ Hid (G3 = (dl.take d).foldl (lkD ofi j) G2)) (fun i _ => D - (intOf i).toNat)
          case atStart => exact ⟨0, G2, vb, Nat.zero_le _, rfl, HSy, HB2, Lib.hid rfl⟩
          case round =>
            clear HSy
            obtain ⟨d, G3, vb, hd, rfl, HS, HB3, HG3⟩ := hrel
            by_cases hdD : d < D
            · have hk1 : (d : Int) < (D : Int) := by omega
              have hk2 : decide ((d : Int) < (D : Int)) = true := decide_eq_true hk1
              have hk3 : decide (d < D) = true := decide_eq_true hdD
              have hkl : d < dl.length := by rw [HDe.out]; exact hdD
              obtain ⟨-, gd, od, hna, hgd, hcd⟩ := HRd.out.at (by intro e; rw [e] at hkl; simp at hkl)
              subst hna
              have eK : IK.k = 3 := rfl
              have hc := hcd d hdD
              have eg : dl.getD d IK.d = dl[d] := by simp [List.getD, hkl]
              rw [eg, eK] at hc
              have hoe := HDo.out _ (List.getElem_mem hkl)
              obtain ⟨ee, hee⟩ : ∃ x, dl[d] = x := ⟨_, rfl⟩
              have HG3' : Hid (∀ q, lkD ofi j G3 ee = q → (dl.take (d + 1)).foldl (lkD ofi j) G2 = q) := Lib.hid fun q hq => by rw [foldl_snoc_take _ _ _ _ hkl, ← HG3.out, hee]; exact hq
              rw [hee] at hc hoe
              obtain ⟨d1, d2, d3⟩ := ee
              have q0 : wr.cell? ⟨gd, od + d * 3, none⟩ = some (.int .i64 d1) := (HS.out.bel.cell (p := ⟨gd, od + d * 3, none⟩) hgd).trans (hc 0 _ rfl)
              have q1 : wr.cell? ⟨gd, od + d * 3 + 1, none⟩ = some (.int .i64 d2) := (HS.out.bel.cell (p := ⟨gd, od + d * 3 + 1, none⟩) hgd).trans (hc 1 _ rfl)
              have q2 : wr.cell? ⟨gd, od + d * 3 + 2, none⟩ = some (.int .i64 d3) := (HS.out.bel.cell (p := ⟨gd, od + d * 3 + 2, none⟩) hgd).trans (hc 2 _ rfl)
              have HOe := Lib.hid hoe
              obtain ⟨bd, hbd⟩ : ∃ q, wr.heap.size = q := ⟨_, rfl⟩
              obtain ⟨wg, hwg⟩ : ∃ q, wr.alloc (.cells #[.int .i64 d1, .int .i64 d2, .int .i64 d3] 25) = q := ⟨_, rfl⟩
              have hb : Below wr.heap.size wr wg := by rw [← hwg]; exact (Below.refl _ _).alloc (Nat.le_refl _) _
              have HDg : Hid (Bk wg bd 25 [.int .i64 d1, .int .i64 d2, .int .i64 d3]) := Lib.hid (by rw [← hwg]; exact Bk.newAg hbd _ [.int .i64 d1, .int .i64 d2, .int .i64 d3])
              have HSg := Lib.hid (HS.out.below hb)
              clear hcd hc eK eg hoe hee hkl hb HS HG3 hgd
              go_upto_region 9 with fail
              try rw [hwg]
              try rw [hbd]
              clear hwg hbd q0 q1 q2 hk1 hk2 hk3
              have c5 := Bk.cell HSg.out.fin.bk 5
              have r0 := Bk.cell HDg.out 0
              have r1 := Bk.cell HDg.out 1
              have r2 := Bk.cell HDg.out 2
              simp only [List.getElem?_cons_zero, List.getElem?_cons_succ] at c5 r0 r1 r2
              have hof : getV L.of (d1, d2, d3) = (getV ofi (d1, d2, d3)).map fun i => L.grp.getD i 0 := by rw [HOf.out, atG_get]
              cases hq : getV ofi (d1, d2, d3) with
              | none =>
                have hlp : look_p (getV L.of (d1, d2, d3)) = .pointer none := by rw [hof, hq]; rfl
                have lk1 := HSg.out.fin.of.gpF d1 d2 d3 HOe.out hlp
                have lk1n := fun n => (HSg.out.fin.of.below (below_drewNA (Below.refl _ _) n)).gpF d1 d2 d3 HOe.out hlp
                have HR : Hid ((dl.take (d + 1)).foldl (lkD ofi j) G2 = G3) := Lib.hid (HG3'.out _ (by unfold lkD; rw [hq]))
                clear hlp hof hq HG3'
                go_quiet (fail)
                generalize hwu : World.drewN _ _ = wu
                have hbu : Below wg.heap.size wg wu := by rw [← hwu]; exact below_drewNA (Below.refl _ _) _
                have HSu := Lib.hid (HSg.out.below hbu)
                clear hwu hbu HSg HDg lk1 lk1n c5 r0 r1 r2
                go_wp2_with fail
                go_roundw
                case rel => exact ⟨d + 1, G3, vb, by omega, by go_num, HSu, Lib.hid (HB3.out.more (by omega)), Lib.hid HR.out.symm⟩
                case measure => simp [intOf]; omega
              | some i =>
                have hiN : i < N := by
                  have q := hq
                  unfold getV at q
                  rw [Option.map_eq_some_iff] at q
                  obtain ⟨e, h1, h2⟩ := q
                  rw [← h2]
                  exact HLt.out e (List.mem_of_find?_eq_some h1)
                obtain ⟨gi2, hgi2⟩ : ∃ q, L.grp.getD i 0 = q := ⟨_, rfl⟩
                have hlp : look_p (getV L.of (d1, d2, d3)) = encG gi2 := by rw [hof, hq, ← hgi2]; rfl
                have lk1 := HSg.out.fin.of.gpF d1 d2 d3 HOe.out hlp
                have lk1n := fun n => (HSg.out.fin.of.below (below_drewNA (Below.refl _ _) n)).gpF d1 d2 d3 HOe.out hlp
                have HR : Hid ((dl.take (d + 1)).foldl (lkD ofi j) G2 = if i = j then G3 else upG (upG G3 i { G3 i with bh := (G3 i).bh ++ [j] }) j { upG G3 i { G3 i with bh := (G3 i).bh ++ [j] } j with wt := (upG G3 i { G3 i with bh := (G3 i).bh ++ [j] } j).wt + 1 }) := Lib.hid (HG3'.out _ (by unfold lkD; rw [hq]))
                have HGi := Lib.hid hgi2
                clear hlp hof hq HG3' hgi2
                go_quiet (fail)
                generalize hwu : World.drewN _ _ = wu
                have hbu : Below wg.heap.size wg wu := by rw [← hwu]; exact below_drewNA (Below.refl _ _) _
                have HSu := Lib.hid (HSg.out.below hbu)
                clear hwu hbu HSg HDg lk1 lk1n c5 r0 r1 r2
                by_cases hij : i = j
                · subst hij
                  obtain rfl : gi2 = gj := HGi.out.symm.trans HGj.out
                  have hne := neqG_same gi2 wu
                  go_wp2_with fail
                  clear hne
                  go_roundw
                  case rel => exact ⟨d + 1, G3, vb, by omega, by go_num, HSu, Lib.hid (HB3.out.more (by omega)), Lib.hid (by rw [HR.out, if_pos rfl])⟩
                  case measure => simp [intOf]; omega
                · have hGij : gi2 ≠ gj := fun q => hij (getD_inj HSu.out.gs.nodup (by rw [HSu.out.gs.len]; exact hiN) (by rw [HSu.out.gs.len]; exact hjN) (by rw [HGi.out, HGj.out]; exact q))
                  have hati := HSu.out.gs.at' i hiN
                  have hatj := HSu.out.gs.at' j hjN
                  rw [HGi.out] at hati
                  rw [HGj.out] at hatj
                  have hne := neqG_other hGij hati.bk hatj.bk
                  obtain ⟨ab, cb, evb⟩ := hati.bh.slice
                  obtain ⟨Nb, hNb⟩ : ∃ q, ((G3 i).bh.map fun i => L.grp.getD i 0).length = q := ⟨_, rfl⟩
                  rw [hNb] at evb
                  have k5 := Bk.cell hati.bk 5
                  simp only [List.getElem?_cons_zero, List.getElem?_cons_succ] at k5
                  rw [evb] at k5
                  have HOb := hati.bh
                  rw [evb] at HOb
                  have HOwn := Lib.hid HOb
                  have HBki := Lib.hid hati.bk
                  have HBhl : Hid (((G3 i).bh.map fun i => L.grp.getD i 0).length + 1 ≤ 1000000) := Lib.hid (by have := HB3.out.bh i; have := HN.out; rw [List.length_map]; omega)
                  have HVb := Lib.hid evb
                  have HR2 : Hid ((dl.take (d + 1)).foldl (lkD ofi j) G2 = upG (upG G3 i { G3 i with bh := (G3 i).bh ++ [j] }) j { upG G3 i { G3 i with bh := (G3 i).bh ++ [j] } j with wt := (upG G3 i { G3 i with bh := (G3 i).bh ++ [j] } j).wt + 1 }) := Lib.hid (by rw [HR.out, if_neg hij])
                  have HBs := Lib.hid (HB3.out.step i j)
                  obtain ⟨ba, hba⟩ : ∃ q, wu.heap.size = q := ⟨_, rfl⟩
                  obtain ⟨wa, hwa⟩ : ∃ q, wu.alloc (.cells #[.pointer (some ⟨gj, 0, none⟩)] 88) = q := ⟨_, rfl⟩
                  have hba2 : Below wu.heap.size wu wa := by rw [← hwa]; exact (Below.refl _ _).alloc (Nat.le_refl _) _
                  have HSa := Lib.hid (HSu.out.below hba2)
                  have HRa : Hid (PK.Rd wa (.slice (some ⟨ba, 0, none⟩) 1 1) [gj]) := Lib.hid (by rw [← hwa]; exact PK.rd_boxAt gj _ 1 wu ba hba)
                  have HOa := Lib.hid (HOwn.out.below hba2)
                  have HBa := Lib.hid (Bk.below HBki.out hba2)
                  clear hati hatj evb hNb HOb hba2 HR HSu HOwn HBki hij hGij
                  go_upto_region 11 with fail
                  clear hne
                  go_upto_region 12 with (first
                    | (refine PK.app2 (by kernel_rfl) (.tmp 58) (.tmp 60) rfl (m + 4) (.slice ab Nb cb) _ rfl HOa.out ba 1 [gj] rfl HRa.out (by simp) (by have := HBhl.out; simpa using this) HSa.out.sz ?_; intro v7 w7 ho7 hb7 hg7 hn7; have hf7 : Fr (fun k => (Value.slice ab Nb cb).ownBlock = some k) wa w7 := (Fr.grown hg7).mono (fun j _ q => q.symm); have hbk7 := hf7.bk HBa.out (row_far0 HOa.out HBa.out (by decide)); have e7 := Bk.cell hbk7 5; have f7 := hbk7.fz 5; have l7 := hbk7.lt; simp only [List.getElem?_cons_zero, List.getElem?_cons_succ] at e7; have HS7 := Lib.hid (LkS.app (x := j) HSa.out hiN (by rw [HGj.out]; exact ho7) (by rw [HVb.out]; exact hf7) (by rw [HVb.out]; exact hn7)); obtain ⟨a7, c7, hv7⟩ := ho7.slice; obtain ⟨T7, hT7⟩ : ∃ n, ((G3 i).bh.map (fun i => L.grp.getD i 0) ++ [gj]).length = n := ⟨_, rfl⟩; rw [hT7] at hv7; subst hv7; clear ho7 hb7 hg7 hn7 hf7 hT7 hbk7 hwa hba)
                    | fail)
                  clear k5
                  obtain ⟨w8, hw8⟩ : ∃ q, w7.setCell ⟨gi2, 5, none⟩ (.slice a7 T7 c7) = q := ⟨_, rfl⟩
                  have HS8 : Hid (LkS W0 m bw web L vw vo (.slice (some ⟨gg, 0, none⟩) N cg) N (upG G3 i { G3 i with bh := (G3 i).bh ++ [j] }) vi (upG vb i (.slice a7 T7 c7)) w8) := Lib.hid (by have q := HS7.out; rw [HGi.out, hw8] at q; exact q)
                  try rw [hw8]
                  clear hw8 HS7 HSa HRa HOa HBa e7 f7 l7 HVb HBhl
                  obtain ⟨G4, hG4⟩ : ∃ q, upG G3 i { G3 i with bh := (G3 i).bh ++ [j] } = q := ⟨_, rfl⟩
                  rw [hG4] at HS8 HR2 HBs
                  obtain ⟨wt, hwt⟩ : ∃ q, (G4 j).wt = q := ⟨_, rfl⟩
                  rw [hwt] at HR2 HBs
                  have hatj := HS8.out.gs.at' j hjN
                  rw [HGj.out, hwt] at hatj
                  have hwl : wt ≤ 8000 := by have q1 := HBs.out.wt j; have := HN.out; rw [upG_same] at q1; simp only at q1; omega
                  have hadd : IntKind.i64.wrap ((wt : Int) + 1) = ((wt + 1 : Nat) : Int) := by rw [IntKind.wrap_i64]; omega
                  have hadd2 : wrap64 ((wt : Int) + 1) = ((wt + 1 : Nat) : Int) := by unfold wrap64; omega
                  have k4 := Bk.cell hatj.bk 4
                  simp only [List.getElem?_cons_zero, List.getElem?_cons_succ] at k4
                  have f4 := hatj.bk.fz 4
                  have l4 := hatj.bk.lt
                  obtain ⟨wt1, hw1⟩ : ∃ q, wt + 1 = q := ⟨_, rfl⟩
                  rw [hw1] at hadd hadd2 HR2 HBs
                  have HSw : Hid (LkS W0 m bw web L vw vo (.slice (some ⟨gg, 0, none⟩) N cg) N (upG G4 j { G4 j with wt := wt1 }) vi (upG vb i (.slice a7 T7 c7)) (w8.setCell ⟨gj, 4, none⟩ (.int .i64 (wt1 : Int)))) := Lib.hid (by have q := HS8.out.wait (n := wt1) hjN; rwa [HGj.out] at q)
                  clear hG4 hwt hatj hwl hw1
                  go_wp2_with fail
                  go_roundw
                  case rel => exact ⟨d + 1, _, _, by omega, by go_num, HSw, Lib.hid (HBs.out.more (by omega)), Lib.hid HR2.out.symm⟩
                  case measure => simp [intOf]; omega
            · obtain rfl : d = D := by omega
              have hk2 : decide ((d : Int) < (d : Int)) = false := decide_eq_false (by omega)
              have hk3 : decide (d < d) = false := decide_eq_false (by omega)
              have HR : Hid (G3 = ((ids j).take (k + 1)).foldl (lkX web ofi j) G1) := Lib.hid (by
                rw [HG3.out, List.take_of_length_le (by rw [HDe.out]; exact Nat.le_refl _)]
                exact (HG2'.out _ (by unfold lkX; rw [HSt.out])).symm)
              go_wp2_with fail
              go_roundw
              case rel => exact ⟨k + 1, G3, vb, by omega, by go_num, HS, Lib.hid (HB3.out.more (by omega)), HR⟩
              case measure => simp [intOf]; omega
        · obtain rfl : k = n := by omega
          have hk2 : decide ((k : Int) < (k : Int)) = false := decide_eq_false (by omega)
          have hk3 : decide (k < k) = false := decide_eq_false (by omega)
          have HR : Hid (G2 = (List.range (j + 1)).foldl (lkG web ofi ids) G) := Lib.hid (by
            rw [HG2.out, List.take_of_length_le (by rw [Hn.out]; exact Nat.le_refl _), List.range_succ, List.foldl_append, ← HG.out]
            rfl)
          go_wp2_with fail
          go_roundw
          case rel => exact ⟨j + 1, G2, vb, by omega, by go_num, HS, Lib.hid (HB2.out.more (by omega)), HR⟩
          case measure => simp [intOf]; omega
    · obtain rfl : j = N := by omega
      have hk2 : decide ((j : Int) < (j : Int)) = false := decide_eq_false (by omega)
      have hk3 : decide (j < j) = false := decide_eq_false (by omega)
      go_wp2
      go_end0
      exact ⟨vb, Lib.hid rfl, by rw [← HG.out]; exact HS.out, by rw [← HG.out]; exact HB.out.more (by have := HN.out; omega)⟩
end Go.Proofs.Ytlckjpjcfalfnaa
