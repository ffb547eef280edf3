/-
  Graph: Order.
-/
import Derived.Test.YtlckjpjcfalfnaaIo
import Derived.Test.YtlckjpjcfalfnaaGrD
namespace Go.Proofs.Ytlckjpjcfalfnaa
open Go.RowKit Go.Sort
open Go.WideMaps
set_option linter.unusedSimpArgs false
set_option linter.unusedVariables false
set_option maxRecDepth 100000

theorem mem_sortL (web : List (I3 × NV)) (l : List I3) (x : I3) : x ∈ sortL web l ↔ x ∈ l := by unfold sortL; exact List.mem_mergeSort
theorem len_sortL (web : List (I3 × NV)) (l : List I3) : (sortL web l).length = l.length := by unfold sortL; exact List.length_mergeSort l
/-- Between two finds. -/
structure OrS (W0 : World) (m bw : Nat) (web : List (I3 × NV)) (L : Fin) (M : FM) (vw vo vg : Value) (w : World) : Prop where
  at' : FinAt w m bw web L vw vo vg
  rel : FRel L M
  inv : FI web M
  cnt : FC M
  gs : GsN w (m + 4) vo L.grp web M.gs
  way : M.way = []
  lo : W0.heap.size ≤ m
  sz : m + 4 ≤ w.heap.size
  bel : Below W0.heap.size W0 w
theorem OrS.below {W0 w w' : World} {m bw : Nat} {web : List (I3 × NV)} {L : Fin} {M : FM} {vw vo vg : Value} (h : OrS W0 m bw web L M vw vo vg w) (hb : Below w.heap.size w w') : OrS W0 m bw web L M vw vo vg w' := by
  have hf : Fr (fun _ => False) w w' := ⟨hb.os, hb.tape, hb.output, hb.size, fun k hk _ => hb.block k hk⟩
  exact ⟨h.at'.below hb, h.rel, h.inv, h.cnt, h.gs.keep hf h.at'.way h.at'.opn h.at'.grp (fun k _ q => q.elim) (Next.refl _ _), h.way, h.lo, Nat.le_trans h.sz hb.size, h.bel.trans (hb.mono h.bel.size)⟩
def OrdP (nv : List NV) (dn : List I3) (w : World) (e : Ending) (w' : World) : Prop := ∃ v cur os, Hid (e = .returned v) ∧ RdyIs (webL nv) cur dn ∧ (keysV cur).Nodup ∧ OrdIs cur os ∧ RowsAt w' v os ∧ Below w.heap.size w w'
def OrdP2 (nv : List NV) (dn : List I3) (w : World) (e : Ending) (w' : World) : Prop := ∃ v cur os, Hid (e = .returned v) ∧ RdyIs (webL nv) cur dn ∧ (keysV cur).Nodup ∧ OrdIs cur os ∧ RowsAt w' v os ∧ Below w.heap.size w w' ∧ CapOf v os.length
set_option maxHeartbeats 8000000 in
theorem gorder_any2 {w : World} {v vd : Value} {nv : List NV} {dn : List I3} (h : NRow w v nv) (hl : nv.length < 20) (hv : (nv.map (·.d.id)).Nodup) (hd : IK.Rd w vd dn) (ho : okL dn) (hdl : dn.length ≤ 900) (U : List I3) (hU : ∀ n ∈ nv, (∀ y ∈ n.d.dl, y ∈ U) ∧ n.d.dl.length ≤ 20) (hUl : U.length ≤ 900) :
    Calls Try.prog 13 #[v, vd] w (OrdP2 nv dn w) := by
  have HVal := Lib.hid (gvalid_any h (by omega))
  rw [decide_eq_true (⟨by omega, hv⟩ : nv.length ≤ 1024 ∧ (nv.map (·.d.id)).Nodup)] at HVal
  have HR := Lib.hid h
  have HD := Lib.hid hd
  have HDo := Lib.hid ho
  have HDl := Lib.hid hdl
  have HU := Lib.hid hU
  have HUl := Lib.hid hUl
  have HL := Lib.hid hl
  obtain ⟨a, c, hvv, _, _⟩ := h.el
  obtain ⟨a2, c2, hvd⟩ := hd.slice
  subst hvv
  subst hvd
  have hmm := @run_makeMap Try.prog
  clear h hd ho hdl hU hUl hv
  go_enter Try.func13, Try.ntmps13
  go_wp2_with fail
  refine HVal.out.mono ?_
  rintro e w1 ⟨rfl, hb⟩
  have HB1 := Lib.hid hb
  have HW := Lib.hid (webOf_any (w := w1) (HR.out.below HB1.out) (by have := HL.out; omega))
  clear hb HVal
  go_wp2_with fail
  refine HW.out.mono ?_
  rintro e w2 ⟨b, he, hm, hbz, hb⟩
  rw [he.out]
  have HB2 := Lib.hid (HB1.out.trans (hb.mono HB1.out.size))
  have HRy := Lib.hid (ready_any (w := w2) hm (fun e he => (HR.out.ok _ (webL_mem nv e he).1).below HB2.out) (HD.out.below HB2.out) HDo.out HDl.out (by have := webL_len nv; have := HL.out; omega) U (webL_small (fun n hn => ⟨(HU.out n hn).1, by have := (HU.out n hn).2; omega⟩)) HUl.out)
  clear hm hbz hb HB1 HW he
  go_wp2_with fail
  refine HRy.out.mono ?_
  rintro e w3 ⟨bw, cur, he, hm, hri, hbz, hb⟩
  rw [he.out]
  have HB3 := Lib.hid (HB2.out.trans (hb.mono HB2.out.size))
  have HRi := Lib.hid hri
  have HNd := Lib.hid hm.nodup
  have HCl : Hid (cur.length < 20) := Lib.hid (by have := hri.len hm.nodup; have := webL_len nv; have := HL.out; omega)
  have hok3 : ∀ e ∈ cur, e.2.Ok w := fun e he => by
    have q := (getV_some hm.nodup (x := e.1) (v := e.2)).2 he
    exact HR.out.ok _ (webL_mem nv _ ((getV_some (webL_nodup nv)).1 (hri.sub _ _ q).1)).1
  have hst3 : ∀ x, (stepsV cur x).length ≤ 20 := fun x => by
    unfold stepsV ndOf
    cases q : getV cur x with
    | none => exact Nat.zero_le _
    | some n => exact (HU.out n (webL_mem nv _ ((getV_some (webL_nodup nv)).1 (hri.sub _ _ q).1)).1).2
  have hkey : okL (keysV cur) := fun x hx => by
    obtain ⟨n, q⟩ := mem_keys.1 hx
    have q3 := webL_mem nv _ ((getV_some (webL_nodup nv)).1 (hri.sub _ _ q).1)
    rw [show x = n.d.id from q3.2]
    exact (HR.out.ok _ q3.1).1
  have HOk3 := Lib.hid hok3
  have HSt3 := Lib.hid hst3
  have HKey := Lib.hid hkey
  obtain ⟨m, hmz⟩ : ∃ q, w3.heap.size = q := ⟨_, rfl⟩
  obtain ⟨X, hX⟩ : ∃ X, (((w3.alloc (.map #[] 0)).alloc (.map #[] 0)).alloc (.map #[] 0)).alloc (.cells #[.map (some bw), .map (some m), .map (some (m + 1)), .slice none 0 0, .slice none 0 0, .map (some (m + 2)), .slice none 0 0] 63) = X := ⟨_, rfl⟩
  have hbX : Below w3.heap.size w3 X := by rw [← hX]; exact ((((Below.refl _ _).alloc (Nat.le_refl _) _).alloc (by simp) _).alloc (by simp <;> omega) _).alloc (by simp <;> omega) _
  have hfin : FinAt X m bw cur ⟨[], [], [], [], [], []⟩ (.slice none 0 0) (.slice none 0 0) (.slice none 0 0) := by
    have q1 : MV encN (w3.alloc (.map #[] 0)) m ([] : List (I3 × Nat)) := by have q := MV.made encN w3; rwa [hmz] at q
    have q2 : MV encN ((w3.alloc (.map #[] 0)).alloc (.map #[] 0)) (m + 1) ([] : List (I3 × Nat)) := by have q := MV.made encN (w3.alloc (.map #[] 0)); rwa [World.size_alloc, hmz] at q
    have q3 : MV encG (((w3.alloc (.map #[] 0)).alloc (.map #[] 0)).alloc (.map #[] 0)) (m + 2) ([] : List (I3 × Nat)) := by have q := MV.made encG ((w3.alloc (.map #[] 0)).alloc (.map #[] 0)); rwa [World.size_alloc, World.size_alloc, hmz] at q
    have al : ∀ (W : World) (o : Obj), Below W.heap.size W (W.alloc o) := fun W o => (Below.refl _ _).alloc (Nat.le_refl _) _
    rw [← hX]
    refine ⟨Bk.newAg (by simp [hmz]) _ [.map (some bw), .map (some m), .map (some (m + 1)), .slice none 0 0, .slice none 0 0, .map (some (m + 2)), .slice none 0 0], ?_, ?_, ((q1.below (al _ _)).below (al _ _)).below (al _ _), (q2.below (al _ _)).below (al _ _), q3.below (al _ _), Knd.Own.nil _ _, Knd.Own.nil _ _, Knd.Own.nil _ _⟩
    · have := hm.lt; omega
    · rw [hX]; exact hm.below hbX
  have HS0 : Hid (OrS w m bw cur ⟨[], [], [], [], [], []⟩ ⟨[], [], [], [], [], []⟩ (.slice none 0 0) (.slice none 0 0) (.slice none 0 0) X) := Lib.hid ⟨hfin, ⟨rfl, rfl, rfl, rfl, rfl, rfl, (fun e he => by cases he)⟩, FI.start cur, Nat.le_refl _, GsN.nil _ _ _ _, rfl, by rw [← hmz]; exact HB3.out.size, by rw [← hX]; simp [hmz], HB3.out.trans (hbX.mono HB3.out.size)⟩
  have HRn := Lib.hid (risenN_any (hm.below hbX) (by have := HCl.out; omega))
  have hfw := field_web bw
  have b0 : X.cell? ⟨m + 1 + 1 + 1, 0, none⟩ = some (.map (some bw)) := hfin.bk.cell 0
  have HX : Hid ((((w3.alloc (.map #[] 0)).alloc (.map #[] 0)).alloc (.map #[] 0)).alloc (.cells #[.map (some bw), .map (some m), .map (some (m + 1)), .slice none 0 0, .slice none 0 0, .map (some (m + 1 + 1)), .slice none 0 0] 63) = X) := Lib.hid hX
  clear hri hbz hb HB2 HRy he hok3 hst3 hkey hfin hbX hm hX
  go_upto_region 4 with fail
  rw [HX.out]
  clear HX hmz
  go_wp2_with fail
  refine HRn.out.mono ?_
  rintro e w4 ⟨v4, he, ho4, hb⟩
  rw [he]
  have HS4 := Lib.hid (HS0.out.below hb)
  obtain ⟨ids, hids⟩ : ∃ q, clnI (keysV cur) = q := ⟨_, rfl⟩
  rw [hids] at ho4
  have HO4 := Lib.hid (ho4.base HS0.out.sz)
  have HIk : Hid (∀ x ∈ ids, x ∈ keysV cur) := Lib.hid fun x hx => by rw [← hids] at hx; exact (mem_clnI _ _).1 hx
  have HIds := Lib.hid hids
  obtain ⟨a4, c4, ev4⟩ := ho4.slice
  obtain ⟨N, hN⟩ : ∃ q, ids.length = q := ⟨_, rfl⟩
  rw [hN] at ev4
  subst ev4
  have HNl := Lib.hid hN
  have hN63 : N ≤ 9223372036854775807 := by
    have q := len_clnI (keysV cur)
    rw [hids, hN] at q
    have q2 := HCl.out
    simp only [keysV, List.length_map] at q
    omega
  clear he ho4 hb HS0 HRn b0 hids hN
  go_wp2_with fail
  clear hfw hmm
  go_loopw [24] (fun i wr => ∃ (k : Nat) (L : Fin) (M : FM) (vw vo vg : Value), k ≤ N ∧ i = .int .i64 k ∧ Hid (OrS w m bw cur L M vw vo vg wr) ∧ Hid (FdR cur (ids.take k) M) ∧ Hid (IK.Own wr (m + 4) (.slice a4 N c4) ids) ∧ Hid (∀ q, (Value.slice a4 N c4).ownBlock = some q → vo.ownBlock ≠ some q)) (fun i _ => N - (intOf i).toNat)
  case atStart => exact ⟨0, _, _, _, _, _, Nat.zero_le _, rfl, HS4, Lib.hid .nil, HO4, Lib.hid (fun _ _ q => (by cases q))⟩
  case round =>
    clear HS4 HO4
    obtain ⟨k, L, M, vw, vo, vg, hk, rfl, HS, HF, HO, HV⟩ := hrel
    by_cases hkn : k < N
    · have hk1 : (k : Int) < (N : Int) := by omega
      have hk2 : decide ((k : Int) < (N : Int)) = true := decide_eq_true hk1
      have hk3 : decide (k < N) = true := decide_eq_true hkn
      have hkl : k < ids.length := by rw [HNl.out]; exact hkn
      obtain ⟨x, hx⟩ : ∃ x, ids[k] = x := ⟨_, rfl⟩
      have hxk : x ∈ keysV cur := HIk.out x (by rw [← hx]; exact List.getElem_mem hkl)
      have hxo : okI x := HKey.out x hxk
      have htk : ids.take (k + 1) = ids.take k ++ [x] := by rw [List.take_succ_eq_append_getElem hkl, hx]
      obtain ⟨x1, x2, x3⟩ := x
      obtain ⟨gi, rfl, hgi, -, i0, i1, i2⟩ := ik_cell HO.out k hkl hx
      obtain ⟨bx, hbx⟩ : ∃ q, wr.heap.size = q := ⟨_, rfl⟩
      obtain ⟨wf, hwf⟩ : ∃ q, wr.alloc (.cells #[.int .i64 x1, .int .i64 x2, .int .i64 x3] 25) = q := ⟨_, rfl⟩
      have hb : Below wr.heap.size wr wf := by rw [← hwf]; exact (Below.refl _ _).alloc (Nat.le_refl _) _
      have HXf : Hid (Bk wf bx 25 [.int .i64 x1, .int .i64 x2, .int .i64 x3]) := Lib.hid (by rw [← hwf]; exact Bk.newAg hbx _ [.int .i64 x1, .int .i64 x2, .int .i64 x3])
      have HSf := Lib.hid (HS.out.below hb)
      have HOf := Lib.hid (HO.out.below hb)
      have HXo := Lib.hid hxo
      have HXk := Lib.hid hxk
      have HTk := Lib.hid htk
      clear hb HS HO hkl hx hxo hxk htk hgi
      go_upto_region 7 with fail
      try rw [hwf]
      try rw [hbx]
      clear hwf hbx i0 i1 i2 hk1 hk2 hk3
      have c1 : wf.cell? ⟨m + 1 + 1 + 1, 1, none⟩ = some (.map (some m)) := HSf.out.at'.bk.cell 1
      have r0 := Bk.cell HXf.out 0
      have r1 := Bk.cell HXf.out 1
      have r2 := Bk.cell HXf.out 2
      simp only [List.getElem?_cons_zero, List.getElem?_cons_succ] at r0 r1 r2
      obtain ⟨A, hA⟩ : ∃ q, numOf M.met (x1, x2, x3) = q := ⟨_, rfl⟩
      have hA' : numOf L.met (x1, x2, x3) = A := by rw [HSf.out.rel.met]; exact hA
      have lk1 := HSf.out.at'.met.num x1 x2 x3 HXo.out hA'
      have HA := Lib.hid hA
      clear hA hA'
      by_cases hA0 : A = 0
      · have hAi : (A : Int) = 0 := by omega
        have hAd : decide ((A : Int) = 0) = true := decide_eq_true hAi
        have h0 : numOf M.met (x1, x2, x3) = 0 := HA.out.trans hA0
        have HFd : Hid (Calls Try.prog 31 #[.pointer (some ⟨m + 1 + 1 + 1, 0, none⟩), .agg #[.int .i64 x1, .int .i64 x2, .int .i64 x3]] wf (FdP w m bw cur (enM M (x1, x2, x3)) vw vo vg wf)) := Lib.hid (find_any HSf.out.at' HSf.out.rel HSf.out.inv HSf.out.cnt HSf.out.gs HSf.out.way HOk3.out HKey.out HNd.out HCl.out HSf.out.lo HSf.out.bel x1 x2 x3 HXk.out (fun r => HSf.out.inv.pos _ r h0) HSf.out.sz)
        have H0 := Lib.hid h0
        clear hA0 h0
        go_upto_region 8 with fail
        clear c1 lk1 hAi hAd
        go_wp2_with fail
        refine HFd.out.mono ?_
        rintro e w5 ⟨L5, M5, vw5, vo5, vg5, he, hS5, hw5⟩
        rw [he.out]
        have HS5 : Hid (OrS w m bw cur L5 M5 vw5 vo5 vg5 w5) := Lib.hid ⟨hS5.at', hS5.rel, hS5.inv, hS5.cnt, hS5.gs, hw5, hS5.lo, hS5.sz, hS5.bel⟩
        have HO5 : Hid (IK.Own w5 (m + 4) (.slice (some ⟨gi, 0, none⟩) N c4) ids) := Lib.hid (hS5.fr.own HOf.out (fun q hq r => by
          have h4 := HOf.out.from q hq
          rcases r with r | r | r | r
          · omega
          · exact row_far HOf.out HSf.out.at'.way (by decide) q hq r
          · exact HV.out q hq r
          · exact row_far HOf.out HSf.out.at'.grp (by decide) q hq r))
        have HV5 : Hid (∀ q, (Value.slice (some ⟨gi, 0, none⟩) N c4).ownBlock = some q → vo5.ownBlock ≠ some q) := Lib.hid fun q hq r => by
          rcases hS5.no q r with a | a
          · exact HV.out q hq a
          · have := (HOf.out.blk q hq).1
            omega
        have HF5 : Hid (FdR cur (ids.take (k + 1)) M5) := Lib.hid (by
          obtain ⟨i, hi⟩ := hS5.run
          rw [HTk.out]
          exact .go i HF.out H0.out hi hw5)
        clear he hS5 hw5 HFd HSf HOf HV HF HXf r0 r1 r2
        go_wp2_with fail
        go_roundw
        case rel => exact ⟨k + 1, L5, M5, vw5, vo5, vg5, by omega, by go_num, HS5, HF5, HO5, HV5⟩
        case measure => simp [intOf]; omega
      · have hAi : ¬ (A : Int) = 0 := by omega
        have hAd : decide ((A : Int) = 0) = false := decide_eq_false hAi
        have HF5 : Hid (FdR cur (ids.take (k + 1)) M) := Lib.hid (by
          rw [HTk.out]
          exact .skip HF.out (by rw [HA.out]; exact hA0))
        clear hA0 HF
        go_wp2_with fail
        go_roundw
        case rel => exact ⟨k + 1, L, M, vw, vo, vg, by omega, by go_num, HSf, HF5, HOf, HV⟩
        case measure => simp [intOf]; omega
    · obtain rfl : k = N := by omega
      have hk2 : decide ((k : Int) < (k : Int)) = false := decide_eq_false (by omega)
      have hk3 : decide (k < k) = false := decide_eq_false (by omega)
      have hFd := HF.out
      rw [List.take_of_length_le (by rw [HNl.out]; exact Nat.le_refl _), ← HIds.out] at hFd
      obtain ⟨-, hGI, -⟩ := hFd.inv (fun x hx => (mem_clnI _ _).1 hx)
      obtain ⟨vi, hgl⟩ := HS.out.gs.gsL
      have hlN : M.gs.length < 20 := by have h1 := HS.out.inv.lens; have h2 := HS.out.cnt; have h3 := HCl.out; unfold FC at h2; omega
      have hgm : ∀ j, j < M.gs.length → okL (idsO cur M.gs j) ∧ (idsO cur M.gs j).length ≤ 20 := fun j hj => by
        have q := hGI _ (List.getElem_mem hj)
        unfold idsO
        rw [getD_at hj]
        refine ⟨fun y hy => HKey.out y (q.1 y ((mem_sortL _ _ _).1 hy)), ?_⟩
        rw [len_sortL]
        have h1 := len_sub q.2 q.1
        have h3 := HCl.out
        simp only [keysV, List.length_map] at h1
        omega
      have HIo : Hid (Calls Try.prog 32 #[.pointer (some ⟨m + 1 + 1 + 1, 0, none⟩)] wr (IoP w (idsO cur M.gs) (lstO M.gs) (bhO cur M) ⟨(List.range M.gs.length).filter fun j => decide (wtO cur M j = 0), wtO cur M, []⟩)) := Lib.hid (inorder_any (G := gsOf cur M.gs) (vi := vi) ⟨HS.out.at', hgl, HS.out.lo, HS.out.sz, HS.out.bel⟩ M.ofi HS.out.rel.of HS.out.rel.lt (idsO cur M.gs) (lstO M.gs) ⟨fun _ => rfl, fun _ => rfl, fun _ => Nat.le_refl _, fun _ => Nat.le_refl _⟩ hgm HOk3.out HSt3.out (by omega) ⟨fun j => by
          have q : ∀ (l : List Nat), (l.map fun i => (gsOf cur M.gs i).bh.count j).sum = 0 := fun l => by
            induction l with
            | nil => rfl
            | cons a l ih => rw [List.map_cons, List.sum_cons, ih]; rfl
          exact (q _).symm, fun i b hb => (by cases hb)⟩ (bhO cur M) (wtO cur M) (lkO_mk cur M))
      have HFx := Lib.hid hFd
      clear hFd hGI hgl hlN hgm HS HF HO HV
      go_wp2_with fail
      refine HIo.out.mono ?_
      rintro e w9 ⟨v9, out, i, wt, he, hrow, hbel, hkr, hcap⟩
      rw [he.out]
      have HRw := Lib.hid hrow
      have HBl := Lib.hid hbel
      have HKr := Lib.hid hkr
      have HCp := Lib.hid hcap
      clear he hrow hbel hkr hcap HIo
      go_wp2
      go_ret
      exact ⟨_, cur, _, Lib.hid rfl, HRi.out, HNd.out, ⟨M, out, i, wt, HFx.out, rfl, HKr.out⟩, HRw.out, HBl.out, by rw [List.length_map]; exact HCp.out⟩
theorem gorder_any {w : World} {v vd : Value} {nv : List NV} {dn : List I3} (h : NRow w v nv) (hl : nv.length < 20) (hv : (nv.map (·.d.id)).Nodup) (hd : IK.Rd w vd dn) (ho : okL dn) (hdl : dn.length ≤ 900) (U : List I3) (hU : ∀ n ∈ nv, (∀ y ∈ n.d.dl, y ∈ U) ∧ n.d.dl.length ≤ 20) (hUl : U.length ≤ 900) :
    Calls Try.prog 13 #[v, vd] w (OrdP nv dn w) :=
  (gorder_any2 h hl hv hd ho hdl U hU hUl).mono fun e w' ⟨v, cur, os, h1, h2, h3, h4, h5, h6, _⟩ => ⟨v, cur, os, h1, h2, h3, h4, h5, h6⟩
end Go.Proofs.Ytlckjpjcfalfnaa
