/-
 The document's directory: a command that takes out; any command.
-/
import Derived.Test.YtodcmhmankmaoaaGreatRd9
namespace Go.Proofs.YtodcmhmankmaoaaGreat
open Go.RowKit
set_option linter.unusedSimpArgs false
set_option linter.unusedVariables false
set_option maxRecDepth 100000

set_option maxHeartbeats 4000000 in
theorem rapply_delete {w : World} {base r : Nat} {T : TypeId} {cs : List Value} {v0 : Value} {l : List E3} (h : RD w base r T cs v0 l) (hbw : base ≤ w.heap.size) (hl : l.length ≤ 900) (hR : RightD l) (hz : ∀ x ∈ l, x.1.size ≤ 1000) (hver : ∀ x ∈ l, 0 ≤ x.2.2 ∧ x.2.2 ≤ 4000000000000) (cl sq : Int) (p v : ByteArray) (ver a b : Int) (hp : p.size ≤ 1000) :
  Calls Tryz.prog 11 #[.pointer (some ⟨r, 0, none⟩), cmdV cl sq 2 p v ver a b] w (RApp (appD l 2 p v ver) w base r T cs v0) := by
 obtain ⟨X, hX⟩ : ∃ X, box2 w cl sq 2 p v ver a b = X := ⟨_, rfl⟩
 have HB : Hid (Below w.heap.size w X) := Lib.hid (by rw [← hX]; exact box2_below ..)
 have HBX : Hid (BX w.heap.size cl sq 2 p v ver a b X) := Lib.hid (by rw [← hX]; exact BX.mk0 ..)
 have HV := Lib.hid (rvalid_any p X hp)
 have HRD := Lib.hid h
 have HRt := Lib.hid hR
 have HP := Lib.hid hp
 have HVer := Lib.hid hver
 have HZj : Hid (∀ j, j < l.length → (l.getD j EK.d).1.size ≤ 1000) := Lib.hid fun j hj => hz _ (by simp [List.getD, hj])
 have c2 := HBX.out.c.2.2.1
 have c3 := HBX.out.c.2.2.2.1
 obtain ⟨V, hV⟩ : ∃ q, vld p = q := ⟨_, rfl⟩
 rw [hV] at HV
 have HVe := Lib.hid hV
 clear h hV hR hver
 go_enter Tryz.func11, Tryz.ntmps11
 go_wp2_with fail
 try rw [hX]
 clear hX
 refine HV.out.mono ?_
 rintro e w1 ⟨rfl, hb⟩
 have HB1 := Lib.hid (HB.out.trans (hb.mono HB.out.size))
 have HBX1 := Lib.hid (HBX.out.below hb)
 clear hb HB HBX HV c2 c3
 have c2 := HBX1.out.c.2.2.1
 have c3 := HBX1.out.c.2.2.2.1
 have c4 := HBX1.out.c.2.2.2.2.1
 obtain ⟨r0, r1, r2, r3⟩ := HBX1.out.r
 obtain ⟨f0, f1⟩ := HBX1.out.f
 have z2 := HBX1.out.z
 cases V with
 | false =>
  have HAp : Hid (appD l 2 p v ver = (bad 1, l)) := Lib.hid (by unfold appD rgt; rw [HVe.out]; rfl)
  go_wp2
  refine bodyPost_ret (v := repV (bad 1) (.slice none 0 0)) (by simp [results, Tryz.results11, go_sem, bad, r0, r1, r2, r3, f1, show w.heap.size + 1 < w1.heap.size by omega]) rfl ?_
  rw [HAp.out]
  exact RApp.bad HRD.out (below4 HB1.out _ _ _ _) _ rfl
 | true =>
  by_cases hroot : p = pth []
  ·have e0 : pth [] = { data := #[47] } := rfl
   have HAp : Hid (appD l 2 p v ver = (bad 1, l)) := Lib.hid (by unfold appD rgt; rw [HVe.out, hroot]; simp)
   rw [e0] at hroot
   subst hroot
   clear e0
   go_wp2
   refine bodyPost_ret (v := repV (bad 1) (.slice none 0 0)) (by simp [results, Tryz.results11, go_sem, bad, r0, r1, r2, r3, f1, show w.heap.size + 1 < w1.heap.size by omega]) rfl ?_
   rw [HAp.out]
   exact RApp.bad HRD.out (below4 HB1.out _ _ _ _) _ rfl
  have z0 : ¬ p.toList = [47] := fun e => hroot (by
   rw [Lib.toList_data] at e
   exact data_inj (by rw [show pth [] = { data := #[47] } from rfl, ← e]))
  have z1 : (p.toList == [47]) = false := by simpa using z0
  have HNR := Lib.hid hroot
  have HAp : Hid (appD l 2 p v ver = rmD l p) := Lib.hid (by unfold appD rgt; rw [HVe.out]; simp [hroot])
  clear hroot z0
  obtain ⟨a0, c0, e0⟩ := HRD.out.own.slice
  obtain ⟨n0, hn0⟩ : ∃ q, l.length = q := ⟨_, rfl⟩
  rw [hn0] at e0
  subst e0
  have HR1 := Lib.hid (HRD.out.below HB1.out)
  have HF := Lib.hid (rfind_any r a0 n0 c0 l p w1 (HR1.out.bk.cell 0) HR1.out.own.rd hn0.symm (by omega))
  have HT := Lib.hid (rthere_any r a0 n0 c0 l p w1 (HR1.out.bk.cell 0) HR1.out.own.rd hn0.symm (by omega))
  have HN0 := Lib.hid hn0.symm
  have hn900 : n0 ≤ 900 := by omega
  obtain ⟨F, hFi⟩ : ∃ F, fixI l p = F := ⟨_, rfl⟩
  rw [hFi] at HF
  have HFi := Lib.hid hFi
  clear hn0 hFi
  go_wp2_with fail
  refine HF.out.mono ?_
  rintro e w2 ⟨rfl, rfl⟩
  clear HF
  go_wp2_with fail
  refine HT.out.mono ?_
  rintro e w2 ⟨rfl, rfl⟩
  obtain ⟨t0, ht0⟩ : ∃ q, thrD l p = q := ⟨_, rfl⟩
  rw [ht0]
  have HT0 := Lib.hid ht0
  clear ht0 HT
  cases t0 with
  | false =>
   have HAp2 : Hid (appD l 2 p v ver = (bad 2, l)) := Lib.hid (by rw [HAp.out]; unfold rmD; rw [if_neg (by rw [HT0.out]; simp)])
   go_wp2
   refine bodyPost_ret (v := repV (bad 2) (.slice none 0 0)) (by simp [results, Tryz.results11, go_sem, bad, r0, r1, r2, r3, f1, show w.heap.size + 1 < w1.heap.size by omega]) rfl ?_
   rw [HAp2.out]
   exact RApp.bad HRD.out (below4 HB1.out _ _ _ _) _ rfl
  | true =>
   have HNm := Lib.hid (rnames_any r a0 n0 c0 l p w1 (HR1.out.bk.cell 0) HR1.out.own.rd HN0.out (by omega) HZj.out)
   clear r0 r1 r2 r3 f0 f1 z2 c4
   go_wp2_with fail
   refine HNm.out.mono ?_
   rintro e w3 ⟨v5, he, ho, hb⟩
   obtain ⟨a5, cc5, hv5⟩ := ho.slice
   obtain ⟨M, hM⟩ : ∃ M, (kidD l p).length = M := ⟨_, rfl⟩
   rw [List.length_map, hM] at hv5
   subst hv5
   rw [he.out]
   have HMM := Lib.hid hM
   have HBX3 := Lib.hid (HBX1.out.below hb)
   have HB3 := Lib.hid (HB1.out.trans (hb.mono HB1.out.size))
   have HR3 := Lib.hid (HR1.out.below hb)
   obtain ⟨r0, r1, r2, r3⟩ := HBX3.out.r
   obtain ⟨f0, f1⟩ := HBX3.out.f
   have z2 := HBX3.out.z
   clear ho he hM hb c3 HNm HR1
   by_cases hpos : 0 < M
   ·have k1 : (0 : Int) < (M : Int) := by omega
    have k2 : decide (0 < M) = true := decide_eq_true hpos
    have HAp2 : Hid (appD l 2 p v ver = (bad 4, l)) := Lib.hid (by rw [HAp.out]; unfold rmD; rw [if_pos HT0.out, if_pos (by rw [HMM.out]; exact hpos)])
    go_wp2
    refine bodyPost_ret (v := repV (bad 4) (.slice none 0 0)) (by simp [results, Tryz.results11, go_sem, bad, r0, r1, r2, r3, f1, show w.heap.size + 1 < w3.heap.size by omega]) rfl ?_
    rw [HAp2.out]
    exact RApp.bad HRD.out (below4 HB3.out _ _ _ _) _ rfl
   ·obtain rfl : M = 0 := by omega
    rcases fix_cases l p with ⟨hf, hd⟩ | ⟨k, ev, en, hk, hx, hf, hd⟩
    ·exact absurd HT0.out (by rw [thrD_no HNR.out, hd]; simp)
    have HAp2 : Hid (appD l 2 p v ver = (bad 0, l.take k ++ l.drop (k + 1))) := Lib.hid (by rw [HAp.out]; unfold rmD; rw [if_pos HT0.out, if_neg (by rw [HMM.out]; simp), del_at HRt.out.rise hx])
    obtain rfl : F = (k : Int) := by rw [← HFi.out, hf]
    obtain ⟨-, g, off, ha, -⟩ := entCell HR3.out.own.rd k (by have := HN0.out; omega)
    subst ha
    obtain ⟨ho0, hog, hofz⟩ := own0 HR3.out.own
    subst ho0
    have hkn : k < n0 := by have := HN0.out; omega
    have hcap : n0 ≤ c0 := own_capA HR3.out.own
    have HTk : Hid (∀ wq, Below w3.heap.size w3 wq → EK.Rd wq (.slice (some ⟨g, 0, none⟩) k c0) (l.take k)) := Lib.hid fun wq hq => by
     have q := HR3.out.own.rd.below hq
     rw [← List.take_append_drop k l] at q
     have q2 := rd_takeA q
     rwa [List.length_take, Nat.min_eq_left (by omega)] at q2
    have HDk : Hid (k + 1 < n0 → ∀ wq, Below w3.heap.size w3 wq → EK.Rd wq (.slice (some ⟨g, (k + 1) * 3, none⟩) (n0 - (k + 1)) (c0 - (k + 1))) (l.drop (k + 1))) := Lib.hid fun hlt wq hq => by
     have q := HR3.out.own.rd.below hq
     rw [← List.take_append_drop (k + 1) l] at q
     have q2 := rd_dropA q (by rw [Ne, List.drop_eq_nil_iff]; have := HN0.out; omega)
     rw [List.length_take, Nat.min_eq_left (by have := HN0.out; omega), Nat.zero_add] at q2
     exact q2
    have d0 := HR3.out.bk.cell 0
    simp only [List.getElem?_cons_zero] at d0
    have i0 : (0 : Int) ≤ (k : Int) := by omega
    have i1 : (k : Int) ≤ (c0 : Int) := by omega
    have i2 : k ≤ c0 := by omega
    have hTl : (l.take k).length = k := by rw [List.length_take]; omega
    have HTl := Lib.hid hTl
    clear hf hd hk hx hog hofz hTl hpos
    obtain ⟨j, hj⟩ : ∃ j, k + 1 = j := ⟨_, rfl⟩
    rw [hj] at HDk HAp2
    have HJ := Lib.hid hj
    clear hj
    go_wp2_with (refine EK.app rfl _ _ rfl w3.heap.size (.slice none 0 0) [] rfl ?own _ (l.take k) rfl ?rd (by have := HTl.out; simp; omega) ?bs ?_)
    case own => exact Knd.Own.nil _ _
    case rd => exact HTk.out _ (Below.refl _ _)
    case bs => exact Nat.le_refl _
    intro v6 w6 ho hb _ _
    try rw [List.nil_append] at ho
    obtain ⟨a6, c6, e6⟩ := ho.slice
    rw [HTl.out] at e6
    subst e6
    have HO6 := Lib.hid ho
    have HB6 := Lib.hid hb
    have HR6 := Lib.hid (HR3.out.below hb)
    have HBX6 := Lib.hid (HBX3.out.below hb)
    have d6 := HR6.out.bk.cell 0
    simp only [List.getElem?_cons_zero] at d6
    have f6 := HR6.out.bk.fz 0
    have wj : IntKind.i64.wrap ((k : Int) + 1) = (j : Int) := by have := HJ.out; rw [IntKind.wrap_i64]; omega
    have j0 : (0 : Int) ≤ (j : Int) := by omega
    have j1 : (j : Int) ≤ (n0 : Int) := by have := HJ.out; omega
    have j2 : (j : Int) ≤ (c0 : Int) := by omega
    have j3 : j ≤ n0 := by omega
    have j4 : (n0 : Int) ≤ (c0 : Int) := by omega
    have HFin : Hid (∀ (wq : World) (v' : Value), Below w3.heap.size w3 wq → EK.Own wq w3.heap.size v' (l.take k ++ l.drop j) → RDP w3 base r T cs (.slice (some ⟨g, 0, none⟩) n0 c0) (l.take k ++ l.drop j) (wq.setCell ⟨r, 0, none⟩ v')) := Lib.hid fun wq v' hq ho => by
     have hlt := HRD.out.lt
     have hsz := HB3.out.size
     refine ⟨⟨v', ⟨(HR3.out.bk.below hq).set 0 v', (own_setA ho (by omega) 0 v').base (by omega), hlt⟩, fun q hq => .inr (ho.from q hq)⟩, ?_⟩
     refine Fr.trans (S := fun k => w3.heap.size ≤ k) (T := fun k => k = r) (Fr.ofBelow hq) (Fr.set wq ⟨r, 0, none⟩ v') (fun j hj q => ?_)
     rcases q with q | q
     ·exact absurd hj (Nat.not_lt.2 q)
     ·exact .inl q
    have HL2 : Hid ((l.take k).length + (l.drop j).length ≤ 1000000) := Lib.hid (by rw [List.length_take, List.length_drop]; have := HN0.out; omega)
    clear ho hb d0 r0 r1 r2 r3 f0 f1 z2 i0 i1 i2 hcap
    by_cases hlast : j = n0
    ·have hdr : l.drop j = [] := List.drop_eq_nil_iff.2 (by have := HN0.out; omega)
     have HDr := Lib.hid hdr
     subst hlast
     clear hdr
     by_cases hc : j = c0
     ·subst hc
      go_wp2_with (refine EK.app rfl _ _ rfl w3.heap.size (.slice a6 k c6) (l.take k) rfl ?own _ (l.drop j) rfl ?rd HL2.out ?bs ?_)
      case own => exact HO6.out
      case rd => (rw [HDr.out]; exact ⟨_, _, rfl, Nat.zero_le _, (fun q => by cases q), .inl rfl⟩)
      case bs => exact HB6.out.size
      intro v7 w7 ho hb _ _
      obtain ⟨a7, c7, e7⟩ := ho.slice
      obtain ⟨n7, hn7⟩ : ∃ q, (l.take k ++ l.drop j).length = q := ⟨_, rfl⟩
      rw [hn7] at e7
      subst e7
      have hb37 : Below w3.heap.size w3 w7 := HB6.out.trans hb
      have HP8 := Lib.hid (HFin.out w7 _ hb37 ho)
      have f7 := (HR3.out.bk.below hb37).fz 0
      have d7 := (HR3.out.bk.below hb37).cell 0
      simp only [List.getElem?_cons_zero] at d7
      obtain ⟨w8, hw8⟩ : ∃ q, w7.setCell ⟨r, 0, none⟩ (.slice a7 n7 c7) = q := ⟨_, rfl⟩
      rw [hw8] at HP8
      have HBX7 := HBX3.out.below hb37
      have hk8 : w8.heap[w.heap.size + 1]? = w7.heap[w.heap.size + 1]? := by
       rw [← hw8]
       exact Below.heap_setCell _ _ _ _ (by have := HRD.out.lt; show w.heap.size + 1 ≠ r; omega)
      have r0 := (cell_same hk8 0).1.trans HBX7.r.1
      have r1 := (cell_same hk8 1).1.trans HBX7.r.2.1
      have r2 := (cell_same hk8 2).1.trans HBX7.r.2.2.1
      have r3 := (cell_same hk8 3).1.trans HBX7.r.2.2.2
      have f1 : ∀ o, w8.frozen? ⟨w.heap.size + 1, o, none⟩ = false := fun o => (cell_same hk8 o).2.trans (HBX7.f.2 o)
      have hz8 : w.heap.size + 1 < w8.heap.size := by have := HBX7.z; rw [← hw8]; simp; omega
      have HZ3 : Hid (w.heap.size + 1 < w3.heap.size) := Lib.hid (by have := HBX3.out.z; omega)
      clear ho hb hn7 hb37 HBX7 hk8 d6 f6
      go_wp2
      refine bodyPost_ret (v := repV (bad 0) (.slice none 0 0)) (by simp [results, Tryz.results11, go_sem, bad, r0, r1, r2, r3, f1, hz8]) rfl ?_
      rw [HAp2.out]
      exact ⟨RepP.no _ rfl _ _, RDP.after (b := w.heap.size + 1) HRD.out hbw HB3.out HP8.out (fr4 _ _ _ _ _ _) (Nat.le_succ _) HZ3.out⟩
     ·have hc1 : ¬ c0 = j := by omega
      have hc2 : ¬ (c0 : Int) = (j : Int) := by omega
      go_wp2_with (refine EK.app rfl _ _ rfl w3.heap.size (.slice a6 k c6) (l.take k) rfl ?own _ (l.drop j) rfl ?rd HL2.out ?bs ?_)
      case own => exact HO6.out
      case rd => (rw [HDr.out]; exact ⟨_, _, rfl, Nat.zero_le _, (fun q => by cases q), .inl rfl⟩)
      case bs => exact HB6.out.size
      intro v7 w7 ho hb _ _
      obtain ⟨a7, c7, e7⟩ := ho.slice
      obtain ⟨n7, hn7⟩ : ∃ q, (l.take k ++ l.drop j).length = q := ⟨_, rfl⟩
      rw [hn7] at e7
      subst e7
      have hb37 : Below w3.heap.size w3 w7 := HB6.out.trans hb
      have HP8 := Lib.hid (HFin.out w7 _ hb37 ho)
      have f7 := (HR3.out.bk.below hb37).fz 0
      have d7 := (HR3.out.bk.below hb37).cell 0
      simp only [List.getElem?_cons_zero] at d7
      obtain ⟨w8, hw8⟩ : ∃ q, w7.setCell ⟨r, 0, none⟩ (.slice a7 n7 c7) = q := ⟨_, rfl⟩
      rw [hw8] at HP8
      have HBX7 := HBX3.out.below hb37
      have hk8 : w8.heap[w.heap.size + 1]? = w7.heap[w.heap.size + 1]? := by
       rw [← hw8]
       exact Below.heap_setCell _ _ _ _ (by have := HRD.out.lt; show w.heap.size + 1 ≠ r; omega)
      have r0 := (cell_same hk8 0).1.trans HBX7.r.1
      have r1 := (cell_same hk8 1).1.trans HBX7.r.2.1
      have r2 := (cell_same hk8 2).1.trans HBX7.r.2.2.1
      have r3 := (cell_same hk8 3).1.trans HBX7.r.2.2.2
      have f1 : ∀ o, w8.frozen? ⟨w.heap.size + 1, o, none⟩ = false := fun o => (cell_same hk8 o).2.trans (HBX7.f.2 o)
      have hz8 : w.heap.size + 1 < w8.heap.size := by have := HBX7.z; rw [← hw8]; simp; omega
      have HZ3 : Hid (w.heap.size + 1 < w3.heap.size) := Lib.hid (by have := HBX3.out.z; omega)
      clear ho hb hn7 hb37 HBX7 hk8 d6 f6
      go_wp2
      refine bodyPost_ret (v := repV (bad 0) (.slice none 0 0)) (by simp [results, Tryz.results11, go_sem, bad, r0, r1, r2, r3, f1, hz8]) rfl ?_
      rw [HAp2.out]
      exact ⟨RepP.no _ rfl _ _, RDP.after (b := w.heap.size + 1) HRD.out hbw HB3.out HP8.out (fr4 _ _ _ _ _ _) (Nat.le_succ _) HZ3.out⟩
    ·have hc : ¬ c0 = j := by omega
     have hc2 : ¬ (c0 : Int) = (j : Int) := by omega
     have HRd := Lib.hid (HDk.out (by have := HJ.out; omega))
     clear hlast
     go_wp2_with (refine EK.app rfl _ _ rfl w3.heap.size (.slice a6 k c6) (l.take k) rfl ?own _ (l.drop j) rfl ?rd HL2.out ?bs ?_)
     case own => exact HO6.out
     case rd => exact HRd.out _ HB6.out
     case bs => exact HB6.out.size
     intro v7 w7 ho hb _ _
     obtain ⟨a7, c7, e7⟩ := ho.slice
     obtain ⟨n7, hn7⟩ : ∃ q, (l.take k ++ l.drop j).length = q := ⟨_, rfl⟩
     rw [hn7] at e7
     subst e7
     have hb37 : Below w3.heap.size w3 w7 := HB6.out.trans hb
     have HP8 := Lib.hid (HFin.out w7 _ hb37 ho)
     have f7 := (HR3.out.bk.below hb37).fz 0
     have d7 := (HR3.out.bk.below hb37).cell 0
     simp only [List.getElem?_cons_zero] at d7
     obtain ⟨w8, hw8⟩ : ∃ q, w7.setCell ⟨r, 0, none⟩ (.slice a7 n7 c7) = q := ⟨_, rfl⟩
     rw [hw8] at HP8
     have HBX7 := HBX3.out.below hb37
     have hk8 : w8.heap[w.heap.size + 1]? = w7.heap[w.heap.size + 1]? := by
      rw [← hw8]
      exact Below.heap_setCell _ _ _ _ (by have := HRD.out.lt; show w.heap.size + 1 ≠ r; omega)
     have r0 := (cell_same hk8 0).1.trans HBX7.r.1
     have r1 := (cell_same hk8 1).1.trans HBX7.r.2.1
     have r2 := (cell_same hk8 2).1.trans HBX7.r.2.2.1
     have r3 := (cell_same hk8 3).1.trans HBX7.r.2.2.2
     have f1 : ∀ o, w8.frozen? ⟨w.heap.size + 1, o, none⟩ = false := fun o => (cell_same hk8 o).2.trans (HBX7.f.2 o)
     have hz8 : w.heap.size + 1 < w8.heap.size := by have := HBX7.z; rw [← hw8]; simp; omega
     have HZ3 : Hid (w.heap.size + 1 < w3.heap.size) := Lib.hid (by have := HBX3.out.z; omega)
     clear ho hb hn7 hb37 HBX7 hk8 d6 f6
     go_wp2
     refine bodyPost_ret (v := repV (bad 0) (.slice none 0 0)) (by simp [results, Tryz.results11, go_sem, bad, r0, r1, r2, r3, f1, hz8]) rfl ?_
     rw [HAp2.out]
     exact ⟨RepP.no _ rfl _ _, RDP.after (b := w.heap.size + 1) HRD.out hbw HB3.out HP8.out (fr4 _ _ _ _ _ _) (Nat.le_succ _) HZ3.out⟩
theorem rapply_any {w : World} {base r : Nat} {T : TypeId} {cs : List Value} {v0 : Value} {l : List E3} (h : RD w base r T cs v0 l) (hbw : base ≤ w.heap.size) (hl : l.length ≤ 900) (hR : RightD l) (hz : ∀ x ∈ l, x.1.size ≤ 1000) (hver : ∀ x ∈ l, 0 ≤ x.2.2 ∧ x.2.2 ≤ 4000000000000) (cl sq op : Int) (p v : ByteArray) (ver a b : Int) (hp : p.size ≤ 1000) :
  Calls Tryz.prog 11 #[.pointer (some ⟨r, 0, none⟩), cmdV cl sq op p v ver a b] w (RApp (appD l op p v ver) w base r T cs v0) := by
 by_cases e1 : op = 1
 ·subst e1; exact rapply_create h hbw hl hR hz cl sq p v ver a b hp
 by_cases e2 : op = 2
 ·subst e2; exact rapply_delete h hbw hl hR hz hver cl sq p v ver a b hp
 by_cases e3 : op = 3
 ·subst e3; exact rapply_set h hbw hl hR hz hver cl sq p v ver a b hp
 by_cases e4 : op = 4
 ·subst e4; exact rapply_get h hbw hl hR hz hver cl sq p v ver a b hp
 by_cases e5 : op = 5
 ·subst e5; exact rapply_list h hbw hl hR hz hver cl sq p v ver a b hp
 by_cases e6 : op = 6
 ·subst e6; exact rapply_cas h hbw hl hR hz hver cl sq p v ver a b hp
 refine rapply_none h hbw cl sq op p v ver a b hp (fun k h1 h2 => ?_)
 intro e
 omega
end Go.Proofs.YtodcmhmankmaoaaGreat
