/-
 The document's directory: a command that reads one path, and one that lists.
-/
import Derived.Test.YtodcmhmankmaoaaGreatRd7
namespace Go.Proofs.YtodcmhmankmaoaaGreat
open Go.RowKit
set_option linter.unusedSimpArgs false
set_option linter.unusedVariables false
set_option maxRecDepth 100000

theorem own1_after {w w1 w3 : World} {T : TypeId} {v : Value} {L : List Value} (ho : Own1 w3 w1.heap.size T v L) (hz : w.heap.size + 2 ≤ w1.heap.size) (x y z u : Value) : Own1 ((((w3.setCell ⟨w.heap.size + 1, 0, none⟩ x).setCell ⟨w.heap.size + 1, 1, none⟩ y).setCell ⟨w.heap.size + 1, 2, none⟩ z).setCell ⟨w.heap.size + 1, 3, none⟩ u) w.heap.size T v L := by
 refine Own1.lower (b := w1.heap.size) ?_ (by omega)
 refine ho.keepB fun k hk => ?_
 have hkk := own1_from ho k hk
 rw [Below.heap_setCell _ _ _ k (by simp; omega), Below.heap_setCell _ _ _ k (by simp; omega), Below.heap_setCell _ _ _ k (by simp; omega), Below.heap_setCell _ _ _ k (by simp; omega)]
theorem fnd_no {l : List E3} {p : ByteArray} (hr : p ≠ pth []) (ht : thrD l p = false) : fndD l p = none := by
 rw [thrD_no hr] at ht
 cases h : fndD l p with
 | none => rfl
 | some x => rw [h] at ht; cases ht
set_option maxHeartbeats 4000000 in
theorem rapply_none {w : World} {base r : Nat} {T : TypeId} {cs : List Value} {v0 : Value} {l : List E3} (h : RD w base r T cs v0 l) (hbw : base ≤ w.heap.size) (cl sq op : Int) (p v : ByteArray) (ver a b : Int) (hp : p.size ≤ 1000) (ho : ∀ k : Int, 1 ≤ k → k ≤ 6 → op ≠ k) :
  Calls Tryz.prog 11 #[.pointer (some ⟨r, 0, none⟩), cmdV cl sq op p v ver a b] w (RApp (appD l op p v ver) w base r T cs v0) := by
 have g1 : (op == 1) = false := by simpa using ho 1 (by omega) (by omega)
 have g2 : (op == 2) = false := by simpa using ho 2 (by omega) (by omega)
 have g3 : (op == 3) = false := by simpa using ho 3 (by omega) (by omega)
 have g6 : (op == 6) = false := by simpa using ho 6 (by omega) (by omega)
 have HAp : Hid (appD l op p v ver = (bad 1, l)) := Lib.hid (by
  unfold appD
  rw [if_neg (ho 1 (by omega) (by omega)), if_neg (ho 2 (by omega) (by omega)), if_neg (ho 3 (by omega) (by omega)), if_neg (ho 4 (by omega) (by omega)), if_neg (ho 5 (by omega) (by omega)), if_neg (ho 6 (by omega) (by omega))]
  split <;> rfl)
 obtain ⟨X, hX⟩ : ∃ X, box2 w cl sq op p v ver a b = X := ⟨_, rfl⟩
 have HB : Hid (Below w.heap.size w X) := Lib.hid (by rw [← hX]; exact box2_below ..)
 have HBX : Hid (BX w.heap.size cl sq op p v ver a b X) := Lib.hid (by rw [← hX]; exact BX.mk0 ..)
 have HV := Lib.hid (rvalid_any p X hp)
 have HRD := Lib.hid h
 have c2 := HBX.out.c.2.2.1
 have c3 := HBX.out.c.2.2.2.1
 have hoo : op < 1 ∨ 6 < op := by
  by_cases q : op < 1
  ·exact .inl q
  ·by_cases q2 : 6 < op
   ·exact .inr q2
   ·exact absurd rfl (ho op (by omega) (by omega))
 obtain ⟨V, hV⟩ : ∃ q, vld p = q := ⟨_, rfl⟩
 rw [hV] at HV
 clear h hV ho
 go_enter Tryz.func11, Tryz.ntmps11
 go_wp2_with fail
 try rw [hX]
 clear hX
 refine HV.out.mono ?_
 rintro e w1 ⟨rfl, hb⟩
 have HB1 := Lib.hid (HB.out.trans (hb.mono HB.out.size))
 have HBX1 := Lib.hid (HBX.out.below hb)
 clear hb HB HBX HV c2 c3
 have c2 := HBX1.out.c.2.2.1
 have c3 := HBX1.out.c.2.2.2.1
 have c4 := HBX1.out.c.2.2.2.2.1
 obtain ⟨r0, r1, r2, r3⟩ := HBX1.out.r
 obtain ⟨f0, f1⟩ := HBX1.out.f
 have z2 := HBX1.out.z
 cases V with
 | false =>
  go_wp2
  refine bodyPost_ret (v := repV (bad 1) (.slice none 0 0)) (by simp [results, Tryz.results11, go_sem, bad, r0, r1, r2, r3, f1, show w.heap.size + 1 < w1.heap.size by omega]) rfl ?_
  rw [HAp.out]
  exact RApp.bad HRD.out (below4 HB1.out _ _ _ _) _ rfl
 | true =>
  rcases hoo with o1 | o1
  ·have o2 : decide (op < 1) = true := decide_eq_true o1
   go_wp2
   refine bodyPost_ret (v := repV (bad 1) (.slice none 0 0)) (by simp [results, Tryz.results11, go_sem, bad, r0, r1, r2, r3, f1, show w.heap.size + 1 < w1.heap.size by omega]) rfl ?_
   rw [HAp.out]
   exact RApp.bad HRD.out (below4 HB1.out _ _ _ _) _ rfl
  ·have o0 : ¬ op < 1 := by omega
   have o2 : decide (op < 1) = false := decide_eq_false o0
   have o3 : decide (6 < op) = true := decide_eq_true o1
   go_wp2
   refine bodyPost_ret (v := repV (bad 1) (.slice none 0 0)) (by simp [results, Tryz.results11, go_sem, bad, r0, r1, r2, r3, f1, show w.heap.size + 1 < w1.heap.size by omega]) rfl ?_
   rw [HAp.out]
   exact RApp.bad HRD.out (below4 HB1.out _ _ _ _) _ rfl
set_option maxHeartbeats 4000000 in
theorem rapply_get {w : World} {base r : Nat} {T : TypeId} {cs : List Value} {v0 : Value} {l : List E3} (h : RD w base r T cs v0 l) (hbw : base ≤ w.heap.size) (hl : l.length ≤ 900) (hR : RightD l) (hz : ∀ x ∈ l, x.1.size ≤ 1000) (hver : ∀ x ∈ l, 0 ≤ x.2.2 ∧ x.2.2 ≤ 4000000000000) (cl sq : Int) (p v : ByteArray) (ver a b : Int) (hp : p.size ≤ 1000) :
  Calls Tryz.prog 11 #[.pointer (some ⟨r, 0, none⟩), cmdV cl sq 4 p v ver a b] w (RApp (appD l 4 p v ver) w base r T cs v0) := by
 obtain ⟨X, hX⟩ : ∃ X, box2 w cl sq 4 p v ver a b = X := ⟨_, rfl⟩
 have HB : Hid (Below w.heap.size w X) := Lib.hid (by rw [← hX]; exact box2_below ..)
 have HBX : Hid (BX w.heap.size cl sq 4 p v ver a b X) := Lib.hid (by rw [← hX]; exact BX.mk0 ..)
 have HV := Lib.hid (rvalid_any p X hp)
 have HRD := Lib.hid h
 have HRt := Lib.hid hR
 have HP := Lib.hid hp
 have HVer := Lib.hid hver
 have HZj : Hid (∀ j, j < l.length → (l.getD j EK.d).1.size ≤ 1000) := Lib.hid fun j hj => hz _ (by simp [List.getD, hj])
 have c2 := HBX.out.c.2.2.1
 have c3 := HBX.out.c.2.2.2.1
 obtain ⟨V, hV⟩ : ∃ q, vld p = q := ⟨_, rfl⟩
 rw [hV] at HV
 have HVe := Lib.hid hV
 clear h hV hR hver
 go_enter Tryz.func11, Tryz.ntmps11
 go_wp2_with fail
 try rw [hX]
 clear hX
 refine HV.out.mono ?_
 rintro e w1 ⟨rfl, hb⟩
 have HB1 := Lib.hid (HB.out.trans (hb.mono HB.out.size))
 have HBX1 := Lib.hid (HBX.out.below hb)
 clear hb HB HBX HV c2 c3
 have c2 := HBX1.out.c.2.2.1
 have c3 := HBX1.out.c.2.2.2.1
 have c4 := HBX1.out.c.2.2.2.2.1
 obtain ⟨r0, r1, r2, r3⟩ := HBX1.out.r
 obtain ⟨f0, f1⟩ := HBX1.out.f
 have z2 := HBX1.out.z
 cases V with
 | false =>
  have HAp : Hid (appD l 4 p v ver = (bad 1, l)) := Lib.hid (by unfold appD rgt; rw [HVe.out]; rfl)
  go_wp2
  refine bodyPost_ret (v := repV (bad 1) (.slice none 0 0)) (by simp [results, Tryz.results11, go_sem, bad, r0, r1, r2, r3, f1, show w.heap.size + 1 < w1.heap.size by omega]) rfl ?_
  rw [HAp.out]
  exact RApp.bad HRD.out (below4 HB1.out _ _ _ _) _ rfl
 | true =>
  have HAp : Hid (appD l 4 p v ver = gtD l p) := Lib.hid (by unfold appD rgt; rw [HVe.out]; simp)

  obtain ⟨a0, c0, e0⟩ := HRD.out.own.slice
  obtain ⟨n0, hn0⟩ : ∃ q, l.length = q := ⟨_, rfl⟩
  rw [hn0] at e0
  subst e0
  have HR1 := Lib.hid (HRD.out.below HB1.out)
  have HF := Lib.hid (rfind_any r a0 n0 c0 l p w1 (HR1.out.bk.cell 0) HR1.out.own.rd hn0.symm (by omega))
  have HT := Lib.hid (rthere_any r a0 n0 c0 l p w1 (HR1.out.bk.cell 0) HR1.out.own.rd hn0.symm (by omega))
  have HN0 := Lib.hid hn0.symm
  have hn900 : n0 ≤ 900 := by omega
  obtain ⟨F, hFi⟩ : ∃ F, fixI l p = F := ⟨_, rfl⟩
  rw [hFi] at HF
  have HFi := Lib.hid hFi
  clear hn0 hFi
  go_wp2_with fail
  refine HF.out.mono ?_
  rintro e w2 ⟨rfl, rfl⟩
  clear HF
  go_wp2_with fail
  refine HT.out.mono ?_
  rintro e w2 ⟨rfl, rfl⟩
  obtain ⟨t0, ht0⟩ : ∃ q, thrD l p = q := ⟨_, rfl⟩
  rw [ht0]
  have HT0 := Lib.hid ht0
  clear ht0 HT
  cases t0 with
  | false =>
   have HAp2 : Hid (appD l 4 p v ver = (bad 2, l)) := Lib.hid (by rw [HAp.out]; unfold gtD; rw [if_neg (by rw [HT0.out]; simp)])
   go_wp2
   refine bodyPost_ret (v := repV (bad 2) (.slice none 0 0)) (by simp [results, Tryz.results11, go_sem, bad, r0, r1, r2, r3, f1, show w.heap.size + 1 < w1.heap.size by omega]) rfl ?_
   rw [HAp2.out]
   exact RApp.bad HRD.out (below4 HB1.out _ _ _ _) _ rfl
  | true =>
   rcases fix_cases l p with ⟨hf, hd⟩ | ⟨k, ev, en, hk, hx, hf, hd⟩
   ·have HAp2 : Hid (appD l 4 p v ver = (bad 0, l)) := Lib.hid (by rw [HAp.out]; unfold gtD; rw [if_pos HT0.out, hd]; rfl)
    obtain rfl : F = -1 := by rw [← HFi.out, hf]
    clear hf hd
    go_wp2
    refine bodyPost_ret (v := repV (bad 0) (.slice none 0 0)) (by simp [results, Tryz.results11, go_sem, bad, r0, r1, r2, r3, f1, show w.heap.size + 1 < w1.heap.size by omega]) rfl ?_
    rw [HAp2.out]
    exact RApp.bad HRD.out (below4 HB1.out _ _ _ _) _ rfl
   ·have HAp2 : Hid (appD l 4 p v ver = (⟨0, ev, en, []⟩, l)) := Lib.hid (by rw [HAp.out]; unfold gtD; rw [if_pos HT0.out, hd]; rfl)
    obtain rfl : F = (k : Int) := by rw [← HFi.out, hf]
    have d0 := HR1.out.bk.cell 0
    simp only [List.getElem?_cons_zero] at d0
    have HLk := Lib.hid hx
    obtain ⟨e00, g, off, ha, hg, u0, u1, u2, hkl⟩ := entCell HR1.out.own.rd k (by have := HN0.out; omega)
    have hgd : l.getD k EK.d = (p, ev, en) := by simp [List.getD, hx]
    rw [hgd] at u0 u1 u2
    simp only at u0 u1 u2
    subst ha
    have kn1 : (k : Int) < (n0 : Int) := by have := HN0.out; omega
    have kn0 : ¬ (k : Int) < 0 := by omega
    have kn3 : k < n0 := by omega
    have hen : 0 ≤ en ∧ en ≤ 4000000000000 := HVer.out _ (List.mem_iff_getElem?.2 ⟨k, hx⟩)
    have HEn := Lib.hid hen
    clear e00 hgd hkl hx hk hen
    clear hf hd
    go_wp2_with fail
    go_still_tail 17, (by kernel_rfl)
    go_wp2
    refine bodyPost_ret (v := repV ⟨0, ev, en, []⟩ (.slice none 0 0)) (by simp [results, Tryz.results11, go_sem, bad, r0, r1, r2, r3, f1, show w.heap.size + 1 < w1.heap.size by omega]) rfl ?_
    rw [HAp2.out]
    exact ⟨RepP.no _ rfl _ _, RDP.same HRD.out (below4 HB1.out.drew _ _ _ _)⟩
set_option maxHeartbeats 4000000 in
theorem rapply_list {w : World} {base r : Nat} {T : TypeId} {cs : List Value} {v0 : Value} {l : List E3} (h : RD w base r T cs v0 l) (hbw : base ≤ w.heap.size) (hl : l.length ≤ 900) (hR : RightD l) (hz : ∀ x ∈ l, x.1.size ≤ 1000) (hver : ∀ x ∈ l, 0 ≤ x.2.2 ∧ x.2.2 ≤ 4000000000000) (cl sq : Int) (p v : ByteArray) (ver a b : Int) (hp : p.size ≤ 1000) :
  Calls Tryz.prog 11 #[.pointer (some ⟨r, 0, none⟩), cmdV cl sq 5 p v ver a b] w (RApp (appD l 5 p v ver) w base r T cs v0) := by
 obtain ⟨X, hX⟩ : ∃ X, box2 w cl sq 5 p v ver a b = X := ⟨_, rfl⟩
 have HB : Hid (Below w.heap.size w X) := Lib.hid (by rw [← hX]; exact box2_below ..)
 have HBX : Hid (BX w.heap.size cl sq 5 p v ver a b X) := Lib.hid (by rw [← hX]; exact BX.mk0 ..)
 have HV := Lib.hid (rvalid_any p X hp)
 have HRD := Lib.hid h
 have HRt := Lib.hid hR
 have HP := Lib.hid hp
 have HVer := Lib.hid hver
 have HZj : Hid (∀ j, j < l.length → (l.getD j EK.d).1.size ≤ 1000) := Lib.hid fun j hj => hz _ (by simp [List.getD, hj])
 have c2 := HBX.out.c.2.2.1
 have c3 := HBX.out.c.2.2.2.1
 obtain ⟨V, hV⟩ : ∃ q, vld p = q := ⟨_, rfl⟩
 rw [hV] at HV
 have HVe := Lib.hid hV
 clear h hV hR hver
 go_enter Tryz.func11, Tryz.ntmps11
 go_wp2_with fail
 try rw [hX]
 clear hX
 refine HV.out.mono ?_
 rintro e w1 ⟨rfl, hb⟩
 have HB1 := Lib.hid (HB.out.trans (hb.mono HB.out.size))
 have HBX1 := Lib.hid (HBX.out.below hb)
 clear hb HB HBX HV c2 c3
 have c2 := HBX1.out.c.2.2.1
 have c3 := HBX1.out.c.2.2.2.1
 have c4 := HBX1.out.c.2.2.2.2.1
 obtain ⟨r0, r1, r2, r3⟩ := HBX1.out.r
 obtain ⟨f0, f1⟩ := HBX1.out.f
 have z2 := HBX1.out.z
 cases V with
 | false =>
  have HAp : Hid (appD l 5 p v ver = (bad 1, l)) := Lib.hid (by unfold appD rgt; rw [HVe.out]; rfl)
  go_wp2
  refine bodyPost_ret (v := repV (bad 1) (.slice none 0 0)) (by simp [results, Tryz.results11, go_sem, bad, r0, r1, r2, r3, f1, show w.heap.size + 1 < w1.heap.size by omega]) rfl ?_
  rw [HAp.out]
  exact RApp.bad HRD.out (below4 HB1.out _ _ _ _) _ rfl
 | true =>
  have HAp : Hid (appD l 5 p v ver = lsD l p) := Lib.hid (by unfold appD rgt; rw [HVe.out]; simp)

  obtain ⟨a0, c0, e0⟩ := HRD.out.own.slice
  obtain ⟨n0, hn0⟩ : ∃ q, l.length = q := ⟨_, rfl⟩
  rw [hn0] at e0
  subst e0
  have HR1 := Lib.hid (HRD.out.below HB1.out)
  have HF := Lib.hid (rfind_any r a0 n0 c0 l p w1 (HR1.out.bk.cell 0) HR1.out.own.rd hn0.symm (by omega))
  have HT := Lib.hid (rthere_any r a0 n0 c0 l p w1 (HR1.out.bk.cell 0) HR1.out.own.rd hn0.symm (by omega))
  have HN0 := Lib.hid hn0.symm
  have hn900 : n0 ≤ 900 := by omega
  obtain ⟨F, hFi⟩ : ∃ F, fixI l p = F := ⟨_, rfl⟩
  rw [hFi] at HF
  have HFi := Lib.hid hFi
  clear hn0 hFi
  go_wp2_with fail
  refine HF.out.mono ?_
  rintro e w2 ⟨rfl, rfl⟩
  clear HF
  go_wp2_with fail
  refine HT.out.mono ?_
  rintro e w2 ⟨rfl, rfl⟩
  obtain ⟨t0, ht0⟩ : ∃ q, thrD l p = q := ⟨_, rfl⟩
  rw [ht0]
  have HT0 := Lib.hid ht0
  clear ht0 HT
  cases t0 with
  | false =>
   have HAp2 : Hid (appD l 5 p v ver = (bad 2, l)) := Lib.hid (by rw [HAp.out]; unfold lsD; rw [if_neg (by rw [HT0.out]; simp)])
   go_wp2
   refine bodyPost_ret (v := repV (bad 2) (.slice none 0 0)) (by simp [results, Tryz.results11, go_sem, bad, r0, r1, r2, r3, f1, show w.heap.size + 1 < w1.heap.size by omega]) rfl ?_
   rw [HAp2.out]
   exact RApp.bad HRD.out (below4 HB1.out _ _ _ _) _ rfl
  | true =>
   have HNm := Lib.hid (rnames_any r a0 n0 c0 l p w1 (HR1.out.bk.cell 0) HR1.out.own.rd HN0.out (by omega) HZj.out)
   clear r0 r1 r2 r3 f0 f1 z2 c4
   go_wp2_with fail
   refine HNm.out.mono ?_
   rintro e w3 ⟨v5, he, ho, hb⟩
   obtain ⟨a5, cc5, hv5⟩ := ho.slice
   obtain ⟨M, hM⟩ : ∃ M, (List.map Value.string (kidD l p)).length = M := ⟨_, rfl⟩
   rw [hM] at hv5
   subst hv5
   rw [he.out]
   have HO5 := Lib.hid ho
   have HBX3 := Lib.hid (HBX1.out.below hb)
   have HB3 := Lib.hid (HB1.out.trans (hb.mono HB1.out.size))
   obtain ⟨r0, r1, r2, r3⟩ := HBX3.out.r
   obtain ⟨f0, f1⟩ := HBX3.out.f
   have z2 := HBX3.out.z
   have HAp2 : Hid (appD l 5 p v ver = (⟨0, { data := #[] }, 0, kidD l p⟩, l)) := Lib.hid (by rw [HAp.out]; unfold lsD; rw [if_pos HT0.out])
   clear ho he hM hb c2 c3 HNm
   go_wp2
   refine bodyPost_ret (v := repV ⟨0, { data := #[] }, 0, kidD l p⟩ (.slice a5 M cc5)) (by simp [results, Tryz.results11, go_sem, bad, r0, r1, r2, r3, f1, show w.heap.size + 1 < w3.heap.size by omega]) rfl ?_
   rw [HAp2.out]
   exact ⟨⟨_, rfl, own1_after HO5.out HBX1.out.z _ _ _ _⟩, RDP.same HRD.out (below4 HB3.out _ _ _ _)⟩
end Go.Proofs.YtodcmhmankmaoaaGreat
