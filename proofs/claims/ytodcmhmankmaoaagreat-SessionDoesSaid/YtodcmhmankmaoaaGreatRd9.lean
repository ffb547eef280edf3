/-
 The document's directory: a command that sets.
-/
import Derived.Test.YtodcmhmankmaoaaGreatSht
import Derived.Test.YtodcmhmankmaoaaGreatRd8
import Derived.BigQuiet
import Derived.Deep.QuietTactic
namespace Go.Proofs.YtodcmhmankmaoaaGreat
open Go.RowKit
set_option linter.unusedSimpArgs false
set_option linter.unusedVariables false
set_option maxRecDepth 100000

theorem own0 {P : Program} {α : Type} {K : Knd P α} {w : World} {base g off n c : Nat} {l : List α} (h : K.Own w base (.slice (some ⟨g, off, none⟩) n c) l) : off = 0 ∧ base ≤ g ∧ (∀ o, w.frozen? ⟨g, o, none⟩ = false) := by
 obtain ⟨h1, h2⟩ := h
 rcases h2 with ⟨h0, _⟩ | ⟨g', cap, cur, hv, hg, hh, _⟩
 ·cases h0
 ·simp only [Value.slice.injEq, Option.some.injEq, Addr.mk.injEq, and_true] at hv
  obtain ⟨⟨rfl, rfl⟩, _⟩ := hv
  exact ⟨rfl, hg, fun o => by unfold World.frozen?; simp [hh]⟩
theorem RD.set1 {w : World} {base r : Nat} {T : TypeId} {cs : List Value} {g n c : Nat} {l : List E3} (h : RD w base r T cs (.slice (some ⟨g, 0, none⟩) n c) l) {k : Nat} {p ev : ByteArray} {en : Int} (hx : l[k]? = some (p, ev, en)) (v : ByteArray) :
  RD (w.setCell ⟨g, k * 3 + 1, none⟩ (.string v)) base r T cs (.slice (some ⟨g, 0, none⟩) n c) (l.set k (p, v, en)) := by
 obtain ⟨hk, ex⟩ := List.getElem?_eq_some_iff.1 hx
 have hg := (own0 h.own).2.1
 have hlt := h.lt
 exact ⟨(Fr.set w _ _).bk h.bk (by show ¬ r = g; omega), h.own.put k hk (p, v, en) 1 (.string v) (show 1 < 3 by omega) (by rw [ex]; rfl), h.lt⟩
theorem RD.set2 {w : World} {base r : Nat} {T : TypeId} {cs : List Value} {g n c : Nat} {l : List E3} (h : RD w base r T cs (.slice (some ⟨g, 0, none⟩) n c) l) {k : Nat} {p ev : ByteArray} {en : Int} (hx : l[k]? = some (p, ev, en)) (n' : Int) :
  RD (w.setCell ⟨g, k * 3 + 2, none⟩ (.int .i64 n')) base r T cs (.slice (some ⟨g, 0, none⟩) n c) (l.set k (p, ev, n')) := by
 obtain ⟨hk, ex⟩ := List.getElem?_eq_some_iff.1 hx
 have hg := (own0 h.own).2.1
 have hlt := h.lt
 exact ⟨(Fr.set w _ _).bk h.bk (by show ¬ r = g; omega), h.own.put k hk (p, ev, n') 2 (.int .i64 n') (show 2 < 3 by omega) (by rw [ex]; rfl), h.lt⟩
theorem Fr.drew {S : Nat → Prop} {w w' : World} (h : Fr S w w') : Fr S w w'.drew := ⟨h.os, h.tape, h.output, h.size, h.block⟩
theorem RD.toP {w w' : World} {base r : Nat} {T : TypeId} {cs : List Value} {g n c : Nat} {l' : List E3} (h : RD w' base r T cs (.slice (some ⟨g, 0, none⟩) n c) l') (hf : Fr (fun j => j = g) w w') : RDP w base r T cs (.slice (some ⟨g, 0, none⟩) n c) l' w' :=
 ⟨⟨_, h, fun _ hq => .inl hq⟩, hf.mono fun j _ q => .inr (by rw [q]; rfl)⟩
theorem own_capA {P : Program} {α : Type} {K : Knd P α} {w : World} {base n c : Nat} {a : Option Addr} {l : List α} (h : K.Own w base (.slice a n c) l) : n ≤ c := by
 obtain ⟨h1, h2⟩ := h
 rcases h2 with ⟨h0, _⟩ | ⟨g', cap, cur, hv, hg, hh, hn, hm, _⟩
 ·simp only [Value.slice.injEq] at h0
  omega
 ·simp only [Value.slice.injEq] at hv
  omega
theorem rd_takeA {P : Program} {α : Type} {K : Knd P α} {w : World} {a : Option Addr} {n c : Nat} {l k : List α} (h : K.Rd w (.slice a n c) (l ++ k)) : K.Rd w (.slice a l.length c) l := by
 obtain ⟨a', c', e, h1, h2, h3⟩ := h
 simp only [Value.slice.injEq] at e
 obtain ⟨rfl, hn, rfl⟩ := e
 refine ⟨a, c, rfl, by rw [List.length_append] at h1; omega, h2, ?_⟩
 rcases h3 with h3 | ⟨g, off, ha, hg, hc⟩
 ·simp at h3; exact .inl h3.1
 ·exact .inr ⟨g, off, ha, hg, fun t u ht => hc t u (by
   rw [K.row_app, List.getElem?_append_left (by have := (List.getElem?_eq_some_iff.1 ht).1; exact this)]
   exact ht)⟩
theorem rd_dropA {P : Program} {α : Type} {K : Knd P α} {w : World} {g off n c : Nat} {l k : List α} (h : K.Rd w (.slice (some ⟨g, off, none⟩) n c) (l ++ k)) (hk : k ≠ []) : K.Rd w (.slice (some ⟨g, off + l.length * K.k, none⟩) (n - l.length) (c - l.length)) k := by
 obtain ⟨a', c', e, h1, h2, h3⟩ := h
 simp only [Value.slice.injEq] at e
 obtain ⟨rfl, hn, rfl⟩ := e
 have hlen : (l ++ k).length = l.length + k.length := by simp
 refine ⟨some ⟨g, off + l.length * K.k, none⟩, c - l.length, by rw [hn, hlen]; simp, by omega, (fun q => by cases q), .inr ⟨g, off + l.length * K.k, rfl, ?_, fun t u ht => ?_⟩⟩
 ·rcases h3 with h3 | ⟨g', off', ha, hg, hc⟩
  ·simp at h3; exact absurd h3.2 hk
  ·simp only [Option.some.injEq, Addr.mk.injEq, and_true] at ha
   obtain ⟨rfl, rfl⟩ := ha
   exact hg
 ·rcases h3 with h3 | ⟨g', off', ha, hg, hc⟩
  ·simp at h3; exact absurd h3.2 hk
  ·simp only [Option.some.injEq, Addr.mk.injEq, and_true] at ha
   obtain ⟨rfl, rfl⟩ := ha
   have := hc (l.length * K.k + t) u (by
    rw [K.row_app, List.getElem?_append_right (by rw [K.row_len]; omega), K.row_len, Nat.add_sub_cancel_left]
    exact ht)
   rwa [← Nat.add_assoc] at this
set_option maxHeartbeats 4000000 in
theorem rapply_set {w : World} {base r : Nat} {T : TypeId} {cs : List Value} {v0 : Value} {l : List E3} (h : RD w base r T cs v0 l) (hbw : base ≤ w.heap.size) (hl : l.length ≤ 900) (hR : RightD l) (hz : ∀ x ∈ l, x.1.size ≤ 1000) (hver : ∀ x ∈ l, 0 ≤ x.2.2 ∧ x.2.2 ≤ 4000000000000) (cl sq : Int) (p v : ByteArray) (ver a b : Int) (hp : p.size ≤ 1000) :
  Calls Tryz.prog 11 #[.pointer (some ⟨r, 0, none⟩), cmdV cl sq 3 p v ver a b] w (RApp (appD l 3 p v ver) w base r T cs v0) := by
 obtain ⟨X, hX⟩ : ∃ X, box2 w cl sq 3 p v ver a b = X := ⟨_, rfl⟩
 have HB : Hid (Below w.heap.size w X) := Lib.hid (by rw [← hX]; exact box2_below ..)
 have HBX : Hid (BX w.heap.size cl sq 3 p v ver a b X) := Lib.hid (by rw [← hX]; exact BX.mk0 ..)
 have HV := Lib.hid (rvalid_any p X hp)
 have HRD := Lib.hid h
 have HRt := Lib.hid hR
 have HP := Lib.hid hp
 have HVer := Lib.hid hver
 have HZj : Hid (∀ j, j < l.length → (l.getD j EK.d).1.size ≤ 1000) := Lib.hid fun j hj => hz _ (by simp [List.getD, hj])
 have c2 := HBX.out.c.2.2.1
 have c3 := HBX.out.c.2.2.2.1
 obtain ⟨V, hV⟩ : ∃ q, vld p = q := ⟨_, rfl⟩
 rw [hV] at HV
 have HVe := Lib.hid hV
 clear h hV hR hver
 go_enter Tryz.func11, Tryz.ntmps11
 go_wp2_with fail
 try rw [hX]
 clear hX
 refine HV.out.mono ?_
 rintro e w1 ⟨rfl, hb⟩
 have HB1 := Lib.hid (HB.out.trans (hb.mono HB.out.size))
 have HBX1 := Lib.hid (HBX.out.below hb)
 clear hb HB HBX HV c2 c3
 have c2 := HBX1.out.c.2.2.1
 have c3 := HBX1.out.c.2.2.2.1
 have c4 := HBX1.out.c.2.2.2.2.1
 obtain ⟨r0, r1, r2, r3⟩ := HBX1.out.r
 obtain ⟨f0, f1⟩ := HBX1.out.f
 have z2 := HBX1.out.z
 cases V with
 | false =>
  have HAp : Hid (appD l 3 p v ver = (bad 1, l)) := Lib.hid (by unfold appD rgt; rw [HVe.out]; rfl)
  go_wp2
  refine bodyPost_ret (v := repV (bad 1) (.slice none 0 0)) (by simp [results, Tryz.results11, go_sem, bad, r0, r1, r2, r3, f1, show w.heap.size + 1 < w1.heap.size by omega]) rfl ?_
  rw [HAp.out]
  exact RApp.bad HRD.out (below4 HB1.out _ _ _ _) _ rfl
 | true =>
  by_cases hv64 : 64 < v.size
  ·have v1 : (64 : Int) < (v.size : Int) := by omega
   have v2 : decide ((64 : Int) < (v.size : Int)) = true := decide_eq_true v1
   have HAp : Hid (appD l 3 p v ver = (bad 1, l)) := Lib.hid (by unfold appD rgt; rw [HVe.out]; simp; omega)
   go_wp2
   refine bodyPost_ret (v := repV (bad 1) (.slice none 0 0)) (by simp [results, Tryz.results11, go_sem, bad, r0, r1, r2, r3, f1, show w.heap.size + 1 < w1.heap.size by omega]) rfl ?_
   rw [HAp.out]
   exact RApp.bad HRD.out (below4 HB1.out _ _ _ _) _ rfl
  have v1 : ¬ (64 : Int) < (v.size : Int) := by omega
  have v2 : decide ((64 : Int) < (v.size : Int)) = false := decide_eq_false v1
  have v3 : v.size ≤ 64 := by omega
  by_cases hroot : p = pth []
  ·have e0 : pth [] = { data := #[47] } := rfl
   have HAp : Hid (appD l 3 p v ver = (bad 1, l)) := Lib.hid (by unfold appD rgt; rw [HVe.out, hroot]; simp)
   rw [e0] at hroot
   subst hroot
   clear e0
   go_wp2
   refine bodyPost_ret (v := repV (bad 1) (.slice none 0 0)) (by simp [results, Tryz.results11, go_sem, bad, r0, r1, r2, r3, f1, show w.heap.size + 1 < w1.heap.size by omega]) rfl ?_
   rw [HAp.out]
   exact RApp.bad HRD.out (below4 HB1.out _ _ _ _) _ rfl
  have z0 : ¬ p.toList = [47] := fun e => hroot (by
   rw [Lib.toList_data] at e
   exact data_inj (by rw [show pth [] = { data := #[47] } from rfl, ← e]))
  have z1 : (p.toList == [47]) = false := by simpa using z0
  have HNR := Lib.hid hroot
  have HAp : Hid (appD l 3 p v ver = setD l p v) := Lib.hid (by unfold appD rgt; rw [HVe.out]; simp [hroot, v3])
  clear hroot z0
  obtain ⟨a0, c0, e0⟩ := HRD.out.own.slice
  obtain ⟨n0, hn0⟩ : ∃ q, l.length = q := ⟨_, rfl⟩
  rw [hn0] at e0
  subst e0
  have HR1 := Lib.hid (HRD.out.below HB1.out)
  have HF := Lib.hid (rfind_any r a0 n0 c0 l p w1 (HR1.out.bk.cell 0) HR1.out.own.rd hn0.symm (by omega))
  have HT := Lib.hid (rthere_any r a0 n0 c0 l p w1 (HR1.out.bk.cell 0) HR1.out.own.rd hn0.symm (by omega))
  have HN0 := Lib.hid hn0.symm
  have hn900 : n0 ≤ 900 := by omega
  obtain ⟨F, hFi⟩ : ∃ F, fixI l p = F := ⟨_, rfl⟩
  rw [hFi] at HF
  have HFi := Lib.hid hFi
  clear hn0 hFi hv64
  go_wp2_with fail
  refine HF.out.mono ?_
  rintro e w2 ⟨rfl, rfl⟩
  clear HF
  go_wp2_with fail
  refine HT.out.mono ?_
  rintro e w2 ⟨rfl, rfl⟩
  obtain ⟨t0, ht0⟩ : ∃ q, thrD l p = q := ⟨_, rfl⟩
  rw [ht0]
  have HT0 := Lib.hid ht0
  clear ht0 HT
  cases t0 with
  | false =>
   have HAp2 : Hid (appD l 3 p v ver = (bad 2, l)) := Lib.hid (by rw [HAp.out]; unfold setD; rw [fnd_no HNR.out HT0.out])
   go_wp2
   refine bodyPost_ret (v := repV (bad 2) (.slice none 0 0)) (by simp [results, Tryz.results11, go_sem, bad, r0, r1, r2, r3, f1, show w.heap.size + 1 < w1.heap.size by omega]) rfl ?_
   rw [HAp2.out]
   exact RApp.bad HRD.out (below4 HB1.out _ _ _ _) _ rfl
  | true =>
   rcases fix_cases l p with ⟨hf, hd⟩ | ⟨k, ev, en, hk, hx, hf, hd⟩
   ·exact absurd HT0.out (by rw [thrD_no HNR.out, hd]; simp)
   ·obtain rfl : F = (k : Int) := by rw [← HFi.out, hf]
    have HX := Lib.hid hx
    have HFd := Lib.hid hd
    have d0 := HR1.out.bk.cell 0
    simp only [List.getElem?_cons_zero] at d0
    have HLk := Lib.hid hx
    obtain ⟨e00, g, off, ha, hg, u0, u1, u2, hkl⟩ := entCell HR1.out.own.rd k (by have := HN0.out; omega)
    have hgd : l.getD k EK.d = (p, ev, en) := by simp [List.getD, hx]
    rw [hgd] at u0 u1 u2
    simp only at u0 u1 u2
    subst ha
    have kn1 : (k : Int) < (n0 : Int) := by have := HN0.out; omega
    have kn0 : ¬ (k : Int) < 0 := by omega
    have kn3 : k < n0 := by omega
    have hen : 0 ≤ en ∧ en ≤ 4000000000000 := HVer.out _ (List.mem_iff_getElem?.2 ⟨k, hx⟩)
    have HEn := Lib.hid hen
    clear e00 hgd hkl hx hk hen
    obtain ⟨ho0, hog, hofz⟩ := own0 HR1.out.own
    subst ho0
    have HOG := Lib.hid hog
    simp only [Nat.zero_add] at u0 u1 u2
    have hgw : g < w.heap.size := (HRD.out.own.blk g rfl).1
    have w1w : IntKind.i64.wrap (en + 1) = en + 1 := by rw [IntKind.wrap_i64]; have := HEn.out; omega
    clear hf hd hog hofz
    have HAp2 : Hid (appD l 3 p v ver = (⟨0, { data := #[] }, en + 1, []⟩, l.set k (p, v, en + 1))) := Lib.hid (by rw [HAp.out]; unfold setD; rw [HFd.out]; simp only; rw [set_put HRt.out.rise HX.out])
    have c5 := HBX1.out.c.2.2.2.2.2.1
    have HC30 : Hid (∀ wq, Below w1.heap.size w1 wq → (wq.cell? ⟨w.heap.size, 2, none⟩ = some (.int .i64 3) ∧ wq.cell? ⟨w.heap.size, 5, none⟩ = some (.int .i64 ver) ∧ wq.cell? ⟨r, 0, none⟩ = some (.slice (some ⟨g, 0, none⟩) n0 c0) ∧ wq.cell? ⟨g, k * 3 + 2, none⟩ = some (.int .i64 en))) := Lib.hid fun wq hq => ⟨(hq.cell (p := ⟨w.heap.size, 2, none⟩) (by show w.heap.size < _; omega)).trans c2, (hq.cell (p := ⟨w.heap.size, 5, none⟩) (by show w.heap.size < _; omega)).trans c5, (hq.cell (p := ⟨r, 0, none⟩) (HR1.out.bk.lt)).trans d0, (hq.cell (p := ⟨g, k * 3 + 2, none⟩) hg).trans u2⟩
    go_wp2_with fail
    refine wp_region_held_drew (S := (fun w' => w'.cell? ⟨w.heap.size, 2, none⟩ = some (.int .i64 3) ∧ w'.cell? ⟨w.heap.size, 5, none⟩ = some (.int .i64 ver) ∧ w'.cell? ⟨r, 0, none⟩ = some (.slice (some ⟨g, 0, none⟩) n0 c0) ∧ w'.cell? ⟨g, k * 3 + 2, none⟩ = some (.int .i64 en))) (by kernel_rfl) ?_ (fun hHeld => ?_)
    ·((first
     | exact HC30.out _ (Below.refl _ _)
     | exact HC30.out _ (Below.refl _ _).drew
     | fail))
    (refine tkA 0 (v := ?_) ?_ ?_; rotate_left; focus (intro w hSw; (try dsimp only at hSw); go_simp; try rfl)); try simp only [Act.put, gA1, gA2, gA3, gA4, gA5, gA6]
    (refine tkA 1 (v := ?_) ?_ ?_; rotate_left; focus (intro w hSw; (try dsimp only at hSw); go_simp; try rfl)); try simp only [Act.put, gA1, gA2, gA3, gA4, gA5, gA6]
    (refine tkA 2 (v := ?_) ?_ ?_; rotate_left; focus (intro w hSw; (try dsimp only at hSw); go_simp; try rfl)); try simp only [Act.put, gA1, gA2, gA3, gA4, gA5, gA6]
    (refine tkA 3 (v := ?_) ?_ ?_; rotate_left; focus (intro w hSw; (try dsimp only at hSw); go_simp; try rfl)); try simp only [Act.put, gA1, gA2, gA3, gA4, gA5, gA6]
    refine utA 4 ?_; try simp only [Act.put, gA1, gA2, gA3, gA4, gA5, gA6]
    refine utA 5 ?_; try simp only [Act.put, gA1, gA2, gA3, gA4, gA5, gA6]
    refine utA 6 ?_; try simp only [Act.put, gA1, gA2, gA3, gA4, gA5, gA6]
    refine utA 7 ?_; try simp only [Act.put, gA1, gA2, gA3, gA4, gA5, gA6]
    refine utA 8 ?_; try simp only [Act.put, gA1, gA2, gA3, gA4, gA5, gA6]
    refine utA 9 ?_; try simp only [Act.put, gA1, gA2, gA3, gA4, gA5, gA6]
    refine utA 10 ?_; try simp only [Act.put, gA1, gA2, gA3, gA4, gA5, gA6]
    refine utA 11 ?_; try simp only [Act.put, gA1, gA2, gA3, gA4, gA5, gA6]
    refine utA 12 ?_; try simp only [Act.put, gA1, gA2, gA3, gA4, gA5, gA6]
    refine utA 13 ?_; try simp only [Act.put, gA1, gA2, gA3, gA4, gA5, gA6]
    refine utA 14 ?_; try simp only [Act.put, gA1, gA2, gA3, gA4, gA5, gA6]
    (refine tkA 15 (v := ?_) ?_ ?_; rotate_left; focus (intro w hSw; (try dsimp only at hSw); go_simp; try rfl)); try simp only [Act.put, gA1, gA2, gA3, gA4, gA5, gA6]
    refine wpAnyH_done (by kernel_rfl) ?_ _
    have hbd : Below w1.heap.size w1 w1.drew := (Below.refl _ _).drew
    have HBd := Lib.hid hbd
    have HB2 := Lib.hid (HB1.out.trans (hbd.mono HB1.out.size))
    have HBX2 := Lib.hid (HBX1.out.below hbd)
    have HR2 := Lib.hid (HR1.out.below hbd)
    clear hbd c2 c3 c4 c5 r0 r1 r2 r3 f0 f1 z2 u0 u1 u2 d0 hg
    generalize w1.drew = w2 at *
    have c2 := HBX2.out.c.2.2.1
    have c4 := HBX2.out.c.2.2.2.2.1
    obtain ⟨r0, r1, r2, r3⟩ := HBX2.out.r
    obtain ⟨f0, f1⟩ := HBX2.out.f
    have z2 := HBX2.out.z
    have d0 := HR2.out.bk.cell 0
    simp only [List.getElem?_cons_zero] at d0
    obtain ⟨-, hog, hofz⟩ := own0 HR2.out.own
    obtain ⟨-, g9, off9, ha9, hg, u0, u1, u2, -⟩ := entCell HR2.out.own.rd k kn3
    simp only [Option.some.injEq, Addr.mk.injEq, and_true] at ha9
    obtain ⟨rfl, rfl⟩ := ha9
    rw [show l.getD k EK.d = (p, ev, en) by simp [List.getD, HX.out]] at u0 u1 u2
    simp only [Nat.zero_add] at u0 u1 u2
    have g1 := hofz (k * 3 + 1)
    clear hofz
    have hR3 := HR2.out.set1 HX.out v
    have hR4 := hR3.set2 (k := k) (p := p) (ev := v) (en := en) (by rw [List.getElem?_set_self (by have := HN0.out; omega)]) (en + 1)
    rw [List.set_set] at hR4
    obtain ⟨w3, hw3⟩ : ∃ q, w2.setCell ⟨g, k * 3 + 1, none⟩ (.string v) = q := ⟨_, rfl⟩
    have hF3 : Fr (fun j => j = g) w2 w3 := by rw [← hw3]; exact Fr.set w2 ⟨g, k * 3 + 1, none⟩ (.string v)
    rw [hw3] at hR3 hR4
    obtain ⟨w4, hw4⟩ : ∃ q, w3.setCell ⟨g, k * 3 + 2, none⟩ (.int .i64 (en + 1)) = q := ⟨_, rfl⟩
    have hF4 : Fr (fun j => j = g) w3 w4 := by rw [← hw4]; exact Fr.set w3 ⟨g, k * 3 + 2, none⟩ (.int .i64 (en + 1))
    rw [hw4] at hR4
    have hF := hF3.trans hF4 (U := fun j => j = g) (fun j _ q => q.elim id id)
    have hk4 : w4.heap[w.heap.size + 1]? = w2.heap[w.heap.size + 1]? := hF.block _ (by omega) (by show ¬ w.heap.size + 1 = g; omega)
    have r0 := (cell_same hk4 0).1.trans r0
    have r1 := (cell_same hk4 1).1.trans r1
    have r2 := (cell_same hk4 2).1.trans r2
    have r3 := (cell_same hk4 3).1.trans r3
    have f1 : ∀ o, w4.frozen? ⟨w.heap.size + 1, o, none⟩ = false := fun o => (cell_same hk4 o).2.trans (f1 o)
    have hz4 : w.heap.size + 1 < w4.heap.size := by have := hF.size; omega
    have d3 := hR3.bk.cell 0
    have d4 := hR4.bk.cell 0
    simp only [List.getElem?_cons_zero] at d3 d4
    have g3 := (own0 hR3.own).2.2 (k * 3 + 2)
    obtain ⟨-, g9, off9, ha9, -, -, -, x3, -⟩ := entCell hR3.own.rd k kn3
    simp only [Option.some.injEq, Addr.mk.injEq, and_true] at ha9
    obtain ⟨rfl, rfl⟩ := ha9
    obtain ⟨-, g9, off9, ha9, -, -, -, x4, -⟩ := entCell hR4.own.rd k kn3
    simp only [Option.some.injEq, Addr.mk.injEq, and_true] at ha9
    obtain ⟨rfl, rfl⟩ := ha9
    have hkl : k < l.length := by have := HN0.out; omega
    simp only [Nat.zero_add, List.getD, List.getElem?_set_self hkl, Option.getD_some] at x3 x4
    have HR4 := Lib.hid hR4
    have HF := Lib.hid hF
    have HZ2 : Hid (w.heap.size + 1 < w2.heap.size) := Lib.hid (by omega)
    clear hR3 hR4 hF3 hF4 hF hk4 f0 z2 hkl hog
    go_wp2_with fail
    go_still_tail 9, (by kernel_rfl)
    go_wp2
    refine bodyPost_ret (v := repV ⟨0, { data := #[] }, en + 1, []⟩ (.slice none 0 0)) (by simp [results, Tryz.results11, go_sem, bad, r0, r1, r2, r3, f1, hz4]) rfl ?_
    rw [HAp2.out]
    exact ⟨RepP.no _ rfl _ _, RDP.after (b := w.heap.size + 1) HRD.out hbw HB2.out (HR4.out.toP HF.out) (fr4 _ _ _ _ _ _).drew (Nat.le_succ _) HZ2.out⟩
set_option maxHeartbeats 4000000 in
theorem rapply_cas {w : World} {base r : Nat} {T : TypeId} {cs : List Value} {v0 : Value} {l : List E3} (h : RD w base r T cs v0 l) (hbw : base ≤ w.heap.size) (hl : l.length ≤ 900) (hR : RightD l) (hz : ∀ x ∈ l, x.1.size ≤ 1000) (hver : ∀ x ∈ l, 0 ≤ x.2.2 ∧ x.2.2 ≤ 4000000000000) (cl sq : Int) (p v : ByteArray) (ver a b : Int) (hp : p.size ≤ 1000) :
  Calls Tryz.prog 11 #[.pointer (some ⟨r, 0, none⟩), cmdV cl sq 6 p v ver a b] w (RApp (appD l 6 p v ver) w base r T cs v0) := by
 obtain ⟨X, hX⟩ : ∃ X, box2 w cl sq 6 p v ver a b = X := ⟨_, rfl⟩
 have HB : Hid (Below w.heap.size w X) := Lib.hid (by rw [← hX]; exact box2_below ..)
 have HBX : Hid (BX w.heap.size cl sq 6 p v ver a b X) := Lib.hid (by rw [← hX]; exact BX.mk0 ..)
 have HV := Lib.hid (rvalid_any p X hp)
 have HRD := Lib.hid h
 have HRt := Lib.hid hR
 have HP := Lib.hid hp
 have HVer := Lib.hid hver
 have HZj : Hid (∀ j, j < l.length → (l.getD j EK.d).1.size ≤ 1000) := Lib.hid fun j hj => hz _ (by simp [List.getD, hj])
 have c2 := HBX.out.c.2.2.1
 have c3 := HBX.out.c.2.2.2.1
 obtain ⟨V, hV⟩ : ∃ q, vld p = q := ⟨_, rfl⟩
 rw [hV] at HV
 have HVe := Lib.hid hV
 clear h hV hR hver
 go_enter Tryz.func11, Tryz.ntmps11
 go_wp2_with fail
 try rw [hX]
 clear hX
 refine HV.out.mono ?_
 rintro e w1 ⟨rfl, hb⟩
 have HB1 := Lib.hid (HB.out.trans (hb.mono HB.out.size))
 have HBX1 := Lib.hid (HBX.out.below hb)
 clear hb HB HBX HV c2 c3
 have c2 := HBX1.out.c.2.2.1
 have c3 := HBX1.out.c.2.2.2.1
 have c4 := HBX1.out.c.2.2.2.2.1
 obtain ⟨r0, r1, r2, r3⟩ := HBX1.out.r
 obtain ⟨f0, f1⟩ := HBX1.out.f
 have z2 := HBX1.out.z
 cases V with
 | false =>
  have HAp : Hid (appD l 6 p v ver = (bad 1, l)) := Lib.hid (by unfold appD rgt; rw [HVe.out]; rfl)
  go_wp2
  refine bodyPost_ret (v := repV (bad 1) (.slice none 0 0)) (by simp [results, Tryz.results11, go_sem, bad, r0, r1, r2, r3, f1, show w.heap.size + 1 < w1.heap.size by omega]) rfl ?_
  rw [HAp.out]
  exact RApp.bad HRD.out (below4 HB1.out _ _ _ _) _ rfl
 | true =>
  by_cases hv64 : 64 < v.size
  ·have v1 : (64 : Int) < (v.size : Int) := by omega
   have v2 : decide ((64 : Int) < (v.size : Int)) = true := decide_eq_true v1
   have HAp : Hid (appD l 6 p v ver = (bad 1, l)) := Lib.hid (by unfold appD rgt; rw [HVe.out]; simp; omega)
   go_wp2
   refine bodyPost_ret (v := repV (bad 1) (.slice none 0 0)) (by simp [results, Tryz.results11, go_sem, bad, r0, r1, r2, r3, f1, show w.heap.size + 1 < w1.heap.size by omega]) rfl ?_
   rw [HAp.out]
   exact RApp.bad HRD.out (below4 HB1.out _ _ _ _) _ rfl
  have v1 : ¬ (64 : Int) < (v.size : Int) := by omega
  have v2 : decide ((64 : Int) < (v.size : Int)) = false := decide_eq_false v1
  have v3 : v.size ≤ 64 := by omega
  by_cases hroot : p = pth []
  ·have e0 : pth [] = { data := #[47] } := rfl
   have HAp : Hid (appD l 6 p v ver = (bad 1, l)) := Lib.hid (by unfold appD rgt; rw [HVe.out, hroot]; simp)
   rw [e0] at hroot
   subst hroot
   clear e0
   go_wp2
   refine bodyPost_ret (v := repV (bad 1) (.slice none 0 0)) (by simp [results, Tryz.results11, go_sem, bad, r0, r1, r2, r3, f1, show w.heap.size + 1 < w1.heap.size by omega]) rfl ?_
   rw [HAp.out]
   exact RApp.bad HRD.out (below4 HB1.out _ _ _ _) _ rfl
  have z0 : ¬ p.toList = [47] := fun e => hroot (by
   rw [Lib.toList_data] at e
   exact data_inj (by rw [show pth [] = { data := #[47] } from rfl, ← e]))
  have z1 : (p.toList == [47]) = false := by simpa using z0
  have HNR := Lib.hid hroot
  have HAp : Hid (appD l 6 p v ver = casD l p v ver) := Lib.hid (by unfold appD rgt; rw [HVe.out]; simp [hroot, v3])
  clear hroot z0
  obtain ⟨a0, c0, e0⟩ := HRD.out.own.slice
  obtain ⟨n0, hn0⟩ : ∃ q, l.length = q := ⟨_, rfl⟩
  rw [hn0] at e0
  subst e0
  have HR1 := Lib.hid (HRD.out.below HB1.out)
  have HF := Lib.hid (rfind_any r a0 n0 c0 l p w1 (HR1.out.bk.cell 0) HR1.out.own.rd hn0.symm (by omega))
  have HT := Lib.hid (rthere_any r a0 n0 c0 l p w1 (HR1.out.bk.cell 0) HR1.out.own.rd hn0.symm (by omega))
  have HN0 := Lib.hid hn0.symm
  have hn900 : n0 ≤ 900 := by omega
  obtain ⟨F, hFi⟩ : ∃ F, fixI l p = F := ⟨_, rfl⟩
  rw [hFi] at HF
  have HFi := Lib.hid hFi
  clear hn0 hFi hv64
  go_wp2_with fail
  refine HF.out.mono ?_
  rintro e w2 ⟨rfl, rfl⟩
  clear HF
  go_wp2_with fail
  refine HT.out.mono ?_
  rintro e w2 ⟨rfl, rfl⟩
  obtain ⟨t0, ht0⟩ : ∃ q, thrD l p = q := ⟨_, rfl⟩
  rw [ht0]
  have HT0 := Lib.hid ht0
  clear ht0 HT
  cases t0 with
  | false =>
   have HAp2 : Hid (appD l 6 p v ver = (bad 2, l)) := Lib.hid (by rw [HAp.out]; unfold casD; rw [if_neg (by rw [HT0.out]; simp)]; unfold setD; rw [fnd_no HNR.out HT0.out])
   go_wp2
   refine bodyPost_ret (v := repV (bad 2) (.slice none 0 0)) (by simp [results, Tryz.results11, go_sem, bad, r0, r1, r2, r3, f1, show w.heap.size + 1 < w1.heap.size by omega]) rfl ?_
   rw [HAp2.out]
   exact RApp.bad HRD.out (below4 HB1.out _ _ _ _) _ rfl
  | true =>
   rcases fix_cases l p with ⟨hf, hd⟩ | ⟨k, ev, en, hk, hx, hf, hd⟩
   ·exact absurd HT0.out (by rw [thrD_no HNR.out, hd]; simp)
   ·obtain rfl : F = (k : Int) := by rw [← HFi.out, hf]
    have HX := Lib.hid hx
    have HFd := Lib.hid hd
    have d0 := HR1.out.bk.cell 0
    simp only [List.getElem?_cons_zero] at d0
    have HLk := Lib.hid hx
    obtain ⟨e00, g, off, ha, hg, u0, u1, u2, hkl⟩ := entCell HR1.out.own.rd k (by have := HN0.out; omega)
    have hgd : l.getD k EK.d = (p, ev, en) := by simp [List.getD, hx]
    rw [hgd] at u0 u1 u2
    simp only at u0 u1 u2
    subst ha
    have kn1 : (k : Int) < (n0 : Int) := by have := HN0.out; omega
    have kn0 : ¬ (k : Int) < 0 := by omega
    have kn3 : k < n0 := by omega
    have hen : 0 ≤ en ∧ en ≤ 4000000000000 := HVer.out _ (List.mem_iff_getElem?.2 ⟨k, hx⟩)
    have HEn := Lib.hid hen
    clear e00 hgd hkl hx hk hen
    obtain ⟨ho0, hog, hofz⟩ := own0 HR1.out.own
    subst ho0
    have HOG := Lib.hid hog
    simp only [Nat.zero_add] at u0 u1 u2
    have hgw : g < w.heap.size := (HRD.out.own.blk g rfl).1
    have w1w : IntKind.i64.wrap (en + 1) = en + 1 := by rw [IntKind.wrap_i64]; have := HEn.out; omega
    clear hf hd hog hofz
    have c5 := HBX1.out.c.2.2.2.2.2.1
    by_cases hve : en = ver
    ·subst hve
     have z3 : (en == en) = true := by simp
     have z4 : (en != en) = false := by simp
     have HAp2 : Hid (appD l 6 p v en = (⟨0, { data := #[] }, en + 1, []⟩, l.set k (p, v, en + 1))) := Lib.hid (by rw [HAp.out]; unfold casD; rw [if_neg (by rw [HT0.out, HFd.out]; simp)]; unfold setD; rw [HFd.out]; simp only; rw [set_put HRt.out.rise HX.out])
     have HC30 : Hid (∀ wq, Below w1.heap.size w1 wq → (wq.cell? ⟨w.heap.size, 2, none⟩ = some (.int .i64 6) ∧ wq.cell? ⟨w.heap.size, 5, none⟩ = some (.int .i64 en) ∧ wq.cell? ⟨r, 0, none⟩ = some (.slice (some ⟨g, 0, none⟩) n0 c0) ∧ wq.cell? ⟨g, k * 3 + 2, none⟩ = some (.int .i64 en))) := Lib.hid fun wq hq => ⟨(hq.cell (p := ⟨w.heap.size, 2, none⟩) (by show w.heap.size < _; omega)).trans c2, (hq.cell (p := ⟨w.heap.size, 5, none⟩) (by show w.heap.size < _; omega)).trans c5, (hq.cell (p := ⟨r, 0, none⟩) (HR1.out.bk.lt)).trans d0, (hq.cell (p := ⟨g, k * 3 + 2, none⟩) hg).trans u2⟩
     go_wp2_with fail
     refine wp_region_held_drew (S := (fun w' => w'.cell? ⟨w.heap.size, 2, none⟩ = some (.int .i64 6) ∧ w'.cell? ⟨w.heap.size, 5, none⟩ = some (.int .i64 en) ∧ w'.cell? ⟨r, 0, none⟩ = some (.slice (some ⟨g, 0, none⟩) n0 c0) ∧ w'.cell? ⟨g, k * 3 + 2, none⟩ = some (.int .i64 en))) (by kernel_rfl) ?_ (fun hHeld => ?_)
     ·((first
      | exact HC30.out _ (Below.refl _ _)
      | exact HC30.out _ (Below.refl _ _).drew
      | fail))
     (refine tkA 0 (v := ?_) ?_ ?_; rotate_left; focus (intro w hSw; (try dsimp only at hSw); go_simp; try rfl)); try simp only [Act.put, gA1, gA2, gA3, gA4, gA5, gA6]
     (refine tkA 1 (v := ?_) ?_ ?_; rotate_left; focus (intro w hSw; (try dsimp only at hSw); go_simp; try rfl)); try simp only [Act.put, gA1, gA2, gA3, gA4, gA5, gA6]
     (refine tkA 2 (v := ?_) ?_ ?_; rotate_left; focus (intro w hSw; (try dsimp only at hSw); go_simp; try rfl)); try simp only [Act.put, gA1, gA2, gA3, gA4, gA5, gA6]
     (refine tkA 3 (v := ?_) ?_ ?_; rotate_left; focus (intro w hSw; (try dsimp only at hSw); go_simp; try rfl)); try simp only [Act.put, gA1, gA2, gA3, gA4, gA5, gA6]
     (refine tkA 4 (v := ?_) ?_ ?_; rotate_left; focus (intro w hSw; (try dsimp only at hSw); go_simp; try rfl)); try simp only [Act.put, gA1, gA2, gA3, gA4, gA5, gA6]
     (refine tkA 5 (v := ?_) ?_ ?_; rotate_left; focus (intro w hSw; (try dsimp only at hSw); go_simp; try rfl)); try simp only [Act.put, gA1, gA2, gA3, gA4, gA5, gA6]
     (refine tkA 6 (v := ?_) ?_ ?_; rotate_left; focus (intro w hSw; (try dsimp only at hSw); go_simp; try rfl)); try simp only [Act.put, gA1, gA2, gA3, gA4, gA5, gA6]
     (refine tkA 7 (v := ?_) ?_ ?_; rotate_left; focus (intro w hSw; (try dsimp only at hSw); go_simp; try rfl)); try simp only [Act.put, gA1, gA2, gA3, gA4, gA5, gA6]
     (refine tkA 8 (v := ?_) ?_ ?_; rotate_left; focus (intro w hSw; (try dsimp only at hSw); go_simp; try rfl)); try simp only [Act.put, gA1, gA2, gA3, gA4, gA5, gA6]
     (refine tkA 9 (v := ?_) ?_ ?_; rotate_left; focus (intro w hSw; (try dsimp only at hSw); go_simp; try rfl)); try simp only [Act.put, gA1, gA2, gA3, gA4, gA5, gA6]
     (refine tkA 10 (v := ?_) ?_ ?_; rotate_left; focus (intro w hSw; (try dsimp only at hSw); go_simp; try rfl)); try simp only [Act.put, gA1, gA2, gA3, gA4, gA5, gA6]
     (refine tkA 11 (v := ?_) ?_ ?_; rotate_left; focus (intro w hSw; (try dsimp only at hSw); go_simp; try rfl)); try simp only [Act.put, gA1, gA2, gA3, gA4, gA5, gA6]
     (refine tkA 12 (v := ?_) ?_ ?_; rotate_left; focus (intro w hSw; (try dsimp only at hSw); go_simp; try rfl)); try simp only [Act.put, gA1, gA2, gA3, gA4, gA5, gA6]
     (refine tkA 13 (v := ?_) ?_ ?_; rotate_left; focus (intro w hSw; (try dsimp only at hSw); go_simp; try rfl)); try simp only [Act.put, gA1, gA2, gA3, gA4, gA5, gA6]
     (refine tkA 14 (v := ?_) ?_ ?_; rotate_left; focus (intro w hSw; (try dsimp only at hSw); go_simp; try rfl)); try simp only [Act.put, gA1, gA2, gA3, gA4, gA5, gA6]
     (refine tkA 15 (v := ?_) ?_ ?_; rotate_left; focus (intro w hSw; (try dsimp only at hSw); go_simp; try rfl)); try simp only [Act.put, gA1, gA2, gA3, gA4, gA5, gA6]
     refine wpAnyH_done (by kernel_rfl) ?_ _
     have hbd : Below w1.heap.size w1 w1.drew := (Below.refl _ _).drew
     have HBd := Lib.hid hbd
     have HB2 := Lib.hid (HB1.out.trans (hbd.mono HB1.out.size))
     have HBX2 := Lib.hid (HBX1.out.below hbd)
     have HR2 := Lib.hid (HR1.out.below hbd)
     clear hbd c2 c3 c4 c5 r0 r1 r2 r3 f0 f1 z2 u0 u1 u2 d0 hg
     generalize w1.drew = w2 at *
     have c2 := HBX2.out.c.2.2.1
     have c4 := HBX2.out.c.2.2.2.2.1
     obtain ⟨r0, r1, r2, r3⟩ := HBX2.out.r
     obtain ⟨f0, f1⟩ := HBX2.out.f
     have z2 := HBX2.out.z
     have d0 := HR2.out.bk.cell 0
     simp only [List.getElem?_cons_zero] at d0
     obtain ⟨-, hog, hofz⟩ := own0 HR2.out.own
     obtain ⟨-, g9, off9, ha9, hg, u0, u1, u2, -⟩ := entCell HR2.out.own.rd k kn3
     simp only [Option.some.injEq, Addr.mk.injEq, and_true] at ha9
     obtain ⟨rfl, rfl⟩ := ha9
     rw [show l.getD k EK.d = (p, ev, en) by simp [List.getD, HX.out]] at u0 u1 u2
     simp only [Nat.zero_add] at u0 u1 u2
     have g1 := hofz (k * 3 + 1)
     clear hofz
     have hR3 := HR2.out.set1 HX.out v
     have hR4 := hR3.set2 (k := k) (p := p) (ev := v) (en := en) (by rw [List.getElem?_set_self (by have := HN0.out; omega)]) (en + 1)
     rw [List.set_set] at hR4
     obtain ⟨w3, hw3⟩ : ∃ q, w2.setCell ⟨g, k * 3 + 1, none⟩ (.string v) = q := ⟨_, rfl⟩
     have hF3 : Fr (fun j => j = g) w2 w3 := by rw [← hw3]; exact Fr.set w2 ⟨g, k * 3 + 1, none⟩ (.string v)
     rw [hw3] at hR3 hR4
     obtain ⟨w4, hw4⟩ : ∃ q, w3.setCell ⟨g, k * 3 + 2, none⟩ (.int .i64 (en + 1)) = q := ⟨_, rfl⟩
     have hF4 : Fr (fun j => j = g) w3 w4 := by rw [← hw4]; exact Fr.set w3 ⟨g, k * 3 + 2, none⟩ (.int .i64 (en + 1))
     rw [hw4] at hR4
     have hF := hF3.trans hF4 (U := fun j => j = g) (fun j _ q => q.elim id id)
     have hk4 : w4.heap[w.heap.size + 1]? = w2.heap[w.heap.size + 1]? := hF.block _ (by omega) (by show ¬ w.heap.size + 1 = g; omega)
     have r0 := (cell_same hk4 0).1.trans r0
     have r1 := (cell_same hk4 1).1.trans r1
     have r2 := (cell_same hk4 2).1.trans r2
     have r3 := (cell_same hk4 3).1.trans r3
     have f1 : ∀ o, w4.frozen? ⟨w.heap.size + 1, o, none⟩ = false := fun o => (cell_same hk4 o).2.trans (f1 o)
     have hz4 : w.heap.size + 1 < w4.heap.size := by have := hF.size; omega
     have d3 := hR3.bk.cell 0
     have d4 := hR4.bk.cell 0
     simp only [List.getElem?_cons_zero] at d3 d4
     have g3 := (own0 hR3.own).2.2 (k * 3 + 2)
     obtain ⟨-, g9, off9, ha9, -, -, -, x3, -⟩ := entCell hR3.own.rd k kn3
     simp only [Option.some.injEq, Addr.mk.injEq, and_true] at ha9
     obtain ⟨rfl, rfl⟩ := ha9
     obtain ⟨-, g9, off9, ha9, -, -, -, x4, -⟩ := entCell hR4.own.rd k kn3
     simp only [Option.some.injEq, Addr.mk.injEq, and_true] at ha9
     obtain ⟨rfl, rfl⟩ := ha9
     have hkl : k < l.length := by have := HN0.out; omega
     simp only [Nat.zero_add, List.getD, List.getElem?_set_self hkl, Option.getD_some] at x3 x4
     have HR4 := Lib.hid hR4
     have HF := Lib.hid hF
     have HZ2 : Hid (w.heap.size + 1 < w2.heap.size) := Lib.hid (by omega)
     clear hR3 hR4 hF3 hF4 hF hk4 f0 z2 hkl hog
     go_wp2_with fail
     go_still_tail 9, (by kernel_rfl)
     go_wp2
     refine bodyPost_ret (v := repV ⟨0, { data := #[] }, en + 1, []⟩ (.slice none 0 0)) (by simp [results, Tryz.results11, go_sem, bad, r0, r1, r2, r3, f1, hz4]) rfl ?_
     rw [HAp2.out]
     exact ⟨RepP.no _ rfl _ _, RDP.after (b := w.heap.size + 1) HRD.out hbw HB2.out (HR4.out.toP HF.out) (fr4 _ _ _ _ _ _).drew (Nat.le_succ _) HZ2.out⟩
    ·have z3 : (en == ver) = false := by simpa using hve
     have z4 : (en != ver) = true := by simpa using hve
     have HAp2 : Hid (appD l 6 p v ver = (⟨5, { data := #[] }, en, []⟩, l)) := Lib.hid (by rw [HAp.out]; unfold casD; rw [if_pos (by rw [HT0.out, HFd.out]; simp [hve])]; rw [HFd.out]; rfl)
     clear hve
     have HC30 : Hid (∀ wq, Below w1.heap.size w1 wq → (wq.cell? ⟨w.heap.size, 2, none⟩ = some (.int .i64 6) ∧ wq.cell? ⟨w.heap.size, 5, none⟩ = some (.int .i64 ver) ∧ wq.cell? ⟨r, 0, none⟩ = some (.slice (some ⟨g, 0, none⟩) n0 c0) ∧ wq.cell? ⟨g, k * 3 + 2, none⟩ = some (.int .i64 en))) := Lib.hid fun wq hq => ⟨(hq.cell (p := ⟨w.heap.size, 2, none⟩) (by show w.heap.size < _; omega)).trans c2, (hq.cell (p := ⟨w.heap.size, 5, none⟩) (by show w.heap.size < _; omega)).trans c5, (hq.cell (p := ⟨r, 0, none⟩) (HR1.out.bk.lt)).trans d0, (hq.cell (p := ⟨g, k * 3 + 2, none⟩) hg).trans u2⟩
     go_wp2_with fail
     refine wp_region_held_drew (S := (fun w' => w'.cell? ⟨w.heap.size, 2, none⟩ = some (.int .i64 6) ∧ w'.cell? ⟨w.heap.size, 5, none⟩ = some (.int .i64 ver) ∧ w'.cell? ⟨r, 0, none⟩ = some (.slice (some ⟨g, 0, none⟩) n0 c0) ∧ w'.cell? ⟨g, k * 3 + 2, none⟩ = some (.int .i64 en))) (by kernel_rfl) ?_ (fun hHeld => ?_)
     ·((first
      | exact HC30.out _ (Below.refl _ _)
      | exact HC30.out _ (Below.refl _ _).drew
      | fail))
     (refine tkA 0 (v := ?_) ?_ ?_; rotate_left; focus (intro w hSw; (try dsimp only at hSw); go_simp; try rfl)); try simp only [Act.put, gA1, gA2, gA3, gA4, gA5, gA6]
     (refine tkA 1 (v := ?_) ?_ ?_; rotate_left; focus (intro w hSw; (try dsimp only at hSw); go_simp; try rfl)); try simp only [Act.put, gA1, gA2, gA3, gA4, gA5, gA6]
     (refine tkA 2 (v := ?_) ?_ ?_; rotate_left; focus (intro w hSw; (try dsimp only at hSw); go_simp; try rfl)); try simp only [Act.put, gA1, gA2, gA3, gA4, gA5, gA6]
     (refine tkA 3 (v := ?_) ?_ ?_; rotate_left; focus (intro w hSw; (try dsimp only at hSw); go_simp; try rfl)); try simp only [Act.put, gA1, gA2, gA3, gA4, gA5, gA6]
     (refine tkA 4 (v := ?_) ?_ ?_; rotate_left; focus (intro w hSw; (try dsimp only at hSw); go_simp; try rfl)); try simp only [Act.put, gA1, gA2, gA3, gA4, gA5, gA6]
     (refine tkA 5 (v := ?_) ?_ ?_; rotate_left; focus (intro w hSw; (try dsimp only at hSw); go_simp; try rfl)); try simp only [Act.put, gA1, gA2, gA3, gA4, gA5, gA6]
     (refine tkA 6 (v := ?_) ?_ ?_; rotate_left; focus (intro w hSw; (try dsimp only at hSw); go_simp; try rfl)); try simp only [Act.put, gA1, gA2, gA3, gA4, gA5, gA6]
     (refine tkA 7 (v := ?_) ?_ ?_; rotate_left; focus (intro w hSw; (try dsimp only at hSw); go_simp; try rfl)); try simp only [Act.put, gA1, gA2, gA3, gA4, gA5, gA6]
     (refine tkA 8 (v := ?_) ?_ ?_; rotate_left; focus (intro w hSw; (try dsimp only at hSw); go_simp; try rfl)); try simp only [Act.put, gA1, gA2, gA3, gA4, gA5, gA6]
     (refine tkA 9 (v := ?_) ?_ ?_; rotate_left; focus (intro w hSw; (try dsimp only at hSw); go_simp; try rfl)); try simp only [Act.put, gA1, gA2, gA3, gA4, gA5, gA6]
     (refine tkA 10 (v := ?_) ?_ ?_; rotate_left; focus (intro w hSw; (try dsimp only at hSw); go_simp; try rfl)); try simp only [Act.put, gA1, gA2, gA3, gA4, gA5, gA6]
     (refine tkA 11 (v := ?_) ?_ ?_; rotate_left; focus (intro w hSw; (try dsimp only at hSw); go_simp; try rfl)); try simp only [Act.put, gA1, gA2, gA3, gA4, gA5, gA6]
     (refine tkA 12 (v := ?_) ?_ ?_; rotate_left; focus (intro w hSw; (try dsimp only at hSw); go_simp; try rfl)); try simp only [Act.put, gA1, gA2, gA3, gA4, gA5, gA6]
     (refine tkA 13 (v := ?_) ?_ ?_; rotate_left; focus (intro w hSw; (try dsimp only at hSw); go_simp; try rfl)); try simp only [Act.put, gA1, gA2, gA3, gA4, gA5, gA6]
     (refine tkA 14 (v := ?_) ?_ ?_; rotate_left; focus (intro w hSw; (try dsimp only at hSw); go_simp; try rfl)); try simp only [Act.put, gA1, gA2, gA3, gA4, gA5, gA6]
     (refine tkA 15 (v := ?_) ?_ ?_; rotate_left; focus (intro w hSw; (try dsimp only at hSw); go_simp; try rfl)); try simp only [Act.put, gA1, gA2, gA3, gA4, gA5, gA6]
     refine wpAnyH_done (by kernel_rfl) ?_ _
     have hbd : Below w1.heap.size w1 w1.drew := (Below.refl _ _).drew
     have HBd := Lib.hid hbd
     have HB2 := Lib.hid (HB1.out.trans (hbd.mono HB1.out.size))
     have HBX2 := Lib.hid (HBX1.out.below hbd)
     have HR2 := Lib.hid (HR1.out.below hbd)
     clear hbd c2 c3 c4 c5 r0 r1 r2 r3 f0 f1 z2 u0 u1 u2 d0 hg
     generalize w1.drew = w2 at *
     have c2 := HBX2.out.c.2.2.1
     have c4 := HBX2.out.c.2.2.2.2.1
     obtain ⟨r0, r1, r2, r3⟩ := HBX2.out.r
     obtain ⟨f0, f1⟩ := HBX2.out.f
     have z2 := HBX2.out.z
     have d0 := HR2.out.bk.cell 0
     simp only [List.getElem?_cons_zero] at d0
     obtain ⟨-, hog, hofz⟩ := own0 HR2.out.own
     obtain ⟨-, g9, off9, ha9, hg, u0, u1, u2, -⟩ := entCell HR2.out.own.rd k kn3
     simp only [Option.some.injEq, Addr.mk.injEq, and_true] at ha9
     obtain ⟨rfl, rfl⟩ := ha9
     rw [show l.getD k EK.d = (p, ev, en) by simp [List.getD, HX.out]] at u0 u1 u2
     simp only [Nat.zero_add] at u0 u1 u2
     have g1 := hofz (k * 3 + 1)
     clear hofz
     go_wp2
     refine bodyPost_ret (v := repV ⟨5, { data := #[] }, en, []⟩ (.slice none 0 0)) (by simp [results, Tryz.results11, go_sem, bad, r0, r1, r2, r3, f1, show w.heap.size + 1 < w2.heap.size by omega]) rfl ?_
     rw [HAp2.out]
     exact ⟨RepP.no _ rfl _ _, RDP.same HRD.out (below4 HB2.out _ _ _ _)⟩
end Go.Proofs.YtodcmhmankmaoaaGreat
