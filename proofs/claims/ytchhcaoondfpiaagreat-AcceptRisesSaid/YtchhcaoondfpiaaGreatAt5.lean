/-
  The walks of package attr's Local.
-/
import Derived.Test.YtchhcaoondfpiaaGreatAcAt
import Derived.Test.YtchhcaoondfpiaaGreatTa
import Derived.Lib.MinMax
import Derived.Deep.DeepMust
namespace Go.Proofs.YtchhcaoondfpiaaGreat
open Tc (ML)
open Go.RowKit
set_option linter.unusedSimpArgs false
set_option linter.unusedVariables false
set_option maxRecDepth 100000

/-- Does a known one matter? -/
def matK (id : I3) (c : CM) (k : Kn) : Bool := !decide (k.id = id) && (decide (k.id.1 = id.1) && Tc.bth k.cm.cl k.cm.op k.cm.pa c.cl c.op c.pa)
/-- Where one stands among those that are known. -/
def lclA (l : List Kn) (id : I3) (c : CM) : At := (mxS ((l.filter (matK id c)).map (·.a.1)) + 1, clnI ((l.filter (matK id c)).map (·.id)))
abbrev cmV (c : CM) : Value := .agg #[.int .i64 c.cl, .int .i64 c.sq, .int .i64 c.op, .string c.pa, .string c.va, .int .i64 c.ver, .int .i64 c.a, .int .i64 c.b]
def CmBox (w : World) (g : Nat) (c : CM) : Prop := Bk w g 43 (cmE c)
theorem cmBox_cells {w : World} {g : Nat} {c : CM} (h : CmBox w g c) : w.cell? ⟨g, 0, none⟩ = some (.int .i64 c.cl) ∧ w.cell? ⟨g, 1, none⟩ = some (.int .i64 c.sq) ∧ w.cell? ⟨g, 2, none⟩ = some (.int .i64 c.op) ∧ w.cell? ⟨g, 3, none⟩ = some (.string c.pa) ∧ w.cell? ⟨g, 4, none⟩ = some (.string c.va) ∧ w.cell? ⟨g, 5, none⟩ = some (.int .i64 c.ver) ∧ w.cell? ⟨g, 6, none⟩ = some (.int .i64 c.a) ∧ w.cell? ⟨g, 7, none⟩ = some (.int .i64 c.b) := ⟨h.cell 0, h.cell 1, h.cell 2, h.cell 3, h.cell 4, h.cell 5, h.cell 6, h.cell 7⟩
set_option maxHeartbeats 4000000 in
theorem mat_any (g gc : Nat) (id : I3) (c : CM) (k : Kn) (v : Value) (hv : ∃ a n c, v = .slice a n c) (w : World) (hm : ML w) (h : IdBox w g id) (hc : CmBox w gc c) (hp1 : k.cm.pa.size ≤ 1000) (hp2 : c.pa.size ≤ 1000) :
    Calls Tryz.prog 95 #[knV k v, .pointer (some ⟨g, 0, none⟩), .pointer (some ⟨gc, 0, none⟩)] w fun e w' => e = .returned (.bool (matK id c k)) ∧ Below w.heap.size w w' := by
  obtain ⟨av, nv, cv, rfl⟩ := hv
  obtain ⟨i1, i2, i3⟩ := id
  obtain ⟨c1, c2, c3, c4, c5, c6, c7, c8⟩ := c
  obtain ⟨⟨x1, x2, x3⟩, ⟨d1, d2, d3, d4, d5, d6, d7, d8⟩, s, l⟩ := k
  have HBX := Lib.hid h
  have HCX := Lib.hid hc
  have hlt := h.lt
  have hltc := hc.lt
  have HM := Lib.hid hm
  obtain ⟨p0, p1, p2⟩ := idBox_cells h
  obtain ⟨r0, r1, r2, r3, r4, r5, r6, r7⟩ := cmBox_cells hc
  simp only [knV, matK] at hp1 hp2 r0 r1 r2 r3 r4 r5 r6 r7 ⊢
  obtain ⟨he, hgd⟩ := neI_run x1 x2 x3 i1 i2 i3
  have HB0 := Lib.hid (al1 w (.cells #[.int .i64 x1, .int .i64 x2, .int .i64 x3, .int .i64 d1, .int .i64 d2, .int .i64 d3, .string d4, .string d5, .int .i64 d6, .int .i64 d7, .int .i64 d8, .int .i64 s, .slice av nv cv] 67))
  have HBT := Lib.hid (Tc.both_any d1 d2 d3 d4 d5 d6 d7 d8 c1 c2 c3 c4 c5 c6 c7 c8 _ hp1 hp2 (hm.below HB0.out))
  obtain ⟨D, hD⟩ : ∃ D, Tc.bth d1 d3 d4 c1 c3 c4 = D := ⟨_, rfl⟩
  rw [hD] at HBT ⊢
  clear h hc hm hD hp1 hp2
  cases hD1 : decide (((x1, x2, x3) : I3) = (i1, i2, i3)) with
  | true =>
    rw [hD1] at he
    simp only [Bool.not_true, Bool.false_and]
    clear hD1 HBT
    go_enter Tryz.func95, Tryz.ntmps95
    go_wp2
    go_ret
    exact ⟨rfl, HB0.out⟩
  | false =>
    rw [hD1] at he
    simp only [Bool.not_false, Bool.true_and]
    clear hD1
    cases g1 : (x1 == i1) with
    | false =>
      have e1 : decide (x1 = i1) = false := by simpa using g1
      simp only [e1, Bool.false_and]
      clear HBT e1
      go_enter Tryz.func95, Tryz.ntmps95
      go_wp2
      go_ret
      exact ⟨rfl, HB0.out⟩
    | true =>
      have e1 : decide (x1 = i1) = true := by simpa using g1
      simp only [e1, Bool.true_and]
      clear e1
      go_enter Tryz.func95, Tryz.ntmps95
      go_wp2_with fail
      refine HBT.out.mono ?_
      rintro e w1 ⟨rfl, hb⟩
      have HB := Lib.hid (HB0.out.trans (hb.mono (by simp)))
      clear hb
      go_wp2
      go_ret
      exact ⟨rfl, HB.out⟩
theorem knCell {w : World} {a : Option Addr} {n c : Nat} {rs : List (Cls 13)} {l : List Kn} (h : RowIs KnK knS w (.slice a n c) rs l) (k : Nat) (hk : k < n) : n = l.length ∧ ∃ (hl : k < l.length) (g off : Nat) (v : Value), a = some ⟨g, off, none⟩ ∧ g < w.heap.size ∧
    (∀ j u, (knE l[k] v)[j]? = some u → w.cell? ⟨g, off + k * 13 + j, none⟩ = some u) ∧ okI l[k].id ∧ IK.Rd w v l[k].a.2 ∧ okL l[k].a.2 := by
  obtain ⟨hn, hl, g, off, cs, ha, hg, ⟨v, hcs, h0, h1, h2⟩, hc⟩ := h.el rfl k hk
  subst hcs
  exact ⟨hn, hl, g, off, v, ha, hg, hc, h0, h1, h2⟩
theorem mxS_snoc (l : List Int) (x : Int) : mxS (l ++ [x]) = max (mxS l) x := by simp [mxS]
theorem mxS_bound (M : Int) (hM : 0 ≤ M) : ∀ (l : List Int), (∀ x ∈ l, x ≤ M) → 0 ≤ mxS l ∧ mxS l ≤ M := by
  intro l
  unfold mxS
  have : ∀ (l : List Int) (a : Int), 0 ≤ a → a ≤ M → (∀ x ∈ l, x ≤ M) → 0 ≤ l.foldl max a ∧ l.foldl max a ≤ M := by
    intro l
    induction l with
    | nil => intro a h1 h2 _; exact ⟨h1, h2⟩
    | cons x l ih =>
      intro a h1 h2 h3
      have := h3 x (by simp)
      exact ih (max a x) (by omega) (by omega) (fun y hy => h3 y (by simp [hy]))
  exact fun h => this l 0 (Int.le_refl _) hM h
def LocP (l : List Kn) (id : I3) (c : CM) (w : World) (e : Ending) (w' : World) : Prop := AttP (lclA l id c) w e w'
set_option maxHeartbeats 8000000 in
theorem local_any (v : Value) (rs : List (Cls 13)) (l : List Kn) (id : I3) (c : CM) (w : World) (h : RowIs KnK knS w v rs l) (hl : l.length ≤ 1000) (hm : ML w) (hs : ∀ k ∈ l, k.cm.pa.size ≤ 1000 ∧ k.a.1 ≤ 1125899906842624) (hp : c.pa.size ≤ 1000) :
    Calls Tryz.prog 85 #[v, .agg #[.int .i64 id.1, .int .i64 id.2.1, .int .i64 id.2.2], cmV c] w (AttP (lclA l id c) w) := by
  obtain ⟨a, ca, e⟩ := h.rd.slice
  subst e
  obtain ⟨N, hN⟩ : ∃ N, l.length = N := ⟨_, rfl⟩
  have hlen := h.len
  rw [hN] at hlen hl
  rw [hlen] at h ⊢
  have HN := Lib.hid hN
  have H := Lib.hid h
  have HS := Lib.hid hs
  have HP := Lib.hid hp
  have hok : ∀ k ∈ l, okI k.id := fun x hx => by
    obtain ⟨j, hj, rfl⟩ := List.mem_iff_getElem.1 hx
    obtain ⟨_, _, h0, _⟩ := h.at' j (by rw [h.len]; exact hj) hj
    exact h0
  have HOK := Lib.hid hok
  obtain ⟨X, hX⟩ : ∃ X, ((w.alloc (.cells #[.int .i64 id.1, .int .i64 id.2.1, .int .i64 id.2.2] 37)).alloc (.cells #[.int .i64 c.cl, .int .i64 c.sq, .int .i64 c.op, .string c.pa, .string c.va, .int .i64 c.ver, .int .i64 c.a, .int .i64 c.b] 43)).alloc (.cells #[.int .i64 0, .slice none 0 0] aT) = X := ⟨_, rfl⟩
  have HZX : Hid (X.heap.size = w.heap.size + 3) := Lib.hid (by rw [← hX]; simp)
  have HBX : Hid (Below w.heap.size w X) := Lib.hid (by rw [← hX]; exact al3 _ _ _ _)
  have HID : Hid (IdBox X w.heap.size id) := Lib.hid (by rw [← hX]; exact (((Bk.newAt rfl _ _).old _).old _))
  have HCB : Hid (CmBox X (w.heap.size + 1) c) := Lib.hid (by rw [← hX]; exact ((Bk.newAt (by simp) _ _).old _))
  have HR : Hid (Bk X (w.heap.size + 2) aT [.int .i64 0, .slice none 0 0]) := Lib.hid (by rw [← hX]; exact Bk.newAt (by simp) _ _)
  have HM := Lib.hid (hm.below HBX.out)
  clear h hN hlen hs hp hok hm
  go_enter Tryz.func85, Tryz.ntmps85
  go_wp2_with fail
  clear hX
  go_loopw [8, 9, 15] (fun d s i wr => ∃ (k : Nat) (v : Value), k ≤ N ∧ v = d ∧ i = .int .i64 k ∧ s = .int .i64 (mxS (((l.take k).filter (matK id c)).map (·.a.1))) ∧ Hid (IK.Own wr (w.heap.size + 3) v (((l.take k).filter (matK id c)).map (·.id))) ∧ Hid (Below (w.heap.size + 3) X wr)) (fun _ _ i _ => N - (intOf i).toNat)
  case atStart => exact ⟨0, _, Nat.zero_le _, rfl, rfl, rfl, Lib.hid (Knd.Own.nil X _), Lib.hid (Below.refl _ _)⟩
  case round =>
    obtain ⟨k, v, hk, rfl, rfl, rfl, hO, hB⟩ := hrel
    have hSb := mxS_bound 1125899906842624 (by omega) (((l.take k).filter (matK id c)).map (·.a.1)) (fun x hx => by
      obtain ⟨y, hy, rfl⟩ := List.mem_map.1 hx
      exact (HS.out y (List.mem_of_mem_take (List.mem_filter.1 hy).1)).2)
    obtain ⟨S, hS⟩ : ∃ S, mxS (((l.take k).filter (matK id c)).map (·.a.1)) = S := ⟨_, rfl⟩
    rw [hS] at hSb ⊢
    have HSS := Lib.hid hS
    obtain ⟨va, vc, hve⟩ := hO.out.slice
    obtain ⟨M, hM⟩ : ∃ M, (((l.take k).filter (matK id c)).map (·.id)).length = M := ⟨_, rfl⟩
    have HML : Hid ((((l.take k).filter (matK id c)).map (·.id)).length ≤ 1000) := Lib.hid (by
      rw [List.length_map]
      have h1 := List.length_filter_le (matK id c) (l.take k)
      rw [List.length_take] at h1
      omega)
    rw [hM] at hve
    subst hve
    have HBw : Hid (Below w.heap.size w wr) := Lib.hid (HBX.out.trans (hB.out.mono (by omega)))
    have HIDr : Hid (IdBox wr w.heap.size id) := Lib.hid (HID.out.on hB.out (by omega))
    have HCBr : Hid (CmBox wr (w.heap.size + 1) c) := Lib.hid (HCB.out.on hB.out (by omega))
    have HRr : Hid (Bk wr (w.heap.size + 2) aT [.int .i64 0, .slice none 0 0]) := Lib.hid (HR.out.on hB.out (by omega))
    have HZr : Hid (w.heap.size + 3 ≤ wr.heap.size) := Lib.hid (by have := hB.out.size; rw [HZX.out] at this; exact this)
    have HMr : Hid (ML wr) := Lib.hid (HM.out.below (hB.out.mono (by rw [HZX.out]; exact Nat.le_refl _)))
    clear hS hM
    by_cases hlt : k < N
    · have hlt' : (k : Int) < (N : Int) := by omega
      have hkb : (k : Int) ≤ 1000 := by omega
      obtain ⟨e0, hkl, g2, off2, v2, hda, hg2, hc, hi0, hrd, hok2⟩ := knCell H.out k hlt
      subst hda
      obtain ⟨av, cv, hv2⟩ := hrd.slice
      obtain ⟨nv, hnv⟩ : ∃ nv, l[k].a.2.length = nv := ⟨_, rfl⟩
      rw [hnv] at hv2
      subst hv2
      obtain ⟨K1, hK1⟩ : ∃ K1, l[k] = K1 := ⟨_, rfl⟩
      have hmem : K1 ∈ l := by rw [← hK1]; exact List.getElem_mem hkl
      have hsz := HS.out K1 hmem
      have hts : l.take (k + 1) = l.take k ++ [K1] := by rw [List.take_succ_eq_append_getElem hkl, hK1]
      rw [hK1] at hc
      have HTS := Lib.hid hts
      have HOK1 := Lib.hid (HOK.out K1 hmem)
      have HMA := Lib.hid (mat_any w.heap.size (w.heap.size + 1) id c K1 (.slice av nv cv) ⟨_, _, _, rfl⟩ (wr.alloc (.cells (knE K1 (.slice av nv cv)).toArray 67)) (HMr.out.below (al1 _ _)) (HIDr.out.old _) (HCBr.out.old _) hsz.1 HP.out)
      have HRB := Lib.hid (Bk.newAt (w := wr) rfl 67 (knE K1 (.slice av nv cv)))
      obtain ⟨D, hD⟩ : ∃ D, matK id c K1 = D := ⟨_, rfl⟩
      rw [hD] at HMA
      have HD := Lib.hid hD
      obtain ⟨⟨x1, x2, x3⟩, ⟨d1, d2, d3, d4, d5, d6, d7, d8⟩, s2, l2⟩ := K1
      have hs2 := hsz.2
      simp only at hs2
      have hBw := HBw.out
      have q0 : wr.cell? ⟨g2, off2 + k * 13, none⟩ = some (.int .i64 x1) := (hBw.cell (p := ⟨g2, off2 + k * 13, none⟩) hg2).trans (hc 0 _ rfl)
      have q1 : wr.cell? ⟨g2, off2 + k * 13 + 1, none⟩ = some (.int .i64 x2) := (hBw.cell (p := ⟨g2, off2 + k * 13 + 1, none⟩) hg2).trans (hc 1 _ rfl)
      have q2 : wr.cell? ⟨g2, off2 + k * 13 + 2, none⟩ = some (.int .i64 x3) := (hBw.cell (p := ⟨g2, off2 + k * 13 + 2, none⟩) hg2).trans (hc 2 _ rfl)
      have q3 : wr.cell? ⟨g2, off2 + k * 13 + 3, none⟩ = some (.int .i64 d1) := (hBw.cell (p := ⟨g2, off2 + k * 13 + 3, none⟩) hg2).trans (hc 3 _ rfl)
      have q4 : wr.cell? ⟨g2, off2 + k * 13 + 4, none⟩ = some (.int .i64 d2) := (hBw.cell (p := ⟨g2, off2 + k * 13 + 4, none⟩) hg2).trans (hc 4 _ rfl)
      have q5 : wr.cell? ⟨g2, off2 + k * 13 + 5, none⟩ = some (.int .i64 d3) := (hBw.cell (p := ⟨g2, off2 + k * 13 + 5, none⟩) hg2).trans (hc 5 _ rfl)
      have q6 : wr.cell? ⟨g2, off2 + k * 13 + 6, none⟩ = some (.string d4) := (hBw.cell (p := ⟨g2, off2 + k * 13 + 6, none⟩) hg2).trans (hc 6 _ rfl)
      have q7 : wr.cell? ⟨g2, off2 + k * 13 + 7, none⟩ = some (.string d5) := (hBw.cell (p := ⟨g2, off2 + k * 13 + 7, none⟩) hg2).trans (hc 7 _ rfl)
      have q8 : wr.cell? ⟨g2, off2 + k * 13 + 8, none⟩ = some (.int .i64 d6) := (hBw.cell (p := ⟨g2, off2 + k * 13 + 8, none⟩) hg2).trans (hc 8 _ rfl)
      have q9 : wr.cell? ⟨g2, off2 + k * 13 + 9, none⟩ = some (.int .i64 d7) := (hBw.cell (p := ⟨g2, off2 + k * 13 + 9, none⟩) hg2).trans (hc 9 _ rfl)
      have q10 : wr.cell? ⟨g2, off2 + k * 13 + 10, none⟩ = some (.int .i64 d8) := (hBw.cell (p := ⟨g2, off2 + k * 13 + 10, none⟩) hg2).trans (hc 10 _ rfl)
      have q11 : wr.cell? ⟨g2, off2 + k * 13 + 11, none⟩ = some (.int .i64 s2) := (hBw.cell (p := ⟨g2, off2 + k * 13 + 11, none⟩) hg2).trans (hc 11 _ rfl)
      have q12 : wr.cell? ⟨g2, off2 + k * 13 + 12, none⟩ = some (.slice av nv cv) := (hBw.cell (p := ⟨g2, off2 + k * 13 + 12, none⟩) hg2).trans (hc 12 _ rfl)
      replace hg2 : g2 < wr.heap.size := Nat.lt_of_lt_of_le hg2 hBw.size
      simp only [knE, idE, cmE, List.cons_append, List.nil_append] at HMA HRB
      have hz3 := HZr.out
      clear hc hi0 hrd hok2 hnv hK1 hmem hsz hts hD hBw e0 HBw HIDr HCBr HMr
      cases D with
      | false =>
        go_wp2_with fail
        refine HMA.out.mono ?_
        rintro e w1 ⟨rfl, hb⟩
        have hbx : Below wr.heap.size wr w1 := (al1 _ _).trans (hb.mono (by simp))
        have HB1 : Hid (Below (w.heap.size + 3) X w1) := Lib.hid (hB.out.trans (hbx.mono hz3))
        have HO1 := Lib.hid (hO.out.below hbx)
        have HF : Hid ((l.take (k + 1)).filter (matK id c) = (l.take k).filter (matK id c)) := Lib.hid (by rw [HTS.out, List.filter_append]; simp [HD.out])
        clear hb hbx hO hB
        go_wp2
        go_roundw
        case rel => exact ⟨k + 1, _, by omega, rfl, by go_num, by rw [HF.out, HSS.out], by rw [HF.out]; exact HO1, HB1⟩
        case measure => simp [intOf]; omega
      | true =>
        go_wp2_with fail
        refine HMA.out.mono ?_
        rintro e w1 ⟨rfl, hb⟩
        have hbx : Below wr.heap.size wr w1 := (al1 _ _).trans (hb.mono (by simp))
        have HB1 : Hid (Below (w.heap.size + 3) X w1) := Lib.hid (hB.out.trans (hbx.mono hz3))
        have HO1 := Lib.hid ((hO.out.below hbx).below (al1 w1 (.cells #[.int .i64 x1, .int .i64 x2, .int .i64 x3] 37)))
        have hrb := HRB.out.below hb
        have HRB1 := Lib.hid hrb
        have y0 := hrb.cell 0
        have y1 := hrb.cell 1
        have y2 := hrb.cell 2
        have y11 := hrb.cell 11
        simp only [List.getElem?_cons_zero, List.getElem?_cons_succ] at y0 y1 y2 y11
        have hzb : wr.heap.size < w1.heap.size := hrb.lt
        have HBX1 := Lib.hid (IK.rd_boxAt (x1, x2, x3) 37 1 w1 _ rfl)
        have hz4 : w.heap.size + 3 ≤ (w1.alloc (.cells #[.int .i64 x1, .int .i64 x2, .int .i64 x3] 37)).heap.size := by simp; omega
        have HF : Hid ((l.take (k + 1)).filter (matK id c) = (l.take k).filter (matK id c) ++ [⟨(x1, x2, x3), ⟨d1, d2, d3, d4, d5, d6, d7, d8⟩, s2, l2⟩]) := Lib.hid (by rw [HTS.out, List.filter_append]; simp [HD.out])
        clear hb hbx hO hB hrb
        go_wp2_with (at_builtin; go_must (refine IK.app rfl _ _ rfl (w.heap.size + 3) (.slice va M vc) (((l.take k).filter (matK id c)).map (·.id)) rfl HO1.out _ [(x1, x2, x3)] rfl HBX1.out (by have := HML.out; simp only [List.length_cons, List.length_nil]; omega) hz4 ?_))
        intro v' w2 ho hb2 hg _
        obtain ⟨a3, c3, hv3⟩ := ho.slice
        obtain ⟨M3, hM3⟩ : ∃ M3, (((l.take k).filter (matK id c)).map (·.id) ++ [(x1, x2, x3)]).length = M3 := ⟨_, rfl⟩
        rw [hM3] at hv3
        subst hv3
        have HO2 : Hid (IK.Own w2 (w.heap.size + 3) (.slice a3 M3 c3) (((l.take (k + 1)).filter (matK id c)).map (·.id))) := Lib.hid (by rw [HF.out, List.map_append]; exact ho)
        have HB2 : Hid (Below (w.heap.size + 3) X w2) := Lib.hid ((HB1.out.trans ((al1 _ _).mono (by omega))).trans hb2)
        have y11b : w2.cell? ⟨wr.heap.size, 11, none⟩ = some (.int .i64 s2) := by
          have h1 := HRB1.out.old (.cells #[.int .i64 x1, .int .i64 x2, .int .i64 x3] 37)
          have h2 : Bk w2 wr.heap.size 67 _ := h1.grown hg (by
            intro q
            obtain ⟨_, cs, fr, hcs⟩ := HO1.out.blk _ q.symm
            have h3 : (w1.alloc (.cells #[.int .i64 x1, .int .i64 x2, .int .i64 x3] 37)).heap[wr.heap.size]? = _ := h1
            rw [h3] at hcs
            simp only [Option.some.injEq, Obj.cells.injEq] at hcs
            exact absurd hcs.2.1 (by decide))
          exact h2.cell 11
        have hzb2 : wr.heap.size < w2.heap.size := Nat.lt_of_lt_of_le hzb (Nat.le_trans (by simp) hb2.size)
        clear ho hb2 hg hM3 y0 y1 y2 y11 hzb HO1 HB1 HBX1 hz4
        go_wp2
        go_roundw
        case rel => exact ⟨k + 1, _, by omega, rfl, by go_num, by rw [HF.out, List.map_append, List.map_cons, List.map_nil, mxS_snoc, HSS.out], HO2, HB2⟩
        case measure => simp [intOf]; omega
    · obtain rfl : k = N := by omega
      have htk : l.take k = l := List.take_of_length_le (by rw [HN.out]; exact Nat.le_refl _)
      rw [htk] at hO HSS HML
      have HC := Lib.hid (clean_any (.slice va M vc) _ wr hO.out.rd (fun x hx => by
        obtain ⟨y, hy, rfl⟩ := List.mem_map.1 hx
        exact HOK.out y (List.mem_filter.1 hy).1) HML.out)
      clear htk
      go_wp2_with fail
      refine HC.out.mono ?_
      rintro e w2 ⟨v2, he, ho, hb⟩
      have he := he.out
      subst he
      obtain ⟨a2, c2, hv2⟩ := ho.slice
      obtain ⟨M2, hM2⟩ : ∃ M2, (clnI ((l.filter (matK id c)).map (·.id))).length = M2 := ⟨_, rfl⟩
      rw [hM2] at hv2
      subst hv2
      have hR2 := HRr.out.below hb
      have HO2 : Hid (IK.Own w2 (w.heap.size + 3) (.slice a2 M2 c2) (clnI ((l.filter (matK id c)).map (·.id)))) := Lib.hid (ho.base HZr.out)
      have HB2 := Lib.hid (HBw.out.trans (hb.mono HBw.out.size))
      have d0 := hR2.cell 0
      have d1 := hR2.cell 1
      simp only [List.getElem?_cons_zero, List.getElem?_cons_succ] at d0 d1
      have f1 : ∀ o, w2.frozen? ⟨w.heap.size + 2, o, none⟩ = false := fun o => hR2.fz o
      have z2 : w.heap.size + 2 < w2.heap.size := hR2.lt
      clear ho hb hO hB hM2 HC hR2
      go_wp2
      refine bodyPost_ret (v := .agg #[.int .i64 (S + 1), .slice a2 M2 c2]) (by simp [results, Tryz.results85, go_sem, d0, d1, f1, z2]) rfl ⟨.slice a2 M2 c2, ?_, ?_, ?_⟩
      · exact Lib.hid (by show Ending.returned _ = .returned (.agg #[.int .i64 (mxS _ + 1), _]); rw [HSS.out])
      · exact Knd.Own.base ((HO2.out.setLow (by omega) _ _).setLow (by omega) _ _) (by omega)
      · exact (HB2.out.setCell (by show w.heap.size ≤ w.heap.size + 2; omega) _).setCell (by show w.heap.size ≤ w.heap.size + 2; omega) _
end Go.Proofs.YtchhcaoondfpiaaGreat
