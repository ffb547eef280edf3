/-
  create, set.
-/
import Derived.Test.YtoojfbeikohikaaDir3
namespace Go.Proofs.Ytoojfbeikohikaa
open Go.RowKit Go.Sort
open Go.WideMaps
set_option linter.unusedSimpArgs false
set_option linter.unusedVariables false

/-- What an operation comes to. -/
def AppP (r : Rep × List E3) (d bk K : Nat) (w : World) (e : Ending) (w' : World) : Prop := RepP r.1 w e w' ∧ DirAt w' d bk (K + 1) r.2 ∧ w.grownBy w' (some bk)
def crD (l : List E3) (p v : ByteArray) : Rep × List E3 := if thrD l p then (bad 3, l) else if thrD l (par p) then (⟨0, { data := #[] }, 1, []⟩, putD l p v 1) else (bad 2, l)
theorem below4 {w w2 : World} {N : Nat} (h : Below N w w2) (x y z u : Value) : Below N w ((((w2.setCell ⟨N + 1, 0, none⟩ x).setCell ⟨N + 1, 1, none⟩ y).setCell ⟨N + 1, 2, none⟩ z).setCell ⟨N + 1, 3, none⟩ u) :=
  (((h.setCell (by simp) _).setCell (by simp) _).setCell (by simp) _).setCell (by simp) _
theorem AppP.bad {n : Int} {l : List E3} {d bk K : Nat} {w w' : World} (hd : DirAt w d bk K l) (hb : Below w.heap.size w w') (v : Value) (hv : v = repV (bad n) (.slice none 0 0)) : AppP (bad n, l) d bk K w (.returned v) w' := by
  subst hv
  exact ⟨RepP.no _ rfl _ _, (hd.below hb).mono (Nat.le_succ _), outB hb⟩
theorem outN {w w1 w2 : World} {b : Nat} (h : w.grownBy w1 (some b)) (k : Below w.heap.size w1 w2) : w.grownBy w2 (some b) :=
  ⟨k.os.trans h.os, k.tape.trans h.tape, k.output.trans h.output, Nat.le_trans h.size k.size, fun i hi hn => (k.block i hi).trans (h.block i hi hn)⟩
theorem DirAt.low {w w' : World} {d b K N : Nat} {l : List E3} (h : DirAt w d b K l) (hb : Below N w w') (hd : d < N) (hbN : b < N) : DirAt w' d b K l := by
  obtain ⟨D, m, hm, ⟨es, ck, hh, hr⟩, hI⟩ := h.map
  exact ⟨(hb.cell (p := ⟨d, 0, none⟩) hd).trans h.cell, ⟨D, m, hm, ⟨es, ck, (hb.block b hbN).trans hh, hr⟩, hI⟩, h.rise, h.keys⟩
theorem AppP.ok {r : Rep} {l : List E3} {d bk K : Nat} {w w4 w5 : World} (hd : DirAt w4 d bk (K + 1) l) (hg : w.grownBy w4 (some bk)) (hlt : d < w.heap.size ∧ bk < w.heap.size) (hb : Below w.heap.size w4 w5) (hn : r.names = []) (v : Value) (hv : v = repV r (.slice none 0 0)) : AppP (r, l) d bk K w (.returned v) w5 := by
  subst hv
  exact ⟨RepP.no _ hn _ _, hd.low hb hlt.1 hlt.2, outN hg hb⟩
set_option maxRecDepth 100000 in
set_option maxHeartbeats 1000000 in
theorem create_any (d bk K : Nat) (l : List E3) (cl sq op : Int) (p v : ByteArray) (ver a b : Int) (w : World) (hd : DirAt w d bk K l) (hK : K ≤ 1000000) (hp : p.size ≤ 1000) (hv : vld p = true) (hm : ML w) :
    Calls Try.prog 36 #[dP d, cmdV cl sq op p v ver a b] w (AppP (crD l p v) d bk K w) := by
  obtain ⟨X, hX⟩ : ∃ X, box2 w cl sq op p v ver a b = X := ⟨_, rfl⟩
  have hB : Below w.heap.size w X := by rw [← hX]; exact box2_below ..
  have hBX : BX w.heap.size cl sq op p v ver a b X := by rw [← hX]; exact BX.mk0 ..
  have HD := Lib.hid hd
  have HDX := Lib.hid (hd.below hB)
  have HB := Lib.hid hB
  have HBX := Lib.hid hBX
  have HM := Lib.hid (hm.below hB)
  have HV := Lib.hid hv
  have HP := Lib.hid hp
  obtain ⟨c0, c1, c2, c3, c4, c5, c6, c7⟩ := hBX.c
  obtain ⟨r0, r1, r2, r3⟩ := hBX.r
  clear hd hB hBX hm hv hp c0 c1 c2 c4 c5 c6 c7 r0 r1 r2 r3
  go_enter Try.func36, Try.ntmps36
  go_wp2_with fail
  refine (there_any d bk K l p X HDX.out HP.out).mono ?_
  rintro e w1 ⟨rfl, hb⟩
  have HB1 := Lib.hid (below_self HB.out hb)
  have HD1 := Lib.hid (HDX.out.below hb)
  have HBX1 := Lib.hid (HBX.out.below hb)
  have HM1 := Lib.hid (HM.out.below hb)
  clear hb HDX HBX HM c3 hX
  obtain ⟨T, hT⟩ : ∃ T, thrD l p = T := ⟨_, rfl⟩
  rw [hT]
  have HT := Lib.hid hT
  clear hT
  cases T with
  | true =>
    go_wp2_with fail
    refine (failed_any 3 w1).mono ?_
    rintro e w2 ⟨rfl, hb⟩
    have HB2 := Lib.hid (below_self HB1.out hb)
    have HBX2 := HBX1.out.below hb
    obtain ⟨r0, r1, r2, r3⟩ := HBX2.r
    obtain ⟨f0, f1⟩ := HBX2.f
    have z2 := HBX2.z
    clear hb HBX2
    go_wp2
    refine bodyPost_ret (v := repV (bad 3) (.slice none 0 0)) (by simp [results, Try.results36, go_sem, bad, r0, r1, r2, r3, f1, show w.heap.size + 1 < w2.heap.size by omega]) rfl ?_
    rw [crD, if_pos HT.out]
    exact AppP.bad HD.out (below4 HB2.out _ _ _ _) _ rfl
  | false =>
    have c3 := HBX1.out.c.2.2.2.1
    go_wp2_with fail
    refine (parent_any p w1 HP.out HM1.out).mono ?_
    rintro e w2 ⟨rfl, hb⟩
    have HB2 := Lib.hid (below_self HB1.out hb)
    have HD2 := Lib.hid (HD1.out.below hb)
    have HBX2 := Lib.hid (HBX1.out.below hb)
    clear hb HB1 HD1 HBX1 HM1 c3
    go_wp2_with fail
    refine (there_any d bk K l (par p) w2 HD2.out (par_size p)).mono ?_
    rintro e w3 ⟨rfl, hb⟩
    have HB3 := Lib.hid (below_self HB2.out hb)
    have HD3 := Lib.hid (HD2.out.below hb)
    have HBX3 := Lib.hid (HBX2.out.below hb)
    clear hb HB2 HD2 HBX2
    obtain ⟨U, hU⟩ : ∃ U, thrD l (par p) = U := ⟨_, rfl⟩
    rw [hU]
    have HU := Lib.hid hU
    clear hU
    cases U with
    | false =>
      go_wp2_with fail
      refine (failed_any 2 w3).mono ?_
      rintro e w4 ⟨rfl, hb⟩
      have HB4 := Lib.hid (below_self HB3.out hb)
      have HBX4 := HBX3.out.below hb
      obtain ⟨r0, r1, r2, r3⟩ := HBX4.r
      obtain ⟨f0, f1⟩ := HBX4.f
      have z2 := HBX4.z
      clear hb HBX4
      go_wp2
      refine bodyPost_ret (v := repV (bad 2) (.slice none 0 0)) (by simp [results, Try.results36, go_sem, bad, r0, r1, r2, r3, f1, show w.heap.size + 1 < w4.heap.size by omega]) rfl ?_
      rw [crD, if_neg (by rw [HT.out]; simp), if_neg (by rw [HU.out]; simp)]
      exact AppP.bad HD.out (below4 HB4.out _ _ _ _) _ rfl
    | true =>
      obtain ⟨D, m, hm, hM, hI⟩ := HD3.out.map
      have HMX := Lib.hid hM
      have HI := Lib.hid hI
      have HMM := Lib.hid hm
      have dc := HD3.out.cell
      have c3 := HBX3.out.c.2.2.2.1
      have c4 := HBX3.out.c.2.2.2.2.1
      have HKEY := Lib.hid (kS_key HP.out)
      have hm' : m < maxLen := by unfold maxLen; omega
      have HMAX := Lib.hid hm'
      clear hm hM hI hm'
      go_wp2_with fail
      go_still_tail 9, (by kernel_rfl)
      refine wpList_mapUpdate_own _ rfl _ _ _ 53 rfl 9 63 strK Try.underlying53 heldElem bk m D rfl HMX.out.drew HMAX.out (.string p) (hV v 1) (kS p) rfl rfl HKEY.out (hD (v, 1)) [] (heldElem_mk _ _) ?_
      intro w4 hown hg
      have hg2 : w3.grownBy w4 (some bk) := ⟨hg.os, hg.tape, hg.output, hg.size, hg.block⟩
      have hlt := HD.out.lt
      have HBX4 := HBX3.out.out hg2 hlt.2
      have HO4 := Lib.hid hown
      have HG4 := Lib.hid (outT (outB (b := bk) HB3.out) hg2)
      have hdc : w4.cell? ⟨d, 0, none⟩ = some (.map (some bk)) := hg2.cell dc (by simpa using HD.out.ne)
      have HDC := Lib.hid hdc
      obtain ⟨r0, r1, r2, r3⟩ := HBX4.r
      obtain ⟨f0, f1⟩ := HBX4.f
      have z2 := HBX4.z
      clear hown hg hg2 hlt HBX4 hdc dc c3 c4
      go_wp2
      refine bodyPost_ret (v := repV ⟨0, { data := #[] }, 1, []⟩ (.slice none 0 0)) (by simp [results, Try.results36, go_sem, bad, r0, r1, r2, r3, f1, show w.heap.size + 1 < w4.heap.size by omega]) rfl ?_
      have hne : p ≠ pth [] := by
        intro h
        have := HT.out
        rw [thrD, h] at this
        simp at this
      have ho : okP p := okP_ne HV.out hne
      rw [crD, if_neg (by rw [HT.out]; simp), if_pos HU.out]
      have hlt := HD.out.lt
      have hD4 : DirAt w4 d bk (K + 1) (putD l p v 1) := ⟨HDC.out, ⟨_, m + 1, by have := HMM.out; omega, HO4.out, HI.out.put HD.out.rise HD.out.keys ho v 1⟩, HD.out.rise.put p v 1, HD.out.keys.put ho v 1⟩
      exact AppP.ok hD4 HG4.out hlt (below4 (Below.refl _ w4) _ _ _ _) rfl _ rfl
end Go.Proofs.Ytoojfbeikohikaa
