/-
  list, delete.
-/
import Derived.Test.YtoojfbeikohikaaDir8
namespace Go.Proofs.Ytoojfbeikohikaa
open Go.RowKit Go.Sort
open Go.WideMaps
set_option linter.unusedSimpArgs false
set_option linter.unusedVariables false

def lsD (l : List E3) (p : ByteArray) : Rep × List E3 := if thrD l p then (⟨0, { data := #[] }, 0, kidD l p⟩, l) else (bad 2, l)
def rmD (l : List E3) (p : ByteArray) : Rep × List E3 := if thrD l p then (if 0 < (kidD l p).length then (bad 4, l) else (bad 0, delD l p)) else (bad 2, l)
set_option maxRecDepth 100000 in
set_option maxHeartbeats 1000000 in
theorem list_any (d bk K : Nat) (l : List E3) (cl sq op : Int) (p v : ByteArray) (ver a b : Int) (w : World) (hd : DirAt w d bk K l) (hK : K ≤ 1000000) (hp : p.size ≤ 1000) (hm : ML w) :
    Calls Try.prog 40 #[dP d, cmdV cl sq op p v ver a b] w (AppP (lsD l p) d bk K w) := by
  obtain ⟨X, hX⟩ : ∃ X, box2 w cl sq op p v ver a b = X := ⟨_, rfl⟩
  have hB : Below w.heap.size w X := by rw [← hX]; exact box2_below ..
  have hBX : BX w.heap.size cl sq op p v ver a b X := by rw [← hX]; exact BX.mk0 ..
  have HD := Lib.hid hd
  have HDX := Lib.hid (hd.below hB)
  have HB := Lib.hid hB
  have HBX := Lib.hid hBX
  have HP := Lib.hid hp
  have HM := Lib.hid (hm.below hB)
  have c3 := hBX.c.2.2.2.1
  clear hd hB hBX hp hm
  go_enter Try.func40, Try.ntmps40
  go_wp2_with fail
  refine (there_any d bk K l p X HDX.out HP.out).mono ?_
  rintro e w1 ⟨rfl, hb⟩
  have HB1 := Lib.hid (below_self HB.out hb)
  have HD1 := Lib.hid (HDX.out.below hb)
  have HBX1 := Lib.hid (HBX.out.below hb)
  have HM1 := Lib.hid (HM.out.below hb)
  clear hb HDX HBX c3 hX HM
  obtain ⟨T, hT⟩ : ∃ T, thrD l p = T := ⟨_, rfl⟩
  rw [hT]
  have HT := Lib.hid hT
  clear hT
  cases T with
  | false =>
    go_wp2_with fail
    refine (failed_any 2 w1).mono ?_
    rintro e w2 ⟨rfl, hb⟩
    have HB2 := Lib.hid (below_self HB1.out hb)
    have HBX2 := HBX1.out.below hb
    obtain ⟨r0, r1, r2, r3⟩ := HBX2.r
    obtain ⟨f0, f1⟩ := HBX2.f
    have z2 := HBX2.z
    clear hb HBX2
    go_wp2
    refine bodyPost_ret (v := repV (bad 2) (.slice none 0 0)) (by simp [results, Try.results40, go_sem, bad, r0, r1, r2, r3, f1, show w.heap.size + 1 < w2.heap.size by omega]) rfl ?_
    rw [lsD, if_neg (by rw [HT.out]; simp)]
    exact AppP.bad HD.out (below4 HB2.out _ _ _ _) _ rfl
  | true =>
    have c3 := HBX1.out.c.2.2.2.1
    go_wp2_with fail
    refine (children_any d bk K l p w1 HD1.out hK HM1.out).mono ?_
    rintro e w5 ⟨v5, he, ho, hb⟩
    obtain ⟨a5, cc5, hv5⟩ := ho.slice
    obtain ⟨M, hM⟩ : ∃ M, (List.map Value.string (kidD l p)).length = M := ⟨_, rfl⟩
    rw [hM] at hv5
    subst hv5
    have he2 := he.out
    subst he2
    have HO5 := Lib.hid ho
    have HBX5 := HBX1.out.below hb
    have HD5 := Lib.hid ((HD1.out.below hb).mono (Nat.le_succ K))
    have HG5 : Hid (w1.grownBy w5 (some bk)) := Lib.hid (outB hb)
    obtain ⟨r0, r1, r2, r3⟩ := HBX5.r
    obtain ⟨f0, f1⟩ := HBX5.f
    have z5 := HBX5.z
    clear ho HBX5 he hM hb c3
    go_wp2
    refine bodyPost_ret (v := repV ⟨0, { data := #[] }, 0, kidD l p⟩ (.slice a5 M cc5)) (by simp [results, Try.results40, go_sem, r0, r1, r2, r3, f1, show w.heap.size + 1 < w5.heap.size by omega]) rfl ?_
    rw [lsD, if_pos HT.out]
    exact AppP.store (outB HB1.out) HBX1.out.z HD.out.lt HO5.out HD5.out HG5.out _ _ _ _ _ rfl
set_option maxRecDepth 100000 in
set_option maxHeartbeats 1000000 in
theorem remove_any (d bk K : Nat) (l : List E3) (cl sq op : Int) (p v : ByteArray) (ver a b : Int) (w : World) (hd : DirAt w d bk K l) (hK : K ≤ 1000000) (hp : p.size ≤ 1000) (hm : ML w) :
    Calls Try.prog 37 #[dP d, cmdV cl sq op p v ver a b] w (AppP (rmD l p) d bk K w) := by
  obtain ⟨X, hX⟩ : ∃ X, box2 w cl sq op p v ver a b = X := ⟨_, rfl⟩
  have hB : Below w.heap.size w X := by rw [← hX]; exact box2_below ..
  have hBX : BX w.heap.size cl sq op p v ver a b X := by rw [← hX]; exact BX.mk0 ..
  have HD := Lib.hid hd
  have HDX := Lib.hid (hd.below hB)
  have HB := Lib.hid hB
  have HBX := Lib.hid hBX
  have HP := Lib.hid hp
  have HM := Lib.hid (hm.below hB)
  have c3 := hBX.c.2.2.2.1
  clear hd hB hBX hp hm
  go_enter Try.func37, Try.ntmps37
  go_wp2_with fail
  refine (there_any d bk K l p X HDX.out HP.out).mono ?_
  rintro e w1 ⟨rfl, hb⟩
  have HB1 := Lib.hid (below_self HB.out hb)
  have HD1 := Lib.hid (HDX.out.below hb)
  have HBX1 := Lib.hid (HBX.out.below hb)
  have HM1 := Lib.hid (HM.out.below hb)
  clear hb HDX HBX c3 hX HM
  obtain ⟨T, hT⟩ : ∃ T, thrD l p = T := ⟨_, rfl⟩
  rw [hT]
  have HT := Lib.hid hT
  clear hT
  cases T with
  | false =>
    go_wp2_with fail
    refine (failed_any 2 w1).mono ?_
    rintro e w2 ⟨rfl, hb⟩
    have HB2 := Lib.hid (below_self HB1.out hb)
    have HBX2 := HBX1.out.below hb
    obtain ⟨r0, r1, r2, r3⟩ := HBX2.r
    obtain ⟨f0, f1⟩ := HBX2.f
    have z2 := HBX2.z
    clear hb HBX2
    go_wp2
    refine bodyPost_ret (v := repV (bad 2) (.slice none 0 0)) (by simp [results, Try.results37, go_sem, bad, r0, r1, r2, r3, f1, show w.heap.size + 1 < w2.heap.size by omega]) rfl ?_
    rw [rmD, if_neg (by rw [HT.out]; simp)]
    exact AppP.bad HD.out (below4 HB2.out _ _ _ _) _ rfl
  | true =>
    have c3 := HBX1.out.c.2.2.2.1
    go_wp2_with fail
    refine (children_any d bk K l p w1 HD1.out hK HM1.out).mono ?_
    rintro e w3 ⟨v5, he, ho, hb⟩
    obtain ⟨a5, cc5, hv5⟩ := ho.slice
    obtain ⟨M, hM⟩ : ∃ M, (kidD l p).length = M := ⟨_, rfl⟩
    rw [List.length_map, hM] at hv5
    subst hv5
    have he2 := he.out
    subst he2
    have HMM := Lib.hid hM
    have HB3 := Lib.hid (below_self HB1.out hb)
    have HBX3 := Lib.hid (HBX1.out.below hb)
    have HD3 := Lib.hid (HD1.out.below hb)
    clear ho he hM hb c3 HB1 HBX1 HD1 HM1
    by_cases hpos : 0 < M
    · have k1 : (0 : Int) < (M : Int) := by omega
      have k2 : decide (0 < M) = true := decide_eq_true hpos
      have HPOS := Lib.hid hpos
      clear hpos
      go_wp2_with fail
      refine (failed_any 4 w3).mono ?_
      rintro e w4 ⟨rfl, hb⟩
      have HB4 := Lib.hid (below_self HB3.out hb)
      have HBX4 := HBX3.out.below hb
      obtain ⟨r0, r1, r2, r3⟩ := HBX4.r
      obtain ⟨f0, f1⟩ := HBX4.f
      have z2 := HBX4.z
      clear hb HBX4
      go_wp2
      refine bodyPost_ret (v := repV (bad 4) (.slice none 0 0)) (by simp [results, Try.results37, go_sem, bad, r0, r1, r2, r3, f1, show w.heap.size + 1 < w4.heap.size by omega]) rfl ?_
      rw [rmD, if_pos HT.out, if_pos (by rw [HMM.out]; exact HPOS.out)]
      exact AppP.bad HD.out (below4 HB4.out _ _ _ _) _ rfl
    · obtain rfl : M = 0 := by omega
      obtain ⟨D, m, hm, hM, hI⟩ := HD3.out.map
      have HMX := Lib.hid hM
      have HI := Lib.hid hI
      have HML := Lib.hid hm
      have dc := HD3.out.cell
      have c3 := HBX3.out.c.2.2.2.1
      have HKEY := Lib.hid (kS_key HP.out)
      clear hm hM hI hpos
      go_wp2_with fail
      go_still_tail 6, (by kernel_rfl)
      refine wpList_delete_own _ rfl _ _ 53 9 rfl 63 strK Try.underlying53 heldElem bk m D rfl HMX.out.drew (.string p) (kS p) rfl HKEY.out ?_
      intro w4 hown hturn
      have hg := hturn.grown
      have hg2 : w3.grownBy w4 (some bk) := ⟨hg.os, hg.tape, hg.output, hg.size, hg.block⟩
      have hlt := HD.out.lt
      have HBX4 := HBX3.out.out hg2 hlt.2
      have HO4 := Lib.hid hown
      have HG4 := Lib.hid (outT (outB (b := bk) HB3.out) hg2)
      have hdc : w4.cell? ⟨d, 0, none⟩ = some (.map (some bk)) := hg2.cell dc (by simpa using HD.out.ne)
      have HDC := Lib.hid hdc
      obtain ⟨r0, r1, r2, r3⟩ := HBX4.r
      obtain ⟨f0, f1⟩ := HBX4.f
      have z2 := HBX4.z
      clear hown hg hg2 hlt HBX4 hdc dc c3 hturn
      go_wp2
      refine bodyPost_ret (v := repV (bad 0) (.slice none 0 0)) (by simp [results, Try.results37, go_sem, bad, r0, r1, r2, r3, f1, show w.heap.size + 1 < w4.heap.size by omega]) rfl ?_
      rw [rmD, if_pos HT.out, if_neg (by rw [HMM.out]; simp)]
      have hlt := HD.out.lt
      have hD4 : DirAt w4 d bk (K + 1) (delD l p) := ⟨HDC.out, ⟨_, m, by have := HML.out; omega, HO4.out, HI.out.del HD.out.rise p⟩, HD.out.rise.del p, HD.out.keys.del p⟩
      exact AppP.ok hD4 HG4.out hlt (below4 (Below.refl _ w4) _ _ _ _) rfl _ rfl
end Go.Proofs.Ytoojfbeikohikaa
