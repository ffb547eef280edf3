/-
  The walk of FrameJoins.
-/
import Derived.Test.YtcieilbnlbielaaFrmI
namespace Go.Proofs.Ytcieilbnlbielaa
open Go.RowKit
set_option linter.unusedSimpArgs false
set_option linter.unusedVariables false

set_option maxRecDepth 100000 in
set_option maxHeartbeats 8000000 in
theorem joins_in (a : Option Addr) (cap : Nat) (A : List ByteArray) (a' : Option Addr) (cap' : Nat) (B : List ByteArray) (rest : ByteArray) (w : World)
    (hsA : SRd w a A) (hcA : a = none → cap = 0) (hzA : ∀ s ∈ A, s.size ≤ maxLen) (hsB : SRd w a' B) (hcB : a' = none → cap' = 0) (hzB : ∀ s ∈ B, s.size ≤ maxLen) (hoA : overB A = false) (hoB : overB B = false) (hr : rest.size ≤ 500) :
    Calls Try.prog 7 #[.slice a A.length cap, .slice a' B.length cap', .string rest] w fun e w' => e = .returned (.bool true) ∧ Below w.heap.size w w' := by
  obtain ⟨hnA, hgA⟩ := over_good hoA
  obtain ⟨hnB, hgB⟩ := over_good hoB
  have HSA := Lib.hid hsA
  have HSB := Lib.hid hsB
  have HCA := Lib.hid hcA
  have HCB := Lib.hid hcB
  have HZA := Lib.hid hzA
  have HZB := Lib.hid hzB
  have HOA := Lib.hid hoA
  have HOB := Lib.hid hoB
  have HGA := Lib.hid hgA
  have HGB := Lib.hid hgB
  obtain ⟨AB, hAB⟩ : ∃ AB, A ++ B = AB := ⟨_, rfl⟩
  have hABl : AB.length ≤ 120 := by rw [← hAB, List.length_append]; omega
  have hgC : GoodL (AB.map byt) := by rw [← hAB, List.map_append]; exact good_append hgA hgB
  have HGC := Lib.hid hgC
  have HZC : Hid (∀ s ∈ AB, s.size ≤ maxLen) := by
    intro s q
    rw [← hAB] at q
    exact (List.mem_append.1 q).elim (hzA s) (hzB s)
  obtain ⟨X, hX⟩ : ∃ X, joinN (A.map byt) = X := ⟨_, rfl⟩
  obtain ⟨Y, hY⟩ : ∃ Y, joinN (B.map byt) = Y := ⟨_, rfl⟩
  have hZ : joinN (AB.map byt) = X ++ Y := by rw [← hAB, List.map_append, joinN_append, hX, hY]
  have hxl : X.length ≤ 508 * 60 := by
    rw [← hX, joinN_len]
    have := totL_le (A.map byt) (fun z q => (hgA z q).1)
    rw [List.length_map] at this; omega
  have hyl : Y.length ≤ 508 * 60 := by
    rw [← hY, joinN_len]
    have := totL_le (B.map byt) (fun z q => (hgB z q).1)
    rw [List.length_map] at this; omega
  have hxr : ∀ z ∈ X, 0 ≤ z ∧ z ≤ 255 := by rw [← hX]; exact joinN_range _ hgA
  have hyr : ∀ z ∈ Y, 0 ≤ z ∧ z ≤ 255 := by rw [← hY]; exact joinN_range _ hgB
  have HAB := Lib.hid hAB
  have HX := Lib.hid hX
  have HY := Lib.hid hY
  have HZ := Lib.hid hZ
  have HXR := Lib.hid hxr
  have HYR := Lib.hid hyr
  have htz : txt (X ++ Y) = txt X ++ txt Y := by
    apply byt_inj
    rw [byt_append, byt_txt hxr, byt_txt hyr, byt_txt]
    intro z q
    exact (List.mem_append.1 q).elim (hxr z) (hyr z)
  have q1 : ((txt (X ++ Y)).toList != (txt X ++ txt Y).toList) = false := by rw [htz]; simp
  have q2 : ((txt (X ++ Y)).toList == (txt X ++ txt Y).toList) = true := by rw [htz]; simp
  have s1 : (txt X).size = X.length := txt_size X
  have s2 : (txt Y).size = Y.length := txt_size Y
  have S1 := Lib.hid s1
  have S2 := Lib.hid s2
  have t1 : ¬ (500 : Int) < rest.size := by omega
  clear hsA hcA hzA hsB hcB hzB hoA hoB hgA hgB hgC hAB hX hY hZ hxr hyr htz s1 s2
  go_enter Try.func7, Try.ntmps7
  go_wp2_with fail
  refine (works_any _).mono ?_
  rintro e w1 ⟨rfl, hb1⟩
  have HB1 := Lib.hid hb1
  clear hb1
  go_wp2_with fail
  refine (over_any a cap A _ (HSA.out.below HB1.out)).mono ?_
  rw [HOA.out]
  rintro e w2 ⟨rfl, rfl⟩
  go_wp2_with fail
  refine (over_any a' cap' B _ (HSB.out.below HB1.out)).mono ?_
  rw [HOB.out]
  rintro e w2 ⟨rfl, rfl⟩
  go_wp2_with fail
  refine (bod_any a cap A _ (HSA.out.below HB1.out) HZA.out (by omega)).mono ?_
  rintro e w2 ⟨lv, he2, hr2, hb2⟩
  rw [he2.out]
  have HR2 := Lib.hid hr2
  have HB2 : Hid (Below w.heap.size w w2) := below_self HB1.out hb2
  clear he2 hr2 hb2 HB1
  go_wp2_with fail
  refine (join_any lv (A.map byt) _ HR2.out HGA.out (by rw [List.length_map]; omega)).mono ?_
  rintro e w3 ⟨xv, he3, ho3, hb3⟩
  rw [he3.out]
  rw [HX.out] at ho3
  have HX3 := Lib.hid (ho3.bt (by omega))
  have HB3 : Hid (Below w.heap.size w w3) := below_self HB2.out hb3
  clear he3 ho3 hb3 HR2 HB2
  go_wp2_with fail
  refine (bod_any a' cap' B _ (HSB.out.below HB3.out) HZB.out (by omega)).mono ?_
  rintro e w4 ⟨lv2, he4, hr4, hb4⟩
  rw [he4.out]
  have HR4 := Lib.hid hr4
  have HX4 := Lib.hid (HX3.out.below hb4)
  have HB4 : Hid (Below w.heap.size w w4) := below_self HB3.out hb4
  clear he4 hr4 hb4 HB3 HX3
  go_wp2_with fail
  refine (join_any lv2 (B.map byt) _ HR4.out HGB.out (by rw [List.length_map]; omega)).mono ?_
  rintro e w5 ⟨yv, he5, ho5, hb5⟩
  rw [he5.out]
  rw [HY.out] at ho5
  have HY5 := Lib.hid (ho5.bt (by omega))
  have HX5 := Lib.hid (HX4.out.below hb5)
  have HB5 : Hid (Below w.heap.size w w5) := below_self HB4.out hb5
  clear he5 ho5 hb5 HR4 HB4 HX4
  go_wp2_with (refine wpList_appS (o := ⟨some 47, _, _, _, _, _⟩) rfl _ _ rfl w5.heap.size _ [] rfl (Own1.nil _ _ _) a cap A rfl (HSA.out.below HB5.out) HCA.out (by simp; omega) (Nat.le_refl _) ?_)
  intro v6 w6 ho6 hb6 hz6
  have HO6 := Lib.hid ho6
  have HB6' := Lib.hid hb6
  have HB6 : Hid (Below w.heap.size w w6) := below_self HB5.out hb6
  clear ho6 hb6
  have hA : Own1 w6 w5.heap.size 9 v6 (A.map .string) := HO6.out
  have HO6' := Lib.hid hA
  clear hA
  have hlAB : A.length + B.length ≤ 1000000 := by omega
  go_wp2_with (refine wpList_appS (o := ⟨some 50, _, _, _, _, _⟩) rfl _ _ rfl w5.heap.size _ A rfl HO6'.out a' cap' B rfl (HSB.out.below HB6.out) HCB.out hlAB hz6 ?_)
  intro v7 w7 ho7 hb7 hz7
  have hb7' : Below w5.heap.size w5 w7 := HB6'.out.trans hb7
  have ho7' : Own1 w7 w5.heap.size 9 v7 (AB.map .string) := by rw [← HAB.out, List.map_append]; exact ho7
  obtain ⟨a7, c7, hv7, hs7⟩ := srd_of_own ho7' (by omega)
  subst hv7
  have HS7 := Lib.hid hs7
  have HX7 := Lib.hid (HX5.out.below hb7')
  have HY7 := Lib.hid (HY5.out.below hb7')
  have HB7 : Hid (Below w.heap.size w w7) := below_self HB5.out hb7'
  clear ho7 ho7' hb7 hb7' hs7 hz6 hz7 HO6 HO6' hlAB HB6 HB6' HB5 HX5 HY5
  go_wp2_with fail
  refine (bod_any a7 c7 AB _ HS7.out HZC.out (by omega)).mono ?_
  rintro e w8 ⟨lv3, he8, hr8, hb8⟩
  rw [he8.out]
  have HR8 := Lib.hid hr8
  have HX8 := Lib.hid (HX7.out.below hb8)
  have HY8 := Lib.hid (HY7.out.below hb8)
  have HS8 := Lib.hid (HS7.out.below hb8)
  have HB8 : Hid (Below w.heap.size w w8) := below_self HB7.out hb8
  clear he8 hr8 hb8 HB7 HX7 HY7 HS7
  go_wp2_with fail
  refine (join_any lv3 (AB.map byt) _ HR8.out HGC.out (by rw [List.length_map]; omega)).mono ?_
  rintro e w9 ⟨zv, he9, ho9, hb9⟩
  rw [he9.out]
  rw [HZ.out] at ho9
  have hzl : (X ++ Y).length = X.length + Y.length := List.length_append
  have HZ9 := Lib.hid (ho9.bt (by rw [hzl]; omega))
  have HX9 := Lib.hid (HX8.out.below hb9)
  have HY9 := Lib.hid (HY8.out.below hb9)
  have HS9 := Lib.hid (HS8.out.below hb9)
  have HB9 : Hid (Below w.heap.size w w9) := below_self HB8.out hb9
  clear he9 ho9 hb9 HR8 HB8 HX8 HY8 HS8
  have kz := HZ9.out.text
  have kx := HX9.out.text
  have ky := HY9.out.text
  have ssx : (txt X).size = X.length := S1.out
  have ssy : (txt Y).size = Y.length := S2.out
  have ssz : ¬ (9223372036854775807 < X.length + Y.length) := by omega
  have ssz2 : X.length + Y.length ≤ 9223372036854775807 := by omega
  obtain ⟨Z, hZZ⟩ : ∃ Z, X ++ Y = Z := ⟨_, rfl⟩
  have HZZ := Lib.hid hZZ
  rw [hZZ] at q1 q2 kz hzl HZ9
  obtain ⟨za, zc, hzv, _, _⟩ := HZ9.out.row
  obtain ⟨M, hM⟩ : ∃ M, Z.length = M := ⟨_, rfl⟩
  have HM := Lib.hid hM
  rw [hM] at hzv hzl
  subst hzv
  have hMl : M ≤ 100000 := by omega
  clear hZZ hM hzl
  go_wp2_with (refine wpList_app (o := ⟨some 80, _, _, _, _, _⟩) rfl _ _ rfl w9.heap.size _ [] rfl (own8_empty w9 _ (Nat.le_refl _)) _ Z rfl (HZ9.out.below ((Below.refl _ _).alloc (Nat.le_refl _) _)) (by rw [HM.out]; simp; omega) (by simp) ?_)
  intro v10 w10 ho10 hb10 hz10
  have ho10' : Own8 w10 w9.heap.size v10 Z := ho10
  have hb10' : Below w9.heap.size w9 w10 := ((Below.refl _ w9).alloc (Nat.le_refl _) _).trans hb10
  have hz10' := hb10'.size
  have HO10 := Lib.hid ho10'
  have HB10' := Lib.hid hb10'
  clear ho10 hb10 ho10' hb10' hz10
  have hlr : Z.length + rest.size ≤ 100000000000 := by rw [HM.out]; omega
  go_wp2_with (refine wpList_appStr (o := ⟨some 82, _, _, _, _, _⟩) rfl _ _ rfl w9.heap.size _ Z rfl HO10.out rest rfl hlr hz10' ?_)
  intro v11 w11 ho11 hb11 hz11
  have hb11' : Below w9.heap.size w9 w11 := HB10'.out.trans hb11
  have HT11 := Lib.hid (ho11.bt (by rw [List.length_append, byt_length]; omega))
  have HS11 := Lib.hid (HS9.out.below hb11')
  have HB11 : Hid (Below w.heap.size w w11) := below_self HB9.out hb11'
  clear ho11 hb11 hb11' hz11 HO10 HB10' hz10' HB9 HS9 HX9 HY9 HZ9 kz kx ky
  have hall : allN (Z ++ byt rest) = AB.map byt ++ allN (byt rest) := by
    rw [← HZZ.out, ← HZ.out]; exact allN_join _ _ HGC.out
  have htZ : totL (AB.map byt) = M := by rw [← joinN_len, HZ.out, HZZ.out, HM.out]
  obtain ⟨R, hR⟩ : ∃ R, allN (byt rest) = R := ⟨_, rfl⟩
  rw [hR] at hall
  have hRl : R.length ≤ 500 := by rw [← hR]; have := allF_count ((byt rest).length + 1) (byt rest); unfold allN; rw [byt_length] at this ⊢; omega
  have hrl : (Z ++ byt rest).length ≤ 1000000000 := by rw [List.length_append, byt_length, HM.out]; omega
  have hrr : ∀ x ∈ Z ++ byt rest, 0 ≤ x ∧ x ≤ 255 := by
    intro x q
    rw [← HZZ.out] at q
    rcases List.mem_append.1 q with q | q
    · exact (List.mem_append.1 q).elim (HXR.out x) (HYR.out x)
    · exact byt_range rest x q
  obtain ⟨C, hC⟩ : ∃ C, AB.map byt ++ R = C := ⟨_, rfl⟩
  have hCl : C.length = AB.length + R.length := by rw [← hC, List.length_append, List.length_map]
  have hCg : ∀ k, k < AB.length → C.getD k [] = byt (AB.getD k ByteArray.empty) := by
    intro k hk
    rw [← getD_byt _ k hk, ← hC]
    simp only [List.getD]
    rw [List.getElem?_append_left (by rw [List.length_map]; exact hk)]
  have hCt : M ≤ totL C := by
    rw [← hC, ← htZ]
    simp [totL]
  obtain ⟨n, hn⟩ : ∃ n, AB.length = n := ⟨_, rfl⟩
  have hn2 : n ≤ 120 := by rw [← hn]; exact hABl
  obtain ⟨U, hU⟩ : ∃ U, totL C = U := ⟨_, rfl⟩
  obtain ⟨D, hD⟩ : ∃ D, C.length = D := ⟨_, rfl⟩
  rw [hU] at hCt
  rw [hD, hn] at hCl
  rw [hn] at hCg
  rw [hC] at hall
  have HALL := Lib.hid hall
  have HRR := Lib.hid hrr
  have HRL := Lib.hid hrl
  have HCG := Lib.hid hCg
  have HU := Lib.hid hU
  have HD := Lib.hid hD
  have HN := Lib.hid hn
  have hnD : n ≤ D := by omega
  have hDn : ¬ (D : Int) < (n : Int) := by omega
  have hUM : ¬ (U : Int) < (M : Int) := by omega
  have hDn' : decide ((D : Int) < (n : Int)) = false := by simpa using hDn
  have hUM' : decide ((U : Int) < (M : Int)) = false := by simpa using hUM
  clear hall hR hC hCg hU hD hn hrr hrl htZ hlr hCl hDn hUM
  go_wp2_with fail
  refine (all_any2 _ (Z ++ byt rest) _ HT11.out HRR.out HRL.out).mono ?_
  rintro e w12 ⟨mv, he12, hr12, hb12⟩
  rw [he12.out, HALL.out, HU.out]
  rw [HALL.out] at hr12
  obtain ⟨a12, c12, hmv⟩ := hr12.row
  rw [HD.out] at hmv
  subst hmv
  have HR12 := Lib.hid hr12
  have HS12 := Lib.hid (HS11.out.below hb12)
  have HB12 : Hid (Below w.heap.size w w12) := below_self HB11.out hb12
  clear he12 hr12 hb12 HB11 HS11 HT11 HRR HALL
  rw [HN.out]
  go_wp2
  go_loopw [17] (fun i wr => ∃ k : Nat, k ≤ n ∧ i = .int .i64 k ∧ Hid (Below w12.heap.size w12 wr)) (fun i _ => n - (intOf i).toNat)
  case atStart => exact ⟨0, by omega, rfl, Below.refl _ _⟩
  case round =>
    obtain ⟨k, hk, rfl, hBw⟩ := hrel
    by_cases hlt : k < n
    · obtain ⟨s, hs⟩ : ∃ s, AB.getD k ByteArray.empty = s := ⟨_, rfl⟩
      obtain ⟨g5, xv, rfl, hc5, kx, kx2⟩ := body_cell (lv := undef) (ss := A) HR12.out hBw.out k (by rw [HD.out]; omega) s (by rw [HCG.out k hlt, hs])
      obtain ⟨g6, off, rfl, hg6, hc6⟩ := HS12.out.cell k (by rw [HN.out]; exact hlt)
      rw [hs] at hc6
      have hc6' : wr.cell? ⟨g6, off + k, none⟩ = some (.string s) := (hBw.out.cell (p := ⟨g6, off + k, none⟩) hg6).trans hc6
      have hc5d : wr.drew.cell? ⟨g5, k, none⟩ = some xv := hc5
      have hc6d : wr.drew.cell? ⟨g6, off + k, none⟩ = some (.string s) := hc6'
      have r1 : (s.toList == s.toList) = true := by simp
      have r2 : (s.toList != s.toList) = false := by simp
      have hlt' : (k : Int) < (n : Int) := by omega
      have hkD : (k : Int) < (D : Int) := by omega
      clear hs hc6 HSA HSB HCA HCB HZA HZB HAB HOA HOB HGA HGB HGC HZC HX HY HZ HXR HYR HR12 HS12 HB12 HRL HCG HU HD HN
      go_wp2
      go_region
      go_wp2
      go_roundw
      case rel => exact ⟨k + 1, by omega, by go_num, hBw.out.drew⟩
      case measure => simp [intOf]; omega
    · have hlt' : ¬ (k : Int) < (n : Int) := by omega
      have HBE : Hid (Below w.heap.size w wr) := below_self HB12.out hBw.out
      clear HSA HSB HCA HCB HZA HZB HAB HOA HOB HGA HGB HGC HZC HX HY HZ HXR HYR HR12 HS12 HB12 HRL HCG HU HD HN hBw
      go_wp2
      go_ret
      exact ⟨rfl, HBE.out⟩
end Go.Proofs.Ytcieilbnlbielaa
