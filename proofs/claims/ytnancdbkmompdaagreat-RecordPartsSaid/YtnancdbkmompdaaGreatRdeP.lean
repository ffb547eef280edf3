/-
 The walk of RecordParts.
-/
import Derived.Test.YtnancdbkmompdaaGreatPQR
namespace Go.Proofs.YtnancdbkmompdaaGreat
open Go.RowKit Go.Sort
open Go.WideMaps
set_option linter.unusedSimpArgs false
set_option linter.unusedVariables false

set_option maxRecDepth 100000 in
set_option maxHeartbeats 8000000 in
theorem parts_law (x : Snp) (ca : Array Value) (aA : Option Addr) (nA : Nat) (A : List ByteArray) (aB : Option Addr) (nB : Nat) (Bs : List ByteArray) (W : World) (ha : snS.is W ca.toList x) (rA : SRd W aA A) (rB : SRd W aB Bs) (sA : ∀ s ∈ A, s.size ≤ maxLen) (sB : ∀ s ∈ Bs, s.size ≤ maxLen) : Calls Tryz.prog 4 #[.agg ca, .slice aA A.length nA, .slice aB Bs.length nB] W fun e w' => e = .returned (.bool true) ∧ Below W.heap.size W w' := by
 obtain ⟨a1, m1, c1, rs1, a2, m2, c2, rs2, a3, m3, c3, rs3, hca, -, -, -⟩ := sn_is ha
 obtain ⟨n0, hn0⟩ : ∃ q, x.1.1 = q := ⟨_, rfl⟩
 obtain rfl : ca = #[.int .i64 n0, .slice a1 m1 c1, .slice a2 m2 c2, .slice a3 m3 c3] := by
  cases ca
  rw [← hn0]
  simpa [snV] using hca
 obtain ⟨X, hX⟩ : ∃ X, W.alloc (.cells #[.int .i64 n0, .slice a1 m1 c1, .slice a2 m2 c2, .slice a3 m3 c3] 28) = X := ⟨_, rfl⟩
 have hB : Below W.heap.size W X := by rw [← hX]; exact (Below.refl _ _).alloc (Nat.le_refl _) _
 have HPa : Hid (Bk X W.heap.size 28 [.int .i64 n0, .slice a1 m1 c1, .slice a2 m2 c2, .slice a3 m3 c3]) := Lib.hid (by rw [← hX]; exact Bk.new W _ [.int .i64 n0, .slice a1 m1 c1, .slice a2 m2 c2, .slice a3 m3 c3])
 have HBX := Lib.hid hB
 have HSa := Lib.hid (snS.keep ha hB)
 have HRA := Lib.hid (rA.below hB)
 have HRB := Lib.hid (rB.below hB)
 have HZA := Lib.hid sA
 have HZB := Lib.hid sB
 have HX := Lib.hid (Below.refl X.heap.size X)
 have HI4 : Hid ((Tryz.prog.info? 28).map (·.size) = some 4) := Lib.hid (by kernel_rfl)
 have HI6 : Hid ((Tryz.prog.info? 37).map (·.size) = some 6) := Lib.hid (by kernel_rfl)
 have HI23 : Hid ((Tryz.prog.info? 61).map (·.size) = some 23) := Lib.hid (by kernel_rfl)
 have HXX := Lib.hid hX
 obtain ⟨NA, hNA⟩ : ∃ q, A.length = q := ⟨_, rfl⟩
 obtain ⟨NB, hNB⟩ : ∃ q, Bs.length = q := ⟨_, rfl⟩
 have HNA := Lib.hid hNA
 have HNB := Lib.hid hNB
 rw [hNA, hNB]
 clear ha hca hn0 hB hX rA rB sA sB hNA hNB
 go_enter Tryz.func4, Tryz.ntmps4
 go_wp2_with fail
 rw [HXX.out]
 refine (works18_any _).mono ?_
 rintro e y1 ⟨rfl, hb⟩
 clear HXX
 have HXn := Lib.hid (HX.out.trans (hb.mono HX.out.size))
 clear HX hb
 have HX := HXn
 clear HXn
 have p0 := ((HPa.out.below HX.out).cell 0)
 have p1 := ((HPa.out.below HX.out).cell 1)
 have p2 := ((HPa.out.below HX.out).cell 2)
 have p3 := ((HPa.out.below HX.out).cell 3)
 simp only [List.getElem?_cons_zero, List.getElem?_cons_succ] at p0 p1 p2 p3
 go_wp2_with fail
 refine (little_any x #[.int .i64 n0, .slice a1 m1 c1, .slice a2 m2 c2, .slice a3 m3 c3] _ (snS.keep HSa.out HX.out)).mono ?_
 rintro e y2 ⟨r, he, hr, hb⟩
 rw [he.out]
 clear he
 have HXn := Lib.hid (HX.out.trans (hb.mono HX.out.size))
 clear HX hb
 have HX := HXn
 clear HXn
 clear p0 p1 p2 p3
 by_cases qA : 30 < NA
 ·have s1 : decide ((30 : Int) < (NA : Int)) = true := decide_eq_true (by omega)
  have s2 : (30 : Int) < (NA : Int) := by omega
  have s3 : decide (30 < NA) = true := decide_eq_true qA
  clear hr
  go_wp2_with fail
  go_ret
  exact ⟨rfl, HBX.out.trans (HX.out.mono HBX.out.size)⟩
 have t1A : decide ((30 : Int) < (NA : Int)) = false := decide_eq_false (by omega)
 have t2A : ¬ (30 : Int) < (NA : Int) := by omega
 have t3A : decide (30 < NA) = false := decide_eq_false qA
 by_cases qB : 30 < NB
 ·have s1 : decide ((30 : Int) < (NB : Int)) = true := decide_eq_true (by omega)
  have s2 : (30 : Int) < (NB : Int) := by omega
  have s3 : decide (30 < NB) = true := decide_eq_true qB
  clear hr
  go_wp2_with fail
  go_ret
  exact ⟨rfl, HBX.out.trans (HX.out.mono HBX.out.size)⟩
 have t1B : decide ((30 : Int) < (NB : Int)) = false := decide_eq_false (by omega)
 have t2B : ¬ (30 : Int) < (NB : Int) := by omega
 have t3B : decide (30 < NB) = false := decide_eq_false qB
 cases r with
 | false =>
  clear hr
  go_wp2_with fail
  go_ret
  exact ⟨rfl, HBX.out.trans (HX.out.mono HBX.out.size)⟩
 | true =>
 have HLx := Lib.hid (hr rfl)
 have HN30 := Lib.hid (show NA ≤ 30 ∧ NB ≤ 30 by omega)
 clear hr
 go_wp2_with fail
 clear t1A t2A t3A t1B t2B t3B qA qB
 have HX0 := HX
 clear HX
 go_loopw [9, 10] (fun s9 s10 wr => ∃ k : Nat, k ≤ NA ∧ s10 = .int .i64 k ∧ Hid (Below X.heap.size X wr) ∧ Hid (AlI X.heap.size wr s9 (A.take k)) ∧ Hid (∀ j, j < k → (A.getD j ByteArray.empty).size ≤ 3000)) (fun _ s10 _ => NA - (intOf s10).toNat)
 case atStart => exact ⟨0, Nat.zero_le _, rfl, HX0, Lib.hid (AlI.nil _ _), Lib.hid (fun j hj => by omega)⟩
 case round =>
  obtain ⟨k, hk, rfl, hX, hAl, hF⟩ := hrel
  by_cases hlt : k < NA
  ·have hlt' : (k : Int) < (NA : Int) := by omega
   have hkl : k < A.length := by have := HNA.out; omega
   obtain ⟨g, off, hga, hg, hc⟩ := (HRA.out.below hX.out).cell k hkl
   obtain ⟨s, hs⟩ : ∃ s, A.getD k ByteArray.empty = s := ⟨_, rfl⟩
   rw [hs] at hc
   have hsm : s ∈ A := by
    rw [← hs]; simp only [List.getD, List.getElem?_eq_getElem hkl, Option.getD_some]; exact List.getElem_mem hkl
   have HSs := Lib.hid (HZA.out s hsm)
   have HE := Lib.hid hs
   have HKl := Lib.hid hkl
   subst hga
   clear hs hsm hkl
   by_cases c3 : 3000 < s.size
   ·have s1 : decide ((3000 : Int) < (s.size : Int)) = true := decide_eq_true (by omega)
    have s2 : (3000 : Int) < (s.size : Int) := by omega
    have s3 : decide (3000 < s.size) = true := decide_eq_true c3
    go_wp2_with fail
    go_ret
    exact ⟨rfl, HBX.out.trans (hX.out.mono HBX.out.size)⟩
   have s1 : decide ((3000 : Int) < (s.size : Int)) = false := decide_eq_false (by omega)
   have s2 : ¬ (3000 : Int) < (s.size : Int) := by omega
   have s3 : decide (3000 < s.size) = false := decide_eq_false c3
   have HS3 := Lib.hid (show s.size ≤ 3000 by omega)
   obtain ⟨vs, ho, hvl, hvu⟩ := hAl.out.it
   have HO := Lib.hid ho
   have HVL := Lib.hid hvl
   have HVU := Lib.hid hvu
   clear ho hvl hvu
   go_wp2_with (refine wpList_bytesU (o := ⟨some 53, _, _, _, _, _⟩) rfl _ rfl s rfl (by have := HS3.out; omega) ?_)
   intro v1 w1 hu1 hz1 hb1
   have hu0 := hu1
   obtain ⟨_, g1, k1, f1, cs1, fr1, rfl, _⟩ := hu1
   have HU0 := Lib.hid hu0
   have HO1 := Lib.hid (HO.out.below hb1)
   have HB1 := Lib.hid hb1
   have HX1 := Lib.hid (hX.out.trans (hb1.mono hX.out.size))
   have HZ1 := Lib.hid hX.out.size
   clear hu0 hz1 hb1 s1 s2 s3 c3
   go_wp2_with (refine wpList_app1 rfl _ _ 32 33 _ 24 rfl Tryz.underlying32 infoRow rfl (by omega) X.heap.size _ vs rfl (HO1.out.below ((Below.refl _ _).alloc (Nat.le_refl _) _)) w1.heap.size (.slice (some ⟨g1, 0, none⟩) k1 f1) rfl ?hu1 rfl (by rw [HVL.out]; have := HN30.out; have := HKl.out; have := HNA.out; have := HNB.out; simp; omega) (by have := HB1.out.size; have := HZ1.out; simp; omega) ?_)
   case hu1 => simp [go_sem]
   intro v2 w2 ho2 hb2 hz2 hgrow2
   have hz1a : (w1.alloc (.cells #[.slice (some ⟨g1, 0, none⟩) k1 f1] 33)).heap.size = w1.heap.size + 1 := by simp
   have HAl2 : Hid (AlI X.heap.size w2 v2 (A.take (k + 1))) := Lib.hid (by
    have h := AlI.snoc (w := w1) (w1 := w1.alloc (.cells #[.slice (some ⟨g1, 0, none⟩) k1 f1] 33)) (ts := A.take k) HO1.out HVL.out (fun j hj => (HVU.out j hj).keep fun q cs fr hq => HB1.out.block q (Array.getElem?_eq_some_iff.1 hq).1) HU0.out (fun q cs T fr hq => Below.heap_alloc _ _ _ (Array.getElem?_eq_some_iff.1 hq).1) (by rw [hz1a]; omega) ho2 hgrow2
    rw [← HE.out] at h
    rw [List.take_add_one, List.getElem?_eq_getElem HKl.out]
    simpa [List.getD, HKl.out] using h)
   have HX2 : Hid (Below X.heap.size X w2) := Lib.hid ((HX1.out.alloc HX1.out.size _).trans hb2)
   have HF2 : Hid (∀ j, j < k + 1 → (A.getD j ByteArray.empty).size ≤ 3000) := Lib.hid (fun j hj => by
    by_cases q : j = k
    ·subst q; rw [HE.out]; exact HS3.out
    ·exact hF.out j (by omega))
   clear hX hAl hF ho2 hb2 hz2 hgrow2 HU0 HO1 HB1 HX1 HZ1 HO HVL HVU HE HKl HSs HS3 hg hc hz1a
   obtain ⟨hn1, hn2⟩ := HN30.out
   go_wp2_with fail
   go_roundw
   case rel => exact ⟨k + 1, by omega, by go_num, HX2, HAl2, HF2⟩
   case measure => simp [intOf]; omega
  ·have hlt' : ¬ (k : Int) < (NA : Int) := by omega
   obtain rfl : k = NA := by omega
   have hAA : A.take k = A := by rw [← HNA.out]; exact List.take_length
   rw [hAA] at hAl
   have HX := hX
   have HAl := hAl
   have HF := hF
   obtain ⟨al, cl, hv9⟩ := hAl.out.slice
   rw [HNA.out] at hv9
   subst hv9
   clear hX hAl hF hAA HX0
   have p0 := ((HPa.out.below HX.out).cell 0)
   have p1 := ((HPa.out.below HX.out).cell 1)
   have p2 := ((HPa.out.below HX.out).cell 2)
   have p3 := ((HPa.out.below HX.out).cell 3)
   simp only [List.getElem?_cons_zero, List.getElem?_cons_succ] at p0 p1 p2 p3
   have HFs : Hid (∀ s ∈ A, s.size ≤ 3000) := Lib.hid (fun s hs => by
    obtain ⟨j, hj, e⟩ := List.getElem_of_mem hs
    have := HF.out j (by have := HNA.out; omega)
    simpa [List.getD, hj, e] using this)
   go_wp2_with fail
   refine (replay_any x #[.int .i64 n0, .slice a1 m1 c1, .slice a2 m2 c2, .slice a3 m3 c3] (.slice al k cl) (A.map byt) _ (snS.keep HSa.out HX.out) HLx.out.sn6 HAl.out.bod (fun b hb => by obtain ⟨s, _, rfl⟩ := List.mem_map.1 hb; exact byt_range s) (fun b hb => by obtain ⟨s, hs, rfl⟩ := List.mem_map.1 hb; rw [byt_length]; have := HFs.out s hs; omega) (by rw [List.length_map]; have := HNA.out; have := HN30.out; omega)).mono ?_
   rintro e w3 ⟨cs0, b0, he, hst, -, hb⟩
   rw [he.out]
   clear he
   obtain ⟨e1, f1, d1, e2, f2, d2, e3, f3, d3, e4, f4, d4, hcs⟩ := hst.lit
   obtain ⟨x0, hx0⟩ : ∃ q, (rplR x (A.map byt)).1.1.1 = q := ⟨_, rfl⟩
   rw [hx0] at hcs
   obtain ⟨w4, hw4⟩ : ∃ q, w3.alloc (.cells cs0 37) = q := ⟨_, rfl⟩
   have hb34 : Below w3.heap.size w3 w4 := by rw [← hw4]; exact (Below.refl _ _).alloc (Nat.le_refl _) _
   have HPs : Hid (PaI w3.heap.size (rplR x (A.map byt)) w4) := Lib.hid ⟨cs0, b0, by rw [← hw4]; exact bka_new w3 37 cs0, hst.on hb34⟩
   have HAl4 := Lib.hid ((HAl.out.below hb).below hb34)
   have HXn := Lib.hid ((HX.out.trans (hb.mono HX.out.size)).trans (hb34.mono (by have := HX.out.size; have := hb.size; omega)))
   have HN11 : Hid (X.heap.size ≤ w3.heap.size) := Lib.hid (by have := HX.out.size; have := hb.size; omega)
   have HW4 := Lib.hid hw4
   subst hcs
   clear hst hb hb34 hw4 hx0 HX HAl p0 p1 p2 p3
   go_wp2_with fail
   rw [HW4.out]
   clear HW4
   go_loopw [9, 12] (fun s9 s12 wr => ∃ j : Nat, j ≤ NB ∧ s12 = .int .i64 j ∧ Hid (Below X.heap.size X wr) ∧ Hid (AlI X.heap.size wr s9 (A ++ Bs.take j)) ∧ Hid (PaI w3.heap.size (rplR x ((A ++ Bs.take j).map byt)) wr) ∧ Hid (∀ i, i < j → (Bs.getD i ByteArray.empty).size ≤ 3000)) (fun _ s12 _ => NB - (intOf s12).toNat)
   case atStart => exact ⟨0, Nat.zero_le _, rfl, HXn, by rw [List.take_zero, List.append_nil]; exact HAl4, by rw [List.take_zero, List.append_nil]; exact HPs, Lib.hid (fun i hi => by omega)⟩
   case round =>
    clear HXn HAl4 HPs
    obtain ⟨j, hj, rfl, hX, hAl, hPs, hFb⟩ := hrel
    by_cases hlt : j < NB
    ·have hlt' : (j : Int) < (NB : Int) := by omega
     have hkl : j < Bs.length := by have := HNB.out; omega
     obtain ⟨g, off, hga, hg, hc⟩ := (HRB.out.below hX.out).cell j hkl
     obtain ⟨s, hs⟩ : ∃ s, Bs.getD j ByteArray.empty = s := ⟨_, rfl⟩
     rw [hs] at hc
     have hsm : s ∈ Bs := by
      rw [← hs]; simp only [List.getD, List.getElem?_eq_getElem hkl, Option.getD_some]; exact List.getElem_mem hkl
     have HSs := Lib.hid (HZB.out s hsm)
     have HE := Lib.hid hs
     have HKl := Lib.hid hkl
     subst hga
     clear hs hsm hkl
     by_cases c3 : 3000 < s.size
     ·have s1 : decide ((3000 : Int) < (s.size : Int)) = true := decide_eq_true (by omega)
      have s2 : (3000 : Int) < (s.size : Int) := by omega
      have s3 : decide (3000 < s.size) = true := decide_eq_true c3
      go_wp2_with fail
      go_ret
      exact ⟨rfl, HBX.out.trans (hX.out.mono HBX.out.size)⟩
     have s1 : decide ((3000 : Int) < (s.size : Int)) = false := decide_eq_false (by omega)
     have s2 : ¬ (3000 : Int) < (s.size : Int) := by omega
     have s3 : decide (3000 < s.size) = false := decide_eq_false c3
     have HS3 := Lib.hid (show s.size ≤ 3000 by omega)
     obtain ⟨vs, ho, hvl, hvu⟩ := hAl.out.it
     have HO := Lib.hid ho
     have HVL := Lib.hid hvl
     have HVU := Lib.hid hvu
     clear ho hvl hvu
     go_wp2_with (refine wpList_bytesU (o := ⟨some 77, _, _, _, _, _⟩) rfl _ rfl s rfl (by have := HS3.out; omega) ?_)
     intro v1 w1 hu1 hz1 hb1
     have hu0 := hu1
     obtain ⟨_, g1, k1, f1, cs1, fr1, rfl, _⟩ := hu1
     have HU0 := Lib.hid hu0
     have HO1 := Lib.hid (HO.out.below hb1)
     have HB1 := Lib.hid hb1
     have HX1 := Lib.hid (hX.out.trans (hb1.mono hX.out.size))
     have HZ1 := Lib.hid hX.out.size
     clear hu0 hz1 hb1 s1 s2 s3 c3
     go_wp2_with (refine wpList_app1 rfl _ _ 32 33 _ 24 rfl Tryz.underlying32 infoRow rfl (by omega) X.heap.size _ vs rfl (HO1.out.below ((Below.refl _ _).alloc (Nat.le_refl _) _)) w1.heap.size (.slice (some ⟨g1, 0, none⟩) k1 f1) rfl ?hu2 rfl (by rw [HVL.out]; have := HN30.out; have := HKl.out; have := HNA.out; have := HNB.out; simp; omega) (by have := HB1.out.size; have := HZ1.out; simp; omega) ?_)
     case hu2 => simp [go_sem]
     intro v2 w2 ho2 hb2 hz2 hgrow2
     have hz1a : (w1.alloc (.cells #[.slice (some ⟨g1, 0, none⟩) k1 f1] 33)).heap.size = w1.heap.size + 1 := by simp
     have HAl2 : Hid (AlI X.heap.size w2 v2 (A ++ Bs.take (j + 1))) := Lib.hid (by
      have h := AlI.snoc (w := w1) (w1 := w1.alloc (.cells #[.slice (some ⟨g1, 0, none⟩) k1 f1] 33)) (ts := A ++ Bs.take j) HO1.out HVL.out (fun i hi => (HVU.out i hi).keep fun q cs fr hq => HB1.out.block q (Array.getElem?_eq_some_iff.1 hq).1) HU0.out (fun q cs T fr hq => Below.heap_alloc _ _ _ (Array.getElem?_eq_some_iff.1 hq).1) (by rw [hz1a]; omega) ho2 hgrow2
      rw [← HE.out] at h
      rw [List.take_add_one, List.getElem?_eq_getElem HKl.out, ← List.append_assoc]
      simpa [List.getD, HKl.out] using h)
     have HX2 : Hid (Below X.heap.size X w2) := Lib.hid ((HX1.out.alloc HX1.out.size _).trans hb2)
     have HPs2 : Hid (PaI w3.heap.size (rplR x ((A ++ Bs.take j).map byt)) w2) := Lib.hid (((hPs.out.below HB1.out).below ((Below.refl _ _).alloc (Nat.le_refl _) (.cells #[.slice (some ⟨g1, 0, none⟩) k1 f1] 33))).grown (HO1.out.below ((Below.refl _ _).alloc (Nat.le_refl _) _)) hgrow2)
     have HFb2 : Hid (∀ i, i < j + 1 → (Bs.getD i ByteArray.empty).size ≤ 3000) := Lib.hid (fun i hi => by
      by_cases q : i = j
      ·subst q; rw [HE.out]; exact HS3.out
      ·exact hFb.out i (by omega))
     have hc2 : w2.cell? ⟨g, off + j, none⟩ = some (.string s) := by
      obtain ⟨g9, off9, e9, _, hc9⟩ := (HRB.out.below HX2.out).cell j HKl.out
      simp only [Option.some.injEq, Addr.mk.injEq, and_true] at e9
      obtain ⟨rfl, rfl⟩ := e9
      rw [HE.out] at hc9
      exact hc9
     clear hX hAl hPs hFb ho2 hb2 hz2 hgrow2 HU0 HO1 HB1 HX1 HZ1 HO HVL HVU hc hz1a
     obtain ⟨hn1, hn2⟩ := HN30.out
     have hgw : g < w2.heap.size := by have := HX2.out.size; have := (HRB.out.cell j HKl.out); obtain ⟨g9, off9, e9, hg9, _⟩ := this; simp only [Option.some.injEq, Addr.mk.injEq, and_true] at e9; omega
     go_wp2_with (refine wpList_bytesU (o := ⟨some 85, _, _, _, _, _⟩) rfl _ rfl s rfl (by have := HS3.out; omega) ?_)
     intro v3 w5 hu3 hz3 hb3
     obtain ⟨hbt3, g3, k3, f3, cs3, fr3, rfl, _⟩ := hu3
     have HG := Lib.hid (get_any _ (byt s) w5 hbt3 (byt_range s) (by rw [byt_length]; have := HS3.out; omega))
     have HX5 := Lib.hid (HX2.out.trans (hb3.mono HX2.out.size))
     have HAl5 := Lib.hid (HAl2.out.below hb3)
     have HPs5 := Lib.hid (HPs2.out.below hb3)
     clear hbt3 hz3 hb3 HX2 HAl2 HPs2 hc2 hgw
     go_wp2_with fail
     refine HG.out.mono ?_
     rintro e w6 ⟨u, he, hb, hu⟩
     obtain ⟨csr, rfl, hsz, hone, hrec⟩ := get_inv hu
     rw [he.out]
     obtain ⟨er, her⟩ : ∃ q, endE (rcRd (byt s, 0)).2 = q := ⟨_, rfl⟩
     rw [her] at hrec ⊢
     have HEr := Lib.hid her
     have HSz := Lib.hid hsz
     have HOne := Lib.hid hone
     obtain ⟨w7, hw7⟩ : ∃ q, (w6.alloc (.cells z23 61)).setRow w6.heap.size csr = q := ⟨_, rfl⟩
     have hb67 : Below w6.heap.size w6 w7 := by rw [← hw7]; exact below_setRow ((Below.refl _ _).alloc (Nat.le_refl _) _) (Nat.le_refl _) csr
     have HRw : Hid (w7.heap[w6.heap.size]? = some (.cells csr 61 (0, 0))) := Lib.hid (by rw [← hw7]; exact heap_setRow_same _ _ z23 csr _ (bka_new w6 _ _))
     have HNew := Lib.hid (bka_new w6 61 z23)
     have HX7 := Lib.hid ((HX5.out.trans (hb.mono HX5.out.size)).trans (hb67.mono (by have := HX5.out.size; have := hb.size; omega)))
     have HAl7 := Lib.hid ((HAl5.out.below hb).below hb67)
     have HPs7 := Lib.hid ((HPs5.out.below hb).below hb67)
     have HRec := Lib.hid (fun h0 : er = 0 => rcS.keep (hrec h0 w6 (fun _ _ _ => rfl)) hb67)
     have HW7 := Lib.hid hw7
     have HAdd : Hid ((A ++ Bs.take (j + 1)).map byt = (A ++ Bs.take j).map byt ++ [byt s]) := Lib.hid (by
      rw [List.take_add_one, List.getElem?_eq_getElem HKl.out]
      have e := HE.out
      simp only [List.getD, List.getElem?_eq_getElem HKl.out, Option.getD_some] at e
      simp [e])
     have HBn : Hid (∀ b ∈ (A ++ Bs.take j).map byt, BytL b) := Lib.hid (fun b hb => by obtain ⟨s, _, rfl⟩ := List.mem_map.1 hb; exact byt_range s)
     have HLen : Hid (((A ++ Bs.take j).map byt).length ≤ 60) := Lib.hid (by rw [List.length_map, List.length_append, List.length_take]; have := HNA.out; have := HNB.out; omega)
     clear he hu hb hb67 hsz hone hrec her hw7 HG HX5 HAl5 HPs5 HKl HE
     by_cases q : er = 0
     ·subst q
      obtain ⟨cs, b, hh, hst⟩ := HPs7.out.it
      obtain ⟨t1, t2, t3, t4, t5, t6, t7, t8, t9, t10, t11, t12, hcs⟩ := hst.lit
      obtain ⟨x1, hx1⟩ : ∃ q, (rplR x ((A ++ Bs.take j).map byt)).1.1.1 = q := ⟨_, rfl⟩
      rw [hx1] at hcs
      subst hcs
      have hbd := rplR_bnd HLx.out.sn6 _ HBn.out
      obtain ⟨hs6, hd6, _⟩ := rec_little (byt s) (byt_range s) HEr.out
      have HAd := Lib.hid (add_any _ _ _ _ b (.agg csr) (rcRd (byt s, 0)).1 w7 hst ⟨csr, rfl, HRec.out rfl⟩ hbd.sn (by have := hbd.l; have := HLen.out; omega) (by have := hbd.m; have := HLen.out; omega) hbd.dp (rec_okI _ (byt_range s) HEr.out) hd6 hs6)
      have HH := Lib.hid hh
      clear hh hst hx1 hbd hs6 hd6
      go_wp2_with (first | refine wpList_store_rnA rfl 61 _ _ rfl w6.heap.size rfl csr rfl z23 61 HNew.out (by rw [HSz.out]; exact HI23.out) (by rw [HSz.out]; rfl) HOne.out HW7.out ?_ | refine wpList_load_rowG rfl _ _ rfl w3.heap.size rfl 37 _ (0, 0) _ HH.out Tryz.underlying37 rfl HI6.out ?_ | refine wpList_load_rowG rfl _ _ rfl w6.heap.size rfl 61 csr (0, 0) _ HRw.out Tryz.underlying61 rfl (by rw [HSz.out]; exact HI23.out) ?_)
      refine HAd.out.mono ?_
      rintro e w8 ⟨cs2, b2, he, hs2, -, hb⟩
      rw [he.out]
      obtain ⟨q1, q2, q3, q4, q5, q6, q7, q8, q9, q10, q11, q12, hcs2⟩ := hs2.lit
      have HS6 : Hid (cs2.size = 6) := Lib.hid (by rw [hcs2]; rfl)
      have HO6 : Hid (cs2.all (·.oneCell') = true) := Lib.hid (by rw [hcs2, ← Array.all_toList]; rfl)
      obtain ⟨w9, hw9⟩ : ∃ q, w8.setRow w3.heap.size cs2 = q := ⟨_, rfl⟩
      have hh8 := (hb.block _ (Array.getElem?_eq_some_iff.1 HH.out).1).trans HH.out
      have HPs9 : Hid (PaI w3.heap.size (rplR x ((A ++ Bs.take (j + 1)).map byt)) w9) := Lib.hid (by
       rw [HAdd.out, rplR_snoc]
       unfold stpR
       rw [if_pos HEr.out]
       exact PaI.put hh8 hs2 hw9)
      have HX9 := Lib.hid (below_put (HX7.out.trans (hb.mono HX7.out.size)) HN11.out hw9)
      have HAl9 := Lib.hid ((HAl7.out.below hb).put hh8 hw9)
      have HW9 := Lib.hid hw9
      have HH8 := Lib.hid hh8
      clear he hs2 hb hcs2 hw9 hh8 HAd HH HX7 HAl7 HPs7 HRw HNew HRec HW7
      go_wp2_with (refine wpList_store_rnA rfl 37 _ _ rfl w3.heap.size rfl cs2 rfl _ 37 HH8.out (by rw [HS6.out]; exact HI6.out) (by rw [HS6.out]; rfl) HO6.out HW9.out ?_)
      go_roundw
      case rel => exact ⟨j + 1, by omega, by go_num, HX9, HAl9, HPs9, HFb2⟩
      case measure => simp [intOf]; omega
     ·have q1 : (er == 0) = false := by simpa using q
      have q2 : (er != 0) = true := by simpa using q
      have HPs9 : Hid (PaI w3.heap.size (rplR x ((A ++ Bs.take (j + 1)).map byt)) w7) := Lib.hid (by
       rw [HAdd.out, rplR_snoc]
       unfold stpR
       rw [if_neg (by rw [HEr.out]; exact q)]
       exact HPs7.out)
      clear q HRec HPs7 HRw
      go_wp2_with (refine wpList_store_rnA rfl 61 _ _ rfl w6.heap.size rfl csr rfl z23 61 HNew.out (by rw [HSz.out]; exact HI23.out) (by rw [HSz.out]; rfl) HOne.out HW7.out ?_)
      go_roundw
      case rel => exact ⟨j + 1, by omega, by go_num, HX7, HAl7, HPs9, HFb2⟩
      case measure => simp [intOf]; omega
    ·have hlt' : ¬ (j : Int) < (NB : Int) := by omega
     obtain rfl : j = NB := by omega
     have hBB : Bs.take j = Bs := by rw [← HNB.out]; exact List.take_length
     rw [hBB] at hAl hPs
     have HX := hX
     have HAl := hAl
     have HPs := hPs
     have HFb := hFb
     obtain ⟨al2, cl2, hv9⟩ := hAl.out.slice
     obtain ⟨NC, hNC⟩ : ∃ q, (A ++ Bs).length = q := ⟨_, rfl⟩
     rw [hNC] at hv9
     subst hv9
     have HNC := Lib.hid hNC
     clear hX hAl hPs hFb hBB hNC
     have p0 := ((HPa.out.below HX.out).cell 0)
     have p1 := ((HPa.out.below HX.out).cell 1)
     have p2 := ((HPa.out.below HX.out).cell 2)
     have p3 := ((HPa.out.below HX.out).cell 3)
     simp only [List.getElem?_cons_zero, List.getElem?_cons_succ] at p0 p1 p2 p3
     have HFs2 : Hid (∀ s ∈ A ++ Bs, s.size ≤ 3000) := Lib.hid (fun s hs => by
      rcases List.mem_append.1 hs with hs | hs
      ·exact HFs.out s hs
      ·obtain ⟨i, hi, e⟩ := List.getElem_of_mem hs
       have := HFb.out i (by have := HNB.out; omega)
       simpa [List.getD, hi, e] using this)
     go_wp2_with fail
     refine (replay_any x #[.int .i64 n0, .slice a1 m1 c1, .slice a2 m2 c2, .slice a3 m3 c3] (.slice al2 NC cl2) ((A ++ Bs).map byt) _ (snS.keep HSa.out HX.out) HLx.out.sn6 (by have h := HAl.out.bod; exact h) (fun b hb => by obtain ⟨s, _, rfl⟩ := List.mem_map.1 hb; exact byt_range s) (fun b hb => by obtain ⟨s, hs, rfl⟩ := List.mem_map.1 hb; rw [byt_length]; have := HFs2.out s hs; omega) (by rw [List.length_map, List.length_append]; have := HNA.out; have := HNB.out; have := HN30.out; omega)).mono ?_
     rintro e w10 ⟨cs9, b9, he, hst9, -, hb⟩
     rw [he.out]
     clear he
     have hbd := rplR_bnd HLx.out.sn6 ((A ++ Bs).map byt) (fun b hb => by obtain ⟨s, _, rfl⟩ := List.mem_map.1 hb; exact byt_range s)
     have HLe : Hid (((A ++ Bs).map byt).length ≤ 60) := Lib.hid (by rw [List.length_map, List.length_append]; have := HNA.out; have := HNB.out; have := HN30.out; omega)
     obtain ⟨Y, hY⟩ : ∃ q, rplR x ((A ++ Bs).map byt) = q := ⟨_, rfl⟩
     rw [hY] at hst9 hbd HPs
     have HBd := Lib.hid hbd
     obtain ⟨w11, hw11⟩ : ∃ q, w10.alloc (.cells cs9 37) = q := ⟨_, rfl⟩
     have hb1 : Below w10.heap.size w10 w11 := by rw [← hw11]; exact (Below.refl _ _).alloc (Nat.le_refl _) _
     obtain ⟨cs8, b8, hh8, hst8⟩ := ((HPs.out.below hb).below hb1).it
     have hst9 := hst9.on hb1
     have hh9 : w11.heap[w10.heap.size]? = some (.cells cs9 37 (0, 0)) := by rw [← hw11]; exact bka_new w10 37 cs9
     have HLk := Lib.hid (fun (id : I3) (hid : okI id) => look_two hst8 hst9 (fun id z q => hbd.dp id z q) id hid)
     obtain ⟨g1, f1, g2, f2, g3, f3, g4, f4, hc8, hs8⟩ := hst8.lit2
     obtain ⟨i1, d1, i2, d2, i3, d3, i4, d4, hc9, hs9⟩ := hst9.lit2
     have hik8 : IK.Rd w11 (.slice g4 Y.2.1.length f4) Y.2.1 := by
      obtain ⟨v1, v2, v3, v4, e, _, h⟩ := hst8.cells
      rw [hc8] at e
      simp only [Array.mk.injEq, List.cons.injEq, and_true, true_and] at e
      rw [e.2.2.2]
      exact h.rd
     have hik9 : IK.Rd w11 (.slice i4 Y.2.1.length d4) Y.2.1 := by
      obtain ⟨v1, v2, v3, v4, e, _, h⟩ := hst9.cells
      rw [hc9] at e
      simp only [Array.mk.injEq, List.cons.injEq, and_true, true_and] at e
      rw [e.2.2.2]
      exact h.rd
     have hokl := hst8.okl
     obtain ⟨x9, hx9⟩ : ∃ q, Y.1.1.1 = q := ⟨_, rfl⟩
     obtain ⟨L1, hL1⟩ : ∃ q, Y.1.1.2.length = q := ⟨_, rfl⟩
     obtain ⟨L2, hL2⟩ : ∃ q, Y.1.2.1.length = q := ⟨_, rfl⟩
     obtain ⟨L3, hL3⟩ : ∃ q, Y.1.2.2.length = q := ⟨_, rfl⟩
     obtain ⟨NL, hNL⟩ : ∃ q, Y.2.1.length = q := ⟨_, rfl⟩
     rw [hx9, hL1, hL2, hL3, hNL] at hc8 hc9
     rw [hx9, hL1, hL2, hL3] at hs8 hs9
     rw [hNL] at hik8 hik9
     have HNL := Lib.hid hNL
     have hNL60 : NL ≤ 60 := by rw [← hNL]; have := hbd.l; have := HLe.out; omega
     have HX11 := Lib.hid ((HX.out.trans (hb.mono HX.out.size)).trans (hb1.mono (by have := HX.out.size; have := hb.size; omega)))
     subst hc8 hc9
     have HP8 : Hid (Bk w11 w3.heap.size 37 [.int .i64 x9, .slice g1 L1 f1, .slice g2 L2 f2, .slice g3 L3 f3, .slice g4 NL f4, .map (some b8)]) := Lib.hid hh8
     have HP9 : Hid (Bk w11 w10.heap.size 37 [.int .i64 x9, .slice i1 L1 d1, .slice i2 L2 d2, .slice i3 L3 d3, .slice i4 NL d4, .map (some b9)]) := Lib.hid hh9
     have HS89 := Lib.hid (fun (V : World) (hV : Below w11.heap.size w11 V) => by
      have h := recSame Y.1 Y.1 #[.int .i64 x9, .slice g1 L1 f1, .slice g2 L2 f2, .slice g3 L3 f3] #[.int .i64 x9, .slice i1 L1 d1, .slice i2 L2 d2, .slice i3 L3 d3] w11 V hs8 hs9 hV hbd.sn
      rw [decide_eq_true (rfl : Y.1 = Y.1)] at h
      exact h)
     have HK8 := Lib.hid hik8
     have HK9 := Lib.hid hik9
     have HOk := Lib.hid hokl
     have HW11 := Lib.hid hw11
     have HBF := Lib.hid (HBX.out.trans (HX11.out.mono HBX.out.size))
     clear hst8 hst9 hh8 hh9 hb hb1 hs8 hs9 hik8 hik9 hokl hx9 hL1 hL2 hL3 hNL hw11 hY hbd HX HAl HPs p0 p1 p2 p3
     go_upto_region 25 with fail
     rw [HW11.out]
     clear HW11
     have HX := Lib.hid (Below.refl w11.heap.size w11)
     have P0 := ((HP8.out.below HX.out).cell 0)
     have P1 := ((HP8.out.below HX.out).cell 1)
     have P2 := ((HP8.out.below HX.out).cell 2)
     have P3 := ((HP8.out.below HX.out).cell 3)
     have P4 := ((HP8.out.below HX.out).cell 4)
     have P5 := ((HP8.out.below HX.out).cell 5)
     have Q0 := ((HP9.out.below HX.out).cell 0)
     have Q1 := ((HP9.out.below HX.out).cell 1)
     have Q2 := ((HP9.out.below HX.out).cell 2)
     have Q3 := ((HP9.out.below HX.out).cell 3)
     have Q4 := ((HP9.out.below HX.out).cell 4)
     have Q5 := ((HP9.out.below HX.out).cell 5)
     simp only [List.getElem?_cons_zero, List.getElem?_cons_succ] at P0 Q0 P1 Q1 P2 Q2 P3 Q3 P4 Q4 P5 Q5
     go_wp2_with fail
     refine (HS89.out _ HX.out).mono ?_
     rintro e y9 ⟨he, hb⟩
     rw [he.out]
     clear he
     have HXn := Lib.hid (HX.out.trans (hb.mono HX.out.size))
     clear HX hb
     have HX := HXn
     clear HXn
     clear P0 Q0 P1 Q1 P2 Q2 P3 Q3 P4 Q4 P5 Q5
     go_wp2_with fail
     go_loopw [16] (fun s16 wr => ∃ k : Nat, k ≤ NL ∧ s16 = .int .i64 k ∧ Hid (Below w11.heap.size w11 wr)) (fun s16 _ => NL - (intOf s16).toNat)
     case atStart => exact ⟨0, Nat.zero_le _, rfl, HX⟩
     case round =>
      clear HX
      obtain ⟨k, hk, rfl, HX⟩ := hrel
      have P0 := ((HP8.out.below HX.out).cell 0)
      have P1 := ((HP8.out.below HX.out).cell 1)
      have P2 := ((HP8.out.below HX.out).cell 2)
      have P3 := ((HP8.out.below HX.out).cell 3)
      have P4 := ((HP8.out.below HX.out).cell 4)
      have P5 := ((HP8.out.below HX.out).cell 5)
      have Q0 := ((HP9.out.below HX.out).cell 0)
      have Q1 := ((HP9.out.below HX.out).cell 1)
      have Q2 := ((HP9.out.below HX.out).cell 2)
      have Q3 := ((HP9.out.below HX.out).cell 3)
      have Q4 := ((HP9.out.below HX.out).cell 4)
      have Q5 := ((HP9.out.below HX.out).cell 5)
      simp only [List.getElem?_cons_zero, List.getElem?_cons_succ] at P0 Q0 P1 Q1 P2 Q2 P3 Q3 P4 Q4 P5 Q5
      by_cases hlt : k < NL
      ·have hlt' : (k : Int) < (NL : Int) := by omega
       obtain ⟨e0, gp, offp, hdp, hgp, q1, q2, q3, hkY⟩ := idCell (HK8.out.below HX.out) k hlt
       obtain ⟨e1, gq, offq, hdq, hgq, p1, p2, p3, -⟩ := idCell (HK9.out.below HX.out) k hlt
       have hid : okI (Y.2.1.getD k (0, 0, 0)) := by
        simp only [List.getD, List.getElem?_eq_getElem hkY, Option.getD_some]
        exact HOk.out _ (List.getElem_mem hkY)
       obtain ⟨v1, v2, hl1, hl2, hsm⟩ := HLk.out _ hid
       obtain ⟨⟨z1, z2, z3⟩, hz⟩ : ∃ q, Y.2.1.getD k (0, 0, 0) = q := ⟨_, rfl⟩
       rw [hz] at q1 q2 q3 p1 p2 p3 hl1 hl2
       have HL1 := Lib.hid (fun (V : World) (hV : Below wr.heap.size wr V) => hl1 V (HX.out.trans (hV.mono HX.out.size)))
       have HL2 := Lib.hid (fun (V : World) (hV : Below wr.heap.size wr V) => hl2 V (HX.out.trans (hV.mono HX.out.size)))
       have HSm := Lib.hid (fun (V : World) (hV : Below wr.heap.size wr V) => hsm V (HX.out.trans (hV.mono HX.out.size)))
       obtain ⟨hne, hgd⟩ := neI_run z1 z2 z3 z1 z2 z3
       rw [decide_eq_true (rfl : ((z1, z2, z3) : I3) = (z1, z2, z3))] at hne
       simp only [Bool.not_true] at hne
       have HP8w := Lib.hid (HP8.out.below HX.out)
       have HP9w := Lib.hid (HP9.out.below HX.out)
       have hsz9 := HX.out.size
       subst hdp hdq
       clear e0 e1 hid hl1 hl2 hsm hz hkY
       go_upto_region 30 with fail
       clear P0 Q0 P1 Q1 P2 Q2 P3 Q3 P4 Q4 P5 Q5
       refine wp_region_held_drew (S := fun w' => Below wr.heap.size wr w') (by kernel_rfl) ?_ (fun hHeld => ?_)
       ·(first | exact Below.refl _ _ | exact (Below.refl _ _).drew | assumption | exact below_self (by assumption) (by assumption))
       refine wpAnyH_take (i := 0) (v := ?_) rfl (by kernel_rfl) (by kernel_rfl) (by kernel_rfl) (fun _ _ _ h => h) (Or.inl ⟨by rfl, ?_⟩) (by assumption) ?_
       rotate_left
       ·(intro w hSw; (try dsimp only at hSw); go_simp; try rfl)
       try simp only [Act.put, List.setIfInBounds_toArray, List.set_cons_zero, List.set_cons_succ, List.getElem_toArray, List.getElem_cons_zero, List.getElem_cons_succ]
       refine wpAnyH_take (i := 1) (v := ?_) rfl (by kernel_rfl) (by kernel_rfl) (by kernel_rfl) (fun _ _ _ h => h) (Or.inl ⟨by rfl, ?_⟩) (by assumption) ?_
       rotate_left
       ·(intro w' hSw; have e := (HP8w.out.below hSw).cell 4; simp only [List.getElem?_cons_zero, List.getElem?_cons_succ] at e; clear hSw; go_simp; try rfl)
       try simp only [Act.put, List.setIfInBounds_toArray, List.set_cons_zero, List.set_cons_succ, List.getElem_toArray, List.getElem_cons_zero, List.getElem_cons_succ]
       refine wpAnyH_take (i := 2) (v := ?_) rfl (by kernel_rfl) (by kernel_rfl) (by kernel_rfl) (fun _ _ _ h => h) (Or.inl ⟨by rfl, ?_⟩) (by assumption) ?_
       rotate_left
       ·(intro w hSw; (try dsimp only at hSw); go_simp; try rfl)
       try simp only [Act.put, List.setIfInBounds_toArray, List.set_cons_zero, List.set_cons_succ, List.getElem_toArray, List.getElem_cons_zero, List.getElem_cons_succ]
       refine wpAnyH_take (i := 3) (v := ?_) rfl (by kernel_rfl) (by kernel_rfl) (by kernel_rfl) (fun _ _ _ h => h) (Or.inl ⟨by rfl, ?_⟩) (by assumption) ?_
       rotate_left
       ·(intro w hSw; (try dsimp only at hSw); go_simp; try rfl)
       try simp only [Act.put, List.setIfInBounds_toArray, List.set_cons_zero, List.set_cons_succ, List.getElem_toArray, List.getElem_cons_zero, List.getElem_cons_succ]
       refine wpAnyH_take (i := 4) (v := ?_) rfl (by kernel_rfl) (by kernel_rfl) (by kernel_rfl) (fun _ _ _ h => h) (Or.inl ⟨by rfl, ?_⟩) (by assumption) ?_
       rotate_left
       ·(intro w' hSw; have e0 := (hSw.cell (p := ⟨gp, offp + k * 3, none⟩) hgp).trans q1; have e1 := (hSw.cell (p := ⟨gp, offp + k * 3 + 1, none⟩) hgp).trans q2; have e2 := (hSw.cell (p := ⟨gp, offp + k * 3 + 2, none⟩) hgp).trans q3; clear hSw; go_simp; try rfl)
       try simp only [Act.put, List.setIfInBounds_toArray, List.set_cons_zero, List.set_cons_succ, List.getElem_toArray, List.getElem_cons_zero, List.getElem_cons_succ]
       refine wpAnyH_take (i := 5) (v := ?_) rfl (by kernel_rfl) (by kernel_rfl) (by kernel_rfl) (fun _ _ _ h => h) (Or.inl ⟨by rfl, ?_⟩) (by assumption) ?_
       rotate_left
       ·(intro w hSw; (try dsimp only at hSw); go_simp; try rfl)
       try simp only [Act.put, List.setIfInBounds_toArray, List.set_cons_zero, List.set_cons_succ, List.getElem_toArray, List.getElem_cons_zero, List.getElem_cons_succ]
       refine wpAnyH_take (i := 6) (v := ?_) rfl (by kernel_rfl) (by kernel_rfl) (by kernel_rfl) (fun _ _ _ h => h) (Or.inl ⟨by rfl, ?_⟩) (by assumption) ?_
       rotate_left
       ·(intro w' hSw; have e := (HP9w.out.below hSw).cell 4; simp only [List.getElem?_cons_zero, List.getElem?_cons_succ] at e; clear hSw; go_simp; try rfl)
       try simp only [Act.put, List.setIfInBounds_toArray, List.set_cons_zero, List.set_cons_succ, List.getElem_toArray, List.getElem_cons_zero, List.getElem_cons_succ]
       refine wpAnyH_take (i := 7) (v := ?_) rfl (by kernel_rfl) (by kernel_rfl) (by kernel_rfl) (fun _ _ _ h => h) (Or.inl ⟨by rfl, ?_⟩) (by assumption) ?_
       rotate_left
       ·(intro w hSw; (try dsimp only at hSw); go_simp; try rfl)
       try simp only [Act.put, List.setIfInBounds_toArray, List.set_cons_zero, List.set_cons_succ, List.getElem_toArray, List.getElem_cons_zero, List.getElem_cons_succ]
       refine wpAnyH_take (i := 8) (v := ?_) rfl (by kernel_rfl) (by kernel_rfl) (by kernel_rfl) (fun _ _ _ h => h) (Or.inl ⟨by rfl, ?_⟩) (by assumption) ?_
       rotate_left
       ·(intro w hSw; (try dsimp only at hSw); go_simp; try rfl)
       try simp only [Act.put, List.setIfInBounds_toArray, List.set_cons_zero, List.set_cons_succ, List.getElem_toArray, List.getElem_cons_zero, List.getElem_cons_succ]
       refine wpAnyH_take (i := 9) (v := ?_) rfl (by kernel_rfl) (by kernel_rfl) (by kernel_rfl) (fun _ _ _ h => h) (Or.inl ⟨by rfl, ?_⟩) (by assumption) ?_
       rotate_left
       ·(intro w' hSw; have e0 := (hSw.cell (p := ⟨gq, offq + k * 3, none⟩) hgq).trans p1; have e1 := (hSw.cell (p := ⟨gq, offq + k * 3 + 1, none⟩) hgq).trans p2; have e2 := (hSw.cell (p := ⟨gq, offq + k * 3 + 2, none⟩) hgq).trans p3; clear hSw; go_simp; try rfl)
       try simp only [Act.put, List.setIfInBounds_toArray, List.set_cons_zero, List.set_cons_succ, List.getElem_toArray, List.getElem_cons_zero, List.getElem_cons_succ]
       refine wpAnyH_take (i := 10) (v := ?_) rfl (by kernel_rfl) (by kernel_rfl) (by kernel_rfl) (fun _ _ _ h => h) (Or.inl ⟨by rfl, ?_⟩) (by assumption) ?_
       rotate_left
       ·(intro w hSw; (try dsimp only at hSw); go_simp; try rfl)
       try simp only [Act.put, List.setIfInBounds_toArray, List.set_cons_zero, List.set_cons_succ, List.getElem_toArray, List.getElem_cons_zero, List.getElem_cons_succ]
       refine wpAnyH_take (i := 11) (v := ?_) rfl (by kernel_rfl) (by kernel_rfl) (by kernel_rfl) (fun _ _ _ h => h) (Or.inl ⟨by rfl, ?_⟩) (by assumption) ?_
       rotate_left
       ·(intro w hSw; (try dsimp only at hSw); go_simp; try rfl)
       try simp only [Act.put, List.setIfInBounds_toArray, List.set_cons_zero, List.set_cons_succ, List.getElem_toArray, List.getElem_cons_zero, List.getElem_cons_succ]
       refine wpAnyH_take (i := 12) (v := ?_) rfl (by kernel_rfl) (by kernel_rfl) (by kernel_rfl) (fun _ _ _ h => h) (Or.inl ⟨by rfl, ?_⟩) (by assumption) ?_
       rotate_left
       ·(intro w hSw; (try dsimp only at hSw); go_simp; try rfl)
       try simp only [Act.put, List.setIfInBounds_toArray, List.set_cons_zero, List.set_cons_succ, List.getElem_toArray, List.getElem_cons_zero, List.getElem_cons_succ]
       refine wpAnyH_take (i := 13) (v := ?_) rfl (by kernel_rfl) (by kernel_rfl) (by kernel_rfl) (fun _ _ _ h => h) (Or.inl ⟨by rfl, ?_⟩) (by assumption) ?_
       rotate_left
       ·(intro w' hSw; have e := (HP8w.out.below hSw).cell 5; simp only [List.getElem?_cons_zero, List.getElem?_cons_succ] at e; clear hSw; go_simp; try rfl)
       try simp only [Act.put, List.setIfInBounds_toArray, List.set_cons_zero, List.set_cons_succ, List.getElem_toArray, List.getElem_cons_zero, List.getElem_cons_succ]
       refine wpAnyH_take (i := 14) (v := ?_) rfl (by kernel_rfl) (by kernel_rfl) (by kernel_rfl) (fun _ _ _ h => h) (Or.inl ⟨by rfl, ?_⟩) (by assumption) ?_
       rotate_left
       ·(intro w hSw; (try dsimp only at hSw); go_simp; try rfl)
       try simp only [Act.put, List.setIfInBounds_toArray, List.set_cons_zero, List.set_cons_succ, List.getElem_toArray, List.getElem_cons_zero, List.getElem_cons_succ]
       refine wpAnyH_take (i := 15) (v := ?_) rfl (by kernel_rfl) (by kernel_rfl) (by kernel_rfl) (fun _ _ _ h => h) (Or.inl ⟨by rfl, ?_⟩) (by assumption) ?_
       rotate_left
       ·(intro w' hSw; have e := (HP8w.out.below hSw).cell 4; simp only [List.getElem?_cons_zero, List.getElem?_cons_succ] at e; clear hSw; go_simp; try rfl)
       try simp only [Act.put, List.setIfInBounds_toArray, List.set_cons_zero, List.set_cons_succ, List.getElem_toArray, List.getElem_cons_zero, List.getElem_cons_succ]
       refine wpAnyH_take (i := 16) (v := ?_) rfl (by kernel_rfl) (by kernel_rfl) (by kernel_rfl) (fun _ _ _ h => h) (Or.inl ⟨by rfl, ?_⟩) (by assumption) ?_
       rotate_left
       ·(intro w hSw; (try dsimp only at hSw); go_simp; try rfl)
       try simp only [Act.put, List.setIfInBounds_toArray, List.set_cons_zero, List.set_cons_succ, List.getElem_toArray, List.getElem_cons_zero, List.getElem_cons_succ]
       refine wpAnyH_take (i := 17) (v := ?_) rfl (by kernel_rfl) (by kernel_rfl) (by kernel_rfl) (fun _ _ _ h => h) (Or.inl ⟨by rfl, ?_⟩) (by assumption) ?_
       rotate_left
       ·(intro w hSw; (try dsimp only at hSw); go_simp; try rfl)
       try simp only [Act.put, List.setIfInBounds_toArray, List.set_cons_zero, List.set_cons_succ, List.getElem_toArray, List.getElem_cons_zero, List.getElem_cons_succ]
       refine wpAnyH_take (i := 18) (v := ?_) rfl (by kernel_rfl) (by kernel_rfl) (by kernel_rfl) (fun _ _ _ h => h) (Or.inl ⟨by rfl, ?_⟩) (by assumption) ?_
       rotate_left
       ·(intro w' hSw; have e0 := (hSw.cell (p := ⟨gp, offp + k * 3, none⟩) hgp).trans q1; have e1 := (hSw.cell (p := ⟨gp, offp + k * 3 + 1, none⟩) hgp).trans q2; have e2 := (hSw.cell (p := ⟨gp, offp + k * 3 + 2, none⟩) hgp).trans q3; clear hSw; go_simp; try rfl)
       try simp only [Act.put, List.setIfInBounds_toArray, List.set_cons_zero, List.set_cons_succ, List.getElem_toArray, List.getElem_cons_zero, List.getElem_cons_succ]
       refine wpAnyH_take (i := 19) (v := ?_) rfl (by kernel_rfl) (by kernel_rfl) (by kernel_rfl) (fun _ _ _ h => h) (Or.inl ⟨by rfl, ?_⟩) (by assumption) ?_
       rotate_left
       ·(intro w' hSw; refine Eq.trans (take_lookup 35 _ _ rfl (.map (some b8)) (idW (z1, z2, z3)) rfl rfl v1 (HL1.out w' hSw)) ?_; rfl)
       try simp only [Act.put, List.setIfInBounds_toArray, List.set_cons_zero, List.set_cons_succ, List.getElem_toArray, List.getElem_cons_zero, List.getElem_cons_succ]
       refine wpAnyH_take (i := 20) (v := ?_) rfl (by kernel_rfl) (by kernel_rfl) (by kernel_rfl) (fun _ _ _ h => h) (Or.inl ⟨by rfl, ?_⟩) (by assumption) ?_
       rotate_left
       ·(intro w hSw; (try dsimp only at hSw); go_simp; try rfl)
       try simp only [Act.put, List.setIfInBounds_toArray, List.set_cons_zero, List.set_cons_succ, List.getElem_toArray, List.getElem_cons_zero, List.getElem_cons_succ]
       refine wpAnyH_take (i := 21) (v := ?_) rfl (by kernel_rfl) (by kernel_rfl) (by kernel_rfl) (fun _ _ _ h => h) (Or.inl ⟨by rfl, ?_⟩) (by assumption) ?_
       rotate_left
       ·(intro w' hSw; have e := (HP9w.out.below hSw).cell 5; simp only [List.getElem?_cons_zero, List.getElem?_cons_succ] at e; clear hSw; go_simp; try rfl)
       try simp only [Act.put, List.setIfInBounds_toArray, List.set_cons_zero, List.set_cons_succ, List.getElem_toArray, List.getElem_cons_zero, List.getElem_cons_succ]
       refine wpAnyH_take (i := 22) (v := ?_) rfl (by kernel_rfl) (by kernel_rfl) (by kernel_rfl) (fun _ _ _ h => h) (Or.inl ⟨by rfl, ?_⟩) (by assumption) ?_
       rotate_left
       ·(intro w hSw; (try dsimp only at hSw); go_simp; try rfl)
       try simp only [Act.put, List.setIfInBounds_toArray, List.set_cons_zero, List.set_cons_succ, List.getElem_toArray, List.getElem_cons_zero, List.getElem_cons_succ]
       refine wpAnyH_take (i := 23) (v := ?_) rfl (by kernel_rfl) (by kernel_rfl) (by kernel_rfl) (fun _ _ _ h => h) (Or.inl ⟨by rfl, ?_⟩) (by assumption) ?_
       rotate_left
       ·(intro w' hSw; have e := (HP8w.out.below hSw).cell 4; simp only [List.getElem?_cons_zero, List.getElem?_cons_succ] at e; clear hSw; go_simp; try rfl)
       try simp only [Act.put, List.setIfInBounds_toArray, List.set_cons_zero, List.set_cons_succ, List.getElem_toArray, List.getElem_cons_zero, List.getElem_cons_succ]
       refine wpAnyH_take (i := 24) (v := ?_) rfl (by kernel_rfl) (by kernel_rfl) (by kernel_rfl) (fun _ _ _ h => h) (Or.inl ⟨by rfl, ?_⟩) (by assumption) ?_
       rotate_left
       ·(intro w hSw; (try dsimp only at hSw); go_simp; try rfl)
       try simp only [Act.put, List.setIfInBounds_toArray, List.set_cons_zero, List.set_cons_succ, List.getElem_toArray, List.getElem_cons_zero, List.getElem_cons_succ]
       refine wpAnyH_take (i := 25) (v := ?_) rfl (by kernel_rfl) (by kernel_rfl) (by kernel_rfl) (fun _ _ _ h => h) (Or.inl ⟨by rfl, ?_⟩) (by assumption) ?_
       rotate_left
       ·(intro w hSw; (try dsimp only at hSw); go_simp; try rfl)
       try simp only [Act.put, List.setIfInBounds_toArray, List.set_cons_zero, List.set_cons_succ, List.getElem_toArray, List.getElem_cons_zero, List.getElem_cons_succ]
       refine wpAnyH_take (i := 26) (v := ?_) rfl (by kernel_rfl) (by kernel_rfl) (by kernel_rfl) (fun _ _ _ h => h) (Or.inl ⟨by rfl, ?_⟩) (by assumption) ?_
       rotate_left
       ·(intro w' hSw; have e0 := (hSw.cell (p := ⟨gp, offp + k * 3, none⟩) hgp).trans q1; have e1 := (hSw.cell (p := ⟨gp, offp + k * 3 + 1, none⟩) hgp).trans q2; have e2 := (hSw.cell (p := ⟨gp, offp + k * 3 + 2, none⟩) hgp).trans q3; clear hSw; go_simp; try rfl)
       try simp only [Act.put, List.setIfInBounds_toArray, List.set_cons_zero, List.set_cons_succ, List.getElem_toArray, List.getElem_cons_zero, List.getElem_cons_succ]
       refine wpAnyH_take (i := 27) (v := ?_) rfl (by kernel_rfl) (by kernel_rfl) (by kernel_rfl) (fun _ _ _ h => h) (Or.inl ⟨by rfl, ?_⟩) (by assumption) ?_
       rotate_left
       ·(intro w' hSw; refine Eq.trans (take_lookup 35 _ _ rfl (.map (some b9)) (idW (z1, z2, z3)) rfl rfl v2 (HL2.out w' hSw)) ?_; rfl)
       try simp only [Act.put, List.setIfInBounds_toArray, List.set_cons_zero, List.set_cons_succ, List.getElem_toArray, List.getElem_cons_zero, List.getElem_cons_succ]
       refine wpAnyH_ready (rs := [28]) (by kernel_rfl) (by simp) ?_
       refine (AllReadyH.cons rfl (fun K hK => ?_) AllReadyH.nil)
       go_simp
       (refine (HSm.out _ (by assumption)).mono ?_; rintro e z28 ⟨rfl, hb⟩; have hb := below_self (by assumption) hb)
       refine hK.out _ _ ?_ (fun hHeld => ?_)
       ·(first | exact Below.refl _ _ | exact (Below.refl _ _).drew | assumption | exact below_self (by assumption) (by assumption))
       clear hK K
       try simp only [Act.put, List.setIfInBounds_toArray, List.set_cons_zero, List.set_cons_succ, List.getElem_toArray, List.getElem_cons_zero, List.getElem_cons_succ]
       refine wpAnyH_take (i := 29) (v := ?_) rfl (by kernel_rfl) (by kernel_rfl) (by kernel_rfl) (fun _ _ _ h => h) (Or.inl ⟨by rfl, ?_⟩) (by assumption) ?_
       rotate_left
       ·(intro w hSw; (try dsimp only at hSw); go_simp; try rfl)
       try simp only [Act.put, List.setIfInBounds_toArray, List.set_cons_zero, List.set_cons_succ, List.getElem_toArray, List.getElem_cons_zero, List.getElem_cons_succ]
       refine wpAnyH_take (i := 30) (v := ?_) rfl (by kernel_rfl) (by kernel_rfl) (by kernel_rfl) (fun _ _ _ h => h) (Or.inl ⟨by rfl, ?_⟩) (by assumption) ?_
       rotate_left
       ·(intro w hSw; (try dsimp only at hSw); go_simp; try rfl)
       try simp only [Act.put, List.setIfInBounds_toArray, List.set_cons_zero, List.set_cons_succ, List.getElem_toArray, List.getElem_cons_zero, List.getElem_cons_succ]
       refine wpAnyH_done (by kernel_rfl) ?_ _
       go_wp2_with fail
       go_roundw
       case rel => exact ⟨k + 1, by omega, by go_num, Lib.hid (HX.out.trans ((by assumption : Below wr.heap.size wr z28).mono HX.out.size))⟩
       case measure => simp [intOf]; omega
      ·have hlt' : ¬ (k : Int) < (NL : Int) := by omega
       go_wp2_with fail
       go_ret
       exact ⟨rfl, HBF.out.trans (HX.out.mono HBF.out.size)⟩
end Go.Proofs.YtnancdbkmompdaaGreat
