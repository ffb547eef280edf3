/-
 The walk of RecordReplays.
-/
import Derived.Test.YtnancdbkmompdaaGreatRY
import Derived.Test.YtnancdbkmompdaaGreatRZ
import Derived.Test.YtnancdbkmompdaaGreatRdlR
namespace Go.Proofs.YtnancdbkmompdaaGreat
open Go.RowKit Go.Sort
open Go.WideMaps
set_option linter.unusedSimpArgs false
set_option linter.unusedVariables false
set_option maxRecDepth 100000
set_option maxHeartbeats 40000000
theorem replays_law (x : Snp) (ca : Array Value) (aA : Option Addr) (nA : Nat) (A : List ByteArray) (nd : Int) (z : Snp) (cb : Array Value) (W : World) (ha : snS.is W ca.toList x) (hz : snS.is W cb.toList z) (rA : SRd W aA A) (sA : ∀ s ∈ A, s.size ≤ maxLen) : Calls Tryz.prog 3 #[.agg ca, .slice aA A.length nA, .int .i64 nd, .agg cb] W fun e w' => e = .returned (.bool true) ∧ Below W.heap.size W w' := by
 obtain ⟨a1, m1, c1, rs1, a2, m2, c2, rs2, a3, m3, c3, rs3, hca, -, -, -⟩ := sn_is ha
 obtain ⟨d1, k1, e1, ss1, d2, k2, e2, ss2, d3, k3, e3, ss3, hcb, -, -, -⟩ := sn_is hz
 obtain ⟨n0, hn0⟩ : ∃ q, x.1.1 = q := ⟨_, rfl⟩
 obtain ⟨j0, hj0⟩ : ∃ q, z.1.1 = q := ⟨_, rfl⟩
 obtain rfl : ca = #[.int .i64 n0, .slice a1 m1 c1, .slice a2 m2 c2, .slice a3 m3 c3] := by
  cases ca
  rw [← hn0]
  simpa [snV] using hca
 obtain rfl : cb = #[.int .i64 j0, .slice d1 k1 e1, .slice d2 k2 e2, .slice d3 k3 e3] := by
  cases cb
  rw [← hj0]
  simpa [snV] using hcb
 obtain ⟨X, hX⟩ : ∃ X, (W.alloc (.cells #[.int .i64 n0, .slice a1 m1 c1, .slice a2 m2 c2, .slice a3 m3 c3] 28)).alloc (.cells #[.int .i64 j0, .slice d1 k1 e1, .slice d2 k2 e2, .slice d3 k3 e3] 28) = X := ⟨_, rfl⟩
 have hB : Below W.heap.size W X := by rw [← hX]; exact ((Below.refl _ _).alloc (Nat.le_refl _) _).alloc (by simp) _
 have HPa : Hid (Bk X W.heap.size 28 [.int .i64 n0, .slice a1 m1 c1, .slice a2 m2 c2, .slice a3 m3 c3]) := Hd (by rw [← hX]; exact (Bk.new W _ [.int .i64 n0, .slice a1 m1 c1, .slice a2 m2 c2, .slice a3 m3 c3]).old _)
 have HPb : Hid (Bk X (W.heap.size + 1) 28 [.int .i64 j0, .slice d1 k1 e1, .slice d2 k2 e2, .slice d3 k3 e3]) := Hd (by rw [← hX]; have := Bk.new (W.alloc (.cells #[.int .i64 n0, .slice a1 m1 c1, .slice a2 m2 c2, .slice a3 m3 c3] 28)) 28 [.int .i64 j0, .slice d1 k1 e1, .slice d2 k2 e2, .slice d3 k3 e3]; simpa using this)
 have HBX := Hd hB
 have HSa := Hd (snS.keep ha hB)
 have HSb := Hd (snS.keep hz hB)
 have HRA := Hd (rA.below hB)
 have HZA := Hd sA
 have HX := Hd (Below.refl X.heap.size X)
 have HI4 : Hid ((Tryz.prog.info? 28).map (·.size) = some 4) := Hd (by kernel_rfl)
 have HI5 : Hid ((Tryz.prog.info? 41).map (·.size) = some 5) := Hd (by kernel_rfl)
 have HI6 : Hid ((Tryz.prog.info? 37).map (·.size) = some 6) := Hd (by kernel_rfl)
 have HXX := Hd hX
 obtain ⟨NA, hNA⟩ : ∃ q, A.length = q := ⟨_, rfl⟩
 have HNA := Hd hNA
 rw [hNA]
 clear ha hz hca hcb hn0 hj0 hB hX rA sA hNA
 go_enter Tryz.func3, Tryz.ntmps3
 go_wp2_with fail
 rw [HXX.out]
 refine (works18_any _).mono ?_
 rintro e y1 ⟨rfl, hb⟩
 clear HXX
 have HXn := Hd (HX.out.trans (hb.mono HX.out.size))
 clear HX hb
 have HX := HXn
 clear HXn
 have p0 := ((HPa.out.below HX.out).cell 0)
 have p1 := ((HPa.out.below HX.out).cell 1)
 have p2 := ((HPa.out.below HX.out).cell 2)
 have p3 := ((HPa.out.below HX.out).cell 3)
 have q0 := ((HPb.out.below HX.out).cell 0)
 have q1 := ((HPb.out.below HX.out).cell 1)
 have q2 := ((HPb.out.below HX.out).cell 2)
 have q3 := ((HPb.out.below HX.out).cell 3)
 simp only [gB] at p0 p1 p2 p3 q0 q1 q2 q3
 go_wp2_with fail
 refine (little_any x #[.int .i64 n0, .slice a1 m1 c1, .slice a2 m2 c2, .slice a3 m3 c3] _ (snS.keep HSa.out HX.out)).mono ?_
 rintro e y2 ⟨r, he, hr, hb⟩
 rw [he.out]
 clear he
 have HXn := Hd (HX.out.trans (hb.mono HX.out.size))
 clear HX hb
 have HX := HXn
 clear HXn
 clear p0 p1 p2 p3 q0 q1 q2 q3
 cases r with
 | false =>
  clear hr
  by_cases qA : 30 < NA
  ·have s1 : decide ((30 : Int) < (NA : Int)) = true := decide_eq_true (by omega)
   have s2 : (30 : Int) < (NA : Int) := by omega
   have s3 : decide (30 < NA) = true := decide_eq_true qA
   go_wp2_with fail
   go_ret
   exact ⟨rfl, HBX.out.trans (HX.out.mono HBX.out.size)⟩
  have t1A : decide ((30 : Int) < (NA : Int)) = false := decide_eq_false (by omega)
  have t2A : ¬ (30 : Int) < (NA : Int) := by omega
  have t3A : decide (30 < NA) = false := decide_eq_false qA
  go_wp2_with fail
  go_ret
  exact ⟨rfl, HBX.out.trans (HX.out.mono HBX.out.size)⟩
 | true =>
 have HLx := Hd (hr rfl)
 clear hr
 have p0 := ((HPa.out.below HX.out).cell 0)
 have p1 := ((HPa.out.below HX.out).cell 1)
 have p2 := ((HPa.out.below HX.out).cell 2)
 have p3 := ((HPa.out.below HX.out).cell 3)
 have q0 := ((HPb.out.below HX.out).cell 0)
 have q1 := ((HPb.out.below HX.out).cell 1)
 have q2 := ((HPb.out.below HX.out).cell 2)
 have q3 := ((HPb.out.below HX.out).cell 3)
 simp only [gB] at p0 p1 p2 p3 q0 q1 q2 q3
 go_wp2_with fail
 refine (little_any z #[.int .i64 j0, .slice d1 k1 e1, .slice d2 k2 e2, .slice d3 k3 e3] _ (snS.keep HSb.out HX.out)).mono ?_
 rintro e y3 ⟨r, he, hr, hb⟩
 rw [he.out]
 clear he
 have HXn := Hd (HX.out.trans (hb.mono HX.out.size))
 clear HX hb
 have HX := HXn
 clear HXn
 clear p0 p1 p2 p3 q0 q1 q2 q3
 cases r with
 | false =>
  clear hr
  by_cases qA : 30 < NA
  ·have s1 : decide ((30 : Int) < (NA : Int)) = true := decide_eq_true (by omega)
   have s2 : (30 : Int) < (NA : Int) := by omega
   have s3 : decide (30 < NA) = true := decide_eq_true qA
   go_wp2_with fail
   go_ret
   exact ⟨rfl, HBX.out.trans (HX.out.mono HBX.out.size)⟩
  have t1A : decide ((30 : Int) < (NA : Int)) = false := decide_eq_false (by omega)
  have t2A : ¬ (30 : Int) < (NA : Int) := by omega
  have t3A : decide (30 < NA) = false := decide_eq_false qA
  go_wp2_with fail
  go_ret
  exact ⟨rfl, HBX.out.trans (HX.out.mono HBX.out.size)⟩
 | true =>
 have HLz := Hd (hr rfl)
 clear hr
 by_cases qA : 30 < NA
 ·have s1 : decide ((30 : Int) < (NA : Int)) = true := decide_eq_true (by omega)
  have s2 : (30 : Int) < (NA : Int) := by omega
  have s3 : decide (30 < NA) = true := decide_eq_true qA
  go_wp2_with fail
  go_ret
  exact ⟨rfl, HBX.out.trans (HX.out.mono HBX.out.size)⟩
 have t1A : decide ((30 : Int) < (NA : Int)) = false := decide_eq_false (by omega)
 have t2A : ¬ (30 : Int) < (NA : Int) := by omega
 have t3A : decide (30 < NA) = false := decide_eq_false qA
 have HN30 := Hd (show NA ≤ 30 by omega)
 go_wp2_with fail
 clear t1A t2A t3A qA
 have HX0 := HX
 clear HX
 go_loopw [11, 12] (fun s11 s12 wr => ∃ k : Nat, k ≤ NA ∧ s12 = .int .i64 k ∧ Hid (Below X.heap.size X wr) ∧ Hid (AlI X.heap.size wr s11 (A.take k)) ∧ Hid (∀ j, j < k → (A.getD j ByteArray.empty).size ≤ 3000)) (fun _ s12 _ => NA - (intOf s12).toNat)
 case atStart => exact ⟨0, Nat.zero_le _, rfl, HX0, Hd (AlI.nil _ _), Hd (fun j hj => by omega)⟩
 case round =>
  obtain ⟨k, hk, rfl, hX, hAl, hF⟩ := hrel
  by_cases hlt : k < NA
  ·have hlt' : (k : Int) < (NA : Int) := by omega
   have hkl : k < A.length := by have := HNA.out; omega
   obtain ⟨g, off, hga, hg, hc⟩ := (HRA.out.below hX.out).cell k hkl
   obtain ⟨s, hs⟩ : ∃ s, A.getD k ByteArray.empty = s := ⟨_, rfl⟩
   rw [hs] at hc
   have hsm : s ∈ A := by
    rw [← hs]; simp only [List.getD, List.getElem?_eq_getElem hkl, Option.getD_some]; exact List.getElem_mem hkl
   have HSs := Hd (HZA.out s hsm)
   have HE := Hd hs
   have HKl := Hd hkl
   subst hga
   clear hs hsm hkl
   by_cases c3 : 3000 < s.size
   ·have s1 : decide ((3000 : Int) < (s.size : Int)) = true := decide_eq_true (by omega)
    have s2 : (3000 : Int) < (s.size : Int) := by omega
    have s3 : decide (3000 < s.size) = true := decide_eq_true c3
    go_wp2_with fail
    go_ret
    exact ⟨rfl, HBX.out.trans (hX.out.mono HBX.out.size)⟩
   have s1 : decide ((3000 : Int) < (s.size : Int)) = false := decide_eq_false (by omega)
   have s2 : ¬ (3000 : Int) < (s.size : Int) := by omega
   have s3 : decide (3000 < s.size) = false := decide_eq_false c3
   have HS3 := Hd (show s.size ≤ 3000 by omega)
   obtain ⟨vs, ho, hvl, hvu⟩ := hAl.out.it
   have HO := Hd ho
   have HVL := Hd hvl
   have HVU := Hd hvu
   clear ho hvl hvu
   go_wp2_with (refine wpList_bytesU (o := ⟨some 51, _, _, _, _, _⟩) rfl _ rfl s rfl (by have := HS3.out; omega) ?_)
   intro v1 w1 hu1 hz1 hb1
   have hu0 := hu1
   obtain ⟨_, g1, k1, f1, cs1, fr1, rfl, _⟩ := hu1
   have HU0 := Hd hu0
   have HO1 := Hd (HO.out.below hb1)
   have HB1 := Hd hb1
   have HX1 := Hd (hX.out.trans (hb1.mono hX.out.size))
   have HZ1 := Hd hX.out.size
   clear hu0 hz1 hb1 s1 s2 s3 c3
   go_wp2_with (refine wpList_app1 rfl _ _ 32 33 _ 24 rfl Tryz.underlying32 infoRow rfl (by omega) X.heap.size _ vs rfl (HO1.out.below ((Below.refl _ _).alloc (Nat.le_refl _) _)) w1.heap.size (.slice (some ⟨g1, 0, none⟩) k1 f1) rfl ?hu1 rfl (by rw [HVL.out]; have := HN30.out; have := HKl.out; have := HNA.out; simp; omega) (by have := HB1.out.size; have := HZ1.out; simp; omega) ?_)
   case hu1 => simp [go_sem]
   intro v2 w2 ho2 hb2 hz2 hgrow2
   have hz1a : (w1.alloc (.cells #[.slice (some ⟨g1, 0, none⟩) k1 f1] 33)).heap.size = w1.heap.size + 1 := by simp
   have HAl2 : Hid (AlI X.heap.size w2 v2 (A.take (k + 1))) := Hd (by
    have h := AlI.snoc (w := w1) (w1 := w1.alloc (.cells #[.slice (some ⟨g1, 0, none⟩) k1 f1] 33)) (ts := A.take k) HO1.out HVL.out (fun j hj => (HVU.out j hj).keep fun q cs fr hq => HB1.out.block q (Array.getElem?_eq_some_iff.1 hq).1) HU0.out (fun q cs T fr hq => Below.heap_alloc _ _ _ (Array.getElem?_eq_some_iff.1 hq).1) (by rw [hz1a]; omega) ho2 hgrow2
    rw [← HE.out] at h
    rw [List.take_add_one, List.getElem?_eq_getElem HKl.out]
    simpa [List.getD, HKl.out] using h)
   have HX2 : Hid (Below X.heap.size X w2) := Hd ((HX1.out.alloc HX1.out.size _).trans hb2)
   have HF2 : Hid (∀ j, j < k + 1 → (A.getD j ByteArray.empty).size ≤ 3000) := Hd (fun j hj => by
    by_cases q : j = k
    ·subst q; rw [HE.out]; exact HS3.out
    ·exact hF.out j (by omega))
   clear hX hAl hF ho2 hb2 hz2 hgrow2 HU0 HO1 HB1 HX1 HZ1 HO HVL HVU HE HKl HSs HS3 hg hc hz1a
   have hn1 := HN30.out
   go_wp2_with fail
   go_roundw
   case rel => exact ⟨k + 1, by omega, by go_num, HX2, HAl2, HF2⟩
   case measure => simp [intOf]; omega
  ·have hlt' : ¬ (k : Int) < (NA : Int) := by omega
   obtain rfl : k = NA := by omega
   have hAA : A.take k = A := by rw [← HNA.out]; exact List.take_length
   rw [hAA] at hAl
   have HX := hX
   have HAl := hAl
   have HF := hF
   obtain ⟨al, cl, hv9⟩ := hAl.out.slice
   rw [HNA.out] at hv9
   subst hv9
   clear hX hAl hF hAA HX0
   have p0 := ((HPa.out.below HX.out).cell 0)
   have p1 := ((HPa.out.below HX.out).cell 1)
   have p2 := ((HPa.out.below HX.out).cell 2)
   have p3 := ((HPa.out.below HX.out).cell 3)
   have q0 := ((HPb.out.below HX.out).cell 0)
   have q1 := ((HPb.out.below HX.out).cell 1)
   have q2 := ((HPb.out.below HX.out).cell 2)
   have q3 := ((HPb.out.below HX.out).cell 3)
   simp only [gB] at p0 p1 p2 p3 q0 q1 q2 q3
   have HFs : Hid (∀ s ∈ A, s.size ≤ 3000) := Hd (fun s hs => by
    obtain ⟨j, hj, e⟩ := List.getElem_of_mem hs
    have := HF.out j (by have := HNA.out; omega)
    simpa [List.getD, hj, e] using this)
   go_wp2_with fail
   refine (replay_any x #[.int .i64 n0, .slice a1 m1 c1, .slice a2 m2 c2, .slice a3 m3 c3] (.slice al k cl) (A.map byt) _ (snS.keep HSa.out HX.out) HLx.out.sn6 HAl.out.bod (fun b hb => by obtain ⟨s, _, rfl⟩ := List.mem_map.1 hb; exact byt_range s) (fun b hb => by obtain ⟨s, hs, rfl⟩ := List.mem_map.1 hb; rw [byt_length]; have := HFs.out s hs; omega) (by rw [List.length_map]; have := HNA.out; have := HN30.out; omega)).mono ?_
   rintro e w3 ⟨cs0, b0, he, hst, -, hb⟩
   rw [he.out]
   have hbd := rplR_bnd HLx.out.sn6 (A.map byt) (fun b hb => by obtain ⟨s, _, rfl⟩ := List.mem_map.1 hb; exact byt_range s)
   have HBn := Hd (show (A.map byt).length ≤ 1000 by rw [List.length_map]; have := HNA.out; have := HN30.out; omega)
   have HRp := Hd (fun (V : World) (hV : Below X.heap.size X V) => rreplay_any x #[.int .i64 n0, .slice a1 m1 c1, .slice a2 m2 c2, .slice a3 m3 c3] aA nA A V (snS.keep HSa.out hV) HLx.out.sn6 (HRA.out.below hV) HFs.out (by have := HNA.out; have := HN30.out; omega))
   rw [HNA.out] at HRp
   obtain ⟨Y, hY⟩ : ∃ q, rplR x (A.map byt) = q := ⟨_, rfl⟩
   rw [hY] at hst hbd HRp
   have hlit := hst.lit
   obtain ⟨x0, hx0⟩ : ∃ q, Y.1.1.1 = q := ⟨_, rfl⟩
   obtain ⟨g1, f1, v1, g2, f2, v2, g3, f3, v3, g4, f4, v4, hcs⟩ := hlit
   rw [hx0] at hcs
   obtain ⟨w4, hw4⟩ : ∃ q, w3.alloc (.cells cs0 37) = q := ⟨_, rfl⟩
   have hb34 : Below w3.heap.size w3 w4 := by rw [← hw4]; exact (Below.refl _ _).alloc (Nat.le_refl _) _
   have HS4 := Hd (hst.on hb34)
   have HR8 : Hid (w4.heap[w3.heap.size]? = some (.cells cs0 37 (0, 0))) := Hd (by rw [← hw4]; exact bka_new w3 37 cs0)
   have HXn := Hd ((HX.out.trans (hb.mono HX.out.size)).trans (hb34.mono (by have := HX.out.size; have := hb.size; omega)))
   have HW4 := Hd hw4
   have HBd := Hd hbd
   subst hcs
   clear he hst hb hb34 hw4 HX HAl hbd hY
   clear p0 p1 p2 p3 q0 q1 q2 q3
   go_upto_region 15 with fail
   rw [HW4.out]
   clear HW4
   have HX := HXn
   clear HXn
   have p0 := ((HPa.out.below HX.out).cell 0)
   have p1 := ((HPa.out.below HX.out).cell 1)
   have p2 := ((HPa.out.below HX.out).cell 2)
   have p3 := ((HPa.out.below HX.out).cell 3)
   have q0 := ((HPb.out.below HX.out).cell 0)
   have q1 := ((HPb.out.below HX.out).cell 1)
   have q2 := ((HPb.out.below HX.out).cell 2)
   have q3 := ((HPb.out.below HX.out).cell 3)
   simp only [gB] at p0 p1 p2 p3 q0 q1 q2 q3
   go_wp2_with fail
   refine (HRp.out _ HX.out).mono ?_
   rintro e w5 ⟨cs9, l9, he, hrs, hpr, hb⟩
   rw [he.out]
   obtain ⟨i1, M1, r1, i2, M2, r2, i3, M3, r3, i4, r4, hcs9, -, -⟩ := hrs.lit
   obtain ⟨NL, hNL⟩ : ∃ q, l9.length = q := ⟨_, rfl⟩
   rw [hx0, hNL] at hcs9
   obtain ⟨w6, hw6⟩ : ∃ q, w5.alloc (.cells cs9 41) = q := ⟨_, rfl⟩
   have hb56 : Below w5.heap.size w5 w6 := by rw [← hw6]; exact (Below.refl _ _).alloc (Nat.le_refl _) _
   have HS6 := Hd ((HS4.out.on hb).on hb56)
   have HT6 := Hd (hrs.on hb56)
   have HPr := Hd hpr
   have HR86 : Hid (w6.heap[w3.heap.size]? = some (.cells _ 37 (0, 0))) := Hd ((hb56.block _ (by have := (Array.getElem?_eq_some_iff.1 HR8.out).1; have := hb.size; omega)).trans ((hb.block _ (Array.getElem?_eq_some_iff.1 HR8.out).1).trans HR8.out))
   have HR96 : Hid (w6.heap[w5.heap.size]? = some (.cells cs9 41 (0, 0))) := Hd (by rw [← hw6]; exact bka_new w5 41 cs9)
   have HX6 := Hd ((HX.out.trans (hb.mono HX.out.size)).trans (hb56.mono (by have := HX.out.size; have := hb.size; omega)))
   have HLn : Hid (l9.length ≤ 1000) := Hd (by
    have h1 := hpr.len
    rw [List.length_map] at h1
    have h2 := HBd.out.m
    have h3 := HBn.out
    omega)
   have HKl : Hid (Y.2.1.length ≤ 1000) := Hd (by have h2 := HBd.out.l; have h3 := HBn.out; omega)
   have HW6 := Hd hw6
   subst hcs9
   clear he hrs hpr hb hb56 hw6 HX HRp HS4 HR8 hx0 hNL
   clear p0 p1 p2 p3 q0 q1 q2 q3
   go_upto_region 16 with fail
   rw [HW6.out]
   clear HW6
   have HSm := Hd (same18_any Y _ b0 _ l9 _ w6 HS6.out HT6.out HPr.out HBd.out HBn.out)
   go_wp2_with (first | refine wpList_load_rowG rfl _ _ rfl w3.heap.size rfl 37 _ (0, 0) _ HR86.out Tryz.underlying37 rfl HI6.out ?_ | refine wpList_load_rowG rfl _ _ rfl w5.heap.size rfl 41 _ (0, 0) _ HR96.out Tryz.underlying41 rfl HI5.out ?_)
   refine HSm.out.mono ?_
   rintro e w7 ⟨rfl, hb⟩
   have HS7 := Hd (HS6.out.on hb)
   have HT7 := Hd (HT6.out.on hb)
   have HR87 := Hd ((hb.block _ (Array.getElem?_eq_some_iff.1 HR86.out).1).trans HR86.out)
   have HR97 := Hd ((hb.block _ (Array.getElem?_eq_some_iff.1 HR96.out).1).trans HR96.out)
   have HX7 := Hd (HX6.out.trans (hb.mono HX6.out.size))
   clear hb HS6 HT6 HR86 HR96 HX6 HSm
   have HPa7 : Hid (w7.heap[W.heap.size]? = some (.cells #[.int .i64 n0, .slice a1 m1 c1, .slice a2 m2 c2, .slice a3 m3 c3] 28 (0, 0))) := Hd (HPa.out.below HX7.out)
   have HPb7 : Hid (w7.heap[W.heap.size + 1]? = some (.cells #[.int .i64 j0, .slice d1 k1 e1, .slice d2 k2 e2, .slice d3 k3 e3] 28 (0, 0))) := Hd (HPb.out.below HX7.out)
   have HZ : Hid (W.heap.size + 1 < w7.heap.size) := Hd (HPb.out.below HX7.out).lt
   have HZ8 : Hid (w3.heap.size < w7.heap.size ∧ w5.heap.size < w7.heap.size) := Hd ⟨(Array.getElem?_eq_some_iff.1 HR87.out).1, (Array.getElem?_eq_some_iff.1 HR97.out).1⟩
   obtain ⟨E, hE⟩ : ∃ E, decide (x = z) = E := ⟨_, rfl⟩
   have HSp := Hd (fun (V : World) (hV : Below w7.heap.size w7 V) => by
    have h := recSame x z #[.int .i64 n0, .slice a1 m1 c1, .slice a2 m2 c2, .slice a3 m3 c3] #[.int .i64 j0, .slice d1 k1 e1, .slice d2 k2 e2, .slice d3 k3 e3] X V HSa.out HSb.out (HX7.out.trans (hV.mono HX7.out.size)) HLx.out.sn6
    rw [hE] at h
    exact h)
   have HSq := Hd (fun (V : World) (hV : Below w7.heap.size w7 V) => by
    have h := recSame17 x z #[.int .i64 n0, .slice a1 m1 c1, .slice a2 m2 c2, .slice a3 m3 c3] #[.int .i64 j0, .slice d1 k1 e1, .slice d2 k2 e2, .slice d3 k3 e3] X V HSa.out HSb.out (HX7.out.trans (hV.mono HX7.out.size)) HLx.out.sn6 HLz.out.sn6
    rw [hE] at h
    exact h)
   obtain ⟨F, hF⟩ : ∃ F, nxtN nd Y.2.1 = F := ⟨_, rfl⟩
   have HNp := Hd (fun (V : World) (hV : Below w7.heap.size w7 V) => by
    have h := next_any _ _ _ _ _ nd V (HS7.out.on hV) (by have := HKl.out; omega)
    rw [hF] at h
    exact h)
   have HNq := Hd (fun (V : World) (hV : Below w7.heap.size w7 V) => by
    have h := rnext_any Y l9 _ nd V (HT7.out.on hV) HPr.out HLn.out
    rw [hF] at h
    exact h)
   have HBF := Hd (HBX.out.trans (HX7.out.mono HBX.out.size))
   clear hE hF HX7 HPa HPb HSa HSb HLx HLz HS7 HT7 HPr HBd HBn
   go_upto_region 17 with fail
   refine wp_region_held_drew (S := fun w' => Below w7.heap.size w7 w') (by kernel_rfl) ?_ (fun hHeld => ?_)
   ·(first | exact Below.refl _ _ | exact (Below.refl _ _).drew | assumption | exact below_self (by assumption) (by assumption))
   refine tkA 0 (v := ?_) ?_ ?_
   rotate_left
   ·(intro w hSw; (try dsimp only at hSw); go_simp; try rfl)
   try simp only [Act.put, gA]
   refine tkA 1 (v := ?_) ?_ ?_
   rotate_left
   ·(intro w hSw; (try dsimp only at hSw); go_simp; try rfl)
   try simp only [Act.put, gA]
   refine tkA 2 (v := ?_) ?_ ?_
   rotate_left
   ·(intro w hSw; (try dsimp only at hSw); go_simp; try rfl)
   try simp only [Act.put, gA]
   refine tkA 3 (v := ?_) ?_ ?_
   rotate_left
   ·(intro w hSw; (try dsimp only at hSw); go_simp; try rfl)
   try simp only [Act.put, gA]
   refine tkA 4 (v := ?_) ?_ ?_
   rotate_left
   ·(intro w hSw; (try dsimp only at hSw); go_simp; try rfl)
   try simp only [Act.put, gA]
   refine tkA 5 (v := ?_) ?_ ?_
   rotate_left
   ·(intro w' hSw; refine Eq.trans (take_load_row 37 _ rfl w3.heap.size rfl 37 _ (0, 0) _ ((hSw.block _ HZ8.out.1).trans HR87.out) Tryz.underlying37 rfl HI6.out) ?_; rfl)
   try simp only [Act.put, gA]
   refine tkA 6 (v := ?_) ?_ ?_
   rotate_left
   ·(intro w hSw; (try dsimp only at hSw); go_simp; try rfl)
   try simp only [Act.put, gA]
   refine tkA 8 (v := ?_) ?_ ?_
   rotate_left
   ·(intro w' hSw; refine Eq.trans (take_load_row 41 _ rfl w5.heap.size rfl 41 _ (0, 0) _ ((hSw.block _ HZ8.out.2).trans HR97.out) Tryz.underlying41 rfl HI5.out) ?_; rfl)
   try simp only [Act.put, gA]
   refine tkA 9 (v := ?_) ?_ ?_
   rotate_left
   ·(intro w hSw; (try dsimp only at hSw); go_simp; try rfl)
   try simp only [Act.put, gA]
   refine wpAnyH_ready (rs := [7]) (by kernel_rfl) (by simp) ?_
   refine (AllReadyH.cons rfl (fun K hK => ?_) AllReadyH.nil)
   go_simp
   (refine (HNp.out _ (by assumption)).mono ?_; rintro e z7 ⟨rfl, hb⟩; have hb := below_self (by assumption) hb)
   refine hK.out _ _ ?_ (fun hHeld => ?_)
   ·(first | exact Below.refl _ _ | exact (Below.refl _ _).drew | assumption | exact below_self (by assumption) (by assumption))
   clear hK K
   try simp only [Act.put, gA]
   refine wpAnyH_ready (rs := [10]) (by kernel_rfl) (by simp) ?_
   refine (AllReadyH.cons rfl (fun K hK => ?_) AllReadyH.nil)
   go_simp
   (refine (HNq.out _ (by assumption)).mono ?_; rintro e z10 ⟨he, hb⟩; rw [he.out]; clear he; have hb := below_self (by assumption) hb)
   refine hK.out _ _ ?_ (fun hHeld => ?_)
   ·(first | exact Below.refl _ _ | exact (Below.refl _ _).drew | assumption | exact below_self (by assumption) (by assumption))
   clear hK K
   try simp only [Act.put, gA]
   refine tkA 11 (v := ?_) ?_ ?_
   rotate_left
   ·(intro w hSw; (try dsimp only at hSw); go_simp; try rfl)
   try simp only [Act.put, gA]
   refine tkA 12 (v := ?_) ?_ ?_
   rotate_left
   ·(intro w hSw; (try dsimp only at hSw); go_simp; try rfl)
   try simp only [Act.put, gA]
   refine tkA 13 (v := ?_) ?_ ?_
   rotate_left
   ·(intro w hSw; (try dsimp only at hSw); go_simp; try rfl)
   try simp only [Act.put, gA]
   refine tkA 14 (v := ?_) ?_ ?_
   rotate_left
   ·(intro w' hSw; refine Eq.trans (take_load_row 28 _ rfl W.heap.size rfl 28 #[.int .i64 n0, .slice a1 m1 c1, .slice a2 m2 c2, .slice a3 m3 c3] (0, 0) _ ((hSw.block _ (by have := HZ.out; omega)).trans HPa7.out) Tryz.underlying28 rfl HI4.out) ?_; rfl)
   try simp only [Act.put, gA]
   refine tkA 15 (v := ?_) ?_ ?_
   rotate_left
   ·(intro w' hSw; refine Eq.trans (take_load_row 28 _ rfl (W.heap.size + 1) rfl 28 #[.int .i64 j0, .slice d1 k1 e1, .slice d2 k2 e2, .slice d3 k3 e3] (0, 0) _ ((hSw.block _ (by have := HZ.out; omega)).trans HPb7.out) Tryz.underlying28 rfl HI4.out) ?_; rfl)
   try simp only [Act.put, gA]
   refine tkA 17 (v := ?_) ?_ ?_
   rotate_left
   ·(intro w' hSw; refine Eq.trans (take_load_row 28 _ rfl W.heap.size rfl 28 #[.int .i64 n0, .slice a1 m1 c1, .slice a2 m2 c2, .slice a3 m3 c3] (0, 0) _ ((hSw.block _ (by have := HZ.out; omega)).trans HPa7.out) Tryz.underlying28 rfl HI4.out) ?_; rfl)
   try simp only [Act.put, gA]
   refine tkA 18 (v := ?_) ?_ ?_
   rotate_left
   ·(intro w' hSw; refine Eq.trans (take_load_row 28 _ rfl (W.heap.size + 1) rfl 28 #[.int .i64 j0, .slice d1 k1 e1, .slice d2 k2 e2, .slice d3 k3 e3] (0, 0) _ ((hSw.block _ (by have := HZ.out; omega)).trans HPb7.out) Tryz.underlying28 rfl HI4.out) ?_; rfl)
   try simp only [Act.put, gA]
   refine wpAnyH_ready (rs := [16]) (by kernel_rfl) (by simp) ?_
   refine (AllReadyH.cons rfl (fun K hK => ?_) AllReadyH.nil)
   go_simp
   (refine (HSp.out _ (by assumption)).mono ?_; rintro e z16 ⟨he, hb⟩; rw [he.out]; clear he; have hb := below_self (by assumption) hb)
   refine hK.out _ _ ?_ (fun hHeld => ?_)
   ·(first | exact Below.refl _ _ | exact (Below.refl _ _).drew | assumption | exact below_self (by assumption) (by assumption))
   clear hK K
   try simp only [Act.put, gA]
   refine wpAnyH_ready (rs := [19]) (by kernel_rfl) (by simp) ?_
   refine (AllReadyH.cons rfl (fun K hK => ?_) AllReadyH.nil)
   go_simp
   (refine (HSq.out _ (by assumption)).mono ?_; rintro e z19 ⟨he, hb⟩; rw [he.out]; clear he; have hb := below_self (by assumption) hb)
   refine hK.out _ _ ?_ (fun hHeld => ?_)
   ·(first | exact Below.refl _ _ | exact (Below.refl _ _).drew | assumption | exact below_self (by assumption) (by assumption))
   clear hK K
   try simp only [Act.put, gA]
   refine tkA 20 (v := ?_) ?_ ?_
   rotate_left
   ·(intro w hSw; (try dsimp only at hSw); go_simp; try rfl)
   try simp only [Act.put, gA]
   refine tkA 21 (v := ?_) ?_ ?_
   rotate_left
   ·(intro w hSw; (try dsimp only at hSw); go_simp; try rfl)
   try simp only [Act.put, gA]
   refine tkA 22 (v := ?_) ?_ ?_
   rotate_left
   ·(intro w hSw; (try dsimp only at hSw); go_simp; try rfl)
   try simp only [Act.put, gA]
   refine wpAnyH_done (by kernel_rfl) ?_ _
   go_wp2_with fail
   go_ret
   exact ⟨rfl, HBF.out.trans ((by assumption : Below w7.heap.size w7 _).mono HBF.out.size)⟩
end Go.Proofs.YtnancdbkmompdaaGreat
