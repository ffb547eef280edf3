/-
  Texts put together: Rdj, Rdk.
-/
import Derived.Test.YtnancdbkmompdaaGreatRY
import Derived.Test.YtnancdbkmompdaaGreatRQT
import Derived.Test.YtnancdbkmompdaaGreatCh9R
import Derived.Lib.MinMax
namespace Go.Proofs.YtnancdbkmompdaaGreat
open Go.RowKit Go.Sort
set_option linter.unusedSimpArgs false
set_option linter.unusedVariables false
set_option maxRecDepth 100000
set_option maxHeartbeats 40000000
/-- The same but for three boxes. -/
structure Fa (b : Nat) (w w' : World) : Prop where
 os : w'.os = w.os
 tape : w'.tape = w.tape
 output : w'.output = w.output
 size : w.heap.size ≤ w'.heap.size
 block : ∀ k, (k < b ∨ b + 3 ≤ k) → k < w.heap.size → w'.heap[k]? = w.heap[k]?
theorem Fa.refl (b : Nat) (w : World) : Fa b w w := ⟨rfl, rfl, rfl, Nat.le_refl _, fun _ _ _ => rfl⟩
theorem Fa.pre {b : Nat} {w w' V : World} (hb : Below w.heap.size w w') (h : Fa b w' V) : Fa b w V :=
 ⟨h.os.trans hb.os, h.tape.trans hb.tape, h.output.trans hb.output, Nat.le_trans hb.size h.size, fun k hk hl => (h.block k hk (Nat.lt_of_lt_of_le hl hb.size)).trans (hb.block k hl)⟩
theorem Fa.sx {b n : Nat} {w w' V : World} (hs : Sx n w w') (h : Fa b w' V) (h1 : b ≤ n) (h2 : n < b + 3) : Fa b w V :=
 ⟨h.os.trans hs.os, h.tape.trans hs.tape, h.output.trans hs.output, by have := hs.size; have := h.size; omega, fun k hk hl => (h.block k hk (by have := hs.size; omega)).trans (hs.block k (by omega))⟩
theorem Fa.low {b : Nat} {w0 w V : World} (h : Fa b w V) (h0 : w0.heap.size = b) (hb : Below w0.heap.size w0 w) : Below w0.heap.size w0 V :=
 ⟨h.os.trans hb.os, h.tape.trans hb.tape, h.output.trans hb.output, Nat.le_trans hb.size h.size, fun k hk => (h.block k (by omega) (Nat.lt_of_lt_of_le hk hb.size)).trans (hb.block k hk)⟩
def Far (b : Nat) (w : World) (P : World → Prop) : Prop := ∀ V : World, Fa b w V → P V
/-- The document's state in a box, beside the program's. -/
structure RfI (b : Nat) (y : Knw) (w : World) : Prop where
 it : ∃ (cs : Array Value) (l : List OV), w.heap[b + 2]? = some (.cells cs 41 (0, 0)) ∧ Far b w (fun V => RS V cs y.1 l) ∧ PR y (l.map (·.1))
theorem RfI.below {b : Nat} {y : Knw} {w w' : World} (h : RfI b y w) (hb : Below w.heap.size w w') : RfI b y w' := by
 obtain ⟨cs, l, h1, h2, h3⟩ := h.it
 exact ⟨cs, l, (hb.block _ (Array.getElem?_eq_some_iff.1 h1).1).trans h1, fun V hV => h2 V (hV.pre hb), h3⟩
theorem RfI.lt {b : Nat} {y : Knw} {w : World} (h : RfI b y w) : b + 2 < w.heap.size := by
 obtain ⟨cs, l, h1, _⟩ := h.it
 exact (Array.getElem?_eq_some_iff.1 h1).1
theorem rec_num {r : Rec4} (h : Oks (rcFs r)) (h0 : r.1 = false) : 0 ≤ r.2.1.2.2 ∧ r.2.1.2.2 ≤ 281474976710656 := by
 unfold rcFs at h
 rw [if_neg (by rw [h0]; exact Bool.false_ne_true)] at h
 exact id_num (fun f hf => h f (List.mem_cons_of_mem _ (List.mem_append_left _ hf)))
def RfP (y : Knw) (w : World) (e : Ending) (w' : World) : Prop := ∃ (cs : Array Value) (l : List OV), Hid (e = .returned (.agg cs)) ∧ RS w' cs y.1 l ∧ PR y (l.map (·.1)) ∧ Below w.heap.size w w'
theorem rreplay_any (x : Snp) (ca : Array Value) (a : Option Addr) (n : Nat) (A : List ByteArray) (w : World) (hs : snS.is w ca.toList x) (hN : Sn6 x) (rA : SRd w a A) (sA : ∀ s ∈ A, s.size ≤ 3000) (hlen : A.length ≤ 60) : Calls Tryz.prog 9 #[.agg ca, .slice a A.length n] w (RfP (rplR x (A.map byt)) w) := by
 obtain ⟨a1, m1, c1, rs1, a2, m2, c2, rs2, a3, m3, c3, rs3, hca, -, -, -⟩ := sn_is hs
 obtain ⟨n0, hn0⟩ : ∃ q, x.1.1 = q := ⟨_, rfl⟩
 obtain rfl : ca = #[.int .i64 n0, .slice a1 m1 c1, .slice a2 m2 c2, .slice a3 m3 c3] := by
  cases ca
  rw [← hn0]
  simpa [snV] using hca
 obtain ⟨X, hX⟩ : ∃ X, (w.alloc (.cells #[.int .i64 n0, .slice a1 m1 c1, .slice a2 m2 c2, .slice a3 m3 c3] 28)).alloc (.cells #[.int .i64 0, .slice none 0 0, .slice none 0 0, .slice none 0 0, .slice none 0 0] 41) = X := ⟨_, rfl⟩
 have hB : Below w.heap.size w X := by rw [← hX]; exact ((Below.refl _ _).alloc (Nat.le_refl _) _).alloc (by simp) _
 have hXz : X.heap.size = w.heap.size + 2 := by rw [← hX]; simp
 have HI4 : Hid ((Tryz.prog.info? 28).map (·.size) = some 4) := Hd (by kernel_rfl)
 have HI5 : Hid ((Tryz.prog.info? 41).map (·.size) = some 5) := Hd (by kernel_rfl)
 have HI23 : Hid ((Tryz.prog.info? 81).map (·.size) = some 23) := Hd (by kernel_rfl)
 have hb1 : Bk X w.heap.size 28 [.int .i64 n0, .slice a1 m1 c1, .slice a2 m2 c2, .slice a3 m3 c3] := by rw [← hX]; exact (Bk.new w _ _).old _
 have hb2 : Bk X (w.heap.size + 1) 41 [.int .i64 0, .slice none 0 0, .slice none 0 0, .slice none 0 0, .slice none 0 0] := by rw [← hX]; have := Bk.new (w.alloc (.cells #[.int .i64 n0, .slice a1 m1 c1, .slice a2 m2 c2, .slice a3 m3 c3] 28)) 41 [.int .i64 0, .slice none 0 0, .slice none 0 0, .slice none 0 0, .slice none 0 0]; simpa using this
 obtain ⟨X2, hX2⟩ : ∃ q, X.alloc (.cells #[.int .i64 n0, .slice a1 m1 c1, .slice a2 m2 c2, .slice a3 m3 c3, .slice none 0 0] 41) = q := ⟨_, rfl⟩
 have hb3 : Below X.heap.size X X2 := by rw [← hX2]; exact (Below.refl _ _).alloc (Nat.le_refl _) _
 have HX := Hd (Below.refl X2.heap.size X2)
 have H1 := Hd hb1
 have H2 := Hd (hb2.below hb3)
 have HB := Hd (hB.trans (hb3.mono hB.size))
 have hr0 : rplR x ((A.take 0).map byt) = (x, [], []) := by rw [List.take_zero]; rfl
 have HRf : Hid (RfI w.heap.size (rplR x ((A.take 0).map byt)) X2) := Hd (by
  rw [hr0]
  exact ⟨#[.int .i64 n0, .slice a1 m1 c1, .slice a2 m2 c2, .slice a3 m3 c3, .slice none 0 0], [], by rw [← hX2, ← hXz]; exact bka_new X 41 _, fun V hV => ⟨⟨.slice a1 m1 c1, .slice a2 m2 c2, .slice a3 m3 c3, .slice none 0 0, by show (#[.int .i64 n0, .slice a1 m1 c1, .slice a2 m2 c2, .slice a3 m3 c3, .slice none 0 0] : Array Value) = #[.int .i64 x.1.1, .slice a1 m1 c1, .slice a2 m2 c2, .slice a3 m3 c3, .slice none 0 0]; rw [hn0], by
   show snS.is V [.int .i64 x.1.1, .slice a1 m1 c1, .slice a2 m2 c2, .slice a3 m3 c3] x
   rw [hn0]
   exact snS.keep hs (hV.low rfl (hB.trans (hb3.mono hB.size))), Knd.Rd.nil _⟩, fun e he => by cases he⟩, PR.start x⟩)
 have HX2z : Hid (X2.heap.size = w.heap.size + 3) := Hd (by rw [← hX2]; simp; omega)
 have HXz := Hd hXz
 have HRA := Hd rA
 have HZA := Hd sA
 have HN6 := Hd hN
 have HXX := Hd hX
 have HXX2 := Hd hX2
 obtain ⟨NA, hNA⟩ : ∃ q, A.length = q := ⟨_, rfl⟩
 have HNA := Hd hNA
 have HNb := Hd (show NA ≤ 60 by omega)
 rw [hNA]
 clear hs hca hn0 hr0 hB hX hX2 hb1 hb2 hb3 hXz rA sA hN hlen hNA
 go_enter Tryz.func9, Tryz.ntmps9
 go_upto_region 1 with fail
 rw [HXX.out]
 go_wp2_with (refine wpList_load_rowG rfl _ _ rfl w.heap.size rfl 28 #[.int .i64 n0, .slice a1 m1 c1, .slice a2 m2 c2, .slice a3 m3 c3] (0, 0) _ H1.out Tryz.underlying28 rfl HI4.out ?_)
 rw [HXX2.out]
 clear HXX HXX2 H1
 go_loopw [6] (fun s6 wr => ∃ j : Nat, j ≤ NA ∧ s6 = .int .i64 j ∧ Hid (Below w.heap.size w wr) ∧ Hid (Bk wr (w.heap.size + 1) 41 [.int .i64 0, .slice none 0 0, .slice none 0 0, .slice none 0 0, .slice none 0 0]) ∧ Hid (RfI w.heap.size (rplR x ((A.take j).map byt)) wr)) (fun s6 _ => NA - (intOf s6).toNat)
 case atStart => exact ⟨0, Nat.zero_le _, rfl, HB, H2, HRf⟩
 case round =>
  clear HB H2 HRf
  obtain ⟨j, hj, rfl, hX, hR2, hRf⟩ := hrel
  by_cases hlt : j < NA
  ·have hlt' : (j : Int) < (NA : Int) := by omega
   have hb60 : NA ≤ 60 := HNb.out
   have hkl : j < A.length := by have := HNA.out; omega
   obtain ⟨g, off, hga, hg, hc⟩ := (HRA.out.below hX.out).cell j hkl
   obtain ⟨s, hs⟩ : ∃ s, A.getD j ByteArray.empty = s := ⟨_, rfl⟩
   rw [hs] at hc
   have hsm : s ∈ A := by
    rw [← hs]; simp only [List.getD, List.getElem?_eq_getElem hkl, Option.getD_some]; exact List.getElem_mem hkl
   have HSs := Hd (HZA.out s hsm)
   have HE := Hd hs
   have HKl := Hd hkl
   have HG := Hd (rget s wr (by have := HSs.out; omega))
   have HAdd : Hid ((A.take (j + 1)).map byt = (A.take j).map byt ++ [byt s]) := Hd (by
    rw [List.take_add_one, List.getElem?_eq_getElem HKl.out]
    have e := HE.out
    simp only [List.getD, List.getElem?_eq_getElem HKl.out, Option.getD_some] at e
    simp [e])
   have HBn : Hid (∀ b ∈ (A.take j).map byt, BytL b) := Hd (fun b hb => by obtain ⟨s, _, rfl⟩ := List.mem_map.1 hb; exact byt_range s)
   have HLen : Hid (((A.take j).map byt).length ≤ 60) := Hd (by rw [List.length_map, List.length_take]; have := HNA.out; have := HNb.out; omega)
   subst hga
   clear hs hsm hkl
   go_wp2_with fail
   refine HG.out.mono ?_
   rintro e w6 ⟨u, he, hb, hu⟩
   obtain ⟨csr, rfl, hsz, hone, hrec⟩ := get_inv hu
   rw [he.out]
   obtain ⟨er, her⟩ : ∃ q, endE (rcRd (byt s, 0)).2 = q := ⟨_, rfl⟩
   rw [her] at hrec ⊢
   have HEr := Hd her
   have HSz := Hd hsz
   have HOne := Hd hone
   obtain ⟨w7, hw7⟩ : ∃ q, (w6.alloc (.cells z23 81)).setRow w6.heap.size csr = q := ⟨_, rfl⟩
   have hb67 : Below w6.heap.size w6 w7 := by rw [← hw7]; exact below_setRow ((Below.refl _ _).alloc (Nat.le_refl _) _) (Nat.le_refl _) csr
   have HRw : Hid (w7.heap[w6.heap.size]? = some (.cells csr 81 (0, 0))) := Hd (by rw [← hw7]; exact heap_setRow_same _ _ z23 csr _ (bka_new w6 _ _))
   have HNew := Hd (bka_new w6 81 z23)
   have HX7 := Hd ((hX.out.trans (hb.mono hX.out.size)).trans (hb67.mono (by have := hX.out.size; have := hb.size; omega)))
   have HR7 := Hd ((hR2.out.below hb).below hb67)
   have HRf7 := Hd ((hRf.out.below hb).below hb67)
   have HNw := Hd hRf.out.lt
   have HRec := Hd (fun (h0 : er = 0) (V : World) (hV : Fa w.heap.size w7 V) => (show RecIs V (.agg csr) (rcRd (byt s, 0)).1 from ⟨csr, rfl, hrec h0 V (fun k h1 h2 => (hV.block k (by have := HNw.out; omega) (by have := hb67.size; omega)).trans (hb67.block k h2))⟩))
   have HW7 := Hd hw7
   clear he hu hb hb67 hsz hone hrec her hw7 HG hX hR2 hRf HKl HE hc hg
   by_cases q : er = 0
   ·subst q
    have HRec0 := Hd (HRec.out rfl)
    clear HRec
    have HNw7 := Hd HRf7.out.lt
    obtain ⟨cs, l, hh, hst, hpr⟩ := HRf7.out.it
    rw [← HXz.out] at hh
    have hbd := rplR_bnd HN6.out _ HBn.out
    have hst7 := hst w7 (Fa.refl _ _)
    obtain ⟨t1, t2, t3, t4, t5, t6, t7, t8, t9, t10, t11, hcs, -, -⟩ := hst7.lit
    obtain ⟨x1, hx1⟩ : ∃ q, (rplR x ((A.take j).map byt)).1.1.1 = q := ⟨_, rfl⟩
    obtain ⟨L1, hL1⟩ : ∃ q, l.length = q := ⟨_, rfl⟩
    have hl := hpr.len
    rw [List.length_map, hL1] at hl
    rw [hx1, hL1] at hcs
    have HCs := Hd hcs
    obtain ⟨hs6, hd6, hok⟩ := rec_little (byt s) (byt_range s) HEr.out
    have HPr := Hd (hpr.add (rcRd (byt s, 0)).1 (rec_num hok))
    have HAd := Hd (radd_any (rplR x ((A.take j).map byt)).1 l cs (.agg csr) (rcRd (byt s, 0)).1 w7 hst7 (HRec0.out w7 (Fa.refl _ _)) (by rw [hL1]; have := hbd.m; have := HLen.out; omega) hs6)
    have HSt := Hd hst
    subst hcs
    have HH := Hd hh
    clear hh hst hst7 hx1 hL1 hl hbd hs6 hd6 hok hpr HCs
    go_wp2_with (first | refine wpList_store_rnA rfl 81 _ _ rfl w6.heap.size rfl csr rfl z23 81 HNew.out (by rw [HSz.out]; exact HI23.out) (by rw [HSz.out]; rfl) HOne.out HW7.out ?_ | refine wpList_load_rowG rfl _ _ rfl X.heap.size rfl 41 _ (0, 0) _ HH.out Tryz.underlying41 rfl HI5.out ?_ | refine wpList_load_rowG rfl _ _ rfl w6.heap.size rfl 81 csr (0, 0) _ HRw.out Tryz.underlying81 rfl (by rw [HSz.out]; exact HI23.out) ?_)
    refine HAd.out.mono ?_
    rintro e w8 ⟨cs2, l2, he, hs2, hl2, hb⟩
    rw [he.out]
    obtain ⟨q1, q2, q3, q4, q5, q6, q7, q8, q9, q10, q11, hcs2, -, -⟩ := (hs2 w8 ((HSt.out w7 (Fa.refl _ _)).on hb) (by obtain ⟨c, e, h⟩ := HRec0.out w7 (Fa.refl _ _); exact ⟨c, e, rcS.keep h hb⟩) (fun _ _ _ => rfl)).lit
    have HS5 : Hid (cs2.size = 5) := Hd (by rw [hcs2]; rfl)
    have HO5 : Hid (cs2.all (·.oneCell') = true) := Hd (by rw [hcs2, ← Array.all_toList]; rfl)
    obtain ⟨w9, hw9⟩ : ∃ q, w8.setRow X.heap.size cs2 = q := ⟨_, rfl⟩
    have hh8 := (hb.block _ (Array.getElem?_eq_some_iff.1 HH.out).1).trans HH.out
    have hsx : Sx X.heap.size w8 w9 := by rw [← hw9]; exact sx_setRow _ _ _
    have hk9 : ∀ V : World, Fa w.heap.size w9 V → Fa w.heap.size w7 V := fun V hV => (hV.sx hsx (by have := HXz.out; omega) (by have := HXz.out; omega)).pre hb
    have HRf9 : Hid (RfI w.heap.size (rplR x ((A.take (j + 1)).map byt)) w9) := Hd (by
     rw [HAdd.out, rplR_snoc]
     unfold stpR
     rw [if_pos HEr.out]
     refine ⟨cs2, l2, by rw [← hw9, ← HXz.out]; exact heap_setRow_same _ _ _ cs2 _ hh8, fun V hV => ?_, ?_⟩
     ·rw [← HPr.out.1]
      exact hs2 V (HSt.out V (hk9 V hV)) (HRec0.out V (hk9 V hV)) (fun k h1 h2 => (hV.block k (by have := HNw7.out; omega) (by have := hsx.size; omega)).trans (hsx.block k (by have := HNw7.out; have := HXz.out; omega)))
     ·rw [hl2]; exact HPr.out.2)
    have HX9 := Hd (below_put (HX7.out.trans (hb.mono HX7.out.size)) (by have := HXz.out; omega) hw9)
    have HR9 := Hd (show Bk w9 (w.heap.size + 1) 41 [.int .i64 0, .slice none 0 0, .slice none 0 0, .slice none 0 0, .slice none 0 0] from (hsx.block _ (by have := HXz.out; omega)).trans (HR7.out.below hb))
    have HW9 := Hd hw9
    have HH8 := Hd hh8
    clear he hs2 hl2 hb hcs2 hw9 hh8 hsx hk9 HAd HH HX7 HR7 HRf7 HRw HNew HRec0 HW7 HSt HPr
    go_wp2_with (refine wpList_store_rnA rfl 41 _ _ rfl X.heap.size rfl cs2 rfl _ 41 HH8.out (by rw [HS5.out]; exact HI5.out) (by rw [HS5.out]; rfl) HO5.out HW9.out ?_)
    go_roundw
    case rel => exact ⟨j + 1, by omega, by go_num, HX9, HR9, HRf9⟩
    case measure => simp [intOf]; omega
   ·have q1 : (er == 0) = false := by simpa using q
    have q2 : (er != 0) = true := by simpa using q
    have HRf9 : Hid (RfI w.heap.size (rplR x ((A.take (j + 1)).map byt)) w7) := Hd (by
     rw [HAdd.out, rplR_snoc]
     unfold stpR
     rw [if_neg (by rw [HEr.out]; exact q)]
     exact HRf7.out)
    clear q HRec HRf7 HRw
    go_wp2_with (refine wpList_store_rnA rfl 81 _ _ rfl w6.heap.size rfl csr rfl z23 81 HNew.out (by rw [HSz.out]; exact HI23.out) (by rw [HSz.out]; rfl) HOne.out HW7.out ?_)
    go_roundw
    case rel => exact ⟨j + 1, by omega, by go_num, HX7, HR7, HRf9⟩
    case measure => simp [intOf]; omega
  ·have hlt' : ¬ (j : Int) < (NA : Int) := by omega
   obtain rfl : j = NA := by omega
   have hAA : A.take j = A := by rw [← HNA.out]; exact List.take_length
   rw [hAA] at hRf
   obtain ⟨cs, l, hh, hst, hpr⟩ := hRf.out.it
   rw [← HXz.out] at hh
   have hst7 := hst wr (Fa.refl _ _)
   obtain ⟨t1, t2, t3, t4, t5, t6, t7, t8, t9, t10, t11, hcs, -, -⟩ := hst7.lit
   have HS5 : Hid (cs.size = 5) := Hd (by rw [hcs]; rfl)
   have HO5 : Hid (cs.all (·.oneCell') = true) := Hd (by rw [hcs, ← Array.all_toList]; rfl)
   obtain ⟨w9, hw9⟩ : ∃ q, wr.setRow (w.heap.size + 1) cs = q := ⟨_, rfl⟩
   have hrow9 : w9.heap[w.heap.size + 1]? = some (.cells cs 41 (0, 0)) := by rw [← hw9]; exact heap_setRow_same _ _ #[.int .i64 0, .slice none 0 0, .slice none 0 0, .slice none 0 0, .slice none 0 0] cs _ hR2.out
   have HLv := Hd (run_loadVar_row (P := Tryz.prog) w9 _ _ 41 cs (0, 0) _ hrow9 Tryz.underlying41 rfl (by rw [HS5.out]; exact HI5.out))
   have HX9 := Hd (below_put hX.out (by omega) hw9)
   have HOld := Hd hR2.out
   have HH := Hd hh
   have HW9 := Hd hw9
   have HPr := Hd hpr
   have HRS : Hid (RS w9 cs (rplR x (A.map byt)).1 l) := Hd (hst w9 ((Fa.refl _ _).sx (by rw [← hw9]; exact sx_setRow _ _ _) (by omega) (by omega)))
   clear hst hst7 hcs hw9 hrow9 hpr hh hX hR2 hRf hAA
   go_wp2_with (first | refine wpList_load_rowG rfl _ _ rfl X.heap.size rfl 41 cs (0, 0) _ HH.out Tryz.underlying41 rfl (by rw [HS5.out]; exact HI5.out) ?_ | refine wpList_store_rnA rfl 41 _ _ rfl (w.heap.size + 1) rfl cs rfl #[.int .i64 0, .slice none 0 0, .slice none 0 0, .slice none 0 0, .slice none 0 0] 41 HOld.out (by rw [HS5.out]; exact HI5.out) (by rw [HS5.out]; rfl) HO5.out HW9.out ?_)
   have hlv := HLv.out
   exact bodyPost_ret (v := .agg cs) (by simp [results, Tryz.results9, asAddr, Act.put, hlv]) rfl ⟨cs, l, Hd rfl, HRS.out, HPr.out, HX9.out⟩
theorem nxR_snoc (n : Int) (R : Pl) (e : I3 × Ins) : nxR n (R ++ [e]) = if e.1.2.1 = n then max (nxR n R) (e.1.2.2 + 1) else nxR n R := by
 unfold nxR
 rw [List.foldl_append]
 rfl
theorem rnext_any (y : Knw) (l : List OV) (cs : Array Value) (n : Int) (w : World) (h : RS w cs y.1 l) (hp : PR y (l.map (·.1))) (hL : l.length ≤ 1000) : Calls Tryz.prog 12 #[.agg cs, .int .i64 n] w fun e w' => Hid (e = .returned (.int .i64 (nxtN n y.2.1))) ∧ Below w.heap.size w w' := by
 obtain ⟨a1, k1, c1, a2, k2, c2, a3, k3, c3, aL, cL, hcs, hsn, hrd⟩ := h.lit
 obtain ⟨x0, hx0⟩ : ∃ q, y.1.1.1 = q := ⟨_, rfl⟩
 obtain ⟨NL, hNL⟩ : ∃ q, l.length = q := ⟨_, rfl⟩
 rw [hx0, hNL] at hcs
 rw [hNL] at hrd
 subst hcs
 obtain ⟨X, hX⟩ : ∃ X, w.alloc (.cells #[.int .i64 x0, .slice a1 k1 c1, .slice a2 k2 c2, .slice a3 k3 c3, .slice aL NL cL] 41) = X := ⟨_, rfl⟩
 have hB : Below w.heap.size w X := by rw [← hX]; exact (Below.refl _ _).alloc (Nat.le_refl _) _
 have HP : Hid (Bk X w.heap.size 41 [.int .i64 x0, .slice a1 k1 c1, .slice a2 k2 c2, .slice a3 k3 c3, .slice aL NL cL]) := Hd (by rw [← hX]; exact Bk.new w _ _)
 have HRd := Hd (hrd.below hB)
 have HB := Hd hB
 have HX := Hd (Below.refl X.heap.size X)
 have HNL := Hd hNL
 have HNb := Hd (show NL ≤ 1000 by omega)
 have HNum : Hid (∀ e ∈ l.map (·.1), 0 ≤ e.1.2.2 ∧ e.1.2.2 ≤ 281474976710656) := Hd (fun e he => hp.num e.1 (by rw [hp.keys]; exact List.mem_map.2 ⟨e, he, rfl⟩))
 have HFin : Hid (nxR n (l.map (·.1)) = nxtN n y.2.1) := Hd (nx_same n y.2.1 (l.map (·.1)) hp.keys hp.num)
 have HXX := Hd hX
 obtain ⟨F, hF⟩ : ∃ q, nxtN n y.2.1 = q := ⟨_, rfl⟩
 rw [hF] at HFin ⊢
 clear h hp hL hsn hrd hx0 hNL hB hX hF
 go_enter Tryz.func12, Tryz.ntmps12
 go_upto_region 1 with fail
 rw [HXX.out]
 go_wp2_with fail
 clear HXX
 go_loopw [5, 6] (fun s5 s6 wr => ∃ (k : Nat) (m : Int), k ≤ NL ∧ s5 = .int .i64 m ∧ s6 = .int .i64 k ∧ Hid (m = nxR n ((l.take k).map (·.1))) ∧ Hid (Below X.heap.size X wr)) (fun _ s6 _ => NL - (intOf s6).toNat)
 case atStart => exact ⟨0, 0, Nat.zero_le _, rfl, rfl, Hd (by simp [nxR]), HX⟩
 case round =>
  clear HX
  obtain ⟨k, m, hk, rfl, rfl, HM, HX⟩ := hrel
  have s4 := (HP.out.below HX.out).cell 4
  simp only [gB] at s4
  by_cases hlt : k < NL
  ·have hlt' : (k : Int) < (NL : Int) := by omega
   have hNb := HNb.out
   obtain ⟨g, off, hga, hg, hkl, hce⟩ := ovCell (HRd.out.below HX.out) k hlt
   have hget : l.getD k KO.d = l[k] := by simp [List.getD, hkl]
   rw [hget] at hce
   have HSn : Hid ((l.take (k + 1)).map (·.1) = (l.take k).map (·.1) ++ [l[k].1]) := Hd (by rw [List.take_add_one, List.getElem?_eq_getElem hkl, List.map_append]; rfl)
   have hme := HNum.out l[k].1 (List.mem_map.2 ⟨_, List.getElem_mem hkl, rfl⟩)
   obtain ⟨E, hE⟩ : ∃ q, l[k] = q := ⟨_, rfl⟩
   rw [hE] at hce HSn hme
   obtain ⟨⟨⟨e1, e2, e3⟩, ey⟩, ep⟩ := E
   simp only at hme
   have q1 : wr.cell? ⟨g, off + k * 18 + 1, none⟩ = some (.int .i64 e2) := hce 1 _ rfl
   have q2 : wr.cell? ⟨g, off + k * 18 + 2, none⟩ = some (.int .i64 e3) := hce 2 _ rfl
   have w1 : wrap64 (e3 + 1) = e3 + 1 := by unfold wrap64; omega
   have HNx : Hid (nxR n ((l.take (k + 1)).map (·.1)) = if e2 = n then max m (e3 + 1) else m) := Hd (by rw [HSn.out, nxR_snoc, ← HM.out])
   subst hga
   clear hce hget hE hme HSn hkl
   by_cases q : e2 = n
   ·have r1 : (e2 == n) = true := by simpa using q
    rw [if_pos q] at HNx
    clear q
    go_wp2_with fail
    go_roundw
    case rel => exact ⟨k + 1, max m (e3 + 1), by omega, by first | rfl | simp [w1], by go_num, Hd HNx.out.symm, HX⟩
    case measure => simp [intOf]; omega
   ·have r1 : (e2 == n) = false := by simpa using q
    rw [if_neg q] at HNx
    clear q
    go_wp2_with fail
    go_roundw
    case rel => exact ⟨k + 1, m, by omega, by first | rfl | simp, by go_num, Hd HNx.out.symm, HX⟩
    case measure => simp [intOf]; omega
  ·have hlt' : ¬ (k : Int) < (NL : Int) := by omega
   obtain rfl : k = NL := by omega
   have hll : l.take k = l := by rw [← HNL.out]; exact List.take_length
   rw [hll, HFin.out] at HM
   clear hll
   go_wp2_with fail
   go_ret
   exact ⟨Hd (by rw [HM.out]; rfl), HB.out.trans (HX.out.mono HB.out.size)⟩
end Go.Proofs.YtnancdbkmompdaaGreat
