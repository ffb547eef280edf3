/-
 The law's same: a state of the program's beside the document's.
-/
import Derived.Test.YtnancdbkmompdaaGreatRY
import Derived.Test.YtnancdbkmompdaaGreatRZ
import Derived.Test.YtnancdbkmompdaaGreatRQW
namespace Go.Proofs.YtnancdbkmompdaaGreat
open Go.RowKit Go.Sort
open Go.WideMaps
set_option linter.unusedSimpArgs false
set_option linter.unusedVariables false
set_option maxRecDepth 100000
set_option maxHeartbeats 40000000
theorem getV_at : ∀ {R : Pl} (k : Nat) (hk : k < R.length), Rises (R.map k1) → getV R R[k].1 = some R[k].2
 | [], k, hk, _ => absurd hk (Nat.not_lt_zero _)
 | e :: r, 0, _, _ => by rw [getV_cons]; simp
 | e :: r, k + 1, hk, h => by
  have hk' : k < r.length := by simpa using hk
  have h2 := List.pairwise_cons.1 h
  rw [getV_cons]
  have hne : ¬ e.1 = ((e :: r)[k + 1]).1 := by
   rw [List.getElem_cons_succ]
   have := h2.1 (k1 r[k]) (List.mem_map.2 ⟨_, List.getElem_mem hk', rfl⟩)
   exact fun q => ltI_ne this q.symm
  rw [if_neg hne, List.getElem_cons_succ]
  exact getV_at k hk' h2.2
theorem look_one {w : World} {cs1 : Array Value} {b1 : Nat} {x1 : Snp} {L1 : List I3} {M : List (I3 × Ins)} (h1 : StIs w cs1 b1 x1 L1 M) (id : I3) (hid : okI id) (y : Ins) (hy : getV M id = some y) (u2 : Value) (hu : IK.Rd w u2 y.2.2.2.2.2) (hl : y.2.2.2.2.2.length ≤ 1000000) :
  ∃ v1 : Value, (∀ w', Below w.heap.size w w' → (Instr.lookup 35 (.map (some b1)) (idW id) false).run Tryz.prog w' = .ok v1 w') ∧
   ∀ w', Below w.heap.size w w' → Calls Tryz.prog 17 #[v1, .agg (inV y u2).toArray] w' fun e w'' => e = .returned (.bool true) ∧ Below w'.heap.size w' w'' := by
 obtain ⟨E1, k1, o1⟩ := h1.mv
 have r1 : ∀ w', Below w.heap.size w w' → (Instr.lookup 35 (.map (some b1)) (idW id) false).run Tryz.prog w' = .ok (((getV E1 id).map fun v => v).getD (.agg #[.int .i64 0, .int .i64 0, .int .i64 0, .int .i64 0, .int .i64 0, .int .i64 0, .int .i64 0, .int .i64 0, .string ⟨#[]⟩, .string ⟨#[]⟩, .int .i64 0, .int .i64 0, .int .i64 0, .int .i64 0, .slice none 0 0])) w' := fun w' hb => (k1.below hb).look Tryz.underlying35 (z15_is w') hid
 refine ⟨_, r1, fun w' hb => ?_⟩
 have s1 : (getV E1 id).isSome = (getV M id).isSome := by rw [getV_isSome, getV_isSome, o1.keys]
 rw [hy] at s1
 cases q1 : getV E1 id with
 | none => rw [q1] at s1; cases s1
 | some v1 =>
  obtain ⟨y1, e1, u1, rfl, _, _, rs1, _, t1⟩ := o1.at' id v1 q1
  rw [hy] at e1
  cases e1
  exact sameR_any y u1 u2 w' ((ik_of_row t1).below hb) (hu.below hb) hl
theorem same18_any (Y : Knw) (cs8 : Array Value) (b8 : Nat) (cs9 : Array Value) (l : List OV) (n : Nat) (w : World) (h8 : StIs w cs8 b8 Y.1 Y.2.1 Y.2.2) (h9 : RS w cs9 Y.1 l) (hp : PR Y (l.map (·.1))) (hbd : KnB n Y) (hn : n ≤ 1000) : Calls Tryz.prog 10 #[.agg cs8, .agg cs9] w fun e w' => e = .returned (.bool true) ∧ Below w.heap.size w w' := by
 obtain ⟨g1, f1, g2, f2, g3, f3, g4, f4, hc8, hs8⟩ := h8.lit2
 obtain ⟨i1, M1, d1, i2, M2, d2, i3, M3, d3, i4, d4, hc9, hs9, hr9⟩ := h9.lit
 have hik8 : IK.Rd w (.slice g4 Y.2.1.length f4) Y.2.1 := by
  obtain ⟨v1, v2, v3, v4, e, _, h⟩ := h8.cells
  rw [hc8] at e
  simp only [Array.mk.injEq, List.cons.injEq, and_true, true_and] at e
  rw [e.2.2.2]
  exact h.rd
 have hlen : Y.2.1.length = l.length := by rw [hp.keys]; simp
 obtain ⟨E, hmv, hof⟩ := h8.mv
 have hElen : E.length = l.length := by
  have e1 := congrArg List.length hof.keys
  have e2 := hp.len
  simp only [keysV, List.length_map] at e1 e2
  omega
 have hok := h8.okl
 have HLk := Hd (fun (id : I3) (hid : okI id) (y : Ins) (hy : getV Y.2.2 id = some y) (u2 : Value) (hu : IK.Rd w u2 y.2.2.2.2.2) => look_one h8 id hid y hy u2 hu (hbd.dp id y hy))
 obtain ⟨x0, hx0⟩ : ∃ q, Y.1.1.1 = q := ⟨_, rfl⟩
 obtain ⟨L1, hL1⟩ : ∃ q, Y.1.1.2.length = q := ⟨_, rfl⟩
 obtain ⟨L2, hL2⟩ : ∃ q, Y.1.2.1.length = q := ⟨_, rfl⟩
 obtain ⟨L3, hL3⟩ : ∃ q, Y.1.2.2.length = q := ⟨_, rfl⟩
 obtain ⟨NL, hNL⟩ : ∃ q, l.length = q := ⟨_, rfl⟩
 rw [hlen] at hc8 hik8
 rw [hx0, hL1, hL2, hL3, hNL] at hc8
 rw [hx0, hNL] at hc9
 rw [hx0, hL1, hL2, hL3] at hs8
 rw [hx0] at hs9
 rw [hNL] at hik8 hElen hr9
 subst hc8 hc9
 obtain ⟨X, hX⟩ : ∃ X, (w.alloc (.cells #[.int .i64 x0, .slice g1 L1 f1, .slice g2 L2 f2, .slice g3 L3 f3, .slice g4 NL f4, .map (some b8)] 37)).alloc (.cells #[.int .i64 x0, .slice i1 M1 d1, .slice i2 M2 d2, .slice i3 M3 d3, .slice i4 NL d4] 41) = X := ⟨_, rfl⟩
 have hB : Below w.heap.size w X := by rw [← hX]; exact ((Below.refl _ _).alloc (Nat.le_refl _) _).alloc (by simp) _
 have HP8 : Hid (Bk X w.heap.size 37 [.int .i64 x0, .slice g1 L1 f1, .slice g2 L2 f2, .slice g3 L3 f3, .slice g4 NL f4, .map (some b8)]) := Hd (by rw [← hX]; exact (Bk.new w _ [.int .i64 x0, .slice g1 L1 f1, .slice g2 L2 f2, .slice g3 L3 f3, .slice g4 NL f4, .map (some b8)]).old _)
 have HP9 : Hid (Bk X (w.heap.size + 1) 41 [.int .i64 x0, .slice i1 M1 d1, .slice i2 M2 d2, .slice i3 M3 d3, .slice i4 NL d4]) := Hd (by rw [← hX]; have := Bk.new (w.alloc (.cells #[.int .i64 x0, .slice g1 L1 f1, .slice g2 L2 f2, .slice g3 L3 f3, .slice g4 NL f4, .map (some b8)] 37)) 41 [.int .i64 x0, .slice i1 M1 d1, .slice i2 M2 d2, .slice i3 M3 d3, .slice i4 NL d4]; simpa using this)
 have HB := Hd hB
 have hln : ∀ ty, (Builtin.len_ #[35] ty #[.map (some b8)]).run Tryz.prog X = .ok (.int .i64 (NL : Int)) X := fun ty => by
  have h := (hmv.below hB).len (t := 35) Tryz.underlying35 ty
  rw [hElen] at h
  exact h
 have HS89 := Hd (fun (V : World) (hV : Below X.heap.size X V) => by
  have h := recSame17 Y.1 Y.1 #[.int .i64 x0, .slice g1 L1 f1, .slice g2 L2 f2, .slice g3 L3 f3] #[.int .i64 x0, .slice i1 M1 d1, .slice i2 M2 d2, .slice i3 M3 d3] w V hs8 hs9 (hB.trans (hV.mono hB.size)) hbd.sn hbd.sn
  rw [decide_eq_true (rfl : Y.1 = Y.1)] at h
  exact h)
 have HK8 := Hd (hik8.below hB)
 have HK9 := Hd (hr9.below hB)
 have HOk := Hd hok
 have HDp := Hd (fun e he => (h9.dep e he))
 have HPR := Hd hp
 have HNL := Hd hNL
 have HNb := Hd (show NL ≤ 1000000 by have := hbd.l; omega)
 have HX := Hd (Below.refl X.heap.size X)
 have HXX := Hd hX
 clear h8 h9 hp hbd hs8 hs9 hr9 hik8 hlen hmv hof hElen hok hx0 hL1 hL2 hL3 hNL hX hB
 go_enter Tryz.func10, Tryz.ntmps10
 go_upto_region 1 with fail
 rw [HXX.out]
 clear HXX
 have P0 := ((HP8.out.below HX.out).cell 0)
 have P1 := ((HP8.out.below HX.out).cell 1)
 have P2 := ((HP8.out.below HX.out).cell 2)
 have P3 := ((HP8.out.below HX.out).cell 3)
 have P4 := ((HP8.out.below HX.out).cell 4)
 have P5 := ((HP8.out.below HX.out).cell 5)
 have Q0 := ((HP9.out.below HX.out).cell 0)
 have Q1 := ((HP9.out.below HX.out).cell 1)
 have Q2 := ((HP9.out.below HX.out).cell 2)
 have Q3 := ((HP9.out.below HX.out).cell 3)
 have Q4 := ((HP9.out.below HX.out).cell 4)
 simp only [gB] at P0 P1 P2 P3 P4 P5 Q0 Q1 Q2 Q3 Q4
 have n1 : ((NL : Int) != (NL : Int)) = false := by simp
 go_wp2_with fail
 refine (HS89.out _ HX.out).mono ?_
 rintro e y9 ⟨he, hb⟩
 rw [he.out]
 clear he hln
 have HXn := Hd (HX.out.trans (hb.mono HX.out.size))
 clear HX hb
 have HX := HXn
 clear HXn
 clear P0 P1 P2 P3 P4 P5 Q0 Q1 Q2 Q3 Q4
 go_wp2_with fail
 go_loopw [5] (fun s5 wr => ∃ k : Nat, k ≤ NL ∧ s5 = .int .i64 k ∧ Hid (Below X.heap.size X wr)) (fun s5 _ => NL - (intOf s5).toNat)
 case atStart => exact ⟨0, Nat.zero_le _, rfl, HX⟩
 case round =>
  clear HX
  obtain ⟨k, hk, rfl, HX⟩ := hrel
  have P0 := ((HP8.out.below HX.out).cell 0)
  have P1 := ((HP8.out.below HX.out).cell 1)
  have P2 := ((HP8.out.below HX.out).cell 2)
  have P3 := ((HP8.out.below HX.out).cell 3)
  have P4 := ((HP8.out.below HX.out).cell 4)
  have P5 := ((HP8.out.below HX.out).cell 5)
  have Q0 := ((HP9.out.below HX.out).cell 0)
  have Q1 := ((HP9.out.below HX.out).cell 1)
  have Q2 := ((HP9.out.below HX.out).cell 2)
  have Q3 := ((HP9.out.below HX.out).cell 3)
  have Q4 := ((HP9.out.below HX.out).cell 4)
  simp only [gB] at P0 P1 P2 P3 P4 P5 Q0 Q1 Q2 Q3 Q4
  by_cases hlt : k < NL
  ·have hlt' : (k : Int) < (NL : Int) := by omega
   have hNb := HNb.out
   obtain ⟨e0, gp, offp, hdp, hgp, q1, q2, q3, hkY⟩ := idCell (HK8.out.below HX.out) k hlt
   obtain ⟨gq, offq, hdq, hgq, hkl, hce⟩ := ovCell (HK9.out.below HX.out) k hlt
   have hget : l.getD k KO.d = l[k] := by simp [List.getD, hkl]
   rw [hget] at hce
   have hid : okI (Y.2.1.getD k (0, 0, 0)) := by
    simp only [List.getD, List.getElem?_eq_getElem hkY, Option.getD_some]
    exact HOk.out _ (List.getElem_mem hkY)
   have hkey : Y.2.1.getD k (0, 0, 0) = l[k].1.1 := by
    have hk2 : k < (l.map (·.1)).length := by rw [List.length_map]; exact hkl
    have e := HPR.out.keys
    simp only [List.getD, e, List.getElem?_map, List.getElem?_eq_getElem hkl, Option.map_some, Option.getD_some]
   have hval : getV Y.2.2 (Y.2.1.getD k (0, 0, 0)) = some l[k].1.2 := by
    have hk2 : k < (l.map (·.1)).length := by rw [List.length_map]; exact hkl
    have h := getV_at k hk2 HPR.out.rise
    rw [HPR.out.at', hkey]
    simpa using h
   have hdep := HDp.out l[k] (List.getElem_mem hkl)
   obtain ⟨E, hE⟩ : ∃ q, l[k] = q := ⟨_, rfl⟩
   rw [hE] at hce hkey hval hdep
   obtain ⟨⟨⟨e1, e2, e3⟩, e4, ⟨e5, e6⟩, ⟨e7, e8⟩, ⟨e9, e10, e11, e12, e13, e14, e15, e16⟩, e17, el⟩, ea, em, ec⟩ := E
   obtain ⟨v1, hl1, hsm⟩ := HLk.out _ hid (e4, (e5, e6), (e7, e8), (e9, e10, e11, e12, e13, e14, e15, e16), e17, el) hval (.slice ea em ec) hdep
   simp only at hkey
   rw [hkey] at q1 q2 q3 hl1
   have HL1 := Hd (fun (V : World) (hV : Below wr.heap.size wr V) => hl1 V (HB.out.trans ((HX.out.trans (hV.mono HX.out.size)).mono HB.out.size)))
   have HSm := Hd (fun (V : World) (hV : Below wr.heap.size wr V) => (show Calls Tryz.prog 17 #[v1, .agg #[.int .i64 e4, .int .i64 e5, .int .i64 e6, .int .i64 e7, .int .i64 e8, .int .i64 e9, .int .i64 e10, .int .i64 e11, .string e12, .string e13, .int .i64 e14, .int .i64 e15, .int .i64 e16, .int .i64 e17, .slice ea em ec]] V fun e w'' => e = .returned (.bool true) ∧ Below V.heap.size V w'' from hsm V (HB.out.trans ((HX.out.trans (hV.mono HX.out.size)).mono HB.out.size))))
   obtain ⟨hne, hgd⟩ := neI_run e1 e2 e3 e1 e2 e3
   rw [decide_eq_true (rfl : ((e1, e2, e3) : I3) = (e1, e2, e3))] at hne
   simp only [Bool.not_true] at hne
   have HCe : Hid (∀ (j : Nat) (v : Value), ([.int .i64 e1, .int .i64 e2, .int .i64 e3, .int .i64 e4, .int .i64 e5, .int .i64 e6, .int .i64 e7, .int .i64 e8, .int .i64 e9, .int .i64 e10, .int .i64 e11, .string e12, .string e13, .int .i64 e14, .int .i64 e15, .int .i64 e16, .int .i64 e17, .slice ea em ec] : List Value)[j]? = some v → wr.cell? ⟨gq, offq + k * 18 + j, none⟩ = some v) := Hd hce
   have HP8w := Hd (HP8.out.below HX.out)
   have HP9w := Hd (HP9.out.below HX.out)
   have hsz9 := HX.out.size
   subst hdp hdq
   clear e0 hid hl1 hsm hkY hget hce hkey hval hdep hE
   go_upto_region 6 with fail
   clear P0 P1 P2 P3 P4 P5 Q0 Q1 Q2 Q3 Q4
   refine wp_region_held_drew (S := fun w' => Below wr.heap.size wr w') (by kernel_rfl) ?_ (fun hHeld => ?_)
   ·(first | exact Below.refl _ _ | exact (Below.refl _ _).drew | assumption | exact below_self (by assumption) (by assumption))
   refine tkA 0 (v := ?_) ?_ ?_
   rotate_left
   ·(intro w hSw; (try dsimp only at hSw); go_simp; try rfl)
   try simp only [Act.put, gA]
   refine tkA 1 (v := ?_) ?_ ?_
   rotate_left
   ·(intro w' hSw; have e := (HP8w.out.below hSw).cell 4; simp only [gB] at e; clear hSw; go_simp; try rfl)
   try simp only [Act.put, gA]
   refine tkA 2 (v := ?_) ?_ ?_
   rotate_left
   ·(intro w hSw; (try dsimp only at hSw); go_simp; try rfl)
   try simp only [Act.put, gA]
   refine tkA 3 (v := ?_) ?_ ?_
   rotate_left
   ·(intro w hSw; (try dsimp only at hSw); go_simp; try rfl)
   try simp only [Act.put, gA]
   refine tkA 4 (v := ?_) ?_ ?_
   rotate_left
   ·(intro w' hSw; have e0 := (hSw.cell (p := ⟨gp, offp + k * 3, none⟩) hgp).trans q1; have e1 := (hSw.cell (p := ⟨gp, offp + k * 3 + 1, none⟩) hgp).trans q2; have e2 := (hSw.cell (p := ⟨gp, offp + k * 3 + 2, none⟩) hgp).trans q3; clear hSw; go_simp; try rfl)
   try simp only [Act.put, gA]
   refine tkA 5 (v := ?_) ?_ ?_
   rotate_left
   ·(intro w hSw; (try dsimp only at hSw); go_simp; try rfl)
   try simp only [Act.put, gA]
   refine tkA 6 (v := ?_) ?_ ?_
   rotate_left
   ·(intro w' hSw; have e := (HP9w.out.below hSw).cell 4; simp only [gB] at e; clear hSw; go_simp; try rfl)
   try simp only [Act.put, gA]
   refine tkA 7 (v := ?_) ?_ ?_
   rotate_left
   ·(intro w hSw; (try dsimp only at hSw); go_simp; try rfl)
   try simp only [Act.put, gA]
   refine tkA 8 (v := ?_) ?_ ?_
   rotate_left
   ·(intro w hSw; (try dsimp only at hSw); go_simp; try rfl)
   try simp only [Act.put, gA]
   refine tkA 9 (v := ?_) ?_ ?_
   rotate_left
   ·(intro w hSw; (try dsimp only at hSw); go_simp; try rfl)
   try simp only [Act.put, gA]
   refine tkA 10 (v := ?_) ?_ ?_
   rotate_left
   ·(intro w' hSw; have t0 := (hSw.cell (p := ⟨gq, offq + k * 18 + 0, none⟩) hgq).trans (HCe.out 0 _ rfl); have t1 := (hSw.cell (p := ⟨gq, offq + k * 18 + 1, none⟩) hgq).trans (HCe.out 1 _ rfl); have t2 := (hSw.cell (p := ⟨gq, offq + k * 18 + 2, none⟩) hgq).trans (HCe.out 2 _ rfl); clear hSw; simp only [Nat.add_zero] at t0; go_simp; try rfl)
   try simp only [Act.put, gA]
   refine tkA 11 (v := ?_) ?_ ?_
   rotate_left
   ·(intro w hSw; (try dsimp only at hSw); go_simp; try rfl)
   try simp only [Act.put, gA]
   refine tkA 12 (v := ?_) ?_ ?_
   rotate_left
   ·(intro w hSw; (try dsimp only at hSw); go_simp; try rfl)
   try simp only [Act.put, gA]
   refine tkA 13 (v := ?_) ?_ ?_
   rotate_left
   ·(intro w hSw; (try dsimp only at hSw); go_simp; try rfl)
   try simp only [Act.put, gA]
   refine tkA 14 (v := ?_) ?_ ?_
   rotate_left
   ·(intro w' hSw; have e := (HP8w.out.below hSw).cell 5; simp only [gB] at e; clear hSw; go_simp; try rfl)
   try simp only [Act.put, gA]
   refine tkA 15 (v := ?_) ?_ ?_
   rotate_left
   ·(intro w hSw; (try dsimp only at hSw); go_simp; try rfl)
   try simp only [Act.put, gA]
   refine tkA 16 (v := ?_) ?_ ?_
   rotate_left
   ·(intro w' hSw; have e := (HP9w.out.below hSw).cell 4; simp only [gB] at e; clear hSw; go_simp; try rfl)
   try simp only [Act.put, gA]
   refine tkA 17 (v := ?_) ?_ ?_
   rotate_left
   ·(intro w hSw; (try dsimp only at hSw); go_simp; try rfl)
   try simp only [Act.put, gA]
   refine tkA 18 (v := ?_) ?_ ?_
   rotate_left
   ·(intro w hSw; (try dsimp only at hSw); go_simp; try rfl)
   try simp only [Act.put, gA]
   refine tkA 19 (v := ?_) ?_ ?_
   rotate_left
   ·(intro w hSw; (try dsimp only at hSw); go_simp; try rfl)
   try simp only [Act.put, gA]
   refine tkA 20 (v := ?_) ?_ ?_
   rotate_left
   ·(intro w' hSw; have t0 := (hSw.cell (p := ⟨gq, offq + k * 18 + 0, none⟩) hgq).trans (HCe.out 0 _ rfl); have t1 := (hSw.cell (p := ⟨gq, offq + k * 18 + 1, none⟩) hgq).trans (HCe.out 1 _ rfl); have t2 := (hSw.cell (p := ⟨gq, offq + k * 18 + 2, none⟩) hgq).trans (HCe.out 2 _ rfl); clear hSw; simp only [Nat.add_zero] at t0; go_simp; try rfl)
   try simp only [Act.put, gA]
   refine tkA 21 (v := ?_) ?_ ?_
   rotate_left
   ·(intro w' hSw; refine Eq.trans (take_lookup 35 _ _ rfl (.map (some b8)) (idW (e1, e2, e3)) rfl rfl v1 (HL1.out w' hSw)) ?_; rfl)
   try simp only [Act.put, gA]
   refine tkA 22 (v := ?_) ?_ ?_
   rotate_left
   ·(intro w hSw; (try dsimp only at hSw); go_simp; try rfl)
   try simp only [Act.put, gA]
   refine tkA 23 (v := ?_) ?_ ?_
   rotate_left
   ·(intro w' hSw; have e := (HP9w.out.below hSw).cell 4; simp only [gB] at e; clear hSw; go_simp; try rfl)
   try simp only [Act.put, gA]
   refine tkA 24 (v := ?_) ?_ ?_
   rotate_left
   ·(intro w hSw; (try dsimp only at hSw); go_simp; try rfl)
   try simp only [Act.put, gA]
   refine tkA 25 (v := ?_) ?_ ?_
   rotate_left
   ·(intro w hSw; (try dsimp only at hSw); go_simp; try rfl)
   try simp only [Act.put, gA]
   refine tkA 26 (v := ?_) ?_ ?_
   rotate_left
   ·(intro w hSw; (try dsimp only at hSw); go_simp; try rfl)
   try simp only [Act.put, gA]
   refine tkA 27 (v := ?_) ?_ ?_
   rotate_left
   ·(intro w' hSw; refine Eq.trans (take_load_at 59 _ rfl ⟨gq, offq + k * 18 + 3, none⟩ rfl [.int .i64 e4, .int .i64 e5, .int .i64 e6, .int .i64 e7, .int .i64 e8, .int .i64 e9, .int .i64 e10, .int .i64 e11, .string e12, .string e13, .int .i64 e14, .int .i64 e15, .int .i64 e16, .int .i64 e17, .slice ea em ec] _ (fun j v hv => by have hh := (hSw.cell (p := ⟨gq, offq + k * 18 + (j + 3), none⟩) hgq).trans (HCe.out (j + 3) v (by simpa using hv)); rw [addr_add, show offq + k * 18 + 3 + j = offq + k * 18 + (j + 3) by omega]; exact hh) Tryz.underlying59 rfl (by kernel_rfl)) ?_; rfl)
   try simp only [Act.put, gA]
   refine wpAnyH_ready (rs := [28]) (by kernel_rfl) (by simp) ?_
   refine (AllReadyH.cons rfl (fun K hK => ?_) AllReadyH.nil)
   go_simp
   (refine (HSm.out _ (by assumption)).mono ?_; rintro e z28 ⟨rfl, hb⟩; have hb := below_self (by assumption) hb)
   refine hK.out _ _ ?_ (fun hHeld => ?_)
   ·(first | exact Below.refl _ _ | exact (Below.refl _ _).drew | assumption | exact below_self (by assumption) (by assumption))
   clear hK K
   try simp only [Act.put, gA]
   refine tkA 29 (v := ?_) ?_ ?_
   rotate_left
   ·(intro w hSw; (try dsimp only at hSw); go_simp; try rfl)
   try simp only [Act.put, gA]
   refine tkA 30 (v := ?_) ?_ ?_
   rotate_left
   ·(intro w hSw; (try dsimp only at hSw); go_simp; try rfl)
   try simp only [Act.put, gA]
   refine wpAnyH_done (by kernel_rfl) ?_ _
   go_wp2_with fail
   go_roundw
   case rel => exact ⟨k + 1, by omega, by go_num, Hd (HX.out.trans ((by assumption : Below wr.heap.size wr z28).mono HX.out.size))⟩
   case measure => simp [intOf]; omega
  ·have hlt' : ¬ (k : Int) < (NL : Int) := by omega
   go_wp2_with fail
   go_ret
   exact ⟨rfl, HB.out.trans (HX.out.mono HB.out.size)⟩
end Go.Proofs.YtnancdbkmompdaaGreat
