/-
  Texts put together: Rcb, Rcc.
-/
import Derived.Test.YtnancdbkmompdaaGreatRY
import Derived.Test.YtnancdbkmompdaaGreatRQJ
namespace Go.Proofs.YtnancdbkmompdaaGreat
open Go.RowKit
set_option linter.unusedSimpArgs false
set_option linter.unusedVariables false
set_option maxRecDepth 100000
set_option maxHeartbeats 40000000
instance instRpl : DecidableEq Rpl := inferInstance
instance instSes : DecidableEq Ses := inferInstance
instance instLSes : DecidableEq (List Ses) := inferInstance
theorem sameSes (x0 x1 x2 : Int) (x3 : ByteArray) (x4 : Int) (xs : List ByteArray) (y0 y1 y2 : Int) (y3 : ByteArray) (y4 : Int) (ys : List ByteArray) (v1 v2 : Value) (rs1 rs2 : List (Cls 1)) (W w : World) (h1 : RowIs KT txS W v1 rs1 xs) (h2 : RowIs KT txS W v2 rs2 ys) (hW : Below W.heap.size W w) (hN : xs.length ≤ 1000000) :
  Calls Tryz.prog 30 #[.agg #[.int .i64 x0, .int .i64 x1, .int .i64 x2, .string x3, .int .i64 x4, v1], .agg #[.int .i64 y0, .int .i64 y1, .int .i64 y2, .string y3, .int .i64 y4, v2]] w (EqP (decide (((x0, x1, x2, x3, x4, xs) : Ses) = (y0, y1, y2, y3, y4, ys))) w) := by
 obtain ⟨a1, c1, rfl⟩ := h1.rd.slice
 obtain ⟨a2, c2, rfl⟩ := h2.rd.slice
 obtain ⟨N, hN1⟩ : ∃ N, rs1.length = N := ⟨_, rfl⟩
 obtain ⟨M, hM1⟩ : ∃ M, rs2.length = M := ⟨_, rfl⟩
 rw [hN1] at h1 ⊢
 rw [hM1] at h2 ⊢
 obtain ⟨X, hX⟩ : ∃ X, (w.alloc (.cells #[.int .i64 x0, .int .i64 x1, .int .i64 x2, .string x3, .int .i64 x4, .slice a1 N c1] 75)).alloc (.cells #[.int .i64 y0, .int .i64 y1, .int .i64 y2, .string y3, .int .i64 y4, .slice a2 M c2] 75) = X := ⟨_, rfl⟩
 have hB : Below w.heap.size w X := by rw [← hX]; exact ((Below.refl _ _).alloc (Nat.le_refl _) _).alloc (by simp) _
 have hb1 : Bk X w.heap.size 75 [.int .i64 x0, .int .i64 x1, .int .i64 x2, .string x3, .int .i64 x4, .slice a1 N c1] := by rw [← hX]; exact (Bk.new w _ _).old _
 have hb2 : Bk X (w.heap.size + 1) 75 [.int .i64 y0, .int .i64 y1, .int .i64 y2, .string y3, .int .i64 y4, .slice a2 M c2] := by rw [← hX]; have := Bk.new (w.alloc (.cells #[.int .i64 x0, .int .i64 x1, .int .i64 x2, .string x3, .int .i64 x4, .slice a1 N c1] 75)) 75 [.int .i64 y0, .int .i64 y1, .int .i64 y2, .string y3, .int .i64 y4, .slice a2 M c2]; rwa [World.size_alloc] at this
 have p0 := hb1.cell 0
 have q0 := hb2.cell 0
 have p1 := hb1.cell 1
 have q1 := hb2.cell 1
 have p2 := hb1.cell 2
 have q2 := hb2.cell 2
 have p3 := hb1.cell 3
 have q3 := hb2.cell 3
 have p4 := hb1.cell 4
 have q4 := hb2.cell 4
 have p5 := hb1.cell 5
 have q5 := hb2.cell 5
 simp only [gB] at p0 q0 p1 q1 p2 q2 p3 q3 p4 q4 p5 q5
 have HB := Hd hB
 have HC := Hd (eqT_any _ _ rs1 rs2 xs ys W X h1 h2 (hW.trans (hB.mono hW.size)) hN)
 clear h1 h2 hW hN hN1 hM1 hB hb1 hb2
 go_enter Tryz.func30, Tryz.ntmps30
 by_cases z0 : ¬ x0 = y0
 ·have f0 : (x0 == y0) = false := by simpa using z0
  have HN : Hid (decide (((x0, x1, x2, x3, x4, xs) : Ses) = (y0, y1, y2, y3, y4, ys)) = false) := Hd (decide_eq_false (fun e => z0 (by simp only [Prod.mk.injEq] at e; exact e.1)))
  clear z0
  go_wp2_with fail
  go_ret
  exact ⟨ret_bool8 HN.out.symm, HB.out⟩
 obtain rfl := Classical.not_not.1 z0
 clear z0
 have f0 : (x0 == x0) = true := by simp
 by_cases z1 : ¬ x1 = y1
 ·have f1 : (x1 == y1) = false := by simpa using z1
  have HN : Hid (decide (((x0, x1, x2, x3, x4, xs) : Ses) = (x0, y1, y2, y3, y4, ys)) = false) := Hd (decide_eq_false (fun e => z1 (by simp only [Prod.mk.injEq] at e; exact e.2.1)))
  clear z1
  go_wp2_with fail
  go_ret
  exact ⟨ret_bool8 HN.out.symm, HB.out⟩
 obtain rfl := Classical.not_not.1 z1
 clear z1
 have f1 : (x1 == x1) = true := by simp
 by_cases z2 : ¬ x2 = y2
 ·have f2 : (x2 == y2) = false := by simpa using z2
  have HN : Hid (decide (((x0, x1, x2, x3, x4, xs) : Ses) = (x0, x1, y2, y3, y4, ys)) = false) := Hd (decide_eq_false (fun e => z2 (by simp only [Prod.mk.injEq] at e; exact e.2.2.1)))
  clear z2
  go_wp2_with fail
  go_ret
  exact ⟨ret_bool8 HN.out.symm, HB.out⟩
 obtain rfl := Classical.not_not.1 z2
 clear z2
 have f2 : (x2 == x2) = true := by simp
 by_cases z3 : ¬ x3 = y3
 ·have f3 : (x3.toList == y3.toList) = false := by simpa using bs_ne z3
  have HN : Hid (decide (((x0, x1, x2, x3, x4, xs) : Ses) = (x0, x1, x2, y3, y4, ys)) = false) := Hd (decide_eq_false (fun e => z3 (by simp only [Prod.mk.injEq] at e; exact e.2.2.2.1)))
  clear z3
  go_wp2_with fail
  go_ret
  exact ⟨ret_bool8 HN.out.symm, HB.out⟩
 obtain rfl := Classical.not_not.1 z3
 clear z3
 have f3 : (x3.toList == x3.toList) = true := by simp
 by_cases z4 : ¬ x4 = y4
 ·have f4 : (x4 == y4) = false := by simpa using z4
  have HN : Hid (decide (((x0, x1, x2, x3, x4, xs) : Ses) = (x0, x1, x2, x3, y4, ys)) = false) := Hd (decide_eq_false (fun e => z4 (by simp only [Prod.mk.injEq] at e; exact e.2.2.2.2.1)))
  clear z4
  go_wp2_with fail
  go_ret
  exact ⟨ret_bool8 HN.out.symm, HB.out⟩
 obtain rfl := Classical.not_not.1 z4
 clear z4
 have f4 : (x4 == x4) = true := by simp
 have HN : Hid (decide (((x0, x1, x2, x3, x4, xs) : Ses) = (x0, x1, x2, x3, x4, ys)) = decide (xs = ys)) := Hd (by simp)
 go_wp2_with fail
 refine HC.out.mono ?_
 rintro e w1 ⟨he, hb⟩
 rw [he.out]
 have HB1 := Hd (HB.out.trans (hb.mono HB.out.size))
 clear he hb
 go_wp2_with fail
 go_ret
 exact ⟨ret_bool8 HN.out.symm, HB1.out⟩
theorem eqZ_any (v1 v2 : Value) (rs1 rs2 : List (Cls 6)) (l1 l2 : List Ses) (W w : World) (h1 : RowIs KZ seS W v1 rs1 l1) (h2 : RowIs KZ seS W v2 rs2 l2) (hW : Below W.heap.size W w) (hN1 : l1.length ≤ 1000000) (hT1 : ∀ x ∈ l1, x.2.2.2.2.2.length ≤ 1000000) :
  Calls Tryz.prog 29 #[v1, v2, .func (.func 30) #[] #[]] w (EqP (decide (l1 = l2)) w) := by
 obtain ⟨a1, c1, rfl⟩ := h1.rd.slice
 obtain ⟨a2, c2, rfl⟩ := h2.rd.slice
 obtain ⟨N, hN⟩ : ∃ N, rs1.length = N := ⟨_, rfl⟩
 obtain ⟨M, hM⟩ : ∃ M, rs2.length = M := ⟨_, rfl⟩
 have e1 : N = l1.length := by rw [← hN]; exact h1.len
 have e2 : M = l2.length := by rw [← hM]; exact h2.len
 rw [hN] at h1 ⊢
 rw [hM] at h2 ⊢
 have H1 := Hd h1
 have H2 := Hd h2
 have HL1 := Hd e1
 have HL2 := Hd e2
 have HW := Hd hW
 have HN := Hd (show N ≤ 1000000 by omega)
 have HT1 := Hd hT1
 clear h1 h2 hW hN hM hN1 hT1
 by_cases hlen : N = M
 ·obtain rfl := hlen
  have d1 : ((N : Int) != (N : Int)) = false := by simp
  have d0 : ((N : Int) == (N : Int)) = true := by simp
  clear e1 e2
  go_enter Tryz.func29, Tryz.ntmps29
  go_wp2_with fail
  go_loopw [17] (fun i wr => ∃ k : Nat, k ≤ N ∧ i = .int .i64 k ∧ Hid (l1.take k = l2.take k) ∧ Hid (Below w.heap.size w wr)) (fun i _ => N - (intOf i).toNat)
  case atStart => exact ⟨0, Nat.zero_le _, rfl, Hd (by simp), Hd (Below.refl _ _)⟩
  case round =>
   obtain ⟨k, hk, rfl, hE, hB⟩ := hrel
   by_cases hlt : k < N
   ·have g1 : (k : Int) < (N : Int) := by omega
    have g2 : decide ((k : Int) < (N : Int)) = true := decide_eq_true g1
    have g3 : decide (k < N) = true := decide_eq_true hlt
    have hWr := HW.out.trans (hB.out.mono HW.out.size)
    obtain ⟨hl1, p1, off1, cs1, ha1, hp1, hc1, hcel1⟩ := H1.out.el2 rfl hWr k hlt
    obtain ⟨hl2, p2, off2, cs2, ha2, hp2, hc2, hcel2⟩ := H2.out.el2 rfl hWr k hlt
    subst ha1 ha2
    obtain ⟨x, hx⟩ : ∃ x, l1[k] = x := ⟨_, rfl⟩
    obtain ⟨y, hy⟩ : ∃ y, l2[k] = y := ⟨_, rfl⟩
    rw [hx] at hc1
    rw [hy] at hc2
    have HX := Hd hx
    have HY := Hd hy
    have HK1 := Hd hl1
    have HK2 := Hd hl2
    obtain ⟨x0, x1, x2, x3, x4, x5⟩ := x
    obtain ⟨y0, y1, y2, y3, y4, y5⟩ := y
    obtain ⟨xv, xr, hc1, _, hxr⟩ := hc1
    obtain ⟨yv, yr, hc2, _, hyr⟩ := hc2
    replace hc1 : cs1 = [.int .i64 x0, .int .i64 x1, .int .i64 x2, .string x3, .int .i64 x4, xv] := hc1
    replace hc2 : cs2 = [.int .i64 y0, .int .i64 y1, .int .i64 y2, .string y3, .int .i64 y4, yv] := hc2
    obtain ⟨xa, xc, hxv⟩ := hxr.rd.slice
    obtain ⟨ya, yc, hyv⟩ := hyr.rd.slice
    obtain ⟨xm, hxm⟩ : ∃ q, xr.length = q := ⟨_, rfl⟩
    obtain ⟨ym, hym⟩ : ∃ q, yr.length = q := ⟨_, rfl⟩
    rw [hxm] at hxv
    rw [hym] at hyv
    subst hxv hyv
    have HXR := Hd hxr
    have HYR := Hd hyr
    have HXl : Hid (x5.length ≤ 1000000) := Hd (by have := HT1.out _ (List.getElem_mem hl1); rw [HX.out] at this; exact this)
    clear hxm hym hxr hyr
    subst hc1 hc2
    have y10 : wr.cell? ⟨p1, off1 + k * 6, none⟩ = some (.int .i64 x0) := hcel1 0 _ rfl
    have y20 : wr.cell? ⟨p2, off2 + k * 6, none⟩ = some (.int .i64 y0) := hcel2 0 _ rfl
    have y11 : wr.cell? ⟨p1, off1 + k * 6 + 1, none⟩ = some (.int .i64 x1) := hcel1 1 _ rfl
    have y21 : wr.cell? ⟨p2, off2 + k * 6 + 1, none⟩ = some (.int .i64 y1) := hcel2 1 _ rfl
    have y12 : wr.cell? ⟨p1, off1 + k * 6 + 2, none⟩ = some (.int .i64 x2) := hcel1 2 _ rfl
    have y22 : wr.cell? ⟨p2, off2 + k * 6 + 2, none⟩ = some (.int .i64 y2) := hcel2 2 _ rfl
    have y13 : wr.cell? ⟨p1, off1 + k * 6 + 3, none⟩ = some (.string x3) := hcel1 3 _ rfl
    have y23 : wr.cell? ⟨p2, off2 + k * 6 + 3, none⟩ = some (.string y3) := hcel2 3 _ rfl
    have y14 : wr.cell? ⟨p1, off1 + k * 6 + 4, none⟩ = some (.int .i64 x4) := hcel1 4 _ rfl
    have y24 : wr.cell? ⟨p2, off2 + k * 6 + 4, none⟩ = some (.int .i64 y4) := hcel2 4 _ rfl
    have y15 : wr.cell? ⟨p1, off1 + k * 6 + 5, none⟩ = some (.slice xa xm xc) := hcel1 5 _ rfl
    have y25 : wr.cell? ⟨p2, off2 + k * 6 + 5, none⟩ = some (.slice ya ym yc) := hcel2 5 _ rfl
    have m5 := kw_wrap hlt (by have := HN.out; omega)
    have HLt := Hd hlt
    obtain ⟨Y1, hY1⟩ : ∃ q, (wr.alloc (.cells #[.int .i64 0, .int .i64 0, .int .i64 0, .string ⟨#[]⟩, .int .i64 0, .slice none 0 0] 75)).setRow wr.heap.size #[.int .i64 x0, .int .i64 x1, .int .i64 x2, .string x3, .int .i64 x4, .slice xa xm xc] = q := ⟨_, rfl⟩
    obtain ⟨Y2, hY2⟩ : ∃ q, (Y1.alloc (.cells #[.int .i64 0, .int .i64 0, .int .i64 0, .string ⟨#[]⟩, .int .i64 0, .slice none 0 0] 75)).setRow Y1.heap.size #[.int .i64 y0, .int .i64 y1, .int .i64 y2, .string y3, .int .i64 y4, .slice ya ym yc] = q := ⟨_, rfl⟩
    have hb1 : Below wr.heap.size wr Y1 := by rw [← hY1]; exact below_setRow ((Below.refl _ _).alloc (Nat.le_refl _) _) (Nat.le_refl _) _
    have hb2 : Below Y1.heap.size Y1 Y2 := by rw [← hY2]; exact below_setRow ((Below.refl _ _).alloc (Nat.le_refl _) _) (Nat.le_refl _) _
    have HA1 := Hd (bka_new wr 75 #[.int .i64 0, .int .i64 0, .int .i64 0, .string ⟨#[]⟩, .int .i64 0, .slice none 0 0])
    have HA2 := Hd (bka_new Y1 75 #[.int .i64 0, .int .i64 0, .int .i64 0, .string ⟨#[]⟩, .int .i64 0, .slice none 0 0])
    have HI6 : Hid ((Tryz.prog.info? 75).map (·.size) = some 6) := Hd (by kernel_rfl)
    have hX1 : Y1.heap[wr.heap.size]? = some (.cells #[.int .i64 x0, .int .i64 x1, .int .i64 x2, .string x3, .int .i64 x4, .slice xa xm xc] 75 (0, 0)) := by rw [← hY1]; exact heap_setRow_same _ _ #[.int .i64 0, .int .i64 0, .int .i64 0, .string ⟨#[]⟩, .int .i64 0, .slice none 0 0] #[.int .i64 x0, .int .i64 x1, .int .i64 x2, .string x3, .int .i64 x4, .slice xa xm xc] _ (bka_new wr 75 #[.int .i64 0, .int .i64 0, .int .i64 0, .string ⟨#[]⟩, .int .i64 0, .slice none 0 0])
    have hX2 : Y2.heap[Y1.heap.size]? = some (.cells #[.int .i64 y0, .int .i64 y1, .int .i64 y2, .string y3, .int .i64 y4, .slice ya ym yc] 75 (0, 0)) := by rw [← hY2]; exact heap_setRow_same _ _ #[.int .i64 0, .int .i64 0, .int .i64 0, .string ⟨#[]⟩, .int .i64 0, .slice none 0 0] #[.int .i64 y0, .int .i64 y1, .int .i64 y2, .string y3, .int .i64 y4, .slice ya ym yc] _ (bka_new Y1 75 #[.int .i64 0, .int .i64 0, .int .i64 0, .string ⟨#[]⟩, .int .i64 0, .slice none 0 0])
    have HX1 := Hd ((hb2.block _ (Array.getElem?_eq_some_iff.1 hX1).1).trans hX1)
    have HX2 := Hd hX2
    have hb12 : Below wr.heap.size wr Y2 := hb1.trans (hb2.mono hb1.size)
    have HBX := Hd hb12
    have y20 : Y1.cell? ⟨p2, off2 + k * 6, none⟩ = _ := (hb1.cell (p := ⟨p2, off2 + k * 6, none⟩) hp2).trans y20
    have y21 : Y1.cell? ⟨p2, off2 + k * 6 + 1, none⟩ = _ := (hb1.cell (p := ⟨p2, off2 + k * 6 + 1, none⟩) hp2).trans y21
    have y22 : Y1.cell? ⟨p2, off2 + k * 6 + 2, none⟩ = _ := (hb1.cell (p := ⟨p2, off2 + k * 6 + 2, none⟩) hp2).trans y22
    have y23 : Y1.cell? ⟨p2, off2 + k * 6 + 3, none⟩ = _ := (hb1.cell (p := ⟨p2, off2 + k * 6 + 3, none⟩) hp2).trans y23
    have y24 : Y1.cell? ⟨p2, off2 + k * 6 + 4, none⟩ = _ := (hb1.cell (p := ⟨p2, off2 + k * 6 + 4, none⟩) hp2).trans y24
    have y25 : Y1.cell? ⟨p2, off2 + k * 6 + 5, none⟩ = _ := (hb1.cell (p := ⟨p2, off2 + k * 6 + 5, none⟩) hp2).trans y25
    have HC := Hd (sameSes x0 x1 x2 x3 x4 x5 y0 y1 y2 y3 y4 y5 (.slice xa xm xc) (.slice ya ym yc) xr yr W Y2 HXR.out HYR.out (hWr.trans (hb12.mono hWr.size)) HXl.out)
    clear hb1 hb2 hb12 hX1 hX2 hcel1 hcel2 hx hy hk hlt hWr
    go_wp2_with (first | (refine wpList_store_row rfl 75 _ _ rfl wr.heap.size rfl #[.int .i64 x0, .int .i64 x1, .int .i64 x2, .string x3, .int .i64 x4, .slice xa xm xc] rfl #[.int .i64 0, .int .i64 0, .int .i64 0, .string ⟨#[]⟩, .int .i64 0, .slice none 0 0] 75 HA1.out HI6.out rfl (by rw [← Array.all_toList]; rfl) ?_) | (refine wpList_store_row rfl 75 _ _ rfl Y1.heap.size rfl #[.int .i64 y0, .int .i64 y1, .int .i64 y2, .string y3, .int .i64 y4, .slice ya ym yc] rfl #[.int .i64 0, .int .i64 0, .int .i64 0, .string ⟨#[]⟩, .int .i64 0, .slice none 0 0] 75 HA2.out HI6.out rfl (by rw [← Array.all_toList]; rfl) ?_) | (refine wpList_load_row rfl _ _ rfl wr.heap.size rfl 75 #[.int .i64 x0, .int .i64 x1, .int .i64 x2, .string x3, .int .i64 x4, .slice xa xm xc] (0, 0) _ HX1.out Tryz.underlying75 rfl HI6.out ?_) | (refine wpList_load_row rfl _ _ rfl Y1.heap.size rfl 75 #[.int .i64 y0, .int .i64 y1, .int .i64 y2, .string y3, .int .i64 y4, .slice ya ym yc] (0, 0) _ HX2.out Tryz.underlying75 rfl HI6.out ?_))
    refine HC.out.mono ?_
    rintro e u1 ⟨he, hb⟩
    rw [he.out]
    have HBu := Hd (hB.out.trans ((HBX.out.trans (hb.mono HBX.out.size)).mono hB.out.size))
    clear he hb hY1 hY2 HC
    by_cases q : ((x0, x1, x2, x3, x4, x5) : Ses) = (y0, y1, y2, y3, y4, y5)
    ·rw [decide_eq_true q]
     have HT := Hd (take_more hE.out HK1.out HK2.out (HX.out.trans (q.trans HY.out.symm)))
     clear q
     go_wp2_with fail
     go_roundw
     case rel => exact ⟨k + 1, HLt.out, (by first | rfl | (rw [m5]; rfl)), HT, HBu⟩
     case measure => (try rw [m5]); exact kw_meas HLt.out
    ·rw [decide_eq_false q]
     have HNe : Hid (decide (l1 = l2) = false) := Hd (decide_eq_false (fun e => q (by subst e; exact HX.out.symm.trans HY.out)))
     clear q
     go_wp2_with fail
     go_ret
     exact ⟨ret_bool8 HNe.out.symm, HBu.out⟩
   ·have g1 : ¬ (k : Int) < (N : Int) := by omega
    have g2 : decide ((k : Int) < (N : Int)) = false := decide_eq_false g1
    have g3 : decide (k < N) = false := decide_eq_false hlt
    have HNe : Hid (decide (l1 = l2) = true) := Hd (decide_eq_true (by
     have hk2 : k = N := by omega
     have h := hE.out
     rw [hk2, List.take_of_length_le (by rw [← HL1.out]; exact Nat.le_refl _), List.take_of_length_le (by rw [← HL2.out]; exact Nat.le_refl _)] at h
     exact h))
    clear hlt hk
    go_wp2_with fail
    go_ret
    exact ⟨ret_bool8 HNe.out.symm, hB.out⟩
 ·have d1 : ((N : Int) != (M : Int)) = true := by simp; omega
  have d0 : ((N : Int) == (M : Int)) = false := by simp; omega
  have HNe : Hid (decide (l1 = l2) = false) := Hd (decide_eq_false (fun e => hlen (by rw [HL1.out, HL2.out, e])))
  clear hlen e1 e2
  go_enter Tryz.func29, Tryz.ntmps29
  go_wp2_with fail
  go_ret
  exact ⟨ret_bool8 HNe.out.symm, Below.refl _ _⟩
theorem cfgSame (n m : Int) (u t : Value) (rs1 rs2 : List (Cls 1)) (l k : List Int) (W w : World) (h1 : RowIs KN numS W u rs1 l) (h2 : RowIs KN numS W t rs2 k) (hW : Below W.heap.size W w) (hN : l.length ≤ 1000000) :
  Calls Tryz.prog 27 #[.agg #[.int .i64 n, u], .agg #[.int .i64 m, t]] w (EqP (decide (((n, l) : Cfg) = (m, k))) w) := by
 obtain ⟨a1, c1, rfl⟩ := h1.rd.slice
 obtain ⟨a2, c2, rfl⟩ := h2.rd.slice
 obtain ⟨N, hN1⟩ : ∃ N, rs1.length = N := ⟨_, rfl⟩
 obtain ⟨M, hM1⟩ : ∃ M, rs2.length = M := ⟨_, rfl⟩
 rw [hN1] at h1 ⊢
 rw [hM1] at h2 ⊢
 obtain ⟨X, hX⟩ : ∃ X, (w.alloc (.cells #[.int .i64 n, .slice a1 N c1] 24)).alloc (.cells #[.int .i64 m, .slice a2 M c2] 24) = X := ⟨_, rfl⟩
 have hB : Below w.heap.size w X := by rw [← hX]; exact ((Below.refl _ _).alloc (Nat.le_refl _) _).alloc (by simp) _
 have hb1 : Bk X w.heap.size 24 [.int .i64 n, .slice a1 N c1] := by rw [← hX]; exact (Bk.new w _ _).old _
 have hb2 : Bk X (w.heap.size + 1) 24 [.int .i64 m, .slice a2 M c2] := by rw [← hX]; have := Bk.new (w.alloc (.cells #[.int .i64 n, .slice a1 N c1] 24)) 24 [.int .i64 m, .slice a2 M c2]; rwa [World.size_alloc] at this
 have p0 := hb1.cell 0
 have q0 := hb2.cell 0
 have p1 := hb1.cell 1
 have q1 := hb2.cell 1
 simp only [gB] at p0 q0 p1 q1
 have HB := Hd hB
 have HC := Hd (eqN_any _ _ rs1 rs2 l k W X h1 h2 (hW.trans (hB.mono hW.size)) hN)
 clear h1 h2 hW hN hN1 hM1 hB hb1 hb2
 go_enter Tryz.func27, Tryz.ntmps27
 by_cases z : ¬ n = m
 ·have f : (n == m) = false := by simpa using z
  have HN : Hid (decide (((n, l) : Cfg) = (m, k)) = false) := Hd (decide_eq_false (fun e => z (by simp only [Prod.mk.injEq] at e; exact e.1)))
  clear z
  go_wp2_with fail
  go_ret
  exact ⟨ret_bool8 HN.out.symm, HB.out⟩
 obtain rfl := Classical.not_not.1 z
 clear z
 have f : (n == n) = true := by simp
 have HN : Hid (decide (((n, l) : Cfg) = (n, k)) = decide (l = k)) := Hd (by simp)
 go_wp2_with fail
 refine HC.out.mono ?_
 rintro e w1 ⟨he, hb⟩
 rw [he.out]
 have HB1 := Hd (HB.out.trans (hb.mono HB.out.size))
 clear he hb
 go_wp2_with fail
 go_ret
 exact ⟨ret_bool8 HN.out.symm, HB1.out⟩
/-- A snap no list of which is longer than any machine reads. -/
structure Sn6 (x : Snp) : Prop where
 a : x.1.2.length ≤ 1000000
 b : x.2.1.length ≤ 1000000
 c : x.2.2.length ≤ 1000000
 d : ∀ z ∈ x.2.2, z.2.2.2.2.2.length ≤ 1000000
theorem recSame (x y : Snp) (cs1 cs2 : Array Value) (W w : World) (h1 : snS.is W cs1.toList x) (h2 : snS.is W cs2.toList y) (hW : Below W.heap.size W w) (hN : Sn6 x) :
  Calls Tryz.prog 13 #[.agg cs1, .agg cs2] w (EqP (decide (x = y)) w) := by
 obtain ⟨a1, m1, c1, rs1, a2, m2, c2, rs2, a3, m3, c3, rs3, hcs1, k1, k2, k3⟩ := sn_is h1
 obtain ⟨b1, n1, d1, ss1, b2, n2, d2, ss2, b3, n3, d3, ss3, hcs2, j1, j2, j3⟩ := sn_is h2
 obtain ⟨⟨x0, l1⟩, l2, l3⟩ := x
 obtain ⟨⟨y0, r1⟩, r2, r3⟩ := y
 obtain rfl : cs1 = #[.int .i64 x0, .slice a1 m1 c1, .slice a2 m2 c2, .slice a3 m3 c3] := by
  cases cs1
  simpa [snV] using hcs1
 obtain rfl : cs2 = #[.int .i64 y0, .slice b1 n1 d1, .slice b2 n2 d2, .slice b3 n3 d3] := by
  cases cs2
  simpa [snV] using hcs2
 obtain ⟨X, hX⟩ : ∃ X, (w.alloc (.cells #[.int .i64 x0, .slice a1 m1 c1, .slice a2 m2 c2, .slice a3 m3 c3] 28)).alloc (.cells #[.int .i64 y0, .slice b1 n1 d1, .slice b2 n2 d2, .slice b3 n3 d3] 28) = X := ⟨_, rfl⟩
 have hB : Below w.heap.size w X := by rw [← hX]; exact ((Below.refl _ _).alloc (Nat.le_refl _) _).alloc (by simp) _
 have hb1 : Bk X w.heap.size 28 [.int .i64 x0, .slice a1 m1 c1, .slice a2 m2 c2, .slice a3 m3 c3] := by rw [← hX]; exact (Bk.new w _ _).old _
 have hb2 : Bk X (w.heap.size + 1) 28 [.int .i64 y0, .slice b1 n1 d1, .slice b2 n2 d2, .slice b3 n3 d3] := by rw [← hX]; have := Bk.new (w.alloc (.cells #[.int .i64 x0, .slice a1 m1 c1, .slice a2 m2 c2, .slice a3 m3 c3] 28)) 28 [.int .i64 y0, .slice b1 n1 d1, .slice b2 n2 d2, .slice b3 n3 d3]; rwa [World.size_alloc] at this
 have p0 := hb1.cell 0
 have q0 := hb2.cell 0
 have p1 := hb1.cell 1
 have q1 := hb2.cell 1
 have p2 := hb1.cell 2
 have q2 := hb2.cell 2
 have p3 := hb1.cell 3
 have q3 := hb2.cell 3
 simp only [gB] at p0 q0 p1 q1 p2 q2 p3 q3
 have HB := Hd hB
 have HBk1 := Hd hb1
 have HBk2 := Hd hb2
 have HW := Hd hW
 have HN := Hd hN
 have HK1 := Hd k1
 have HK2 := Hd k2
 have HK3 := Hd k3
 have HJ1 := Hd j1
 have HJ2 := Hd j2
 have HJ3 := Hd j3
 clear h1 h2 hcs1 hcs2 k1 k2 k3 j1 j2 j3 hb1 hb2 hB hW hN
 go_enter Tryz.func13, Tryz.ntmps13
 go_wp2_with fail
 refine (cfgSame x0 y0 _ _ rs1 ss1 l1 r1 W X HK1.out HJ1.out (HW.out.trans (HB.out.mono HW.out.size)) HN.out.a).mono ?_
 rintro e w1 ⟨he, hb⟩
 rw [he.out]
 clear he hX
 have HB1 := Hd (HB.out.trans (hb.mono HB.out.size))
 have hb1 := HBk1.out.below hb
 have hb2 := HBk2.out.below hb
 clear hb p0 p1 p2 p3 q0 q1 q2 q3
 have p1 := hb1.cell 1
 have q1 := hb2.cell 1
 have p2 := hb1.cell 2
 have q2 := hb2.cell 2
 have p3 := hb1.cell 3
 have q3 := hb2.cell 3
 simp only [gB] at p1 p2 p3 q1 q2 q3
 have HBk1b := Hd hb1
 have HBk2b := Hd hb2
 clear hb1 hb2
 by_cases z : ((x0, l1) : Cfg) = (y0, r1)
 ·rw [decide_eq_true z]
  have HZ := Hd z
  clear z
  go_wp2_with fail
  refine (eqE_any _ _ rs2 ss2 l2 r2 W w1 HK2.out HJ2.out (HW.out.trans (HB1.out.mono HW.out.size)) HN.out.b).mono ?_
  rintro e w2 ⟨he, hb⟩
  rw [he.out]
  have HB2 := Hd (HB1.out.trans (hb.mono HB1.out.size))
  have hb1 := HBk1b.out.below hb
  have hb2 := HBk2b.out.below hb
  clear he hb p1 p2 p3 q1 q2 q3
  have p3 := hb1.cell 2
  have q3 := hb2.cell 2
  have p4 := hb1.cell 3
  have q4 := hb2.cell 3
  simp only [gB] at p3 q3 p4 q4
  clear hb1 hb2
  by_cases z : l2 = r2
  ·rw [decide_eq_true z]
   have HZ2 := Hd z
   clear z
   go_wp2_with fail
   refine (eqZ_any _ _ rs3 ss3 l3 r3 W w2 HK3.out HJ3.out (HW.out.trans (HB2.out.mono HW.out.size)) HN.out.c HN.out.d).mono ?_
   rintro e w3 ⟨he, hb⟩
   rw [he.out]
   have HB3 := Hd (HB2.out.trans (hb.mono HB2.out.size))
   clear he hb p3 q3 p4 q4
   have HE : Hid (decide ((((x0, l1), l2, l3) : Snp) = ((y0, r1), r2, r3)) = decide (l3 = r3)) := Hd (by rw [HZ.out, HZ2.out]; simp)
   go_wp2_with fail
   go_ret
   exact ⟨ret_bool8 HE.out.symm, HB3.out⟩
  ·rw [decide_eq_false z]
   have HE : Hid (decide ((((x0, l1), l2, l3) : Snp) = ((y0, r1), r2, r3)) = false) := Hd (decide_eq_false (fun e => z (by simp only [Prod.mk.injEq] at e; exact e.2.1)))
   clear z
   go_wp2_with fail
   go_ret
   exact ⟨ret_bool8 HE.out.symm, HB2.out⟩
 ·rw [decide_eq_false z]
  have HE : Hid (decide ((((x0, l1), l2, l3) : Snp) = ((y0, r1), r2, r3)) = false) := Hd (decide_eq_false (fun e => z (by simp only [Prod.mk.injEq] at e ⊢; exact e.1)))
  clear z
  go_wp2_with fail
  go_ret
  exact ⟨ret_bool8 HE.out.symm, HB1.out⟩
end Go.Proofs.YtnancdbkmompdaaGreat
