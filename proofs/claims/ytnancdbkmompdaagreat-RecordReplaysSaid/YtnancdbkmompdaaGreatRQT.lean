/-
  Texts put together: Rdw, Rdi.
-/
import Derived.Test.YtnancdbkmompdaaGreatRY
import Derived.Test.YtnancdbkmompdaaGreatRZ
import Derived.Test.YtnancdbkmompdaaGreatRQS
import Derived.Test.YtnancdbkmompdaaGreatRdhR
namespace Go.Proofs.YtnancdbkmompdaaGreat
open Go.RowKit Go.Sort
set_option linter.unusedSimpArgs false
set_option linter.unusedVariables false
set_option maxRecDepth 100000
set_option maxHeartbeats 40000000
theorem rowE7_any (v1 v2 : Value) (rs1 rs2 : List (Cls 3)) (l1 l2 : List Ent) (W w : World) (h1 : RowIs KE enS W v1 rs1 l1) (h2 : RowIs KE enS W v2 rs2 l2) (hW : Below W.heap.size W w) (hN1 : l1.length ≤ 1000000) :
  Calls Tryz.prog 32 #[v1, v2] w (EqP (decide (l1 = l2)) w) := by
 obtain ⟨a1, c1, rfl⟩ := h1.rd.slice
 obtain ⟨a2, c2, rfl⟩ := h2.rd.slice
 obtain ⟨N, hN⟩ : ∃ N, rs1.length = N := ⟨_, rfl⟩
 obtain ⟨M, hM⟩ : ∃ M, rs2.length = M := ⟨_, rfl⟩
 have e1 : N = l1.length := by rw [← hN]; exact h1.len
 have e2 : M = l2.length := by rw [← hM]; exact h2.len
 rw [hN] at h1 ⊢
 rw [hM] at h2 ⊢
 have H1 := Hd h1
 have H2 := Hd h2
 have HL1 := Hd e1
 have HL2 := Hd e2
 have HW := Hd hW
 have HN := Hd (show N ≤ 1000000 by omega)
 clear h1 h2 hW hN hM hN1
 by_cases hlen : N = M
 ·obtain rfl := hlen
  have d1 : ((N : Int) != (N : Int)) = false := by simp
  have d0 : ((N : Int) == (N : Int)) = true := by simp
  clear e1 e2
  go_enter Tryz.func32, Tryz.ntmps32
  go_wp2_with fail
  go_loopw [5] (fun i wr => ∃ k : Nat, k ≤ N ∧ i = .int .i64 k ∧ Hid (l1.take k = l2.take k) ∧ Hid (Below w.heap.size w wr)) (fun i _ => N - (intOf i).toNat)
  case atStart => exact ⟨0, Nat.zero_le _, rfl, Hd (by simp), Hd (Below.refl _ _)⟩
  case round =>
   obtain ⟨k, hk, rfl, hE, hB⟩ := hrel
   by_cases hlt : k < N
   ·have g1 : (k : Int) < (N : Int) := by omega
    have g2 : decide ((k : Int) < (N : Int)) = true := decide_eq_true g1
    have g3 : decide (k < N) = true := decide_eq_true hlt
    have hWr := HW.out.trans (hB.out.mono HW.out.size)
    obtain ⟨hl1, p1, off1, cs1, ha1, hp1, hc1, hcel1⟩ := H1.out.el2 rfl hWr k hlt
    obtain ⟨hl2, p2, off2, cs2, ha2, hp2, hc2, hcel2⟩ := H2.out.el2 rfl hWr k hlt
    subst ha1 ha2
    obtain ⟨x, hx⟩ : ∃ x, l1[k] = x := ⟨_, rfl⟩
    obtain ⟨y, hy⟩ : ∃ y, l2[k] = y := ⟨_, rfl⟩
    rw [hx] at hc1
    rw [hy] at hc2
    have HX := Hd hx
    have HY := Hd hy
    have HK1 := Hd hl1
    have HK2 := Hd hl2
    obtain ⟨x0, x1, x2⟩ := x
    obtain ⟨y0, y1, y2⟩ := y
    have hc1 : cs1 = [.string x0, .string x1, .int .i64 x2] := hc1.1
    have hc2 : cs2 = [.string y0, .string y1, .int .i64 y2] := hc2.1
    subst hc1 hc2
    have y10 : wr.cell? ⟨p1, off1 + k * 3, none⟩ = some (.string x0) := hcel1 0 _ rfl
    have y20 : wr.cell? ⟨p2, off2 + k * 3, none⟩ = some (.string y0) := hcel2 0 _ rfl
    have y11 : wr.cell? ⟨p1, off1 + k * 3 + 1, none⟩ = some (.string x1) := hcel1 1 _ rfl
    have y21 : wr.cell? ⟨p2, off2 + k * 3 + 1, none⟩ = some (.string y1) := hcel2 1 _ rfl
    have y12 : wr.cell? ⟨p1, off1 + k * 3 + 2, none⟩ = some (.int .i64 x2) := hcel1 2 _ rfl
    have y22 : wr.cell? ⟨p2, off2 + k * 3 + 2, none⟩ = some (.int .i64 y2) := hcel2 2 _ rfl
    have m5 := kw_wrap hlt (by have := HN.out; omega)
    have HLt := Hd hlt
    clear hcel1 hcel2 hx hy hk hlt hWr
    by_cases q : (x0, x1, x2) = (y0, y1, y2)
    ·simp only [Prod.mk.injEq] at q
     obtain ⟨rfl, rfl, rfl⟩ := q
     obtain ⟨f1, f2⟩ := neE_run x0 x1 x2 x0 x1 x2
     rw [show (!decide (((x0, x1, x2) : E3) = (x0, x1, x2))) = false from by simp] at f1
     have HT := Hd (take_more hE.out HK1.out HK2.out (HX.out.trans HY.out.symm))
     have HB2 := hB
     go_wp2_with fail
     go_quiet (fail)
     generalize hwq : World.drewN _ _ = wq
     have HBq : Hid (Below w.heap.size w wq) := Hd (by rw [← hwq]; exact below_dn HB2.out _)
     clear hwq
     go_wp2_with fail
     go_roundw
     case rel => exact ⟨k + 1, HLt.out, (by first | rfl | (rw [m5]; rfl)), HT, HBq⟩
     case measure => (try rw [m5]); exact kw_meas HLt.out
    ·have HNe : Hid (decide (l1 = l2) = false) := Hd (decide_eq_false (fun e => q (by subst e; exact HX.out.symm.trans HY.out)))
     obtain ⟨f1, f2⟩ := neE_run x0 x1 x2 y0 y1 y2
     rw [show (!decide (((x0, x1, x2) : E3) = (y0, y1, y2))) = true from by rw [decide_eq_false q]; rfl] at f1
     clear q
     go_wp2_with fail
     go_quiet (fail)
     go_wp2_with fail
     go_ret
     exact ⟨ret_bool8 HNe.out.symm, below_dn hB.out _⟩
   ·have g1 : ¬ (k : Int) < (N : Int) := by omega
    have g2 : decide ((k : Int) < (N : Int)) = false := decide_eq_false g1
    have g3 : decide (k < N) = false := decide_eq_false hlt
    have HNe : Hid (decide (l1 = l2) = true) := Hd (decide_eq_true (by
     have hk2 : k = N := by omega
     have h := hE.out
     rw [hk2, List.take_of_length_le (by rw [← HL1.out]; exact Nat.le_refl _), List.take_of_length_le (by rw [← HL2.out]; exact Nat.le_refl _)] at h
     exact h))
    clear hlt hk
    go_wp2_with fail
    go_ret
    exact ⟨ret_bool8 HNe.out.symm, hB.out⟩
 ·have d1 : ((N : Int) != (M : Int)) = true := by simp; omega
  have d0 : ((N : Int) == (M : Int)) = false := by simp; omega
  have HNe : Hid (decide (l1 = l2) = false) := Hd (decide_eq_false (fun e => hlen (by rw [HL1.out, HL2.out, e])))
  clear hlen e1 e2
  go_enter Tryz.func32, Tryz.ntmps32
  go_wp2_with fail
  go_ret
  exact ⟨ret_bool8 HNe.out.symm, Below.refl _ _⟩
theorem rsame7_any (x2 : Int) (x3 : ByteArray) (x4 : Int) (y2 : Int) (y3 : ByteArray) (y4 : Int) (v1 v2 : Value) (rs1 rs2 : List (Cls 1)) (l1 l2 : List ByteArray) (W w : World) (h1 : RowIs KT txS W v1 rs1 l1) (h2 : RowIs KT txS W v2 rs2 l2) (hW : Below W.heap.size W w) (hN1 : l1.length ≤ 1000000) :
  Calls Tryz.prog 57 #[.agg #[.int .i64 x2, .string x3, .int .i64 x4, v1], .agg #[.int .i64 y2, .string y3, .int .i64 y4, v2]] w (EqP (decide ((x2, x3, x4, l1) = (y2, y3, y4, l2))) w) := by
 obtain ⟨a1, c1, rfl⟩ := h1.rd.slice
 obtain ⟨a2, c2, rfl⟩ := h2.rd.slice
 obtain ⟨N, hN⟩ : ∃ N, rs1.length = N := ⟨_, rfl⟩
 obtain ⟨M, hM⟩ : ∃ M, rs2.length = M := ⟨_, rfl⟩
 have e1 : N = l1.length := by rw [← hN]; exact h1.len
 have e2 : M = l2.length := by rw [← hM]; exact h2.len
 rw [hN] at h1 ⊢
 rw [hM] at h2 ⊢
 have H1 := Hd h1
 have H2 := Hd h2
 have HL1 := Hd e1
 have HL2 := Hd e2
 have HW := Hd hW
 have HN := Hd (show N ≤ 1000000 by omega)
 obtain ⟨Q, hQ⟩ : ∃ q, decide ((x2, x3, x4, l1) = (y2, y3, y4, l2)) = q := ⟨_, rfl⟩
 rw [hQ]
 have HQ := Hd hQ
 clear h1 h2 hW hN hM hN1 e1 e2 hQ
 obtain ⟨X, hX⟩ : ∃ X, (w.alloc (.cells #[.int .i64 x2, .string x3, .int .i64 x4, .slice a1 N c1] 73)).alloc (.cells #[.int .i64 y2, .string y3, .int .i64 y4, .slice a2 M c2] 73) = X := ⟨_, rfl⟩
 have hBX : Below w.heap.size w X := by rw [← hX]; exact ((Below.refl _ _).alloc (Nat.le_refl _) _).alloc (by simp) _
 have HBa : Hid (Bk X w.heap.size 73 [.int .i64 x2, .string x3, .int .i64 x4, .slice a1 N c1]) := Hd (by rw [← hX]; exact (Bk.new w _ [.int .i64 x2, .string x3, .int .i64 x4, .slice a1 N c1]).old _)
 have HBb : Hid (Bk X (w.heap.size + 1) 73 [.int .i64 y2, .string y3, .int .i64 y4, .slice a2 M c2]) := Hd (by rw [← hX]; have := Bk.new (w.alloc (.cells #[.int .i64 x2, .string x3, .int .i64 x4, .slice a1 N c1] 73)) 73 [.int .i64 y2, .string y3, .int .i64 y4, .slice a2 M c2]; simpa using this)
 have HBX := Hd hBX
 have HXX := Hd hX
 have HS0 := Hd (Below.refl X.heap.size X)
 clear hX hBX
 have s0 := (HBa.out.below HS0.out).cell 0
 have s1 := (HBa.out.below HS0.out).cell 1
 have s2 := (HBa.out.below HS0.out).cell 2
 have s3 := (HBa.out.below HS0.out).cell 3
 have t0 := (HBb.out.below HS0.out).cell 0
 have t1 := (HBb.out.below HS0.out).cell 1
 have t2 := (HBb.out.below HS0.out).cell 2
 have t3 := (HBb.out.below HS0.out).cell 3
 simp only [gB] at s0 t0 s1 t1 s2 t2 s3 t3
 by_cases z2 : x2 = y2
 rotate_left
 ·have g1 : (x2 != y2) = true := by simpa using z2
  have g2 : (x2 == y2) = false := by simpa using z2
  have HNe : Hid (Q = false) := Hd (HQ.out.symm.trans (decide_eq_false (fun e => z2 (congrArg (fun z => z.1) e))))
  go_enter Tryz.func57, Tryz.ntmps57
  go_upto_region 1 with fail
  rw [HXX.out]
  go_wp2_with fail
  go_ret
  exact ⟨ret_bool8 HNe.out.symm, HBX.out⟩
 subst z2
 have g1 : (x2 != x2) = false := by simp
 by_cases z3 : x3 = y3
 rotate_left
 ·have g3 : (x3.toList == y3.toList) = false := by simpa using bs_ne z3
  have g4 : (x3.toList != y3.toList) = true := by simpa using bs_ne z3
  have HNe : Hid (Q = false) := Hd (HQ.out.symm.trans (decide_eq_false (fun e => z3 (congrArg (fun z => z.2.1) e))))
  go_enter Tryz.func57, Tryz.ntmps57
  go_upto_region 1 with fail
  rw [HXX.out]
  go_wp2_with fail
  go_ret
  exact ⟨ret_bool8 HNe.out.symm, HBX.out⟩
 subst z3
 have g3 : (x3.toList != x3.toList) = false := by simp
 by_cases z4 : x4 = y4
 rotate_left
 ·have g5 : (x4 != y4) = true := by simpa using z4
  have g6 : (x4 == y4) = false := by simpa using z4
  have HNe : Hid (Q = false) := Hd (HQ.out.symm.trans (decide_eq_false (fun e => z4 (congrArg (fun z => z.2.2.1) e))))
  go_enter Tryz.func57, Tryz.ntmps57
  go_upto_region 1 with fail
  rw [HXX.out]
  go_wp2_with fail
  go_ret
  exact ⟨ret_bool8 HNe.out.symm, HBX.out⟩
 subst z4
 have g5 : (x4 != x4) = false := by simp
 by_cases hlen : N = M
 rotate_left
 ·have g7 : ((N : Int) != (M : Int)) = true := by simp; omega
  have g8 : ((N : Int) == (M : Int)) = false := by simp; omega
  have HNe : Hid (Q = false) := Hd (HQ.out.symm.trans (decide_eq_false (fun e => hlen (by have e := congrArg (fun z => z.2.2.2) e; dsimp only at e; rw [HL1.out, HL2.out, e]))))
  go_enter Tryz.func57, Tryz.ntmps57
  go_upto_region 1 with fail
  rw [HXX.out]
  go_wp2_with fail
  go_ret
  exact ⟨ret_bool8 HNe.out.symm, HBX.out⟩
 obtain rfl := hlen
 have g7 : ((N : Int) != (N : Int)) = false := by simp
 go_enter Tryz.func57, Tryz.ntmps57
 go_upto_region 1 with fail
 rw [HXX.out]
 go_wp2_with fail
 clear s0 s1 s2 s3 t0 t1 t2 t3 HXX
 go_loopw [5] (fun i wr => ∃ k : Nat, k ≤ N ∧ i = .int .i64 k ∧ Hid (l1.take k = l2.take k) ∧ Hid (Below X.heap.size X wr)) (fun i _ => N - (intOf i).toNat)
 case atStart => exact ⟨0, Nat.zero_le _, rfl, Hd (by simp), HS0⟩
 case round =>
  obtain ⟨k, hk, rfl, hE, hBx⟩ := hrel
  have s0 := (HBa.out.below hBx.out).cell 0
  have s1 := (HBa.out.below hBx.out).cell 1
  have s2 := (HBa.out.below hBx.out).cell 2
  have s3 := (HBa.out.below hBx.out).cell 3
  have t0 := (HBb.out.below hBx.out).cell 0
  have t1 := (HBb.out.below hBx.out).cell 1
  have t2 := (HBb.out.below hBx.out).cell 2
  have t3 := (HBb.out.below hBx.out).cell 3
  simp only [gB] at s0 t0 s1 t1 s2 t2 s3 t3
  have hB := Hd (HBX.out.trans (hBx.out.mono HBX.out.size))
  by_cases hlt : k < N
  ·have g1 : (k : Int) < (N : Int) := by omega
   have g2 : decide ((k : Int) < (N : Int)) = true := decide_eq_true g1
   have g3 : decide (k < N) = true := decide_eq_true hlt
   have hWr := HW.out.trans (hB.out.mono HW.out.size)
   obtain ⟨hl1, p1, off1, cs1, ha1, hp1, hc1, hcel1⟩ := H1.out.el2 rfl hWr k hlt
   obtain ⟨hl2, p2, off2, cs2, ha2, hp2, hc2, hcel2⟩ := H2.out.el2 rfl hWr k hlt
   subst ha1 ha2
   obtain ⟨x, hx⟩ : ∃ x, l1[k] = x := ⟨_, rfl⟩
   obtain ⟨y, hy⟩ : ∃ y, l2[k] = y := ⟨_, rfl⟩
   rw [hx] at hc1
   rw [hy] at hc2
   have HX := Hd hx
   have HY := Hd hy
   have HK1 := Hd hl1
   have HK2 := Hd hl2
   obtain ⟨x0, rfl⟩ : ∃ q, q = x := ⟨_, rfl⟩
   obtain ⟨y0, rfl⟩ : ∃ q, q = y := ⟨_, rfl⟩
   have hc1 : cs1 = [.string x0] := hc1.1
   have hc2 : cs2 = [.string y0] := hc2.1
   subst hc1 hc2
   have y10 : wr.cell? ⟨p1, off1 + k, none⟩ = some (.string x0) := by have := hcel1 0 _ rfl; simpa [KT, rawK] using this
   have y20 : wr.cell? ⟨p2, off2 + k, none⟩ = some (.string y0) := by have := hcel2 0 _ rfl; simpa [KT, rawK] using this
   have m5 := kw_wrap hlt (by have := HN.out; omega)
   have HLt := Hd hlt
   clear hcel1 hcel2 hx hy hk hlt hWr
   by_cases q : x0 = y0
   ·obtain rfl := q
    have f1 : (x0.toList == x0.toList) = true := by simp
    have f2 : (x0.toList != x0.toList) = false := by simp
    have HT := Hd (take_more hE.out HK1.out HK2.out (HX.out.trans HY.out.symm))
    have HB2 := hBx
    go_wp2_with fail
    go_quiet (fail)
    generalize hwq : World.drewN _ _ = wq
    have HBq : Hid (Below X.heap.size X wq) := Hd (by rw [← hwq]; exact below_dn HB2.out _)
    clear hwq
    go_wp2_with fail
    go_roundw
    case rel => exact ⟨k + 1, HLt.out, (by first | rfl | (rw [m5]; rfl)), HT, HBq⟩
    case measure => (try rw [m5]); exact kw_meas HLt.out
   ·have HNe : Hid (Q = false) := Hd (HQ.out.symm.trans (decide_eq_false (fun e => q (by have e := congrArg (fun z => z.2.2.2) e; dsimp only at e; subst e; exact HX.out.symm.trans HY.out))))
    have f1 : (x0.toList == y0.toList) = false := by simpa using bs_ne q
    have f2 : (x0.toList != y0.toList) = true := by simpa using bs_ne q
    clear q
    go_wp2_with fail
    go_quiet (fail)
    go_wp2_with fail
    go_ret
    exact ⟨ret_bool8 HNe.out.symm, below_dn hB.out _⟩
  ·have g1 : ¬ (k : Int) < (N : Int) := by omega
   have g2 : decide ((k : Int) < (N : Int)) = false := decide_eq_false g1
   have g3 : decide (k < N) = false := decide_eq_false hlt
   have HNe : Hid (Q = true) := Hd (HQ.out.symm.trans (decide_eq_true (by
    have key : l1 = l2 := by
     have hk2 : k = N := by omega
     have h := hE.out
     rw [hk2, List.take_of_length_le (by rw [← HL1.out]; exact Nat.le_refl _), List.take_of_length_le (by rw [← HL2.out]; exact Nat.le_refl _)] at h
     exact h
    rw [key])))
   clear hlt hk
   go_wp2_with fail
   go_ret
   exact ⟨ret_bool8 HNe.out.symm, hB.out⟩
theorem rowZ9_any (v1 v2 : Value) (rs1 rs2 : List (Cls 6)) (l1 l2 : List Ses) (W w : World) (h1 : RowIs KZ seS W v1 rs1 l1) (h2 : RowIs KZ seS W v2 rs2 l2) (hW : Below W.heap.size W w) (hN1 : l1.length ≤ 1000000) (hT1 : ∀ x ∈ l1, x.2.2.2.2.2.length ≤ 1000000) :
  Calls Tryz.prog 33 #[v1, v2] w (EqP (decide (l1 = l2)) w) := by
 obtain ⟨a1, c1, rfl⟩ := h1.rd.slice
 obtain ⟨a2, c2, rfl⟩ := h2.rd.slice
 obtain ⟨N, hN⟩ : ∃ N, rs1.length = N := ⟨_, rfl⟩
 obtain ⟨M, hM⟩ : ∃ M, rs2.length = M := ⟨_, rfl⟩
 have e1 : N = l1.length := by rw [← hN]; exact h1.len
 have e2 : M = l2.length := by rw [← hM]; exact h2.len
 rw [hN] at h1 ⊢
 rw [hM] at h2 ⊢
 have H1 := Hd h1
 have H2 := Hd h2
 have HL1 := Hd e1
 have HL2 := Hd e2
 have HW := Hd hW
 have HN := Hd (show N ≤ 1000000 by omega)
 have HT1 := Hd hT1
 clear h1 h2 hW hN hM hN1 hT1
 by_cases hlen : N = M
 ·obtain rfl := hlen
  have d1 : ((N : Int) != (N : Int)) = false := by simp
  have d0 : ((N : Int) == (N : Int)) = true := by simp
  clear e1 e2
  go_enter Tryz.func33, Tryz.ntmps33
  go_wp2_with fail
  go_loopw [5] (fun i wr => ∃ k : Nat, k ≤ N ∧ i = .int .i64 k ∧ Hid (l1.take k = l2.take k) ∧ Hid (Below w.heap.size w wr)) (fun i _ => N - (intOf i).toNat)
  case atStart => exact ⟨0, Nat.zero_le _, rfl, Hd (by simp), Hd (Below.refl _ _)⟩
  case round =>
   obtain ⟨k, hk, rfl, hE, hB⟩ := hrel
   by_cases hlt : k < N
   ·have g1 : (k : Int) < (N : Int) := by omega
    have g2 : decide ((k : Int) < (N : Int)) = true := decide_eq_true g1
    have g3 : decide (k < N) = true := decide_eq_true hlt
    have hWr := HW.out.trans (hB.out.mono HW.out.size)
    obtain ⟨hl1, p1, off1, cs1, ha1, hp1, hc1, hcel1⟩ := H1.out.el2 rfl hWr k hlt
    obtain ⟨hl2, p2, off2, cs2, ha2, hp2, hc2, hcel2⟩ := H2.out.el2 rfl hWr k hlt
    subst ha1 ha2
    obtain ⟨x, hx⟩ : ∃ x, l1[k] = x := ⟨_, rfl⟩
    obtain ⟨y, hy⟩ : ∃ y, l2[k] = y := ⟨_, rfl⟩
    rw [hx] at hc1
    rw [hy] at hc2
    have HX := Hd hx
    have HY := Hd hy
    have HK1 := Hd hl1
    have HK2 := Hd hl2
    obtain ⟨x0, x1, x2, x3, x4, x5⟩ := x
    obtain ⟨y0, y1, y2, y3, y4, y5⟩ := y
    obtain ⟨xv, xr, hc1, _, hxr⟩ := hc1
    obtain ⟨yv, yr, hc2, _, hyr⟩ := hc2
    replace hc1 : cs1 = [.int .i64 x0, .int .i64 x1, .int .i64 x2, .string x3, .int .i64 x4, xv] := hc1
    replace hc2 : cs2 = [.int .i64 y0, .int .i64 y1, .int .i64 y2, .string y3, .int .i64 y4, yv] := hc2
    obtain ⟨xa, xc, hxv⟩ := hxr.rd.slice
    obtain ⟨ya, yc, hyv⟩ := hyr.rd.slice
    obtain ⟨xm, hxm⟩ : ∃ q, xr.length = q := ⟨_, rfl⟩
    obtain ⟨ym, hym⟩ : ∃ q, yr.length = q := ⟨_, rfl⟩
    rw [hxm] at hxv
    rw [hym] at hyv
    subst hxv hyv
    have HXR := Hd hxr
    have HYR := Hd hyr
    have HXl : Hid (x5.length ≤ 1000000) := Hd (by have := HT1.out _ (List.getElem_mem hl1); rw [HX.out] at this; exact this)
    clear hxm hym hxr hyr
    subst hc1 hc2
    have y10 : wr.cell? ⟨p1, off1 + k * 6, none⟩ = some (.int .i64 x0) := hcel1 0 _ rfl
    have y20 : wr.cell? ⟨p2, off2 + k * 6, none⟩ = some (.int .i64 y0) := hcel2 0 _ rfl
    have y11 : wr.cell? ⟨p1, off1 + k * 6 + 1, none⟩ = some (.int .i64 x1) := hcel1 1 _ rfl
    have y21 : wr.cell? ⟨p2, off2 + k * 6 + 1, none⟩ = some (.int .i64 y1) := hcel2 1 _ rfl
    have y12 : wr.cell? ⟨p1, off1 + k * 6 + 2, none⟩ = some (.int .i64 x2) := hcel1 2 _ rfl
    have y22 : wr.cell? ⟨p2, off2 + k * 6 + 2, none⟩ = some (.int .i64 y2) := hcel2 2 _ rfl
    have y13 : wr.cell? ⟨p1, off1 + k * 6 + 3, none⟩ = some (.string x3) := hcel1 3 _ rfl
    have y23 : wr.cell? ⟨p2, off2 + k * 6 + 3, none⟩ = some (.string y3) := hcel2 3 _ rfl
    have y14 : wr.cell? ⟨p1, off1 + k * 6 + 4, none⟩ = some (.int .i64 x4) := hcel1 4 _ rfl
    have y24 : wr.cell? ⟨p2, off2 + k * 6 + 4, none⟩ = some (.int .i64 y4) := hcel2 4 _ rfl
    have y15 : wr.cell? ⟨p1, off1 + k * 6 + 5, none⟩ = some (.slice xa xm xc) := hcel1 5 _ rfl
    have y25 : wr.cell? ⟨p2, off2 + k * 6 + 5, none⟩ = some (.slice ya ym yc) := hcel2 5 _ rfl
    have m5 := kw_wrap hlt (by have := HN.out; omega)
    have HLt := Hd hlt
    obtain ⟨R, hR⟩ : ∃ q, decide ((x2, x3, x4, x5) = (y2, y3, y4, y5)) = q := ⟨_, rfl⟩
    have HR := Hd hR
    have HC := Hd (fun (V : World) (hV : Below wr.heap.size wr V) => rsame7_any x2 x3 x4 y2 y3 y4 (.slice xa xm xc) (.slice ya ym yc) xr yr x5 y5 W V HXR.out HYR.out (hWr.trans (hV.mono hWr.size)) HXl.out)
    rw [hR] at HC
    clear hR
    have hpw1 := Nat.lt_of_lt_of_le hp1 (Nat.le_refl _)
    have hpw2 := Nat.lt_of_lt_of_le hp2 (Nat.le_refl _)
    clear hcel1 hcel2 hx hy hk hlt hWr
    go_upto_region 6 with fail
    refine wp_region_held_drew (S := fun w' => Below wr.heap.size wr w') (by kernel_rfl) ?_ (fun hHeld => ?_)
    ·(first | exact Below.refl _ _ | exact (Below.refl _ _).drew | assumption | exact below_self (by assumption) (by assumption))
    refine tkA 0 (v := ?_) ?_ ?_
    rotate_left
    ·(intro w hSw; (try dsimp only at hSw); go_simp; try rfl)
    try simp only [Act.put, gA]
    refine tkA 1 (v := ?_) ?_ ?_
    rotate_left
    ·(intro w hSw; (try dsimp only at hSw); go_simp; try rfl)
    try simp only [Act.put, gA]
    refine tkA 2 (v := ?_) ?_ ?_
    rotate_left
    ·(intro w hSw; (try dsimp only at hSw); go_simp; try rfl)
    try simp only [Act.put, gA]
    refine tkA 3 (v := ?_) ?_ ?_
    rotate_left
    ·(intro w hSw; (try dsimp only at hSw); go_simp; try rfl)
    try simp only [Act.put, gA]
    refine tkA 4 (v := ?_) ?_ ?_
    rotate_left
    ·(intro w' hSw; have e2 := (hSw.cell (p := ⟨p1, off1 + k * 6 + 2, none⟩) hpw1).trans y12; have e3 := (hSw.cell (p := ⟨p1, off1 + k * 6 + 3, none⟩) hpw1).trans y13; have e4 := (hSw.cell (p := ⟨p1, off1 + k * 6 + 4, none⟩) hpw1).trans y14; have e5 := (hSw.cell (p := ⟨p1, off1 + k * 6 + 5, none⟩) hpw1).trans y15; clear hSw; go_simp; try rfl)
    try simp only [Act.put, gA]
    refine tkA 5 (v := ?_) ?_ ?_
    rotate_left
    ·(intro w hSw; (try dsimp only at hSw); go_simp; try rfl)
    try simp only [Act.put, gA]
    refine tkA 6 (v := ?_) ?_ ?_
    rotate_left
    ·(intro w hSw; (try dsimp only at hSw); go_simp; try rfl)
    try simp only [Act.put, gA]
    refine tkA 7 (v := ?_) ?_ ?_
    rotate_left
    ·(intro w hSw; (try dsimp only at hSw); go_simp; try rfl)
    try simp only [Act.put, gA]
    refine tkA 8 (v := ?_) ?_ ?_
    rotate_left
    ·(intro w hSw; (try dsimp only at hSw); go_simp; try rfl)
    try simp only [Act.put, gA]
    refine tkA 9 (v := ?_) ?_ ?_
    rotate_left
    ·(intro w' hSw; have e2 := (hSw.cell (p := ⟨p2, off2 + k * 6 + 2, none⟩) hpw2).trans y22; have e3 := (hSw.cell (p := ⟨p2, off2 + k * 6 + 3, none⟩) hpw2).trans y23; have e4 := (hSw.cell (p := ⟨p2, off2 + k * 6 + 4, none⟩) hpw2).trans y24; have e5 := (hSw.cell (p := ⟨p2, off2 + k * 6 + 5, none⟩) hpw2).trans y25; clear hSw; go_simp; try rfl)
    try simp only [Act.put, gA]
    refine wpAnyH_ready (rs := [10]) (by kernel_rfl) (by simp) ?_
    refine (AllReadyH.cons rfl (fun K hK => ?_) AllReadyH.nil)
    go_simp
    (refine (HC.out _ (by assumption)).mono ?_; rintro e u1 ⟨he, hb⟩; rw [he.out]; clear he; have hb := below_self (by assumption) hb)
    refine hK.out _ _ ?_ (fun hHeld => ?_)
    ·(first | exact Below.refl _ _ | exact (Below.refl _ _).drew | assumption | exact below_self (by assumption) (by assumption))
    clear hK K
    try simp only [Act.put, gA]
    refine tkA 11 (v := ?_) ?_ ?_
    rotate_left
    ·(intro w hSw; (try dsimp only at hSw); go_simp; try rfl)
    try simp only [Act.put, gA]
    refine wpAnyH_done (by kernel_rfl) ?_ _
    have hb := hHeld
    clear hHeld
    go_upto_region 7 with fail
    have HBu := Hd (hB.out.trans (hb.mono hB.out.size))
    have c10 := (hb.cell (p := ⟨p1, off1 + k * 6, none⟩) hpw1).trans y10
    have c11 := (hb.cell (p := ⟨p1, off1 + k * 6 + 1, none⟩) hpw1).trans y11
    have c20 := (hb.cell (p := ⟨p2, off2 + k * 6, none⟩) hpw2).trans y20
    have c21 := (hb.cell (p := ⟨p2, off2 + k * 6 + 1, none⟩) hpw2).trans y21
    clear hb y10 y11 y12 y13 y14 y15 y20 y21 y22 y23 y24 y25
    by_cases za : x0 = y0
    rotate_left
    ·have g5 : (x0 != y0) = true := by simpa using za
     have g6 : (x0 == y0) = false := by simpa using za
     have HNe : Hid (decide (l1 = l2) = false) := Hd (decide_eq_false (fun e => za (by subst e; have e := HX.out.symm.trans HY.out; simp only [Prod.mk.injEq] at e; exact e.1)))
     go_wp2_with fail
     go_quiet (fail)
     go_wp2_with fail
     go_ret
     exact ⟨ret_bool8 HNe.out.symm, below_dn HBu.out _⟩
    subst za
    have g5 : (x0 != x0) = false := by simp
    by_cases zb : x1 = y1
    rotate_left
    ·have g7 : (x1 != y1) = true := by simpa using zb
     have g8 : (x1 == y1) = false := by simpa using zb
     have HNe : Hid (decide (l1 = l2) = false) := Hd (decide_eq_false (fun e => zb (by subst e; have e := HX.out.symm.trans HY.out; simp only [Prod.mk.injEq] at e; exact e.2.1)))
     go_wp2_with fail
     go_quiet (fail)
     go_wp2_with fail
     go_ret
     exact ⟨ret_bool8 HNe.out.symm, below_dn HBu.out _⟩
    subst zb
    have g7 : (x1 != x1) = false := by simp
    cases R with
    | false =>
     have zc := of_decide_eq_false HR.out
     have HNe : Hid (decide (l1 = l2) = false) := Hd (decide_eq_false (fun e => zc (by subst e; have e := HX.out.symm.trans HY.out; simp only [Prod.mk.injEq] at e; simp only [Prod.mk.injEq]; exact e.2.2)))
     go_wp2_with fail
     go_quiet (fail)
     go_wp2_with fail
     go_ret
     exact ⟨ret_bool8 HNe.out.symm, below_dn HBu.out _⟩
    | true =>
     have zc := of_decide_eq_true HR.out
     have HT := Hd (take_more hE.out HK1.out HK2.out (HX.out.trans (Eq.trans (by simp only [Prod.mk.injEq] at zc ⊢; exact ⟨trivial, trivial, zc⟩) HY.out.symm)))
     clear zc
     go_wp2_with fail
     go_quiet (fail)
     generalize hwq : World.drewN _ _ = wq
     have HBq : Hid (Below w.heap.size w wq) := Hd (by rw [← hwq]; exact below_dn HBu.out _)
     clear hwq
     go_wp2_with fail
     go_roundw
     case rel => exact ⟨k + 1, HLt.out, (by first | rfl | (rw [m5]; rfl)), HT, HBq⟩
     case measure => (try rw [m5]); exact kw_meas HLt.out
   ·have g1 : ¬ (k : Int) < (N : Int) := by omega
    have g2 : decide ((k : Int) < (N : Int)) = false := decide_eq_false g1
    have g3 : decide (k < N) = false := decide_eq_false hlt
    have HNe : Hid (decide (l1 = l2) = true) := Hd (decide_eq_true (by
     have hk2 : k = N := by omega
     have h := hE.out
     rw [hk2, List.take_of_length_le (by rw [← HL1.out]; exact Nat.le_refl _), List.take_of_length_le (by rw [← HL2.out]; exact Nat.le_refl _)] at h
     exact h))
    clear hlt hk
    go_wp2_with fail
    go_ret
    exact ⟨ret_bool8 HNe.out.symm, hB.out⟩
 ·have d1 : ((N : Int) != (M : Int)) = true := by simp; omega
  have d0 : ((N : Int) == (M : Int)) = false := by simp; omega
  have HNe : Hid (decide (l1 = l2) = false) := Hd (decide_eq_false (fun e => hlen (by rw [HL1.out, HL2.out, e])))
  clear hlen e1 e2
  go_enter Tryz.func33, Tryz.ntmps33
  go_wp2_with fail
  go_ret
  exact ⟨ret_bool8 HNe.out.symm, Below.refl _ _⟩
theorem cfg10 (n m : Int) (u t : Value) (rs1 rs2 : List (Cls 1)) (l k : List Int) (W w : World) (h1 : RowIs KN numS W u rs1 l) (h2 : RowIs KN numS W t rs2 k) (hW : Below W.heap.size W w) (hN : l.length ≤ 1000000) (hM : k.length ≤ 1000000) :
  Calls Tryz.prog 31 #[.agg #[.int .i64 n, u], .agg #[.int .i64 m, t]] w (EqP (decide (((n, l) : Cfg) = (m, k))) w) := by
 obtain ⟨a1, c1, rfl⟩ := h1.rd.slice
 obtain ⟨a2, c2, rfl⟩ := h2.rd.slice
 obtain ⟨i1, e1⟩ := irow_of (h1.on hW) hN
 obtain ⟨i2, e2⟩ := irow_of (h2.on hW) hM
 rw [e1, e2]
 refine (Cv.rsameV_any n m a1 a2 c1 c2 l k w i1 i2).mono ?_
 rintro e w' ⟨he, hb⟩
 have key : Cv.sameB n l m k = decide (((n, l) : Cfg) = (m, k)) := by
  unfold Cv.sameB
  by_cases q : n = m <;> by_cases q2 : l = k <;> simp [q, q2]
 exact ⟨Hd (by rw [he, key]), hb⟩
theorem recSame17 (x y : Snp) (cs1 cs2 : Array Value) (W w : World) (h1 : snS.is W cs1.toList x) (h2 : snS.is W cs2.toList y) (hW : Below W.heap.size W w) (hN : Sn6 x) (hM : Sn6 y) :
  Calls Tryz.prog 14 #[.agg cs1, .agg cs2] w (EqP (decide (x = y)) w) := by
 obtain ⟨a1, m1, c1, rs1, a2, m2, c2, rs2, a3, m3, c3, rs3, hcs1, k1, k2, k3⟩ := sn_is h1
 obtain ⟨b1, n1, d1, ss1, b2, n2, d2, ss2, b3, n3, d3, ss3, hcs2, j1, j2, j3⟩ := sn_is h2
 obtain ⟨⟨x0, l1⟩, l2, l3⟩ := x
 obtain ⟨⟨y0, r1⟩, r2, r3⟩ := y
 obtain rfl : cs1 = #[.int .i64 x0, .slice a1 m1 c1, .slice a2 m2 c2, .slice a3 m3 c3] := by
  cases cs1
  simpa [snV] using hcs1
 obtain rfl : cs2 = #[.int .i64 y0, .slice b1 n1 d1, .slice b2 n2 d2, .slice b3 n3 d3] := by
  cases cs2
  simpa [snV] using hcs2
 obtain ⟨X, hX⟩ : ∃ X, (w.alloc (.cells #[.int .i64 x0, .slice a1 m1 c1, .slice a2 m2 c2, .slice a3 m3 c3] 28)).alloc (.cells #[.int .i64 y0, .slice b1 n1 d1, .slice b2 n2 d2, .slice b3 n3 d3] 28) = X := ⟨_, rfl⟩
 have hB : Below w.heap.size w X := by rw [← hX]; exact ((Below.refl _ _).alloc (Nat.le_refl _) _).alloc (by simp) _
 have hb1 : Bk X w.heap.size 28 [.int .i64 x0, .slice a1 m1 c1, .slice a2 m2 c2, .slice a3 m3 c3] := by rw [← hX]; exact (Bk.new w _ _).old _
 have hb2 : Bk X (w.heap.size + 1) 28 [.int .i64 y0, .slice b1 n1 d1, .slice b2 n2 d2, .slice b3 n3 d3] := by rw [← hX]; have := Bk.new (w.alloc (.cells #[.int .i64 x0, .slice a1 m1 c1, .slice a2 m2 c2, .slice a3 m3 c3] 28)) 28 [.int .i64 y0, .slice b1 n1 d1, .slice b2 n2 d2, .slice b3 n3 d3]; rwa [World.size_alloc] at this
 have p0 := hb1.cell 0
 have q0 := hb2.cell 0
 have p1 := hb1.cell 1
 have q1 := hb2.cell 1
 have p2 := hb1.cell 2
 have q2 := hb2.cell 2
 have p3 := hb1.cell 3
 have q3 := hb2.cell 3
 simp only [gB] at p0 q0 p1 q1 p2 q2 p3 q3
 have HB := Hd hB
 have HBk1 := Hd hb1
 have HBk2 := Hd hb2
 have HW := Hd hW
 have HN := Hd hN
 have HM := Hd hM
 have HK1 := Hd k1
 have HK2 := Hd k2
 have HK3 := Hd k3
 have HJ1 := Hd j1
 have HJ2 := Hd j2
 have HJ3 := Hd j3
 clear h1 h2 hcs1 hcs2 k1 k2 k3 j1 j2 j3 hb1 hb2 hB hW hN hM
 go_enter Tryz.func14, Tryz.ntmps14
 go_wp2_with fail
 refine (cfg10 x0 y0 _ _ rs1 ss1 l1 r1 W X HK1.out HJ1.out (HW.out.trans (HB.out.mono HW.out.size)) HN.out.a HM.out.a).mono ?_
 rintro e w1 ⟨he, hb⟩
 rw [he.out]
 clear he hX
 have HB1 := Hd (HB.out.trans (hb.mono HB.out.size))
 have hb1 := HBk1.out.below hb
 have hb2 := HBk2.out.below hb
 clear hb p0 p1 p2 p3 q0 q1 q2 q3
 have p1 := hb1.cell 1
 have q1 := hb2.cell 1
 have p2 := hb1.cell 2
 have q2 := hb2.cell 2
 have p3 := hb1.cell 3
 have q3 := hb2.cell 3
 simp only [gB] at p1 p2 p3 q1 q2 q3
 have HBk1b := Hd hb1
 have HBk2b := Hd hb2
 clear hb1 hb2
 by_cases z : ((x0, l1) : Cfg) = (y0, r1)
 ·rw [decide_eq_true z]
  have HZ := Hd z
  clear z
  go_wp2_with fail
  refine (rowE7_any _ _ rs2 ss2 l2 r2 W w1 HK2.out HJ2.out (HW.out.trans (HB1.out.mono HW.out.size)) HN.out.b).mono ?_
  rintro e w2 ⟨he, hb⟩
  rw [he.out]
  have HB2 := Hd (HB1.out.trans (hb.mono HB1.out.size))
  have hb1 := HBk1b.out.below hb
  have hb2 := HBk2b.out.below hb
  clear he hb p1 p2 p3 q1 q2 q3
  have p3 := hb1.cell 2
  have q3 := hb2.cell 2
  have p4 := hb1.cell 3
  have q4 := hb2.cell 3
  simp only [gB] at p3 q3 p4 q4
  clear hb1 hb2
  by_cases z : l2 = r2
  ·rw [decide_eq_true z]
   have HZ2 := Hd z
   clear z
   go_wp2_with fail
   refine (rowZ9_any _ _ rs3 ss3 l3 r3 W w2 HK3.out HJ3.out (HW.out.trans (HB2.out.mono HW.out.size)) HN.out.c HN.out.d).mono ?_
   rintro e w3 ⟨he, hb⟩
   rw [he.out]
   have HB3 := Hd (HB2.out.trans (hb.mono HB2.out.size))
   clear he hb p3 q3 p4 q4
   have HE : Hid (decide ((((x0, l1), l2, l3) : Snp) = ((y0, r1), r2, r3)) = decide (l3 = r3)) := Hd (by rw [HZ.out, HZ2.out]; simp)
   go_wp2_with fail
   go_ret
   exact ⟨ret_bool8 HE.out.symm, HB3.out⟩
  ·rw [decide_eq_false z]
   have HE : Hid (decide ((((x0, l1), l2, l3) : Snp) = ((y0, r1), r2, r3)) = false) := Hd (decide_eq_false (fun e => z (by simp only [Prod.mk.injEq] at e; exact e.2.1)))
   clear z
   go_wp2_with fail
   go_ret
   exact ⟨ret_bool8 HE.out.symm, HB2.out⟩
 ·rw [decide_eq_false z]
  have HE : Hid (decide ((((x0, l1), l2, l3) : Snp) = ((y0, r1), r2, r3)) = false) := Hd (decide_eq_false (fun e => z (by simp only [Prod.mk.injEq] at e ⊢; exact e.1)))
  clear z
  go_wp2_with fail
  go_ret
  exact ⟨ret_bool8 HE.out.symm, HB1.out⟩
theorem radd_any (x : Snp) (l : List OV) (cs : Array Value) (vr : Value) (r : Rec4) (w : World) (h : RS w cs x l) (hr : RecIs w vr r) (hL : l.length ≤ 1000) (hN : Sn6 r.2.2.2) : Calls Tryz.prog 23 #[.agg cs, vr] w (RaP x l cs vr r (addR x (l.map (·.1)) r) w) := by
 cases h0 : r.1 with
 | true =>
  by_cases hv : Cv.valB r.2.2.2.1.1 r.2.2.2.1.2 = true ∧ x.1.1 < r.2.2.2.1.1
  ·exact radd_a x l cs vr r w h hr hL hN h0 hv.1 hv.2
  ·exact radd_b x l cs vr r w h hr hL hN h0 hv
 | false =>
  by_cases hv : r.2.1.1 = x.1.1
  ·exact radd_d x l cs vr r w h hr hL hN h0 hv
  ·exact radd_c x l cs vr r w h hr hL hN h0 hv
end Go.Proofs.YtnancdbkmompdaaGreat
