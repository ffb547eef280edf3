/-
  Texts put together: Rca, Rcb.
-/
import Derived.Test.YtnancdbkmompdaaGreatPQH
import Derived.Deep.RegionHeld3
import Derived.Deep.CutRange
namespace Go.Proofs.YtnancdbkmompdaaGreat
open Go.RowKit
set_option linter.unusedSimpArgs false
set_option linter.unusedVariables false

abbrev E3 := Ent
/-- Two entries compared. -/
theorem eqE_run (a1 a2 : ByteArray) (a3 : Int) (b1 b2 : ByteArray) (b3 : Int) : (∀ w, Sem.run Tryz.prog (binOp .eql 71 (.agg #[.string a1, .string a2, .int .i64 a3]) (.agg #[.string b1, .string b2, .int .i64 b3])) w = .ok (.bool (decide (((a1, a2, a3) : E3) = (b1, b2, b3)))) w) ∧
  (∀ op x y w, Sem.run Tryz.prog (eqGuard op 71 x y (.agg #[.string a1, .string a2, .int .i64 a3]) (.agg #[.string b1, .string b2, .int .i64 b3])) w = .ok () w) := by
 refine ⟨fun w => ?_, fun op x y w => run_eqGuard_agg w op 71 x y _ _ (by kernel_rfl)⟩
 have u3 := Tryz.underlying9
 have a3' := Tryz.isAgg9
 have z3 := Tryz.sizeOf9
 have u4 := Tryz.underlying3
 have a4 := Tryz.isAgg3
 have z4 := Tryz.sizeOf3
 have hS : Tryz.prog.underlying 71 = some (.struct (Tryz.prog.fieldsOf 71)) := by kernel_rfl
 have hp : Tryz.prog.stoodInHeld 71 = false := by kernel_rfl
 have key : ∀ x y : ByteArray, x ≠ y → x.toList ≠ y.toList := fun x y h e => by
  rw [ByteArray.toList_eq, ByteArray.toList_eq] at e
  exact h (ByteArray.ext (by simpa using e))
 rw [run_eql_struct, show (10000 : Nat) = 9999 + 1 from rfl, run_equalIn_agg w 9999 71 _ _ hS hp]
 simp only [Program.fieldsOf, Tryz.underlying71]
 go_simp
 by_cases h1 : a1 = b1
 ·subst h1
  by_cases h2 : a2 = b2
  ·subst h2
   by_cases h3 : a3 = b3 <;> simp [h3]
  ·have h3 := key _ _ h2
   simp [h2, h3]
 ·have h3 := key _ _ h1
  simp [h1, h3]
theorem neE_run (a1 a2 : ByteArray) (a3 : Int) (b1 b2 : ByteArray) (b3 : Int) : (∀ w, Sem.run Tryz.prog (binOp .neq 71 (.agg #[.string a1, .string a2, .int .i64 a3]) (.agg #[.string b1, .string b2, .int .i64 b3])) w = .ok (.bool (!decide (((a1, a2, a3) : E3) = (b1, b2, b3)))) w) ∧
  (∀ op x y w, Sem.run Tryz.prog (eqGuard op 71 x y (.agg #[.string a1, .string a2, .int .i64 a3]) (.agg #[.string b1, .string b2, .int .i64 b3])) w = .ok () w) := by
 refine ⟨fun w => ?_, (eqE_run a1 a2 a3 b1 b2 b3).2⟩
 have h := (eqE_run a1 a2 a3 b1 b2 b3).1 w
 rw [run_eql_struct] at h
 rw [run_neq_struct]
 revert h
 generalize Sem.run Tryz.prog (Op.equalIn 10000 71 (.agg #[.string a1, .string a2, .int .i64 a3]) (.agg #[.string b1, .string b2, .int .i64 b3])) w = r
 intro h
 cases r with
 | ok v w' => simp [Result.andThen] at h ⊢; simp [h]
 | halt x w' => simp [Result.andThen] at h

theorem ret_bool8 {a b : Bool} (h : a = b) : Ending.returned (.bool a) = .returned (.bool b) := by rw [h]
def EqP (b : Bool) (w : World) (e : Ending) (w' : World) : Prop := Hid (e = .returned (.bool b)) ∧ Below w.heap.size w w'
theorem below_dn {B : Nat} {w w1 : World} (h : Below B w w1) (n : Nat) : Below B w (w1.drewN n) := ⟨h.os, h.tape, h.output, h.size, h.block⟩
theorem take_more {α : Type} {l k : List α} {j : Nat} (h : l.take j = k.take j) (h1 : j < l.length) (h2 : j < k.length) (e : l[j] = k[j]) : l.take (j + 1) = k.take (j + 1) := by
 rw [List.take_succ_eq_append_getElem h1, List.take_succ_eq_append_getElem h2, h, e]
theorem kw_wrap {k N : Nat} (h : k < N) (hN : N ≤ 1000000000) : wrap64 ((k : Int) + 1) = (k : Int) + 1 := by unfold wrap64; omega
theorem kw_meas {k N : Nat} (h : k < N) : N - (intOf (Value.int .i64 ((k : Int) + 1))).toNat < N - (intOf (Value.int .i64 (k : Int))).toNat := by
 show N - ((k : Int) + 1).toNat < N - ((k : Int)).toNat
 omega
theorem bs_ne {x y : ByteArray} (h : x ≠ y) : x.toList ≠ y.toList := fun e => by
 rw [ByteArray.toList_eq, ByteArray.toList_eq] at e
 exact h (ByteArray.ext (by simpa using e))
set_option maxRecDepth 100000 in
set_option maxHeartbeats 4000000 in
theorem eqN_any (v1 v2 : Value) (rs1 rs2 : List (Cls 1)) (l1 l2 : List Int) (W w : World) (h1 : RowIs KN numS W v1 rs1 l1) (h2 : RowIs KN numS W v2 rs2 l2) (hW : Below W.heap.size W w) (hN1 : l1.length ≤ 1000000) :
  Calls Tryz.prog 55 #[v1, v2] w (EqP (decide (l1 = l2)) w) := by
 obtain ⟨a1, c1, rfl⟩ := h1.rd.slice
 obtain ⟨a2, c2, rfl⟩ := h2.rd.slice
 obtain ⟨N, hN⟩ : ∃ N, rs1.length = N := ⟨_, rfl⟩
 obtain ⟨M, hM⟩ : ∃ M, rs2.length = M := ⟨_, rfl⟩
 have e1 : N = l1.length := by rw [← hN]; exact h1.len
 have e2 : M = l2.length := by rw [← hM]; exact h2.len
 rw [hN] at h1 ⊢
 rw [hM] at h2 ⊢
 have H1 := Lib.hid h1
 have H2 := Lib.hid h2
 have HL1 := Lib.hid e1
 have HL2 := Lib.hid e2
 have HW := Lib.hid hW
 have HN := Lib.hid (show N ≤ 1000000 by omega)
 clear h1 h2 hW hN hM hN1
 by_cases hlen : N = M
 ·obtain rfl := hlen
  have d1 : ((N : Int) != (N : Int)) = false := by simp
  have d0 : ((N : Int) == (N : Int)) = true := by simp
  clear e1 e2
  go_enter Tryz.func55, Tryz.ntmps55
  go_wp2_with fail
  go_loopw [13] (fun i wr => ∃ k : Nat, k ≤ N ∧ i = .int .i64 k ∧ Hid (l1.take k = l2.take k) ∧ Hid (Below w.heap.size w wr)) (fun i _ => N - (intOf i).toNat)
  case atStart => exact ⟨0, Nat.zero_le _, rfl, Lib.hid (by simp), Lib.hid (Below.refl _ _)⟩
  case round =>
   obtain ⟨k, hk, rfl, hE, hB⟩ := hrel
   by_cases hlt : k < N
   ·have g1 : (k : Int) < (N : Int) := by omega
    have g2 : decide ((k : Int) < (N : Int)) = true := decide_eq_true g1
    have g3 : decide (k < N) = true := decide_eq_true hlt
    have hWr := HW.out.trans (hB.out.mono HW.out.size)
    obtain ⟨hl1, p1, off1, cs1, ha1, hp1, hc1, hcel1⟩ := H1.out.el2 rfl hWr k hlt
    obtain ⟨hl2, p2, off2, cs2, ha2, hp2, hc2, hcel2⟩ := H2.out.el2 rfl hWr k hlt
    subst ha1 ha2
    obtain ⟨x, hx⟩ : ∃ x, l1[k] = x := ⟨_, rfl⟩
    obtain ⟨y, hy⟩ : ∃ y, l2[k] = y := ⟨_, rfl⟩
    rw [hx] at hc1
    rw [hy] at hc2
    have HX := Lib.hid hx
    have HY := Lib.hid hy
    have HK1 := Lib.hid hl1
    have HK2 := Lib.hid hl2
    obtain ⟨x0, rfl⟩ : ∃ q, q = x := ⟨_, rfl⟩
    obtain ⟨y0, rfl⟩ : ∃ q, q = y := ⟨_, rfl⟩
    have hc1 : cs1 = [.int .i64 x0] := hc1
    have hc2 : cs2 = [.int .i64 y0] := hc2
    subst hc1 hc2
    have y10 : wr.cell? ⟨p1, off1 + k, none⟩ = some (.int .i64 x0) := by have := hcel1 0 _ rfl; simpa [KN, rawK] using this
    have y20 : wr.cell? ⟨p2, off2 + k, none⟩ = some (.int .i64 y0) := by have := hcel2 0 _ rfl; simpa [KN, rawK] using this
    have m5 := kw_wrap hlt (by have := HN.out; omega)
    have HLt := Lib.hid hlt
    clear hcel1 hcel2 hx hy hk hlt hWr
    by_cases q : x0 = y0
    ·obtain rfl := q
     have f1 : (x0 == x0) = true := by simp
     have f2 : (x0 != x0) = false := by simp
     have HT := Lib.hid (take_more hE.out HK1.out HK2.out (HX.out.trans HY.out.symm))
     have HB2 := hB
     go_wp2_with fail
     go_quiet (fail)
     generalize hwq : World.drewN _ _ = wq
     have HBq : Hid (Below w.heap.size w wq) := Lib.hid (by rw [← hwq]; exact below_dn HB2.out _)
     clear hwq
     go_wp2_with fail
     go_roundw
     case rel => exact ⟨k + 1, HLt.out, (by first | rfl | (rw [m5]; rfl)), HT, HBq⟩
     case measure => (try rw [m5]); exact kw_meas HLt.out
    ·have HNe : Hid (decide (l1 = l2) = false) := Lib.hid (decide_eq_false (fun e => q (by subst e; exact HX.out.symm.trans HY.out)))
     have f1 : (x0 == y0) = false := by simpa using q
     have f2 : (x0 != y0) = true := by simpa using q
     clear q
     go_wp2_with fail
     go_quiet (fail)
     go_wp2_with fail
     go_ret
     exact ⟨ret_bool8 HNe.out.symm, below_dn hB.out _⟩
   ·have g1 : ¬ (k : Int) < (N : Int) := by omega
    have g2 : decide ((k : Int) < (N : Int)) = false := decide_eq_false g1
    have g3 : decide (k < N) = false := decide_eq_false hlt
    have HNe : Hid (decide (l1 = l2) = true) := Lib.hid (decide_eq_true (by
     have hk2 : k = N := by omega
     have h := hE.out
     rw [hk2, List.take_of_length_le (by rw [← HL1.out]; exact Nat.le_refl _), List.take_of_length_le (by rw [← HL2.out]; exact Nat.le_refl _)] at h
     exact h))
    clear hlt hk
    go_wp2_with fail
    go_ret
    exact ⟨ret_bool8 HNe.out.symm, hB.out⟩
 ·have d1 : ((N : Int) != (M : Int)) = true := by simp; omega
  have d0 : ((N : Int) == (M : Int)) = false := by simp; omega
  have HNe : Hid (decide (l1 = l2) = false) := Lib.hid (decide_eq_false (fun e => hlen (by rw [HL1.out, HL2.out, e])))
  clear hlen e1 e2
  go_enter Tryz.func55, Tryz.ntmps55
  go_wp2_with fail
  go_ret
  exact ⟨ret_bool8 HNe.out.symm, Below.refl _ _⟩
set_option maxRecDepth 100000 in
set_option maxHeartbeats 4000000 in
theorem eqT_any (v1 v2 : Value) (rs1 rs2 : List (Cls 1)) (l1 l2 : List ByteArray) (W w : World) (h1 : RowIs KT txS W v1 rs1 l1) (h2 : RowIs KT txS W v2 rs2 l2) (hW : Below W.heap.size W w) (hN1 : l1.length ≤ 1000000) :
  Calls Tryz.prog 56 #[v1, v2] w (EqP (decide (l1 = l2)) w) := by
 obtain ⟨a1, c1, rfl⟩ := h1.rd.slice
 obtain ⟨a2, c2, rfl⟩ := h2.rd.slice
 obtain ⟨N, hN⟩ : ∃ N, rs1.length = N := ⟨_, rfl⟩
 obtain ⟨M, hM⟩ : ∃ M, rs2.length = M := ⟨_, rfl⟩
 have e1 : N = l1.length := by rw [← hN]; exact h1.len
 have e2 : M = l2.length := by rw [← hM]; exact h2.len
 rw [hN] at h1 ⊢
 rw [hM] at h2 ⊢
 have H1 := Lib.hid h1
 have H2 := Lib.hid h2
 have HL1 := Lib.hid e1
 have HL2 := Lib.hid e2
 have HW := Lib.hid hW
 have HN := Lib.hid (show N ≤ 1000000 by omega)
 clear h1 h2 hW hN hM hN1
 by_cases hlen : N = M
 ·obtain rfl := hlen
  have d1 : ((N : Int) != (N : Int)) = false := by simp
  have d0 : ((N : Int) == (N : Int)) = true := by simp
  clear e1 e2
  go_enter Tryz.func56, Tryz.ntmps56
  go_wp2_with fail
  go_loopw [13] (fun i wr => ∃ k : Nat, k ≤ N ∧ i = .int .i64 k ∧ Hid (l1.take k = l2.take k) ∧ Hid (Below w.heap.size w wr)) (fun i _ => N - (intOf i).toNat)
  case atStart => exact ⟨0, Nat.zero_le _, rfl, Lib.hid (by simp), Lib.hid (Below.refl _ _)⟩
  case round =>
   obtain ⟨k, hk, rfl, hE, hB⟩ := hrel
   by_cases hlt : k < N
   ·have g1 : (k : Int) < (N : Int) := by omega
    have g2 : decide ((k : Int) < (N : Int)) = true := decide_eq_true g1
    have g3 : decide (k < N) = true := decide_eq_true hlt
    have hWr := HW.out.trans (hB.out.mono HW.out.size)
    obtain ⟨hl1, p1, off1, cs1, ha1, hp1, hc1, hcel1⟩ := H1.out.el2 rfl hWr k hlt
    obtain ⟨hl2, p2, off2, cs2, ha2, hp2, hc2, hcel2⟩ := H2.out.el2 rfl hWr k hlt
    subst ha1 ha2
    obtain ⟨x, hx⟩ : ∃ x, l1[k] = x := ⟨_, rfl⟩
    obtain ⟨y, hy⟩ : ∃ y, l2[k] = y := ⟨_, rfl⟩
    rw [hx] at hc1
    rw [hy] at hc2
    have HX := Lib.hid hx
    have HY := Lib.hid hy
    have HK1 := Lib.hid hl1
    have HK2 := Lib.hid hl2
    obtain ⟨x0, rfl⟩ : ∃ q, q = x := ⟨_, rfl⟩
    obtain ⟨y0, rfl⟩ : ∃ q, q = y := ⟨_, rfl⟩
    have hc1 : cs1 = [.string x0] := hc1.1
    have hc2 : cs2 = [.string y0] := hc2.1
    subst hc1 hc2
    have y10 : wr.cell? ⟨p1, off1 + k, none⟩ = some (.string x0) := by have := hcel1 0 _ rfl; simpa [KT, rawK] using this
    have y20 : wr.cell? ⟨p2, off2 + k, none⟩ = some (.string y0) := by have := hcel2 0 _ rfl; simpa [KT, rawK] using this
    have m5 := kw_wrap hlt (by have := HN.out; omega)
    have HLt := Lib.hid hlt
    clear hcel1 hcel2 hx hy hk hlt hWr
    by_cases q : x0 = y0
    ·obtain rfl := q
     have f1 : (x0.toList == x0.toList) = true := by simp
     have f2 : (x0.toList != x0.toList) = false := by simp
     have HT := Lib.hid (take_more hE.out HK1.out HK2.out (HX.out.trans HY.out.symm))
     have HB2 := hB
     go_wp2_with fail
     go_quiet (fail)
     generalize hwq : World.drewN _ _ = wq
     have HBq : Hid (Below w.heap.size w wq) := Lib.hid (by rw [← hwq]; exact below_dn HB2.out _)
     clear hwq
     go_wp2_with fail
     go_roundw
     case rel => exact ⟨k + 1, HLt.out, (by first | rfl | (rw [m5]; rfl)), HT, HBq⟩
     case measure => (try rw [m5]); exact kw_meas HLt.out
    ·have HNe : Hid (decide (l1 = l2) = false) := Lib.hid (decide_eq_false (fun e => q (by subst e; exact HX.out.symm.trans HY.out)))
     have f1 : (x0.toList == y0.toList) = false := by simpa using bs_ne q
     have f2 : (x0.toList != y0.toList) = true := by simpa using bs_ne q
     clear q
     go_wp2_with fail
     go_quiet (fail)
     go_wp2_with fail
     go_ret
     exact ⟨ret_bool8 HNe.out.symm, below_dn hB.out _⟩
   ·have g1 : ¬ (k : Int) < (N : Int) := by omega
    have g2 : decide ((k : Int) < (N : Int)) = false := decide_eq_false g1
    have g3 : decide (k < N) = false := decide_eq_false hlt
    have HNe : Hid (decide (l1 = l2) = true) := Lib.hid (decide_eq_true (by
     have hk2 : k = N := by omega
     have h := hE.out
     rw [hk2, List.take_of_length_le (by rw [← HL1.out]; exact Nat.le_refl _), List.take_of_length_le (by rw [← HL2.out]; exact Nat.le_refl _)] at h
     exact h))
    clear hlt hk
    go_wp2_with fail
    go_ret
    exact ⟨ret_bool8 HNe.out.symm, hB.out⟩
 ·have d1 : ((N : Int) != (M : Int)) = true := by simp; omega
  have d0 : ((N : Int) == (M : Int)) = false := by simp; omega
  have HNe : Hid (decide (l1 = l2) = false) := Lib.hid (decide_eq_false (fun e => hlen (by rw [HL1.out, HL2.out, e])))
  clear hlen e1 e2
  go_enter Tryz.func56, Tryz.ntmps56
  go_wp2_with fail
  go_ret
  exact ⟨ret_bool8 HNe.out.symm, Below.refl _ _⟩
set_option maxRecDepth 100000 in
set_option maxHeartbeats 4000000 in
theorem eqE_any (v1 v2 : Value) (rs1 rs2 : List (Cls 3)) (l1 l2 : List Ent) (W w : World) (h1 : RowIs KE enS W v1 rs1 l1) (h2 : RowIs KE enS W v2 rs2 l2) (hW : Below W.heap.size W w) (hN1 : l1.length ≤ 1000000) :
  Calls Tryz.prog 28 #[v1, v2] w (EqP (decide (l1 = l2)) w) := by
 obtain ⟨a1, c1, rfl⟩ := h1.rd.slice
 obtain ⟨a2, c2, rfl⟩ := h2.rd.slice
 obtain ⟨N, hN⟩ : ∃ N, rs1.length = N := ⟨_, rfl⟩
 obtain ⟨M, hM⟩ : ∃ M, rs2.length = M := ⟨_, rfl⟩
 have e1 : N = l1.length := by rw [← hN]; exact h1.len
 have e2 : M = l2.length := by rw [← hM]; exact h2.len
 rw [hN] at h1 ⊢
 rw [hM] at h2 ⊢
 have H1 := Lib.hid h1
 have H2 := Lib.hid h2
 have HL1 := Lib.hid e1
 have HL2 := Lib.hid e2
 have HW := Lib.hid hW
 have HN := Lib.hid (show N ≤ 1000000 by omega)
 clear h1 h2 hW hN hM hN1
 by_cases hlen : N = M
 ·obtain rfl := hlen
  have d1 : ((N : Int) != (N : Int)) = false := by simp
  have d0 : ((N : Int) == (N : Int)) = true := by simp
  clear e1 e2
  go_enter Tryz.func28, Tryz.ntmps28
  go_wp2_with fail
  go_loopw [13] (fun i wr => ∃ k : Nat, k ≤ N ∧ i = .int .i64 k ∧ Hid (l1.take k = l2.take k) ∧ Hid (Below w.heap.size w wr)) (fun i _ => N - (intOf i).toNat)
  case atStart => exact ⟨0, Nat.zero_le _, rfl, Lib.hid (by simp), Lib.hid (Below.refl _ _)⟩
  case round =>
   obtain ⟨k, hk, rfl, hE, hB⟩ := hrel
   by_cases hlt : k < N
   ·have g1 : (k : Int) < (N : Int) := by omega
    have g2 : decide ((k : Int) < (N : Int)) = true := decide_eq_true g1
    have g3 : decide (k < N) = true := decide_eq_true hlt
    have hWr := HW.out.trans (hB.out.mono HW.out.size)
    obtain ⟨hl1, p1, off1, cs1, ha1, hp1, hc1, hcel1⟩ := H1.out.el2 rfl hWr k hlt
    obtain ⟨hl2, p2, off2, cs2, ha2, hp2, hc2, hcel2⟩ := H2.out.el2 rfl hWr k hlt
    subst ha1 ha2
    obtain ⟨x, hx⟩ : ∃ x, l1[k] = x := ⟨_, rfl⟩
    obtain ⟨y, hy⟩ : ∃ y, l2[k] = y := ⟨_, rfl⟩
    rw [hx] at hc1
    rw [hy] at hc2
    have HX := Lib.hid hx
    have HY := Lib.hid hy
    have HK1 := Lib.hid hl1
    have HK2 := Lib.hid hl2
    obtain ⟨x0, x1, x2⟩ := x
    obtain ⟨y0, y1, y2⟩ := y
    have hc1 : cs1 = [.string x0, .string x1, .int .i64 x2] := hc1.1
    have hc2 : cs2 = [.string y0, .string y1, .int .i64 y2] := hc2.1
    subst hc1 hc2
    have y10 : wr.cell? ⟨p1, off1 + k * 3, none⟩ = some (.string x0) := hcel1 0 _ rfl
    have y20 : wr.cell? ⟨p2, off2 + k * 3, none⟩ = some (.string y0) := hcel2 0 _ rfl
    have y11 : wr.cell? ⟨p1, off1 + k * 3 + 1, none⟩ = some (.string x1) := hcel1 1 _ rfl
    have y21 : wr.cell? ⟨p2, off2 + k * 3 + 1, none⟩ = some (.string y1) := hcel2 1 _ rfl
    have y12 : wr.cell? ⟨p1, off1 + k * 3 + 2, none⟩ = some (.int .i64 x2) := hcel1 2 _ rfl
    have y22 : wr.cell? ⟨p2, off2 + k * 3 + 2, none⟩ = some (.int .i64 y2) := hcel2 2 _ rfl
    have m5 := kw_wrap hlt (by have := HN.out; omega)
    have HLt := Lib.hid hlt
    clear hcel1 hcel2 hx hy hk hlt hWr
    by_cases q : (x0, x1, x2) = (y0, y1, y2)
    ·simp only [Prod.mk.injEq] at q
     obtain ⟨rfl, rfl, rfl⟩ := q
     obtain ⟨f1, f2⟩ := neE_run x0 x1 x2 x0 x1 x2
     rw [show (!decide (((x0, x1, x2) : E3) = (x0, x1, x2))) = false from by simp] at f1
     have HT := Lib.hid (take_more hE.out HK1.out HK2.out (HX.out.trans HY.out.symm))
     have HB2 := hB
     go_wp2_with fail
     go_quiet (fail)
     generalize hwq : World.drewN _ _ = wq
     have HBq : Hid (Below w.heap.size w wq) := Lib.hid (by rw [← hwq]; exact below_dn HB2.out _)
     clear hwq
     go_wp2_with fail
     go_roundw
     case rel => exact ⟨k + 1, HLt.out, (by first | rfl | (rw [m5]; rfl)), HT, HBq⟩
     case measure => (try rw [m5]); exact kw_meas HLt.out
    ·have HNe : Hid (decide (l1 = l2) = false) := Lib.hid (decide_eq_false (fun e => q (by subst e; exact HX.out.symm.trans HY.out)))
     obtain ⟨f1, f2⟩ := neE_run x0 x1 x2 y0 y1 y2
     rw [show (!decide (((x0, x1, x2) : E3) = (y0, y1, y2))) = true from by rw [decide_eq_false q]; rfl] at f1
     clear q
     go_wp2_with fail
     go_quiet (fail)
     go_wp2_with fail
     go_ret
     exact ⟨ret_bool8 HNe.out.symm, below_dn hB.out _⟩
   ·have g1 : ¬ (k : Int) < (N : Int) := by omega
    have g2 : decide ((k : Int) < (N : Int)) = false := decide_eq_false g1
    have g3 : decide (k < N) = false := decide_eq_false hlt
    have HNe : Hid (decide (l1 = l2) = true) := Lib.hid (decide_eq_true (by
     have hk2 : k = N := by omega
     have h := hE.out
     rw [hk2, List.take_of_length_le (by rw [← HL1.out]; exact Nat.le_refl _), List.take_of_length_le (by rw [← HL2.out]; exact Nat.le_refl _)] at h
     exact h))
    clear hlt hk
    go_wp2_with fail
    go_ret
    exact ⟨ret_bool8 HNe.out.symm, hB.out⟩
 ·have d1 : ((N : Int) != (M : Int)) = true := by simp; omega
  have d0 : ((N : Int) == (M : Int)) = false := by simp; omega
  have HNe : Hid (decide (l1 = l2) = false) := Lib.hid (decide_eq_false (fun e => hlen (by rw [HL1.out, HL2.out, e])))
  clear hlen e1 e2
  go_enter Tryz.func28, Tryz.ntmps28
  go_wp2_with fail
  go_ret
  exact ⟨ret_bool8 HNe.out.symm, Below.refl _ _⟩
end Go.Proofs.YtnancdbkmompdaaGreat
namespace Go.Proofs.YtnancdbkmompdaaGreat
open Go.RowKit
set_option linter.unusedSimpArgs false
set_option linter.unusedVariables false

instance instRpl : DecidableEq Rpl := inferInstance
instance instSes : DecidableEq Ses := inferInstance
instance instLSes : DecidableEq (List Ses) := inferInstance

set_option maxRecDepth 100000 in
set_option maxHeartbeats 8000000 in
theorem sameSes (x0 x1 x2 : Int) (x3 : ByteArray) (x4 : Int) (xs : List ByteArray) (y0 y1 y2 : Int) (y3 : ByteArray) (y4 : Int) (ys : List ByteArray) (v1 v2 : Value) (rs1 rs2 : List (Cls 1)) (W w : World) (h1 : RowIs KT txS W v1 rs1 xs) (h2 : RowIs KT txS W v2 rs2 ys) (hW : Below W.heap.size W w) (hN : xs.length ≤ 1000000) :
  Calls Tryz.prog 30 #[.agg #[.int .i64 x0, .int .i64 x1, .int .i64 x2, .string x3, .int .i64 x4, v1], .agg #[.int .i64 y0, .int .i64 y1, .int .i64 y2, .string y3, .int .i64 y4, v2]] w (EqP (decide (((x0, x1, x2, x3, x4, xs) : Ses) = (y0, y1, y2, y3, y4, ys))) w) := by
 obtain ⟨a1, c1, rfl⟩ := h1.rd.slice
 obtain ⟨a2, c2, rfl⟩ := h2.rd.slice
 obtain ⟨N, hN1⟩ : ∃ N, rs1.length = N := ⟨_, rfl⟩
 obtain ⟨M, hM1⟩ : ∃ M, rs2.length = M := ⟨_, rfl⟩
 rw [hN1] at h1 ⊢
 rw [hM1] at h2 ⊢
 obtain ⟨X, hX⟩ : ∃ X, (w.alloc (.cells #[.int .i64 x0, .int .i64 x1, .int .i64 x2, .string x3, .int .i64 x4, .slice a1 N c1] 75)).alloc (.cells #[.int .i64 y0, .int .i64 y1, .int .i64 y2, .string y3, .int .i64 y4, .slice a2 M c2] 75) = X := ⟨_, rfl⟩
 have hB : Below w.heap.size w X := by rw [← hX]; exact ((Below.refl _ _).alloc (Nat.le_refl _) _).alloc (by simp) _
 have hb1 : Bk X w.heap.size 75 [.int .i64 x0, .int .i64 x1, .int .i64 x2, .string x3, .int .i64 x4, .slice a1 N c1] := by rw [← hX]; exact (Bk.new w _ _).old _
 have hb2 : Bk X (w.heap.size + 1) 75 [.int .i64 y0, .int .i64 y1, .int .i64 y2, .string y3, .int .i64 y4, .slice a2 M c2] := by rw [← hX]; have := Bk.new (w.alloc (.cells #[.int .i64 x0, .int .i64 x1, .int .i64 x2, .string x3, .int .i64 x4, .slice a1 N c1] 75)) 75 [.int .i64 y0, .int .i64 y1, .int .i64 y2, .string y3, .int .i64 y4, .slice a2 M c2]; rwa [World.size_alloc] at this
 have p0 := hb1.cell 0
 have q0 := hb2.cell 0
 have p1 := hb1.cell 1
 have q1 := hb2.cell 1
 have p2 := hb1.cell 2
 have q2 := hb2.cell 2
 have p3 := hb1.cell 3
 have q3 := hb2.cell 3
 have p4 := hb1.cell 4
 have q4 := hb2.cell 4
 have p5 := hb1.cell 5
 have q5 := hb2.cell 5
 simp only [List.getElem?_cons_zero, List.getElem?_cons_succ] at p0 q0 p1 q1 p2 q2 p3 q3 p4 q4 p5 q5
 have HB := Lib.hid hB
 have HC := Lib.hid (eqT_any _ _ rs1 rs2 xs ys W X h1 h2 (hW.trans (hB.mono hW.size)) hN)
 clear h1 h2 hW hN hN1 hM1 hB hb1 hb2
 go_enter Tryz.func30, Tryz.ntmps30
 by_cases z0 : ¬ x0 = y0
 ·have f0 : (x0 == y0) = false := by simpa using z0
  have HN : Hid (decide (((x0, x1, x2, x3, x4, xs) : Ses) = (y0, y1, y2, y3, y4, ys)) = false) := Lib.hid (decide_eq_false (fun e => z0 (by simp only [Prod.mk.injEq] at e; exact e.1)))
  clear z0
  go_wp2_with fail
  go_ret
  exact ⟨ret_bool8 HN.out.symm, HB.out⟩
 obtain rfl := Classical.not_not.1 z0
 clear z0
 have f0 : (x0 == x0) = true := by simp
 by_cases z1 : ¬ x1 = y1
 ·have f1 : (x1 == y1) = false := by simpa using z1
  have HN : Hid (decide (((x0, x1, x2, x3, x4, xs) : Ses) = (x0, y1, y2, y3, y4, ys)) = false) := Lib.hid (decide_eq_false (fun e => z1 (by simp only [Prod.mk.injEq] at e; exact e.2.1)))
  clear z1
  go_wp2_with fail
  go_ret
  exact ⟨ret_bool8 HN.out.symm, HB.out⟩
 obtain rfl := Classical.not_not.1 z1
 clear z1
 have f1 : (x1 == x1) = true := by simp
 by_cases z2 : ¬ x2 = y2
 ·have f2 : (x2 == y2) = false := by simpa using z2
  have HN : Hid (decide (((x0, x1, x2, x3, x4, xs) : Ses) = (x0, x1, y2, y3, y4, ys)) = false) := Lib.hid (decide_eq_false (fun e => z2 (by simp only [Prod.mk.injEq] at e; exact e.2.2.1)))
  clear z2
  go_wp2_with fail
  go_ret
  exact ⟨ret_bool8 HN.out.symm, HB.out⟩
 obtain rfl := Classical.not_not.1 z2
 clear z2
 have f2 : (x2 == x2) = true := by simp
 by_cases z3 : ¬ x3 = y3
 ·have f3 : (x3.toList == y3.toList) = false := by simpa using bs_ne z3
  have HN : Hid (decide (((x0, x1, x2, x3, x4, xs) : Ses) = (x0, x1, x2, y3, y4, ys)) = false) := Lib.hid (decide_eq_false (fun e => z3 (by simp only [Prod.mk.injEq] at e; exact e.2.2.2.1)))
  clear z3
  go_wp2_with fail
  go_ret
  exact ⟨ret_bool8 HN.out.symm, HB.out⟩
 obtain rfl := Classical.not_not.1 z3
 clear z3
 have f3 : (x3.toList == x3.toList) = true := by simp
 by_cases z4 : ¬ x4 = y4
 ·have f4 : (x4 == y4) = false := by simpa using z4
  have HN : Hid (decide (((x0, x1, x2, x3, x4, xs) : Ses) = (x0, x1, x2, x3, y4, ys)) = false) := Lib.hid (decide_eq_false (fun e => z4 (by simp only [Prod.mk.injEq] at e; exact e.2.2.2.2.1)))
  clear z4
  go_wp2_with fail
  go_ret
  exact ⟨ret_bool8 HN.out.symm, HB.out⟩
 obtain rfl := Classical.not_not.1 z4
 clear z4
 have f4 : (x4 == x4) = true := by simp
 have HN : Hid (decide (((x0, x1, x2, x3, x4, xs) : Ses) = (x0, x1, x2, x3, x4, ys)) = decide (xs = ys)) := Lib.hid (by simp)
 go_wp2_with fail
 refine HC.out.mono ?_
 rintro e w1 ⟨he, hb⟩
 rw [he.out]
 have HB1 := Lib.hid (HB.out.trans (hb.mono HB.out.size))
 clear he hb
 go_wp2_with fail
 go_ret
 exact ⟨ret_bool8 HN.out.symm, HB1.out⟩
set_option maxRecDepth 100000 in
set_option maxHeartbeats 4000000 in
theorem eqZ_any (v1 v2 : Value) (rs1 rs2 : List (Cls 6)) (l1 l2 : List Ses) (W w : World) (h1 : RowIs KZ seS W v1 rs1 l1) (h2 : RowIs KZ seS W v2 rs2 l2) (hW : Below W.heap.size W w) (hN1 : l1.length ≤ 1000000) (hT1 : ∀ x ∈ l1, x.2.2.2.2.2.length ≤ 1000000) :
  Calls Tryz.prog 29 #[v1, v2, .func (.func 30) #[] #[]] w (EqP (decide (l1 = l2)) w) := by
 obtain ⟨a1, c1, rfl⟩ := h1.rd.slice
 obtain ⟨a2, c2, rfl⟩ := h2.rd.slice
 obtain ⟨N, hN⟩ : ∃ N, rs1.length = N := ⟨_, rfl⟩
 obtain ⟨M, hM⟩ : ∃ M, rs2.length = M := ⟨_, rfl⟩
 have e1 : N = l1.length := by rw [← hN]; exact h1.len
 have e2 : M = l2.length := by rw [← hM]; exact h2.len
 rw [hN] at h1 ⊢
 rw [hM] at h2 ⊢
 have H1 := Lib.hid h1
 have H2 := Lib.hid h2
 have HL1 := Lib.hid e1
 have HL2 := Lib.hid e2
 have HW := Lib.hid hW
 have HN := Lib.hid (show N ≤ 1000000 by omega)
 have HT1 := Lib.hid hT1
 clear h1 h2 hW hN hM hN1 hT1
 by_cases hlen : N = M
 ·obtain rfl := hlen
  have d1 : ((N : Int) != (N : Int)) = false := by simp
  have d0 : ((N : Int) == (N : Int)) = true := by simp
  clear e1 e2
  go_enter Tryz.func29, Tryz.ntmps29
  go_wp2_with fail
  go_loopw [17] (fun i wr => ∃ k : Nat, k ≤ N ∧ i = .int .i64 k ∧ Hid (l1.take k = l2.take k) ∧ Hid (Below w.heap.size w wr)) (fun i _ => N - (intOf i).toNat)
  case atStart => exact ⟨0, Nat.zero_le _, rfl, Lib.hid (by simp), Lib.hid (Below.refl _ _)⟩
  case round =>
   obtain ⟨k, hk, rfl, hE, hB⟩ := hrel
   by_cases hlt : k < N
   ·have g1 : (k : Int) < (N : Int) := by omega
    have g2 : decide ((k : Int) < (N : Int)) = true := decide_eq_true g1
    have g3 : decide (k < N) = true := decide_eq_true hlt
    have hWr := HW.out.trans (hB.out.mono HW.out.size)
    obtain ⟨hl1, p1, off1, cs1, ha1, hp1, hc1, hcel1⟩ := H1.out.el2 rfl hWr k hlt
    obtain ⟨hl2, p2, off2, cs2, ha2, hp2, hc2, hcel2⟩ := H2.out.el2 rfl hWr k hlt
    subst ha1 ha2
    obtain ⟨x, hx⟩ : ∃ x, l1[k] = x := ⟨_, rfl⟩
    obtain ⟨y, hy⟩ : ∃ y, l2[k] = y := ⟨_, rfl⟩
    rw [hx] at hc1
    rw [hy] at hc2
    have HX := Lib.hid hx
    have HY := Lib.hid hy
    have HK1 := Lib.hid hl1
    have HK2 := Lib.hid hl2
    obtain ⟨x0, x1, x2, x3, x4, x5⟩ := x
    obtain ⟨y0, y1, y2, y3, y4, y5⟩ := y
    obtain ⟨xv, xr, hc1, _, hxr⟩ := hc1
    obtain ⟨yv, yr, hc2, _, hyr⟩ := hc2
    replace hc1 : cs1 = [.int .i64 x0, .int .i64 x1, .int .i64 x2, .string x3, .int .i64 x4, xv] := hc1
    replace hc2 : cs2 = [.int .i64 y0, .int .i64 y1, .int .i64 y2, .string y3, .int .i64 y4, yv] := hc2
    obtain ⟨xa, xc, hxv⟩ := hxr.rd.slice
    obtain ⟨ya, yc, hyv⟩ := hyr.rd.slice
    obtain ⟨xm, hxm⟩ : ∃ q, xr.length = q := ⟨_, rfl⟩
    obtain ⟨ym, hym⟩ : ∃ q, yr.length = q := ⟨_, rfl⟩
    rw [hxm] at hxv
    rw [hym] at hyv
    subst hxv hyv
    have HXR := Lib.hid hxr
    have HYR := Lib.hid hyr
    have HXl : Hid (x5.length ≤ 1000000) := Lib.hid (by have := HT1.out _ (List.getElem_mem hl1); rw [HX.out] at this; exact this)
    clear hxm hym hxr hyr
    subst hc1 hc2
    have y10 : wr.cell? ⟨p1, off1 + k * 6, none⟩ = some (.int .i64 x0) := hcel1 0 _ rfl
    have y20 : wr.cell? ⟨p2, off2 + k * 6, none⟩ = some (.int .i64 y0) := hcel2 0 _ rfl
    have y11 : wr.cell? ⟨p1, off1 + k * 6 + 1, none⟩ = some (.int .i64 x1) := hcel1 1 _ rfl
    have y21 : wr.cell? ⟨p2, off2 + k * 6 + 1, none⟩ = some (.int .i64 y1) := hcel2 1 _ rfl
    have y12 : wr.cell? ⟨p1, off1 + k * 6 + 2, none⟩ = some (.int .i64 x2) := hcel1 2 _ rfl
    have y22 : wr.cell? ⟨p2, off2 + k * 6 + 2, none⟩ = some (.int .i64 y2) := hcel2 2 _ rfl
    have y13 : wr.cell? ⟨p1, off1 + k * 6 + 3, none⟩ = some (.string x3) := hcel1 3 _ rfl
    have y23 : wr.cell? ⟨p2, off2 + k * 6 + 3, none⟩ = some (.string y3) := hcel2 3 _ rfl
    have y14 : wr.cell? ⟨p1, off1 + k * 6 + 4, none⟩ = some (.int .i64 x4) := hcel1 4 _ rfl
    have y24 : wr.cell? ⟨p2, off2 + k * 6 + 4, none⟩ = some (.int .i64 y4) := hcel2 4 _ rfl
    have y15 : wr.cell? ⟨p1, off1 + k * 6 + 5, none⟩ = some (.slice xa xm xc) := hcel1 5 _ rfl
    have y25 : wr.cell? ⟨p2, off2 + k * 6 + 5, none⟩ = some (.slice ya ym yc) := hcel2 5 _ rfl
    have m5 := kw_wrap hlt (by have := HN.out; omega)
    have HLt := Lib.hid hlt
    obtain ⟨Y1, hY1⟩ : ∃ q, (wr.alloc (.cells #[.int .i64 0, .int .i64 0, .int .i64 0, .string ⟨#[]⟩, .int .i64 0, .slice none 0 0] 75)).setRow wr.heap.size #[.int .i64 x0, .int .i64 x1, .int .i64 x2, .string x3, .int .i64 x4, .slice xa xm xc] = q := ⟨_, rfl⟩
    obtain ⟨Y2, hY2⟩ : ∃ q, (Y1.alloc (.cells #[.int .i64 0, .int .i64 0, .int .i64 0, .string ⟨#[]⟩, .int .i64 0, .slice none 0 0] 75)).setRow Y1.heap.size #[.int .i64 y0, .int .i64 y1, .int .i64 y2, .string y3, .int .i64 y4, .slice ya ym yc] = q := ⟨_, rfl⟩
    have hb1 : Below wr.heap.size wr Y1 := by rw [← hY1]; exact below_setRow ((Below.refl _ _).alloc (Nat.le_refl _) _) (Nat.le_refl _) _
    have hb2 : Below Y1.heap.size Y1 Y2 := by rw [← hY2]; exact below_setRow ((Below.refl _ _).alloc (Nat.le_refl _) _) (Nat.le_refl _) _
    have HA1 := Lib.hid (bka_new wr 75 #[.int .i64 0, .int .i64 0, .int .i64 0, .string ⟨#[]⟩, .int .i64 0, .slice none 0 0])
    have HA2 := Lib.hid (bka_new Y1 75 #[.int .i64 0, .int .i64 0, .int .i64 0, .string ⟨#[]⟩, .int .i64 0, .slice none 0 0])
    have HI6 : Hid ((Tryz.prog.info? 75).map (·.size) = some 6) := Lib.hid (by kernel_rfl)
    have hX1 : Y1.heap[wr.heap.size]? = some (.cells #[.int .i64 x0, .int .i64 x1, .int .i64 x2, .string x3, .int .i64 x4, .slice xa xm xc] 75 (0, 0)) := by rw [← hY1]; exact heap_setRow_same _ _ #[.int .i64 0, .int .i64 0, .int .i64 0, .string ⟨#[]⟩, .int .i64 0, .slice none 0 0] #[.int .i64 x0, .int .i64 x1, .int .i64 x2, .string x3, .int .i64 x4, .slice xa xm xc] _ (bka_new wr 75 #[.int .i64 0, .int .i64 0, .int .i64 0, .string ⟨#[]⟩, .int .i64 0, .slice none 0 0])
    have hX2 : Y2.heap[Y1.heap.size]? = some (.cells #[.int .i64 y0, .int .i64 y1, .int .i64 y2, .string y3, .int .i64 y4, .slice ya ym yc] 75 (0, 0)) := by rw [← hY2]; exact heap_setRow_same _ _ #[.int .i64 0, .int .i64 0, .int .i64 0, .string ⟨#[]⟩, .int .i64 0, .slice none 0 0] #[.int .i64 y0, .int .i64 y1, .int .i64 y2, .string y3, .int .i64 y4, .slice ya ym yc] _ (bka_new Y1 75 #[.int .i64 0, .int .i64 0, .int .i64 0, .string ⟨#[]⟩, .int .i64 0, .slice none 0 0])
    have HX1 := Lib.hid ((hb2.block _ (Array.getElem?_eq_some_iff.1 hX1).1).trans hX1)
    have HX2 := Lib.hid hX2
    have hb12 : Below wr.heap.size wr Y2 := hb1.trans (hb2.mono hb1.size)
    have HBX := Lib.hid hb12
    have y20 : Y1.cell? ⟨p2, off2 + k * 6, none⟩ = _ := (hb1.cell (p := ⟨p2, off2 + k * 6, none⟩) hp2).trans y20
    have y21 : Y1.cell? ⟨p2, off2 + k * 6 + 1, none⟩ = _ := (hb1.cell (p := ⟨p2, off2 + k * 6 + 1, none⟩) hp2).trans y21
    have y22 : Y1.cell? ⟨p2, off2 + k * 6 + 2, none⟩ = _ := (hb1.cell (p := ⟨p2, off2 + k * 6 + 2, none⟩) hp2).trans y22
    have y23 : Y1.cell? ⟨p2, off2 + k * 6 + 3, none⟩ = _ := (hb1.cell (p := ⟨p2, off2 + k * 6 + 3, none⟩) hp2).trans y23
    have y24 : Y1.cell? ⟨p2, off2 + k * 6 + 4, none⟩ = _ := (hb1.cell (p := ⟨p2, off2 + k * 6 + 4, none⟩) hp2).trans y24
    have y25 : Y1.cell? ⟨p2, off2 + k * 6 + 5, none⟩ = _ := (hb1.cell (p := ⟨p2, off2 + k * 6 + 5, none⟩) hp2).trans y25
    have HC := Lib.hid (sameSes x0 x1 x2 x3 x4 x5 y0 y1 y2 y3 y4 y5 (.slice xa xm xc) (.slice ya ym yc) xr yr W Y2 HXR.out HYR.out (hWr.trans (hb12.mono hWr.size)) HXl.out)
    clear hb1 hb2 hb12 hX1 hX2 hcel1 hcel2 hx hy hk hlt hWr
    go_wp2_with (first | (refine wpList_store_row rfl 75 _ _ rfl wr.heap.size rfl #[.int .i64 x0, .int .i64 x1, .int .i64 x2, .string x3, .int .i64 x4, .slice xa xm xc] rfl #[.int .i64 0, .int .i64 0, .int .i64 0, .string ⟨#[]⟩, .int .i64 0, .slice none 0 0] 75 HA1.out HI6.out rfl (by rw [← Array.all_toList]; rfl) ?_) | (refine wpList_store_row rfl 75 _ _ rfl Y1.heap.size rfl #[.int .i64 y0, .int .i64 y1, .int .i64 y2, .string y3, .int .i64 y4, .slice ya ym yc] rfl #[.int .i64 0, .int .i64 0, .int .i64 0, .string ⟨#[]⟩, .int .i64 0, .slice none 0 0] 75 HA2.out HI6.out rfl (by rw [← Array.all_toList]; rfl) ?_) | (refine wpList_load_row rfl _ _ rfl wr.heap.size rfl 75 #[.int .i64 x0, .int .i64 x1, .int .i64 x2, .string x3, .int .i64 x4, .slice xa xm xc] (0, 0) _ HX1.out Tryz.underlying75 rfl HI6.out ?_) | (refine wpList_load_row rfl _ _ rfl Y1.heap.size rfl 75 #[.int .i64 y0, .int .i64 y1, .int .i64 y2, .string y3, .int .i64 y4, .slice ya ym yc] (0, 0) _ HX2.out Tryz.underlying75 rfl HI6.out ?_))
    refine HC.out.mono ?_
    rintro e u1 ⟨he, hb⟩
    rw [he.out]
    have HBu := Lib.hid (hB.out.trans ((HBX.out.trans (hb.mono HBX.out.size)).mono hB.out.size))
    clear he hb hY1 hY2 HC
    by_cases q : ((x0, x1, x2, x3, x4, x5) : Ses) = (y0, y1, y2, y3, y4, y5)
    ·rw [decide_eq_true q]
     have HT := Lib.hid (take_more hE.out HK1.out HK2.out (HX.out.trans (q.trans HY.out.symm)))
     clear q
     go_wp2_with fail
     go_roundw
     case rel => exact ⟨k + 1, HLt.out, (by first | rfl | (rw [m5]; rfl)), HT, HBu⟩
     case measure => (try rw [m5]); exact kw_meas HLt.out
    ·rw [decide_eq_false q]
     have HNe : Hid (decide (l1 = l2) = false) := Lib.hid (decide_eq_false (fun e => q (by subst e; exact HX.out.symm.trans HY.out)))
     clear q
     go_wp2_with fail
     go_ret
     exact ⟨ret_bool8 HNe.out.symm, HBu.out⟩
   ·have g1 : ¬ (k : Int) < (N : Int) := by omega
    have g2 : decide ((k : Int) < (N : Int)) = false := decide_eq_false g1
    have g3 : decide (k < N) = false := decide_eq_false hlt
    have HNe : Hid (decide (l1 = l2) = true) := Lib.hid (decide_eq_true (by
     have hk2 : k = N := by omega
     have h := hE.out
     rw [hk2, List.take_of_length_le (by rw [← HL1.out]; exact Nat.le_refl _), List.take_of_length_le (by rw [← HL2.out]; exact Nat.le_refl _)] at h
     exact h))
    clear hlt hk
    go_wp2_with fail
    go_ret
    exact ⟨ret_bool8 HNe.out.symm, hB.out⟩
 ·have d1 : ((N : Int) != (M : Int)) = true := by simp; omega
  have d0 : ((N : Int) == (M : Int)) = false := by simp; omega
  have HNe : Hid (decide (l1 = l2) = false) := Lib.hid (decide_eq_false (fun e => hlen (by rw [HL1.out, HL2.out, e])))
  clear hlen e1 e2
  go_enter Tryz.func29, Tryz.ntmps29
  go_wp2_with fail
  go_ret
  exact ⟨ret_bool8 HNe.out.symm, Below.refl _ _⟩
end Go.Proofs.YtnancdbkmompdaaGreat
