/-
  Texts put together: Rda, Ids8, Rdb, Strs, Rdc, Rdd.
-/
import Derived.Test.YtnancdbkmompdaaGreatRY
import Derived.Test.YtnancdbkmompdaaGreatRQQ
import Derived.Test.YtnancdbkmompdaaGreatRQM
import Derived.Laws.StructEq
import Derived.Deep.QuietTactic
import Derived.BigQuiet
import Derived.Test.YtnancdbkmompdaaGreatRQA
import Derived.ProofKit
import Derived.OpenShut
import Derived.Lib.SmallJoins
import Derived.Deep.Slices
namespace Go.Proofs.YtnancdbkmompdaaGreat
open Go.ChangeShapes Go.WideShapes Go.ChangeAt Go.RowKit Go.Joins Go.Deep
set_option linter.unusedSimpArgs false
set_option linter.unusedVariables false
set_option maxRecDepth 100000
set_option maxHeartbeats 40000000
theorem snp_of_arg {H : Type} {enc : TypeId × Value → H} {w : World} {r : Reach} {b0 base : Nat} {spare : Nat → Bool} {held : Bool} {v : Value} {d : DataW H} {p : List MemPlace}
  (hv : Value.okWide Tryz.prog w r b0 28 v) (h : DataW.Trod enc Tryz.prog w base spare held 28 v d p) : ∃ x ca, v = .agg ca ∧ snS.is w ca.toList x := by
 obtain ⟨cs, x, rfl, hx⟩ := arg_struct Tryz.underlying28 opens_sn hv h
 exact ⟨x, cs, rfl, hx⟩
end Go.Proofs.YtnancdbkmompdaaGreat
namespace Go.Proofs.YtnancdbkmompdaaGreat
open Go.RowKit Go.Sort Go.Shelf Go.Lib
set_option linter.unusedSimpArgs false
set_option linter.unusedVariables false
set_option maxRecDepth 100000
set_option maxHeartbeats 40000000
/-- Two instances held apart. -/
theorem neI_run (a1 a2 a3 b1 b2 b3 : Int) : (∀ w, Sem.run Tryz.prog (binOp .neq 49 (.agg #[.int .i64 a1, .int .i64 a2, .int .i64 a3]) (.agg #[.int .i64 b1, .int .i64 b2, .int .i64 b3])) w = .ok (.bool (!decide (((a1, a2, a3) : I3) = (b1, b2, b3)))) w) ∧
  (∀ op x y w, Sem.run Tryz.prog (eqGuard op 49 x y (.agg #[.int .i64 a1, .int .i64 a2, .int .i64 a3]) (.agg #[.int .i64 b1, .int .i64 b2, .int .i64 b3])) w = .ok () w) := by
 refine ⟨fun w => ?_, (eqI_run a1 a2 a3 b1 b2 b3).2⟩
 have h := (eqI_run a1 a2 a3 b1 b2 b3).1 w
 rw [run_eql_struct] at h
 rw [run_neq_struct]
 revert h
 generalize Sem.run Tryz.prog (Op.equalIn 10000 49 (.agg #[.int .i64 a1, .int .i64 a2, .int .i64 a3]) (.agg #[.int .i64 b1, .int .i64 b2, .int .i64 b3])) w = r
 intro h
 cases r with
 | ok v w' => simp [Result.andThen] at h ⊢; simp [h]
 | halt x w' => simp [Result.andThen] at h
theorem row_any (va vb : Value) (a b : List I3) (w : World) (ha : IK.Rd w va a) (hb : IK.Rd w vb b) (na : a.length ≤ 1000000) (nb : b.length ≤ 1000000) :
    Calls Tryz.prog 37 #[va, vb] w fun e w' => e = .returned (.bool (decide (a = b))) ∧ Below w.heap.size w w' := by
  obtain ⟨aa, ca, e⟩ := ha.slice
  subst e
  obtain ⟨ab, cb, e⟩ := hb.slice
  subst e
  obtain ⟨N, hN⟩ : ∃ N, a.length = N := ⟨_, rfl⟩
  obtain ⟨M, hM⟩ : ∃ M, b.length = M := ⟨_, rfl⟩
  obtain ⟨R, hR⟩ : ∃ R, decide (a = b) = R := ⟨_, rfl⟩
  rw [hN] at ha na ⊢
  rw [hM] at hb nb ⊢
  rw [hR]
  have HN := Hd hN
  have HM := Hd hM
  have HR := Hd hR
  have HA := Hd ha
  have HB := Hd hb
  clear hN hM hR ha hb
  by_cases hne : N = M
  · subst hne
    go_enter Tryz.func37, Tryz.ntmps37
    go_wp2_with fail
    go_loopw [5] (fun i wr => ∃ k : Nat, k ≤ N ∧ i = .int .i64 k ∧ Hid (Below w.heap.size w wr) ∧ Hid (∀ j, j < k → a.getD j (0, 0, 0) = b.getD j (0, 0, 0))) (fun i _ => N - (intOf i).toNat)
    case atStart => exact ⟨0, Nat.zero_le _, rfl, Hd (Below.refl _ _), Hd (fun j hj => by omega)⟩
    case round =>
      obtain ⟨k, hk, rfl, hBl, hF⟩ := hrel
      by_cases hlt : k < N
      · have hlt' : (k : Int) < (N : Int) := by omega
        have hkb : (k : Int) ≤ 1000000 := by omega
        obtain ⟨e0, g2, off2, hda, hg2, q1, q2, q3, hjl⟩ := idCell (HA.out.below hBl.out) k hlt
        obtain ⟨e1, g3, off3, hdb, hg3, p1, p2, p3, hjm⟩ := idCell (HB.out.below hBl.out) k hlt
        obtain ⟨⟨y1, y2, y3⟩, hX⟩ : ∃ X, a.getD k (0, 0, 0) = X := ⟨_, rfl⟩
        obtain ⟨⟨x1, x2, x3⟩, hY⟩ : ∃ X, b.getD k (0, 0, 0) = X := ⟨_, rfl⟩
        rw [hX] at q1 q2 q3
        rw [hY] at p1 p2 p3
        have HX := Hd hX
        have HY := Hd hY
        have HJL := Hd hjl
        have HJM := Hd hjm
        obtain ⟨he, hgd⟩ := neI_run y1 y2 y3 x1 x2 x3
        subst hda
        subst hdb
        cases hb : decide (((y1, y2, y3) : I3) = (x1, x2, x3)) with
        | true =>
          rw [hb] at he
          have HF2 : Hid (∀ j, j < k + 1 → a.getD j (0, 0, 0) = b.getD j (0, 0, 0)) := Hd (fun j hj => by
            by_cases e : j = k
            · subst e; rw [HX.out, HY.out]; exact of_decide_eq_true hb
            · exact hF.out j (by omega))
          clear hX hY hjl hjm e0 e1 hb
          go_wp2_with fail
          go_quiet (fail)
          go_wp2
          go_roundw
          case rel => exact ⟨k + 1, by omega, by go_num, Hd (below_drewN_q hBl.out _), HF2⟩
          case measure => simp [intOf]; omega
        | false =>
          rw [hb] at he
          have HE := Hd (of_decide_eq_false hb)
          clear hX hY hjl hjm e0 e1 hb
          go_wp2_with fail
          go_quiet (fail)
          go_wp2
          go_ret
          refine ⟨ret_bool ?_, below_drewN_q hBl.out _⟩
          rw [← HR.out]
          symm
          rw [decide_eq_false_iff_not]
          intro e
          exact HE.out (by rw [← HX.out, ← HY.out, e])
      · obtain rfl : k = N := by omega
        go_wp2
        go_ret
        refine ⟨ret_bool ?_, hBl.out⟩
        rw [← HR.out]
        symm
        rw [decide_eq_true_iff]
        refine List.ext_getElem (by rw [HN.out, HM.out]) fun j h1 h2 => ?_
        have := hF.out j (by rw [← HN.out]; exact h1)
        simpa [List.getD, h1, h2] using this
  · have hneI : ¬ (N : Int) = (M : Int) := by omega
    go_enter Tryz.func37, Tryz.ntmps37
    go_wp2
    go_ret
    refine ⟨ret_bool ?_, Below.refl _ _⟩
    rw [← HR.out]
    first
      | (symm; rw [decide_eq_false_iff_not]; intro e; exact hne (by rw [← HN.out, ← HM.out, e]))
      | (have : decide (a = b) = false := by rw [decide_eq_false_iff_not]; intro e; exact hne (by rw [← HN.out, ← HM.out, e])
         rw [this]; simp; omega)
      | fail
end Go.Proofs.YtnancdbkmompdaaGreat
namespace Go.Proofs.YtnancdbkmompdaaGreat
open Go.RowKit Go.Sort
set_option linter.unusedSimpArgs false
set_option linter.unusedVariables false
set_option maxRecDepth 100000
set_option maxHeartbeats 40000000
theorem eqC_selfR (a b c : Int) (d e : ByteArray) (f g h : Int) : (∀ w, Sem.run Tryz.prog (binOp .eql 55 (.agg #[.int .i64 a, .int .i64 b, .int .i64 c, .string d, .string e, .int .i64 f, .int .i64 g, .int .i64 h]) (.agg #[.int .i64 a, .int .i64 b, .int .i64 c, .string d, .string e, .int .i64 f, .int .i64 g, .int .i64 h])) w = .ok (.bool true) w) ∧ (∀ w, Sem.run Tryz.prog (binOp .neq 55 (.agg #[.int .i64 a, .int .i64 b, .int .i64 c, .string d, .string e, .int .i64 f, .int .i64 g, .int .i64 h]) (.agg #[.int .i64 a, .int .i64 b, .int .i64 c, .string d, .string e, .int .i64 f, .int .i64 g, .int .i64 h])) w = .ok (.bool false) w) ∧
  (∀ op x y w, Sem.run Tryz.prog (eqGuard op 55 x y (.agg #[.int .i64 a, .int .i64 b, .int .i64 c, .string d, .string e, .int .i64 f, .int .i64 g, .int .i64 h]) (.agg #[.int .i64 a, .int .i64 b, .int .i64 c, .string d, .string e, .int .i64 f, .int .i64 g, .int .i64 h])) w = .ok () w) := by
 have hq : ∀ w, Sem.run Tryz.prog (binOp .eql 55 (.agg #[.int .i64 a, .int .i64 b, .int .i64 c, .string d, .string e, .int .i64 f, .int .i64 g, .int .i64 h]) (.agg #[.int .i64 a, .int .i64 b, .int .i64 c, .string d, .string e, .int .i64 f, .int .i64 g, .int .i64 h])) w = .ok (.bool true) w := by
  intro w
  have u3 := Tryz.underlying9
  have a3 := Tryz.isAgg9
  have z3 := Tryz.sizeOf9
  have u4 := Tryz.underlying3
  have a4 := Tryz.isAgg3
  have z4 := Tryz.sizeOf3
  have u5 := Tryz.underlying53
  have a5 := Tryz.isAgg53
  have z5 := Tryz.sizeOf53
  have hS : Tryz.prog.underlying 55 = some (.struct (Tryz.prog.fieldsOf 55)) := by kernel_rfl
  have hp : Tryz.prog.stoodInHeld 55 = false := by kernel_rfl
  rw [run_eql_struct, show (10000 : Nat) = 9999 + 1 from rfl, run_equalIn_agg w 9999 55 _ _ hS hp]
  simp only [Program.fieldsOf, Tryz.underlying55]
  go_simp
  try simp
 refine ⟨hq, fun w => ?_, fun op x y w => run_eqGuard_agg w op 55 x y _ _ (by kernel_rfl)⟩
 have h := hq w
 rw [run_eql_struct] at h
 rw [run_neq_struct]
 revert h
 generalize Sem.run Tryz.prog (Op.equalIn 10000 55 (.agg #[.int .i64 a, .int .i64 b, .int .i64 c, .string d, .string e, .int .i64 f, .int .i64 g, .int .i64 h]) (.agg #[.int .i64 a, .int .i64 b, .int .i64 c, .string d, .string e, .int .i64 f, .int .i64 g, .int .i64 h])) w = r
 intro h
 cases r with
 | ok v w' => simp [Result.andThen] at h ⊢; simp [h]
 | halt x w' => simp [Result.andThen] at h
theorem eqB_selfR (a b : Int) : (∀ w, Sem.run Tryz.prog (binOp .eql 52 (.agg #[.int .i64 a, .int .i64 b]) (.agg #[.int .i64 a, .int .i64 b])) w = .ok (.bool true) w) ∧
  (∀ op x y w, Sem.run Tryz.prog (eqGuard op 52 x y (.agg #[.int .i64 a, .int .i64 b]) (.agg #[.int .i64 a, .int .i64 b])) w = .ok () w) := by
 refine ⟨fun w => ?_, fun op x y w => run_eqGuard_agg w op 52 x y _ _ (by kernel_rfl)⟩
 have u4 := Tryz.underlying3
 have a4 := Tryz.isAgg3
 have z4 := Tryz.sizeOf3
 have hS : Tryz.prog.underlying 52 = some (.struct (Tryz.prog.fieldsOf 52)) := by kernel_rfl
 have hp : Tryz.prog.stoodInHeld 52 = false := by kernel_rfl
 rw [run_eql_struct, show (10000 : Nat) = 9999 + 1 from rfl, run_equalIn_agg w 9999 52 _ _ hS hp]
 simp only [Program.fieldsOf, Tryz.underlying52]
 go_simp
 try simp
theorem ik_of_row {w : World} {v : Value} {rs : List (Cls 3)} {l : List I3} (h : RowIs KI idS w v rs l) : IK.Rd w v l := h.typed rfl fun w cs x q => q
theorem sameR_any (y : Ins) (u u2 : Value) (w : World) (h : IK.Rd w u y.2.2.2.2.2) (k : IK.Rd w u2 y.2.2.2.2.2) (hl : y.2.2.2.2.2.length ≤ 1000000) : Calls Tryz.prog 17 #[.agg (inV y u).toArray, .agg (inV y u2).toArray] w fun e w' => e = .returned (.bool true) ∧ Below w.heap.size w w' := by
 obtain ⟨p0, ⟨p1, p2⟩, ⟨p3, p4⟩, ⟨p5, p6, p7, p8, p9, p10, p11, p12⟩, ps, pl⟩ := y
 simp only at h k hl
 obtain ⟨pa, pk, hs⟩ := h.slice
 obtain ⟨pb, pj, hs2⟩ := k.slice
 obtain ⟨P, hP⟩ : ∃ P, pl.length = P := ⟨_, rfl⟩
 rw [hP] at hs hs2
 subst hs hs2
 simp only [inV]
 obtain ⟨X, hX⟩ : ∃ X, (w.alloc (.cells #[.int .i64 p0, .int .i64 p1, .int .i64 p2, .int .i64 p3, .int .i64 p4, .int .i64 p5, .int .i64 p6, .int .i64 p7, .string p8, .string p9, .int .i64 p10, .int .i64 p11, .int .i64 p12, .int .i64 ps, .slice pa P pk] 59)).alloc (.cells #[.int .i64 p0, .int .i64 p1, .int .i64 p2, .int .i64 p3, .int .i64 p4, .int .i64 p5, .int .i64 p6, .int .i64 p7, .string p8, .string p9, .int .i64 p10, .int .i64 p11, .int .i64 p12, .int .i64 ps, .slice pb P pj] 59) = X := ⟨_, rfl⟩
 have hBX : Below w.heap.size w X := by rw [← hX]; exact ((Below.refl _ _).alloc (Nat.le_refl _) _).alloc (by simp) _
 have h1 : Bk X w.heap.size 59 [.int .i64 p0, .int .i64 p1, .int .i64 p2, .int .i64 p3, .int .i64 p4, .int .i64 p5, .int .i64 p6, .int .i64 p7, .string p8, .string p9, .int .i64 p10, .int .i64 p11, .int .i64 p12, .int .i64 ps, .slice pa P pk] := by rw [← hX]; exact (Bk.new w _ _).old _
 have h2 : Bk X (w.heap.size + 1) 59 [.int .i64 p0, .int .i64 p1, .int .i64 p2, .int .i64 p3, .int .i64 p4, .int .i64 p5, .int .i64 p6, .int .i64 p7, .string p8, .string p9, .int .i64 p10, .int .i64 p11, .int .i64 p12, .int .i64 ps, .slice pb P pj] := by rw [← hX]; have := Bk.new (w.alloc (.cells #[.int .i64 p0, .int .i64 p1, .int .i64 p2, .int .i64 p3, .int .i64 p4, .int .i64 p5, .int .i64 p6, .int .i64 p7, .string p8, .string p9, .int .i64 p10, .int .i64 p11, .int .i64 p12, .int .i64 ps, .slice pa P pk] 59)) 59 [.int .i64 p0, .int .i64 p1, .int .i64 p2, .int .i64 p3, .int .i64 p4, .int .i64 p5, .int .i64 p6, .int .i64 p7, .string p8, .string p9, .int .i64 p10, .int .i64 p11, .int .i64 p12, .int .i64 ps, .slice pb P pj]; simpa using this
 have HR := Hd (row_any _ _ pl pl X (h.below hBX) (k.below hBX) hl hl)
 rw [show decide (pl = pl) = true by simp] at HR
 have HBX := Hd hBX
 obtain ⟨ea, ga⟩ := eqB_selfR p1 p2
 obtain ⟨eb, gb⟩ := eqB_selfR p3 p4
 obtain ⟨ec, _, gc⟩ := eqC_selfR p5 p6 p7 p8 p9 p10 p11 p12
 have a0 := h1.cell 0
 have a1 := h1.cell 1
 have a2 := h1.cell 2
 have a3 := h1.cell 3
 have a4 := h1.cell 4
 have a5 := h1.cell 5
 have a6 := h1.cell 6
 have a7 := h1.cell 7
 have a8 := h1.cell 8
 have a9 := h1.cell 9
 have a10 := h1.cell 10
 have a11 := h1.cell 11
 have a12 := h1.cell 12
 have a13 := h1.cell 13
 have a14 := h1.cell 14
 have b0 := h2.cell 0
 have b1 := h2.cell 1
 have b2 := h2.cell 2
 have b3 := h2.cell 3
 have b4 := h2.cell 4
 have b5 := h2.cell 5
 have b6 := h2.cell 6
 have b7 := h2.cell 7
 have b8 := h2.cell 8
 have b9 := h2.cell 9
 have b10 := h2.cell 10
 have b11 := h2.cell 11
 have b12 := h2.cell 12
 have b13 := h2.cell 13
 have b14 := h2.cell 14
 simp only [gB] at a0 b0 a1 b1 a2 b2 a3 b3 a4 b4 a5 b5 a6 b6 a7 b7 a8 b8 a9 b9 a10 b10 a11 b11 a12 b12 a13 b13 a14 b14
 have z1 := h1.lt
 have z2 := h2.lt
 clear h k hl hP hBX h1 h2
 go_enter Tryz.func17, Tryz.ntmps17
 go_wp2_with fail
 try rw [hX]
 refine HR.out.mono ?_
 rintro e w1 ⟨rfl, hb⟩
 have HB := Hd (HBX.out.trans (hb.mono HBX.out.size))
 clear hb hX a0 b0 a1 b1 a2 b2 a3 b3 a4 b4 a5 b5 a6 b6 a7 b7 a8 b8 a9 b9 a10 b10 a11 b11 a12 b12 a13 b13 a14 b14 ea eb ec ga gb gc z1 z2
 go_wp2
 go_ret
 exact ⟨rfl, HB.out⟩
end Go.Proofs.YtnancdbkmompdaaGreat
namespace Go.Proofs.YtnancdbkmompdaaGreat
open Go.ChangeShapes Go.WideShapes Go.ChangeAt Go.RowKit Go.Joins Go.Deep
set_option linter.unusedSimpArgs false
set_option linter.unusedVariables false
set_option maxRecDepth 100000
set_option maxHeartbeats 40000000
/-- Things one by one make a list. -/
theorem list_of {α : Type} {dflt : α} {Pr : Nat → α → Prop} : ∀ n, (∀ i, i < n → ∃ t, Pr i t) → ∃ ts : List α, ts.length = n ∧ ∀ i, i < n → Pr i (ts.getD i dflt)
 | 0, _ => ⟨[], rfl, fun i h => by omega⟩
 | n + 1, h => by
  obtain ⟨ts, h1, h2⟩ := list_of (dflt := dflt) n (fun i hi => h i (by omega))
  obtain ⟨t, ht⟩ := h n (by omega)
  refine ⟨ts ++ [t], by simp [h1], fun i hi => ?_⟩
  by_cases q : i < n
  ·have := h2 i q
   simpa [List.getD, List.getElem?_append, h1, q] using this
  ·obtain rfl : i = n := by omega
   simpa [List.getD, List.getElem?_append, h1] using ht
/-- Texts that can be read from an address. -/
def SRd (w : World) (a : Option Addr) (ss : List ByteArray) : Prop :=
 ss.length ≤ 9223372036854775807 ∧ (ss = [] ∨ ∃ g off, a = some ⟨g, off, none⟩ ∧ g < w.heap.size ∧ ∀ i, i < ss.length → w.cell? ⟨g, off + i, none⟩ = some (.string (ss.getD i ByteArray.empty)))
theorem SRd.below {w w' : World} {a : Option Addr} {ss : List ByteArray} (h : SRd w a ss) (hb : Below w.heap.size w w') : SRd w' a ss := by
 obtain ⟨h1, h2⟩ := h
 refine ⟨h1, ?_⟩
 rcases h2 with h2 | ⟨b, off, ha, hbl, hc⟩
 ·exact .inl h2
 ·exact .inr ⟨b, off, ha, by have := hb.size; omega, fun i hi => by rw [hb.cell (p := ⟨b, off + i, none⟩) hbl]; exact hc i hi⟩
theorem SRd.cell {w : World} {a : Option Addr} {ss : List ByteArray} (h : SRd w a ss) (k : Nat) (hk : k < ss.length) : ∃ g off, a = some ⟨g, off, none⟩ ∧ g < w.heap.size ∧ w.cell? ⟨g, off + k, none⟩ = some (.string (ss.getD k ByteArray.empty)) := by
 rcases h.2 with h0 | ⟨g, off, ha, hg, hc⟩
 ·subst h0; simp at hk
 ·exact ⟨g, off, ha, hg, hc k hk⟩
theorem block_lt_of_cell2 {w : World} {p : Addr} {v : Value} (h : w.cell? p = some v) (hs : p.spot = none) : p.block < w.heap.size := by
 by_cases g : p.block < w.heap.size
 ·exact g
 ·exfalso
  have e : w.heap[p.block]? = none := by simp; omega
  simp [World.cell?, hs, e] at h
theorem add_at (b o j : Nat) : (⟨b, o, none⟩ : Addr).add j = ⟨b, o + j, none⟩ := by unfold Addr.add; split <;> simp_all
theorem cellsStr : Tryz.prog.cellsOf 9 = 1 := by kernel_rfl
theorem srow_of_arg {H : Type} {enc : TypeId × Value → H} {w : World} {r : Reach} {b0 base : Nat} {spare : Nat → Bool} {held : Bool} {v : Value} {d : DataW H} {p : List MemPlace}
  (hv : Value.okWide Tryz.prog w r b0 29 v) (h : DataW.Trod enc Tryz.prog w base spare held 29 v d p) : ∃ (a : Option Addr) (cap : Nat) (ss : List ByteArray), v = .slice a ss.length cap ∧ ss.length ≤ cap ∧ cap ≤ maxLen ∧ SRd w a ss ∧ (∀ s ∈ ss, s.size ≤ maxLen) := by
 obtain ⟨a0, len0, cap0, rfl⟩ := okWide_slice Tryz.underlying29 hv
 obtain ⟨fuel, hf⟩ := h
 have hf2 : DataW.trod enc Tryz.prog w base spare held fuel 29 [.slice a0 len0 cap0] = some (d, p) := by simpa [Value.cells] using hf
 rcases open_slice Tryz.underlying29 hf2 with ⟨hcs, _⟩ | ⟨x, len, cap, m, n, D, Pl, hcs, _, hl, hm, hmm, _, hi⟩
 ·simp at hcs
  obtain ⟨rfl, rfl, rfl⟩ := hcs
  exact ⟨none, 0, [], rfl, by simp, by simp, ⟨by simp, .inl rfl⟩, by simp⟩
 ·simp at hcs
  obtain ⟨rfl, rfl, rfl⟩ := hcs
  have hlm : len0 ≤ m := by rw [hmm]; split <;> omega
  have key : ∀ i, i < len0 → ∃ s : ByteArray, w.cell? (x.add i) = some (.string s) ∧ s.size ≤ maxLen := by
   intro i hil
   obtain ⟨cs', hc, ht'⟩ := hi i (by omega)
   rw [cellsStr, Nat.mul_one] at hc
   obtain ⟨_, hcl, hat⟩ := World.cells?_some hc
   match cs', hcl, hat, ht' with
   | [c], _, hat, ht' =>
    obtain ⟨q2, e2, _, w2⟩ := DataW.trod_string Tryz.underlying9 ht'
    simp at e2
    subst e2
    have := hat 0 (by decide)
    exact ⟨q2, by simpa [Addr.add] using this, w2⟩
  obtain ⟨ss, hss, hp⟩ := list_of (dflt := ByteArray.empty) len0 key
  subst hss
  refine ⟨some x, cap0, ss, rfl, hl, hm, ⟨by unfold maxLen at hm; omega, ?_⟩, ?_⟩
  ·by_cases h0 : ss.length = 0
   ·exact .inl (List.eq_nil_of_length_eq_zero h0)
   ·right
    have hc0 := (hp 0 (by omega)).1
    obtain ⟨b, off, spot⟩ := x
    have hspot : spot = none := by simpa [Addr.add] using World.cell?_spot hc0
    subst hspot
    refine ⟨b, off, rfl, ?_, fun i hil => ?_⟩
    ·exact block_lt_of_cell2 hc0 (by simp [Addr.add])
    ·have p0 := (hp i hil).1
     rw [add_at] at p0; exact p0
  ·intro s q
   obtain ⟨i, hi1, hi2⟩ := List.getElem_of_mem q
   have := (hp i hi1).2
   rw [show ss.getD i ByteArray.empty = s from by simp [List.getD, hi1, hi2]] at this
   exact this
end Go.Proofs.YtnancdbkmompdaaGreat
namespace Go.Proofs.YtnancdbkmompdaaGreat
open Go.RowKit
set_option linter.unusedSimpArgs false
set_option linter.unusedVariables false
set_option maxRecDepth 100000
set_option maxHeartbeats 40000000
/-- An own row of values, each a cell. -/
def Own1 (w : World) (base e : Nat) (v : Value) (vs : List Value) : Prop := w.ownsRow base e 1 v vs.length vs
theorem own1_from {w : World} {base e : Nat} {v : Value} {vs : List Value} (h : Own1 w base e v vs) : ∀ k, v.ownBlock = some k → base ≤ k := by
 intro k hk
 rcases h.2 with ⟨rfl, _⟩ | ⟨g, cap, cur, rfl, hg, _⟩
 ·cases hk
 ·simp [Value.ownBlock] at hk; omega
theorem Own1.nil (w : World) (base e : Nat) : Own1 w base e (.slice none 0 0) [] := ⟨rfl, .inl ⟨rfl, rfl⟩⟩
theorem Own1.slice {w : World} {base e : Nat} {v : Value} {vs : List Value} (h : Own1 w base e v vs) : ∃ a c, v = .slice a vs.length c := by
 rcases h.2 with ⟨rfl, h0⟩ | ⟨g, cap, cur, rfl, _⟩
 ·exact ⟨_, _, by rw [h0]⟩
 ·exact ⟨_, _, rfl⟩
theorem Own1.below {w w' : World} {base e : Nat} {v : Value} {vs : List Value} (h : Own1 w base e v vs) (hb : Below w.heap.size w w') : Own1 w' base e v vs := by
 obtain ⟨h1, h2⟩ := h
 refine ⟨h1, ?_⟩
 rcases h2 with h2 | ⟨g, cap, cur, hv, hg, hh, hr⟩
 ·exact .inl h2
 ·exact .inr ⟨g, cap, cur, hv, hg, (hb.block g (Array.getElem?_eq_some_iff.1 hh).1).trans hh, hr⟩
theorem Own1.cell {w : World} {base e : Nat} {v : Value} {vs : List Value} (h : Own1 w base e v vs) (k : Nat) (hk : k < vs.length) : ∃ g c, v = .slice (some ⟨g, 0, none⟩) vs.length c ∧ g < w.heap.size ∧ w.cell? ⟨g, k, none⟩ = some (vs.getD k undef) := by
 rcases h.2 with ⟨rfl, h0⟩ | ⟨g, cap, cur, rfl, hg, hh, hn, hm, hs, hx⟩
 ·omega
 ·refine ⟨g, cap, rfl, (Array.getElem?_eq_some_iff.1 hh).1, ?_⟩
  have e1 : cur[k]? = some (vs.getD k undef) := by
   have h1 : (cur.toList.take (vs.length * 1))[k]? = vs[k]? := by rw [hx]
   rw [List.getElem?_take, if_pos (by omega)] at h1
   rw [← Array.getElem?_toList, h1]
   simp [List.getD, hk]
  simp [World.cell?, hh, e1]
section
variable {ops : Array Oper} {rest : List Oper} {o : Oper} {a : Act} {w : World} {Q : Exit → Act → World → Prop}
/-- 'append(s, x)', s a row of one's own, x one value that is a cell. -/
theorem wpList_app1 (hgd : o.guard = none) (s x : Operand) (t e : TypeId) (z : Value) (bytes : Nat) (ho : o.op = .call { callee := .builtin .append, args := #[s, x], argTypes := #[t, t] })
  (ht : Tryz.prog.underlying t = some (.slice e)) (hinfo : (Tryz.prog.info? e).map (fun i => (i.zero, i.size, i.bytes)) = some (some z, 1, bytes)) (hzs : z.cells.size = 1) (hby : bytes ≤ 100)
  (base : Nat) (v : Value) (vs : List Value) (hs : a.eval s = v) (hown : Own1 w base e v vs) (g : Nat) (u : Value) (hx : a.eval x = .slice (some ⟨g, 0, none⟩) 1 1) (hu : w.cell? ⟨g, 0, none⟩ = some u) (h1 : u.oneCell' = true)
  (hl : vs.length ≤ 1000000000) (hbase : base ≤ w.heap.size)
  (h : ∀ v' w', Own1 w' base e v' (vs ++ [u]) → Below base w w' → w.heap.size ≤ w'.heap.size → w.grownBy w' v.ownBlock → wpList Tryz.prog ops Q rest (a.put o.dst v') w') : wpList Tryz.prog ops Q (o :: rest) a w := by
 obtain ⟨i0, hi, hz0, hz1, hz2⟩ := info_parts hinfo
 refine wpList_append_own _ hgd s x t ho base e i0 z 1 bytes ht hi hz0 hz1 hz2 hzs (by decide) v vs.length vs hs hown ⟨g, 0, none⟩ 1 1 [u] hx rfl ?_ (by intro q hq; simp at hq; subst hq; exact h1) (by unfold maxLen; omega) (Nat.le_trans (Nat.mul_le_mul (show vs.length + 1 ≤ 1000000001 by omega) hby) (by decide)) hbase ?_
 ·intro j q hj
  match j, hj with
  | 0, hj => simp at hj; subst hj; simpa [Addr.add] using hu
 ·intro v' w' q1 q2 _
  refine h v' w' ?_ ((Below.refl base w).grown q2 hbase (own1_from hown)) q2.size q2
  unfold Own1
  rw [List.length_append]
  exact q1
end
theorem infoRow : (Tryz.prog.info? 33).map (fun i => (i.zero, i.size, i.bytes)) = some (some (.slice none 0 0), 1, 24) := by kernel_rfl
/-- A row of bytes that begins its block. -/
def BtU (w : World) (v : Value) (xs : List Int) : Prop := Bt w v xs ∧ ∃ g n c cs fr, v = .slice (some ⟨g, 0, none⟩) n c ∧ w.heap[g]? = some (Obj.cells cs 5 fr)
theorem BtU.keep {W W' : World} {v : Value} {xs : List Int} (h : BtU W v xs) (hk : ∀ (k : Nat) (cs : Array Value) (fr : Nat × Nat), W.heap[k]? = some (Obj.cells cs 5 fr) → W'.heap[k]? = W.heap[k]?) : BtU W' v xs := by
 obtain ⟨h1, g, n, c, cs, fr, rfl, hh⟩ := h
 have e := hk _ _ _ hh
 refine ⟨?_, g, n, c, cs, fr, rfl, e.trans hh⟩
 obtain ⟨a, cap, q, q1, q2⟩ := h1.row
 simp only [Value.slice.injEq] at q
 obtain ⟨rfl, rfl, rfl⟩ := q
 refine ⟨_, _, rfl, ⟨q1.1, ?_⟩, q2⟩
 rcases q1.2 with h0 | ⟨b, off, ha, hb, hc⟩
 ·exact .inl h0
 ·simp only [Option.some.injEq, Addr.mk.injEq] at ha
  obtain ⟨rfl, rfl, _⟩ := ha
  have hgl : g < W'.heap.size := (Array.getElem?_eq_some_iff.1 (e.trans hh)).1
  exact .inr ⟨g, 0, rfl, hgl, fun i hi => (World.cell?_of_block (w := W) e).trans (hc i hi)⟩
section
variable {ops : Array Oper} {rest : List Oper} {o : Oper} {a : Act} {w : World} {Q : Exit → Act → World → Prop}
theorem wpList_bytesU (hw : Region.wanted o (yielded ops a.tmps) = true) (x : Operand)
  (ho : o.op = .convert 9 33 x) (s : ByteArray) (hx : a.eval x = .string s) (hl : s.size ≤ 9223372036854775807)
  (h : ∀ v' w', BtU w' v' (byt s) → w.heap.size + 1 = w'.heap.size → Below w.heap.size w w' → wpList Tryz.prog ops Q rest (a.put o.dst v') w') : wpList Tryz.prog ops Q (o :: rest) a w := by
 obtain ⟨v', w', hr, h1, h2, h3⟩ := bt_bytes (P := Tryz.prog) w 9 33 5 s hl Tryz.underlying9 Tryz.underlying33 Tryz.underlying5
 have hr0 := run_bytes_of_string (P := Tryz.prog) w 9 33 5 s Tryz.underlying9 Tryz.underlying33 Tryz.underlying5
 have hu : BtU w' v' (byt s) := by
  refine ⟨h1, ?_⟩
  rw [hr] at hr0
  simp only [Result.ok.injEq] at hr0
  obtain ⟨e1, e2⟩ := hr0
  subst e1 e2
  exact ⟨_, _, _, _, _, rfl, heap_alloc_new w.drew _⟩
 refine wpList_step fun K hK => ?_
 rw [if_pos hw]
 unfold Oper.wp execOp
 simp only [ho, hx, hr, Sem.run_bind, Sem.run_pure, Result.andThen_ok]
 exact hK _ _ (h v' w' hu h2 h3)
end
theorem own1_blk {w : World} {base e : Nat} {v : Value} {vs : List Value} (h : Own1 w base e v vs) : ∀ k, v.ownBlock = some k → ∃ cs fr, w.heap[k]? = some (.cells cs e fr) := by
 intro k hk
 rcases h.2 with ⟨rfl, _⟩ | ⟨g, cap, cur, rfl, _, hh, _⟩
 ·cases hk
 ·simp [Value.ownBlock] at hk
  subst hk
  exact ⟨_, _, hh⟩
/-- Some texts' bytes lie in a row of one's own. -/
structure AlI (B : Nat) (w : World) (lv : Value) (ts : List ByteArray) : Prop where
 it : ∃ vs : List Value, Own1 w B 33 lv vs ∧ vs.length = ts.length ∧ ∀ j, j < ts.length → BtU w (vs.getD j undef) (byt (ts.getD j ByteArray.empty))
theorem AlI.nil (B : Nat) (w : World) : AlI B w (.slice none 0 0) [] := ⟨[], Own1.nil _ _ _, rfl, fun j h => by simp at h⟩
theorem AlI.slice {B : Nat} {w : World} {lv : Value} {ts : List ByteArray} (h : AlI B w lv ts) : ∃ a c, lv = .slice a ts.length c := by
 obtain ⟨vs, h1, h2, _⟩ := h.it
 obtain ⟨a, c, e⟩ := h1.slice
 exact ⟨a, c, by rw [← h2]; exact e⟩
theorem AlI.bod {B : Nat} {w : World} {lv : Value} {ts : List ByteArray} (h : AlI B w lv ts) : BodR w lv (ts.map byt) := by
 obtain ⟨vs, h1, h2, h3⟩ := h.it
 refine ⟨?_, fun k hk => ?_⟩
 ·obtain ⟨a, c, e⟩ := h1.slice
  exact ⟨a, c, by rw [List.length_map, ← h2]; exact e⟩
 ·rw [List.length_map] at hk
  obtain ⟨g, c, e, hg, hc⟩ := h1.cell k (by omega)
  refine ⟨g, 0, c, _, by rw [List.length_map, ← h2]; exact e, hg, by rw [Nat.zero_add]; exact hc, ?_⟩
  have h4 := (h3 k hk).1
  rw [show (ts.map byt).getD k [] = byt (ts.getD k ByteArray.empty) from by simp [List.getD, hk]]
  exact h4
/-- One text more. -/
theorem AlI.snoc {B : Nat} {w w1 w2 : World} {lv v2 u : Value} {vs : List Value} {ts : List ByteArray} {s : ByteArray} (h1 : Own1 w B 33 lv vs) (h2 : vs.length = ts.length) (h3 : ∀ j, j < ts.length → BtU w (vs.getD j undef) (byt (ts.getD j ByteArray.empty))) (hu : BtU w u (byt s))
  (hs : ∀ (k : Nat) (cs : Array Value) (T : TypeId) (fr : Nat × Nat), w.heap[k]? = some (Obj.cells cs T fr) → w1.heap[k]? = w.heap[k]?) (hsz : w.heap.size ≤ w1.heap.size) (ho : Own1 w2 B 33 v2 (vs ++ [u])) (hg : w1.grownBy w2 lv.ownBlock) : AlI B w2 v2 (ts ++ [s]) := by
 have hk : ∀ (q : Nat) (cs : Array Value) (fr : Nat × Nat), w.heap[q]? = some (Obj.cells cs 5 fr) → w2.heap[q]? = w.heap[q]? := by
  intro q cs fr hq
  have hql := (Array.getElem?_eq_some_iff.1 hq).1
  refine (hg.block q (by omega) ?_).trans (hs q cs _ fr hq)
  intro e
  obtain ⟨cs2, fr2, hh⟩ := own1_blk h1 q e.symm
  rw [hh] at hq
  cases hq
 refine ⟨vs ++ [u], ho, by simp [h2], fun j hj => ?_⟩
 by_cases q : j = ts.length
 ·subst q
  have e1 : (vs ++ [u]).getD ts.length undef = u := by simp [List.getD, ← h2]
  have e2 : (ts ++ [s]).getD ts.length ByteArray.empty = s := by simp [List.getD]
  rw [e1, e2]
  exact hu.keep hk
 ·have hj2 : j < ts.length := by simp at hj; omega
  have e1 : (vs ++ [u]).getD j undef = vs.getD j undef := by
   simp only [List.getD]
   rw [List.getElem?_append_left (by omega)]
  have e2 : (ts ++ [s]).getD j ByteArray.empty = ts.getD j ByteArray.empty := by
   simp only [List.getD]
   rw [List.getElem?_append_left hj2]
  rw [e1, e2]
  exact (h3 j hj2).keep hk
end Go.Proofs.YtnancdbkmompdaaGreat
namespace Go.Proofs.YtnancdbkmompdaaGreat
open Go.RowKit Go.Sort
open Go.WideMaps
set_option linter.unusedSimpArgs false
set_option linter.unusedVariables false
set_option maxRecDepth 100000
set_option maxHeartbeats 40000000
theorem rplR_app (x : Snp) (a b : List (List Int)) : rplR x (a ++ b) = b.foldl stpR (rplR x a) := by unfold rplR; rw [List.foldl_append]
theorem rplR_snoc (x : Snp) (a : List (List Int)) (b : List Int) : rplR x (a ++ [b]) = stpR (rplR x a) b := by rw [rplR_app]; rfl
theorem rplR_bnd {x : Snp} (h : Sn6 x) (ts : List (List Int)) (hb : ∀ b ∈ ts, BytL b) : KnB ts.length (rplR x ts) := by
 have key : ∀ (l : List (List Int)) (n : Nat) (y : Knw), KnB n y → (∀ b ∈ l, BytL b) → KnB (n + l.length) (l.foldl stpR y) := by
  intro l
  induction l with
  | nil => intro n y h _; exact h
  | cons b r ih =>
   intro n y h hb
   have := ih (n + 1) (stpR y b) (h.step b (hb b (List.mem_cons_self))) (fun c hc => hb c (List.mem_cons_of_mem _ hc))
   rw [List.foldl_cons, List.length_cons]
   rw [show n + (r.length + 1) = n + 1 + r.length by omega]
   exact this
 have := key ts 0 (x, [], []) (KnB.start h) hb
 rw [Nat.zero_add] at this
 exact this
/-- A state in a box. -/
structure PaI (n : Nat) (y : Knw) (w : World) : Prop where
 it : ∃ (cs : Array Value) (b : Nat), w.heap[n]? = some (.cells cs 37 (0, 0)) ∧ StIs w cs b y.1 y.2.1 y.2.2
theorem below_put {B n : Nat} {w0 w w' : World} {cs : Array Value} (h : Below B w0 w) (hn : B ≤ n) (hq : w.setRow n cs = w') : Below B w0 w' := by
 subst hq
 exact below_setRow h hn cs
theorem z15_is (w : World) : (zeroValue 59).run Tryz.prog w = .ok (.agg #[.int .i64 0, .int .i64 0, .int .i64 0, .int .i64 0, .int .i64 0, .int .i64 0, .int .i64 0, .int .i64 0, .string ⟨#[]⟩, .string ⟨#[]⟩, .int .i64 0, .int .i64 0, .int .i64 0, .int .i64 0, .slice none 0 0]) w := by kernel_rfl
theorem wpList_store_rnA {ops : Array Oper} {rest : List Oper} {o : Oper} {a : Act} {w w2 : World} {Q : Exit → Act → World → Prop} (hw : Region.wanted o (yielded ops a.tmps) = true) (ty : TypeId) (x y : Operand) (ho : o.op = .store ty x y)
  (g : Nat) (hx : a.eval x = .pointer (some ⟨g, 0, none⟩)) (cells : Array Value) (hy : a.eval y = .agg cells)
  (old : Array Value) (t : TypeId) (hg : w.heap[g]? = some (.cells old t (0, 0))) (hi : (Tryz.prog.info? ty).map (·.size) = some cells.size)
  (hold : old.size = cells.size) (h1 : cells.all (·.oneCell') = true) (hv : w.setRow g cells = w2)
  (h : wpList Tryz.prog ops Q rest (a.put o.dst undef) w2) : wpList Tryz.prog ops Q (o :: rest) a w :=
 wpList_store_row hw ty x y ho g hx cells hy old t hg hi hold h1 (by rw [hv]; exact h)
theorem take_lookup {P : Program} {ρ : Operand → Value} {o : Oper} {w : World} (t : TypeId) (m x : Operand) (ho : o.op = .lookup t m x false) (vm vx : Value) (hm : ρ m = vm) (hx : ρ x = vx) (v : Value) (hrun : (Instr.lookup t vm vx false).run P w = .ok v w) : (execOp ρ o).run P w = .ok (.value v) w := by
 simp [execOp, ho, hm, hx, hrun, Result.andThen]
end Go.Proofs.YtnancdbkmompdaaGreat
