/-
  Graph: where one is in a list, as the laws ask it.
-/
import Derived.Test.YtlckjpjcfalfnaaGl
import Derived.BigQuiet
namespace Go.Proofs.Ytlckjpjcfalfnaa
open Go.RowKit Go.Sort
open Go.WideMaps
set_option linter.unusedSimpArgs false
set_option linter.unusedVariables false
set_option maxRecDepth 100000

theorem below_drewNB {B : Nat} {w w' : World} (h : Below B w w') (n : Nat) : Below B w (w'.drewN n) :=
  ⟨h.os, h.tape, h.output, h.size, h.block⟩
/-- The place, or less than nothing. -/
def AtP (l : List I3) (x : I3) (w : World) (e : Ending) (w' : World) : Prop := ∃ r : Int, e = .returned (.int .i64 r) ∧ (r < 0 ↔ x ∉ l) ∧ (∀ k : Nat, r = (k : Int) → l[k]? = some x ∧ x ∉ l.take k) ∧ -1 ≤ r ∧ Below w.heap.size w w'
set_option maxHeartbeats 4000000 in
theorem at_any {w : World} {v : Value} {l : List I3} (h : IK.Rd w v l) (hl : l.length ≤ 100000) (i1 i2 i3 : Int) : Calls Try.prog 26 #[v, .agg #[.int .i64 i1, .int .i64 i2, .int .i64 i3]] w (AtP l (i1, i2, i3) w) := by
  obtain ⟨a, c, e⟩ := h.slice
  obtain ⟨N, hN⟩ : ∃ q, l.length = q := ⟨_, rfl⟩
  rw [hN] at e hl
  subst e
  have HR := Lib.hid h
  have HN := Lib.hid hN
  obtain ⟨z, hz⟩ : ∃ q, w.heap.size = q := ⟨_, rfl⟩
  obtain ⟨X, hX⟩ : ∃ q, w.alloc (.cells #[.int .i64 i1, .int .i64 i2, .int .i64 i3] 25) = q := ⟨_, rfl⟩
  have HB0 : Hid (Below w.heap.size w X) := Lib.hid (by rw [← hX]; exact (Below.refl _ _).alloc (Nat.le_refl _) _)
  have HX0 : Hid (Bk X z 25 [.int .i64 i1, .int .i64 i2, .int .i64 i3]) := Lib.hid (by rw [← hX]; exact Bk.newAg hz _ [.int .i64 i1, .int .i64 i2, .int .i64 i3])
  have hN63 : N ≤ 9223372036854775807 := by omega
  clear h hN
  go_enter Try.func26, Try.ntmps26
  go_wp2_with fail
  try rw [hX]
  try rw [hz]
  have HZ := Lib.hid hz
  clear hX hz
  go_loopw [5] (fun i wr => ∃ (k : Nat), k ≤ N ∧ i = .int .i64 k ∧ Hid ((i1, i2, i3) ∉ l.take k) ∧ Hid (Below w.heap.size w wr) ∧ Hid (Bk wr z 25 [.int .i64 i1, .int .i64 i2, .int .i64 i3])) (fun i _ => N - (intOf i).toNat)
  case atStart => exact ⟨0, Nat.zero_le _, rfl, Lib.hid (by simp), HB0, HX0⟩
  case round =>
    clear HB0 HX0
    obtain ⟨k, hk, rfl, HK, HB, HX⟩ := hrel
    by_cases hkN : k < N
    · have hk1 : (k : Int) < (N : Int) := by omega
      have hk2 : decide ((k : Int) < (N : Int)) = true := decide_eq_true hk1
      have hk3 : decide (k < N) = true := decide_eq_true hkN
      have hkl : k < l.length := by rw [HN.out]; exact hkN
      obtain ⟨-, gd, od, hda, hgd, hcd⟩ := HR.out.at (by intro e; rw [e] at hkl; simp at hkl)
      subst hda
      have eK : IK.k = 3 := rfl
      have hc := hcd k hkN
      have eg : l.getD k IK.d = l[k] := by simp [List.getD, hkl]
      rw [eg, eK] at hc
      have htk : l.take (k + 1) = l.take k ++ [l[k]] := List.take_succ_eq_append_getElem hkl
      have hget : l[k]? = some l[k] := List.getElem?_eq_getElem hkl
      obtain ⟨ee, hee⟩ : ∃ x, l[k] = x := ⟨_, rfl⟩
      rw [hee] at hc htk hget
      obtain ⟨e1, e2, e3⟩ := ee
      have d0 : wr.cell? ⟨gd, od + k * 3, none⟩ = some (.int .i64 e1) := (HB.out.cell (p := ⟨gd, od + k * 3, none⟩) hgd).trans (hc 0 _ rfl)
      have d1 : wr.cell? ⟨gd, od + k * 3 + 1, none⟩ = some (.int .i64 e2) := (HB.out.cell (p := ⟨gd, od + k * 3 + 1, none⟩) hgd).trans (hc 1 _ rfl)
      have d2 : wr.cell? ⟨gd, od + k * 3 + 2, none⟩ = some (.int .i64 e3) := (HB.out.cell (p := ⟨gd, od + k * 3 + 2, none⟩) hgd).trans (hc 2 _ rfl)
      have k0 := HX.out.cell 0
      have k1 := HX.out.cell 1
      have k2 := HX.out.cell 2
      simp only [List.getElem?_cons_zero, List.getElem?_cons_succ] at k0 k1 k2
      obtain ⟨q, hq⟩ : ∃ q, decide (((e1, e2, e3) : I3) = (i1, i2, i3)) = q := ⟨_, rfl⟩
      have he : ∀ W, Sem.run Try.prog (binOp .eql 25 (.agg #[.int .i64 e1, .int .i64 e2, .int .i64 e3]) (.agg #[.int .i64 i1, .int .i64 i2, .int .i64 i3])) W = .ok (.bool q) W := fun W => by rw [← hq]; exact eqIds.1 (e1, e2, e3) (i1, i2, i3) W
      have he2 : ∀ (a b : Operand) W, Sem.run Try.prog (eqGuard .eql 25 a b (.agg #[.int .i64 e1, .int .i64 e2, .int .i64 e3]) (.agg #[.int .i64 i1, .int .i64 i2, .int .i64 i3])) W = .ok () W := fun a b W => eqIds.2 .eql a b (e1, e2, e3) (i1, i2, i3) W
      have HGet := Lib.hid hget
      have HTk := Lib.hid htk
      have HQ := Lib.hid hq
      clear hcd hc eK eg hkl hee htk hget hq hgd
      go_upto_region 4 with fail
      go_quiet (fail)
      generalize hwz : World.drewN _ _ = wz
      have HBz : Hid (Below w.heap.size w wz) := Lib.hid (by rw [← hwz]; exact below_drewNB HB.out _)
      have HXz : Hid (Bk wz z 25 [.int .i64 i1, .int .i64 i2, .int .i64 i3]) := Lib.hid (by rw [← hwz]; exact Bk.below HX.out (below_drewNB (Below.refl _ _) _))
      clear hwz d0 d1 d2 k0 k1 k2 he he2 HB HX
      cases q with
      | true =>
        go_wp2
        go_ret
        have e := of_decide_eq_true HQ.out
        refine ⟨k, rfl, ⟨fun r => by omega, fun r => absurd (by rw [← e]; exact List.mem_of_getElem? HGet.out) r⟩, fun j hj => ?_, by omega, HBz.out⟩
        obtain rfl : k = j := by omega
        exact ⟨by rw [HGet.out, e], HK.out⟩
      | false =>
        have HK2 : Hid ((i1, i2, i3) ∉ l.take (k + 1)) := Lib.hid (by
          rw [HTk.out, List.mem_append, List.mem_singleton]
          rintro (r | r)
          · exact HK.out r
          · exact of_decide_eq_false HQ.out r.symm)
        go_wp2_with fail
        go_roundw
        case rel => exact ⟨k + 1, by omega, by go_num, HK2, HBz, HXz⟩
        case measure => simp [intOf]; omega
    · obtain rfl : k = N := by omega
      have hk2 : decide ((k : Int) < (k : Int)) = false := decide_eq_false (by omega)
      have hk3 : decide (k < k) = false := decide_eq_false (by omega)
      have hni : (i1, i2, i3) ∉ l := by have q := HK.out; rwa [List.take_of_length_le (by rw [HN.out]; exact Nat.le_refl _)] at q
      have HNi := Lib.hid hni
      clear hni HK
      go_wp2
      go_ret
      exact ⟨-1, rfl, ⟨fun _ => HNi.out, fun _ => by omega⟩, (fun j hj => by omega), by omega, HB.out⟩
end Go.Proofs.Ytlckjpjcfalfnaa
