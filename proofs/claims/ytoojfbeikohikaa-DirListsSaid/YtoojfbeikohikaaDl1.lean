/-
  Whether there is more than is looked at; two rows of entries compared.
-/
import Derived.Test.YtoojfbeikohikaaCm1
import Derived.Laws.StructEq
import Derived.Deep.QuietTactic
import Derived.BigQuiet
namespace Go.Proofs.Ytoojfbeikohikaa
open Go.RowKit
set_option linter.unusedSimpArgs false
set_option linter.unusedVariables false

theorem below_drewN_q {B : Nat} {a w : World} (h : Below B a w) (n : Nat) : Below B a (w.drewN n) := h.trans ⟨rfl, rfl, rfl, Nat.le_refl _, fun _ _ => rfl⟩
def ovB (ts : List Cm) : Bool := decide (60 < ts.length) || ts.any fun t => decide (300 < t.pa.size) || decide (300 < t.va.size)
theorem ovB_far {ts : List Cm} {k : Nat} (hk : k < ts.length) (h : 300 < (ts.getD k default).pa.size ∨ 300 < (ts.getD k default).va.size) : ovB ts = true := by
  have hm : ts.getD k default ∈ ts := by rw [List.getD, List.getElem?_eq_getElem hk]; exact List.getElem_mem hk
  unfold ovB
  rw [Bool.or_eq_true, List.any_eq_true]
  exact .inr ⟨_, hm, by rw [Bool.or_eq_true, decide_eq_true_eq, decide_eq_true_eq]; exact h⟩
theorem ovB_long {ts : List Cm} (h : 60 < ts.length) : ovB ts = true := by unfold ovB; simp [h]
theorem ovB_all {ts : List Cm} (h : ts.length ≤ 60) (ha : ∀ j, j < ts.length → (ts.getD j default).pa.size ≤ 300 ∧ (ts.getD j default).va.size ≤ 300) : ovB ts = false := by
  unfold ovB
  rw [Bool.or_eq_false_iff, List.any_eq_false]
  refine ⟨by simpa using h, fun t ht => ?_⟩
  obtain ⟨j, hj, rfl⟩ := List.getElem_of_mem ht
  have := ha j hj
  rw [List.getD, List.getElem?_eq_getElem hj] at this
  simp only [Option.getD_some] at this
  simp [this]
theorem ovB_no {ts : List Cm} (h : ovB ts = false) : ts.length ≤ 60 ∧ ∀ j, j < ts.length → (ts.getD j default).pa.size ≤ 300 ∧ (ts.getD j default).va.size ≤ 300 := by
  unfold ovB at h
  rw [Bool.or_eq_false_iff, List.any_eq_false] at h
  refine ⟨by simpa using h.1, fun j hj => ?_⟩
  have hm : ts.getD j default ∈ ts := by rw [List.getD, List.getElem?_eq_getElem hj]; exact List.getElem_mem hj
  have := h.2 _ hm
  simp only [Bool.or_eq_true, decide_eq_true_eq, not_or, Nat.not_lt] at this
  exact this
set_option maxHeartbeats 2000000 in
theorem over_any (a : Option Addr) (n c : Nat) (ts : List Cm) (w : World) (hn : n = ts.length) (h : CRd w a ts) :
    Calls Try.prog 11 #[.slice a n c] w fun e w' => e = .returned (.bool (ovB ts)) ∧ w = w' := by
  obtain ⟨R, hR⟩ : ∃ R, ovB ts = R := ⟨_, rfl⟩
  rw [hR]
  have HR := Lib.hid hR
  have HN := Lib.hid hn
  have HC := Lib.hid h
  have hn1 : (n : Int) ≤ 9223372036854775807 := by have := h.1; omega
  clear hR hn h
  go_enter Try.func11, Try.ntmps11
  go_wp2_with fail
  go_loop [3] (fun i => ∃ k : Nat, k ≤ n ∧ k ≤ 61 ∧ i = .int .i64 k ∧ Hid (∀ j, j < k → (ts.getD j default).pa.size ≤ 300 ∧ (ts.getD j default).va.size ≤ 300)) (fun i => 61 - (intOf i).toNat)
  case atStart => exact ⟨0, by omega, by omega, rfl, Lib.hid (fun j hj => by omega)⟩
  case round =>
    obtain ⟨k, hk, hk2, rfl, hF⟩ := hrel
    by_cases hlt : k < n
    · have hlt' : (k : Int) < (n : Int) := by omega
      by_cases h60 : k ≤ 60
      · have h60' : (k : Int) ≤ 60 := by omega
        rcases HC.out.2 with h0 | ⟨g, off, rfl, hg, hcm⟩
        · exfalso
          have := HN.out
          rw [h0] at this
          simp at this
          omega
        have hkl : k < ts.length := by have := HN.out; omega
        have hcm1 := hcm k hkl
        obtain ⟨t, ht⟩ : ∃ t, ts.getD k default = t := ⟨_, rfl⟩
        rw [ht] at hcm1
        obtain ⟨_, _, _, m3, m4, _⟩ := hcm1
        have HFAR : Hid (300 < t.pa.size ∨ 300 < t.va.size → ovB ts = true) := Lib.hid (fun q => ovB_far hkl (by rw [ht]; exact q))
        have HT := Lib.hid ht
        clear hcm ht hg
        by_cases y1 : (300 : Int) < t.pa.size
        · have e : R = true := by rw [← HR.out]; exact HFAR.out (.inl (by omega))
          subst e
          clear hF HFAR HR
          go_wp2
          go_ret
          exact ⟨rfl, rfl⟩
        · by_cases y2 : (300 : Int) < t.va.size
          · have e : R = true := by rw [← HR.out]; exact HFAR.out (.inr (by omega))
            subst e
            clear hF HFAR HR
            go_wp2
            go_ret
            exact ⟨rfl, rfl⟩
          · have hF2 : Hid (∀ j, j < k + 1 → (ts.getD j default).pa.size ≤ 300 ∧ (ts.getD j default).va.size ≤ 300) := Lib.hid (fun j hj => by
              by_cases e : j = k
              · subst e; rw [HT.out]; omega
              · exact hF.out j (by omega))
            clear hF HFAR
            go_wp2
            go_round
            case rel => exact ⟨k + 1, by omega, by omega, by go_num, hF2⟩
            case measure => simp [intOf]; omega
      · have h60' : ¬ (k : Int) ≤ 60 := by omega
        have g1 : ((60 : Int) < (n : Int)) := by omega
        have g2 : 60 < n := by omega
        have e : R = true := by rw [← HR.out]; exact ovB_long (by have := HN.out; omega)
        subst e
        clear hF HR
        go_wp2
        go_ret
        exact ⟨ret_bool (by simp <;> omega), rfl⟩
    · have hlt' : ¬ (k : Int) < (n : Int) := by omega
      by_cases h60 : 60 < n
      · have g1 : ((60 : Int) < (n : Int)) := by omega
        have e : R = true := by rw [← HR.out]; exact ovB_long (by have := HN.out; omega)
        subst e
        clear hF HR
        go_wp2
        go_ret
        exact ⟨ret_bool (by simp <;> omega), rfl⟩
      · have g1 : ¬ ((60 : Int) < (n : Int)) := by omega
        have e : R = false := by
          rw [← HR.out]
          exact ovB_all (by have := HN.out; omega) (fun j hj => hF.out j (by have := HN.out; omega))
        subst e
        clear hF HR
        go_wp2
        go_ret
        exact ⟨ret_bool (by simp <;> omega), rfl⟩
theorem crd_one (t : Cm) (w : World) (T : TypeId) : CRd (w.alloc (.cells #[.int .i64 t.cl, .int .i64 t.sq, .int .i64 t.op, .string t.pa, .string t.va, .int .i64 t.ver, .int .i64 t.a, .int .i64 t.b] T)) (some ⟨w.heap.size, 0, none⟩) [t] := by
  refine ⟨by simp, .inr ⟨w.heap.size, 0, rfl, by simp, fun i hi => ?_⟩⟩
  obtain rfl : i = 0 := by simpa using hi
  refine ⟨?_, ?_, ?_, ?_, ?_, ?_, ?_, ?_⟩ <;> simp [new_cell]
/-- Two entries compared. -/
theorem eqE_run (a1 a2 : ByteArray) (a3 : Int) (b1 b2 : ByteArray) (b3 : Int) : (∀ w, Sem.run Try.prog (binOp .eql 43 (.agg #[.string a1, .string a2, .int .i64 a3]) (.agg #[.string b1, .string b2, .int .i64 b3])) w = .ok (.bool (decide (((a1, a2, a3) : E3) = (b1, b2, b3)))) w) ∧
    (∀ op x y w, Sem.run Try.prog (eqGuard op 43 x y (.agg #[.string a1, .string a2, .int .i64 a3]) (.agg #[.string b1, .string b2, .int .i64 b3])) w = .ok () w) := by
  refine ⟨fun w => ?_, fun op x y w => run_eqGuard_agg w op 43 x y _ _ (by kernel_rfl)⟩
  have u3 := Try.underlying9
  have a3' := Try.isAgg9
  have z3 := Try.sizeOf9
  have u4 := Try.underlying3
  have a4 := Try.isAgg3
  have z4 := Try.sizeOf3
  have hS : Try.prog.underlying 43 = some (.struct (Try.prog.fieldsOf 43)) := by kernel_rfl
  have hp : Try.prog.stoodInHeld 43 = false := by kernel_rfl
  have key : ∀ x y : ByteArray, x ≠ y → x.toList ≠ y.toList := fun x y h e => by
    rw [ByteArray.toList_eq, ByteArray.toList_eq] at e
    exact h (ByteArray.ext (by simpa using e))
  rw [run_eql_struct, show (10000 : Nat) = 9999 + 1 from rfl, run_equalIn_agg w 9999 43 _ _ hS hp]
  simp only [Program.fieldsOf, Try.underlying43]
  go_simp
  by_cases h1 : a1 = b1
  · subst h1
    by_cases h2 : a2 = b2
    · subst h2
      by_cases h3 : a3 = b3 <;> simp [h3]
    · have h3 := key _ _ h2
      simp [h2, h3]
  · have h3 := key _ _ h1
    simp [h1, h3]
theorem neE_run (a1 a2 : ByteArray) (a3 : Int) (b1 b2 : ByteArray) (b3 : Int) : (∀ w, Sem.run Try.prog (binOp .neq 43 (.agg #[.string a1, .string a2, .int .i64 a3]) (.agg #[.string b1, .string b2, .int .i64 b3])) w = .ok (.bool (!decide (((a1, a2, a3) : E3) = (b1, b2, b3)))) w) ∧
    (∀ op x y w, Sem.run Try.prog (eqGuard op 43 x y (.agg #[.string a1, .string a2, .int .i64 a3]) (.agg #[.string b1, .string b2, .int .i64 b3])) w = .ok () w) := by
  refine ⟨fun w => ?_, (eqE_run a1 a2 a3 b1 b2 b3).2⟩
  have h := (eqE_run a1 a2 a3 b1 b2 b3).1 w
  rw [run_eql_struct] at h
  rw [run_neq_struct]
  revert h
  generalize Sem.run Try.prog (Op.equalIn 10000 43 (.agg #[.string a1, .string a2, .int .i64 a3]) (.agg #[.string b1, .string b2, .int .i64 b3])) w = r
  intro h
  cases r with
  | ok v w' => simp [Result.andThen] at h ⊢; simp [h]
  | halt x w' => simp [Result.andThen] at h
set_option maxRecDepth 100000 in
set_option maxHeartbeats 1000000 in
theorem rowD_any (va vb : Value) (a b : List E3) (w : World) (ha : EK.Rd w va a) (hb : EK.Rd w vb b) (na : a.length ≤ 10000) (nb : b.length ≤ 10000) :
    Calls Try.prog 16 #[va, vb] w fun e w' => e = .returned (.bool (decide (a = b))) ∧ Below w.heap.size w w' := by
  obtain ⟨aa, ca, e⟩ := ha.slice
  subst e
  obtain ⟨ab, cb, e⟩ := hb.slice
  subst e
  obtain ⟨N, hN⟩ : ∃ N, a.length = N := ⟨_, rfl⟩
  obtain ⟨M, hM⟩ : ∃ M, b.length = M := ⟨_, rfl⟩
  obtain ⟨R, hR⟩ : ∃ R, decide (a = b) = R := ⟨_, rfl⟩
  rw [hN] at ha na ⊢
  rw [hM] at hb nb ⊢
  rw [hR]
  have HN := Lib.hid hN
  have HM := Lib.hid hM
  have HR := Lib.hid hR
  have HA := Lib.hid ha
  have HB := Lib.hid hb
  clear hN hM hR ha hb
  by_cases hne : N = M
  · subst hne
    go_enter Try.func16, Try.ntmps16
    go_wp2_with fail
    go_loopw [5] (fun i wr => ∃ k : Nat, k ≤ N ∧ i = .int .i64 k ∧ Hid (Below w.heap.size w wr) ∧ Hid (∀ j, j < k → a.getD j EK.d = b.getD j EK.d)) (fun i _ => N - (intOf i).toNat)
    case atStart => exact ⟨0, Nat.zero_le _, rfl, Lib.hid (Below.refl _ _), Lib.hid (fun j hj => by omega)⟩
    case round =>
      obtain ⟨k, hk, rfl, hBl, hF⟩ := hrel
      by_cases hlt : k < N
      · have hlt' : (k : Int) < (N : Int) := by omega
        have hkb : (k : Int) ≤ 10000 := by omega
        obtain ⟨e0, g2, off2, hda, hg2, q1, q2, q3, hjl⟩ := entCell (HA.out.below hBl.out) k hlt
        obtain ⟨e1, g3, off3, hdb, hg3, p1, p2, p3, hjm⟩ := entCell (HB.out.below hBl.out) k hlt
        obtain ⟨⟨y1, y2, y3⟩, hX⟩ : ∃ X, a.getD k EK.d = X := ⟨_, rfl⟩
        obtain ⟨⟨x1, x2, x3⟩, hY⟩ : ∃ X, b.getD k EK.d = X := ⟨_, rfl⟩
        rw [hX] at q1 q2 q3
        rw [hY] at p1 p2 p3
        have HX := Lib.hid hX
        have HY := Lib.hid hY
        have HJL := Lib.hid hjl
        have HJM := Lib.hid hjm
        obtain ⟨he, hgd⟩ := neE_run y1 y2 y3 x1 x2 x3
        subst hda
        subst hdb
        cases hb : decide (((y1, y2, y3) : E3) = (x1, x2, x3)) with
        | true =>
          rw [hb] at he
          have HF2 : Hid (∀ j, j < k + 1 → a.getD j EK.d = b.getD j EK.d) := Lib.hid (fun j hj => by
            by_cases e : j = k
            · subst e; rw [HX.out, HY.out]; exact of_decide_eq_true hb
            · exact hF.out j (by omega))
          clear hX hY hjl hjm e0 e1 hb
          go_wp2_with fail
          go_quiet (fail)
          go_wp2
          go_roundw
          case rel => exact ⟨k + 1, by omega, by go_num, Lib.hid (below_drewN_q hBl.out _), HF2⟩
          case measure => simp [intOf]; omega
        | false =>
          rw [hb] at he
          have HE := Lib.hid (of_decide_eq_false hb)
          clear hX hY hjl hjm e0 e1 hb
          go_wp2_with fail
          go_quiet (fail)
          go_wp2
          go_ret
          refine ⟨ret_bool ?_, below_drewN_q hBl.out _⟩
          rw [← HR.out]
          symm
          rw [decide_eq_false_iff_not]
          intro e
          exact HE.out (by rw [← HX.out, ← HY.out, e])
      · obtain rfl : k = N := by omega
        have hlt' : ¬ (k : Int) < (k : Int) := by omega
        go_wp2
        go_ret
        refine ⟨ret_bool ?_, hBl.out⟩
        rw [← HR.out]
        symm
        rw [decide_eq_true_iff]
        refine List.ext_getElem (by rw [HN.out, HM.out]) fun j h1 h2 => ?_
        have := hF.out j (by rw [← HN.out]; exact h1)
        simpa [List.getD, h1, h2] using this
  · have hneI : ¬ (N : Int) = (M : Int) := by omega
    go_enter Try.func16, Try.ntmps16
    go_wp2
    go_ret
    refine ⟨ret_bool ?_, Below.refl _ _⟩
    rw [← HR.out]
    first
      | (symm; rw [decide_eq_false_iff_not]; intro e; exact hne (by rw [← HN.out, ← HM.out, e]))
      | (have : decide (a = b) = false := by rw [decide_eq_false_iff_not]; intro e; exact hne (by rw [← HN.out, ← HM.out, e])
         rw [this]; simp; omega)
      | fail
end Go.Proofs.Ytoojfbeikohikaa
