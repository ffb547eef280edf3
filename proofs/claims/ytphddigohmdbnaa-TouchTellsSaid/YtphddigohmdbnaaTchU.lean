/-
  The document's meet, Paths, Control, Both; the law's cells.
-/
import Derived.Test.YtphddigohmdbnaaTchS
namespace Go.Proofs.Ytphddigohmdbnaa
open Go.RowKit
set_option linter.unusedSimpArgs false
set_option linter.unusedVariables false

theorem below_dq {B : Nat} {a w : World} (h : Below B a w) (q : Nat) : Below B a (w.drewN q) := ⟨h.os, h.tape, h.output, h.size, h.block⟩
theorem rcCell {w : World} {a : Option Addr} {n c : Nat} {l : List Cl} (h : RK.Rd w (.slice a n c) l) (k : Nat) (hk : k < n) : n = l.length ∧ ∃ g off, a = some ⟨g, off, none⟩ ∧ g < w.heap.size ∧
    w.cell? ⟨g, off + k * 2, none⟩ = some (.string (l.getD k (ByteArray.empty, 0)).1) ∧ w.cell? ⟨g, off + k * 2 + 1, none⟩ = some (.int .u8 (l.getD k (ByteArray.empty, 0)).2) ∧ k < l.length := by
  have hl : l ≠ [] := by
    intro e
    obtain ⟨a', c', e', _⟩ := h
    subst e
    simp at e'
    omega
  obtain ⟨hn, g, off, rfl, hg, hc⟩ := h.at hl
  exact ⟨hn, g, off, rfl, hg, hc k hk 0 _ rfl, hc k hk 1 _ rfl, by omega⟩
/-- Two of the document's cells compared. -/
theorem eqR_run (a1 : ByteArray) (a2 : Int) (b1 : ByteArray) (b2 : Int) : (∀ w, Sem.run Try.prog (binOp .eql 52 (.agg #[.string a1, .int .u8 a2]) (.agg #[.string b1, .int .u8 b2])) w = .ok (.bool (decide (((a1, a2) : Cl) = (b1, b2)))) w) ∧
    (∀ op x y w, Sem.run Try.prog (eqGuard op 52 x y (.agg #[.string a1, .int .u8 a2]) (.agg #[.string b1, .int .u8 b2])) w = .ok () w) := by
  refine ⟨fun w => ?_, fun op x y w => run_eqGuard_agg w op 52 x y _ _ (by kernel_rfl)⟩
  have u3 := Try.underlying9
  have a3 := Try.isAgg9
  have z3 := Try.sizeOf9
  have u4 := Try.underlying5
  have a4 := Try.isAgg5
  have z4 := Try.sizeOf5
  have hS : Try.prog.underlying 52 = some (.struct (Try.prog.fieldsOf 52)) := by kernel_rfl
  have hp : Try.prog.stoodInHeld 52 = false := by kernel_rfl
  rw [run_eql_struct, show (10000 : Nat) = 9999 + 1 from rfl, run_equalIn_agg w 9999 52 _ _ hS hp]
  simp only [Program.fieldsOf, Try.underlying52]
  go_simp
  by_cases h1 : a1 = b1
  · subst h1
    by_cases h2 : a2 = b2 <;> simp [h2]
  · have h3 : a1.toList ≠ b1.toList := by
      intro e
      rw [ByteArray.toList_eq, ByteArray.toList_eq] at e
      exact h1 (ByteArray.ext (by simpa using e))
    simp [h1, h3]
/-- Have two lists one in common? -/
def meetC (a b : List Cl) : Bool := a.any fun x => b.any fun y => decide (x = y)
theorem meetC_iff (a b : List Cl) : meetC a b = true ↔ ∃ x ∈ a, x ∈ b := by unfold meetC; simp
set_option maxRecDepth 100000 in
set_option maxHeartbeats 2000000 in
theorem rmeet_any (va vb : Value) (a b : List Cl) (w : World) (ha : RK.Rd w va a) (hb : RK.Rd w vb b) (na : a.length ≤ 100) (nb : b.length ≤ 100) :
    Calls Try.prog 32 #[va, vb] w fun e w' => e = .returned (.bool (meetC a b)) ∧ Below w.heap.size w w' := by
  obtain ⟨aa, ca, e⟩ := ha.slice
  subst e
  obtain ⟨ab, cb, e⟩ := hb.slice
  subst e
  obtain ⟨N, hN⟩ : ∃ N, a.length = N := ⟨_, rfl⟩
  obtain ⟨M, hM⟩ : ∃ N, b.length = N := ⟨_, rfl⟩
  obtain ⟨R, hR⟩ : ∃ R, meetC a b = R := ⟨_, rfl⟩
  rw [hN] at ha na ⊢
  rw [hM] at hb nb ⊢
  rw [hR]
  have HN := Lib.hid hN
  have HM := Lib.hid hM
  have HR := Lib.hid hR
  have HA := Lib.hid ha
  have HB := Lib.hid hb
  clear hN hM hR ha hb
  go_enter Try.func32, Try.ntmps32
  go_wp2_with fail
  go_loopw [5] (fun i wr => ∃ k : Nat, k ≤ N ∧ i = .int .i64 k ∧ Hid (Below w.heap.size w wr) ∧ Hid (∀ i, i < k → ∀ j, j < M → a.getD i (ByteArray.empty, 0) ≠ b.getD j (ByteArray.empty, 0))) (fun i _ => N - (intOf i).toNat)
  case atStart => exact ⟨0, Nat.zero_le _, rfl, Lib.hid (Below.refl _ _), Lib.hid (fun j hj => by omega)⟩
  case round =>
    obtain ⟨k, hk, rfl, hB, hF⟩ := hrel
    by_cases hlt : k < N
    · have hlt' : (k : Int) < (N : Int) := by omega
      have hkb : (k : Int) ≤ 100 := by omega
      go_wp2_with fail
      obtain ⟨wo, hwo⟩ : ∃ wo : World, wo = wr := ⟨_, rfl⟩
      subst hwo
      go_loopw [6] (fun i wr => ∃ j : Nat, j ≤ M ∧ i = .int .i64 j ∧ Hid (Below w.heap.size w wr) ∧ Hid (∀ i, i < j → a.getD k (ByteArray.empty, 0) ≠ b.getD i (ByteArray.empty, 0))) (fun i _ => M - (intOf i).toNat)
      case atStart => exact ⟨0, Nat.zero_le _, rfl, hB, Lib.hid (fun j hj => by omega)⟩
      case round =>
        clear hB
        obtain ⟨j, hj, rfl, hB, hG⟩ := hrel
        by_cases hltj : j < M
        · have hltj' : (j : Int) < (M : Int) := by omega
          have hjb : (j : Int) ≤ 100 := by omega
          obtain ⟨e0, g2, off2, hda, hg2, q1, q2, hjl⟩ := rcCell (HA.out.below hB.out) k hlt
          obtain ⟨e1, g3, off3, hdb, hg3, p1, p2, hjm⟩ := rcCell (HB.out.below hB.out) j hltj
          obtain ⟨⟨y1, y2⟩, hX⟩ : ∃ X, a.getD k (ByteArray.empty, 0) = X := ⟨_, rfl⟩
          obtain ⟨⟨x1, x2⟩, hY⟩ : ∃ X, b.getD j (ByteArray.empty, 0) = X := ⟨_, rfl⟩
          rw [hX] at q1 q2
          rw [hY] at p1 p2
          have HX := Lib.hid hX
          have HY := Lib.hid hY
          have HJL := Lib.hid hjl
          have HJM := Lib.hid hjm
          obtain ⟨he, hgd⟩ := eqR_run y1 y2 x1 x2
          subst hda
          subst hdb
          cases hq : decide (((y1, y2) : Cl) = (x1, x2)) with
          | true =>
            rw [hq] at he
            have HE := Lib.hid (of_decide_eq_true hq)
            clear hX hY hjl hjm e0 e1 hq
            go_wp2_with fail
            go_quiet (fail)
            go_wp2
            go_ret
            refine ⟨ret_bool ?_, below_dq hB.out _⟩
            rw [← HR.out]
            symm
            rw [meetC_iff]
            refine ⟨(y1, y2), ?_, ?_⟩
            · rw [← HX.out]; simp [List.getD, HJL.out]
            · rw [HE.out, ← HY.out]; simp [List.getD, HJM.out]
          | false =>
            rw [hq] at he
            have HG2 : Hid (∀ i, i < j + 1 → a.getD k (ByteArray.empty, 0) ≠ b.getD i (ByteArray.empty, 0)) := Lib.hid (fun i hi => by
              by_cases e : i = j
              · subst e; rw [HX.out, HY.out]; exact of_decide_eq_false hq
              · exact hG.out i (by omega))
            clear hX hY hjl hjm e0 e1 hq
            go_wp2_with fail
            go_quiet (fail)
            go_wp2
            go_roundw
            case rel => exact ⟨j + 1, by omega, by go_num, Lib.hid (below_dq hB.out _), HG2⟩
            case measure => simp [intOf]; omega
        · obtain rfl : j = M := by omega
          have HF2 : Hid (∀ i, i < k + 1 → ∀ q, q < j → a.getD i (ByteArray.empty, 0) ≠ b.getD q (ByteArray.empty, 0)) := Lib.hid (fun i hi q hq => by
            by_cases e : i = k
            · subst e; exact hG.out q hq
            · exact hF.out i (by omega) q hq)
          clear hG
          go_wp2
          go_roundw
          case rel => exact ⟨k + 1, by omega, by go_num, hB, HF2⟩
          case measure => simp [intOf]; omega
    · obtain rfl : k = N := by omega
      go_wp2
      go_ret
      refine ⟨ret_bool ?_, hB.out⟩
      rw [← HR.out]
      symm
      rw [Bool.eq_false_iff, ne_eq, meetC_iff]
      rintro ⟨x, hx, hy⟩
      obtain ⟨i, hi, e⟩ := List.getElem_of_mem hx
      obtain ⟨j, hj, e2⟩ := List.getElem_of_mem hy
      exact hF.out i (by rw [← HN.out]; exact hi) j (by rw [← HM.out]; exact hj) (by simp [List.getD, hi, hj, e, e2])
theorem mtr_meet (o1 : Int) (p1 : ByteArray) (o2 : Int) (p2 : ByteArray) : (meetC (wrs o1 p1) (rds o2 p2) || (meetC (wrs o1 p1) (wrs o2 p2) || meetC (wrs o2 p2) (rds o1 p1))) = mtr o1 p1 o2 p2 := by
  unfold mtr dst
  rw [Bool.eq_iff_iff, Bool.or_eq_true, Bool.or_eq_true, Bool.or_eq_true, meetC_iff, meetC_iff, meetC_iff]
  unfold memB
  simp only [List.any_eq_true, decide_eq_true_eq, List.mem_append]
  constructor
  · rintro (⟨x, h1, h2⟩ | ⟨x, h1, h2⟩ | ⟨x, h1, h2⟩)
    · exact .inl ⟨x, .inl h2, x, h1, rfl⟩
    · exact .inl ⟨x, .inr h2, x, h1, rfl⟩
    · exact .inr ⟨x, .inl h2, x, h1, rfl⟩
  · rintro (⟨x, h | h, y, h2, rfl⟩ | ⟨x, h | h, y, h2, rfl⟩)
    · exact .inl ⟨y, h2, h⟩
    · exact .inr (.inl ⟨y, h2, h⟩)
    · exact .inr (.inr ⟨y, h2, h⟩)
    · exact .inr (.inl ⟨y, h, h2⟩)
end Go.Proofs.Ytphddigohmdbnaa
