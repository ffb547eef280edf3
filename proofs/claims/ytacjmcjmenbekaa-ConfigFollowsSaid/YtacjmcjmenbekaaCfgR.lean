/-
  The document's answers of layer 10: what may be, who is in it, what is the same.
-/
import Derived.Test.YtacjmcjmenbekaaCfgO
namespace Go.Proofs.Ytacjmcjmenbekaa
open Go.RowKit
set_option linter.unusedSimpArgs false
set_option linter.unusedVariables false

set_option maxHeartbeats 400000 in
theorem rhas_any (ep n : Int) (a : Option Addr) (cap : Nat) (ns : List Int) (w : World) (hr : IRow w a ns) : Calls Try.prog 16 #[cfgV ep a ns.length cap, .int .i64 n] w fun e w' => e = .returned (.bool (inB n ns)) ∧ Below w.heap.size w w' := by
  have hbel : Below w.heap.size w (w.alloc (.cells #[.int .i64 ep, .slice a ns.length cap] 24)) := (Below.refl _ _).alloc (Nat.le_refl _) _
  have HR := Lib.hid (hr.below hbel)
  have HB := Lib.hid hbel
  clear hbel hr
  go_enter Try.func16, Try.ntmps16
  go_wp2_with (go_at_call 25; refine (refIn_any _ _ ns _ _ HR.out).mono ?_; rintro e w' ⟨rfl, rfl⟩)
  go_ret
  exact ⟨rfl, HB.out⟩
/-- What is kept at each round: the box of a configuration. -/
abbrev L1 (w : World) (ep : Int) (ad : Option Addr) (n c : Nat) : List (Addr × Value) := rowL w.heap.size 0 [.int .i64 ep, .slice ad n c] []
set_option maxHeartbeats 4000000 in
theorem rvalid_any (ep : Int) (a : Option Addr) (cap : Nat) (ns : List Int) (w : World) (hr : IRow w a ns) : Calls Try.prog 13 #[cfgV ep a ns.length cap] w fun e w' => e = .returned (.bool (valB ep ns)) ∧ Below w.heap.size w w' := by
  have HS0 := Lib.hid (held_box w ep a ns.length cap)
  have hl := hr.1
  have HRW := Lib.hid hr.2
  clear hr
  go_enter Try.func13, Try.ntmps13
  go_wp2_with fail
  go_loopw [3] (fun i wr => ∃ k : Nat, k ≤ ns.length ∧ i = .int .i64 k ∧ Hid (okTo ns k) ∧ Hid (Held w (w.heap.size + 1) (L1 w ep a ns.length cap) wr)) (fun i _ => ns.length - (intOf i).toNat)
  case atStart => exact ⟨0, Nat.zero_le _, rfl, Lib.hid (okTo_zero ns), HS0⟩
  case round =>
    clear HS0
    obtain ⟨k, hk, rfl, hH, hS⟩ := hrel
    have hc := hS.out.cells
    simp only [AllC, rowL, Nat.reduceAdd] at hc
    go_split_ands
    by_cases hlt : k < ns.length
    · rcases HRW.out with h0 | ⟨b, off, rfl, hb, hcc⟩
      · rw [h0] at hlt; simp at hlt
      have hcell := (hS.out.below.cell (p := ⟨b, off + k, none⟩) hb).trans (hcc k hlt)
      obtain ⟨z, hz⟩ : ∃ z, ns.getD k 0 = z := ⟨_, rfl⟩
      rw [hz] at hcell
      have HZ := Lib.hid hz
      clear hz
      have i1 : (0 : Int) ≤ (k : Int) := by omega
      have i2 : (k : Int) < (ns.length : Int) := by omega
      by_cases q0 : z < 0
      · have HE : Hid (valB ep ns = false) := Lib.hid (valB_no1 hlt (by rw [HZ.out]; simp [isN]; omega))
        clear hcc
        go_wp2_with fail
        go_quiet (fail)
        go_wp2
        go_ret
        exact ⟨ret_bool HE.out.symm, below_drewN hS.out.below _⟩
      have d0 : decide (z < 0) = false := by simpa using q0
      by_cases q1 : 31 < z
      · have HE : Hid (valB ep ns = false) := Lib.hid (valB_no1 hlt (by rw [HZ.out]; simp [isN]; omega))
        clear hcc
        go_wp2_with fail
        go_quiet (fail)
        go_wp2
        go_ret
        exact ⟨ret_bool HE.out.symm, below_drewN hS.out.below _⟩
      have d1 : decide (31 < z) = false := by simpa using q1
      have hz3 : isN z = true := by rw [isN_iff]; omega
      have HZ3 := Lib.hid hz3
      clear hz3
      by_cases q2 : 0 < k
      · have hcell2 := (hS.out.below.cell (p := ⟨b, off + (k - 1), none⟩) hb).trans (hcc (k - 1) (by omega))
        obtain ⟨y, hy⟩ : ∃ y, ns.getD (k - 1) 0 = y := ⟨_, rfl⟩
        rw [hy] at hcell2
        have HY := Lib.hid hy
        clear hy hcc
        have t6 : (0 : Int) < k := by omega
        have t7 : (k : Int) - 1 < ns.length := by omega
        have t71 : (0 : Int) ≤ (k : Int) - 1 := by omega
        have t72 : IntKind.i64.wrap ((k : Int) - 1) = (k : Int) - 1 := IntWalk.i64_in _ (by omega)
        have t73 : ((k : Int) - 1).toNat = k - 1 := by omega
        by_cases q3 : z ≤ y
        · have HE : Hid (valB ep ns = false) := Lib.hid (valB_no2 hlt q2 (by rw [HZ.out, HY.out]; omega))
          go_wp2_with fail
          go_quiet (fail)
          go_wp2
          go_ret
          exact ⟨ret_bool HE.out.symm, below_drewN hS.out.below _⟩
        · have HE : Hid (okTo ns (k + 1)) := Lib.hid (okTo_succ hH.out (by rw [HZ.out]; exact HZ3.out) (fun _ => by rw [HZ.out, HY.out]; omega))
          go_wp2_with fail
          go_quiet (fail)
          clear t72 t73
          go_wp2
          go_roundw
          case rel => exact ⟨k + 1, by omega, by go_num, HE, Lib.hid (hS.out.kept (below_drewN (Below.refl _ _) _))⟩
          case measure => simp [intOf]; omega
      · have HE : Hid (okTo ns (k + 1)) := Lib.hid (okTo_succ hH.out (by rw [HZ.out]; exact HZ3.out) (fun h => absurd h q2))
        have t6 : decide ((0 : Int) < k) = false := by simp; omega
        clear hcc
        go_wp2_with fail
        go_quiet (fail)
        go_wp2
        go_roundw
        case rel => exact ⟨k + 1, by omega, by go_num, HE, Lib.hid (hS.out.kept (below_drewN (Below.refl _ _) _))⟩
        case measure => simp [intOf]; omega
    · obtain rfl : k = ns.length := by omega
      by_cases t1 : 0 ≤ ep
      · by_cases t2 : ep ≤ 1048576
        · by_cases t3 : (1 : Int) ≤ ns.length
          · by_cases t4 : (ns.length : Int) ≤ 7
            · have HE : Hid (valB ep ns = true) := Lib.hid (valB_ok t1 t2 (by omega) (by omega) hH.out)
              go_wp2
              go_ret
              exact ⟨ret_bool HE.out.symm, hS.out.below⟩
            · have HE : Hid (valB ep ns = false) := Lib.hid (valB_no0 (.inr (.inr (.inr (by omega)))))
              have u : decide ((ns.length : Int) ≤ 7) = false := by simpa using t4
              go_wp2
              go_ret
              exact ⟨ret_bool HE.out.symm, hS.out.below⟩
          · have HE : Hid (valB ep ns = false) := Lib.hid (valB_no0 (.inr (.inr (.inl (by omega)))))
            have u : decide ((1 : Int) ≤ (ns.length : Int)) = false := by simpa using t3
            go_wp2
            go_ret
            exact ⟨ret_bool HE.out.symm, hS.out.below⟩
        · have HE : Hid (valB ep ns = false) := Lib.hid (valB_no0 (.inr (.inl (by omega))))
          have u : decide (ep ≤ 1048576) = false := by simpa using t2
          go_wp2
          go_ret
          exact ⟨ret_bool HE.out.symm, hS.out.below⟩
      · have HE : Hid (valB ep ns = false) := Lib.hid (valB_no0 (.inl (by omega)))
        have u : decide (0 ≤ ep) = false := by simpa using t1
        go_wp2
        go_ret
        exact ⟨ret_bool HE.out.symm, hS.out.below⟩
set_option maxHeartbeats 4000000 in
theorem rsame_any (e1 e2 : Int) (a1 a2 : Option Addr) (c1 c2 : Nat) (xs ys : List Int) (w : World) (h1 : IRow w a1 xs) (h2 : IRow w a2 ys) :
    Calls Try.prog 14 #[cfgV e1 a1 xs.length c1, cfgV e2 a2 ys.length c2] w fun e w' => e = .returned (.bool (sameB e1 xs e2 ys)) ∧ Below w.heap.size w w' := by
  have HS0 := Lib.hid ((held_box w e1 a1 xs.length c1).row #[.int .i64 e2, .slice a2 ys.length c2] 24)
  have l1 := h1.1
  have l2 := h2.1
  by_cases qe : e1 = e2
  · have te : (e1 != e2) = false := by simpa using qe
    by_cases ql : xs.length = ys.length
    · have tl : ((xs.length : Int) != ys.length) = false := by simp; omega
      have HE : Hid (sameB e1 xs e2 ys = decide (xs = ys)) := Lib.hid (by simp [sameB, qe])
      have HL := Lib.hid ql
      have H1 := Lib.hid h1.2
      have H2 := Lib.hid h2.2
      clear h1 h2 qe ql
      go_enter Try.func14, Try.ntmps14
      go_wp2_with fail
      go_loopw [5] (fun i wr => ∃ k : Nat, k ≤ xs.length ∧ i = .int .i64 k ∧ Hid (∀ j, j < k → xs.getD j 0 = ys.getD j 0) ∧ Hid (Held w (w.heap.size + 1 + 1) (rowL (w.heap.size + 1) 0 [.int .i64 e2, .slice a2 ys.length c2] (L1 w e1 a1 xs.length c1)) wr)) (fun i _ => xs.length - (intOf i).toNat)
      case atStart => exact ⟨0, Nat.zero_le _, rfl, Lib.hid (fun j h => by omega), by simpa using HS0⟩
      case round =>
        clear HS0
        obtain ⟨k, hk, rfl, hE, hS⟩ := hrel
        have hc := hS.out.cells
        simp only [AllC, rowL, Nat.reduceAdd] at hc
        go_split_ands
        by_cases hlt : k < xs.length
        · rcases H1.out with h0 | ⟨b, off, rfl, hb, hc1⟩
          · rw [h0] at hlt; simp at hlt
          rcases H2.out with h0 | ⟨b2, off2, rfl, hb2, hc2⟩
          · rw [HL.out, h0] at hlt; simp at hlt
          have hlt2 : k < ys.length := by rw [← HL.out]; exact hlt
          have cell1 := (hS.out.below.cell (p := ⟨b, off + k, none⟩) hb).trans (hc1 k hlt)
          have cell2 := (hS.out.below.cell (p := ⟨b2, off2 + k, none⟩) hb2).trans (hc2 k hlt2)
          obtain ⟨y, hy⟩ : ∃ y, ys.getD k 0 = y := ⟨_, rfl⟩
          obtain ⟨x, hx⟩ : ∃ x, xs.getD k 0 = x := ⟨_, rfl⟩
          rw [hx] at cell1
          rw [hy] at cell2
          have HX := Lib.hid hx
          have HY := Lib.hid hy
          clear hx hy hc1 hc2
          have i1 : (0 : Int) ≤ (k : Int) := by omega
          have i2 : (k : Int) < (xs.length : Int) := by omega
          have i3 : (k : Int) < (ys.length : Int) := by omega
          by_cases q : x = y
          · subst q
            have d2 : (x != x) = false := by simp
            go_wp2_with fail
            go_quiet (fail)
            go_wp2
            go_roundw
            case rel => exact ⟨k + 1, by omega, by go_num, Lib.hid (fun j hj => by
              by_cases e : j = k
              · subst e; rw [HX.out, HY.out]
              · exact hE.out j (by omega)), Lib.hid (hS.out.kept (below_drewN (Below.refl _ _) _))⟩
            case measure => simp [intOf]; omega
          · have d2 : (x != y) = true := by simpa using q
            have HN : Hid (decide (xs = ys) = false) := by
              unfold Hid
              simp only [decide_eq_false_iff_not]
              rintro e
              subst e
              exact q (HX.out.symm.trans HY.out)
            clear q
            go_wp2_with fail
            go_quiet (fail)
            go_wp2
            go_ret
            exact ⟨ret_bool (by rw [HE.out, HN.out]), below_drewN hS.out.below _⟩
        · have : k = xs.length := by omega
          subst this
          have HN : Hid (decide (xs = ys) = true) := by
            unfold Hid
            simp only [decide_eq_true_eq]
            exact eq_of_all HL.out hE.out
          go_wp2
          go_ret
          exact ⟨ret_bool (by rw [HE.out, HN.out]), hS.out.below⟩
    · have tl : ((xs.length : Int) != ys.length) = true := by simp; omega
      have HE : Hid (sameB e1 xs e2 ys = false) := Lib.hid (by
        unfold sameB
        have : ¬ xs = ys := fun e => ql (by rw [e])
        simp [this])
      clear h1 h2 qe ql
      go_enter Try.func14, Try.ntmps14
      go_wp2
      go_ret
      exact ⟨ret_bool HE.out.symm, by have := HS0.out.below; simpa using this⟩
  · have te : (e1 != e2) = true := by simpa using qe
    have HE : Hid (sameB e1 xs e2 ys = false) := Lib.hid (by simp [sameB, qe])
    clear h1 h2 qe
    go_enter Try.func14, Try.ntmps14
    go_wp2
    go_ret
    exact ⟨ret_bool HE.out.symm, by have := HS0.out.below; simpa using this⟩
end Go.Proofs.Ytacjmcjmenbekaa
