/-
  Calls of the library on rows of numbers: Equal, Clone, BinarySearch.
-/
import Derived.Test.YtacjmcjmenbekaaInt
import Derived.Test.YtacjmcjmenbekaaCfgM
import Derived.IntWalk
import Derived.Lib.LazyBuf
namespace Go.Proofs.Ytacjmcjmenbekaa
open Go.RowKit
set_option linter.unusedSimpArgs false
set_option linter.unusedVariables false

theorem eq_of_all {xs ys : List Int} (h : xs.length = ys.length) (h2 : ∀ i, i < xs.length → xs.getD i 0 = ys.getD i 0) : xs = ys := by
  refine List.ext_getElem h fun i h1 h3 => ?_
  have := h2 i h1
  simpa [List.getD, List.getElem?_eq_getElem h1, List.getElem?_eq_getElem h3] using this
set_option maxHeartbeats 1000000 in
theorem equal_any (a1 a2 : Option Addr) (c1 c2 : Nat) (xs ys : List Int) (w : World) (h1 : IRow w a1 xs) (h2 : IRow w a2 ys) : Calls Try.prog 28 #[.slice a1 xs.length c1, .slice a2 ys.length c2] w fun e w' => e = .returned (.bool (decide (xs = ys))) ∧ Below w.heap.size w w' := by
  by_cases hlen : xs.length = ys.length
  · have hL : (xs.length : Int) = ys.length := by omega
    have d1 : ((xs.length : Int) != ys.length) = false := by simpa using hL
    have HL := Lib.hid hlen
    have l1 := h1.1
    have H1 := Lib.hid h1.2
    have H2 := Lib.hid h2.2
    clear hL hlen h1 h2
    go_enter Try.func28, Try.ntmps28
    go_wp2
    go_loopw [13] (fun i wr => ∃ k : Nat, k ≤ xs.length ∧ i = .int .i64 k ∧ Hid (∀ j, j < k → xs.getD j 0 = ys.getD j 0) ∧ Hid (Below w.heap.size w wr)) (fun i _ => xs.length - (intOf i).toNat)
    case atStart => exact ⟨0, Nat.zero_le _, rfl, Lib.hid (fun j h => by omega), Lib.hid (Below.refl _ _)⟩
    case round =>
      obtain ⟨k, hk, rfl, hE, hB⟩ := hrel
      by_cases hlt : k < xs.length
      · rcases H1.out with h0 | ⟨b, off, rfl, hb, hc⟩
        · rw [h0] at hlt; simp at hlt
        rcases H2.out with h0 | ⟨b2, off2, rfl, hb2, hc2⟩
        · rw [HL.out, h0] at hlt; simp at hlt
        have hlt2 : k < ys.length := by rw [← HL.out]; exact hlt
        have cell1 := (hB.out.cell (p := ⟨b, off + k, none⟩) hb).trans (hc k hlt)
        have cell2 := (hB.out.cell (p := ⟨b2, off2 + k, none⟩) hb2).trans (hc2 k hlt2)
        obtain ⟨y, hy⟩ : ∃ y, ys.getD k 0 = y := ⟨_, rfl⟩
        obtain ⟨x, hx⟩ : ∃ x, xs.getD k 0 = x := ⟨_, rfl⟩
        rw [hx] at cell1
        rw [hy] at cell2
        have HX := Lib.hid hx
        have HY := Lib.hid hy
        clear hx hy hc hc2
        by_cases q : x = y
        · subst q
          have d2 : (x != x) = false := by simp
          go_wp2
          go_quiet (fail)
          go_wp2
          go_roundw
          case rel => exact ⟨k + 1, by omega, by go_num, Lib.hid (fun j hj => by
            by_cases e : j = k
            · subst e; rw [HX.out, HY.out]
            · exact hE.out j (by omega)), Lib.hid (below_drewN hB.out _)⟩
          case measure => simp [intOf]; omega
        · have d2 : (x != y) = true := by simpa using q
          have HN : Hid (decide (xs = ys) = false) := by
            unfold Hid
            simp only [decide_eq_false_iff_not]
            rintro e
            subst e
            exact q (HX.out.symm.trans HY.out)
          clear q
          go_wp2
          go_quiet (fail)
          go_wp2
          go_ret
          exact ⟨ret_bool HN.out.symm, below_drewN hB.out _⟩
      · have : k = xs.length := by omega
        subst this
        have HN : Hid (decide (xs = ys) = true) := by
          unfold Hid
          simp only [decide_eq_true_eq]
          exact eq_of_all HL.out hE.out
        go_wp2
        go_ret
        exact ⟨ret_bool HN.out.symm, hB.out⟩
  · have d1 : ((xs.length : Int) != ys.length) = true := by simp; omega
    have HN : Hid (decide (xs = ys) = false) := by
      unfold Hid
      simp only [decide_eq_false_iff_not]
      rintro e
      subst e
      exact hlen rfl
    clear hlen h1 h2
    go_enter Try.func28, Try.ntmps28
    go_wp2
    go_ret
    exact ⟨ret_bool HN.out.symm, Below.refl _ _⟩
def ItPost (xs : List Int) (w : World) (e : Ending) (w' : World) : Prop := ∃ v', Hid (e = .returned v') ∧ ItF w' w.heap.size v' xs ∧ Below w.heap.size w w'
set_option maxHeartbeats 400000 in
theorem clone_any (v : Value) (xs : List Int) (w : World) (h : It w v xs) (hl : xs.length ≤ 100000) : Calls Try.prog 26 #[v] w (ItPost xs w) := by
  have H := Lib.hid h
  have knil := fun (w : World) (a : Option Addr) (l c : Nat) => run_eql_slice_nil (P := Try.prog) w 22 3 a l c Try.underlying22
  obtain ⟨a, c, rfl, h1, h2⟩ := h.row
  cases a with
  | none =>
    have hxs : xs = [] := by
      rcases h1.2 with h0 | ⟨g, off, ha, _⟩
      · exact h0
      · cases ha
    subst hxs
    obtain rfl := h2.1 rfl
    clear h h1 h2
    go_enter Try.func26, Try.ntmps26
    go_wp2
    go_ret
    exact ⟨_, rfl, ItF.nil _ _, Below.refl _ _⟩
  | some ad =>
    clear h h1 h2
    go_enter Try.func26, Try.ntmps26
    have HO : Hid (OwnI (w.alloc (.cells #[] 3)) w.heap.size (.slice (some ⟨w.heap.size, 0, none⟩) 0 0) []) := World.ownsRow_lit w #[] 0 (Nat.le_refl _) (by simp) rfl
    have HH := Lib.hid (H.out.below ((Below.refl w.heap.size w).alloc (Nat.le_refl _) (.cells #[] 3)))
    have hz : w.heap.size ≤ (w.alloc (.cells #[] 3)).heap.size := by simp
    go_wp2_with (refine wpList_appI rfl _ _ rfl w.heap.size _ [] rfl HO.out _ xs rfl HH.out (by simp; omega) hz ?_)
    intro v' w' ho hb hz2 _
    have HI := Lib.hid (ho.itF (by omega))
    have HB := Lib.hid (((Below.refl w.heap.size w).alloc (Nat.le_refl _) (.cells #[] 3)).trans hb)
    clear ho hb
    go_wp2
    go_ret
    exact ⟨_, rfl, HI.out, HB.out⟩
set_option maxHeartbeats 400000 in
theorem cless_any (x y : Int) (w : World) : Calls Try.prog 39 #[.int .i64 x, .int .i64 y] w fun e w' => e = .returned (.bool (decide (x < y))) ∧ w = w' := by
  have d1 : (x != x) = false := by simp
  go_enter Try.func39, Try.ntmps39
  go_wp2
  go_ret
  exact ⟨rfl, rfl⟩
def BsPost (k : Nat) (w : World) (e : Ending) (w' : World) : Prop := ∃ b, Hid (e = .returned (.tuple #[.int .i64 (k : Int), .bool b])) ∧ w = w'
set_option maxHeartbeats 1000000 in
theorem bs_any (x : Int) (a : Option Addr) (cap : Nat) (ns : List Int) (w : World) (hr : IRow w a ns) (hs : Rises ns) (hn : ns.length ≤ 1000) : Calls Try.prog 37 #[.slice a ns.length cap, .int .i64 x] w (BsPost (spot x ns) w) := by
  have HR := Lib.hid hr.2
  have HS := Lib.hid hs
  clear hr hs
  go_enter Try.func37, Try.ntmps37
  go_wp2
  go_loop [7, 8, 9] (fun i j h => ∃ (k l : Nat) (z : Int), k ≤ l ∧ l ≤ ns.length ∧ i = .int .i64 k ∧ j = .int .i64 l ∧ Hid (∀ t, t < k → ns.getD t 0 < x) ∧ Hid (∀ t, l ≤ t → t < ns.length → x ≤ ns.getD t 0)) (fun i j _ => (intOf j - intOf i).toNat)
  case atStart => exact ⟨0, ns.length, 0, Nat.zero_le _, Nat.le_refl _, rfl, rfl, Lib.hid (fun t h => by omega), Lib.hid (fun t h h2 => by omega)⟩
  case round =>
    obtain ⟨k, l, z, hkl, hl, rfl, rfl, hA, hB⟩ := hrel
    by_cases hlt : k < l
    · rcases HR.out with h0 | ⟨b, off, rfl, hb, hc⟩
      · rw [h0] at hl; simp at hl; omega
      obtain ⟨m, hm⟩ : ∃ m, (k + l) / 2 = m := ⟨_, rfl⟩
      have hm1 : k ≤ m := by omega
      have hm2 : m < l := by omega
      have hmi : ((k : Int) + l) / 2 = m := by omega
      have HC := Lib.hid hc
      clear hc
      have hcell := HC.out m (by omega)
      obtain ⟨y, hy⟩ : ∃ y, ns.getD m 0 = y := ⟨_, rfl⟩
      rw [hy] at hcell
      have HY := Lib.hid hy
      clear hy
      by_cases q : y < x
      · have HA2 : Hid (∀ t, t < m + 1 → ns.getD t 0 < x) := Lib.hid (fun t ht => by
          by_cases e : t = m
          · subst e; rw [HY.out]; exact q
          · exact Int.lt_of_le_of_lt (by have := rises_lt HS.out (show t < m by omega) (by omega); omega) (show ns.getD m 0 < x by rw [HY.out]; exact q))
        go_wp2_with (go_at_call 39; refine (cless_any _ _ _).mono ?_; rintro e w' ⟨rfl, rfl⟩)
        go_round
        case rel => exact ⟨m + 1, l, 0, by omega, hl, by go_num, rfl, HA2, hB⟩
        case measure => simp [intOf]; omega
      · have HB2 : Hid (∀ t, m ≤ t → t < ns.length → x ≤ ns.getD t 0) := Lib.hid (fun t ht h2 => by
          by_cases e : t = m
          · subst e; rw [HY.out]; omega
          · have := rises_lt HS.out (show m < t by omega) h2
            rw [HY.out] at this
            omega)
        go_wp2_with (go_at_call 39; refine (cless_any _ _ _).mono ?_; rintro e w' ⟨rfl, rfl⟩)
        go_round
        case rel => exact ⟨k, m, 0, by omega, by omega, rfl, rfl, hA, HB2⟩
        case measure => simp [intOf]; omega
    · obtain rfl : k = l := by omega
      have hsp := spot_of HS.out hl hA.out (fun i h1 h2 => by have := hB.out i h1 h2; omega)
      have HSP := Lib.hid hsp
      clear hsp
      by_cases t1 : k < ns.length
      · rcases HR.out with h0 | ⟨b, off, rfl, hb, hc⟩
        · rw [h0] at hl; simp at hl; rw [h0] at t1; simp at t1
        have hcell := hc k t1
        obtain ⟨y, hy⟩ : ∃ y, ns.getD k 0 = y := ⟨_, rfl⟩
        rw [hy] at hcell
        clear hy hc
        by_cases q : y = x
        · subst q
          have d1 : (y == y) = true := by simp
          go_wp2
          go_ret2
          exact ⟨_, by rw [HSP.out]; rfl, rfl⟩
        · have d1 : (y == x) = false := by simpa using q
          have d2 : (y != y) = false := by simp
          go_wp2
          go_ret2
          exact ⟨_, by rw [HSP.out]; rfl, rfl⟩
      · have d1 : decide ((k : Int) < ns.length) = false := by simp; omega
        go_wp2
        go_ret2
        exact ⟨_, by rw [HSP.out]; rfl, rfl⟩
end Go.Proofs.Ytacjmcjmenbekaa
