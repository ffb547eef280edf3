/-
  The walk of BallotCommon: of two lists that each hold more than half of a configuration one member is in both.
-/
import Derived.Test.YtckjlglinmmohacBal5
namespace Go.Proofs.Ytckjlglinmmohac
open Go.RowKit
set_option linter.unusedSimpArgs false
set_option linter.unusedVariables false

/-- Is one of the list in both? -/
def bothB (xs ys l : List Int) : Bool := l.any fun x => inB x xs && inB x ys
theorem bothB_snoc (xs ys ns : List Int) (k : Nat) (h : k < ns.length) : bothB xs ys (ns.take (k + 1)) = (bothB xs ys (ns.take k) || (inB ns[k] xs && inB ns[k] ys)) := by
  rw [List.take_succ_eq_append_getElem h]; unfold bothB; simp only [List.any_append, List.any_cons, List.any_nil, Bool.or_false]
theorem both_count (xs ys : List Int) : ∀ ns : List Int, bothB xs ys ns = false → thN xs ns + thN ys ns ≤ ns.length
  | [], _ => by simp [thN]
  | n :: ns, h => by
    have h' : (inB n xs && inB n ys) = false ∧ bothB xs ys ns = false := by simpa [bothB] using h
    have r := both_count xs ys ns h'.2
    have e : ∀ who : List Int, thN who (n :: ns) = thN who ns + if inB n who = true then 1 else 0 := by
      intro who; unfold thN; by_cases g : inB n who = true <;> simp [List.filter_cons, g]
    rw [e xs, e ys]
    have := h'.1
    by_cases gx : inB n xs = true <;> by_cases gy : inB n ys = true <;> simp [gx, gy] at this ⊢ <;> omega
theorem no_both {xs ys ns : List Int} (h0 : 1 ≤ ns.length) (hx : quoN ns.length ≤ thN xs ns) (hy : quoN ns.length ≤ thN ys ns) (h : bothB xs ys ns = false) : False := by
  have := both_count xs ys ns h
  unfold quoN at hx hy
  have g : ¬ ((ns.length : Int) < 1) := by omega
  rw [if_neg g] at hx hy
  omega

abbrev cfg (ep : Int) (a : Option Addr) (n cap : Nat) : Value := .agg #[.int .i64 ep, .slice a n cap]

set_option maxHeartbeats 1000000 in
theorem common_far0 (ep : Int) (a ax ay : Option Addr) (cap capx capy : Nat) (ns xs ys : List Int) (w : World)  (h0 : ((ns.length : Int) < 1)) (hn : ns.length ≤ 9223372036854775807) (hx : xs.length ≤ 9223372036854775807) (hy : ys.length ≤ 9223372036854775807) :
    Calls Try.prog 3 #[cfg ep a ns.length cap, .slice ax xs.length capx, .slice ay ys.length capy] w fun e w' => e = .returned (.bool true) ∧ Below w.heap.size w w' := by
  have hs : Held w (w.heap.size + 1) [(⟨w.heap.size, 0, none⟩, .int .i64 ep), (⟨w.heap.size, 1, none⟩, .slice a ns.length cap)] (w.alloc (Obj.cells #[.int .i64 ep, .slice a ns.length cap] 24)) := by
    refine ⟨by simp, ?_, by simp, (Below.refl _ _).alloc (Nat.le_refl _) _, by omega⟩
    simp [AllC, go_sem]
  have HS0 := Lib.hid hs
  clear hs
  go_enter Try.func3, Try.ntmps3
  go_wp2_with (go_at_call 13; refine (works_any _).mono ?_; rintro e w1 ⟨rfl, hb⟩; have hn := HS0.out.kept hb; clear hb; have HS := Lib.hid hn; have hc := hn.cells; dsimp only [AllC] at hc; clear hn; go_split_ands)
  go_ret
  exact ⟨rfl, HS.out.below⟩
set_option maxHeartbeats 1000000 in
theorem common_far1 (ep : Int) (a ax ay : Option Addr) (cap capx capy : Nat) (ns xs ys : List Int) (w : World) (h0 : ¬ ((ns.length : Int) < 1)) (h1 : ((60 : Int) < (ns.length : Int))) (hn : ns.length ≤ 9223372036854775807) (hx : xs.length ≤ 9223372036854775807) (hy : ys.length ≤ 9223372036854775807) :
    Calls Try.prog 3 #[cfg ep a ns.length cap, .slice ax xs.length capx, .slice ay ys.length capy] w fun e w' => e = .returned (.bool true) ∧ Below w.heap.size w w' := by
  have hs : Held w (w.heap.size + 1) [(⟨w.heap.size, 0, none⟩, .int .i64 ep), (⟨w.heap.size, 1, none⟩, .slice a ns.length cap)] (w.alloc (Obj.cells #[.int .i64 ep, .slice a ns.length cap] 24)) := by
    refine ⟨by simp, ?_, by simp, (Below.refl _ _).alloc (Nat.le_refl _) _, by omega⟩
    simp [AllC, go_sem]
  have HS0 := Lib.hid hs
  clear hs
  go_enter Try.func3, Try.ntmps3
  go_wp2_with (go_at_call 13; refine (works_any _).mono ?_; rintro e w1 ⟨rfl, hb⟩; have hn := HS0.out.kept hb; clear hb; have HS := Lib.hid hn; have hc := hn.cells; dsimp only [AllC] at hc; clear hn; go_split_ands)
  go_ret
  exact ⟨rfl, HS.out.below⟩
set_option maxHeartbeats 1000000 in
theorem common_far2 (ep : Int) (a ax ay : Option Addr) (cap capx capy : Nat) (ns xs ys : List Int) (w : World) (h0 : ¬ ((ns.length : Int) < 1)) (h1 : ¬ ((60 : Int) < (ns.length : Int))) (h2 : ((60 : Int) < (xs.length : Int))) (hn : ns.length ≤ 9223372036854775807) (hx : xs.length ≤ 9223372036854775807) (hy : ys.length ≤ 9223372036854775807) :
    Calls Try.prog 3 #[cfg ep a ns.length cap, .slice ax xs.length capx, .slice ay ys.length capy] w fun e w' => e = .returned (.bool true) ∧ Below w.heap.size w w' := by
  have hs : Held w (w.heap.size + 1) [(⟨w.heap.size, 0, none⟩, .int .i64 ep), (⟨w.heap.size, 1, none⟩, .slice a ns.length cap)] (w.alloc (Obj.cells #[.int .i64 ep, .slice a ns.length cap] 24)) := by
    refine ⟨by simp, ?_, by simp, (Below.refl _ _).alloc (Nat.le_refl _) _, by omega⟩
    simp [AllC, go_sem]
  have HS0 := Lib.hid hs
  clear hs
  go_enter Try.func3, Try.ntmps3
  go_wp2_with (go_at_call 13; refine (works_any _).mono ?_; rintro e w1 ⟨rfl, hb⟩; have hn := HS0.out.kept hb; clear hb; have HS := Lib.hid hn; have hc := hn.cells; dsimp only [AllC] at hc; clear hn; go_split_ands)
  go_ret
  exact ⟨rfl, HS.out.below⟩
set_option maxHeartbeats 1000000 in
theorem common_far3 (ep : Int) (a ax ay : Option Addr) (cap capx capy : Nat) (ns xs ys : List Int) (w : World) (h0 : ¬ ((ns.length : Int) < 1)) (h1 : ¬ ((60 : Int) < (ns.length : Int))) (h2 : ¬ ((60 : Int) < (xs.length : Int))) (h3 : ((60 : Int) < (ys.length : Int))) (hn : ns.length ≤ 9223372036854775807) (hx : xs.length ≤ 9223372036854775807) (hy : ys.length ≤ 9223372036854775807) :
    Calls Try.prog 3 #[cfg ep a ns.length cap, .slice ax xs.length capx, .slice ay ys.length capy] w fun e w' => e = .returned (.bool true) ∧ Below w.heap.size w w' := by
  have hs : Held w (w.heap.size + 1) [(⟨w.heap.size, 0, none⟩, .int .i64 ep), (⟨w.heap.size, 1, none⟩, .slice a ns.length cap)] (w.alloc (Obj.cells #[.int .i64 ep, .slice a ns.length cap] 24)) := by
    refine ⟨by simp, ?_, by simp, (Below.refl _ _).alloc (Nat.le_refl _) _, by omega⟩
    simp [AllC, go_sem]
  have HS0 := Lib.hid hs
  clear hs
  go_enter Try.func3, Try.ntmps3
  go_wp2_with (go_at_call 13; refine (works_any _).mono ?_; rintro e w1 ⟨rfl, hb⟩; have hn := HS0.out.kept hb; clear hb; have HS := Lib.hid hn; have hc := hn.cells; dsimp only [AllC] at hc; clear hn; go_split_ands)
  go_ret
  exact ⟨rfl, HS.out.below⟩

set_option maxHeartbeats 4000000 in
theorem common_near (ep : Int) (b off : Nat) (ax ay : Option Addr) (cap capx capy : Nat) (ns xs ys : List Int) (w : World) (hrow : IRow w (some ⟨b, off, none⟩) ns) (hrx : IRow w ax xs) (hry : IRow w ay ys) (hb : b < w.heap.size) (hc : ∀ i, i < ns.length → w.cell? ⟨b, off + i, none⟩ = some (.int .i64 (ns.getD i 0)))
    (h0 : ¬ ((ns.length : Int) < 1)) (h1 : ¬ ((60 : Int) < (ns.length : Int))) (h2 : ¬ ((60 : Int) < (xs.length : Int))) (h3 : ¬ ((60 : Int) < (ys.length : Int))) :
    Calls Try.prog 3 #[cfg ep (some ⟨b, off, none⟩) ns.length cap, .slice ax xs.length capx, .slice ay ys.length capy] w fun e w' => e = .returned (.bool true) ∧ Below w.heap.size w w' := by
  have hs : Held w (w.heap.size + 1) [(⟨w.heap.size, 0, none⟩, .int .i64 ep), (⟨w.heap.size, 1, none⟩, .slice (some ⟨b, off, none⟩) ns.length cap)] (w.alloc (Obj.cells #[.int .i64 ep, .slice (some ⟨b, off, none⟩) ns.length cap] 24)) := by
    refine ⟨by simp, ?_, by simp, (Below.refl _ _).alloc (Nat.le_refl _) _, by omega⟩
    simp [AllC, go_sem]
  have HS0 := Lib.hid hs
  clear hs
  have HC := Lib.hid hc
  have HR := Lib.hid hrow
  have HX := Lib.hid hrx
  have HY := Lib.hid hry
  clear hc hrow hrx hry
  have d0 : decide ((ns.length : Int) < 1) = false := by simpa using h0
  have d1 : decide ((60 : Int) < (ns.length : Int)) = false := by simpa using h1
  have d2 : decide ((60 : Int) < (xs.length : Int)) = false := by simpa using h2
  have d3 : decide ((60 : Int) < (ys.length : Int)) = false := by simpa using h3
  go_enter Try.func3, Try.ntmps3
  go_wp2_with (go_at_call 13; refine (works_any _).mono ?_; rintro e w1 ⟨rfl, hb⟩; have hn := HS0.out.kept hb; clear hb; have HS := Lib.hid hn; have hc := hn.cells; dsimp only [AllC] at hc; clear hn; go_split_ands)
  go_loopw [8] (fun i wr => ∃ k : Nat, k ≤ ns.length ∧ i = .int .i64 k ∧ Held w (w.heap.size + 1) [(⟨w.heap.size, 0, none⟩, .int .i64 ep), (⟨w.heap.size, 1, none⟩, .slice (some ⟨b, off, none⟩) ns.length cap)] wr) (fun i _ => ns.length - (intOf i).toNat)
  case atStart => exact ⟨0, Nat.zero_le _, rfl, HS.out⟩
  case round =>
    obtain ⟨k, hk, rfl, HW⟩ := hrel
    clear HS
    have HS := Lib.hid HW
    have hcw := HW.cells
    dsimp only [AllC] at hcw
    clear HW
    go_split_ands
    by_cases hlt : k < ns.length
    · go_wp2_with fail
      go_loopw [9] (fun j wr2 => ∃ l : Nat, l ≤ k ∧ j = .int .i64 l ∧ Held w (w.heap.size + 1) [(⟨w.heap.size, 0, none⟩, .int .i64 ep), (⟨w.heap.size, 1, none⟩, .slice (some ⟨b, off, none⟩) ns.length cap)] wr2) (fun j _ => k - (intOf j).toNat)
      case atStart => exact ⟨0, Nat.zero_le _, rfl, HS.out⟩
      case round =>
        obtain ⟨l, hl, rfl, HW⟩ := hrel
        clear HS
        have HS := Lib.hid HW
        have hcw := HW.cells
        have hbl := HW.below
        dsimp only [AllC] at hcw
        have hk1 := (hbl.cell (p := ⟨b, off + k, none⟩) hb).trans (HC.out k hlt)
        have hl1 : l < k → _ := fun hh => (hbl.cell (p := ⟨b, off + l, none⟩) hb).trans (HC.out l (by omega))
        clear HW hbl
        go_split_ands
        by_cases hlk : l < k
        · have hl2 := hl1 hlk
          clear hl1
          have hll : l < ns.length := by omega
          have i1 : (0 : Int) ≤ (k : Int) := by omega
          have i2 : (k : Int) < (ns.length : Int) := by omega
          have i3 : (0 : Int) ≤ (l : Int) := by omega
          have i4 : (l : Int) < (ns.length : Int) := by omega
          go_wp2_with fail
          go_quiet (fail)
          go_wp2_with fail
          · go_ret
            exact ⟨rfl, HS.out.below.trans (below_drewN (Below.refl _ _) _)⟩
          · exact ⟨⟨l + 1, by omega, by go_num, HS.out.kept (below_drewN (Below.refl _ _) _)⟩, by simp [intOf]; omega⟩
        · have hk' : l = k := by omega
          subst hk'
          go_wp2_with fail
          exact ⟨⟨l + 1, by omega, by go_num, HS.out⟩, by simp [intOf]; omega⟩
    · have hk' : k = ns.length := by omega
      subst hk'
      cases ea : decide (quoN ns.length ≤ thN xs ns)
      · have EA := Lib.hid ea
        clear ea
        go_wp2_with fail
        refine (enough_any ep _ _ _ _ ns xs _ (HR.out.below HS.out.below) (HX.out.below HS.out.below)).mono ?_
        rw [EA.out]
        rintro e w2 ⟨rfl, hb1⟩
        have hn := HS.out.kept hb1; clear HS hb1; have HS := Lib.hid hn; have hc := hn.cells; dsimp only [AllC] at hc; clear hn; go_split_ands
        go_wp2_with fail
        go_ret
        exact ⟨rfl, HS.out.below⟩
      have EA := Lib.hid ea
      clear ea
      cases eb : decide (quoN ns.length ≤ thN ys ns)
      · have EB := Lib.hid eb
        clear eb
        go_wp2_with fail
        refine (enough_any ep _ _ _ _ ns xs _ (HR.out.below HS.out.below) (HX.out.below HS.out.below)).mono ?_
        rw [EA.out]
        rintro e w2 ⟨rfl, hb1⟩
        have hn := HS.out.kept hb1; clear HS hb1; have HS := Lib.hid hn; have hc := hn.cells; dsimp only [AllC] at hc; clear hn; go_split_ands
        go_wp2_with fail
        refine (enough_any ep _ _ _ _ ns ys _ (HR.out.below HS.out.below) (HY.out.below HS.out.below)).mono ?_
        rw [EB.out]
        rintro e w3 ⟨rfl, hb1⟩
        have hn := HS.out.kept hb1; clear HS hb1; have HS := Lib.hid hn; have hc := hn.cells; dsimp only [AllC] at hc; clear hn; go_split_ands
        go_wp2_with fail
        go_ret
        exact ⟨rfl, HS.out.below⟩
      have EB := Lib.hid eb
      clear eb
      have NB : ∀ l, l = ns → Hid (bothB xs ys l = false) → False := fun l hl h => by
        subst hl; exact no_both (by omega) (by simpa using EA.out) (by simpa using EB.out) h.out
      have HNB := Lib.hid NB
      clear NB
      go_wp2_with fail
      refine (enough_any ep _ _ _ _ ns xs _ (HR.out.below HS.out.below) (HX.out.below HS.out.below)).mono ?_
      rw [EA.out]
      rintro e w2 ⟨rfl, hb1⟩
      have hn := HS.out.kept hb1; clear HS hb1; have HS := Lib.hid hn; have hc := hn.cells; dsimp only [AllC] at hc; clear hn; go_split_ands
      go_wp2_with fail
      refine (enough_any ep _ _ _ _ ns ys _ (HR.out.below HS.out.below) (HY.out.below HS.out.below)).mono ?_
      rw [EB.out]
      rintro e w3 ⟨rfl, hb1⟩
      have hn := HS.out.kept hb1; clear HS hb1; have HS := Lib.hid hn; have hc := hn.cells; dsimp only [AllC] at hc; clear hn; go_split_ands
      go_wp2_with fail
      go_loopw [10] (fun i wr => ∃ k : Nat, k ≤ ns.length ∧ i = .int .i64 k ∧ Hid (bothB xs ys (ns.take k) = false) ∧ Held w (w.heap.size + 1) [(⟨w.heap.size, 0, none⟩, .int .i64 ep), (⟨w.heap.size, 1, none⟩, .slice (some ⟨b, off, none⟩) ns.length cap)] wr) (fun i _ => ns.length - (intOf i).toNat)
      case atStart => exact ⟨0, Nat.zero_le _, rfl, rfl, HS.out⟩
      case round =>
        obtain ⟨k, hk2, rfl, hB, HW⟩ := hrel
        clear HS
        have HS := Lib.hid HW
        have hcw := HW.cells
        have hbl := HW.below
        dsimp only [AllC] at hcw
        by_cases hlt2 : k < ns.length
        · have hk1 := (hbl.cell (p := ⟨b, off + k, none⟩) hb).trans (HC.out k hlt2)
          have HXW := Lib.hid (HX.out.below hbl)
          have HYW := Lib.hid (HY.out.below hbl)
          have i1 : (0 : Int) ≤ (k : Int) := by omega
          have i2 : (k : Int) < (ns.length : Int) := by omega
          have SN := Lib.hid (bothB_snoc xs ys ns k hlt2)
          clear HW hbl
          go_split_ands
          cases ex : inB ns[k] xs
          · have EX := Lib.hid ex
            clear ex
            go_wp2_with (go_at_call 15; refine (refIn_any _ _ xs _ _ HXW.out).mono ?_; rw [EX.out]; rintro e w4 ⟨rfl, rfl⟩)
            exact ⟨⟨k + 1, by omega, by go_num, (by rw [SN.out, hB.out, EX.out]; rfl : bothB xs ys (ns.take (k + 1)) = false), HS.out⟩, by simp [intOf]; omega⟩
          · have EX := Lib.hid ex
            clear ex
            cases ey : inB ns[k] ys
            · have EY := Lib.hid ey
              clear ey
              go_wp2_with fail
              refine (refIn_any _ _ xs _ _ HXW.out).mono ?_
              rw [EX.out]
              rintro e w4 ⟨rfl, rfl⟩
              go_wp2_with fail
              refine (refIn_any _ _ ys _ _ HYW.out).mono ?_
              rw [EY.out]
              rintro e w4 ⟨rfl, rfl⟩
              go_wp2_with fail
              exact ⟨⟨k + 1, by omega, by go_num, (by rw [SN.out, hB.out, EX.out, EY.out]; rfl : bothB xs ys (ns.take (k + 1)) = false), HS.out⟩, by simp [intOf]; omega⟩
            · have EY := Lib.hid ey
              clear ey
              go_wp2_with fail
              refine (refIn_any _ _ xs _ _ HXW.out).mono ?_
              rw [EX.out]
              rintro e w4 ⟨rfl, rfl⟩
              go_wp2_with fail
              refine (refIn_any _ _ ys _ _ HYW.out).mono ?_
              rw [EY.out]
              rintro e w4 ⟨rfl, rfl⟩
              go_wp2_with fail
              go_ret
              exact ⟨rfl, HS.out.below⟩
        · exfalso
          have : k = ns.length := by omega
          subst this
          exact HNB.out _ (List.take_length) hB

theorem common_any (ep : Int) (a ax ay : Option Addr) (cap capx capy : Nat) (ns xs ys : List Int) (w : World) (hrow : IRow w a ns) (hrx : IRow w ax xs) (hry : IRow w ay ys) :
    Calls Try.prog 3 #[cfg ep a ns.length cap, .slice ax xs.length capx, .slice ay ys.length capy] w fun e w' => e = .returned (.bool true) ∧ Below w.heap.size w w' := by
  have hn := hrow.1
  have hx := hrx.1
  have hy := hry.1
  by_cases h0 : (ns.length : Int) < 1
  · exact common_far0 ep a ax ay cap capx capy ns xs ys w h0 hn hx hy
  by_cases h1 : (60 : Int) < (ns.length : Int)
  · exact common_far1 ep a ax ay cap capx capy ns xs ys w h0 h1 hn hx hy
  by_cases h2 : (60 : Int) < (xs.length : Int)
  · exact common_far2 ep a ax ay cap capx capy ns xs ys w h0 h1 h2 hn hx hy
  by_cases h3 : (60 : Int) < (ys.length : Int)
  · exact common_far3 ep a ax ay cap capx capy ns xs ys w h0 h1 h2 h3 hn hx hy
  rcases hrow.2 with h | ⟨b, off, rfl, hb, hc⟩
  · subst h; simp at h0
  · exact common_near ep b off ax ay cap capx capy ns xs ys w hrow hrx hry hb hc h0 h1 h2 h3
end Go.Proofs.Ytckjlglinmmohac
