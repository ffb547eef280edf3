/-
  Texts put together: Bal, Bal2, Bal3.
-/
import Derived.Test.YtchhcaoondfpiaaGreatRows
import Derived.WalkKit
import Derived.WalkSpells
import Derived.WalkLawsBesides
import Derived.StillTactics
import Derived.Laws.Pointers
import Derived.Deep.RegionHeld3
import Derived.Deep.QuietTactic
import Derived.BigQuiet
import Derived.RowKit3
import Derived.Lib.Hide
import Derived.Outline
import Derived.LoopTactic
import Derived.Test.YtchhcaoondfpiaaGreatInt
namespace Go.Proofs.YtchhcaoondfpiaaGreat.Bb
open Go.RowKit
set_option linter.unusedSimpArgs false
set_option linter.unusedVariables false

/-- Is one pair of numbers the lesser? -/
def lessB (a1 a2 b1 b2 : Int) : Bool := decide (a1 < b1) || (decide (a1 = b1) && decide (a2 < b2))
/-- The greater of two pairs. -/
def mo1 (a1 a2 b1 b2 : Int) : Int := if lessB a1 a2 b1 b2 then b1 else a1
def mo2 (a1 a2 b1 b2 : Int) : Int := if lessB a1 a2 b1 b2 then b2 else a2
abbrev pr (a b : Int) : Value := .agg #[.int .i64 a, .int .i64 b]

set_option maxHeartbeats 800000 in
theorem less_any (a1 a2 b1 b2 : Int) (w : World) :
    Calls Tryz.prog 26 #[pr a1 a2, pr b1 b2] w fun e w' => e = .returned (.bool (lessB a1 a2 b1 b2)) ∧ Below w.heap.size w w' := by
  by_cases g1 : a1 < b1
  · have e1 : lessB a1 a2 b1 b2 = true := by simp [lessB, g1]
    rw [e1]
    go_enter Tryz.func26, Tryz.ntmps26
    go_wp2
    go_ret
    exact ⟨rfl, ((Below.refl _ _).alloc (Nat.le_refl _) _).alloc (by simp) _⟩
  by_cases g2 : a1 = b1
  · subst g2
    by_cases g3 : a2 < b2
    · have e1 : lessB a1 a2 a1 b2 = true := by simp [lessB, g3]
      rw [e1]
      go_enter Tryz.func26, Tryz.ntmps26
      go_wp2
      go_ret
      exact ⟨rfl, ((Below.refl _ _).alloc (Nat.le_refl _) _).alloc (by simp) _⟩
    · have e1 : lessB a1 a2 a1 b2 = false := by simp [lessB, g3]
      rw [e1]
      go_enter Tryz.func26, Tryz.ntmps26
      go_wp2
      go_ret
      exact ⟨rfl, ((Below.refl _ _).alloc (Nat.le_refl _) _).alloc (by simp) _⟩
  · have e1 : lessB a1 a2 b1 b2 = false := by simp [lessB, g1, g2]
    rw [e1]
    go_enter Tryz.func26, Tryz.ntmps26
    go_wp2
    go_ret
    exact ⟨rfl, ((Below.refl _ _).alloc (Nat.le_refl _) _).alloc (by simp) _⟩

theorem mo_yes {a1 a2 b1 b2 : Int} (h : lessB b1 b2 a1 a2 = true) : mo1 a1 a2 b1 b2 = a1 ∧ mo2 a1 a2 b1 b2 = a2 := by
  have : lessB a1 a2 b1 b2 = false := by simp [lessB] at h ⊢; omega
  simp [mo1, mo2, this]
theorem mo_no {a1 a2 b1 b2 : Int} (h : lessB b1 b2 a1 a2 = false) : mo1 a1 a2 b1 b2 = b1 ∧ mo2 a1 a2 b1 b2 = b2 := by
  by_cases g : lessB a1 a2 b1 b2 = true
  · simp [mo1, mo2, g]
  · have : a1 = b1 ∧ a2 = b2 := by simp [lessB] at h g; omega
    simp [mo1, mo2, this.1, this.2]

end Go.Proofs.YtchhcaoondfpiaaGreat.Bb
namespace Go.Proofs.YtchhcaoondfpiaaGreat.Bb
open Go.RowKit
set_option linter.unusedSimpArgs false
set_option linter.unusedVariables false

theorem ret_int {k : IntKind} {a b : Int} (h : a = b) : Ending.returned (.int k a) = .returned (.int k b) := by rw [h]
theorem ret_bool {a b : Bool} (h : a = b) : Ending.returned (.bool a) = .returned (.bool b) := by rw [h]

/-- How many of the first list are in the second one. -/
def thN (who ns : List Int) : Int := (ns.filter fun x => inB x who).length
theorem thN_nil (who : List Int) : thN who [] = 0 := rfl
theorem thN_le (who ns : List Int) : 0 ≤ thN who ns ∧ thN who ns ≤ ns.length := by
  unfold thN; have := List.length_filter_le (fun x => inB x who) ns; omega
theorem thN_snoc (who ns : List Int) (k : Nat) (h : k < ns.length) : thN who (ns.take (k + 1)) = thN who (ns.take k) + if inB ns[k] who = true then 1 else 0 := by
  rw [List.take_succ_eq_append_getElem h]; unfold thN
  rw [List.filter_append]
  by_cases g : inB ns[k] who = true <;> simp [List.filter_cons, g]

end Go.Proofs.YtchhcaoondfpiaaGreat.Bb
namespace Go.Proofs.YtchhcaoondfpiaaGreat.Bb
open Go.RowKit
set_option linter.unusedSimpArgs false
set_option linter.unusedVariables false

/-- How many of n are more than half. -/
def quoN (n : Int) : Int := if n < 1 then 0 else n / 2 + 1

theorem quoN_range (n : Int) (h : n ≤ 9223372036854775807) : 0 ≤ quoN n ∧ quoN n ≤ 9223372036854775807 := by
  unfold quoN; split <;> omega

theorem keepS2 {W w0 w1 : World} {p q : Addr} {x y : Value} (hb : Below w0.heap.size w0 w1) (h0 : w0.cell? p = some x) (h1 : w0.cell? q = some y) (hB : Below W.heap.size W w0) (hp : p.block < W.heap.size) (hq : q.block < W.heap.size) :
    w1.cell? p = some x ∧ w1.cell? q = some y ∧ Below W.heap.size W w1 :=
  ⟨(hb.cell (by have := hB.size; omega)).trans h0, (hb.cell (by have := hB.size; omega)).trans h1, hB.trans (hb.mono hB.size)⟩

def allB (who ns : List Int) : Bool := decide (0 < ns.length) && (thN who ns == (ns.length : Int))

/-- May it be a ballot? -/
def vaB (a b : Int) : Bool := decide (0 ≤ a) && decide (a ≤ 1099511627776) && (decide (0 ≤ b) && decide (b ≤ 31))

set_option maxHeartbeats 400000 in
theorem within_any (n m : Int) (w : World) :
    Calls Tryz.prog 65 #[.int .i64 n, .int .i64 m] w fun e w' => e = .returned (.bool (decide (0 ≤ n) && decide (n ≤ m))) ∧ w = w' := by
  by_cases g : 0 ≤ n
  · go_enter Tryz.func65, Tryz.ntmps65
    go_wp2
    all_goals
      go_ret
      exact ⟨ret_bool (by simp [*]), rfl⟩
  · go_enter Tryz.func65, Tryz.ntmps65
    go_wp2
    go_ret
    exact ⟨ret_bool (by simp; omega), rfl⟩

set_option maxHeartbeats 800000 in
theorem valid_any (a b : Int) (w : World) :
    Calls Tryz.prog 41 #[pr a b] w fun e w' => e = .returned (.bool (vaB a b)) ∧ Below w.heap.size w w' := by
  cases g : (decide (0 ≤ a) && decide (a ≤ 1099511627776))
  · have E : Hid (vaB a b = false) := by simp [vaB, g, Hid]
    have G := Lib.hid g
    clear g
    go_enter Tryz.func41, Tryz.ntmps41
    go_wp2_with (go_at_call 65; refine (within_any _ _ _).mono ?_; rw [G.out]; rintro e w1 ⟨rfl, rfl⟩)
    go_ret
    exact ⟨ret_bool E.out.symm, (Below.refl _ _).alloc (Nat.le_refl _) _⟩
  · have E : Hid (vaB a b = (decide (0 ≤ b) && decide (b ≤ 31))) := by simp only [vaB, g, Hid]; simp
    have G := Lib.hid g
    clear g
    go_enter Tryz.func41, Tryz.ntmps41
    go_wp2_with (first | (go_at_call_of 65 (Value.int .i64 a); refine (within_any _ _ _).mono ?_; rw [G.out]; rintro e w1 ⟨rfl, rfl⟩) | (go_at_call 65; refine (within_any _ _ _).mono ?_; rintro e w1 ⟨rfl, rfl⟩))
    go_ret
    exact ⟨ret_bool E.out.symm, (Below.refl _ _).alloc (Nat.le_refl _) _⟩

end Go.Proofs.YtchhcaoondfpiaaGreat.Bb
