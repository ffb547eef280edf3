/-
  The walks of package ballot: how many are enough, and the other calls; then the examples of the document.
-/
import Derived.Test.YtckjlglinmmohabBal2
namespace Go.Proofs.Ytckjlglinmmohab
open Go.RowKit
set_option linter.unusedSimpArgs false
set_option linter.unusedVariables false

/-- How many of n are more than half. -/
def quoN (n : Int) : Int := if n < 1 then 0 else n / 2 + 1

set_option maxHeartbeats 400000 in
theorem quorum_any (n : Int) (w : World) (h : n ≤ 9223372036854775807) :
    Calls Try.prog 28 #[.int .i64 n] w fun e w' => e = .returned (.int .i64 (quoN n)) ∧ w = w' := by
  by_cases g : n < 1
  · have e1 : quoN n = 0 := by simp [quoN, g]
    rw [e1]
    go_enter Try.func28, Try.ntmps28
    go_wp2
    go_ret
    exact ⟨rfl, rfl⟩
  · have e1 : quoN n = n / 2 + 1 := by simp [quoN, g]
    rw [e1]
    have h0 : 1 ≤ n := by omega
    clear e1
    go_enter Try.func28, Try.ntmps28
    go_wp2
    go_ret
    exact ⟨rfl, rfl⟩

theorem quoN_range (n : Int) (h : n ≤ 9223372036854775807) : 0 ≤ quoN n ∧ quoN n ≤ 9223372036854775807 := by
  unfold quoN; split <;> omega

theorem keepS2 {W w0 w1 : World} {p q : Addr} {x y : Value} (hb : Below w0.heap.size w0 w1) (h0 : w0.cell? p = some x) (h1 : w0.cell? q = some y) (hB : Below W.heap.size W w0) (hp : p.block < W.heap.size) (hq : q.block < W.heap.size) :
    w1.cell? p = some x ∧ w1.cell? q = some y ∧ Below W.heap.size W w1 :=
  ⟨(hb.cell (by have := hB.size; omega)).trans h0, (hb.cell (by have := hB.size; omega)).trans h1, hB.trans (hb.mono hB.size)⟩

set_option maxHeartbeats 800000 in
/-- ballot.Enough. -/
theorem enough_any (ep : Int) (a a2 : Option Addr) (cap cap2 : Nat) (ns who : List Int) (w : World) (hr : IRow w a ns) (hr2 : IRow w a2 who) :
    Calls Try.prog 30 #[.agg #[.int .i64 ep, .slice a ns.length cap], .slice a2 who.length cap2] w fun e w' => e = .returned (.bool (decide (quoN ns.length ≤ thN who ns))) ∧ Below w.heap.size w w' := by
  have hbel : Below w.heap.size w (w.alloc (.cells #[.int .i64 ep, .slice a ns.length cap] 54)) := (Below.refl _ _).alloc (Nat.le_refl _) _
  have HB := Lib.hid hbel
  have HR := Lib.hid (hr.below hbel)
  have HR2 := Lib.hid (hr2.below hbel)
  have hl : (ns.length : Int) ≤ 9223372036854775807 := by have := hr.1; omega
  clear hr hr2 hbel
  go_enter Try.func30, Try.ntmps30
  go_wp2
  go_region_held3 (fun w' => w'.cell? ⟨w.heap.size, 0, none⟩ = some (.int .i64 ep) ∧ w'.cell? ⟨w.heap.size, 1, none⟩ = some (.slice a ns.length cap) ∧ Below (w.alloc (.cells #[.int .i64 ep, .slice a ns.length cap] 54)).heap.size (w.alloc (.cells #[.int .i64 ep, .slice a ns.length cap] 54)) w')
    (first | exact ⟨by simp [go_sem], by simp [go_sem], (Below.refl _ _).drew⟩ | (go_split_ands; exact keepS2 (by assumption) (by assumption) (by assumption) (by assumption) (by simp) (by simp)) | assumption)
    (first
      | (go_at_call 39; go_split_ands; refine (there_any _ _ _ _ _ ns who _ (HR.out.below (by assumption)) (HR2.out.below (by assumption))).mono ?_; rintro e w1 ⟨rfl, hb⟩)
      | (go_at_call 28; refine (quorum_any _ _ hl).mono ?_; rintro e w1 ⟨rfl, rfl⟩))
  all_goals
    go_split_ands
    go_wp2
    go_ret
    exact ⟨rfl, HB.out.trans (Below.mono (by assumption) (by simp))⟩

def allB (who ns : List Int) : Bool := decide (0 < ns.length) && (thN who ns == (ns.length : Int))

set_option maxHeartbeats 800000 in
/-- ballot.All. -/
theorem all_any (ep : Int) (a a2 : Option Addr) (cap cap2 : Nat) (ns who : List Int) (w : World) (hr : IRow w a ns) (hr2 : IRow w a2 who) :
    Calls Try.prog 31 #[.agg #[.int .i64 ep, .slice a ns.length cap], .slice a2 who.length cap2] w fun e w' => e = .returned (.bool (allB who ns)) ∧ Below w.heap.size w w' := by
  have hbel : Below w.heap.size w (w.alloc (.cells #[.int .i64 ep, .slice a ns.length cap] 54)) := (Below.refl _ _).alloc (Nat.le_refl _) _
  have HB := Lib.hid hbel
  have HR := Lib.hid (hr.below hbel)
  have HR2 := Lib.hid (hr2.below hbel)
  have hl : (ns.length : Int) ≤ 9223372036854775807 := by have := hr.1; omega
  clear hr hr2 hbel
  by_cases g : 0 < ns.length
  · have hp : (0 : Int) < (ns.length : Int) := by omega
    have E : Hid (allB who ns = (thN who ns == (ns.length : Int))) := by simp [allB, g, Hid]
    go_enter Try.func31, Try.ntmps31
    go_wp2
    go_region_held3 (fun w' => w'.cell? ⟨w.heap.size, 0, none⟩ = some (.int .i64 ep) ∧ w'.cell? ⟨w.heap.size, 1, none⟩ = some (.slice a ns.length cap) ∧ Below (w.alloc (.cells #[.int .i64 ep, .slice a ns.length cap] 54)).heap.size (w.alloc (.cells #[.int .i64 ep, .slice a ns.length cap] 54)) w')
      (first | exact ⟨by simp [go_sem], by simp [go_sem], (Below.refl _ _).drew⟩ | (go_split_ands; exact keepS2 (by assumption) (by assumption) (by assumption) (by assumption) (by simp) (by simp)) | assumption)
      (first
        | (go_at_call 39; go_split_ands; refine (there_any _ _ _ _ _ ns who _ (HR.out.below (by assumption)) (HR2.out.below (by assumption))).mono ?_; rintro e w1 ⟨rfl, hb⟩))
    all_goals
      go_split_ands
      go_wp2
      go_ret
      exact ⟨ret_bool E.out.symm, HB.out.trans (Below.mono (by assumption) (by simp))⟩
  · have hn : ns = [] := List.eq_nil_of_length_eq_zero (by omega)
    subst hn
    have E : Hid (allB who [] = false) := by simp [allB, Hid]
    go_enter Try.func31, Try.ntmps31
    go_wp2
    go_quiet (fail)
    all_goals
      go_wp2
      go_ret
      exact ⟨ret_bool E.out.symm, by first | exact HB.out | exact HB.out.drew | exact below_drewN HB.out _⟩

/-- May it be a ballot? -/
def vaB (a b : Int) : Bool := decide (0 ≤ a) && decide (a ≤ 1099511627776) && (decide (0 ≤ b) && decide (b ≤ 31))

set_option maxHeartbeats 400000 in
theorem within_any (n m : Int) (w : World) :
    Calls Try.prog 37 #[.int .i64 n, .int .i64 m] w fun e w' => e = .returned (.bool (decide (0 ≤ n) && decide (n ≤ m))) ∧ w = w' := by
  by_cases g : 0 ≤ n
  · go_enter Try.func37, Try.ntmps37
    go_wp2
    all_goals
      go_ret
      exact ⟨ret_bool (by simp [*]), rfl⟩
  · go_enter Try.func37, Try.ntmps37
    go_wp2
    go_ret
    exact ⟨ret_bool (by simp; omega), rfl⟩

set_option maxHeartbeats 800000 in
theorem valid_any (a b : Int) (w : World) :
    Calls Try.prog 25 #[pr a b] w fun e w' => e = .returned (.bool (vaB a b)) ∧ Below w.heap.size w w' := by
  cases g : (decide (0 ≤ a) && decide (a ≤ 1099511627776))
  · have E : Hid (vaB a b = false) := by simp [vaB, g, Hid]
    have G := Lib.hid g
    clear g
    go_enter Try.func25, Try.ntmps25
    go_wp2_with (go_at_call 37; refine (within_any _ _ _).mono ?_; rw [G.out]; rintro e w1 ⟨rfl, rfl⟩)
    go_ret
    exact ⟨ret_bool E.out.symm, (Below.refl _ _).alloc (Nat.le_refl _) _⟩
  · have E : Hid (vaB a b = (decide (0 ≤ b) && decide (b ≤ 31))) := by simp only [vaB, g, Hid]; simp
    have G := Lib.hid g
    clear g
    go_enter Try.func25, Try.ntmps25
    go_wp2_with (first | (go_at_call_of 37 (Value.int .i64 a); refine (within_any _ _ _).mono ?_; rw [G.out]; rintro e w1 ⟨rfl, rfl⟩) | (go_at_call 37; refine (within_any _ _ _).mono ?_; rintro e w1 ⟨rfl, rfl⟩))
    go_ret
    exact ⟨ret_bool E.out.symm, (Below.refl _ _).alloc (Nat.le_refl _) _⟩

set_option maxHeartbeats 800000 in
theorem next_any (a b n : Int) (w : World) :
    Calls Try.prog 24 #[pr a b, .int .i64 n] w fun e w' => e = .returned (pr (wrap64 (a + 1)) n) ∧ Below w.heap.size w w' := by
  go_enter Try.func24, Try.ntmps24
  go_wp2
  exact bodyPost_ret (v := pr (wrap64 (a + 1)) n) (by simp [results, Try.results24, go_sem]) rfl ⟨rfl, ((Below.refl _ _).alloc (Nat.le_refl _) _).alloc (by simp) _⟩

set_option maxHeartbeats 800000 in
theorem first_any (a b c : Int) (w : World) :
    Calls Try.prog 23 #[.agg #[.int .i64 a, .int .i64 b, .int .i64 c]] w fun e w' => e = .returned (pr 0 b) ∧ Below w.heap.size w w' := by
  go_enter Try.func23, Try.ntmps23
  go_wp2
  exact bodyPost_ret (v := pr 0 b) (by simp [results, Try.results23, go_sem]) rfl ⟨rfl, ((Below.refl _ _).alloc (Nat.le_refl _) _).alloc (by simp) _⟩
end Go.Proofs.Ytckjlglinmmohab
