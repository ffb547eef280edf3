/-
  Texts put together: Bal, Bal2, Bal3.
-/
import Derived.Test.YtplplehfkfjhnaaRows
import Derived.WalkKit
import Derived.WalkSpells
import Derived.WalkLawsBesides
import Derived.StillTactics
import Derived.Laws.Pointers
import Derived.Deep.RegionHeld3
import Derived.Deep.QuietTactic
import Derived.BigQuiet
import Derived.RowKit3
import Derived.Lib.Hide
import Derived.Outline
import Derived.LoopTactic
import Derived.Test.YtplplehfkfjhnaaInt
namespace Go.Proofs.Ytplplehfkfjhnaa.Bb
open Go.RowKit
set_option linter.unusedSimpArgs false
set_option linter.unusedVariables false

/-- Is one pair of numbers the lesser? -/
def lessB (a1 a2 b1 b2 : Int) : Bool := decide (a1 < b1) || (decide (a1 = b1) && decide (a2 < b2))
/-- The greater of two pairs. -/
def mo1 (a1 a2 b1 b2 : Int) : Int := if lessB a1 a2 b1 b2 then b1 else a1
def mo2 (a1 a2 b1 b2 : Int) : Int := if lessB a1 a2 b1 b2 then b2 else a2
abbrev pr (a b : Int) : Value := .agg #[.int .i64 a, .int .i64 b]

set_option maxHeartbeats 800000 in
theorem less_any (a1 a2 b1 b2 : Int) (w : World) :
    Calls Try.prog 22 #[pr a1 a2, pr b1 b2] w fun e w' => e = .returned (.bool (lessB a1 a2 b1 b2)) ∧ Below w.heap.size w w' := by
  by_cases g1 : a1 < b1
  · have e1 : lessB a1 a2 b1 b2 = true := by simp [lessB, g1]
    rw [e1]
    go_enter Try.func22, Try.ntmps22
    go_wp2
    go_ret
    exact ⟨rfl, ((Below.refl _ _).alloc (Nat.le_refl _) _).alloc (by simp) _⟩
  by_cases g2 : a1 = b1
  · subst g2
    by_cases g3 : a2 < b2
    · have e1 : lessB a1 a2 a1 b2 = true := by simp [lessB, g3]
      rw [e1]
      go_enter Try.func22, Try.ntmps22
      go_wp2
      go_ret
      exact ⟨rfl, ((Below.refl _ _).alloc (Nat.le_refl _) _).alloc (by simp) _⟩
    · have e1 : lessB a1 a2 a1 b2 = false := by simp [lessB, g3]
      rw [e1]
      go_enter Try.func22, Try.ntmps22
      go_wp2
      go_ret
      exact ⟨rfl, ((Below.refl _ _).alloc (Nat.le_refl _) _).alloc (by simp) _⟩
  · have e1 : lessB a1 a2 b1 b2 = false := by simp [lessB, g1, g2]
    rw [e1]
    go_enter Try.func22, Try.ntmps22
    go_wp2
    go_ret
    exact ⟨rfl, ((Below.refl _ _).alloc (Nat.le_refl _) _).alloc (by simp) _⟩

theorem mo_yes {a1 a2 b1 b2 : Int} (h : lessB b1 b2 a1 a2 = true) : mo1 a1 a2 b1 b2 = a1 ∧ mo2 a1 a2 b1 b2 = a2 := by
  have : lessB a1 a2 b1 b2 = false := by simp [lessB] at h ⊢; omega
  simp [mo1, mo2, this]
theorem mo_no {a1 a2 b1 b2 : Int} (h : lessB b1 b2 a1 a2 = false) : mo1 a1 a2 b1 b2 = b1 ∧ mo2 a1 a2 b1 b2 = b2 := by
  by_cases g : lessB a1 a2 b1 b2 = true
  · simp [mo1, mo2, g]
  · have : a1 = b1 ∧ a2 = b2 := by simp [lessB] at h g; omega
    simp [mo1, mo2, this.1, this.2]

set_option maxHeartbeats 800000 in
theorem most_any (a1 a2 b1 b2 : Int) (w : World) :
    Calls Try.prog 24 #[pr a1 a2, pr b1 b2] w fun e w' => e = .returned (pr (mo1 a1 a2 b1 b2) (mo2 a1 a2 b1 b2)) ∧ Below w.heap.size w w' := by
  by_cases g0 : a1 = b1 ∧ a2 = b2
  · obtain ⟨rfl, rfl⟩ := g0
    have e1 : mo1 a1 a2 a1 a2 = a1 := by simp [mo1]
    have e2 : mo2 a1 a2 a1 a2 = a2 := by simp [mo2]
    rw [e1, e2]
    clear e1 e2
    go_enter Try.func24, Try.ntmps24
    go_wp2
    exact bodyPost_ret (v := pr a1 a2) (by simp [results, Try.results24, go_sem]) rfl ⟨rfl, ((((Below.refl _ _).alloc (Nat.le_refl _) _).alloc (by simp) _).alloc (by simp; omega) _)⟩
  by_cases g1 : a1 = b1
  · subst g1
    have g2 : ¬ a2 = b2 := fun h => g0 ⟨rfl, h⟩
    clear g0
    cases g : lessB a1 b2 a1 a2
    ·
      obtain ⟨e1, e2⟩ := mo_no g
      rw [e1, e2]
      clear e1 e2
      have G := Lib.hid g
      clear g
      go_enter Try.func24, Try.ntmps24
      go_wp2_with (go_at_call 22; refine (less_any _ _ _ _ _).mono ?_; rw [G.out]; rintro e w1 ⟨rfl, hb⟩; obtain ⟨hc, hf⟩ := bcell hb; have hz := hb.size; simp at hz hb)
      exact bodyPost_ret (v := pr a1 b2) (by simp [results, Try.results24, go_sem, hc, hf, hz, show w.heap.size + 1 + 1 < w1.heap.size by omega]) rfl ⟨rfl, ((((((Below.refl _ _).alloc (Nat.le_refl _) _).alloc (by simp) _).alloc (by simp; omega) _).trans (hb.mono (by omega))).setCell (by simp; omega) _).setCell (by simp; omega) _⟩
    ·
      obtain ⟨e1, e2⟩ := mo_yes g
      rw [e1, e2]
      clear e1 e2
      have G := Lib.hid g
      clear g
      go_enter Try.func24, Try.ntmps24
      go_wp2_with (go_at_call 22; refine (less_any _ _ _ _ _).mono ?_; rw [G.out]; rintro e w1 ⟨rfl, hb⟩; obtain ⟨hc, hf⟩ := bcell hb; have hz := hb.size; simp at hz hb)
      exact bodyPost_ret (v := pr a1 a2) (by simp [results, Try.results24, go_sem, hc, hf, hz, show w.heap.size + 1 + 1 < w1.heap.size by omega]) rfl ⟨rfl, ((((((Below.refl _ _).alloc (Nat.le_refl _) _).alloc (by simp) _).alloc (by simp; omega) _).trans (hb.mono (by omega))).setCell (by simp; omega) _).setCell (by simp; omega) _⟩
  · clear g0
    cases g : lessB b1 b2 a1 a2
    ·
      obtain ⟨e1, e2⟩ := mo_no g
      rw [e1, e2]
      clear e1 e2
      have G := Lib.hid g
      clear g
      go_enter Try.func24, Try.ntmps24
      go_wp2_with (go_at_call 22; refine (less_any _ _ _ _ _).mono ?_; rw [G.out]; rintro e w1 ⟨rfl, hb⟩; obtain ⟨hc, hf⟩ := bcell hb; have hz := hb.size; simp at hz hb)
      exact bodyPost_ret (v := pr b1 b2) (by simp [results, Try.results24, go_sem, hc, hf, hz, show w.heap.size + 1 + 1 < w1.heap.size by omega]) rfl ⟨rfl, ((((((Below.refl _ _).alloc (Nat.le_refl _) _).alloc (by simp) _).alloc (by simp; omega) _).trans (hb.mono (by omega))).setCell (by simp; omega) _).setCell (by simp; omega) _⟩
    ·
      obtain ⟨e1, e2⟩ := mo_yes g
      rw [e1, e2]
      clear e1 e2
      have G := Lib.hid g
      clear g
      go_enter Try.func24, Try.ntmps24
      go_wp2_with (go_at_call 22; refine (less_any _ _ _ _ _).mono ?_; rw [G.out]; rintro e w1 ⟨rfl, hb⟩; obtain ⟨hc, hf⟩ := bcell hb; have hz := hb.size; simp at hz hb)
      exact bodyPost_ret (v := pr a1 a2) (by simp [results, Try.results24, go_sem, hc, hf, hz, show w.heap.size + 1 + 1 < w1.heap.size by omega]) rfl ⟨rfl, ((((((Below.refl _ _).alloc (Nat.le_refl _) _).alloc (by simp) _).alloc (by simp; omega) _).trans (hb.mono (by omega))).setCell (by simp; omega) _).setCell (by simp; omega) _⟩
end Go.Proofs.Ytplplehfkfjhnaa.Bb
namespace Go.Proofs.Ytplplehfkfjhnaa.Bb
open Go.RowKit
set_option linter.unusedSimpArgs false
set_option linter.unusedVariables false

theorem ret_int {k : IntKind} {a b : Int} (h : a = b) : Ending.returned (.int k a) = .returned (.int k b) := by rw [h]
theorem ret_bool {a b : Bool} (h : a = b) : Ending.returned (.bool a) = .returned (.bool b) := by rw [h]

/-- How many of the first list are in the second one. -/
def thN (who ns : List Int) : Int := (ns.filter fun x => inB x who).length
theorem thN_nil (who : List Int) : thN who [] = 0 := rfl
theorem thN_le (who ns : List Int) : 0 ≤ thN who ns ∧ thN who ns ≤ ns.length := by
  unfold thN; have := List.length_filter_le (fun x => inB x who) ns; omega
theorem thN_snoc (who ns : List Int) (k : Nat) (h : k < ns.length) : thN who (ns.take (k + 1)) = thN who (ns.take k) + if inB ns[k] who = true then 1 else 0 := by
  rw [List.take_succ_eq_append_getElem h]; unfold thN
  rw [List.filter_append]
  by_cases g : inB ns[k] who = true <;> simp [List.filter_cons, g]

set_option maxHeartbeats 800000 in
/-- ballot.there. -/
theorem there_any (ep : Int) (a a2 : Option Addr) (cap cap2 : Nat) (ns who : List Int) (w : World) (hr : IRow w a ns) (hr2 : IRow w a2 who) :
    Calls Try.prog 62 #[.agg #[.int .i64 ep, .slice a ns.length cap], .slice a2 who.length cap2] w fun e w' => e = .returned (.int .i64 (thN who ns)) ∧ Below w.heap.size w w' := by
  have hbel : Below w.heap.size w (w.alloc (.cells #[.int .i64 ep, .slice a ns.length cap] 24)) := (Below.refl _ _).alloc (Nat.le_refl _) _
  have HB := Lib.hid hbel
  have HR2 := Lib.hid (hr2.below hbel)
  obtain ⟨hl, hrow⟩ := hr.below hbel
  clear hr hr2 hbel
  go_enter Try.func62, Try.ntmps62
  go_wp2
  go_loop [5, 11] (fun n i => ∃ k : Nat, k ≤ ns.length ∧ i = .int .i64 k ∧ n = .int .i64 (thN who (ns.take k))) (fun _ i => ns.length - (intOf i).toNat)
  case atStart => exact ⟨0, Nat.zero_le _, rfl, rfl⟩
  case round =>
    obtain ⟨k, hk, rfl, rfl⟩ := hrel
    have hd := thN_le who (ns.take k)
    have hdl : (ns.take k).length ≤ k := List.length_take_le _ _
    by_cases hlt : k < ns.length
    · rcases hrow with h0 | ⟨b, off, rfl, hb, hc⟩
      · rw [h0] at hlt; simp at hlt
      · have hcell := hc k hlt
        have HS := Lib.hid (thN_snoc who ns k hlt)
        have HC := Lib.hid hc
        clear hc
        cases g : inB ns[k] who
        · have G := Lib.hid g
          clear g
          go_wp2_with (go_at_call 30; refine (contains_any _ _ who _ _ HR2.out).mono ?_; rw [G.out]; rintro e w' ⟨rfl, rfl⟩)
          go_round
          case rel => exact ⟨k + 1, by omega, by go_num, by rw [HS.out, G.out]; simp⟩
          case measure => simp [intOf]; omega
        · have G := Lib.hid g
          clear g
          go_wp2_with (go_at_call 30; refine (contains_any _ _ who _ _ HR2.out).mono ?_; rw [G.out]; rintro e w' ⟨rfl, rfl⟩)
          go_round
          case rel => exact ⟨k + 1, by omega, by go_num, by rw [HS.out, G.out]; simp⟩
          case measure => simp [intOf]; omega
    · have : k = ns.length := by omega
      subst this
      go_wp2
      go_ret
      exact ⟨rfl, HB.out⟩
end Go.Proofs.Ytplplehfkfjhnaa.Bb
namespace Go.Proofs.Ytplplehfkfjhnaa.Bb
open Go.RowKit
set_option linter.unusedSimpArgs false
set_option linter.unusedVariables false

/-- How many of n are more than half. -/
def quoN (n : Int) : Int := if n < 1 then 0 else n / 2 + 1

set_option maxHeartbeats 400000 in
theorem quorum_any (n : Int) (w : World) (h : n ≤ 9223372036854775807) :
    Calls Try.prog 63 #[.int .i64 n] w fun e w' => e = .returned (.int .i64 (quoN n)) ∧ w = w' := by
  by_cases g : n < 1
  · have e1 : quoN n = 0 := by simp [quoN, g]
    rw [e1]
    go_enter Try.func63, Try.ntmps63
    go_wp2
    go_ret
    exact ⟨rfl, rfl⟩
  · have e1 : quoN n = n / 2 + 1 := by simp [quoN, g]
    rw [e1]
    have h0 : 1 ≤ n := by omega
    clear e1
    go_enter Try.func63, Try.ntmps63
    go_wp2
    go_ret
    exact ⟨rfl, rfl⟩

theorem quoN_range (n : Int) (h : n ≤ 9223372036854775807) : 0 ≤ quoN n ∧ quoN n ≤ 9223372036854775807 := by
  unfold quoN; split <;> omega

theorem keepS2 {W w0 w1 : World} {p q : Addr} {x y : Value} (hb : Below w0.heap.size w0 w1) (h0 : w0.cell? p = some x) (h1 : w0.cell? q = some y) (hB : Below W.heap.size W w0) (hp : p.block < W.heap.size) (hq : q.block < W.heap.size) :
    w1.cell? p = some x ∧ w1.cell? q = some y ∧ Below W.heap.size W w1 :=
  ⟨(hb.cell (by have := hB.size; omega)).trans h0, (hb.cell (by have := hB.size; omega)).trans h1, hB.trans (hb.mono hB.size)⟩

set_option maxHeartbeats 800000 in
/-- ballot.Enough. -/
theorem enough_any (ep : Int) (a a2 : Option Addr) (cap cap2 : Nat) (ns who : List Int) (w : World) (hr : IRow w a ns) (hr2 : IRow w a2 who) :
    Calls Try.prog 52 #[.agg #[.int .i64 ep, .slice a ns.length cap], .slice a2 who.length cap2] w fun e w' => e = .returned (.bool (decide (quoN ns.length ≤ thN who ns))) ∧ Below w.heap.size w w' := by
  have hbel : Below w.heap.size w (w.alloc (.cells #[.int .i64 ep, .slice a ns.length cap] 24)) := (Below.refl _ _).alloc (Nat.le_refl _) _
  have HB := Lib.hid hbel
  have HR := Lib.hid (hr.below hbel)
  have HR2 := Lib.hid (hr2.below hbel)
  have hl : (ns.length : Int) ≤ 9223372036854775807 := by have := hr.1; omega
  clear hr hr2 hbel
  go_enter Try.func52, Try.ntmps52
  go_wp2
  go_region_held3 (fun w' => w'.cell? ⟨w.heap.size, 0, none⟩ = some (.int .i64 ep) ∧ w'.cell? ⟨w.heap.size, 1, none⟩ = some (.slice a ns.length cap) ∧ Below (w.alloc (.cells #[.int .i64 ep, .slice a ns.length cap] 24)).heap.size (w.alloc (.cells #[.int .i64 ep, .slice a ns.length cap] 24)) w')
    (first | exact ⟨by simp [go_sem], by simp [go_sem], (Below.refl _ _).drew⟩ | (go_split_ands; exact keepS2 (by assumption) (by assumption) (by assumption) (by assumption) (by simp) (by simp)) | assumption)
    (first
      | (go_at_call 62; go_split_ands; refine (there_any _ _ _ _ _ ns who _ (HR.out.below (by assumption)) (HR2.out.below (by assumption))).mono ?_; rintro e w1 ⟨rfl, hb⟩)
      | (go_at_call 63; refine (quorum_any _ _ hl).mono ?_; rintro e w1 ⟨rfl, rfl⟩))
  all_goals
    go_split_ands
    go_wp2
    go_ret
    exact ⟨rfl, HB.out.trans (Below.mono (by assumption) (by simp))⟩

def allB (who ns : List Int) : Bool := decide (0 < ns.length) && (thN who ns == (ns.length : Int))

set_option maxHeartbeats 800000 in
/-- ballot.All. -/
theorem all_any (ep : Int) (a a2 : Option Addr) (cap cap2 : Nat) (ns who : List Int) (w : World) (hr : IRow w a ns) (hr2 : IRow w a2 who) :
    Calls Try.prog 51 #[.agg #[.int .i64 ep, .slice a ns.length cap], .slice a2 who.length cap2] w fun e w' => e = .returned (.bool (allB who ns)) ∧ Below w.heap.size w w' := by
  have hbel : Below w.heap.size w (w.alloc (.cells #[.int .i64 ep, .slice a ns.length cap] 24)) := (Below.refl _ _).alloc (Nat.le_refl _) _
  have HB := Lib.hid hbel
  have HR := Lib.hid (hr.below hbel)
  have HR2 := Lib.hid (hr2.below hbel)
  have hl : (ns.length : Int) ≤ 9223372036854775807 := by have := hr.1; omega
  clear hr hr2 hbel
  by_cases g : 0 < ns.length
  · have hp : (0 : Int) < (ns.length : Int) := by omega
    have E : Hid (allB who ns = (thN who ns == (ns.length : Int))) := by simp [allB, g, Hid]
    go_enter Try.func51, Try.ntmps51
    go_wp2
    go_region_held3 (fun w' => w'.cell? ⟨w.heap.size, 0, none⟩ = some (.int .i64 ep) ∧ w'.cell? ⟨w.heap.size, 1, none⟩ = some (.slice a ns.length cap) ∧ Below (w.alloc (.cells #[.int .i64 ep, .slice a ns.length cap] 24)).heap.size (w.alloc (.cells #[.int .i64 ep, .slice a ns.length cap] 24)) w')
      (first | exact ⟨by simp [go_sem], by simp [go_sem], (Below.refl _ _).drew⟩ | (go_split_ands; exact keepS2 (by assumption) (by assumption) (by assumption) (by assumption) (by simp) (by simp)) | assumption)
      (first
        | (go_at_call 62; go_split_ands; refine (there_any _ _ _ _ _ ns who _ (HR.out.below (by assumption)) (HR2.out.below (by assumption))).mono ?_; rintro e w1 ⟨rfl, hb⟩))
    all_goals
      go_split_ands
      go_wp2
      go_ret
      exact ⟨ret_bool E.out.symm, HB.out.trans (Below.mono (by assumption) (by simp))⟩
  · have hn : ns = [] := List.eq_nil_of_length_eq_zero (by omega)
    subst hn
    have E : Hid (allB who [] = false) := by simp [allB, Hid]
    go_enter Try.func51, Try.ntmps51
    go_wp2
    go_quiet (fail)
    all_goals
      go_wp2
      go_ret
      exact ⟨ret_bool E.out.symm, by first | exact HB.out | exact HB.out.drew | exact below_drewN HB.out _⟩

/-- May it be a ballot? -/
def vaB (a b : Int) : Bool := decide (0 ≤ a) && decide (a ≤ 1099511627776) && (decide (0 ≤ b) && decide (b ≤ 31))

set_option maxHeartbeats 400000 in
theorem within_any (n m : Int) (w : World) :
    Calls Try.prog 43 #[.int .i64 n, .int .i64 m] w fun e w' => e = .returned (.bool (decide (0 ≤ n) && decide (n ≤ m))) ∧ w = w' := by
  by_cases g : 0 ≤ n
  · go_enter Try.func43, Try.ntmps43
    go_wp2
    all_goals
      go_ret
      exact ⟨ret_bool (by simp [*]), rfl⟩
  · go_enter Try.func43, Try.ntmps43
    go_wp2
    go_ret
    exact ⟨ret_bool (by simp; omega), rfl⟩

set_option maxHeartbeats 800000 in
theorem valid_any (a b : Int) (w : World) :
    Calls Try.prog 20 #[pr a b] w fun e w' => e = .returned (.bool (vaB a b)) ∧ Below w.heap.size w w' := by
  cases g : (decide (0 ≤ a) && decide (a ≤ 1099511627776))
  · have E : Hid (vaB a b = false) := by simp [vaB, g, Hid]
    have G := Lib.hid g
    clear g
    go_enter Try.func20, Try.ntmps20
    go_wp2_with (go_at_call 43; refine (within_any _ _ _).mono ?_; rw [G.out]; rintro e w1 ⟨rfl, rfl⟩)
    go_ret
    exact ⟨ret_bool E.out.symm, (Below.refl _ _).alloc (Nat.le_refl _) _⟩
  · have E : Hid (vaB a b = (decide (0 ≤ b) && decide (b ≤ 31))) := by simp only [vaB, g, Hid]; simp
    have G := Lib.hid g
    clear g
    go_enter Try.func20, Try.ntmps20
    go_wp2_with (first | (go_at_call_of 43 (Value.int .i64 a); refine (within_any _ _ _).mono ?_; rw [G.out]; rintro e w1 ⟨rfl, rfl⟩) | (go_at_call 43; refine (within_any _ _ _).mono ?_; rintro e w1 ⟨rfl, rfl⟩))
    go_ret
    exact ⟨ret_bool E.out.symm, (Below.refl _ _).alloc (Nat.le_refl _) _⟩

set_option maxHeartbeats 800000 in
theorem next_any (a b n : Int) (w : World) :
    Calls Try.prog 23 #[pr a b, .int .i64 n] w fun e w' => e = .returned (pr (wrap64 (a + 1)) n) ∧ Below w.heap.size w w' := by
  go_enter Try.func23, Try.ntmps23
  go_wp2
  exact bodyPost_ret (v := pr (wrap64 (a + 1)) n) (by simp [results, Try.results23, go_sem]) rfl ⟨rfl, ((Below.refl _ _).alloc (Nat.le_refl _) _).alloc (by simp) _⟩

set_option maxHeartbeats 800000 in
theorem first_any (a b c : Int) (w : World) :
    Calls Try.prog 26 #[.agg #[.int .i64 a, .int .i64 b, .int .i64 c]] w fun e w' => e = .returned (pr 0 b) ∧ Below w.heap.size w w' := by
  go_enter Try.func26, Try.ntmps26
  go_wp2
  exact bodyPost_ret (v := pr 0 b) (by simp [results, Try.results26, go_sem]) rfl ⟨rfl, ((Below.refl _ _).alloc (Nat.le_refl _) _).alloc (by simp) _⟩
end Go.Proofs.Ytplplehfkfjhnaa.Bb
