/-
  The walks of package ballot: each function returns what its plain function gives; what was there stays as it was.
-/
import Derived.Test.YtckjlglinmmohabRows
import Derived.WalkKit
import Derived.WalkSpells
import Derived.WalkLawsBesides
import Derived.StillTactics
import Derived.Laws.Pointers
import Derived.Deep.RegionHeld3
import Derived.Deep.QuietTactic
import Derived.BigQuiet
import Derived.RowKit3
import Derived.Lib.Hide
import Derived.Outline
namespace Go.Proofs.Ytckjlglinmmohab
open Go.RowKit
set_option linter.unusedSimpArgs false
set_option linter.unusedVariables false

/-- Is one pair of numbers the lesser? -/
def lessB (a1 a2 b1 b2 : Int) : Bool := decide (a1 < b1) || (decide (a1 = b1) && decide (a2 < b2))
/-- The greater of two pairs. -/
def mo1 (a1 a2 b1 b2 : Int) : Int := if lessB a1 a2 b1 b2 then b1 else a1
def mo2 (a1 a2 b1 b2 : Int) : Int := if lessB a1 a2 b1 b2 then b2 else a2
abbrev pr (a b : Int) : Value := .agg #[.int .i64 a, .int .i64 b]

theorem bcell {W w1 : World} (hb : Below W.heap.size W w1) : (∀ b o, b < W.heap.size → w1.cell? ⟨b, o, none⟩ = W.cell? ⟨b, o, none⟩) ∧ (∀ b o, b < W.heap.size → w1.frozen? ⟨b, o, none⟩ = W.frozen? ⟨b, o, none⟩) :=
  ⟨fun b o h => hb.cell (p := ⟨b, o, none⟩) h, fun b o h => hb.frozen (p := ⟨b, o, none⟩) h⟩

set_option maxHeartbeats 800000 in
theorem less_any (a1 a2 b1 b2 : Int) (w : World) :
    Calls Try.prog 19 #[pr a1 a2, pr b1 b2] w fun e w' => e = .returned (.bool (lessB a1 a2 b1 b2)) ∧ Below w.heap.size w w' := by
  by_cases g1 : a1 < b1
  · have e1 : lessB a1 a2 b1 b2 = true := by simp [lessB, g1]
    rw [e1]
    go_enter Try.func19, Try.ntmps19
    go_wp2
    go_ret
    exact ⟨rfl, ((Below.refl _ _).alloc (Nat.le_refl _) _).alloc (by simp) _⟩
  by_cases g2 : a1 = b1
  · subst g2
    by_cases g3 : a2 < b2
    · have e1 : lessB a1 a2 a1 b2 = true := by simp [lessB, g3]
      rw [e1]
      go_enter Try.func19, Try.ntmps19
      go_wp2
      go_ret
      exact ⟨rfl, ((Below.refl _ _).alloc (Nat.le_refl _) _).alloc (by simp) _⟩
    · have e1 : lessB a1 a2 a1 b2 = false := by simp [lessB, g3]
      rw [e1]
      go_enter Try.func19, Try.ntmps19
      go_wp2
      go_ret
      exact ⟨rfl, ((Below.refl _ _).alloc (Nat.le_refl _) _).alloc (by simp) _⟩
  · have e1 : lessB a1 a2 b1 b2 = false := by simp [lessB, g1, g2]
    rw [e1]
    go_enter Try.func19, Try.ntmps19
    go_wp2
    go_ret
    exact ⟨rfl, ((Below.refl _ _).alloc (Nat.le_refl _) _).alloc (by simp) _⟩

theorem mo_yes {a1 a2 b1 b2 : Int} (h : lessB b1 b2 a1 a2 = true) : mo1 a1 a2 b1 b2 = a1 ∧ mo2 a1 a2 b1 b2 = a2 := by
  have : lessB a1 a2 b1 b2 = false := by simp [lessB] at h ⊢; omega
  simp [mo1, mo2, this]
theorem mo_no {a1 a2 b1 b2 : Int} (h : lessB b1 b2 a1 a2 = false) : mo1 a1 a2 b1 b2 = b1 ∧ mo2 a1 a2 b1 b2 = b2 := by
  by_cases g : lessB a1 a2 b1 b2 = true
  · simp [mo1, mo2, g]
  · have : a1 = b1 ∧ a2 = b2 := by simp [lessB] at h g; omega
    simp [mo1, mo2, this.1, this.2]

set_option maxHeartbeats 800000 in
theorem most_any (a1 a2 b1 b2 : Int) (w : World) :
    Calls Try.prog 21 #[pr a1 a2, pr b1 b2] w fun e w' => e = .returned (pr (mo1 a1 a2 b1 b2) (mo2 a1 a2 b1 b2)) ∧ Below w.heap.size w w' := by
  by_cases g0 : a1 = b1 ∧ a2 = b2
  · obtain ⟨rfl, rfl⟩ := g0
    have e1 : mo1 a1 a2 a1 a2 = a1 := by simp [mo1]
    have e2 : mo2 a1 a2 a1 a2 = a2 := by simp [mo2]
    rw [e1, e2]
    clear e1 e2
    go_enter Try.func21, Try.ntmps21
    go_wp2
    exact bodyPost_ret (v := pr a1 a2) (by simp [results, Try.results21, go_sem]) rfl ⟨rfl, ((((Below.refl _ _).alloc (Nat.le_refl _) _).alloc (by simp) _).alloc (by simp; omega) _)⟩
  by_cases g1 : a1 = b1
  · subst g1
    have g2 : ¬ a2 = b2 := fun h => g0 ⟨rfl, h⟩
    clear g0
    cases g : lessB a1 b2 a1 a2
    ·
      obtain ⟨e1, e2⟩ := mo_no g
      rw [e1, e2]
      clear e1 e2
      have G := Lib.hid g
      clear g
      go_enter Try.func21, Try.ntmps21
      go_wp2_with (go_at_call 19; refine (less_any _ _ _ _ _).mono ?_; rw [G.out]; rintro e w1 ⟨rfl, hb⟩; obtain ⟨hc, hf⟩ := bcell hb; have hz := hb.size; simp at hz hb)
      exact bodyPost_ret (v := pr a1 b2) (by simp [results, Try.results21, go_sem, hc, hf, hz, show w.heap.size + 1 + 1 < w1.heap.size by omega]) rfl ⟨rfl, ((((((Below.refl _ _).alloc (Nat.le_refl _) _).alloc (by simp) _).alloc (by simp; omega) _).trans (hb.mono (by omega))).setCell (by simp; omega) _).setCell (by simp; omega) _⟩
    ·
      obtain ⟨e1, e2⟩ := mo_yes g
      rw [e1, e2]
      clear e1 e2
      have G := Lib.hid g
      clear g
      go_enter Try.func21, Try.ntmps21
      go_wp2_with (go_at_call 19; refine (less_any _ _ _ _ _).mono ?_; rw [G.out]; rintro e w1 ⟨rfl, hb⟩; obtain ⟨hc, hf⟩ := bcell hb; have hz := hb.size; simp at hz hb)
      exact bodyPost_ret (v := pr a1 a2) (by simp [results, Try.results21, go_sem, hc, hf, hz, show w.heap.size + 1 + 1 < w1.heap.size by omega]) rfl ⟨rfl, ((((((Below.refl _ _).alloc (Nat.le_refl _) _).alloc (by simp) _).alloc (by simp; omega) _).trans (hb.mono (by omega))).setCell (by simp; omega) _).setCell (by simp; omega) _⟩
  · clear g0
    cases g : lessB b1 b2 a1 a2
    ·
      obtain ⟨e1, e2⟩ := mo_no g
      rw [e1, e2]
      clear e1 e2
      have G := Lib.hid g
      clear g
      go_enter Try.func21, Try.ntmps21
      go_wp2_with (go_at_call 19; refine (less_any _ _ _ _ _).mono ?_; rw [G.out]; rintro e w1 ⟨rfl, hb⟩; obtain ⟨hc, hf⟩ := bcell hb; have hz := hb.size; simp at hz hb)
      exact bodyPost_ret (v := pr b1 b2) (by simp [results, Try.results21, go_sem, hc, hf, hz, show w.heap.size + 1 + 1 < w1.heap.size by omega]) rfl ⟨rfl, ((((((Below.refl _ _).alloc (Nat.le_refl _) _).alloc (by simp) _).alloc (by simp; omega) _).trans (hb.mono (by omega))).setCell (by simp; omega) _).setCell (by simp; omega) _⟩
    ·
      obtain ⟨e1, e2⟩ := mo_yes g
      rw [e1, e2]
      clear e1 e2
      have G := Lib.hid g
      clear g
      go_enter Try.func21, Try.ntmps21
      go_wp2_with (go_at_call 19; refine (less_any _ _ _ _ _).mono ?_; rw [G.out]; rintro e w1 ⟨rfl, hb⟩; obtain ⟨hc, hf⟩ := bcell hb; have hz := hb.size; simp at hz hb)
      exact bodyPost_ret (v := pr a1 a2) (by simp [results, Try.results21, go_sem, hc, hf, hz, show w.heap.size + 1 + 1 < w1.heap.size by omega]) rfl ⟨rfl, ((((((Below.refl _ _).alloc (Nat.le_refl _) _).alloc (by simp) _).alloc (by simp; omega) _).trans (hb.mono (by omega))).setCell (by simp; omega) _).setCell (by simp; omega) _⟩
end Go.Proofs.Ytckjlglinmmohab
