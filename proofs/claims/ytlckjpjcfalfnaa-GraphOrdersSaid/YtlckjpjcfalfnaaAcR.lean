/-
  A loop over an iterator whose variable is a struct: each round lays its variable in new memory ahead of the body. The body never leaves the loop.
-/
import Derived.Test.YtlckjpjcfalfnaaRng
import Derived.RangeFuncGives
import Derived.RangeFuncFrom
namespace Go.Proofs.Ytlckjpjcfalfnaa
open Go.RowKit
set_option linter.unusedSimpArgs false
set_option linter.unusedVariables false

section
variable {F : Fence} {n : Nat} {P : Program}
theorem keepsO_alloc (W : World) (o : Obj) : KeepsOthers W (W.alloc o) :=
  ⟨by simp, fun k o' h _ => (Below.heap_alloc _ _ k (Array.getElem?_eq_some_iff.1 h).1).trans h⟩
theorem wpIn_range_gives {α : Type} {g : Operand} {ps : Array Tmp} {assign body : Code} {Q : Exit → Act → World → Prop} {a : Act} {w : World}
    (hro : F.round = none) (h1 : 1 ≤ n) {gf : Nat} {lb : Array Value} (hg : a.eval g = .func (.func gf) #[] lb) (hFg : F.fn gf) (eg : ∀ args w, (callFunc gf args).run P w = .ok (.enter gf args) w)
    {enc : α → Value} {S : List α → Prop} {N : Nat} {w0 : World} (hseq : SeqGives F (n - 1) P gf lb enc S N w0) (hb0 : Below w0.heap.size w0 w) (hps : ps.size = 1)
    (I : List α → World → Prop) (hI : OwnFrom w.heap.size I) (h0 : I [] w) (a₁ : α → World → Act) (ob : α → Obj)
    (hassign : ∀ (l : Nat) (x : α) (W : World) (K : Act → World → Prop), K (a₁ x W) (W.alloc (ob x)) →
      assign.wpIn (F.inRound l) (n - 1 - 1) P (Exit.then K (fun _ _ _ => False)) { tmps := (ps.zip #[enc x]).foldl (fun t (p, v) => t.setIfInBounds p v) a.tmps, defers := [] } W)
    (hob : ∀ x, (ob x).isCells = true)
    (hbody : ∀ (l : Nat) (pre : List α) (x : α) (W W2 : World), I pre W2 → pre.length < N → w.heap.size ≤ W.heap.size → W2.heap[W.heap.size]? = some (ob x) → body.wpIn (F.inRound l) (n - 1 - 1) P (RndP KeepsWalks I (pre ++ [x]) W2) (a₁ x W) W2)
    (hdone : ∀ (D : Nat) (xs : List α) (W : World), w.heap.size ≤ D → S xs → I xs W → W.heap[D]? = some (.deferred (some [])) → Q .normal { a with defers := { target := .collected D, args := #[] } :: a.defers } W) :
    (Code.rangeFunc g ps assign body).wpIn F n P Q a w := by
  refine wpIn_rangeFunc fun fn hfn => ?_
  rw [hro]
  let rec0 : LoopState → Loop := fun st => { state := st, pending := none, fn, tmps := a.tmps, params := ps, assign, body, defers := w.heap.size }
  have hs1 : (w.alloc (.deferred (some []))).heap.size = w.heap.size + 1 := by simp
  obtain ⟨W1, hW1⟩ : ∃ W1, (w.alloc (.deferred (some []))).alloc (.loop (rec0 .ready)) = W1 := ⟨_, rfl⟩
  have hbw : Below w.heap.size w W1 := by rw [← hW1]; exact ((Below.refl _ w).alloc (Nat.le_refl _) _).alloc (by simp) _
  have hL1 : W1.heap[w.heap.size + 1]? = some (.loop (rec0 .ready)) := by
    rw [← hW1, ← hs1]; exact World.alloc_heap_new _ _
  have hD1 : W1.heap[w.heap.size]? = some (.deferred (some [])) := by
    rw [← hW1, Below.heap_alloc _ _ _ (by simp)]; exact World.alloc_heap_new w _
  have hz1 : W1.heap.size = w.heap.size + 2 := by rw [← hW1]; simp
  have hI1 : I [] W1 := by rw [← hW1]; exact hI.alloc _ (hI.alloc _ h0)
  refine ⟨w.heap.size + 1, [{ target := .collected w.heap.size, args := #[] }], W1, { target := .fn (.func gf) lb, args := #[.func (.yield (w.heap.size + 1)) #[] #[]] }, W1, gf, #[.func (.yield (w.heap.size + 1)) #[] #[]] ++ lb, W1, ?_, ?_, ?_, ?_, fun _ => h1, ?_⟩
  · rw [← hW1]; exact run_enterLoop_outer _ _ _ _ _
  · simp only [resolve, hg]; simp [go_sem]
  · intro f' hf'; simp [Target.leads] at hf'; subst hf'; exact hFg
  · simp [invoke, go_sem, eg]
  · let J : List α → World → Prop := fun pre W => I pre W ∧ W.heap[w.heap.size + 1]? = some (.loop (rec0 .ready)) ∧ W.heap[w.heap.size]? = some (.deferred (some []))
    refine (hseq (w.heap.size + 1) J W1 (hb0.trans (hbw.mono hb0.size)) ?_ ?_ ⟨hI1, hL1, hD1⟩).mono ?_
    · intro s A B row hs hg' hr
      have hr2 : ∀ r, row = some r → ∃ o : Obj, A.heap[r]? = some o ∧ o.isWalk = true := fun r e => (hr r e).2
      refine ⟨hI s A B row hs.1 hg' fun r e => ?_, (grownBy_keeps hg' hr2 hs.2.1 rfl).trans hs.2.1, (grownBy_keeps hg' hr2 hs.2.2 rfl).trans hs.2.2⟩
      obtain ⟨q, o, ho, hw⟩ := hr r e
      exact ⟨by omega, o, ho, Obj.not_cells_of_walk hw⟩
    · rintro pre x W ⟨hi, hl, hd⟩ hp
      have hlt : w.heap.size + 1 < W.heap.size := (Array.getElem?_eq_some_iff.1 hl).1
      obtain ⟨W3, hW3⟩ : ∃ W3, W.alloc (ob x) = W3 := ⟨_, rfl⟩
      have hl3 : W3.heap[w.heap.size + 1]? = some (.loop (rec0 .ready)) := by rw [← hW3]; exact (Below.heap_alloc _ _ _ hlt).trans hl
      have hd3 : W3.heap[w.heap.size]? = some (.deferred (some [])) := by rw [← hW3]; exact (Below.heap_alloc _ _ _ (by omega)).trans hd
      have hi3 : I pre W3 := by rw [← hW3]; exact hI.alloc _ hi
      have ho3 : W3.heap[W.heap.size]? = some (ob x) := by rw [← hW3]; exact World.alloc_heap_new W _
      have hk3 : KeepsWalks W W3 := by rw [← hW3]; exact KeepsWalks.alloc _ _
      refine ⟨fn, _, assign, body, run_yield hl hps.symm, roundIn_of_wpIn hfn (hassign _ x W _ ?_)⟩
      rw [hW3]
      refine ⟨_, run_beginRound hl3 rfl, ?_⟩
      have hlt3 : w.heap.size + 1 < W3.heap.size := (Array.getElem?_eq_some_iff.1 hl3).1
      obtain ⟨W2, hW2⟩ : ∃ W2, W3.putObj (w.heap.size + 1) (.loop { rec0 .ready with state := .busy }) = W2 := ⟨_, rfl⟩
      rw [hW2]
      have hl2 : W2.heap[w.heap.size + 1]? = some (.loop { rec0 .ready with state := .busy }) := by rw [← hW2]; exact World.putObj_heap_same hlt3
      have hd2 : W2.heap[w.heap.size]? = some (.deferred (some [])) := by rw [← hW2]; exact (World.putObj_heap_other (by omega)).trans hd3
      have hi2 : I pre W2 := by rw [← hW2]; exact hI.putObj _ hi3 (by omega) hl3 rfl
      have ho2 : W2.heap[W.heap.size]? = some (ob x) := by rw [← hW2]; exact (World.putObj_heap_other (by omega)).trans ho3
      have hk2 : KeepsWalks W3 W2 := by rw [← hW2]; exact KeepsWalks.putObj _ hl3 rfl
      refine wpIn_mono (hbody _ pre x W W2 hi2 hp (by omega) ho2) ?_
      rintro e a3 W4 q
      cases e with
      | normal =>
        obtain ⟨q1, q2, q3⟩ := q
        have hl4 := q1.same _ _ hl2 rfl
        have hd4 := q1.same _ _ hd2 rfl
        have hlt4 : w.heap.size + 1 < W4.heap.size := (Array.getElem?_eq_some_iff.1 hl4).1
        exact ⟨_, _, run_endRound none hl4, rfl, ⟨hI.putObj _ q3 (by omega) hl4 rfl, World.putObj_heap_same hlt4, (World.putObj_heap_other (by omega)).trans hd4⟩, ((hk3.trans hk2).trans q2).trans (KeepsWalks.putObj _ hl4 rfl)⟩
      | ret => exact q.elim
      | exit id => exact q.elim
      | goto t => exact q.elim
      | panic ch => exact q.elim
      | outgrown => exact q.elim
    · rintro e W2 ⟨⟨v, rfl⟩, xs, hS, hi, hl, hd⟩
      exact ⟨none, _, run_endLoop hl (by simp [rec0]), hdone _ xs _ (Nat.le_refl _) hS (hI.putObj _ hi (by omega) hl rfl) ((World.putObj_heap_other (by omega)).trans hd)⟩
end
end Go.Proofs.Ytlckjpjcfalfnaa
