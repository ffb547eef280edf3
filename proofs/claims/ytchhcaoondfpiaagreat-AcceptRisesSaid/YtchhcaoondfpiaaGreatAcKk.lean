/-
  Texts put together: Rng, AcR, AcJ, AcK, AcD.
-/
import Derived.Test.YtchhcaoondfpiaaGreatArr
import Derived.RangeFuncNested
import Derived.RangeFuncBound
import Derived.RangeFuncCalls
import Derived.RangeFuncLeaves
import Derived.OwnWalkIn
import Derived.TacticsInMore
import Derived.LoopNIn
import Derived.LoopIn
import Derived.RangeFuncGives
import Derived.RangeFuncFrom
import Derived.Test.YtchhcaoondfpiaaGreatAcBa
import Derived.RegionIn
import Derived.Test.YtchhcaoondfpiaaGreatAcIb
import Derived.Sort.MapsRangeIn
namespace Go.Proofs.YtchhcaoondfpiaaGreat
open Go.RowKit
set_option linter.unusedSimpArgs false
set_option linter.unusedVariables false

/-- The iterator g: whatever is handed to it as a round that keeps J and, of the worlds, Kp, is called with things of which Pv holds; behind it J holds of all of them, and Fin of the world. -/
def SeqP {α : Type} (F : Fence) (n : Nat) (P : Program) (g : Nat) (lb : Array Value) (encs : α → Array Value) (Pv : List α → α → Prop) (Kp : World → World → Prop) (Fin : List α → World → Prop) (w : World) : Prop :=
  ∀ (l : Nat) (J : List α → World → Prop) (W : World), Below w.heap.size w W → (∀ s A B, J s A → Below A.heap.size A B → J s B) →
    (∀ pre x W1, J pre W1 → Pv pre x → YieldAt F (n - 1) P l (encs x) W1 fun e W' => e = .returned (.bool true) ∧ J (pre ++ [x]) W' ∧ Kp W1 W') → J [] W →
    CallsIn F n P g (#[.func (.yield l) #[] #[]] ++ lb) W fun e W' => (∃ v, e = .returned v) ∧ ∃ xs, Fin xs W' ∧ J xs W'
/-- How a round's body ends. -/
def RndP {α : Type} (Kp : World → World → Prop) (I : List α → World → Prop) (xs : List α) (W : World) : Exit → Act → World → Prop
  | .normal, _, W' => KeepsOthers W W' ∧ Kp W W' ∧ I xs W'
  | _, _, _ => False
section
variable {F : Fence} {n : Nat} {P : Program}
theorem wpIn_range_fin {α : Type} {g : Operand} {ps : Array Tmp} {assign body : Code} {Q : Exit → Act → World → Prop} {a : Act} {w : World}
    (hro : F.round = none) (h1 : 1 ≤ n) {gf : Nat} {lb : Array Value} (hg : a.eval g = .func (.func gf) #[] lb) (hFg : F.fn gf) (eg : ∀ args w, (callFunc gf args).run P w = .ok (.enter gf args) w)
    {encs : α → Array Value} {Pv : List α → α → Prop} {Kp : World → World → Prop} {Fin : List α → World → Prop} {w0 : World} (hseq : SeqP F (n - 1) P gf lb encs Pv Kp Fin w0)
    (hKt : ∀ {A B C : World}, Kp A B → Kp B C → Kp A C) (hKb : ∀ (W : World) (l : Nat) (o o' : Obj), w.heap.size ≤ l → W.heap[l]? = some o → o.isCells = false → Kp W (W.putObj l o'))
    (hFb : ∀ (xs : List α) (W : World) (l : Nat) (o o' : Obj), w.heap.size ≤ l → W.heap[l]? = some o → o.isCells = false → Fin xs W → Fin xs (W.putObj l o'))
    (hb0 : Below w0.heap.size w0 w) (hps : ∀ x, (encs x).size = ps.size)
    (I : List α → World → Prop) (hIb : ∀ s A B, I s A → Below A.heap.size A B → I s B) (hIp : ∀ (s : List α) (W : World) (l : Nat) (o o' : Obj), w.heap.size ≤ l → W.heap[l]? = some o → o.isCells = false → I s W → I s (W.putObj l o')) (h0 : I [] w) (a₁ : α → Act)
    (hassign : ∀ (l : Nat) (x : α) (W : World) (K : Act → World → Prop), K (a₁ x) W →
      assign.wpIn (F.inRound l) (n - 1 - 1) P (Exit.then K (fun _ _ _ => False)) { tmps := (ps.zip (encs x)).foldl (fun t (p, v) => t.setIfInBounds p v) a.tmps, defers := [] } W)
    (hbody : ∀ (l : Nat) (pre : List α) (x : α) (W : World), I pre W → Pv pre x → body.wpIn (F.inRound l) (n - 1 - 1) P (RndP Kp I (pre ++ [x]) W) (a₁ x) W)
    (hdone : ∀ (D : Nat) (xs : List α) (W : World), w.heap.size ≤ D → Fin xs W → I xs W → W.heap[D]? = some (.deferred (some [])) → Q .normal { a with defers := { target := .collected D, args := #[] } :: a.defers } W) :
    (Code.rangeFunc g ps assign body).wpIn F n P Q a w := by
  refine wpIn_rangeFunc fun fn hfn => ?_
  rw [hro]
  let rec0 : LoopState → Loop := fun st => { state := st, pending := none, fn, tmps := a.tmps, params := ps, assign, body, defers := w.heap.size }
  have hs1 : (w.alloc (.deferred (some []))).heap.size = w.heap.size + 1 := by simp
  obtain ⟨W1, hW1⟩ : ∃ W1, (w.alloc (.deferred (some []))).alloc (.loop (rec0 .ready)) = W1 := ⟨_, rfl⟩
  have hbw : Below w.heap.size w W1 := by rw [← hW1]; exact ((Below.refl _ w).alloc (Nat.le_refl _) _).alloc (by simp) _
  have hL1 : W1.heap[w.heap.size + 1]? = some (.loop (rec0 .ready)) := by
    rw [← hW1, ← hs1]; exact World.alloc_heap_new _ _
  have hD1 : W1.heap[w.heap.size]? = some (.deferred (some [])) := by
    rw [← hW1, Below.heap_alloc _ _ _ (by simp)]; exact World.alloc_heap_new w _
  refine ⟨w.heap.size + 1, [{ target := .collected w.heap.size, args := #[] }], W1, { target := .fn (.func gf) lb, args := #[.func (.yield (w.heap.size + 1)) #[] #[]] }, W1, gf, #[.func (.yield (w.heap.size + 1)) #[] #[]] ++ lb, W1, ?_, ?_, ?_, ?_, fun _ => h1, ?_⟩
  · rw [← hW1]; exact run_enterLoop_outer _ _ _ _ _
  · simp only [resolve, hg]; simp [go_sem]
  · intro f' hf'; simp [Target.leads] at hf'; subst hf'; exact hFg
  · simp [invoke, go_sem, eg]
  · let J : List α → World → Prop := fun pre W => I pre W ∧ W.heap[w.heap.size + 1]? = some (.loop (rec0 .ready)) ∧ W.heap[w.heap.size]? = some (.deferred (some []))
    have old : ∀ {W W' : World} {k : Nat} {o : Obj}, W.heap[k]? = some o → Below W.heap.size W W' → W'.heap[k]? = some o := fun h hb => (hb.block _ (Array.getElem?_eq_some_iff.1 h).1).trans h
    refine (hseq (w.heap.size + 1) J W1 (hb0.trans (hbw.mono hb0.size)) (fun s A B h hb => ⟨hIb s A B h.1 hb, old h.2.1 hb, old h.2.2 hb⟩) ?_ ⟨hIb [] w W1 h0 hbw, hL1, hD1⟩).mono ?_
    · rintro pre x W ⟨hi, hl, hd⟩ hp
      refine ⟨fn, _, assign, body, run_yield hl (hps x), roundIn_of_wpIn hfn (hassign _ x W _ ⟨_, run_beginRound hl rfl, ?_⟩)⟩
      have hlt : w.heap.size + 1 < W.heap.size := (Array.getElem?_eq_some_iff.1 hl).1
      obtain ⟨W2, hW2⟩ : ∃ W2, W.putObj (w.heap.size + 1) (.loop { rec0 .ready with state := .busy }) = W2 := ⟨_, rfl⟩
      rw [hW2]
      have hl2 : W2.heap[w.heap.size + 1]? = some (.loop { rec0 .ready with state := .busy }) := by rw [← hW2]; exact World.putObj_heap_same hlt
      have hd2 : W2.heap[w.heap.size]? = some (.deferred (some [])) := by rw [← hW2]; exact (World.putObj_heap_other (by omega)).trans hd
      have hi2 : I pre W2 := by rw [← hW2]; exact hIp _ _ _ _ _ (by omega) hl rfl hi
      have hk2 : Kp W W2 := by rw [← hW2]; exact hKb _ _ _ _ (by omega) hl rfl
      refine wpIn_mono (hbody _ pre x W2 hi2 hp) ?_
      rintro e a3 W3 q
      cases e with
      | normal =>
        obtain ⟨q1, q2, q3⟩ := q
        have hl3 := q1.same _ _ hl2 rfl
        have hd3 := q1.same _ _ hd2 rfl
        have hlt3 : w.heap.size + 1 < W3.heap.size := (Array.getElem?_eq_some_iff.1 hl3).1
        exact ⟨_, _, run_endRound none hl3, rfl, ⟨hIp _ _ _ _ _ (by omega) hl3 rfl q3, World.putObj_heap_same hlt3, (World.putObj_heap_other (by omega)).trans hd3⟩, hKt (hKt hk2 q2) (hKb _ _ _ _ (by omega) hl3 rfl)⟩
      | ret => exact q.elim
      | exit id => exact q.elim
      | goto t => exact q.elim
      | panic ch => exact q.elim
      | outgrown => exact q.elim
    · rintro e W2 ⟨⟨v, rfl⟩, xs, hf, hi, hl, hd⟩
      exact ⟨none, _, run_endLoop hl (by simp [rec0]), hdone _ xs _ (Nat.le_refl _) (hFb _ _ _ _ _ (by omega) hl rfl hf) (hIp _ _ _ _ _ (by omega) hl rfl hi) ((World.putObj_heap_other (by omega)).trans hd)⟩
end
end Go.Proofs.YtchhcaoondfpiaaGreat
namespace Go.Proofs.YtchhcaoondfpiaaGreat
open Go.RowKit
set_option linter.unusedSimpArgs false
set_option linter.unusedVariables false

section
variable {F : Fence} {n : Nat} {P : Program}
theorem keepsO_alloc (W : World) (o : Obj) : KeepsOthers W (W.alloc o) :=
  ⟨by simp, fun k o' h _ => (Below.heap_alloc _ _ k (Array.getElem?_eq_some_iff.1 h).1).trans h⟩
theorem wpIn_range_gives {α : Type} {g : Operand} {ps : Array Tmp} {assign body : Code} {Q : Exit → Act → World → Prop} {a : Act} {w : World}
    (hro : F.round = none) (h1 : 1 ≤ n) {gf : Nat} {lb : Array Value} (hg : a.eval g = .func (.func gf) #[] lb) (hFg : F.fn gf) (eg : ∀ args w, (callFunc gf args).run P w = .ok (.enter gf args) w)
    {enc : α → Value} {S : List α → Prop} {N : Nat} {w0 : World} (hseq : SeqGives F (n - 1) P gf lb enc S N w0) (hb0 : Below w0.heap.size w0 w) (hps : ps.size = 1)
    (I : List α → World → Prop) (hI : OwnFrom w.heap.size I) (h0 : I [] w) (a₁ : α → World → Act) (ob : α → Obj)
    (hassign : ∀ (l : Nat) (x : α) (W : World) (K : Act → World → Prop), K (a₁ x W) (W.alloc (ob x)) →
      assign.wpIn (F.inRound l) (n - 1 - 1) P (Exit.then K (fun _ _ _ => False)) { tmps := (ps.zip #[enc x]).foldl (fun t (p, v) => t.setIfInBounds p v) a.tmps, defers := [] } W)
    (hob : ∀ x, (ob x).isCells = true)
    (hbody : ∀ (l : Nat) (pre : List α) (x : α) (W W2 : World), I pre W2 → pre.length < N → w.heap.size ≤ W.heap.size → W2.heap[W.heap.size]? = some (ob x) → body.wpIn (F.inRound l) (n - 1 - 1) P (RndP KeepsWalks I (pre ++ [x]) W2) (a₁ x W) W2)
    (hdone : ∀ (D : Nat) (xs : List α) (W : World), w.heap.size ≤ D → S xs → I xs W → W.heap[D]? = some (.deferred (some [])) → Q .normal { a with defers := { target := .collected D, args := #[] } :: a.defers } W) :
    (Code.rangeFunc g ps assign body).wpIn F n P Q a w := by
  refine wpIn_rangeFunc fun fn hfn => ?_
  rw [hro]
  let rec0 : LoopState → Loop := fun st => { state := st, pending := none, fn, tmps := a.tmps, params := ps, assign, body, defers := w.heap.size }
  have hs1 : (w.alloc (.deferred (some []))).heap.size = w.heap.size + 1 := by simp
  obtain ⟨W1, hW1⟩ : ∃ W1, (w.alloc (.deferred (some []))).alloc (.loop (rec0 .ready)) = W1 := ⟨_, rfl⟩
  have hbw : Below w.heap.size w W1 := by rw [← hW1]; exact ((Below.refl _ w).alloc (Nat.le_refl _) _).alloc (by simp) _
  have hL1 : W1.heap[w.heap.size + 1]? = some (.loop (rec0 .ready)) := by
    rw [← hW1, ← hs1]; exact World.alloc_heap_new _ _
  have hD1 : W1.heap[w.heap.size]? = some (.deferred (some [])) := by
    rw [← hW1, Below.heap_alloc _ _ _ (by simp)]; exact World.alloc_heap_new w _
  have hz1 : W1.heap.size = w.heap.size + 2 := by rw [← hW1]; simp
  have hI1 : I [] W1 := by rw [← hW1]; exact hI.alloc _ (hI.alloc _ h0)
  refine ⟨w.heap.size + 1, [{ target := .collected w.heap.size, args := #[] }], W1, { target := .fn (.func gf) lb, args := #[.func (.yield (w.heap.size + 1)) #[] #[]] }, W1, gf, #[.func (.yield (w.heap.size + 1)) #[] #[]] ++ lb, W1, ?_, ?_, ?_, ?_, fun _ => h1, ?_⟩
  · rw [← hW1]; exact run_enterLoop_outer _ _ _ _ _
  · simp only [resolve, hg]; simp [go_sem]
  · intro f' hf'; simp [Target.leads] at hf'; subst hf'; exact hFg
  · simp [invoke, go_sem, eg]
  · let J : List α → World → Prop := fun pre W => I pre W ∧ W.heap[w.heap.size + 1]? = some (.loop (rec0 .ready)) ∧ W.heap[w.heap.size]? = some (.deferred (some []))
    refine (hseq (w.heap.size + 1) J W1 (hb0.trans (hbw.mono hb0.size)) ?_ ?_ ⟨hI1, hL1, hD1⟩).mono ?_
    · intro s A B row hs hg' hr
      have hr2 : ∀ r, row = some r → ∃ o : Obj, A.heap[r]? = some o ∧ o.isWalk = true := fun r e => (hr r e).2
      refine ⟨hI s A B row hs.1 hg' fun r e => ?_, (grownBy_keeps hg' hr2 hs.2.1 rfl).trans hs.2.1, (grownBy_keeps hg' hr2 hs.2.2 rfl).trans hs.2.2⟩
      obtain ⟨q, o, ho, hw⟩ := hr r e
      exact ⟨by omega, o, ho, Obj.not_cells_of_walk hw⟩
    · rintro pre x W ⟨hi, hl, hd⟩ hp
      have hlt : w.heap.size + 1 < W.heap.size := (Array.getElem?_eq_some_iff.1 hl).1
      obtain ⟨W3, hW3⟩ : ∃ W3, W.alloc (ob x) = W3 := ⟨_, rfl⟩
      have hl3 : W3.heap[w.heap.size + 1]? = some (.loop (rec0 .ready)) := by rw [← hW3]; exact (Below.heap_alloc _ _ _ hlt).trans hl
      have hd3 : W3.heap[w.heap.size]? = some (.deferred (some [])) := by rw [← hW3]; exact (Below.heap_alloc _ _ _ (by omega)).trans hd
      have hi3 : I pre W3 := by rw [← hW3]; exact hI.alloc _ hi
      have ho3 : W3.heap[W.heap.size]? = some (ob x) := by rw [← hW3]; exact World.alloc_heap_new W _
      have hk3 : KeepsWalks W W3 := by rw [← hW3]; exact KeepsWalks.alloc _ _
      refine ⟨fn, _, assign, body, run_yield hl hps.symm, roundIn_of_wpIn hfn (hassign _ x W _ ?_)⟩
      rw [hW3]
      refine ⟨_, run_beginRound hl3 rfl, ?_⟩
      have hlt3 : w.heap.size + 1 < W3.heap.size := (Array.getElem?_eq_some_iff.1 hl3).1
      obtain ⟨W2, hW2⟩ : ∃ W2, W3.putObj (w.heap.size + 1) (.loop { rec0 .ready with state := .busy }) = W2 := ⟨_, rfl⟩
      rw [hW2]
      have hl2 : W2.heap[w.heap.size + 1]? = some (.loop { rec0 .ready with state := .busy }) := by rw [← hW2]; exact World.putObj_heap_same hlt3
      have hd2 : W2.heap[w.heap.size]? = some (.deferred (some [])) := by rw [← hW2]; exact (World.putObj_heap_other (by omega)).trans hd3
      have hi2 : I pre W2 := by rw [← hW2]; exact hI.putObj _ hi3 (by omega) hl3 rfl
      have ho2 : W2.heap[W.heap.size]? = some (ob x) := by rw [← hW2]; exact (World.putObj_heap_other (by omega)).trans ho3
      have hk2 : KeepsWalks W3 W2 := by rw [← hW2]; exact KeepsWalks.putObj _ hl3 rfl
      refine wpIn_mono (hbody _ pre x W W2 hi2 hp (by omega) ho2) ?_
      rintro e a3 W4 q
      cases e with
      | normal =>
        obtain ⟨q1, q2, q3⟩ := q
        have hl4 := q1.same _ _ hl2 rfl
        have hd4 := q1.same _ _ hd2 rfl
        have hlt4 : w.heap.size + 1 < W4.heap.size := (Array.getElem?_eq_some_iff.1 hl4).1
        exact ⟨_, _, run_endRound none hl4, rfl, ⟨hI.putObj _ q3 (by omega) hl4 rfl, World.putObj_heap_same hlt4, (World.putObj_heap_other (by omega)).trans hd4⟩, ((hk3.trans hk2).trans q2).trans (KeepsWalks.putObj _ hl4 rfl)⟩
      | ret => exact q.elim
      | exit id => exact q.elim
      | goto t => exact q.elim
      | panic ch => exact q.elim
      | outgrown => exact q.elim
    · rintro e W2 ⟨⟨v, rfl⟩, xs, hS, hi, hl, hd⟩
      exact ⟨none, _, run_endLoop hl (by simp [rec0]), hdone _ xs _ (Nat.le_refl _) hS (hI.putObj _ hi (by omega) hl rfl) ((World.putObj_heap_other (by omega)).trans hd)⟩
end
end Go.Proofs.YtchhcaoondfpiaaGreat
namespace Go.Proofs.YtchhcaoondfpiaaGreat
open Go.RowKit Go.Sort Go.Maps
open Go.WideMaps
set_option linter.unusedSimpArgs false
set_option linter.unusedVariables false
set_option maxRecDepth 100000
attribute [local go_sem] Oper.semAt_some

section
variable {F : Fence} {n : Nat} {P : Program} {α : Type} {ops : Array Oper} {rest : List Oper} {o : Oper} {a : Act} {w : World} {Q : Exit → Act → World → Prop}
/-- 'append(l, x...)', inside a fence. -/
theorem Knd.appIn (K : Knd P α) (hg : o.guard = none) (s x : Operand) (ho : o.op = .call { callee := .builtin .append, args := #[s, x], argTypes := #[K.S, K.S] })
    (base : Nat) (v : Value) (l : List α) (hs : a.eval s = v) (hown : K.Own w base v l) (vy : Value) (ks : List α) (hx : a.eval x = vy) (hks : K.Rd w vy ks)
    (hl : l.length + ks.length ≤ 1000000) (hbase : base ≤ w.heap.size)
    (h : ∀ v' w', K.Own w' base v' (l ++ ks) → Below base w w' → w.grownBy w' v.ownBlock → wpListIn F n P ops Q rest (a.put o.dst v') w') : wpListIn F n P ops Q (o :: rest) a w := by
  obtain ⟨v', w', hr, q1, q2, q3, q4⟩ := K.run_app hown vy ks hks (fun _ _ => trivial) hl hbase o.type
  refine wpListIn_plain hg fun k hk => ?_
  unfold Oper.wpIn
  refine ⟨?_, ?_⟩
  · simp [Oper.about, ho, resolve, Target.leads, Sem.run_pure]
  · rw [Oper.semAt_plain F _ _ (by rw [ho]; intro c hc'; cases hc')]
    simp [execOp, ho, resolve, invoke, builtin, hs, hx, hr, Result.andThen]
    exact hk _ _ (h v' w' q1 q2 q3)
end
theorem bk_grown {w w' : World} {b : Nat} {T : TypeId} {cs : List Value} {row : Option Nat} (h : Bk w b T cs) (hg : w.grownBy w' row) (hr : ∀ r, row = some r → ∃ o : Obj, w.heap[r]? = some o ∧ o.isCells = false) : Bk w' b T cs := by
  refine (hg.block b h.lt fun e => ?_).trans h
  obtain ⟨o, ho, hc⟩ := hr b e.symm
  rw [h] at ho
  cases ho
  cases hc
theorem own_grownC {w w' : World} {base : Nat} {v : Value} {l : List I3} {row : Option Nat} (h : IK.Own w base v l) (hg : w.grownBy w' row) (hr : ∀ r, row = some r → ∃ o : Obj, w.heap[r]? = some o ∧ o.isCells = false) : IK.Own w' base v l := by
  refine h.keepB fun k hk => ?_
  obtain ⟨hlt, cs, fr, hc⟩ := h.blk k hk
  refine hg.block k hlt fun e => ?_
  obtain ⟨o, ho, hn⟩ := hr k e.symm
  rw [hc] at ho
  cases ho
  cases hn
/-- What slices.AppendSeq keeps of its own between two rounds. -/
def ApI (w : World) (ss : List I3) (W : World) : Prop := ∃ v, Bk W w.heap.size 44 [v] ∧ IK.Own W (w.heap.size + 1) v ss ∧ Below w.heap.size w W ∧ w.heap.size + 1 ≤ W.heap.size
theorem apI_own (w : World) (B : Nat) (hB : w.heap.size ≤ B) : OwnFrom B (ApI w) := by
  rintro s W W' row ⟨v, h1, h2, h3, h4⟩ hg hr
  have hr2 : ∀ r, row = some r → ∃ o : Obj, W.heap[r]? = some o ∧ o.isCells = false := fun r e => (hr r e).2
  exact ⟨v, bk_grown h1 hg hr2, own_grownC h2 hg hr2, h3.grown hg h3.size (fun k e => Nat.le_trans hB (hr k e).1), Nat.le_trans h4 hg.size⟩
def ColP (S : List I3 → Prop) (w : World) (e : Ending) (w' : World) : Prop := ∃ v ss, Hid (e = .returned v) ∧ S ss ∧ IK.Own w' w.heap.size v ss ∧ Below w.heap.size w w'
set_option maxHeartbeats 4000000 in
theorem appSeqA {n N : Nat} (hn : 2 ≤ n) (gf : Nat) (lb : Array Value) (eg : ∀ args w, (callFunc gf args).run Tryz.prog w = .ok (.enter gf args) w) (S : List I3 → Prop) (hN : N ≤ 100000) (w : World)
    (hseq : SeqGives Fence.wide (n - 1) Tryz.prog gf lb idV S N w) : CallsIn Fence.wide n Tryz.prog 77 #[.slice none 0 0, .func (.func gf) #[] lb] w (ColP S w) := by
  refine callsIn_of_wp_marks Tryz.func77 rfl trivial ?_ rfl
  simp only [Tryz.ntmps77, List.size_toArray, List.length_cons, List.length_nil, Nat.reduceAdd, Nat.reduceSub, Array.replicate_succ, Array.replicate_zero, List.push_toArray, List.append_toArray, List.nil_append, List.cons_append]
  gi_wp2
  obtain ⟨W0, hW0⟩ : ∃ W0, w.alloc (.cells #[.slice none 0 0] 44) = W0 := ⟨_, rfl⟩
  have hz0 : W0.heap.size = w.heap.size + 1 := by rw [← hW0]; simp
  have hb0 : Below w.heap.size w W0 := by rw [← hW0]; exact (Below.refl _ _).alloc (Nat.le_refl _) _
  have hI0 : ApI w [] W0 := ⟨.slice none 0 0, by rw [← hW0]; exact Bk.new w _ _, Knd.Own.nil _ _, hb0, Nat.le_of_eq hz0.symm⟩
  rw [hW0]
  clear hW0
  refine wpIn_range_gives (F := Fence.wide) (P := Tryz.prog) rfl (by omega) (gf := gf) (lb := lb) rfl trivial eg (N := N) hseq hb0 rfl (ApI w) (apI_own w _ hb0.size) hI0
    (fun x W => { tmps := #[.slice none 0 0, .func (.func gf) #[] lb, .pointer (some ⟨w.heap.size, 0, none⟩), undef, .slice none 0 0, .pointer (some ⟨W.heap.size, 0, none⟩), .func (.func gf) #[] lb, idV x, undef, undef, undef, undef, undef], defers := [] })
    (fun x => .cells #[.int .i64 x.1, .int .i64 x.2.1, .int .i64 x.2.2] 37) ?assign (fun _ => rfl) ?body ?done
  case assign =>
    intro l x W K hK
    gi_wp2
    exact hK
  case body =>
    intro l pre x W W2 hI hp hzW hox
    obtain ⟨x1, x2, x3⟩ := x
    obtain ⟨v, hbx, ho, hb, hz2⟩ := hI
    have hbi : Bk W2 W.heap.size 37 [.int .i64 x1, .int .i64 x2, .int .i64 x3] := hox
    have c2 := hbx.cell 0
    have f2 := hbx.fz 0
    have d0 := hbi.cell 0
    have d1 := hbi.cell 1
    have d2 := hbi.cell 2
    simp only [List.getElem?_cons_zero, List.getElem?_cons_succ] at c2 d0 d1 d2
    obtain ⟨W3, hW3⟩ : ∃ W3, W2.alloc (.cells #[.int .i64 x1, .int .i64 x2, .int .i64 x3] 37) = W3 := ⟨_, rfl⟩
    have hb3 : Below W2.heap.size W2 W3 := by rw [← hW3]; exact (Below.refl _ _).alloc (Nat.le_refl _) _
    have HO3 := Lib.hid (ho.below hb3)
    have HBX3 := Lib.hid (hbx.below hb3)
    have HB3 := Lib.hid (hb.trans (hb3.mono hb.size))
    have HRD : Hid (IK.Rd W3 (.slice (some ⟨W2.heap.size, 0, none⟩) 1 1) [(x1, x2, x3)]) := Lib.hid (by rw [← hW3]; exact IK.rd_box (x1, x2, x3) _ 1 W2)
    have HLN : Hid (pre.length + 1 ≤ 1000000) := Lib.hid (by omega)
    have HBS : Hid (w.heap.size + 1 ≤ W3.heap.size) := Lib.hid (Nat.le_trans hz2 hb3.size)
    have HKO3 : Hid (KeepsOthers W2 W3) := Lib.hid (by rw [← hW3]; exact KeepsOthers.alloc _ _)
    clear hbx ho hb hz2 hbi hox hb3 hzW hp hz0 hb0 hI0 hseq
    gi_wp2_with (gi_at_builtin; (refine Knd.appIn IK rfl (.tmp 8) (.tmp 10) rfl (w.heap.size + 1) v pre rfl HO3.out (.slice (some ⟨W2.heap.size, 0, none⟩) 1 1) [(x1, x2, x3)] rfl HRD.out HLN.out HBS.out ?_))
    intro v' w' ho' hb' hg'
    obtain ⟨a5, k5, hv5⟩ := ho'.slice
    obtain ⟨L5, hL5⟩ : ∃ L, (pre ++ [(x1, x2, x3)]).length = L := ⟨_, rfl⟩
    rw [hL5] at hv5
    subst hv5
    clear hL5
    have hko : KeepsOthers W3 w' := KeepsOthers.of_grownBy hg' (fun j o hj ho2 => by
      obtain ⟨_, cs, fr, hc⟩ := HO3.out.blk j hj
      rw [hc] at ho2
      cases ho2
      rfl)
    have HKO := Lib.hid (HKO3.out.trans hko)
    have hbx' : Bk w' w.heap.size 44 [v] := (hb'.block _ (Nat.lt_succ_self _)).trans HBX3.out
    have HO' := Lib.hid ho'
    have HB' := Lib.hid (HB3.out.trans (hb'.mono (Nat.le_succ _)))
    have HZ' := Lib.hid (Nat.le_trans HBS.out hb'.size)
    have c2' := hbx'.cell 0
    have f2' := hbx'.fz 0
    have z2' := hbx'.lt
    simp only [List.getElem?_cons_zero] at c2'
    have HBX' := Lib.hid hbx'
    clear ho' hb' hg' hko hbx' HO3 HBX3 HB3 HRD HLN HBS HKO3 c2 f2 d0 d1 d2 hW3
    gi_wp2
    refine ⟨HKO.out.trans (KeepsOthers.setCell _ _ _), (HKO.out.trans (KeepsOthers.setCell _ _ _)).walks, .slice a5 L5 k5, HBX'.out.set 0 _, ?_, HB'.out.setCell (Nat.le_refl _) _, ?_⟩
    · exact HO'.out.setA (Nat.lt_succ_self _) _ _
    · simpa using HZ'.out
  case done =>
    rintro D xs W hD hS ⟨v, hbx, ho, hb, hz2⟩ hK
    have c2 := hbx.cell 0
    simp only [List.getElem?_cons_zero] at c2
    have HO := Lib.hid ho
    have HS := Lib.hid hS
    have HB := Lib.hid hb
    have HK := Lib.hid hK
    clear hbx ho hb hz2 hK hS
    gi_wp2
    have hK2 : W.heap[D]? = some (.deferred (some [])) := HK.out
    refine ⟨(by simp), .inl ⟨_, _, rfl, run_takeDeferred hK2, ?_⟩⟩
    refine ⟨v, (by simp [results, Tryz.f77, go_sem]), v, xs, rfl, HS.out, ?_, ?_⟩
    · exact (own_grownC HO.out (grownBy_putObj' W D _) (fun r e => by cases e; exact ⟨_, hK2, rfl⟩)).base (Nat.le_succ _)
    · exact HB.out.grown (grownBy_putObj' W D _) HB.out.size (fun k e => by cases e; exact Nat.le_trans hb0.size hD)
set_option maxHeartbeats 4000000 in
theorem collectA {n N : Nat} (hn : 3 ≤ n) (gf : Nat) (lb : Array Value) (eg : ∀ args w, (callFunc gf args).run Tryz.prog w = .ok (.enter gf args) w) (S : List I3 → Prop) (hN : N ≤ 100000) (w : World)
    (hseq : SeqGives Fence.wide (n - 1 - 1) Tryz.prog gf lb idV S N w) : CallsIn Fence.wide n Tryz.prog 51 #[.func (.func gf) #[] lb] w (ColP S w) := by
  refine callsIn_of_wp Tryz.func51 rfl trivial ?_ rfl
  simp only [Tryz.ntmps51, List.size_toArray, List.length_cons, List.length_nil, Nat.reduceAdd, Nat.reduceSub, Array.replicate_succ, Array.replicate_zero, List.push_toArray, List.append_toArray, List.nil_append, List.cons_append]
  have HA := Lib.hid (appSeqA (n := n - 1) (by omega) gf lb eg S hN w hseq)
  clear hseq
  gi_wp2
  refine ⟨trivial, (fun h => by omega), ?_⟩
  refine HA.out.mono ?_
  rintro e w' ⟨v, ss, he, hS, ho, hb⟩
  rw [he.out]
  gi_wp2
  go_ret
  exact ⟨v, ss, rfl, hS, ho, hb⟩
set_option maxHeartbeats 1600000 in
theorem keysA_any (mb : Nat) (w : World) : Calls Tryz.prog 52 #[.map (some mb)] w fun e w' => e = .returned (.func (.func 78) #[] #[.pointer (some ⟨w.heap.size, 0, none⟩)]) ∧ w.alloc (.cells #[.map (some mb)] 83) = w' := by
  go_enter Tryz.func52, Tryz.ntmps52
  go_wp2
  go_ret
  exact ⟨rfl, rfl⟩
end Go.Proofs.YtchhcaoondfpiaaGreat
namespace Go.Proofs.YtchhcaoondfpiaaGreat
open Go.RowKit Go.Sort Go.Maps
open Go.WideMaps
set_option linter.unusedSimpArgs false
set_option linter.unusedVariables false
set_option maxRecDepth 100000
attribute [local go_sem] Oper.semAt_some

abbrev idsB (l : List (I3 × Ist)) : List I3 := l.map (·.1)
theorem AcIs.met {w : World} {D : DataW Unit} {l : List (I3 × Ist)} (h : AcIs w D l) : Met (idsB l) (Maps.has D) [] :=
  ⟨List.nodup_nil, (fun x h => by cases h), (fun x h => by cases h), (fun x hx => by
    rw [h.has x hx]
    have : hasI (idsB l) x = l.any fun e => decide (e.1 = x) := by
      rw [Bool.eq_iff_iff, hasI_iff, List.any_eq_true]
      simp only [idsB, List.mem_map, decide_eq_true_eq]
    rw [this]
    simp [hasI])⟩
set_option maxHeartbeats 4000000 in
theorem keysA_gives (n : Nat) (hn : 1 ≤ n) {w : World} {Bm b nn : Nat} {D : DataW Unit} {l : List I3} (hBm : Bm < w.heap.size) (hc : w.cell? ⟨Bm, 0, none⟩ = some (.map (some b))) (hown : w.ownsMap (H := Unit) Tryz.prog 37 avElem b nn D) (hM : Met l (Maps.has D) []) (ol : okL l) :
    SeqGives Fence.wide n Tryz.prog 78 #[.pointer (some ⟨Bm, 0, none⟩)] idV (fun ss => ss.Nodup ∧ ∀ x, x ∈ ss ↔ x ∈ l) (Maps.size D) w := by
  intro ll J W hb hJ hY h0
  have hownW : W.ownsMap (H := Unit) Tryz.prog 37 avElem b nn D := hown.kept (row := none) ⟨hb.os, hb.tape, hb.output, hb.size, fun k hk _ => hb.block k hk⟩ (by simp)
  have hcW : W.cell? ⟨Bm, 0, none⟩ = some (.map (some b)) := (hb.cell (p := ⟨Bm, 0, none⟩) hBm).trans hc
  have HY := Lib.hid hY
  have HJ := Lib.hid hJ
  have HM := Lib.hid hM
  have HOL := Lib.hid ol
  have HOW := Lib.hid hownW
  have H0 := Lib.hid h0
  obtain ⟨C, hC⟩ : ∃ C, Maps.size D = C := ⟨_, rfl⟩
  have HC := Lib.hid hC
  clear hY hJ hM ol hownW h0 hown hc hb hC
  refine callsIn_of_wp Tryz.func78 rfl trivial ?_ rfl
  simp only [Tryz.ntmps78, List.size_toArray, List.length_cons, List.length_nil, Nat.reduceAdd, Nat.reduceSub, Array.replicate_succ, Array.replicate_zero, List.push_toArray, List.append_toArray, List.nil_append, List.cons_append]
  gi_wp2_with (first
    | (gi_at_range; refine wpListIn_range_own _ rfl _ 83 rfl 37 48 avK Tryz.underlying83 _ b nn _ rfl HOW.out ?_; intro w0 hrg0 hg0 hs0)
    | gi_in)
  go_frame
  have HR0 : Hid (w0.ranges (H := Unit) Tryz.prog 37 avElem b W.heap.size nn D (Maps.has D) C) := Lib.hid (by have h := hrg0; rw [HC.out] at h; exact h)
  have HJ0 := Lib.hid (HJ.out [] W w0 none H0.out hg0 (fun r e => by cases e))
  clear hrg0 hg0 hs0 H0 hcW
  gi_loopw [3] (fun _ wr => ∃ (left : Lit → Bool) (cnt : Nat) (ss : List I3), Hid (wr.ranges (H := Unit) Tryz.prog 37 avElem b W.heap.size nn D left cnt) ∧ Hid (ss.length + cnt ≤ C) ∧ Hid (Met l left ss) ∧ Hid (J ss wr))
    (fun _ wr => wr.rangeLeft b W.heap.size)
  case atStart => exact ⟨_, _, [], HR0, Lib.hid (by simp), HM, HJ0⟩
  case round =>
    clear HR0 HJ0 HM
    obtain ⟨left, cnt, ss, hR, hcs, hMet, hJs⟩ := hrel
    gi_wp2_with (first
      | (gi_at_next; refine wpListIn_next_ranges _ rfl _ rfl 37 avK avElem idV avV (fun key kl hk => by obtain ⟨x, hx, _⟩ := idKey_inv key kl hk; exact ⟨x, hx⟩) (fun v y hv => by obtain ⟨c, _, e, _⟩ := avElem_inv hv; exact ⟨c, e⟩) b W.heap.size nn _ _ _ rfl hR.out ?_ ?_)
      | gi_in)
    · intro hc0 hl0
      have HF : Hid (ss.Nodup ∧ ∀ x, x ∈ ss ↔ x ∈ l) := Lib.hid ⟨hMet.out.nodup, hMet.out.done hl0 HOL.out⟩
      clear hl0 hc0
      gi_wp2
      go_end0
      exact ⟨⟨_, rfl⟩, ss, HF.out, hJs.out⟩
    · intro x1 x2 x3 c kl yd yp w2 cnt2 hkey hlk hv hat hrg2 hlt hg2 hs2 hen
      obtain ⟨x', ex, hxo⟩ := idKey_inv _ _ hkey
      have e : ((x1, x2, x3) : I3) = x' := by
        simp only [Value.agg.injEq, Array.mk.injEq, List.cons.injEq, Value.int.injEq, true_and, and_true] at ex
        exact i3_ext ex.1 ex.2.1 ex.2.2
      rw [← e] at hxo
      obtain rfl : kl = kf (x1, x2, x3) := Option.some.inj (hkey.symm.trans (kf_key hxo))
      have hJ2 : J ss w2 := HJ.out ss wr w2 (some W.heap.size) hJs.out hg2 (fun r e => by cases e; exact ⟨Nat.le_refl _, hR.out.iter_walk⟩)
      obtain ⟨w5, hw5⟩ : ∃ w5, w2.alloc (.cells #[.int .i64 x1, .int .i64 x2, .int .i64 x3] 37) = w5 := ⟨_, rfl⟩
      have hJ5 : J ss w5 := by rw [← hw5]; exact HJ.out ss w2 _ none hJ2 (World.grownBy_alloc w2 _ none) (fun r e => by cases e)
      have hb5 : Bk w5 w2.heap.size 37 [.int .i64 x1, .int .i64 x2, .int .i64 x3] := by rw [← hw5]; exact Bk.new w2 _ _
      have d0 := hb5.cell 0
      have d1 := hb5.cell 1
      have d2 := hb5.cell 2
      simp only [List.getElem?_cons_zero, List.getElem?_cons_succ] at d0 d1 d2
      have hk5 : KeepsWalks w2 w5 := by rw [← hw5]; exact KeepsWalks.alloc _ _
      obtain ⟨fn, tmps, assign, body, hy, hRn⟩ := HY.out ss (x1, x2, x3) w5 hJ5 (by have := hcs.out; have := HC.out; omega)
      have HRn := Lib.hid hRn
      have HR2 := Lib.hid hrg2
      have HK5 := Lib.hid hk5
      have HMet2 := Lib.hid (hMet.out.step hxo hlk)
      have HLT : Hid (cnt2 < cnt) := Lib.hid hlt
      have HLE := Lib.hid hR.out.left_eq
      simp only [idV] at hy
      clear hs2 hkey hlk hv hat hrg2 hg2 hJ2 hJ5 hk5 hRn hR hMet hJs ex e hlt
      gi_wp2
      try rw [hw5]
      refine HRn.out.mono ?_
      rintro e W3 ⟨rfl, hJ3, hk3⟩
      have hr3 := Lib.hid ((HR2.out.of_walks HK5.out).of_walks hk3)
      have HJ3 := Lib.hid hJ3
      have HC3 : Hid ((ss ++ [(x1, x2, x3)]).length + cnt2 ≤ C) := Lib.hid (by have := hcs.out; have := HLT.out; simp; omega)
      clear hJ3 hk3 hw5 hy d0 d1 d2 hb5 HRn HK5 HR2
      gi_wp2
      go_roundw
      case rel => exact ⟨_, cnt2, ss ++ [(x1, x2, x3)], hr3, HC3, HMet2, HJ3⟩
      case measure => rw [hr3.out.left_eq, HLE.out]; exact HLT.out
theorem idsB_nodup {l : List (I3 × Ist)} (h : RisesB l) : (idsB l).Pairwise fun a b => ltI a b = true := List.pairwise_map.2 h
theorem clnI_mem {l ss : List I3} (h : l.Pairwise fun a b => ltI a b = true) (hm : ∀ x, x ∈ ss ↔ x ∈ l) : clnI ss = l := clnI_eq h fun x => (hm x).symm
set_option maxHeartbeats 4000000 in
theorem bids_any {w : World} {B g mb K : Nat} {b : BSt} (h : BkAt w B g mb K b) (hK : K ≤ 1000) : Calls Tryz.prog 22 #[bP g] w (RowP (idsB b.l) w) := by
  obtain ⟨D, m, hm, hM, hI⟩ := h.map
  have c3 := h.c3
  have HM := Lib.hid hM
  have hsz : Maps.size D ≤ 1000 := Nat.le_trans hM.size_le (by omega)
  have hlen : (idsB b.l).length ≤ 1000 := by rw [List.length_map, ← hI.size]; exact hsz
  have HMet := Lib.hid hI.met
  have HOL : Hid (okL (idsB b.l)) := Lib.hid (fun x hx => by obtain ⟨e, he, rfl⟩ := List.mem_map.1 hx; exact h.keys e he)
  have HRise := Lib.hid (idsB_nodup h.rise)
  have HLen := Lib.hid hlen
  have HSz := Lib.hid hsz
  clear h hm hM hI hsz hlen hK
  go_enter Tryz.func22, Tryz.ntmps22
  go_wp2_with fail
  refine (keysA_any mb w).mono ?_
  rintro e w1 ⟨rfl, hw1⟩
  have hb1 : Below w.heap.size w w1 := by rw [← hw1]; exact (Below.refl _ _).alloc (Nat.le_refl _) _
  have HCol : Hid (Calls Tryz.prog 51 #[.func (.func 78) #[] #[.pointer (some ⟨w.heap.size, 0, none⟩)]] w1 (ColP (fun ss => ss.Nodup ∧ ∀ x, x ∈ ss ↔ x ∈ idsB b.l) w1)) := Lib.hid ((callsIn_wide (n := 6)).1 (collectA (by omega) _ _ (enters_of Tryz.func78 (by kernel_rfl) rfl) _ (N := Maps.size D) (by have := HSz.out; omega) w1
    (keysA_gives 4 (by omega) (by rw [← hw1]; simp) (by rw [← hw1]; simp [go_sem]) (HM.out.kept (row := none) ⟨hb1.os, hb1.tape, hb1.output, hb1.size, fun k hk _ => hb1.block k hk⟩ (by simp)) HMet.out HOL.out)))
  have HB1 := Lib.hid hb1
  clear hb1 hw1 c3
  go_wp2_with fail
  refine HCol.out.mono ?_
  rintro e w2 ⟨v2, ss, he, hS, ho, hb⟩
  rw [he.out]
  have HCl := Lib.hid (clean_any v2 ss w2 ho.rd (fun x hx => HOL.out x ((hS.2 x).1 hx)) (by
    have e := sorted_cln hS.1 hS.2
    rw [clnI_mem HRise.out (fun _ => Iff.rfl)] at e
    have h1 : ss.length = (idsB b.l).length := by rw [← e]; simp
    have := HLen.out
    omega))
  rw [clnI_mem HRise.out hS.2] at HCl
  have HB2 := Lib.hid (HB1.out.trans (hb.mono HB1.out.size))
  obtain ⟨a2, k2, hv2⟩ := ho.slice
  obtain ⟨M2, hM2⟩ : ∃ M2, ss.length = M2 := ⟨_, rfl⟩
  rw [hM2] at hv2
  subst hv2
  clear he hS ho hb hM2 HCol
  go_wp2_with fail
  refine HCl.out.mono ?_
  rintro e w3 ⟨v3, he, ho, hb⟩
  rw [he.out]
  have HO3 := Lib.hid (ho.base HB2.out.size)
  have HB3 := Lib.hid (HB2.out.trans (hb.mono HB2.out.size))
  clear he ho hb
  go_wp2
  go_ret
  exact ⟨v3, rfl, HO3.out, HB3.out⟩
end Go.Proofs.YtchhcaoondfpiaaGreat
namespace Go.Proofs.YtchhcaoondfpiaaGreat
open Go.RowKit Go.Sort
open Go.WideMaps
set_option linter.unusedSimpArgs false
set_option linter.unusedVariables false
set_option maxRecDepth 100000

/-- Elements of a row of what is known, with lists that lie in w. -/
def KnE (w : World) (rs : List (Cls 13)) (l : List Kn) : Prop := rs.length = l.length ∧ ∀ (j : Nat) (h : j < rs.length) (h2 : j < l.length), ∃ a c, rs[j].cs = knE l[j] (.slice a l[j].a.2.length c) ∧ okI l[j].id ∧ IK.Own w 0 (.slice a l[j].a.2.length c) l[j].a.2 ∧ okL l[j].a.2
theorem KnE.nil (w : World) : KnE w [] [] := ⟨rfl, fun j h => by simp at h⟩
theorem KnE.below {w w' : World} {rs : List (Cls 13)} {l : List Kn} (h : KnE w rs l) (hb : Below w.heap.size w w') : KnE w' rs l :=
  ⟨h.1, fun j q r => by obtain ⟨a, c, h1, h2, h3, h4⟩ := h.2 j q r; exact ⟨a, c, h1, h2, h3.below hb, h4⟩⟩
theorem KnE.snoc {w : World} {rs : List (Cls 13)} {l : List Kn} (h : KnE w rs l) {y : Cls 13} {k : Kn} {a : Option Addr} {c : Nat} (hy : y.cs = knE k (.slice a k.a.2.length c)) (h1 : okI k.id) (h2 : IK.Own w 0 (.slice a k.a.2.length c) k.a.2) (h3 : okL k.a.2) : KnE w (rs ++ [y]) (l ++ [k]) := by
  refine ⟨by simp [h.1], fun j q r => ?_⟩
  by_cases e : j < rs.length
  · have e2 : j < l.length := by rw [← h.1]; exact e
    rw [List.getElem_append_left e, List.getElem_append_left e2]
    exact h.2 j e e2
  · have e1 : j = rs.length := by simp at q; omega
    have e3 : j = l.length := by rw [← h.1]; exact e1
    have g1 : (rs ++ [y])[j] = y := by rw [List.getElem_append_right (by omega)]; simp [e1]
    have g2 : (l ++ [k])[j] = k := by rw [List.getElem_append_right (by omega)]; simp [e3]
    rw [g1, g2]
    exact ⟨a, c, hy, h1, h2, h3⟩
theorem KnE.rows {w : World} {v : Value} {rs : List (Cls 13)} {l : List Kn} (h : KnE w rs l) (hr : KnK.Rd w v rs) : RowIs KnK knS w v rs l :=
  ⟨hr, h.1, fun j q r => by obtain ⟨a, c, h1, h2, h3, h4⟩ := h.2 j q r; exact ⟨_, h1, h2, h3.rd, h4⟩⟩
def KnP (l : List Kn) (w : World) (e : Ending) (w' : World) : Prop := ∃ v rs, Hid (e = .returned v) ∧ KnK.Own w' w.heap.size v rs ∧ KnE w rs l ∧ Below w.heap.size w w'
theorem knB_snoc (l : List (I3 × Ist)) (e : I3 × Ist) : knB (l ++ [e]) = knB l ++ (if 1 ≤ e.2.st then [⟨e.1, e.2.cm, e.2.at'⟩] else []) := by
  unfold knB
  rw [List.filter_append, List.map_append]
  congr 1
  by_cases h : 1 ≤ e.2.st
  · simp [h]
  · simp [h]
theorem knB_len (l : List (I3 × Ist)) : (knB l).length ≤ l.length := by unfold knB; rw [List.length_map]; exact List.length_filter_le _ _
set_option maxHeartbeats 8000000 in
theorem known_any {w : World} {B g mb K : Nat} {b : BSt} (h : BkAt w B g mb K b) (hK : K ≤ 1000) (hs : ∀ e ∈ b.l, okL e.2.at'.2) : Calls Tryz.prog 53 #[bP g] w (KnP (knB b.l) w) := by
  have H := Lib.hid h
  have HS := Lib.hid hs
  have hlen : b.l.length ≤ 1000 := by
    obtain ⟨D, m, hm, hM, hI⟩ := h.map
    rw [← hI.size]
    exact Nat.le_trans hM.size_le (by omega)
  have HLEN := Lib.hid hlen
  have HIDS := Lib.hid (bids_any h hK)
  clear h hs hK hlen
  go_enter Tryz.func53, Tryz.ntmps53
  go_wp2_with fail
  refine HIDS.out.mono ?_
  rintro e w1 ⟨v1, he, ho, hb⟩
  rw [he.out]
  obtain ⟨a1, c1, hv1⟩ := ho.slice
  obtain ⟨N, hN⟩ : ∃ N, b.l.length = N := ⟨_, rfl⟩
  rw [List.length_map, hN] at hv1
  subst hv1
  have HN := Lib.hid hN
  have HROW := Lib.hid ho.rd
  have HB1 := Lib.hid hb
  have hNb : N ≤ 1000 := by have := HLEN.out; rw [hN] at this; exact this
  clear he ho hb hN HIDS
  go_wp2_with fail
  go_loopw [3, 10] (fun sl i wr => ∃ (k : Nat) (v : Value) (rs : List (Cls 13)), k ≤ N ∧ i = .int .i64 k ∧ v = sl ∧ Hid (KnK.Own wr w1.heap.size v rs) ∧ Hid (KnE w rs (knB (b.l.take k))) ∧ Hid (Below w1.heap.size w1 wr)) (fun _ i _ => N - (intOf i).toNat)
  case atStart => exact ⟨0, _, [], Nat.zero_le _, rfl, rfl, Lib.hid (Knd.Own.nil _ _), Lib.hid (KnE.nil w), Lib.hid (Below.refl _ _)⟩
  case round =>
    obtain ⟨k, v, rs, hk, rfl, rfl, hO, hE, hB⟩ := hrel
    by_cases hlt : k < N
    · have hlt' : (k : Int) < (N : Int) := by omega
      have hkl : k < b.l.length := by rw [HN.out]; exact hlt
      obtain ⟨⟨⟨i1, i2, i3⟩, x⟩, hX⟩ : ∃ e, b.l[k] = e := ⟨_, rfl⟩
      have hmem : ((i1, i2, i3), x) ∈ b.l := by rw [← hX]; exact List.getElem_mem hkl
      have hok : okI (i1, i2, i3) := H.out.keys _ hmem
      have hget : getL b.l (i1, i2, i3) = x := getL_mem H.out.rise hmem
      obtain ⟨av, hav, hrun⟩ := H.out.look2 hok
      rw [hget] at hav
      have hval := hav.val
      have hrow := hav.row
      have hokl := HS.out _ hmem
      have hts : b.l.take (k + 1) = b.l.take k ++ [((i1, i2, i3), x)] := by rw [List.take_succ_eq_append_getElem hkl, hX]
      obtain ⟨en, gi, off, hda, hgi, q0, q1, q2, qk⟩ := idCell HROW.out k hlt
      have hgd : (idsB b.l).getD k (0, 0, 0) = (i1, i2, i3) := by
        rw [List.getD, List.getElem?_eq_getElem (by rw [List.length_map]; exact hkl)]
        simp [hX]
      subst hda
      obtain ⟨n0, ⟨n1, n2⟩, ⟨n3, n4⟩, ⟨n5, n6, n7, n8, n9, n10, n11, n12⟩, s, l⟩ := x
      simp only at hrow hokl
      obtain ⟨a, c, hsl⟩ := hrow.slice
      rw [hsl] at hval hrow
      obtain ⟨M, hM⟩ : ∃ M, l.length = M := ⟨_, rfl⟩
      rw [hM] at hval
      simp only [inE] at hval
      rw [hval] at hrun
      rw [hgd] at q0 q1 q2
      simp only at q0 q1 q2
      replace q0 := (hB.out.cell (p := ⟨gi, off + k * 3, none⟩) hgi).trans q0
      replace q1 := (hB.out.cell (p := ⟨gi, off + k * 3 + 1, none⟩) hgi).trans q1
      replace q2 := (hB.out.cell (p := ⟨gi, off + k * 3 + 2, none⟩) hgi).trans q2
      replace hgi : gi < wr.heap.size := Nat.lt_of_lt_of_le hgi hB.out.size
      obtain ⟨X, hXw⟩ : ∃ X, wr.alloc (.cells #[.int .i64 i1, .int .i64 i2, .int .i64 i3] 37) = X := ⟨_, rfl⟩
      have hbX : Below wr.heap.size wr X := by rw [← hXw]; exact (Below.refl _ _).alloc (Nat.le_refl _) _
      have HXI : Hid (Bk X wr.heap.size 37 [.int .i64 i1, .int .i64 i2, .int .i64 i3]) := Lib.hid (by rw [← hXw]; exact Bk.new wr _ _)
      have hB0 : Below w.heap.size w wr := HB1.out.trans (hB.out.mono HB1.out.size)
      have hbwX : Below w.heap.size w X := hB0.trans (hbX.mono hB0.size)
      have HRUN : Hid (∀ w', Below X.heap.size X w' → (Instr.lookup 83 (.map (some mb)) (.agg #[.int .i64 i1, .int .i64 i2, .int .i64 i3]) false).run Tryz.prog w' = .ok (.agg #[.int .i64 n0, .int .i64 n1, .int .i64 n2, .int .i64 n3, .int .i64 n4, .int .i64 n5, .int .i64 n6, .int .i64 n7, .string n8, .string n9, .int .i64 n10, .int .i64 n11, .int .i64 n12, .int .i64 s, .slice a M c]) w') := Lib.hid fun w' hb => hrun w' (hbwX.trans (hb.mono hbwX.size))
      have c3X := (H.out.below hbwX).c3
      have x0 := HXI.out.cell 0
      have x1 := HXI.out.cell 1
      have x2 := HXI.out.cell 2
      have xl := HXI.out.lt
      simp only [List.getElem?_cons_zero, List.getElem?_cons_succ] at x0 x1 x2
      have HBX := Lib.hid hbX
      have HB0 : Hid (Below w1.heap.size w1 X) := Lib.hid (hB.out.trans (hbX.mono hB.out.size))
      have HOX := Lib.hid (hO.out.below hbX)
      have hrl : rs.length ≤ 1000 := by
        have h1 := hE.out.1
        have h2 := knB_len (b.l.take k)
        have h3 := HLEN.out
        rw [List.length_take] at h2
        omega
      have HRL := Lib.hid hrl
      have HSN1 : Hid (1 ≤ n0 → KnE w (rs ++ [⟨knE ⟨(i1, i2, i3), ⟨n5, n6, n7, n8, n9, n10, n11, n12⟩, (s, l)⟩ (.slice a M c), rfl, knE_one rfl⟩]) (knB (b.l.take (k + 1)))) := Lib.hid fun q => by
        rw [hts, knB_snoc, if_pos q]
        exact hE.out.snoc (by rw [← hM]) hok hrow hokl
      have HSN2 : Hid (¬ 1 ≤ n0 → KnE w rs (knB (b.l.take (k + 1)))) := Lib.hid fun q => by
        rw [hts, knB_snoc, if_neg q, List.append_nil]
        exact hE.out
      clear hX hmem hok hget hav hrun hval hrow hokl hts hgd hsl hM hbX hB0 hbwX hO hE hB hrl en
      have HKP : Hid (∀ w', Below X.heap.size X w' → w'.cell? ⟨g, 3, none⟩ = some (.map (some mb)) ∧ w'.cell? ⟨wr.heap.size, 0, none⟩ = some (.int .i64 i1) ∧ w'.cell? ⟨wr.heap.size, 1, none⟩ = some (.int .i64 i2) ∧ w'.cell? ⟨wr.heap.size, 2, none⟩ = some (.int .i64 i3) ∧ (Instr.lookup 83 (.map (some mb)) (.agg #[.int .i64 i1, .int .i64 i2, .int .i64 i3]) false).run Tryz.prog w' = .ok (.agg #[.int .i64 n0, .int .i64 n1, .int .i64 n2, .int .i64 n3, .int .i64 n4, .int .i64 n5, .int .i64 n6, .int .i64 n7, .string n8, .string n9, .int .i64 n10, .int .i64 n11, .int .i64 n12, .int .i64 s, .slice a M c]) w') := Lib.hid fun w' hb => by
        have e1 := HXI.out.below hb
        exact ⟨(hb.cell (p := ⟨g, 3, none⟩) (World.block_lt_of_cell? X _ c3X)).trans c3X, e1.cell 0, e1.cell 1, e1.cell 2, HRUN.out w' hb⟩
      clear c3X x0 x1 x2 xl
      by_cases g1 : (1 : Int) ≤ n0
      · have hd : decide ((1 : Int) ≤ n0) = true := decide_eq_true g1
        go_wp2_with fail
        try rw [hXw]
        clear hXw q0 q1 q2
        refine wp_region_held_drew (S := (fun w' => w'.cell? ⟨g, 3, none⟩ = some (.map (some mb)) ∧ w'.cell? ⟨wr.heap.size, 0, none⟩ = some (.int .i64 i1) ∧ w'.cell? ⟨wr.heap.size, 1, none⟩ = some (.int .i64 i2) ∧ w'.cell? ⟨wr.heap.size, 2, none⟩ = some (.int .i64 i3) ∧ (Instr.lookup 83 (.map (some mb)) (.agg #[.int .i64 i1, .int .i64 i2, .int .i64 i3]) false).run Tryz.prog w' = .ok (.agg #[.int .i64 n0, .int .i64 n1, .int .i64 n2, .int .i64 n3, .int .i64 n4, .int .i64 n5, .int .i64 n6, .int .i64 n7, .string n8, .string n9, .int .i64 n10, .int .i64 n11, .int .i64 n12, .int .i64 s, .slice a M c]) w')) (by kernel_rfl) ?_ (fun hHeld => ?_)
        · ((first
          | exact HKP.out _ (below_setRow (((Below.refl X.heap.size X).alloc (Nat.le_refl _) _).drew) (Nat.le_refl _) _)
          | exact HKP.out _ (((Below.refl X.heap.size X).alloc (Nat.le_refl _) _).drew)
          | exact HKP.out _ (below_setRow (((Below.refl X.heap.size X).drew).alloc (Nat.le_refl _) _) (Nat.le_refl _) _)
          | exact HKP.out _ (((Below.refl X.heap.size X).drew).alloc (Nat.le_refl _) _)
          | exact HKP.out _ (Below.refl X.heap.size X).drew
          | exact HKP.out _ (Below.refl _ _)
          | fail))
        refine tkA 0 (v := ?_) ?_ ?_
        rotate_left
        · (intro w hSw; (try dsimp only at hSw); go_simp; try rfl)
        try simp only [Act.put, gA1, gA2, gA3, gA4, gA5, gA6]
        refine tkA 1 (v := ?_) ?_ ?_
        rotate_left
        · (intro w hSw; (try dsimp only at hSw); go_simp; try rfl)
        try simp only [Act.put, gA1, gA2, gA3, gA4, gA5, gA6]
        refine tkA 2 (v := ?_) ?_ ?_
        rotate_left
        · (intro w hSw; (try dsimp only at hSw); go_simp; try rfl)
        try simp only [Act.put, gA1, gA2, gA3, gA4, gA5, gA6]
        refine tkA 3 (v := ?_) ?_ ?_
        rotate_left
        · (intro w hSw; (try dsimp only at hSw); go_simp; try rfl)
        try simp only [Act.put, gA1, gA2, gA3, gA4, gA5, gA6]
        refine tkA 4 (v := ?_) ?_ ?_
        rotate_left
        · (intro w hSw; (try dsimp only at hSw); go_simp; try rfl)
        try simp only [Act.put, gA1, gA2, gA3, gA4, gA5, gA6]
        refine tkA 5 (v := ?_) ?_ ?_
        rotate_left
        · (intro w hSw; (try dsimp only at hSw); go_simp; try rfl)
        try simp only [Act.put, gA1, gA2, gA3, gA4, gA5, gA6]
        refine wpAnyH_ready (rs := [6]) (by kernel_rfl) (by simp) ?_
        refine (AllReadyH.cons rfl (fun K hK => ?_) AllReadyH.nil)
        go_simp
        refine hK.out _ _ ?_ (fun hHeld => ?_)
        · ((first
          | exact HKP.out _ (below_setRow (((Below.refl X.heap.size X).alloc (Nat.le_refl _) _).drew) (Nat.le_refl _) _)
          | exact HKP.out _ (((Below.refl X.heap.size X).alloc (Nat.le_refl _) _).drew)
          | exact HKP.out _ (below_setRow (((Below.refl X.heap.size X).drew).alloc (Nat.le_refl _) _) (Nat.le_refl _) _)
          | exact HKP.out _ (((Below.refl X.heap.size X).drew).alloc (Nat.le_refl _) _)
          | exact HKP.out _ (Below.refl X.heap.size X).drew
          | exact HKP.out _ (Below.refl _ _)
          | fail))
        clear hK K
        try simp only [Act.put, gA1, gA2, gA3, gA4, gA5, gA6]
        refine wpAnyH_ready (rs := [7]) (by kernel_rfl) (by simp) ?_
        refine (AllReadyH.cons rfl (fun K hK => ?_) AllReadyH.nil)
        have hZ : Bk ((X.alloc (.cells #[.int .i64 0, .int .i64 0, .int .i64 0, .int .i64 0, .int .i64 0, .int .i64 0, .int .i64 0, .int .i64 0, .string ⟨#[]⟩, .string ⟨#[]⟩, .int .i64 0, .int .i64 0, .int .i64 0, .int .i64 0, .slice none 0 0] 48)).drew) X.heap.size 48 [.int .i64 0, .int .i64 0, .int .i64 0, .int .i64 0, .int .i64 0, .int .i64 0, .int .i64 0, .int .i64 0, .string ⟨#[]⟩, .string ⟨#[]⟩, .int .i64 0, .int .i64 0, .int .i64 0, .int .i64 0, .slice none 0 0] := Bk.new X 48 [.int .i64 0, .int .i64 0, .int .i64 0, .int .i64 0, .int .i64 0, .int .i64 0, .int .i64 0, .int .i64 0, .string ⟨#[]⟩, .string ⟨#[]⟩, .int .i64 0, .int .i64 0, .int .i64 0, .int .i64 0, .slice none 0 0]
        refine step_store_rowA rfl 48 _ _ rfl X.heap.size rfl #[.int .i64 n0, .int .i64 n1, .int .i64 n2, .int .i64 n3, .int .i64 n4, .int .i64 n5, .int .i64 n6, .int .i64 n7, .string n8, .string n9, .int .i64 n10, .int .i64 n11, .int .i64 n12, .int .i64 s, .slice a M c] rfl #[.int .i64 0, .int .i64 0, .int .i64 0, .int .i64 0, .int .i64 0, .int .i64 0, .int .i64 0, .int .i64 0, .string ⟨#[]⟩, .string ⟨#[]⟩, .int .i64 0, .int .i64 0, .int .i64 0, .int .i64 0, .slice none 0 0] 48 hZ infoIn rfl (all_toA (by rfl)) ?_
        refine hK.out _ _ ?_ (fun hHeld => ?_)
        · ((first
          | exact HKP.out _ (below_setRow (((Below.refl X.heap.size X).alloc (Nat.le_refl _) _).drew) (Nat.le_refl _) _)
          | exact HKP.out _ (((Below.refl X.heap.size X).alloc (Nat.le_refl _) _).drew)
          | exact HKP.out _ (below_setRow (((Below.refl X.heap.size X).drew).alloc (Nat.le_refl _) _) (Nat.le_refl _) _)
          | exact HKP.out _ (((Below.refl X.heap.size X).drew).alloc (Nat.le_refl _) _)
          | exact HKP.out _ (Below.refl X.heap.size X).drew
          | exact HKP.out _ (Below.refl _ _)
          | fail))
        clear hK K
        try simp only [Act.put, gA1, gA2, gA3, gA4, gA5, gA6]
        refine wpAnyH_done (by kernel_rfl) ?_ _
        go_split_ands
        clear HKP
        have hRY : Bk ((X.alloc (.cells #[.int .i64 0, .int .i64 0, .int .i64 0, .int .i64 0, .int .i64 0, .int .i64 0, .int .i64 0, .int .i64 0, .string ⟨#[]⟩, .string ⟨#[]⟩, .int .i64 0, .int .i64 0, .int .i64 0, .int .i64 0, .slice none 0 0] 48)).drew.setRow X.heap.size #[.int .i64 n0, .int .i64 n1, .int .i64 n2, .int .i64 n3, .int .i64 n4, .int .i64 n5, .int .i64 n6, .int .i64 n7, .string n8, .string n9, .int .i64 n10, .int .i64 n11, .int .i64 n12, .int .i64 s, .slice a M c]) X.heap.size 48 [.int .i64 n0, .int .i64 n1, .int .i64 n2, .int .i64 n3, .int .i64 n4, .int .i64 n5, .int .i64 n6, .int .i64 n7, .string n8, .string n9, .int .i64 n10, .int .i64 n11, .int .i64 n12, .int .i64 s, .slice a M c] := bk_setRowA hZ
        have hBY : Below X.heap.size X ((X.alloc (.cells #[.int .i64 0, .int .i64 0, .int .i64 0, .int .i64 0, .int .i64 0, .int .i64 0, .int .i64 0, .int .i64 0, .string ⟨#[]⟩, .string ⟨#[]⟩, .int .i64 0, .int .i64 0, .int .i64 0, .int .i64 0, .slice none 0 0] 48)).drew.setRow X.heap.size #[.int .i64 n0, .int .i64 n1, .int .i64 n2, .int .i64 n3, .int .i64 n4, .int .i64 n5, .int .i64 n6, .int .i64 n7, .string n8, .string n9, .int .i64 n10, .int .i64 n11, .int .i64 n12, .int .i64 s, .slice a M c]) := below_setRow (((Below.refl X.heap.size X).alloc (Nat.le_refl _) _).drew) (Nat.le_refl _) _
        clear hZ
        generalize ((X.alloc (.cells #[.int .i64 0, .int .i64 0, .int .i64 0, .int .i64 0, .int .i64 0, .int .i64 0, .int .i64 0, .int .i64 0, .string ⟨#[]⟩, .string ⟨#[]⟩, .int .i64 0, .int .i64 0, .int .i64 0, .int .i64 0, .slice none 0 0] 48)).drew.setRow X.heap.size #[.int .i64 n0, .int .i64 n1, .int .i64 n2, .int .i64 n3, .int .i64 n4, .int .i64 n5, .int .i64 n6, .int .i64 n7, .string n8, .string n9, .int .i64 n10, .int .i64 n11, .int .i64 n12, .int .i64 s, .slice a M c]) = Y at *
        have HBY := Lib.hid hBY
        have e1 := HXI.out.below hBY
        have x0 := e1.cell 0
        have x1 := e1.cell 1
        have x2 := e1.cell 2
        have y0 := hRY.cell 0
        have y5 := hRY.cell 5
        have y6 := hRY.cell 6
        have y7 := hRY.cell 7
        have y8 := hRY.cell 8
        have y9 := hRY.cell 9
        have y10 := hRY.cell 10
        have y11 := hRY.cell 11
        have y12 := hRY.cell 12
        have y13 := hRY.cell 13
        have y14 := hRY.cell 14
        simp only [List.getElem?_cons_zero, List.getElem?_cons_succ] at x0 x1 x2 y0 y5 y6 y7 y8 y9 y10 y11 y12 y13 y14
        have HOY := Lib.hid (HOX.out.below hBY)
        have HB2 : Hid (Below w1.heap.size w1 Y) := Lib.hid (HB0.out.trans (hBY.mono HB0.out.size))
        clear hRY hBY e1 HOX HB0
        go_wp2_with (refine KnK.app rfl _ _ rfl w1.heap.size v rs rfl ?own (.slice (some ⟨Y.heap.size, 0, none⟩) 1 1) [⟨knE ⟨(i1, i2, i3), ⟨n5, n6, n7, n8, n9, n10, n11, n12⟩, (s, l)⟩ (.slice a M c), rfl, knE_one rfl⟩] rfl ?rd ?len ?bs ?_)
        case own => exact HOY.out.below ((Below.refl _ _).alloc (Nat.le_refl _) _)
        case rd => exact KnK.rd_boxAt ⟨knE ⟨(i1, i2, i3), ⟨n5, n6, n7, n8, n9, n10, n11, n12⟩, (s, l)⟩ (.slice a M c), rfl, knE_one rfl⟩ _ 1 _ _ rfl
        case len => have := HRL.out; simp only [List.length_cons, List.length_nil]; omega
        case bs => have := HB2.out.size; simp; omega
        intro v4 w4 ho4 hb4 hg4 hn4
        have HO4 := Lib.hid ho4
        have HB4 : Hid (Below w1.heap.size w1 w4) := Lib.hid ((HB2.out.alloc HB2.out.size _).trans hb4)
        clear ho4 hb4 hg4 hn4 HOY HB2 x0 x1 x2 y0 y5 y6 y7 y8 y9 y10 y11 y12 y13 y14
        go_wp2
        go_roundw
        case rel => exact ⟨k + 1, v4, _, by omega, by go_num, rfl, HO4, Lib.hid (HSN1.out g1), HB4⟩
        case measure => simp [intOf]; omega
      · have hd : decide ((1 : Int) ≤ n0) = false := decide_eq_false g1
        go_wp2_with fail
        try rw [hXw]
        clear hXw q0 q1 q2
        refine wp_region_held_drew (S := (fun w' => w'.cell? ⟨g, 3, none⟩ = some (.map (some mb)) ∧ w'.cell? ⟨wr.heap.size, 0, none⟩ = some (.int .i64 i1) ∧ w'.cell? ⟨wr.heap.size, 1, none⟩ = some (.int .i64 i2) ∧ w'.cell? ⟨wr.heap.size, 2, none⟩ = some (.int .i64 i3) ∧ (Instr.lookup 83 (.map (some mb)) (.agg #[.int .i64 i1, .int .i64 i2, .int .i64 i3]) false).run Tryz.prog w' = .ok (.agg #[.int .i64 n0, .int .i64 n1, .int .i64 n2, .int .i64 n3, .int .i64 n4, .int .i64 n5, .int .i64 n6, .int .i64 n7, .string n8, .string n9, .int .i64 n10, .int .i64 n11, .int .i64 n12, .int .i64 s, .slice a M c]) w')) (by kernel_rfl) ?_ (fun hHeld => ?_)
        · ((first
          | exact HKP.out _ (below_setRow (((Below.refl X.heap.size X).alloc (Nat.le_refl _) _).drew) (Nat.le_refl _) _)
          | exact HKP.out _ (((Below.refl X.heap.size X).alloc (Nat.le_refl _) _).drew)
          | exact HKP.out _ (below_setRow (((Below.refl X.heap.size X).drew).alloc (Nat.le_refl _) _) (Nat.le_refl _) _)
          | exact HKP.out _ (((Below.refl X.heap.size X).drew).alloc (Nat.le_refl _) _)
          | exact HKP.out _ (Below.refl X.heap.size X).drew
          | exact HKP.out _ (Below.refl _ _)
          | fail))
        refine tkA 0 (v := ?_) ?_ ?_
        rotate_left
        · (intro w hSw; (try dsimp only at hSw); go_simp; try rfl)
        try simp only [Act.put, gA1, gA2, gA3, gA4, gA5, gA6]
        refine tkA 1 (v := ?_) ?_ ?_
        rotate_left
        · (intro w hSw; (try dsimp only at hSw); go_simp; try rfl)
        try simp only [Act.put, gA1, gA2, gA3, gA4, gA5, gA6]
        refine tkA 2 (v := ?_) ?_ ?_
        rotate_left
        · (intro w hSw; (try dsimp only at hSw); go_simp; try rfl)
        try simp only [Act.put, gA1, gA2, gA3, gA4, gA5, gA6]
        refine tkA 3 (v := ?_) ?_ ?_
        rotate_left
        · (intro w hSw; (try dsimp only at hSw); go_simp; try rfl)
        try simp only [Act.put, gA1, gA2, gA3, gA4, gA5, gA6]
        refine tkA 4 (v := ?_) ?_ ?_
        rotate_left
        · (intro w hSw; (try dsimp only at hSw); go_simp; try rfl)
        try simp only [Act.put, gA1, gA2, gA3, gA4, gA5, gA6]
        refine tkA 5 (v := ?_) ?_ ?_
        rotate_left
        · (intro w hSw; (try dsimp only at hSw); go_simp; try rfl)
        try simp only [Act.put, gA1, gA2, gA3, gA4, gA5, gA6]
        refine wpAnyH_ready (rs := [6]) (by kernel_rfl) (by simp) ?_
        refine (AllReadyH.cons rfl (fun K hK => ?_) AllReadyH.nil)
        go_simp
        refine hK.out _ _ ?_ (fun hHeld => ?_)
        · ((first
          | exact HKP.out _ (below_setRow (((Below.refl X.heap.size X).alloc (Nat.le_refl _) _).drew) (Nat.le_refl _) _)
          | exact HKP.out _ (((Below.refl X.heap.size X).alloc (Nat.le_refl _) _).drew)
          | exact HKP.out _ (below_setRow (((Below.refl X.heap.size X).drew).alloc (Nat.le_refl _) _) (Nat.le_refl _) _)
          | exact HKP.out _ (((Below.refl X.heap.size X).drew).alloc (Nat.le_refl _) _)
          | exact HKP.out _ (Below.refl X.heap.size X).drew
          | exact HKP.out _ (Below.refl _ _)
          | fail))
        clear hK K
        try simp only [Act.put, gA1, gA2, gA3, gA4, gA5, gA6]
        refine wpAnyH_ready (rs := [7]) (by kernel_rfl) (by simp) ?_
        refine (AllReadyH.cons rfl (fun K hK => ?_) AllReadyH.nil)
        have hZ : Bk ((X.alloc (.cells #[.int .i64 0, .int .i64 0, .int .i64 0, .int .i64 0, .int .i64 0, .int .i64 0, .int .i64 0, .int .i64 0, .string ⟨#[]⟩, .string ⟨#[]⟩, .int .i64 0, .int .i64 0, .int .i64 0, .int .i64 0, .slice none 0 0] 48)).drew) X.heap.size 48 [.int .i64 0, .int .i64 0, .int .i64 0, .int .i64 0, .int .i64 0, .int .i64 0, .int .i64 0, .int .i64 0, .string ⟨#[]⟩, .string ⟨#[]⟩, .int .i64 0, .int .i64 0, .int .i64 0, .int .i64 0, .slice none 0 0] := Bk.new X 48 [.int .i64 0, .int .i64 0, .int .i64 0, .int .i64 0, .int .i64 0, .int .i64 0, .int .i64 0, .int .i64 0, .string ⟨#[]⟩, .string ⟨#[]⟩, .int .i64 0, .int .i64 0, .int .i64 0, .int .i64 0, .slice none 0 0]
        refine step_store_rowA rfl 48 _ _ rfl X.heap.size rfl #[.int .i64 n0, .int .i64 n1, .int .i64 n2, .int .i64 n3, .int .i64 n4, .int .i64 n5, .int .i64 n6, .int .i64 n7, .string n8, .string n9, .int .i64 n10, .int .i64 n11, .int .i64 n12, .int .i64 s, .slice a M c] rfl #[.int .i64 0, .int .i64 0, .int .i64 0, .int .i64 0, .int .i64 0, .int .i64 0, .int .i64 0, .int .i64 0, .string ⟨#[]⟩, .string ⟨#[]⟩, .int .i64 0, .int .i64 0, .int .i64 0, .int .i64 0, .slice none 0 0] 48 hZ infoIn rfl (all_toA (by rfl)) ?_
        refine hK.out _ _ ?_ (fun hHeld => ?_)
        · ((first
          | exact HKP.out _ (below_setRow (((Below.refl X.heap.size X).alloc (Nat.le_refl _) _).drew) (Nat.le_refl _) _)
          | exact HKP.out _ (((Below.refl X.heap.size X).alloc (Nat.le_refl _) _).drew)
          | exact HKP.out _ (below_setRow (((Below.refl X.heap.size X).drew).alloc (Nat.le_refl _) _) (Nat.le_refl _) _)
          | exact HKP.out _ (((Below.refl X.heap.size X).drew).alloc (Nat.le_refl _) _)
          | exact HKP.out _ (Below.refl X.heap.size X).drew
          | exact HKP.out _ (Below.refl _ _)
          | fail))
        clear hK K
        try simp only [Act.put, gA1, gA2, gA3, gA4, gA5, gA6]
        refine wpAnyH_done (by kernel_rfl) ?_ _
        go_split_ands
        clear HKP
        have hRY : Bk ((X.alloc (.cells #[.int .i64 0, .int .i64 0, .int .i64 0, .int .i64 0, .int .i64 0, .int .i64 0, .int .i64 0, .int .i64 0, .string ⟨#[]⟩, .string ⟨#[]⟩, .int .i64 0, .int .i64 0, .int .i64 0, .int .i64 0, .slice none 0 0] 48)).drew.setRow X.heap.size #[.int .i64 n0, .int .i64 n1, .int .i64 n2, .int .i64 n3, .int .i64 n4, .int .i64 n5, .int .i64 n6, .int .i64 n7, .string n8, .string n9, .int .i64 n10, .int .i64 n11, .int .i64 n12, .int .i64 s, .slice a M c]) X.heap.size 48 [.int .i64 n0, .int .i64 n1, .int .i64 n2, .int .i64 n3, .int .i64 n4, .int .i64 n5, .int .i64 n6, .int .i64 n7, .string n8, .string n9, .int .i64 n10, .int .i64 n11, .int .i64 n12, .int .i64 s, .slice a M c] := bk_setRowA hZ
        have hBY : Below X.heap.size X ((X.alloc (.cells #[.int .i64 0, .int .i64 0, .int .i64 0, .int .i64 0, .int .i64 0, .int .i64 0, .int .i64 0, .int .i64 0, .string ⟨#[]⟩, .string ⟨#[]⟩, .int .i64 0, .int .i64 0, .int .i64 0, .int .i64 0, .slice none 0 0] 48)).drew.setRow X.heap.size #[.int .i64 n0, .int .i64 n1, .int .i64 n2, .int .i64 n3, .int .i64 n4, .int .i64 n5, .int .i64 n6, .int .i64 n7, .string n8, .string n9, .int .i64 n10, .int .i64 n11, .int .i64 n12, .int .i64 s, .slice a M c]) := below_setRow (((Below.refl X.heap.size X).alloc (Nat.le_refl _) _).drew) (Nat.le_refl _) _
        clear hZ
        generalize ((X.alloc (.cells #[.int .i64 0, .int .i64 0, .int .i64 0, .int .i64 0, .int .i64 0, .int .i64 0, .int .i64 0, .int .i64 0, .string ⟨#[]⟩, .string ⟨#[]⟩, .int .i64 0, .int .i64 0, .int .i64 0, .int .i64 0, .slice none 0 0] 48)).drew.setRow X.heap.size #[.int .i64 n0, .int .i64 n1, .int .i64 n2, .int .i64 n3, .int .i64 n4, .int .i64 n5, .int .i64 n6, .int .i64 n7, .string n8, .string n9, .int .i64 n10, .int .i64 n11, .int .i64 n12, .int .i64 s, .slice a M c]) = Y at *
        have HBY := Lib.hid hBY
        have e1 := HXI.out.below hBY
        have x0 := e1.cell 0
        have x1 := e1.cell 1
        have x2 := e1.cell 2
        have y0 := hRY.cell 0
        have y5 := hRY.cell 5
        have y6 := hRY.cell 6
        have y7 := hRY.cell 7
        have y8 := hRY.cell 8
        have y9 := hRY.cell 9
        have y10 := hRY.cell 10
        have y11 := hRY.cell 11
        have y12 := hRY.cell 12
        have y13 := hRY.cell 13
        have y14 := hRY.cell 14
        simp only [List.getElem?_cons_zero, List.getElem?_cons_succ] at x0 x1 x2 y0 y5 y6 y7 y8 y9 y10 y11 y12 y13 y14
        have HOY := Lib.hid (HOX.out.below hBY)
        have HB2 : Hid (Below w1.heap.size w1 Y) := Lib.hid (HB0.out.trans (hBY.mono HB0.out.size))
        clear hRY hBY e1 HOX HB0
        go_wp2
        go_roundw
        case rel => exact ⟨k + 1, v, rs, by omega, by go_num, rfl, HOY, Lib.hid (HSN2.out g1), HB2⟩
        case measure => simp [intOf]; omega
    · obtain rfl : N = k := by omega
      have hlt' : ¬ (N : Int) < (N : Int) := by omega
      have HE : Hid (KnE w rs (knB b.l)) := Lib.hid (by have := hE.out; rw [← HN.out, List.take_length] at this; exact this)
      clear hE hlt
      go_wp2
      go_ret
      exact ⟨v, rs, rfl, hO.out.base HB1.out.size, HE.out, HB1.out.trans (hB.out.mono HB1.out.size)⟩
end Go.Proofs.YtchhcaoondfpiaaGreat
