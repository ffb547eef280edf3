/-
  Texts put together: Rct, Rcu, Rca.
-/
import Derived.Test.YtnancdbkmompdaaGreatRY
import Derived.Test.YtnancdbkmompdaaGreatRQI
import Derived.Test.YtnancdbkmompdaaGreatRQA
import Derived.RangeFuncNested
import Derived.RangeFuncBound
import Derived.RangeFuncCalls
import Derived.RangeFuncLeaves
import Derived.OwnWalkIn
import Derived.TacticsInMore
import Derived.LoopNIn
import Derived.LoopIn
import Derived.Shelf.Abstract
import Derived.RegionIn
import Derived.BigRegionIn
import Derived.Test.YtnancdbkmompdaaGreatRQH
import Derived.Deep.RegionHeld3
import Derived.Deep.CutRange
namespace Go.Proofs.YtnancdbkmompdaaGreat
open Go.RowKit
set_option linter.unusedSimpArgs false
set_option linter.unusedVariables false
set_option maxRecDepth 100000
set_option maxHeartbeats 40000000
/-- The iterator g: whatever is handed to it as a round that keeps J and, of the worlds, Kp, is called with things of which Pv holds; behind it J holds of all of them, and Fin. -/
def SeqR {α : Type} (F : Fence) (n : Nat) (P : Program) (g : Nat) (lb : Array Value) (encs : α → Array Value) (Pv : Nat → List α → α → World → Prop) (Kp : World → World → Prop) (Fin : List α → Prop) (w : World) : Prop :=
 ∀ (l : Nat) (J : List α → World → Prop) (W : World), Below w.heap.size w W → l < W.heap.size → (∀ s A B, J s A → Below A.heap.size A B → J s B) →
  (∀ pre x W1, J pre W1 → Pv l pre x W1 → YieldAt F (n - 1) P l (encs x) W1 fun e W' => e = .returned (.bool true) ∧ J (pre ++ [x]) W' ∧ Kp W1 W') → J [] W →
  CallsIn F n P g (#[.func (.yield l) #[] #[]] ++ lb) W fun e W' => (∃ v, e = .returned v) ∧ ∃ xs, Fin xs ∧ J xs W'
/-- How a round's body ends. -/
def RndR {α : Type} (z : Nat) (Kp : World → World → Prop) (I : List α → World → Prop) (xs : List α) (W : World) : Exit → Act → World → Prop
 | .normal, _, W' => (W'.heap[z]? = W.heap[z]? ∧ W'.heap[z + 1]? = W.heap[z + 1]?) ∧ Kp W W' ∧ I xs W'
 | _, _, _ => False
section
variable {F : Fence} {n : Nat} {P : Program}
theorem wpIn_range_fin2 {α : Type} {g : Operand} {ps : Array Tmp} {assign body : Code} {Q : Exit → Act → World → Prop} {a : Act} {w : World}
  (hro : F.round = none) (h1 : 1 ≤ n) {gf : Nat} {lb : Array Value} (hg : a.eval g = .func (.func gf) #[] lb) (hFg : F.fn gf) (eg : ∀ args w, (callFunc gf args).run P w = .ok (.enter gf args) w)
  {encs : α → Array Value} {Pv : Nat → List α → α → World → Prop} {Kp : World → World → Prop} {Fin : List α → Prop} {w0 : World} (hseq : SeqR F (n - 1) P gf lb encs Pv Kp Fin w0)
  (hKt : ∀ {A B C : World}, Kp A B → Kp B C → Kp A C) (hKb : ∀ (W : World) (o' : Obj), Kp W (W.putObj (w.heap.size + 1) o')) (hKl : ∀ (W W' : World), w.heap.size ≤ W.heap.size → Below W.heap.size W W' → Kp W W')
  (hb0 : Below w0.heap.size w0 w) (hps : ∀ x, (encs x).size = ps.size)
  (I : List α → World → Prop) (hIb : ∀ s A B, I s A → Below A.heap.size A B → I s B) (hIp : ∀ (s : List α) (W : World) (o o' : Obj), W.heap[w.heap.size + 1]? = some o → o.isCells = false → I s W → I s (W.putObj (w.heap.size + 1) o')) (h0 : I [] w)
  (As : List α → α → Act → World → Prop) (hAp : ∀ (pre : List α) (x : α) (a' : Act) (W : World) (o o' : Obj), W.heap[w.heap.size + 1]? = some o → o.isCells = false → As pre x a' W → As pre x a' (W.putObj (w.heap.size + 1) o'))
  (hassign : ∀ (pre : List α) (x : α) (W : World) (K : Act → World → Prop), I pre W → Pv (w.heap.size + 1) pre x W → w.heap.size + 1 < W.heap.size → (∀ a' W', Below W.heap.size W W' → As pre x a' W' → K a' W') →
   assign.wpIn (F.inRound (w.heap.size + 1)) (n - 1 - 1) P (Exit.then K (fun _ _ _ => False)) { tmps := (ps.zip (encs x)).foldl (fun t (p, v) => t.setIfInBounds p v) a.tmps, defers := [] } W)
  (hbody : ∀ (pre : List α) (x : α) (a' : Act) (W : World), As pre x a' W → w.heap.size + 1 < W.heap.size → body.wpIn (F.inRound (w.heap.size + 1)) (n - 1 - 1) P (RndR w.heap.size Kp I (pre ++ [x]) W) a' W)
  (hdone : ∀ (xs : List α) (W : World), Fin xs → I xs W → W.heap[w.heap.size]? = some (.deferred (some [])) → Q .normal { a with defers := { target := .collected w.heap.size, args := #[] } :: a.defers } W) :
  (Code.rangeFunc g ps assign body).wpIn F n P Q a w := by
 refine wpIn_rangeFunc fun fn hfn => ?_
 rw [hro]
 let rec0 : LoopState → Loop := fun st => { state := st, pending := none, fn, tmps := a.tmps, params := ps, assign, body, defers := w.heap.size }
 have hs1 : (w.alloc (.deferred (some []))).heap.size = w.heap.size + 1 := by simp
 obtain ⟨W1, hW1⟩ : ∃ W1, (w.alloc (.deferred (some []))).alloc (.loop (rec0 .ready)) = W1 := ⟨_, rfl⟩
 have hbw : Below w.heap.size w W1 := by rw [← hW1]; exact ((Below.refl _ w).alloc (Nat.le_refl _) _).alloc (by simp) _
 have hL1 : W1.heap[w.heap.size + 1]? = some (.loop (rec0 .ready)) := by
  rw [← hW1, ← hs1]; exact World.alloc_heap_new _ _
 have hD1 : W1.heap[w.heap.size]? = some (.deferred (some [])) := by
  rw [← hW1, Below.heap_alloc _ _ _ (by simp)]; exact World.alloc_heap_new w _
 refine ⟨w.heap.size + 1, [{ target := .collected w.heap.size, args := #[] }], W1, { target := .fn (.func gf) lb, args := #[.func (.yield (w.heap.size + 1)) #[] #[]] }, W1, gf, #[.func (.yield (w.heap.size + 1)) #[] #[]] ++ lb, W1, ?_, ?_, ?_, ?_, fun _ => h1, ?_⟩
 ·rw [← hW1]; exact run_enterLoop_outer _ _ _ _ _
 ·simp only [resolve, hg]; simp [go_sem]
 ·intro f' hf'; simp [Target.leads] at hf'; subst hf'; exact hFg
 ·simp [invoke, go_sem, eg]
 ·let J : List α → World → Prop := fun pre W => I pre W ∧ W.heap[w.heap.size + 1]? = some (.loop (rec0 .ready)) ∧ W.heap[w.heap.size]? = some (.deferred (some []))
  have old : ∀ {W W' : World} {k : Nat} {o : Obj}, W.heap[k]? = some o → Below W.heap.size W W' → W'.heap[k]? = some o := fun h hb => (hb.block _ (Array.getElem?_eq_some_iff.1 h).1).trans h
  refine (hseq (w.heap.size + 1) J W1 (hb0.trans (hbw.mono hb0.size)) (Array.getElem?_eq_some_iff.1 hL1).1 (fun s A B h hb => ⟨hIb s A B h.1 hb, old h.2.1 hb, old h.2.2 hb⟩) ?_ ⟨hIb [] w W1 h0 hbw, hL1, hD1⟩).mono ?_
  ·rintro pre x W ⟨hi, hl, hd⟩ hp
   have hlt0 : w.heap.size + 1 < W.heap.size := (Array.getElem?_eq_some_iff.1 hl).1
   refine ⟨fn, _, assign, body, run_yield hl (hps x), roundIn_of_wpIn hfn (hassign pre x W _ hi hp hlt0 fun a' W' hbn hAs => ?_)⟩
   have hl' := old hl hbn
   have hd' := old hd hbn
   refine ⟨_, run_beginRound hl' rfl, ?_⟩
   have hlt : w.heap.size + 1 < W'.heap.size := (Array.getElem?_eq_some_iff.1 hl').1
   obtain ⟨W2, hW2⟩ : ∃ W2, W'.putObj (w.heap.size + 1) (.loop { rec0 .ready with state := .busy }) = W2 := ⟨_, rfl⟩
   rw [hW2]
   have hl2 : W2.heap[w.heap.size + 1]? = some (.loop { rec0 .ready with state := .busy }) := by rw [← hW2]; exact World.putObj_heap_same hlt
   have hd2 : W2.heap[w.heap.size]? = some (.deferred (some [])) := by rw [← hW2]; exact (World.putObj_heap_other (by omega)).trans hd'
   have hi2 : As pre x a' W2 := by rw [← hW2]; exact hAp _ _ _ _ _ _ hl' rfl hAs
   have hk2 : Kp W W2 := by rw [← hW2]; exact hKt (hKl _ _ (by omega) hbn) (hKb _ _)
   refine wpIn_mono (hbody pre x a' W2 hi2 (Array.getElem?_eq_some_iff.1 hl2).1) ?_
   rintro e a3 W3 q
   cases e with
   | normal =>
    obtain ⟨q1, q2, q3⟩ := q
    have hl3 := q1.2.trans hl2
    have hd3 := q1.1.trans hd2
    have hlt3 : w.heap.size + 1 < W3.heap.size := (Array.getElem?_eq_some_iff.1 hl3).1
    exact ⟨_, _, run_endRound none hl3, rfl, ⟨hIp _ _ _ _ hl3 rfl q3, World.putObj_heap_same hlt3, (World.putObj_heap_other (by omega)).trans hd3⟩, hKt (hKt hk2 q2) (hKb _ _)⟩
   | ret => exact q.elim
   | exit id => exact q.elim
   | goto t => exact q.elim
   | panic ch => exact q.elim
   | outgrown => exact q.elim
  ·rintro e W2 ⟨⟨v, rfl⟩, xs, hf, hi, hl, hd⟩
   exact ⟨none, _, run_endLoop hl (by simp [rec0]), hdone xs _ hf (hIp _ _ _ _ hl rfl hi) ((World.putObj_heap_other (by omega)).trans hd)⟩
theorem load_rowF {P : Program} {ρ : Operand → Value} {o : Oper} {w : World} (ty : TypeId) (x : Operand) (ho : o.op = .load ty x) (g : Nat) (hx : ρ x = .pointer (some ⟨g, 0, none⟩)) (t : TypeId) (cs : Array Value) (fr : Nat × Nat) (d : TypeDesc) (hg : w.heap[g]? = some (.cells cs t fr))
  (hu : P.underlying ty = some d) (hd : (match d with | .struct _ | .array _ _ => true | _ => false) = true) (hi : (P.info? ty).map (·.size) = some cs.size) : (execOp ρ o).run P w = .ok (.value (.agg cs)) w := by
 unfold execOp
 simp only [ho, hx, Instr.loadAt, Instr.sureAddr, Sem.run_bind, Sem.run_pure, Result.andThen_ok, run_loadVar_row w g t ty cs fr d hg hu hd hi]
/-- An operation by its run, in a fenced walk. -/
theorem wpListIn_val {ops : Array Oper} {rest : List Oper} {o : Oper} {a : Act} {w w2 : World} {Q : Exit → Act → World → Prop} (hw : Region.wanted o (yielded ops a.tmps) = true) (hd : ∀ c, o.op ≠ .defer c) (hab : o.about P w a.eval = none) (v : Value) (hrun : (execOp a.eval o).run P w = .ok (.value v) w2)
  (h : wpListIn F n P ops Q rest (a.put o.dst v) w2) : wpListIn F n P ops Q (o :: rest) a w := by
 refine wpListIn_step fun K hK => ?_
 rw [if_pos hw]
 unfold Oper.wpIn
 refine ⟨fun f hf => (by rw [hab] at hf; cases hf), ?_⟩
 rw [Oper.semAt_plain F _ _ hd, hrun]
 exact hK _ _ h
theorem wpListIn_don {ops : Array Oper} {rest : List Oper} {o : Oper} {a : Act} {w w2 : World} {Q : Exit → Act → World → Prop} (hw : Region.wanted o (yielded ops a.tmps) = true) (hd : ∀ c, o.op ≠ .defer c) (hab : o.about P w a.eval = none) (hrun : (execOp a.eval o).run P w = .ok .skip w2)
  (h : wpListIn F n P ops Q rest (a.put o.dst undef) w2) : wpListIn F n P ops Q (o :: rest) a w := by
 refine wpListIn_step fun K hK => ?_
 rw [if_pos hw]
 unfold Oper.wpIn
 refine ⟨fun f hf => (by rw [hab] at hf; cases hf), ?_⟩
 rw [Oper.semAt_plain F _ _ hd, hrun]
 exact hK _ _ h
theorem wpListIn_load_row {ops : Array Oper} {rest : List Oper} {o : Oper} {a : Act} {w : World} {Q : Exit → Act → World → Prop} (hw : Region.wanted o (yielded ops a.tmps) = true) (ty : TypeId) (x : Operand) (ho : o.op = .load ty x)
  (g : Nat) (hx : a.eval x = .pointer (some ⟨g, 0, none⟩)) (t : TypeId) (cs : Array Value) (fr : Nat × Nat) (d : TypeDesc) (hg : w.heap[g]? = some (.cells cs t fr))
  (hu : P.underlying ty = some d) (hd : (match d with | .struct _ | .array _ _ => true | _ => false) = true) (hi : (P.info? ty).map (·.size) = some cs.size)
  (h : wpListIn F n P ops Q rest (a.put o.dst (.agg cs)) w) : wpListIn F n P ops Q (o :: rest) a w :=
 wpListIn_val hw (by rw [ho]; intro c e; cases e) (by simp [Oper.about, ho]) _ (load_rowF ty x ho g hx t cs fr d hg hu hd hi) h
theorem wpListIn_store_rnm {ops : Array Oper} {rest : List Oper} {o : Oper} {a : Act} {w : World} {Q : Exit → Act → World → Prop} (hw : Region.wanted o (yielded ops a.tmps) = true) (t : TypeId) (x y : Operand) (ho : o.op = .store t x y) (g : Nat) (hx : a.eval x = .pointer (some ⟨g, 0, none⟩)) (cells : Array Value) (hy : a.eval y = .agg cells)
  (old : Array Value) (e : TypeId) (hg : w.heap[g]? = some (.cells old e (0, 0))) (hi : (P.info? t).map (·.size) = some cells.size) (hs : old.size = cells.size) (h1 : cells.all (·.oneCell') = true)
  (w2 : World) (hq : w.setRow g cells = w2) (h : wpListIn F n P ops Q rest (a.put o.dst undef) w2) : wpListIn F n P ops Q (o :: rest) a w := by
 subst hq
 refine wpListIn_don hw (by rw [ho]; intro c e; cases e) (by simp [Oper.about, ho]) ?_ h
 unfold execOp
 simp only [ho, hx, hy, Instr.storeAt, Instr.sureAddr, Sem.run_bind, Sem.run_pure, Result.andThen_ok, run_storeVar_row w g e t old cells hg hi hs h1]
end
attribute [local go_sem] Oper.semAt_some
/-- A list of bytes of which each is told. -/
structure BodR (w : World) (lv : Value) (L : List (List Int)) : Prop where
 row : ∃ a c, lv = .slice a L.length c
 cell : ∀ k, k < L.length → ∃ g off c xv, lv = .slice (some ⟨g, off, none⟩) L.length c ∧ g < w.heap.size ∧ w.cell? ⟨g, off + k, none⟩ = some xv ∧ Bt w xv (L.getD k [])
/-- A body that is a record: its value, its bytes. -/
abbrev Rc1 : Type := Value × List Int
abbrev rcArgs (x : Rc1) : Array Value := #[x.1]
def rcPv (bs : List (List Int)) (l : Nat) (pre : List Rc1) (x : Rc1) (W : World) : Prop :=
 l < W.heap.size ∧ pre.length < bs.length ∧ pre.map (·.2) ++ [x.2] <+: bs.filter (fun b => decide (endE (rcRd (b, 0)).2 = 0)) ∧ BytL x.2 ∧ endE (rcRd (x.2, 0)).2 = 0 ∧ ∃ (N : Nat) (cs : Array Value), l < N ∧ x.1 = .agg cs ∧ ∀ w'' : World, (∀ k, N ≤ k → k < W.heap.size → w''.heap[k]? = W.heap[k]?) → rcS.is w'' cs.toList (rcRd (x.2, 0)).1
/-- Those of some bodies that are records. -/
def goodB (bs : List (List Int)) : List (List Int) := bs.filter fun b => decide (endE (rcRd (b, 0)).2 = 0)
theorem goodB_snoc (bs : List (List Int)) (k : Nat) (hk : k < bs.length) : goodB (bs.take (k + 1)) = goodB (bs.take k) ++ (if endE (rcRd (bs.getD k [], 0)).2 = 0 then [bs.getD k []] else []) := by
 unfold goodB
 rw [List.take_add_one, List.getElem?_eq_getElem hk, List.filter_append]
 simp only [List.getD, List.getElem?_eq_getElem hk, Option.getD_some, Option.toList_some]
 congr 1
 by_cases q : endE (rcRd (bs[k], 0)).2 = 0
 ·simp [q]
 ·simp [q]
theorem goodB_pre (bs : List (List Int)) (k : Nat) : goodB (bs.take k) <+: goodB bs := by
 have e : goodB bs = goodB (bs.take k) ++ goodB (bs.drop k) := by
  unfold goodB
  rw [← List.filter_append, List.take_append_drop]
 rw [e]
 exact ⟨_, rfl⟩
theorem goodB_len (bs : List (List Int)) : (goodB bs).length ≤ bs.length := List.length_filter_le _ _
/-- The state between two rounds. -/
structure ItR (wa : World) (l : Nat) (bs : List (List Int)) (J : List Rc1 → World → Prop) (k : Nat) (pre : List Rc1) (W : World) : Prop where
 all : pre.map (·.2) = goodB (bs.take k)
 inv : J pre W
 low : Below wa.heap.size wa W
 lt : l < W.heap.size
theorem get_inv {xs : List Int} {u : Value} {w w1 : World} (h : (endE (rcRd (xs, 0)).2 = 0 ∧ ∀ w'' : World, (∀ k, w.heap.size ≤ k → k < w1.heap.size → w''.heap[k]? = w1.heap[k]?) → RecIs w'' u (rcRd (xs, 0)).1) ∨ (endE (rcRd (xs, 0)).2 ≠ 0 ∧ u = .agg z23)) :
  ∃ cs : Array Value, u = .agg cs ∧ cs.size = 23 ∧ cs.all (·.oneCell') = true ∧ (endE (rcRd (xs, 0)).2 = 0 → ∀ w'' : World, (∀ k, w.heap.size ≤ k → k < w1.heap.size → w''.heap[k]? = w1.heap[k]?) → rcS.is w'' cs.toList (rcRd (xs, 0)).1) := by
 rcases h with ⟨q, hm0⟩ | ⟨q, rfl⟩
 ·obtain ⟨cs, rfl, hm⟩ := hm0 w1 (fun _ _ _ => rfl)
  exact ⟨cs, rfl, rc_size hm, by rw [← Array.all_toList]; exact List.all_eq_true.2 (fun v hv => rcS.one hm v hv), fun _ w'' hw'' => by
   obtain ⟨cs', e, hm'⟩ := hm0 w'' hw''
   simp only [Value.agg.injEq] at e
   subst e
   exact hm'⟩
 ·exact ⟨z23, rfl, rfl, by rw [← Array.all_toList]; rfl, fun e => absurd e q⟩
theorem records1_seq (n B1 : Nat) (hn : 2 ≤ n) (vb : Value) (bs : List (List Int)) (wa w0 : World) (ha : BodR wa vb bs) (hx : ∀ b ∈ bs, BytL b) (hl : ∀ b ∈ bs, b.length ≤ 1000000000) (hlen : bs.length ≤ 1000) (hb : Below wa.heap.size wa w0) (hbox : w0.cell? ⟨B1, 0, none⟩ = some vb) (hB1 : B1 < w0.heap.size) :
  SeqR Fence.wide n Tryz.prog 42 #[.pointer (some ⟨B1, 0, none⟩)] rcArgs (rcPv bs) (Below wa.heap.size) (fun xs => xs.map (·.2) = goodB bs) w0 := by
 intro l J W hW hlW hJ hY h0
 have hbW : Below wa.heap.size wa W := hb.trans (hW.mono hb.size)
 have hcW : W.cell? ⟨B1, 0, none⟩ = some vb := (hW.cell (p := ⟨B1, 0, none⟩) hB1).trans hbox
 have HY := Hd hY
 have HJ := Hd hJ
 have HX := Hd hx
 have HL := Hd hl
 have HA := Hd ha
 have HI : Hid (ItR wa l bs J 0 [] W) := Hd ⟨rfl, h0, hbW, hlW⟩
 have hzW : B1 < W.heap.size := by have := hW.size; omega
 obtain ⟨va, vc, rfl⟩ := ha.row
 obtain ⟨N, hN⟩ : ∃ N, bs.length = N := ⟨_, rfl⟩
 have HN := Hd hN
 rw [hN] at hcW hlen
 have HI3 : Hid ((Tryz.prog.info? 61).map (·.size) = some 23) := Hd (by kernel_rfl)
 clear hY hJ h0 hbW hW hb hbox hx hl ha hB1 hN hlW
 refine callsIn_of_wp Tryz.func42 rfl trivial ?_ rfl
 simp only [Tryz.ntmps42, List.size_toArray, List.length_cons, List.length_nil, Nat.reduceAdd, Nat.reduceSub, Array.replicate_succ, Array.replicate_zero, List.push_toArray, List.append_toArray, List.nil_append, List.cons_append]
 gi_wp2
 gi_loopw [9] (fun s9 wr => ∃ (k : Nat) (pre : List Rc1), k ≤ N ∧ s9 = .int .i64 k ∧ Hid (ItR wa l bs J k pre wr)) (fun s9 _ => N - (intOf s9).toNat)
 case atStart => exact ⟨0, [], by omega, rfl, HI⟩
 case round =>
  clear HI hcW
  obtain ⟨k, pre, hk, rfl, hI⟩ := hrel
  by_cases hlt : k < N
  ·have hlt' : (k : Int) < (N : Int) := by omega
   have hltb : k < bs.length := by have := HN.out; omega
   obtain ⟨g, off, c, xv, e, hg, hc, ht⟩ := HA.out.cell k hltb
   simp only [Value.slice.injEq] at e
   obtain ⟨rfl, -, rfl⟩ := e
   have hc : wr.cell? ⟨g, off + k, none⟩ = some xv := (hI.out.low.cell (p := ⟨g, off + k, none⟩) hg).trans hc
   have ht : Bt wr xv (bs.getD k []) := ht.below hI.out.low
   obtain ⟨b, hbk⟩ : ∃ b, bs.getD k [] = b := ⟨_, rfl⟩
   rw [hbk] at ht
   have hmem : b ∈ bs := by rw [← hbk]; simp only [List.getD, List.getElem?_eq_getElem hltb, Option.getD_some]; exact List.getElem_mem hltb
   have hgw : g < wr.heap.size := by have := hI.out.low.size; omega
   have HG := Hd (get_any xv b wr ht (HX.out b hmem) (HL.out b hmem))
   have HM := Hd (HX.out b hmem)
   have HB := Hd hbk
   obtain ⟨xa, xc, hxv, _⟩ := ht.row
   obtain ⟨xn, hxn⟩ : ∃ q, b.length = q := ⟨_, rfl⟩
   rw [hxn] at hxv
   subst hxv
   clear ht hmem hbk hltb hg hxn
   gi_wp2
   refine ⟨trivial, (fun h => (by cases h)), ?_⟩
   refine (callsIn_wide.2 HG.out).mono ?_
   rintro e w1 ⟨u, he, hb1, hu⟩
   obtain ⟨cs, rfl, hsz, hone, hrec⟩ := get_inv hu
   rw [he.out]
   obtain ⟨er, her⟩ : ∃ q, endE (rcRd (b, 0)).2 = q := ⟨_, rfl⟩
   rw [her] at hrec ⊢
   have HEr := Hd her
   have HNew := Hd (bka_new w1 61 z23)
   have HSz : Hid ((Tryz.prog.info? 61).map (·.size) = some cs.size) := Hd (by rw [hsz]; exact HI3.out)
   have HS2 : Hid (z23.size = cs.size) := Hd (by rw [hsz]; rfl)
   have HOne := Hd hone
   have HRec := Hd hrec
   obtain ⟨w2, hw2⟩ : ∃ q, (w1.alloc (.cells z23 61)).setRow w1.heap.size cs = q := ⟨_, rfl⟩
   have hB2 : Below w1.heap.size w1 w2 := by rw [← hw2]; exact below_setRow ((Below.refl _ _).alloc (Nat.le_refl _) _) (Nat.le_refl _) cs
   have HB2 := Hd (hb1.trans (hB2.mono hb1.size))
   have HRw : Hid (w2.heap[w1.heap.size]? = some (.cells cs 61 (0, 0))) := Hd (by rw [← hw2]; exact heap_setRow_same _ _ z23 cs _ (bka_new w1 _ _))
   have HW2 := Hd hw2
   have HZ1 := Hd hb1.size
   have HBk2 := Hd hB2
   clear he hu hb1 hB2 hsz hone hrec her hc hw2
   by_cases q : er = 0
   ·subst q
    have hJ2 := HJ.out pre wr w2 hI.out.inv HB2.out
    have hpv : rcPv bs l pre (.agg cs, b) w2 := by
     have hkl : k < bs.length := by have := HN.out; omega
     have hpre : pre.map (·.2) ++ [b] <+: goodB bs := by
      have h1 := goodB_pre bs (k + 1)
      rw [goodB_snoc bs k hkl, HB.out, if_pos HEr.out, ← hI.out.all] at h1
      exact h1
     refine ⟨(by have := hI.out.lt; have := HB2.out.size; omega), ?_, hpre, HM.out, HEr.out, wr.heap.size, cs, hI.out.lt, rfl, fun w'' hw'' => HRec.out rfl w'' (fun j hj1 hj2 => ?_)⟩
     ·have h1 := congrArg List.length hI.out.all
      have h2 := goodB_len (bs.take k)
      simp at h1 h2
      omega
     ·exact (hw'' j hj1 (by have := HBk2.out.size; omega)).trans (HBk2.out.block j hj2)
    obtain ⟨fn, tmps, assign, body, hy, hR⟩ := HY.out pre (.agg cs, b) w2 hJ2 hpv
    dsimp only [rcArgs] at hy
    have HR := Hd hR
    have hz2 := HB2.out.size
    have HPV := Hd hpv
    clear hJ2 hpv hR
    gi_wp2_with (first | refine wpListIn_store_rnm rfl 61 _ _ rfl w1.heap.size rfl cs rfl z23 61 HNew.out HSz.out HS2.out HOne.out w2 HW2.out ?_ | refine wpListIn_load_row rfl _ _ rfl w1.heap.size rfl 61 cs (0, 0) _ HRw.out Tryz.underlying61 rfl HSz.out ?_)
    refine ⟨(fun h => (by cases h)), ?_⟩
    refine HR.out.mono ?_
    rintro e W3 ⟨rfl, hJ3, hk3⟩
    have hI3 : ItR wa l bs J (k + 1) (pre ++ [(.agg cs, b)]) W3 := by
     refine ⟨?_, hJ3, ?_, ?_⟩
     ·rw [goodB_snoc bs k (by have := HN.out; omega), HB.out, if_pos HEr.out, ← hI.out.all]
      simp
     ·exact (hI.out.low.trans (HB2.out.mono hI.out.low.size)).trans hk3
     ·have h1 := hI.out.lt
      have h2 := hk3.size
      omega
    have HI3b := Hd hI3
    clear hI3 hJ3 hk3 hI HR hy HPV HRw HNew HSz HS2 HOne HRec HB2 HBk2 HEr
    gi_wp2
    go_roundw
    case rel => exact ⟨k + 1, _, by omega, by go_num, HI3b⟩
    case measure => simp [intOf]; omega
   ·have q1 : (er == 0) = false := by simpa using q
    have q2 : (er != 0) = true := by simpa using q
    have HQ := Hd q
    clear q
    gi_wp2_with (refine wpListIn_store_rnm rfl 61 _ _ rfl w1.heap.size rfl cs rfl z23 61 HNew.out HSz.out HS2.out HOne.out w2 HW2.out ?_)
    have hI3 : ItR wa l bs J (k + 1) pre w2 := by
     refine ⟨?_, HJ.out pre wr w2 hI.out.inv HB2.out, hI.out.low.trans (HB2.out.mono hI.out.low.size), ?_⟩
     ·rw [goodB_snoc bs k (by have := HN.out; omega), HB.out, if_neg (by rw [HEr.out]; exact HQ.out), List.append_nil]
      exact hI.out.all
     ·have h1 := hI.out.lt
      have h2 := HB2.out.size
      omega
    have HI3b := Hd hI3
    clear hI3 hI HRw HNew HSz HS2 HOne HRec HB2 HBk2 HEr
    refine ⟨fun _ h => (by cases h), ?_⟩
    gi_wp2
    go_roundw
    case rel => exact ⟨k + 1, _, by omega, by go_num, HI3b⟩
    case measure => simp [intOf]; omega
  ·have hlt' : ¬ (k : Int) < (N : Int) := by omega
   obtain rfl : k = N := by omega
   gi_wp2
   go_end0
   have hA := hI.out
   refine ⟨⟨_, rfl⟩, pre, ?_, hA.inv⟩
   rw [hA.all]
   have e : bs.take k = bs := by rw [← HN.out]; exact List.take_length
   rw [e]
abbrev E3 := Ent
/-- Two entries compared. -/
theorem eqE_run (a1 a2 : ByteArray) (a3 : Int) (b1 b2 : ByteArray) (b3 : Int) : (∀ w, Sem.run Tryz.prog (binOp .eql 71 (.agg #[.string a1, .string a2, .int .i64 a3]) (.agg #[.string b1, .string b2, .int .i64 b3])) w = .ok (.bool (decide (((a1, a2, a3) : E3) = (b1, b2, b3)))) w) ∧
  (∀ op x y w, Sem.run Tryz.prog (eqGuard op 71 x y (.agg #[.string a1, .string a2, .int .i64 a3]) (.agg #[.string b1, .string b2, .int .i64 b3])) w = .ok () w) := by
 refine ⟨fun w => ?_, fun op x y w => run_eqGuard_agg w op 71 x y _ _ (by kernel_rfl)⟩
 have u3 := Tryz.underlying9
 have a3' := Tryz.isAgg9
 have z3 := Tryz.sizeOf9
 have u4 := Tryz.underlying3
 have a4 := Tryz.isAgg3
 have z4 := Tryz.sizeOf3
 have hS : Tryz.prog.underlying 71 = some (.struct (Tryz.prog.fieldsOf 71)) := by kernel_rfl
 have hp : Tryz.prog.stoodInHeld 71 = false := by kernel_rfl
 have key : ∀ x y : ByteArray, x ≠ y → x.toList ≠ y.toList := fun x y h e => by
  rw [ByteArray.toList_eq, ByteArray.toList_eq] at e
  exact h (ByteArray.ext (by simpa using e))
 rw [run_eql_struct, show (10000 : Nat) = 9999 + 1 from rfl, run_equalIn_agg w 9999 71 _ _ hS hp]
 simp only [Program.fieldsOf, Tryz.underlying71]
 go_simp
 by_cases h1 : a1 = b1
 ·subst h1
  by_cases h2 : a2 = b2
  ·subst h2
   by_cases h3 : a3 = b3 <;> simp [h3]
  ·have h3 := key _ _ h2
   simp [h2, h3]
 ·have h3 := key _ _ h1
  simp [h1, h3]
theorem neE_run (a1 a2 : ByteArray) (a3 : Int) (b1 b2 : ByteArray) (b3 : Int) : (∀ w, Sem.run Tryz.prog (binOp .neq 71 (.agg #[.string a1, .string a2, .int .i64 a3]) (.agg #[.string b1, .string b2, .int .i64 b3])) w = .ok (.bool (!decide (((a1, a2, a3) : E3) = (b1, b2, b3)))) w) ∧
  (∀ op x y w, Sem.run Tryz.prog (eqGuard op 71 x y (.agg #[.string a1, .string a2, .int .i64 a3]) (.agg #[.string b1, .string b2, .int .i64 b3])) w = .ok () w) := by
 refine ⟨fun w => ?_, (eqE_run a1 a2 a3 b1 b2 b3).2⟩
 have h := (eqE_run a1 a2 a3 b1 b2 b3).1 w
 rw [run_eql_struct] at h
 rw [run_neq_struct]
 revert h
 generalize Sem.run Tryz.prog (Op.equalIn 10000 71 (.agg #[.string a1, .string a2, .int .i64 a3]) (.agg #[.string b1, .string b2, .int .i64 b3])) w = r
 intro h
 cases r with
 | ok v w' => simp [Result.andThen] at h ⊢; simp [h]
 | halt x w' => simp [Result.andThen] at h
theorem ret_bool8 {a b : Bool} (h : a = b) : Ending.returned (.bool a) = .returned (.bool b) := by rw [h]
def EqP (b : Bool) (w : World) (e : Ending) (w' : World) : Prop := Hid (e = .returned (.bool b)) ∧ Below w.heap.size w w'
theorem below_dn {B : Nat} {w w1 : World} (h : Below B w w1) (n : Nat) : Below B w (w1.drewN n) := ⟨h.os, h.tape, h.output, h.size, h.block⟩
theorem take_more {α : Type} {l k : List α} {j : Nat} (h : l.take j = k.take j) (h1 : j < l.length) (h2 : j < k.length) (e : l[j] = k[j]) : l.take (j + 1) = k.take (j + 1) := by
 rw [List.take_succ_eq_append_getElem h1, List.take_succ_eq_append_getElem h2, h, e]
theorem kw_wrap {k N : Nat} (h : k < N) (hN : N ≤ 1000000000) : wrap64 ((k : Int) + 1) = (k : Int) + 1 := by unfold wrap64; omega
theorem kw_meas {k N : Nat} (h : k < N) : N - (intOf (Value.int .i64 ((k : Int) + 1))).toNat < N - (intOf (Value.int .i64 (k : Int))).toNat := by
 show N - ((k : Int) + 1).toNat < N - ((k : Int)).toNat
 omega
theorem bs_ne {x y : ByteArray} (h : x ≠ y) : x.toList ≠ y.toList := fun e => by
 rw [ByteArray.toList_eq, ByteArray.toList_eq] at e
 exact h (ByteArray.ext (by simpa using e))
theorem eqN_any (v1 v2 : Value) (rs1 rs2 : List (Cls 1)) (l1 l2 : List Int) (W w : World) (h1 : RowIs KN numS W v1 rs1 l1) (h2 : RowIs KN numS W v2 rs2 l2) (hW : Below W.heap.size W w) (hN1 : l1.length ≤ 1000000) :
  Calls Tryz.prog 55 #[v1, v2] w (EqP (decide (l1 = l2)) w) := by
 obtain ⟨a1, c1, rfl⟩ := h1.rd.slice
 obtain ⟨a2, c2, rfl⟩ := h2.rd.slice
 obtain ⟨N, hN⟩ : ∃ N, rs1.length = N := ⟨_, rfl⟩
 obtain ⟨M, hM⟩ : ∃ M, rs2.length = M := ⟨_, rfl⟩
 have e1 : N = l1.length := by rw [← hN]; exact h1.len
 have e2 : M = l2.length := by rw [← hM]; exact h2.len
 rw [hN] at h1 ⊢
 rw [hM] at h2 ⊢
 have H1 := Hd h1
 have H2 := Hd h2
 have HL1 := Hd e1
 have HL2 := Hd e2
 have HW := Hd hW
 have HN := Hd (show N ≤ 1000000 by omega)
 clear h1 h2 hW hN hM hN1
 by_cases hlen : N = M
 ·obtain rfl := hlen
  have d1 : ((N : Int) != (N : Int)) = false := by simp
  have d0 : ((N : Int) == (N : Int)) = true := by simp
  clear e1 e2
  go_enter Tryz.func55, Tryz.ntmps55
  go_wp2_with fail
  go_loopw [13] (fun i wr => ∃ k : Nat, k ≤ N ∧ i = .int .i64 k ∧ Hid (l1.take k = l2.take k) ∧ Hid (Below w.heap.size w wr)) (fun i _ => N - (intOf i).toNat)
  case atStart => exact ⟨0, Nat.zero_le _, rfl, Hd (by simp), Hd (Below.refl _ _)⟩
  case round =>
   obtain ⟨k, hk, rfl, hE, hB⟩ := hrel
   by_cases hlt : k < N
   ·have g1 : (k : Int) < (N : Int) := by omega
    have g2 : decide ((k : Int) < (N : Int)) = true := decide_eq_true g1
    have g3 : decide (k < N) = true := decide_eq_true hlt
    have hWr := HW.out.trans (hB.out.mono HW.out.size)
    obtain ⟨hl1, p1, off1, cs1, ha1, hp1, hc1, hcel1⟩ := H1.out.el2 rfl hWr k hlt
    obtain ⟨hl2, p2, off2, cs2, ha2, hp2, hc2, hcel2⟩ := H2.out.el2 rfl hWr k hlt
    subst ha1 ha2
    obtain ⟨x, hx⟩ : ∃ x, l1[k] = x := ⟨_, rfl⟩
    obtain ⟨y, hy⟩ : ∃ y, l2[k] = y := ⟨_, rfl⟩
    rw [hx] at hc1
    rw [hy] at hc2
    have HX := Hd hx
    have HY := Hd hy
    have HK1 := Hd hl1
    have HK2 := Hd hl2
    obtain ⟨x0, rfl⟩ : ∃ q, q = x := ⟨_, rfl⟩
    obtain ⟨y0, rfl⟩ : ∃ q, q = y := ⟨_, rfl⟩
    have hc1 : cs1 = [.int .i64 x0] := hc1
    have hc2 : cs2 = [.int .i64 y0] := hc2
    subst hc1 hc2
    have y10 : wr.cell? ⟨p1, off1 + k, none⟩ = some (.int .i64 x0) := by have := hcel1 0 _ rfl; simpa [KN, rawK] using this
    have y20 : wr.cell? ⟨p2, off2 + k, none⟩ = some (.int .i64 y0) := by have := hcel2 0 _ rfl; simpa [KN, rawK] using this
    have m5 := kw_wrap hlt (by have := HN.out; omega)
    have HLt := Hd hlt
    clear hcel1 hcel2 hx hy hk hlt hWr
    by_cases q : x0 = y0
    ·obtain rfl := q
     have f1 : (x0 == x0) = true := by simp
     have f2 : (x0 != x0) = false := by simp
     have HT := Hd (take_more hE.out HK1.out HK2.out (HX.out.trans HY.out.symm))
     have HB2 := hB
     go_wp2_with fail
     go_quiet (fail)
     generalize hwq : World.drewN _ _ = wq
     have HBq : Hid (Below w.heap.size w wq) := Hd (by rw [← hwq]; exact below_dn HB2.out _)
     clear hwq
     go_wp2_with fail
     go_roundw
     case rel => exact ⟨k + 1, HLt.out, (by first | rfl | (rw [m5]; rfl)), HT, HBq⟩
     case measure => (try rw [m5]); exact kw_meas HLt.out
    ·have HNe : Hid (decide (l1 = l2) = false) := Hd (decide_eq_false (fun e => q (by subst e; exact HX.out.symm.trans HY.out)))
     have f1 : (x0 == y0) = false := by simpa using q
     have f2 : (x0 != y0) = true := by simpa using q
     clear q
     go_wp2_with fail
     go_quiet (fail)
     go_wp2_with fail
     go_ret
     exact ⟨ret_bool8 HNe.out.symm, below_dn hB.out _⟩
   ·have g1 : ¬ (k : Int) < (N : Int) := by omega
    have g2 : decide ((k : Int) < (N : Int)) = false := decide_eq_false g1
    have g3 : decide (k < N) = false := decide_eq_false hlt
    have HNe : Hid (decide (l1 = l2) = true) := Hd (decide_eq_true (by
     have hk2 : k = N := by omega
     have h := hE.out
     rw [hk2, List.take_of_length_le (by rw [← HL1.out]; exact Nat.le_refl _), List.take_of_length_le (by rw [← HL2.out]; exact Nat.le_refl _)] at h
     exact h))
    clear hlt hk
    go_wp2_with fail
    go_ret
    exact ⟨ret_bool8 HNe.out.symm, hB.out⟩
 ·have d1 : ((N : Int) != (M : Int)) = true := by simp; omega
  have d0 : ((N : Int) == (M : Int)) = false := by simp; omega
  have HNe : Hid (decide (l1 = l2) = false) := Hd (decide_eq_false (fun e => hlen (by rw [HL1.out, HL2.out, e])))
  clear hlen e1 e2
  go_enter Tryz.func55, Tryz.ntmps55
  go_wp2_with fail
  go_ret
  exact ⟨ret_bool8 HNe.out.symm, Below.refl _ _⟩
theorem eqT_any (v1 v2 : Value) (rs1 rs2 : List (Cls 1)) (l1 l2 : List ByteArray) (W w : World) (h1 : RowIs KT txS W v1 rs1 l1) (h2 : RowIs KT txS W v2 rs2 l2) (hW : Below W.heap.size W w) (hN1 : l1.length ≤ 1000000) :
  Calls Tryz.prog 56 #[v1, v2] w (EqP (decide (l1 = l2)) w) := by
 obtain ⟨a1, c1, rfl⟩ := h1.rd.slice
 obtain ⟨a2, c2, rfl⟩ := h2.rd.slice
 obtain ⟨N, hN⟩ : ∃ N, rs1.length = N := ⟨_, rfl⟩
 obtain ⟨M, hM⟩ : ∃ M, rs2.length = M := ⟨_, rfl⟩
 have e1 : N = l1.length := by rw [← hN]; exact h1.len
 have e2 : M = l2.length := by rw [← hM]; exact h2.len
 rw [hN] at h1 ⊢
 rw [hM] at h2 ⊢
 have H1 := Hd h1
 have H2 := Hd h2
 have HL1 := Hd e1
 have HL2 := Hd e2
 have HW := Hd hW
 have HN := Hd (show N ≤ 1000000 by omega)
 clear h1 h2 hW hN hM hN1
 by_cases hlen : N = M
 ·obtain rfl := hlen
  have d1 : ((N : Int) != (N : Int)) = false := by simp
  have d0 : ((N : Int) == (N : Int)) = true := by simp
  clear e1 e2
  go_enter Tryz.func56, Tryz.ntmps56
  go_wp2_with fail
  go_loopw [13] (fun i wr => ∃ k : Nat, k ≤ N ∧ i = .int .i64 k ∧ Hid (l1.take k = l2.take k) ∧ Hid (Below w.heap.size w wr)) (fun i _ => N - (intOf i).toNat)
  case atStart => exact ⟨0, Nat.zero_le _, rfl, Hd (by simp), Hd (Below.refl _ _)⟩
  case round =>
   obtain ⟨k, hk, rfl, hE, hB⟩ := hrel
   by_cases hlt : k < N
   ·have g1 : (k : Int) < (N : Int) := by omega
    have g2 : decide ((k : Int) < (N : Int)) = true := decide_eq_true g1
    have g3 : decide (k < N) = true := decide_eq_true hlt
    have hWr := HW.out.trans (hB.out.mono HW.out.size)
    obtain ⟨hl1, p1, off1, cs1, ha1, hp1, hc1, hcel1⟩ := H1.out.el2 rfl hWr k hlt
    obtain ⟨hl2, p2, off2, cs2, ha2, hp2, hc2, hcel2⟩ := H2.out.el2 rfl hWr k hlt
    subst ha1 ha2
    obtain ⟨x, hx⟩ : ∃ x, l1[k] = x := ⟨_, rfl⟩
    obtain ⟨y, hy⟩ : ∃ y, l2[k] = y := ⟨_, rfl⟩
    rw [hx] at hc1
    rw [hy] at hc2
    have HX := Hd hx
    have HY := Hd hy
    have HK1 := Hd hl1
    have HK2 := Hd hl2
    obtain ⟨x0, rfl⟩ : ∃ q, q = x := ⟨_, rfl⟩
    obtain ⟨y0, rfl⟩ : ∃ q, q = y := ⟨_, rfl⟩
    have hc1 : cs1 = [.string x0] := hc1.1
    have hc2 : cs2 = [.string y0] := hc2.1
    subst hc1 hc2
    have y10 : wr.cell? ⟨p1, off1 + k, none⟩ = some (.string x0) := by have := hcel1 0 _ rfl; simpa [KT, rawK] using this
    have y20 : wr.cell? ⟨p2, off2 + k, none⟩ = some (.string y0) := by have := hcel2 0 _ rfl; simpa [KT, rawK] using this
    have m5 := kw_wrap hlt (by have := HN.out; omega)
    have HLt := Hd hlt
    clear hcel1 hcel2 hx hy hk hlt hWr
    by_cases q : x0 = y0
    ·obtain rfl := q
     have f1 : (x0.toList == x0.toList) = true := by simp
     have f2 : (x0.toList != x0.toList) = false := by simp
     have HT := Hd (take_more hE.out HK1.out HK2.out (HX.out.trans HY.out.symm))
     have HB2 := hB
     go_wp2_with fail
     go_quiet (fail)
     generalize hwq : World.drewN _ _ = wq
     have HBq : Hid (Below w.heap.size w wq) := Hd (by rw [← hwq]; exact below_dn HB2.out _)
     clear hwq
     go_wp2_with fail
     go_roundw
     case rel => exact ⟨k + 1, HLt.out, (by first | rfl | (rw [m5]; rfl)), HT, HBq⟩
     case measure => (try rw [m5]); exact kw_meas HLt.out
    ·have HNe : Hid (decide (l1 = l2) = false) := Hd (decide_eq_false (fun e => q (by subst e; exact HX.out.symm.trans HY.out)))
     have f1 : (x0.toList == y0.toList) = false := by simpa using bs_ne q
     have f2 : (x0.toList != y0.toList) = true := by simpa using bs_ne q
     clear q
     go_wp2_with fail
     go_quiet (fail)
     go_wp2_with fail
     go_ret
     exact ⟨ret_bool8 HNe.out.symm, below_dn hB.out _⟩
   ·have g1 : ¬ (k : Int) < (N : Int) := by omega
    have g2 : decide ((k : Int) < (N : Int)) = false := decide_eq_false g1
    have g3 : decide (k < N) = false := decide_eq_false hlt
    have HNe : Hid (decide (l1 = l2) = true) := Hd (decide_eq_true (by
     have hk2 : k = N := by omega
     have h := hE.out
     rw [hk2, List.take_of_length_le (by rw [← HL1.out]; exact Nat.le_refl _), List.take_of_length_le (by rw [← HL2.out]; exact Nat.le_refl _)] at h
     exact h))
    clear hlt hk
    go_wp2_with fail
    go_ret
    exact ⟨ret_bool8 HNe.out.symm, hB.out⟩
 ·have d1 : ((N : Int) != (M : Int)) = true := by simp; omega
  have d0 : ((N : Int) == (M : Int)) = false := by simp; omega
  have HNe : Hid (decide (l1 = l2) = false) := Hd (decide_eq_false (fun e => hlen (by rw [HL1.out, HL2.out, e])))
  clear hlen e1 e2
  go_enter Tryz.func56, Tryz.ntmps56
  go_wp2_with fail
  go_ret
  exact ⟨ret_bool8 HNe.out.symm, Below.refl _ _⟩
theorem eqE_any (v1 v2 : Value) (rs1 rs2 : List (Cls 3)) (l1 l2 : List Ent) (W w : World) (h1 : RowIs KE enS W v1 rs1 l1) (h2 : RowIs KE enS W v2 rs2 l2) (hW : Below W.heap.size W w) (hN1 : l1.length ≤ 1000000) :
  Calls Tryz.prog 28 #[v1, v2] w (EqP (decide (l1 = l2)) w) := by
 obtain ⟨a1, c1, rfl⟩ := h1.rd.slice
 obtain ⟨a2, c2, rfl⟩ := h2.rd.slice
 obtain ⟨N, hN⟩ : ∃ N, rs1.length = N := ⟨_, rfl⟩
 obtain ⟨M, hM⟩ : ∃ M, rs2.length = M := ⟨_, rfl⟩
 have e1 : N = l1.length := by rw [← hN]; exact h1.len
 have e2 : M = l2.length := by rw [← hM]; exact h2.len
 rw [hN] at h1 ⊢
 rw [hM] at h2 ⊢
 have H1 := Hd h1
 have H2 := Hd h2
 have HL1 := Hd e1
 have HL2 := Hd e2
 have HW := Hd hW
 have HN := Hd (show N ≤ 1000000 by omega)
 clear h1 h2 hW hN hM hN1
 by_cases hlen : N = M
 ·obtain rfl := hlen
  have d1 : ((N : Int) != (N : Int)) = false := by simp
  have d0 : ((N : Int) == (N : Int)) = true := by simp
  clear e1 e2
  go_enter Tryz.func28, Tryz.ntmps28
  go_wp2_with fail
  go_loopw [13] (fun i wr => ∃ k : Nat, k ≤ N ∧ i = .int .i64 k ∧ Hid (l1.take k = l2.take k) ∧ Hid (Below w.heap.size w wr)) (fun i _ => N - (intOf i).toNat)
  case atStart => exact ⟨0, Nat.zero_le _, rfl, Hd (by simp), Hd (Below.refl _ _)⟩
  case round =>
   obtain ⟨k, hk, rfl, hE, hB⟩ := hrel
   by_cases hlt : k < N
   ·have g1 : (k : Int) < (N : Int) := by omega
    have g2 : decide ((k : Int) < (N : Int)) = true := decide_eq_true g1
    have g3 : decide (k < N) = true := decide_eq_true hlt
    have hWr := HW.out.trans (hB.out.mono HW.out.size)
    obtain ⟨hl1, p1, off1, cs1, ha1, hp1, hc1, hcel1⟩ := H1.out.el2 rfl hWr k hlt
    obtain ⟨hl2, p2, off2, cs2, ha2, hp2, hc2, hcel2⟩ := H2.out.el2 rfl hWr k hlt
    subst ha1 ha2
    obtain ⟨x, hx⟩ : ∃ x, l1[k] = x := ⟨_, rfl⟩
    obtain ⟨y, hy⟩ : ∃ y, l2[k] = y := ⟨_, rfl⟩
    rw [hx] at hc1
    rw [hy] at hc2
    have HX := Hd hx
    have HY := Hd hy
    have HK1 := Hd hl1
    have HK2 := Hd hl2
    obtain ⟨x0, x1, x2⟩ := x
    obtain ⟨y0, y1, y2⟩ := y
    have hc1 : cs1 = [.string x0, .string x1, .int .i64 x2] := hc1.1
    have hc2 : cs2 = [.string y0, .string y1, .int .i64 y2] := hc2.1
    subst hc1 hc2
    have y10 : wr.cell? ⟨p1, off1 + k * 3, none⟩ = some (.string x0) := hcel1 0 _ rfl
    have y20 : wr.cell? ⟨p2, off2 + k * 3, none⟩ = some (.string y0) := hcel2 0 _ rfl
    have y11 : wr.cell? ⟨p1, off1 + k * 3 + 1, none⟩ = some (.string x1) := hcel1 1 _ rfl
    have y21 : wr.cell? ⟨p2, off2 + k * 3 + 1, none⟩ = some (.string y1) := hcel2 1 _ rfl
    have y12 : wr.cell? ⟨p1, off1 + k * 3 + 2, none⟩ = some (.int .i64 x2) := hcel1 2 _ rfl
    have y22 : wr.cell? ⟨p2, off2 + k * 3 + 2, none⟩ = some (.int .i64 y2) := hcel2 2 _ rfl
    have m5 := kw_wrap hlt (by have := HN.out; omega)
    have HLt := Hd hlt
    clear hcel1 hcel2 hx hy hk hlt hWr
    by_cases q : (x0, x1, x2) = (y0, y1, y2)
    ·simp only [Prod.mk.injEq] at q
     obtain ⟨rfl, rfl, rfl⟩ := q
     obtain ⟨f1, f2⟩ := neE_run x0 x1 x2 x0 x1 x2
     rw [show (!decide (((x0, x1, x2) : E3) = (x0, x1, x2))) = false from by simp] at f1
     have HT := Hd (take_more hE.out HK1.out HK2.out (HX.out.trans HY.out.symm))
     have HB2 := hB
     go_wp2_with fail
     go_quiet (fail)
     generalize hwq : World.drewN _ _ = wq
     have HBq : Hid (Below w.heap.size w wq) := Hd (by rw [← hwq]; exact below_dn HB2.out _)
     clear hwq
     go_wp2_with fail
     go_roundw
     case rel => exact ⟨k + 1, HLt.out, (by first | rfl | (rw [m5]; rfl)), HT, HBq⟩
     case measure => (try rw [m5]); exact kw_meas HLt.out
    ·have HNe : Hid (decide (l1 = l2) = false) := Hd (decide_eq_false (fun e => q (by subst e; exact HX.out.symm.trans HY.out)))
     obtain ⟨f1, f2⟩ := neE_run x0 x1 x2 y0 y1 y2
     rw [show (!decide (((x0, x1, x2) : E3) = (y0, y1, y2))) = true from by rw [decide_eq_false q]; rfl] at f1
     clear q
     go_wp2_with fail
     go_quiet (fail)
     go_wp2_with fail
     go_ret
     exact ⟨ret_bool8 HNe.out.symm, below_dn hB.out _⟩
   ·have g1 : ¬ (k : Int) < (N : Int) := by omega
    have g2 : decide ((k : Int) < (N : Int)) = false := decide_eq_false g1
    have g3 : decide (k < N) = false := decide_eq_false hlt
    have HNe : Hid (decide (l1 = l2) = true) := Hd (decide_eq_true (by
     have hk2 : k = N := by omega
     have h := hE.out
     rw [hk2, List.take_of_length_le (by rw [← HL1.out]; exact Nat.le_refl _), List.take_of_length_le (by rw [← HL2.out]; exact Nat.le_refl _)] at h
     exact h))
    clear hlt hk
    go_wp2_with fail
    go_ret
    exact ⟨ret_bool8 HNe.out.symm, hB.out⟩
 ·have d1 : ((N : Int) != (M : Int)) = true := by simp; omega
  have d0 : ((N : Int) == (M : Int)) = false := by simp; omega
  have HNe : Hid (decide (l1 = l2) = false) := Hd (decide_eq_false (fun e => hlen (by rw [HL1.out, HL2.out, e])))
  clear hlen e1 e2
  go_enter Tryz.func28, Tryz.ntmps28
  go_wp2_with fail
  go_ret
  exact ⟨ret_bool8 HNe.out.symm, Below.refl _ _⟩
end Go.Proofs.YtnancdbkmompdaaGreat
