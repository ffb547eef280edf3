/-
  Texts put together: Rct, Rcu.
-/
import Derived.Test.YtnancdbkmompdaaGreatWgP
import Derived.Test.YtnancdbkmompdaaGreatPQA
import Derived.RangeFuncNested
import Derived.RangeFuncBound
import Derived.RangeFuncCalls
import Derived.RangeFuncLeaves
import Derived.OwnWalkIn
import Derived.TacticsInMore
import Derived.LoopNIn
import Derived.LoopIn
import Derived.Shelf.Abstract
import Derived.RegionIn
import Derived.BigRegionIn
namespace Go.Proofs.YtnancdbkmompdaaGreat
open Go.RowKit
set_option linter.unusedSimpArgs false
set_option linter.unusedVariables false

/-- The iterator g: whatever is handed to it as a round that keeps J and, of the worlds, Kp, is called with things of which Pv holds; behind it J holds of all of them, and Fin. -/
def SeqR {α : Type} (F : Fence) (n : Nat) (P : Program) (g : Nat) (lb : Array Value) (encs : α → Array Value) (Pv : Nat → List α → α → World → Prop) (Kp : World → World → Prop) (Fin : List α → Prop) (w : World) : Prop :=
 ∀ (l : Nat) (J : List α → World → Prop) (W : World), Below w.heap.size w W → l < W.heap.size → (∀ s A B, J s A → Below A.heap.size A B → J s B) →
  (∀ pre x W1, J pre W1 → Pv l pre x W1 → YieldAt F (n - 1) P l (encs x) W1 fun e W' => e = .returned (.bool true) ∧ J (pre ++ [x]) W' ∧ Kp W1 W') → J [] W →
  CallsIn F n P g (#[.func (.yield l) #[] #[]] ++ lb) W fun e W' => (∃ v, e = .returned v) ∧ ∃ xs, Fin xs ∧ J xs W'
/-- How a round's body ends. -/
def RndR {α : Type} (z : Nat) (Kp : World → World → Prop) (I : List α → World → Prop) (xs : List α) (W : World) : Exit → Act → World → Prop
 | .normal, _, W' => (W'.heap[z]? = W.heap[z]? ∧ W'.heap[z + 1]? = W.heap[z + 1]?) ∧ Kp W W' ∧ I xs W'
 | _, _, _ => False
section
variable {F : Fence} {n : Nat} {P : Program}
theorem wpIn_range_fin2 {α : Type} {g : Operand} {ps : Array Tmp} {assign body : Code} {Q : Exit → Act → World → Prop} {a : Act} {w : World}
  (hro : F.round = none) (h1 : 1 ≤ n) {gf : Nat} {lb : Array Value} (hg : a.eval g = .func (.func gf) #[] lb) (hFg : F.fn gf) (eg : ∀ args w, (callFunc gf args).run P w = .ok (.enter gf args) w)
  {encs : α → Array Value} {Pv : Nat → List α → α → World → Prop} {Kp : World → World → Prop} {Fin : List α → Prop} {w0 : World} (hseq : SeqR F (n - 1) P gf lb encs Pv Kp Fin w0)
  (hKt : ∀ {A B C : World}, Kp A B → Kp B C → Kp A C) (hKb : ∀ (W : World) (o' : Obj), Kp W (W.putObj (w.heap.size + 1) o')) (hKl : ∀ (W W' : World), w.heap.size ≤ W.heap.size → Below W.heap.size W W' → Kp W W')
  (hb0 : Below w0.heap.size w0 w) (hps : ∀ x, (encs x).size = ps.size)
  (I : List α → World → Prop) (hIb : ∀ s A B, I s A → Below A.heap.size A B → I s B) (hIp : ∀ (s : List α) (W : World) (o o' : Obj), W.heap[w.heap.size + 1]? = some o → o.isCells = false → I s W → I s (W.putObj (w.heap.size + 1) o')) (h0 : I [] w)
  (As : List α → α → Act → World → Prop) (hAp : ∀ (pre : List α) (x : α) (a' : Act) (W : World) (o o' : Obj), W.heap[w.heap.size + 1]? = some o → o.isCells = false → As pre x a' W → As pre x a' (W.putObj (w.heap.size + 1) o'))
  (hassign : ∀ (pre : List α) (x : α) (W : World) (K : Act → World → Prop), I pre W → Pv (w.heap.size + 1) pre x W → w.heap.size + 1 < W.heap.size → (∀ a' W', Below W.heap.size W W' → As pre x a' W' → K a' W') →
   assign.wpIn (F.inRound (w.heap.size + 1)) (n - 1 - 1) P (Exit.then K (fun _ _ _ => False)) { tmps := (ps.zip (encs x)).foldl (fun t (p, v) => t.setIfInBounds p v) a.tmps, defers := [] } W)
  (hbody : ∀ (pre : List α) (x : α) (a' : Act) (W : World), As pre x a' W → w.heap.size + 1 < W.heap.size → body.wpIn (F.inRound (w.heap.size + 1)) (n - 1 - 1) P (RndR w.heap.size Kp I (pre ++ [x]) W) a' W)
  (hdone : ∀ (xs : List α) (W : World), Fin xs → I xs W → W.heap[w.heap.size]? = some (.deferred (some [])) → Q .normal { a with defers := { target := .collected w.heap.size, args := #[] } :: a.defers } W) :
  (Code.rangeFunc g ps assign body).wpIn F n P Q a w := by
 refine wpIn_rangeFunc fun fn hfn => ?_
 rw [hro]
 let rec0 : LoopState → Loop := fun st => { state := st, pending := none, fn, tmps := a.tmps, params := ps, assign, body, defers := w.heap.size }
 have hs1 : (w.alloc (.deferred (some []))).heap.size = w.heap.size + 1 := by simp
 obtain ⟨W1, hW1⟩ : ∃ W1, (w.alloc (.deferred (some []))).alloc (.loop (rec0 .ready)) = W1 := ⟨_, rfl⟩
 have hbw : Below w.heap.size w W1 := by rw [← hW1]; exact ((Below.refl _ w).alloc (Nat.le_refl _) _).alloc (by simp) _
 have hL1 : W1.heap[w.heap.size + 1]? = some (.loop (rec0 .ready)) := by
  rw [← hW1, ← hs1]; exact World.alloc_heap_new _ _
 have hD1 : W1.heap[w.heap.size]? = some (.deferred (some [])) := by
  rw [← hW1, Below.heap_alloc _ _ _ (by simp)]; exact World.alloc_heap_new w _
 refine ⟨w.heap.size + 1, [{ target := .collected w.heap.size, args := #[] }], W1, { target := .fn (.func gf) lb, args := #[.func (.yield (w.heap.size + 1)) #[] #[]] }, W1, gf, #[.func (.yield (w.heap.size + 1)) #[] #[]] ++ lb, W1, ?_, ?_, ?_, ?_, fun _ => h1, ?_⟩
 ·rw [← hW1]; exact run_enterLoop_outer _ _ _ _ _
 ·simp only [resolve, hg]; simp [go_sem]
 ·intro f' hf'; simp [Target.leads] at hf'; subst hf'; exact hFg
 ·simp [invoke, go_sem, eg]
 ·let J : List α → World → Prop := fun pre W => I pre W ∧ W.heap[w.heap.size + 1]? = some (.loop (rec0 .ready)) ∧ W.heap[w.heap.size]? = some (.deferred (some []))
  have old : ∀ {W W' : World} {k : Nat} {o : Obj}, W.heap[k]? = some o → Below W.heap.size W W' → W'.heap[k]? = some o := fun h hb => (hb.block _ (Array.getElem?_eq_some_iff.1 h).1).trans h
  refine (hseq (w.heap.size + 1) J W1 (hb0.trans (hbw.mono hb0.size)) (Array.getElem?_eq_some_iff.1 hL1).1 (fun s A B h hb => ⟨hIb s A B h.1 hb, old h.2.1 hb, old h.2.2 hb⟩) ?_ ⟨hIb [] w W1 h0 hbw, hL1, hD1⟩).mono ?_
  ·rintro pre x W ⟨hi, hl, hd⟩ hp
   have hlt0 : w.heap.size + 1 < W.heap.size := (Array.getElem?_eq_some_iff.1 hl).1
   refine ⟨fn, _, assign, body, run_yield hl (hps x), roundIn_of_wpIn hfn (hassign pre x W _ hi hp hlt0 fun a' W' hbn hAs => ?_)⟩
   have hl' := old hl hbn
   have hd' := old hd hbn
   refine ⟨_, run_beginRound hl' rfl, ?_⟩
   have hlt : w.heap.size + 1 < W'.heap.size := (Array.getElem?_eq_some_iff.1 hl').1
   obtain ⟨W2, hW2⟩ : ∃ W2, W'.putObj (w.heap.size + 1) (.loop { rec0 .ready with state := .busy }) = W2 := ⟨_, rfl⟩
   rw [hW2]
   have hl2 : W2.heap[w.heap.size + 1]? = some (.loop { rec0 .ready with state := .busy }) := by rw [← hW2]; exact World.putObj_heap_same hlt
   have hd2 : W2.heap[w.heap.size]? = some (.deferred (some [])) := by rw [← hW2]; exact (World.putObj_heap_other (by omega)).trans hd'
   have hi2 : As pre x a' W2 := by rw [← hW2]; exact hAp _ _ _ _ _ _ hl' rfl hAs
   have hk2 : Kp W W2 := by rw [← hW2]; exact hKt (hKl _ _ (by omega) hbn) (hKb _ _)
   refine wpIn_mono (hbody pre x a' W2 hi2 (Array.getElem?_eq_some_iff.1 hl2).1) ?_
   rintro e a3 W3 q
   cases e with
   | normal =>
    obtain ⟨q1, q2, q3⟩ := q
    have hl3 := q1.2.trans hl2
    have hd3 := q1.1.trans hd2
    have hlt3 : w.heap.size + 1 < W3.heap.size := (Array.getElem?_eq_some_iff.1 hl3).1
    exact ⟨_, _, run_endRound none hl3, rfl, ⟨hIp _ _ _ _ hl3 rfl q3, World.putObj_heap_same hlt3, (World.putObj_heap_other (by omega)).trans hd3⟩, hKt (hKt hk2 q2) (hKb _ _)⟩
   | ret => exact q.elim
   | exit id => exact q.elim
   | goto t => exact q.elim
   | panic ch => exact q.elim
   | outgrown => exact q.elim
  ·rintro e W2 ⟨⟨v, rfl⟩, xs, hf, hi, hl, hd⟩
   exact ⟨none, _, run_endLoop hl (by simp [rec0]), hdone xs _ hf (hIp _ _ _ _ hl rfl hi) ((World.putObj_heap_other (by omega)).trans hd)⟩
theorem load_rowF {P : Program} {ρ : Operand → Value} {o : Oper} {w : World} (ty : TypeId) (x : Operand) (ho : o.op = .load ty x) (g : Nat) (hx : ρ x = .pointer (some ⟨g, 0, none⟩)) (t : TypeId) (cs : Array Value) (fr : Nat × Nat) (d : TypeDesc) (hg : w.heap[g]? = some (.cells cs t fr))
  (hu : P.underlying ty = some d) (hd : (match d with | .struct _ | .array _ _ => true | _ => false) = true) (hi : (P.info? ty).map (·.size) = some cs.size) : (execOp ρ o).run P w = .ok (.value (.agg cs)) w := by
 unfold execOp
 simp only [ho, hx, Instr.loadAt, Instr.sureAddr, Sem.run_bind, Sem.run_pure, Result.andThen_ok, run_loadVar_row w g t ty cs fr d hg hu hd hi]
/-- An operation by its run, in a fenced walk. -/
theorem wpListIn_val {ops : Array Oper} {rest : List Oper} {o : Oper} {a : Act} {w w2 : World} {Q : Exit → Act → World → Prop} (hw : Region.wanted o (yielded ops a.tmps) = true) (hd : ∀ c, o.op ≠ .defer c) (hab : o.about P w a.eval = none) (v : Value) (hrun : (execOp a.eval o).run P w = .ok (.value v) w2)
  (h : wpListIn F n P ops Q rest (a.put o.dst v) w2) : wpListIn F n P ops Q (o :: rest) a w := by
 refine wpListIn_step fun K hK => ?_
 rw [if_pos hw]
 unfold Oper.wpIn
 refine ⟨fun f hf => (by rw [hab] at hf; cases hf), ?_⟩
 rw [Oper.semAt_plain F _ _ hd, hrun]
 exact hK _ _ h
theorem wpListIn_don {ops : Array Oper} {rest : List Oper} {o : Oper} {a : Act} {w w2 : World} {Q : Exit → Act → World → Prop} (hw : Region.wanted o (yielded ops a.tmps) = true) (hd : ∀ c, o.op ≠ .defer c) (hab : o.about P w a.eval = none) (hrun : (execOp a.eval o).run P w = .ok .skip w2)
  (h : wpListIn F n P ops Q rest (a.put o.dst undef) w2) : wpListIn F n P ops Q (o :: rest) a w := by
 refine wpListIn_step fun K hK => ?_
 rw [if_pos hw]
 unfold Oper.wpIn
 refine ⟨fun f hf => (by rw [hab] at hf; cases hf), ?_⟩
 rw [Oper.semAt_plain F _ _ hd, hrun]
 exact hK _ _ h
theorem wpListIn_load_row {ops : Array Oper} {rest : List Oper} {o : Oper} {a : Act} {w : World} {Q : Exit → Act → World → Prop} (hw : Region.wanted o (yielded ops a.tmps) = true) (ty : TypeId) (x : Operand) (ho : o.op = .load ty x)
  (g : Nat) (hx : a.eval x = .pointer (some ⟨g, 0, none⟩)) (t : TypeId) (cs : Array Value) (fr : Nat × Nat) (d : TypeDesc) (hg : w.heap[g]? = some (.cells cs t fr))
  (hu : P.underlying ty = some d) (hd : (match d with | .struct _ | .array _ _ => true | _ => false) = true) (hi : (P.info? ty).map (·.size) = some cs.size)
  (h : wpListIn F n P ops Q rest (a.put o.dst (.agg cs)) w) : wpListIn F n P ops Q (o :: rest) a w :=
 wpListIn_val hw (by rw [ho]; intro c e; cases e) (by simp [Oper.about, ho]) _ (load_rowF ty x ho g hx t cs fr d hg hu hd hi) h
theorem wpListIn_store_rnm {ops : Array Oper} {rest : List Oper} {o : Oper} {a : Act} {w : World} {Q : Exit → Act → World → Prop} (hw : Region.wanted o (yielded ops a.tmps) = true) (t : TypeId) (x y : Operand) (ho : o.op = .store t x y) (g : Nat) (hx : a.eval x = .pointer (some ⟨g, 0, none⟩)) (cells : Array Value) (hy : a.eval y = .agg cells)
  (old : Array Value) (e : TypeId) (hg : w.heap[g]? = some (.cells old e (0, 0))) (hi : (P.info? t).map (·.size) = some cells.size) (hs : old.size = cells.size) (h1 : cells.all (·.oneCell') = true)
  (w2 : World) (hq : w.setRow g cells = w2) (h : wpListIn F n P ops Q rest (a.put o.dst undef) w2) : wpListIn F n P ops Q (o :: rest) a w := by
 subst hq
 refine wpListIn_don hw (by rw [ho]; intro c e; cases e) (by simp [Oper.about, ho]) ?_ h
 unfold execOp
 simp only [ho, hx, hy, Instr.storeAt, Instr.sureAddr, Sem.run_bind, Sem.run_pure, Result.andThen_ok, run_storeVar_row w g e t old cells hg hi hs h1]
end
end Go.Proofs.YtnancdbkmompdaaGreat
namespace Go.Proofs.YtnancdbkmompdaaGreat
open Go.RowKit
set_option linter.unusedSimpArgs false
set_option linter.unusedVariables false
attribute [local go_sem] Oper.semAt_some

/-- A list of bytes of which each is told. -/
structure BodR (w : World) (lv : Value) (L : List (List Int)) : Prop where
 row : ∃ a c, lv = .slice a L.length c
 cell : ∀ k, k < L.length → ∃ g off c xv, lv = .slice (some ⟨g, off, none⟩) L.length c ∧ g < w.heap.size ∧ w.cell? ⟨g, off + k, none⟩ = some xv ∧ Bt w xv (L.getD k [])
theorem BodR.below {w w' : World} {lv : Value} {L : List (List Int)} (h : BodR w lv L) (hb : Below w.heap.size w w') : BodR w' lv L := by
 refine ⟨h.row, fun k hk => ?_⟩
 obtain ⟨g, off, c, xv, e, hg, hc, ht⟩ := h.cell k hk
 exact ⟨g, off, c, xv, e, by have := hb.size; omega, (hb.cell (p := ⟨g, off + k, none⟩) hg).trans hc, ht.below hb⟩
/-- A body that is a record: its value, its bytes. -/
abbrev Rc1 : Type := Value × List Int
abbrev rcArgs (x : Rc1) : Array Value := #[x.1]
def rcPv (bs : List (List Int)) (l : Nat) (pre : List Rc1) (x : Rc1) (W : World) : Prop :=
 l < W.heap.size ∧ pre.length < bs.length ∧ pre.map (·.2) ++ [x.2] <+: bs.filter (fun b => decide (endE (rcRd (b, 0)).2 = 0)) ∧ BytL x.2 ∧ endE (rcRd (x.2, 0)).2 = 0 ∧ ∃ (N : Nat) (cs : Array Value), l < N ∧ x.1 = .agg cs ∧ ∀ w'' : World, (∀ k, N ≤ k → k < W.heap.size → w''.heap[k]? = W.heap[k]?) → rcS.is w'' cs.toList (rcRd (x.2, 0)).1
/-- Those of some bodies that are records. -/
def goodB (bs : List (List Int)) : List (List Int) := bs.filter fun b => decide (endE (rcRd (b, 0)).2 = 0)
theorem goodB_snoc (bs : List (List Int)) (k : Nat) (hk : k < bs.length) : goodB (bs.take (k + 1)) = goodB (bs.take k) ++ (if endE (rcRd (bs.getD k [], 0)).2 = 0 then [bs.getD k []] else []) := by
 unfold goodB
 rw [List.take_add_one, List.getElem?_eq_getElem hk, List.filter_append]
 simp only [List.getD, List.getElem?_eq_getElem hk, Option.getD_some, Option.toList_some]
 congr 1
 by_cases q : endE (rcRd (bs[k], 0)).2 = 0
 ·simp [q]
 ·simp [q]
theorem goodB_pre (bs : List (List Int)) (k : Nat) : goodB (bs.take k) <+: goodB bs := by
 have e : goodB bs = goodB (bs.take k) ++ goodB (bs.drop k) := by
  unfold goodB
  rw [← List.filter_append, List.take_append_drop]
 rw [e]
 exact ⟨_, rfl⟩
theorem goodB_len (bs : List (List Int)) : (goodB bs).length ≤ bs.length := List.length_filter_le _ _
/-- The state between two rounds. -/
structure ItR (wa : World) (l : Nat) (bs : List (List Int)) (J : List Rc1 → World → Prop) (k : Nat) (pre : List Rc1) (W : World) : Prop where
 all : pre.map (·.2) = goodB (bs.take k)
 inv : J pre W
 low : Below wa.heap.size wa W
 lt : l < W.heap.size
theorem get_inv {xs : List Int} {u : Value} {w w1 : World} (h : (endE (rcRd (xs, 0)).2 = 0 ∧ ∀ w'' : World, (∀ k, w.heap.size ≤ k → k < w1.heap.size → w''.heap[k]? = w1.heap[k]?) → RecIs w'' u (rcRd (xs, 0)).1) ∨ (endE (rcRd (xs, 0)).2 ≠ 0 ∧ u = .agg z23)) :
  ∃ cs : Array Value, u = .agg cs ∧ cs.size = 23 ∧ cs.all (·.oneCell') = true ∧ (endE (rcRd (xs, 0)).2 = 0 → ∀ w'' : World, (∀ k, w.heap.size ≤ k → k < w1.heap.size → w''.heap[k]? = w1.heap[k]?) → rcS.is w'' cs.toList (rcRd (xs, 0)).1) := by
 rcases h with ⟨q, hm0⟩ | ⟨q, rfl⟩
 ·obtain ⟨cs, rfl, hm⟩ := hm0 w1 (fun _ _ _ => rfl)
  exact ⟨cs, rfl, rc_size hm, by rw [← Array.all_toList]; exact List.all_eq_true.2 (fun v hv => rcS.one hm v hv), fun _ w'' hw'' => by
   obtain ⟨cs', e, hm'⟩ := hm0 w'' hw''
   simp only [Value.agg.injEq] at e
   subst e
   exact hm'⟩
 ·exact ⟨z23, rfl, rfl, by rw [← Array.all_toList]; rfl, fun e => absurd e q⟩
set_option maxRecDepth 100000 in
set_option maxHeartbeats 4000000 in
theorem records1_seq (n B1 : Nat) (hn : 2 ≤ n) (vb : Value) (bs : List (List Int)) (wa w0 : World) (ha : BodR wa vb bs) (hx : ∀ b ∈ bs, BytL b) (hl : ∀ b ∈ bs, b.length ≤ 1000000000) (hlen : bs.length ≤ 1000) (hb : Below wa.heap.size wa w0) (hbox : w0.cell? ⟨B1, 0, none⟩ = some vb) (hB1 : B1 < w0.heap.size) :
  SeqR Fence.wide n Tryz.prog 42 #[.pointer (some ⟨B1, 0, none⟩)] rcArgs (rcPv bs) (Below wa.heap.size) (fun xs => xs.map (·.2) = goodB bs) w0 := by
 intro l J W hW hlW hJ hY h0
 have hbW : Below wa.heap.size wa W := hb.trans (hW.mono hb.size)
 have hcW : W.cell? ⟨B1, 0, none⟩ = some vb := (hW.cell (p := ⟨B1, 0, none⟩) hB1).trans hbox
 have HY := Lib.hid hY
 have HJ := Lib.hid hJ
 have HX := Lib.hid hx
 have HL := Lib.hid hl
 have HA := Lib.hid ha
 have HI : Hid (ItR wa l bs J 0 [] W) := Lib.hid ⟨rfl, h0, hbW, hlW⟩
 have hzW : B1 < W.heap.size := by have := hW.size; omega
 obtain ⟨va, vc, rfl⟩ := ha.row
 obtain ⟨N, hN⟩ : ∃ N, bs.length = N := ⟨_, rfl⟩
 have HN := Lib.hid hN
 rw [hN] at hcW hlen
 have HI3 : Hid ((Tryz.prog.info? 61).map (·.size) = some 23) := Lib.hid (by kernel_rfl)
 clear hY hJ h0 hbW hW hb hbox hx hl ha hB1 hN hlW
 refine callsIn_of_wp Tryz.func42 rfl trivial ?_ rfl
 simp only [Tryz.ntmps42, List.size_toArray, List.length_cons, List.length_nil, Nat.reduceAdd, Nat.reduceSub, Array.replicate_succ, Array.replicate_zero, List.push_toArray, List.append_toArray, List.nil_append, List.cons_append]
 gi_wp2
 gi_loopw [9] (fun s9 wr => ∃ (k : Nat) (pre : List Rc1), k ≤ N ∧ s9 = .int .i64 k ∧ Hid (ItR wa l bs J k pre wr)) (fun s9 _ => N - (intOf s9).toNat)
 case atStart => exact ⟨0, [], by omega, rfl, HI⟩
 case round =>
  clear HI hcW
  obtain ⟨k, pre, hk, rfl, hI⟩ := hrel
  by_cases hlt : k < N
  ·have hlt' : (k : Int) < (N : Int) := by omega
   have hltb : k < bs.length := by have := HN.out; omega
   obtain ⟨g, off, c, xv, e, hg, hc, ht⟩ := HA.out.cell k hltb
   simp only [Value.slice.injEq] at e
   obtain ⟨rfl, -, rfl⟩ := e
   have hc : wr.cell? ⟨g, off + k, none⟩ = some xv := (hI.out.low.cell (p := ⟨g, off + k, none⟩) hg).trans hc
   have ht : Bt wr xv (bs.getD k []) := ht.below hI.out.low
   obtain ⟨b, hbk⟩ : ∃ b, bs.getD k [] = b := ⟨_, rfl⟩
   rw [hbk] at ht
   have hmem : b ∈ bs := by rw [← hbk]; simp only [List.getD, List.getElem?_eq_getElem hltb, Option.getD_some]; exact List.getElem_mem hltb
   have hgw : g < wr.heap.size := by have := hI.out.low.size; omega
   have HG := Lib.hid (get_any xv b wr ht (HX.out b hmem) (HL.out b hmem))
   have HM := Lib.hid (HX.out b hmem)
   have HB := Lib.hid hbk
   obtain ⟨xa, xc, hxv, _⟩ := ht.row
   obtain ⟨xn, hxn⟩ : ∃ q, b.length = q := ⟨_, rfl⟩
   rw [hxn] at hxv
   subst hxv
   clear ht hmem hbk hltb hg hxn
   gi_wp2
   refine ⟨trivial, (fun h => (by cases h)), ?_⟩
   refine (callsIn_wide.2 HG.out).mono ?_
   rintro e w1 ⟨u, he, hb1, hu⟩
   obtain ⟨cs, rfl, hsz, hone, hrec⟩ := get_inv hu
   rw [he.out]
   obtain ⟨er, her⟩ : ∃ q, endE (rcRd (b, 0)).2 = q := ⟨_, rfl⟩
   rw [her] at hrec ⊢
   have HEr := Lib.hid her
   have HNew := Lib.hid (bka_new w1 61 z23)
   have HSz : Hid ((Tryz.prog.info? 61).map (·.size) = some cs.size) := Lib.hid (by rw [hsz]; exact HI3.out)
   have HS2 : Hid (z23.size = cs.size) := Lib.hid (by rw [hsz]; rfl)
   have HOne := Lib.hid hone
   have HRec := Lib.hid hrec
   obtain ⟨w2, hw2⟩ : ∃ q, (w1.alloc (.cells z23 61)).setRow w1.heap.size cs = q := ⟨_, rfl⟩
   have hB2 : Below w1.heap.size w1 w2 := by rw [← hw2]; exact below_setRow ((Below.refl _ _).alloc (Nat.le_refl _) _) (Nat.le_refl _) cs
   have HB2 := Lib.hid (hb1.trans (hB2.mono hb1.size))
   have HRw : Hid (w2.heap[w1.heap.size]? = some (.cells cs 61 (0, 0))) := Lib.hid (by rw [← hw2]; exact heap_setRow_same _ _ z23 cs _ (bka_new w1 _ _))
   have HW2 := Lib.hid hw2
   have HZ1 := Lib.hid hb1.size
   have HBk2 := Lib.hid hB2
   clear he hu hb1 hB2 hsz hone hrec her hc hw2
   by_cases q : er = 0
   ·subst q
    have hJ2 := HJ.out pre wr w2 hI.out.inv HB2.out
    have hpv : rcPv bs l pre (.agg cs, b) w2 := by
     have hkl : k < bs.length := by have := HN.out; omega
     have hpre : pre.map (·.2) ++ [b] <+: goodB bs := by
      have h1 := goodB_pre bs (k + 1)
      rw [goodB_snoc bs k hkl, HB.out, if_pos HEr.out, ← hI.out.all] at h1
      exact h1
     refine ⟨(by have := hI.out.lt; have := HB2.out.size; omega), ?_, hpre, HM.out, HEr.out, wr.heap.size, cs, hI.out.lt, rfl, fun w'' hw'' => HRec.out rfl w'' (fun j hj1 hj2 => ?_)⟩
     ·have h1 := congrArg List.length hI.out.all
      have h2 := goodB_len (bs.take k)
      simp at h1 h2
      omega
     ·exact (hw'' j hj1 (by have := HBk2.out.size; omega)).trans (HBk2.out.block j hj2)
    obtain ⟨fn, tmps, assign, body, hy, hR⟩ := HY.out pre (.agg cs, b) w2 hJ2 hpv
    dsimp only [rcArgs] at hy
    have HR := Lib.hid hR
    have hz2 := HB2.out.size
    have HPV := Lib.hid hpv
    clear hJ2 hpv hR
    gi_wp2_with (first | refine wpListIn_store_rnm rfl 61 _ _ rfl w1.heap.size rfl cs rfl z23 61 HNew.out HSz.out HS2.out HOne.out w2 HW2.out ?_ | refine wpListIn_load_row rfl _ _ rfl w1.heap.size rfl 61 cs (0, 0) _ HRw.out Tryz.underlying61 rfl HSz.out ?_)
    refine ⟨(fun h => (by cases h)), ?_⟩
    refine HR.out.mono ?_
    rintro e W3 ⟨rfl, hJ3, hk3⟩
    have hI3 : ItR wa l bs J (k + 1) (pre ++ [(.agg cs, b)]) W3 := by
     refine ⟨?_, hJ3, ?_, ?_⟩
     ·rw [goodB_snoc bs k (by have := HN.out; omega), HB.out, if_pos HEr.out, ← hI.out.all]
      simp
     ·exact (hI.out.low.trans (HB2.out.mono hI.out.low.size)).trans hk3
     ·have h1 := hI.out.lt
      have h2 := hk3.size
      omega
    have HI3b := Lib.hid hI3
    clear hI3 hJ3 hk3 hI HR hy HPV HRw HNew HSz HS2 HOne HRec HB2 HBk2 HEr
    gi_wp2
    go_roundw
    case rel => exact ⟨k + 1, _, by omega, by go_num, HI3b⟩
    case measure => simp [intOf]; omega
   ·have q1 : (er == 0) = false := by simpa using q
    have q2 : (er != 0) = true := by simpa using q
    have HQ := Lib.hid q
    clear q
    gi_wp2_with (refine wpListIn_store_rnm rfl 61 _ _ rfl w1.heap.size rfl cs rfl z23 61 HNew.out HSz.out HS2.out HOne.out w2 HW2.out ?_)
    have hI3 : ItR wa l bs J (k + 1) pre w2 := by
     refine ⟨?_, HJ.out pre wr w2 hI.out.inv HB2.out, hI.out.low.trans (HB2.out.mono hI.out.low.size), ?_⟩
     ·rw [goodB_snoc bs k (by have := HN.out; omega), HB.out, if_neg (by rw [HEr.out]; exact HQ.out), List.append_nil]
      exact hI.out.all
     ·have h1 := hI.out.lt
      have h2 := HB2.out.size
      omega
    have HI3b := Lib.hid hI3
    clear hI3 hI HRw HNew HSz HS2 HOne HRec HB2 HBk2 HEr
    refine ⟨fun _ h => (by cases h), ?_⟩
    gi_wp2
    go_roundw
    case rel => exact ⟨k + 1, _, by omega, by go_num, HI3b⟩
    case measure => simp [intOf]; omega
  ·have hlt' : ¬ (k : Int) < (N : Int) := by omega
   obtain rfl : k = N := by omega
   gi_wp2
   go_end0
   have hA := hI.out
   refine ⟨⟨_, rfl⟩, pre, ?_, hA.inv⟩
   rw [hA.all]
   have e : bs.take k = bs := by rw [← HN.out]; exact List.take_length
   rw [e]
end Go.Proofs.YtnancdbkmompdaaGreat
