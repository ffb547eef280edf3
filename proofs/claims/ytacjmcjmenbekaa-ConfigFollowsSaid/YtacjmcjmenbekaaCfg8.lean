/-
  The walks of package config: the table of the commands; the next configuration.
-/
import Derived.Test.YtacjmcjmenbekaaCfg7
namespace Go.Proofs.Ytacjmcjmenbekaa
open Go.RowKit
open Go.MapKept
set_option linter.unusedSimpArgs false
set_option linter.unusedVariables false

abbrev opT : TypeId := 25
theorem run_ins (w : World) (b : Nat) (es : Array MapEntry) (clock : Nat) (hb : w.heap[b]? = some (.map es clock)) (k : Int) (val : Value) (hf : Instr.findNow (.int .i64) (.int .i64 k) es.toList 0 = some none) :
    (Instr.mapUpdate 42 (.map (some b)) (.int .i64 k) val).run Try.prog w = .ok () { w with heap := w.heap.setIfInBounds b (.map (es.push ⟨.int .i64 k, val, clock⟩) (clock + 1)) } := by
  have hd : Try.prog.underlying opT = some (.int .i64) := Try.underlying25
  simp only [Instr.mapUpdate, Sem.run_bind, run_underlying Try.underlying42, Result.andThen_ok, Go.MapKept.run_getObj_map hb, Go.MapKept.run_checkKey (n := 9999) hd (show IsKey (.int .i64) (.int .i64 k) from rfl), Go.MapKept.run_findKey hd hf, Go.MapKept.run_setObj_map _ hb]
theorem wpList_ins {ops : Array Oper} {rest : List Oper} {o : Oper} {a : Act} {w : World} {Q : Exit → Act → World → Prop} (hgd : o.guard = none) (m x v : Operand)
    (ho : o.op = .insert 42 m x v) (b : Nat) (es : Array MapEntry) (clock : Nat) (hm : a.eval m = .map (some b)) (hb : w.heap[b]? = some (.map es clock)) (k : Int) (val : Value) (hx : a.eval x = .int .i64 k) (hv : a.eval v = val)
    (hf : Instr.findNow (.int .i64) (.int .i64 k) es.toList 0 = some none)
    (h : ∀ w', w'.heap[b]? = some (.map (es.push ⟨.int .i64 k, val, clock⟩) (clock + 1)) → Below b w w' → w'.heap.size = w.heap.size → wpList Try.prog ops Q rest (a.put o.dst undef) w') : wpList Try.prog ops Q (o :: rest) a w := by
  refine wpList_done (by simp [Region.wanted, hgd]) _ ?_ (h { w with heap := w.heap.setIfInBounds b (.map (es.push ⟨.int .i64 k, val, clock⟩) (clock + 1)) } (heap_set hb).1 ((Below.refl b w).grown (row := some b) ⟨rfl, rfl, rfl, by simp, fun k _ hk => (heap_set hb).2 k (fun e => hk (by rw [e]))⟩ (Nat.le_of_lt (Array.getElem?_eq_some_iff.1 hb).1) (fun k e => by cases e; exact Nat.le_refl _)) (by simp))
  unfold execOp
  simp only [ho, hm, hx, hv, Sem.run_bind, run_ins w b es clock hb k val hf, Result.andThen_ok, Sem.run_pure]
abbrev fnV (n : Nat) : Value := .func (.func n) #[] #[]
abbrev tabE : Array MapEntry := #[⟨.int .i64 7, fnV 29, 0⟩, ⟨.int .i64 8, fnV 30, 1⟩, ⟨.int .i64 9, fnV 31, 2⟩]
theorem run_look (w : World) (b : Nat) (hb : w.heap[b]? = some (.map tabE 3)) (k : Int) (r : Option (Nat × Value)) (hf : Instr.findNow (.int .i64) (.int .i64 k) tabE.toList 0 = some r) (z : Value) (hz : ∀ w, (zeroValue 40).run Try.prog w = .ok z w) :
    (Instr.lookup 42 (.map (some b)) (.int .i64 k) true).run Try.prog w = .ok (.tuple #[(r.map (·.2)).getD z, .bool r.isSome]) w := by
  have hd : Try.prog.underlying opT = some (.int .i64) := Try.underlying25
  simp only [Instr.lookup, Sem.run_bind, run_underlying Try.underlying42, Result.andThen_ok, Go.MapKept.run_getObj_map hb, Sem.run_pure, Go.MapKept.run_checkKey (n := 9999) hd (show IsKey (.int .i64) (.int .i64 k) from rfl), Go.MapKept.run_findKey hd hf]
  cases r with
  | none => simp [hz]
  | some p => simp
def ChPost (w : World) (e : Ending) (w' : World) : Prop := ∃ b, Hid (e = .returned (.map (some b))) ∧ w'.heap[b]? = some (.map tabE 3) ∧ Below w.heap.size w w'
set_option maxHeartbeats 400000 in
theorem changes_any (w : World) : Calls Try.prog 21 #[] w (ChPost w) := by
  have hmm := @run_makeMap Try.prog
  have hA : Hid ((w.alloc (.map #[] 0)).heap[w.heap.size]? = some (.map #[] 0)) := Lib.hid (heap_alloc_new w _)
  have hB : Hid (Below w.heap.size w (w.alloc (.map #[] 0))) := Lib.hid ((Below.refl _ _).alloc (Nat.le_refl _) _)
  go_enter Try.func21, Try.ntmps21
  go_wp2_with (refine wpList_ins rfl _ _ _ rfl w.heap.size #[] 0 rfl hA.out 7 _ rfl rfl rfl ?_)
  intro w1 h1 b1 z1
  have H1 := Lib.hid h1
  have B1 := Lib.hid (hB.out.trans b1)
  clear h1 b1 z1 hA
  go_wp2_with (refine wpList_ins rfl _ _ _ rfl w.heap.size _ 1 rfl H1.out 8 _ rfl rfl rfl ?_)
  intro w2 h2 b2 z2
  have H2 := Lib.hid h2
  have B2 := Lib.hid (B1.out.trans b2)
  clear h2 b2 z2 H1
  go_wp2_with (refine wpList_ins rfl _ _ _ rfl w.heap.size _ 2 rfl H2.out 9 _ rfl rfl rfl ?_)
  intro w3 h3 b3 z3
  have H3 := Lib.hid h3
  have B3 := Lib.hid (B2.out.trans b3)
  clear h3 b3 z3 H2
  go_wp2
  go_ret
  exact ⟨_, rfl, H3.out, B3.out⟩
end Go.Proofs.Ytacjmcjmenbekaa
