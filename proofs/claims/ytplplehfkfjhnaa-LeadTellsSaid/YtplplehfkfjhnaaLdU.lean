/-
  Leads: Ask, steps and what it comes to.
-/
import Derived.Test.YtplplehfkfjhnaaLdN
namespace Go.Proofs.Ytplplehfkfjhnaa
open Go.RowKit
open Bb (quoN thN allB)
set_option linter.unusedSimpArgs false
set_option linter.unusedVariables false
set_option maxRecDepth 100000

section
variable {P : Program} {ops : Array Oper} {o : Oper} {a : Act} {w : World} {K : Act → World → Prop} {Q : Exit → Act → World → Prop} {E : Prop}
theorem step_doneL (hg : o.guard = none) (w' : World) (hr : (execOp a.eval o).run P w = .ok .skip w') (hK : K (a.put o.dst undef) w') :
    if Region.wanted o (yielded ops a.tmps) = true then Oper.wp P o a w K Q else E := by
  rw [if_pos (by simp [Region.wanted, hg])]
  unfold Oper.wp
  rw [hr]
  exact hK
theorem step_store_row (hgd : o.guard = none) (t : TypeId) (x y : Operand) (ho : o.op = .store t x y) (g : Nat) (hx : a.eval x = .pointer (some ⟨g, 0, none⟩)) (cells : Array Value) (hy : a.eval y = .agg cells)
    (old : Array Value) (e : TypeId) (hg : w.heap[g]? = some (.cells old e (0, 0))) (hi : (P.info? t).map (·.size) = some cells.size) (hs : old.size = cells.size) (h1 : cells.all (·.oneCell') = true)
    (hK : K (a.put o.dst undef) (w.setRow g cells)) : if Region.wanted o (yielded ops a.tmps) = true then Oper.wp P o a w K Q else E := by
  refine step_doneL hgd _ ?_ hK
  unfold execOp
  simp only [ho, hx, hy, Instr.storeAt, Instr.sureAddr, Sem.run_bind, Sem.run_pure, Result.andThen_ok, run_storeVar_row w g e t old cells hg hi hs h1]
end
theorem infoMs : (Try.prog.info? 44).map (·.size) = some 27 := by kernel_rfl
/-- What a lead asks all. -/
def sn0 : Snp := ((0, []), [], [])
def in00 : Ist := ⟨0, (0, 0), (0, 0), cm0, (0, [])⟩
def askL (L : LSt) : Mg :=
  if L.ph = 0 then ⟨0, L.node, 0, L.id, L.bal, ⟨0, (0, 0), (0, 0), L.cm, L.at'⟩, sn0⟩
  else if L.ph = 1 then ⟨2, L.node, 0, L.id, L.bal, ⟨0, (0, 0), (0, 0), L.cm, L.at'⟩, sn0⟩
  else if L.ph = 2 then ⟨5, L.node, 0, L.id, L.bal, in00, sn0⟩
  else if L.ph = 3 then ⟨4, L.node, 0, L.id, L.bal, ⟨3, (0, 0), L.bal, L.cm, L.at'⟩, sn0⟩
  else ⟨8, L.node, 0, (0, 0, 0), (0, 0), in00, sn0⟩
def AkP (M : Mg) (w : World) (e : Ending) (w' : World) : Prop := ∃ u, Hid (e = .returned (.agg (msE M u (.slice none 0 0) (.slice none 0 0) (.slice none 0 0)).toArray)) ∧ IK.Own w' w.heap.size u M.ins.at'.2 ∧ Below w.heap.size w w'
theorem bk_setRow {w : World} {b : Nat} {T : TypeId} {cs ds : List Value} (h : Bk w b T cs) : Bk (w.setRow b ds.toArray) b T ds := heap_setRow_same w b cs.toArray ds.toArray T h
theorem bk_otherRow {w : World} {b c : Nat} {T : TypeId} {cs : List Value} {ds : Array Value} (h : Bk w b T cs) (hn : b ≠ c) : Bk (w.setRow c ds) b T cs := by
  unfold Bk at h ⊢
  rw [← h]
  simp only [World.setRow]
  rw [Array.getElem?_modify, if_neg (fun e => hn e.symm)]
theorem all_toL {l : List Value} (h : l.all (·.oneCell') = true) : l.toArray.all (·.oneCell') = true := by rw [← Array.all_toList]; exact h
end Go.Proofs.Ytplplehfkfjhnaa
