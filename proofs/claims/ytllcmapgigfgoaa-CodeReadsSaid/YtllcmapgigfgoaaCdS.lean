/-
  A store of many cells into a block that is known whole.
-/
import Derived.Test.YtllcmapgigfgoaaCd5
import Derived.Laws.CopyRow
import Derived.Laws.Rows
namespace Go.Proofs.Ytllcmapgigfgoaa
open Go.RowKit
set_option linter.unusedSimpArgs false
set_option linter.unusedVariables false
section
variable {P : Program} {ops : Array Oper} {rest : List Oper} {o : Oper} {a : Act} {w : World} {Q : Exit → Act → World → Prop}
theorem sx_setRow (w : World) (g : Nat) (cs : Array Value) : Sx g w (w.setRow g cs) := by
  refine ⟨rfl, rfl, rfl, by simp, fun k hk => ?_⟩
  simp only [World.setRow]
  rw [Array.getElem?_modify, if_neg (Ne.symm hk)]
theorem wpList_store_bk (hw : Region.wanted o (yielded ops a.tmps) = true) (t : TypeId) (x y : Operand) (ho : o.op = .store t x y) (g off : Nat) (hx : a.eval x = .pointer (some ⟨g, off, none⟩)) (v : Value) (vs : List Value) (hy : a.eval y = v) (hv : v.cells = vs.toArray)
    (hi : (P.info? t).map (·.size) = some vs.length) (T : TypeId) (cs cs' : List Value) (hb : Bk w g T cs) (hl : off + vs.length ≤ cs.length) (h1 : vs.all (·.oneCell') = true) (hcs : cs.take off ++ vs ++ cs.drop (off + vs.length) = cs')
    (h : ∀ w', Sx g w w' → Bk w' g T cs' → wpList P ops Q rest (a.put o.dst undef) w') : wpList P ops Q (o :: rest) a w := by
  subst hcs
  have hb' : w.heap[g]? = some (.cells cs.toArray T (0, 0)) := hb
  have hr := run_storeCells_at (P := P) g off T vs 0 cs.toArray w hb' (by simpa using hl) (fun v hv => (List.all_eq_true.1 h1) v hv)
  simp only [Nat.add_zero] at hr
  refine wpList_done hw (w.setRow g (cs.take off ++ vs ++ cs.drop (off + vs.length)).toArray) ?_ (h _ (sx_setRow _ _ _) (heap_setRow_same w g cs.toArray _ T hb'))
  unfold execOp
  cases hq : P.info? t with
  | none => simp [hq] at hi
  | some i =>
    have hs : vs.length = i.size := by simp [hq] at hi; omega
    simp [ho, hx, hy, Instr.storeAt, Instr.sureAddr, storeVar, sizeOf, typeInfo, hq, hv, hs, hr]
end
theorem StB.storeS {w0 w w' : World} {B b c x : Nat} {T : TypeId} {cs cs' zs : List Value} (h : StB w0 w B b c x T cs zs) (s : Sx x w w') (hb : Bk w' x T cs') : StB w0 w' B b c x T cs' zs :=
  ⟨h.x0, h.hb, h.hc, h.hB, h.hT, hb, h.rs.sx s (by omega), h.ft.sx s (by have := h.x0; omega) h.hB⟩
theorem StW.storeS {w0 w w' : World} {B b c x : Nat} {T : TypeId} {cs cs' zs : List Value} {st : Option (List Int)} (h : StW w0 w B b c x T cs zs st) (s : Sx x w w') (hb : Bk w' x T cs') : StW w0 w' B b c x T cs' zs st :=
  ⟨h.toStB.storeS s hb, h.ob.sx s h.bx h.hT (by have := h.hb; omega) (by have := h.hc; omega)⟩
theorem StR.storeS {w0 w w' : World} {B b c x : Nat} {T : TypeId} {cs cs' zs : List Value} {st : RSt} (h : StR w0 w B b c x T cs zs st) (s : Sx x w w') (hb : Bk w' x T cs') : StR w0 w' B b c x T cs' zs st :=
  ⟨h.toStB.storeS s hb, h.ob.sx s h.bx h.hT (by have := h.hb; omega) (by have := h.hc; omega)⟩
theorem StB.resultS {w0 w w' : World} {B b c x : Nat} {T : TypeId} {cs zs : List Value} (h : StB w0 w B b c x T cs zs) (s : Sx (x + 1) w w') : Ft B b c w0 w' :=
  h.ft.sx s (by have := h.x0; omega) (by have := h.hB; omega)
theorem StW.resultS {w0 w w' : World} {B b c x : Nat} {T : TypeId} {cs zs : List Value} {st : Option (List Int)} (h : StW w0 w B b c x T cs zs st) (s : Sx (x + 1) w w') : WO w' B b c st :=
  h.ob.sx s h.rs h.hT (by have := h.hb; omega) (by have := h.hc; omega)
theorem StR.resultS {w0 w w' : World} {B b c x : Nat} {T : TypeId} {cs zs : List Value} {st : RSt} (h : StR w0 w B b c x T cs zs st) (s : Sx (x + 1) w w') : RO w' B b c st :=
  h.ob.sx s h.rs h.hT (by have := h.hb; omega) (by have := h.hc; omega)
end Go.Proofs.Ytllcmapgigfgoaa
