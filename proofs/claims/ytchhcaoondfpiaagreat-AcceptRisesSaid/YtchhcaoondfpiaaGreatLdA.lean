/-
  A lead, as it lies in memory.
-/
import Derived.Test.YtchhcaoondfpiaaGreatMs
import Derived.Test.YtchhcaoondfpiaaGreatBb
import Derived.Test.YtchhcaoondfpiaaGreatCc
namespace Go.Proofs.YtchhcaoondfpiaaGreat
open Go.RowKit
set_option linter.unusedSimpArgs false
set_option linter.unusedVariables false
set_option maxRecDepth 100000

/-- A lead: its configuration, its node, its instance, its ballots, whether it is a first one, its phase, its command, its attribute, whom it heard, with what. -/
structure LSt where
  ep : Int
  ns : List Int
  node : Int
  id : I3
  bal : Bal
  by' : Bal
  first : Bool
  ph : Int
  cm : CM
  at' : At
  who : List Int
  heard : List Ist
def ldE (L : LSt) (vn vd vw vh : Value) : List Value := [.int .i64 L.ep, vn, .int .i64 L.node, .int .i64 L.id.1, .int .i64 L.id.2.1, .int .i64 L.id.2.2, .int .i64 L.bal.1, .int .i64 L.bal.2, .int .i64 L.by'.1, .int .i64 L.by'.2, .bool L.first, .int .i64 L.ph, .int .i64 L.cm.cl, .int .i64 L.cm.sq, .int .i64 L.cm.op, .string L.cm.pa, .string L.cm.va, .int .i64 L.cm.ver, .int .i64 L.cm.a, .int .i64 L.cm.b, .int .i64 L.at'.1, vd, vw, vh]
/-- What was heard: cells, with a list of one's own. -/
def HIs (w : World) (B : Nat) (cs : List Value) (x : Ist) : Prop := ∃ u, cs = inE x u ∧ IK.Own w B u x.at'.2 ∧ okL x.at'.2
theorem HIs.keep {w w' : World} {B : Nat} {cs : List Value} {x : Ist} (h : HIs w B cs x) (hk : ∀ (k : Nat) cs fr, w.heap[k]? = some (Obj.cells cs 37 fr) → w'.heap[k]? = w.heap[k]?) : HIs w' B cs x := by
  obtain ⟨u, h1, h2, h3⟩ := h
  exact ⟨u, h1, h2.keepB (fun k hk2 => by obtain ⟨_, cs, fr, q⟩ := h2.blk k hk2; exact hk k cs fr q), h3⟩
theorem ty_ne {w : World} {k j : Nat} {cs ds : Array Value} {S T : TypeId} {f1 f2 : Nat × Nat} (h1 : w.heap[k]? = some (.cells cs S f1)) (h2 : w.heap[j]? = some (.cells ds T f2)) (hST : S ≠ T) : k ≠ j := by
  rintro rfl
  rw [h1] at h2
  simp only [Option.some.injEq, Obj.cells.injEq] at h2
  exact hST h2.2.1
/-- What is known of a lead's lists. -/
structure LOk (L : LSt) : Prop where
  nl : L.ns.length ≤ 40
  nd : L.who.Nodup
  sub : ∀ n ∈ L.who, n ∈ L.ns
  hl : L.heard.length = L.who.length
  hd : ∀ x ∈ L.heard, x.at'.2.length ≤ 60
  dl : L.at'.2.length ≤ 3000
theorem nodup_len : ∀ (l k : List Int), l.Nodup → (∀ x ∈ l, x ∈ k) → l.length ≤ k.length
  | [], k, _, _ => Nat.zero_le _
  | a :: l, k, hn, hs => by
    have h1 := List.nodup_cons.1 hn
    have h2 := nodup_len l (k.erase a) h1.2 (fun x hx => by
      have hne : x ≠ a := fun e => h1.1 (e ▸ hx)
      exact (List.mem_erase_of_ne hne).2 (hs x (List.mem_cons_of_mem _ hx)))
    have ha := hs a (List.mem_cons_self ..)
    have h3 := List.length_erase_of_mem ha
    have h4 := List.length_pos_of_mem ha
    simp only [List.length_cons]
    omega
theorem LOk.wl {L : LSt} (h : LOk L) : L.who.length ≤ 40 := Nat.le_trans (nodup_len _ _ h.nd h.sub) h.nl
/-- The world with other cells at g. -/
structure OnlyG (w w' : World) (g : Nat) : Prop where
  os : w'.os = w.os
  tape : w'.tape = w.tape
  output : w'.output = w.output
  size : w'.heap.size = w.heap.size
  block : ∀ k, k ≠ g → w'.heap[k]? = w.heap[k]?
theorem OnlyG.refl (w : World) (g : Nat) : OnlyG w w g := ⟨rfl, rfl, rfl, rfl, fun _ _ => rfl⟩
theorem OnlyG.set {w w' : World} {g : Nat} (h : OnlyG w w' g) (o : Nat) (u : Value) : OnlyG w (w'.setCell ⟨g, o, none⟩ u) g :=
  ⟨h.os, h.tape, h.output, by simpa using h.size, fun k hk => (Below.heap_setCell _ _ _ k hk).trans (h.block k hk)⟩
theorem OnlyG.below {w w' : World} {g : Nat} (h : OnlyG w w' g) : Below g w w' := ⟨h.os, h.tape, h.output, Nat.le_of_eq h.size.symm, fun k hk => h.block k (by omega)⟩
end Go.Proofs.YtchhcaoondfpiaaGreat
