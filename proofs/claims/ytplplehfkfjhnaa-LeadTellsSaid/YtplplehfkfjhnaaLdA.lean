/-
  A lead, as it lies in memory.
-/
import Derived.Test.YtplplehfkfjhnaaMs
import Derived.Test.YtplplehfkfjhnaaBb
import Derived.Test.YtplplehfkfjhnaaCc
namespace Go.Proofs.Ytplplehfkfjhnaa
open Go.RowKit
set_option linter.unusedSimpArgs false
set_option linter.unusedVariables false
set_option maxRecDepth 100000

/-- A lead: its configuration, its node, its instance, its ballots, whether it is a first one, its phase, its command, its attribute, whom it heard, with what. -/
structure LSt where
  ep : Int
  ns : List Int
  node : Int
  id : I3
  bal : Bal
  by' : Bal
  first : Bool
  ph : Int
  cm : CM
  at' : At
  who : List Int
  heard : List Ist
def ldE (L : LSt) (vn vd vw vh : Value) : List Value := [.int .i64 L.ep, vn, .int .i64 L.node, .int .i64 L.id.1, .int .i64 L.id.2.1, .int .i64 L.id.2.2, .int .i64 L.bal.1, .int .i64 L.bal.2, .int .i64 L.by'.1, .int .i64 L.by'.2, .bool L.first, .int .i64 L.ph, .int .i64 L.cm.cl, .int .i64 L.cm.sq, .int .i64 L.cm.op, .string L.cm.pa, .string L.cm.va, .int .i64 L.cm.ver, .int .i64 L.cm.a, .int .i64 L.cm.b, .int .i64 L.at'.1, vd, vw, vh]
/-- What was heard: cells, with a list of one's own. -/
def HIs (w : World) (B : Nat) (cs : List Value) (x : Ist) : Prop := ∃ u, cs = inE x u ∧ IK.Own w B u x.at'.2 ∧ okL x.at'.2
theorem HIs.keep {w w' : World} {B : Nat} {cs : List Value} {x : Ist} (h : HIs w B cs x) (hk : ∀ (k : Nat) cs fr, w.heap[k]? = some (Obj.cells cs 27 fr) → w'.heap[k]? = w.heap[k]?) : HIs w' B cs x := by
  obtain ⟨u, h1, h2, h3⟩ := h
  exact ⟨u, h1, h2.keepB (fun k hk2 => by obtain ⟨_, cs, fr, q⟩ := h2.blk k hk2; exact hk k cs fr q), h3⟩
/-- A row of what was heard. -/
def HRow (w : World) (B Bw : Nat) (v : Value) (l : List Ist) : Prop := ∃ rs, KX.Own w Bw v rs ∧ rs.length = l.length ∧ ∀ (j : Nat) (h : j < rs.length) (h2 : j < l.length), HIs w B rs[j].cs l[j]
theorem ty_ne {w : World} {k j : Nat} {cs ds : Array Value} {S T : TypeId} {f1 f2 : Nat × Nat} (h1 : w.heap[k]? = some (.cells cs S f1)) (h2 : w.heap[j]? = some (.cells ds T f2)) (hST : S ≠ T) : k ≠ j := by
  rintro rfl
  rw [h1] at h2
  simp only [Option.some.injEq, Obj.cells.injEq] at h2
  exact hST h2.2.1
theorem HRow.below {w w' : World} {B Bw : Nat} {v : Value} {l : List Ist} (h : HRow w B Bw v l) (hb : Below w.heap.size w w') : HRow w' B Bw v l := by
  obtain ⟨rs, h1, h2, h3⟩ := h
  exact ⟨rs, h1.below hb, h2, fun j a b => (h3 j a b).keep (fun k cs fr q => hb.block k (Array.getElem?_eq_some_iff.1 q).1)⟩
theorem HRow.nil (w : World) (B Bw : Nat) : HRow w B Bw (.slice none 0 0) [] := ⟨[], Knd.Own.nil _ _, rfl, fun j h => by simp at h⟩
theorem HRow.slice {w : World} {B Bw : Nat} {v : Value} {l : List Ist} (h : HRow w B Bw v l) : ∃ a c, v = .slice a l.length c := by
  obtain ⟨rs, h1, h2, h3⟩ := h
  rw [← h2]
  exact h1.slice
/-- A lead at g: what it leads to lies from B on; whom it heard, and with what, from Bw on. -/
structure LdV (w : World) (B Bw g : Nat) (L : LSt) (vn vd vw vh : Value) : Prop where
  bk : Bk w g 75 (ldE L vn vd vw vh)
  lo : B ≤ g
  hi : g < Bw
  sz : Bw ≤ w.heap.size
  conf : OwnI w B vn L.ns
  cb : ∀ k, vn.ownBlock = some k → k < Bw
  deps : IK.Own w B vd L.at'.2
  ok : okL L.at'.2
  who : OwnI w Bw vw L.who
  heard : HRow w B Bw vh L.heard
def LdAt (w : World) (B g : Nat) (L : LSt) : Prop := ∃ Bw vn vd vw vh, LdV w B Bw g L vn vd vw vh
theorem LdV.below {w w' : World} {B Bw g : Nat} {L : LSt} {vn vd vw vh : Value} (h : LdV w B Bw g L vn vd vw vh) (hb : Below w.heap.size w w') : LdV w' B Bw g L vn vd vw vh := by
  obtain ⟨h1, h2, h3, h4, q1, q2, h6, h7, h8, h9⟩ := h
  exact ⟨h1.below hb, h2, h3, Nat.le_trans h4 hb.size, q1.below hb, q2, h6.below hb, h7, h8.below hb, h9.below hb⟩
theorem LdAt.below {w w' : World} {B g : Nat} {L : LSt} (h : LdAt w B g L) (hb : Below w.heap.size w w') : LdAt w' B g L := by
  obtain ⟨Bw, vn, vd, vw, vh, h⟩ := h
  exact ⟨Bw, vn, vd, vw, vh, h.below hb⟩
theorem LdAt.lt {w : World} {B g : Nat} {L : LSt} (h : LdAt w B g L) : g < w.heap.size ∧ B ≤ g := by
  obtain ⟨Bw, vn, vd, vw, vh, h⟩ := h
  exact ⟨h.bk.lt, h.lo⟩
/-- What is known of a lead's lists. -/
structure LOk (L : LSt) : Prop where
  nl : L.ns.length ≤ 40
  nd : L.who.Nodup
  sub : ∀ n ∈ L.who, n ∈ L.ns
  hl : L.heard.length = L.who.length
  hd : ∀ x ∈ L.heard, x.at'.2.length ≤ 60
  dl : L.at'.2.length ≤ 3000
theorem nodup_len : ∀ (l k : List Int), l.Nodup → (∀ x ∈ l, x ∈ k) → l.length ≤ k.length
  | [], k, _, _ => Nat.zero_le _
  | a :: l, k, hn, hs => by
    have h1 := List.nodup_cons.1 hn
    have h2 := nodup_len l (k.erase a) h1.2 (fun x hx => by
      have hne : x ≠ a := fun e => h1.1 (e ▸ hx)
      exact (List.mem_erase_of_ne hne).2 (hs x (List.mem_cons_of_mem _ hx)))
    have ha := hs a (List.mem_cons_self ..)
    have h3 := List.length_erase_of_mem ha
    have h4 := List.length_pos_of_mem ha
    simp only [List.length_cons]
    omega
theorem LOk.wl {L : LSt} (h : LOk L) : L.who.length ≤ 40 := Nat.le_trans (nodup_len _ _ h.nd h.sub) h.nl
theorem LdV.irow {w : World} {B Bw g : Nat} {L : LSt} {vn vd vw vh : Value} (h : LdV w B Bw g L vn vd vw vh) (ho : LOk L) : ∃ a c, vn = .slice a L.ns.length c ∧ IRow w a L.ns := by
  obtain ⟨a, c, e, h1, _⟩ := (h.conf.it (by have := ho.nl; omega)).row
  exact ⟨a, c, e, h1⟩
theorem LdV.wrow {w : World} {B Bw g : Nat} {L : LSt} {vn vd vw vh : Value} (h : LdV w B Bw g L vn vd vw vh) (ho : LOk L) : ∃ a c, vw = .slice a L.who.length c ∧ IRow w a L.who := by
  obtain ⟨a, c, e, h1, _⟩ := (h.who.it (by have := ho.wl; omega)).row
  exact ⟨a, c, e, h1⟩
theorem own_keepG {w w' : World} {B : Nat} {v : Value} {l : List I3} (h : IK.Own w B v l) {g : Nat} (hg : ∃ cs fr, w.heap[g]? = some (.cells cs 75 fr)) (hk : ∀ k, k ≠ g → w'.heap[k]? = w.heap[k]?) : IK.Own w' B v l := by
  refine h.keepB fun k hk2 => hk k ?_
  obtain ⟨cs, fr, hg⟩ := hg
  obtain ⟨_, ds, f2, q⟩ := h.blk k hk2
  exact ty_ne q hg (by decide)
theorem ownI_keepG {w w' : World} {B : Nat} {v : Value} {l : List Int} (h : OwnI w B v l) {g : Nat} (hg : ∃ cs fr, w.heap[g]? = some (.cells cs 75 fr)) (hk : ∀ k, k ≠ g → w'.heap[k]? = w.heap[k]?) : OwnI w' B v l := by
  refine h.keepB fun k hk2 => hk k ?_
  obtain ⟨cs, fr, hg⟩ := hg
  obtain ⟨_, ds, f2, q⟩ := h.blk k hk2
  exact ty_ne q hg (by decide)
theorem HRow.keepG {w w' : World} {B Bw : Nat} {v : Value} {l : List Ist} (h : HRow w B Bw v l) {g : Nat} (hg : ∃ cs fr, w.heap[g]? = some (.cells cs 75 fr)) (hk : ∀ k, k ≠ g → w'.heap[k]? = w.heap[k]?) : HRow w' B Bw v l := by
  obtain ⟨rs, h1, h2, h3⟩ := h
  obtain ⟨cs, fr, hg⟩ := hg
  exact ⟨rs, h1.keepB (fun k hk2 => hk k (by obtain ⟨_, ds, f2, q⟩ := h1.blk k hk2; exact ty_ne q hg (by decide))), h2, fun j a b => (h3 j a b).keep (fun k cs fr q => hk k (ty_ne q hg (by decide)))⟩
/-- The world with other cells at g. -/
structure OnlyG (w w' : World) (g : Nat) : Prop where
  os : w'.os = w.os
  tape : w'.tape = w.tape
  output : w'.output = w.output
  size : w'.heap.size = w.heap.size
  block : ∀ k, k ≠ g → w'.heap[k]? = w.heap[k]?
theorem OnlyG.refl (w : World) (g : Nat) : OnlyG w w g := ⟨rfl, rfl, rfl, rfl, fun _ _ => rfl⟩
theorem OnlyG.set {w w' : World} {g : Nat} (h : OnlyG w w' g) (o : Nat) (u : Value) : OnlyG w (w'.setCell ⟨g, o, none⟩ u) g :=
  ⟨h.os, h.tape, h.output, by simpa using h.size, fun k hk => (Below.heap_setCell _ _ _ k hk).trans (h.block k hk)⟩
theorem OnlyG.below {w w' : World} {g : Nat} (h : OnlyG w w' g) : Below g w w' := ⟨h.os, h.tape, h.output, Nat.le_of_eq h.size.symm, fun k hk => h.block k (by omega)⟩
/-- Another state of the lead's own cells. -/
theorem LdV.turn {w w' : World} {B Bw g : Nat} {L M : LSt} {vn vd vw vh vd2 vw2 vh2 : Value} (h : LdV w B Bw g L vn vd vw vh) (hk : OnlyG w w' g) (hbk : Bk w' g 75 (ldE M vn vd2 vw2 vh2)) (hns : M.ns = L.ns)
    (hd : IK.Own w B vd2 M.at'.2) (ho : okL M.at'.2) (hw : OwnI w Bw vw2 M.who) (hh : HRow w B Bw vh2 M.heard) : LdV w' B Bw g M vn vd2 vw2 vh2 := by
  have hg : ∃ cs fr, w.heap[g]? = some (.cells cs 75 fr) := ⟨_, _, h.bk⟩
  exact ⟨hbk, h.lo, h.hi, by rw [hk.size]; exact h.sz, by rw [hns]; exact ownI_keepG h.conf hg hk.block, h.cb, own_keepG hd hg hk.block, ho, ownI_keepG hw hg hk.block, hh.keepG hg hk.block⟩
end Go.Proofs.Ytplplehfkfjhnaa
