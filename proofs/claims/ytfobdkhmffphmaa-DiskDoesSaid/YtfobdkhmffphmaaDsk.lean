/-
  Package disk: how a disk lies in memory, and what its short calls do.
-/
import Derived.Test.YtfobdkhmffphmaaFrmQ
import Derived.Laws.CopyOwn
import Derived.Laws.MakeOwn
namespace Go.Proofs.Ytfobdkhmffphmaa
open Go.RowKit
set_option linter.unusedSimpArgs false
set_option linter.unusedVariables false

/-- What a call may write: block p, and the row of v; all else that was there stays. -/
structure Foot (w w' : World) (p : Nat) (v : Value) : Prop where
  os : w'.os = w.os
  tape : w'.tape = w.tape
  output : w'.output = w.output
  size : w.heap.size ≤ w'.heap.size
  block : ∀ k, k < w.heap.size → k ≠ p → some k ≠ v.ownBlock → w'.heap[k]? = w.heap[k]?
/-- A disk at block p: its bytes, of which so many last; its row lies from block B on. -/
structure DAt (w : World) (B p : Nat) (v : Value) (bs : List Int) (last : Nat) : Prop where
  lt : p < w.heap.size
  low : B ≤ p
  c0 : w.cell? ⟨p, 0, none⟩ = some v
  c1 : w.cell? ⟨p, 1, none⟩ = some (.int .i64 last)
  f0 : w.frozen? ⟨p, 0, none⟩ = false
  f1 : w.frozen? ⟨p, 1, none⟩ = false
  own : Own8 w B v bs
  far : ∀ k, v.ownBlock = some k → k ≠ p
  blk : ∃ cs fr, w.heap[p]? = some (.cells cs 48 fr)
theorem Own8.slice {w : World} {base : Nat} {v : Value} {xs : List Int} (h : Own8 w base v xs) : ∃ a c, v = .slice a xs.length c := by
  rcases h.2 with ⟨rfl, h0⟩ | ⟨g, cap, cur, rfl, _⟩
  · exact ⟨_, _, by rw [h0]⟩
  · exact ⟨_, _, rfl⟩
theorem Own8.lt {w : World} {base : Nat} {v : Value} {xs : List Int} (h : Own8 w base v xs) : ∀ k, v.ownBlock = some k → k < w.heap.size := by
  intro k hk
  rcases h.2 with ⟨rfl, _⟩ | ⟨g, cap, cur, rfl, hg, hh, _⟩
  · cases hk
  · simp [Value.ownBlock] at hk
    subst hk
    exact (Array.getElem?_eq_some_iff.1 hh).1
/-- A row stays where its block does. -/
theorem Own8.keep {w w' : World} {base : Nat} {v : Value} {xs : List Int} (h : Own8 w base v xs) (hk : ∀ k, v.ownBlock = some k → w'.heap[k]? = w.heap[k]?) : Own8 w' base v xs := by
  obtain ⟨h1, h2⟩ := h
  refine ⟨h1, ?_⟩
  rcases h2 with h2 | ⟨g, cap, cur, hv, hg, hh, hr⟩
  · exact .inl h2
  · exact .inr ⟨g, cap, cur, hv, hg, (hk g (by rw [hv]; rfl)).trans hh, hr⟩
theorem Own8.set {w : World} {base : Nat} {v : Value} {xs : List Int} (h : Own8 w base v xs) {a : Addr} (ha : ∀ k, v.ownBlock = some k → k ≠ a.block) (u : Value) : Own8 (w.setCell a u) base v xs :=
  h.keep fun k hk => Below.heap_setCell _ _ _ _ (ha k hk)
theorem Own8.below {w w' : World} {base : Nat} {v : Value} {xs : List Int} (h : Own8 w base v xs) (hb : Below w.heap.size w w') : Own8 w' base v xs :=
  h.keep fun k hk => hb.block k (h.lt k hk)
theorem Own8.le {w : World} {b b2 : Nat} {v : Value} {xs : List Int} (h : Own8 w b v xs) (hb : b2 ≤ b) : Own8 w b2 v xs := by
  obtain ⟨h1, h2⟩ := h
  refine ⟨h1, ?_⟩
  rcases h2 with h2 | ⟨g, cap, cur, hv, hg, hr⟩
  · exact .inl h2
  · exact .inr ⟨g, cap, cur, hv, Nat.le_trans hb hg, hr⟩
/-- The first ones of a row. -/
theorem Own8.take {w : World} {base n c : Nat} {a : Option Addr} {xs : List Int} (h : Own8 w base (.slice a xs.length c) xs) (hn : n ≤ xs.length) : Own8 w base (.slice a n c) (xs.take n) := by
  obtain ⟨h1, h2⟩ := h
  have hl : (xs.take n).length = n := by simp; omega
  refine ⟨by simp, ?_⟩
  rw [hl]
  rcases h2 with ⟨hv, h0⟩ | ⟨g, cap, cur, hv, hg, hh, hnc, hm, hs, hx⟩
  · simp only [Value.slice.injEq] at hv
    obtain ⟨rfl, _, rfl⟩ := hv
    exact .inl ⟨by rw [show n = 0 from by omega], by omega⟩
  · simp only [Value.slice.injEq] at hv
    obtain ⟨rfl, _, rfl⟩ := hv
    refine .inr ⟨g, c, cur, rfl, hg, hh, by omega, hm, hs, ?_⟩
    have e : u8v (xs.take n) = (u8v xs).take n := by simp [u8v]
    rw [e, ← hx, List.take_take]
    congr 1
    omega
theorem Foot.refl (w : World) (p : Nat) (v : Value) : Foot w w p v := ⟨rfl, rfl, rfl, Nat.le_refl _, fun _ _ _ _ => rfl⟩
theorem Foot.below {w w' : World} {B p : Nat} {v : Value} (h : Foot w w' p v) (hp : B ≤ p) (hv : ∀ k, v.ownBlock = some k → B ≤ k) (hB : B ≤ w.heap.size) : Below B w w' :=
  ⟨h.os, h.tape, h.output, h.size, fun k hk => h.block k (by omega) (by omega) (fun e => by have := hv k e.symm; omega)⟩
theorem Foot.of_below {w w' : World} (p : Nat) (v : Value) (h : Below w.heap.size w w') : Foot w w' p v := ⟨h.os, h.tape, h.output, h.size, fun k hk _ _ => h.block k hk⟩
theorem Foot.set {w w' : World} {p : Nat} {v : Value} (h : Foot w w' p v) (o : Nat) (u : Value) : Foot w (w'.setCell ⟨p, o, none⟩ u) p v :=
  ⟨h.os, h.tape, h.output, by simpa using h.size, fun k h1 h2 h3 => (Below.heap_setCell _ _ _ _ (by dsimp only; omega)).trans (h.block k h1 h2 h3)⟩
theorem Foot.alloc {w w' : World} {p : Nat} {v : Value} (h : Foot w w' p v) (o : Obj) : Foot w (w'.alloc o) p v :=
  ⟨h.os, h.tape, h.output, by have := h.size; simp; omega, fun k h1 h2 h3 => (Below.heap_alloc _ _ _ (by have := h.size; omega)).trans (h.block k h1 h2 h3)⟩
/-- What comes of a disk's rows: the same, or a new one. -/
def Next (w : World) (v v' : Value) : Prop := ∀ k, v'.ownBlock = some k → v.ownBlock = some k ∨ w.heap.size ≤ k
theorem Foot.trans {w w1 w2 : World} {p : Nat} {v v1 : Value} (h : Foot w w1 p v) (k : Foot w1 w2 p v1) (hn : Next w v v1) : Foot w w2 p v :=
  ⟨k.os.trans h.os, k.tape.trans h.tape, k.output.trans h.output, Nat.le_trans h.size k.size, fun j h1 h2 h3 => (k.block j (Nat.lt_of_lt_of_le h1 h.size) h2 (fun e => by
    rcases hn j e.symm with q | q
    · exact h3 q.symm
    · omega)).trans (h.block j h1 h2 h3)⟩
theorem Next.trans {w w1 : World} {v v1 v2 : Value} (h : Next w v v1) (k : Next w1 v1 v2) (hs : w.heap.size ≤ w1.heap.size) : Next w v v2 := fun j hj => by
  rcases k j hj with q | q
  · exact h j q
  · exact .inr (Nat.le_trans hs q)
theorem Next.refl (w : World) (v : Value) : Next w v v := fun k h => .inl h
/-- A disk stays where its blocks do. -/
theorem DAt.keep {w w' : World} {B p : Nat} {v : Value} {bs : List Int} {last : Nat} (h : DAt w B p v bs last) (hs : w.heap.size ≤ w'.heap.size) (hp : w'.heap[p]? = w.heap[p]?) (hk : ∀ k, v.ownBlock = some k → w'.heap[k]? = w.heap[k]?) : DAt w' B p v bs last :=
  ⟨Nat.lt_of_lt_of_le h.lt hs, h.low, (World.cell?_of_block (a := ⟨p, 0, none⟩) hp).trans h.c0, (World.cell?_of_block (a := ⟨p, 1, none⟩) hp).trans h.c1, (World.frozen?_of_block (a := ⟨p, 0, none⟩) hp).trans h.f0, (World.frozen?_of_block (a := ⟨p, 1, none⟩) hp).trans h.f1, h.own.keep hk, h.far, by rw [hp]; exact h.blk⟩
theorem DAt.below {w w' : World} {B p : Nat} {v : Value} {bs : List Int} {last : Nat} (h : DAt w B p v bs last) (hb : Below w.heap.size w w') : DAt w' B p v bs last :=
  h.keep hb.size (hb.block p h.lt) (fun k hk => hb.block k (h.own.lt k hk))
theorem blk_set {w : World} {p : Nat} {t : TypeId} (h : ∃ cs fr, w.heap[p]? = some (.cells cs t fr)) (o : Nat) (u : Value) : ∃ cs fr, (w.setCell ⟨p, o, none⟩ u).heap[p]? = some (.cells cs t fr) := by
  obtain ⟨cs, fr, hh⟩ := h
  refine ⟨cs.setIfInBounds o u, fr, ?_⟩
  simp [World.setCell, Array.getElem?_modify, hh]
theorem DAt.bt {w : World} {B p : Nat} {v : Value} {bs : List Int} {last : Nat} (h : DAt w B p v bs last) (hl : bs.length ≤ 1000000000) : Bt w v bs := h.own.bt (by omega)
end Go.Proofs.Ytfobdkhmffphmaa
