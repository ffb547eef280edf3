/-
 Blocks that stay; a cell of an own row is set.
-/
import Derived.Test.YtodcmhmankmaoaaGreatRd2
import Derived.Test.YtodcmhmankmaoaaGreatBk
namespace Go.Proofs.YtodcmhmankmaoaaGreat
open Go.RowKit
set_option linter.unusedSimpArgs false
set_option linter.unusedVariables false

/-- All blocks but some are as they were. -/
structure Fr (S : Nat → Prop) (w w' : World) : Prop where
 os : w'.os = w.os
 tape : w'.tape = w.tape
 output : w'.output = w.output
 size : w.heap.size ≤ w'.heap.size
 block : ∀ k, k < w.heap.size → ¬ S k → w'.heap[k]? = w.heap[k]?
theorem Fr.refl (S : Nat → Prop) (w : World) : Fr S w w := ⟨rfl, rfl, rfl, Nat.le_refl _, fun _ _ _ => rfl⟩
theorem Fr.trans {S T U : Nat → Prop} {a b c : World} (h : Fr S a b) (k : Fr T b c) (hu : ∀ j, j < a.heap.size → S j ∨ T j → U j) : Fr U a c :=
 ⟨k.os.trans h.os, k.tape.trans h.tape, k.output.trans h.output, Nat.le_trans h.size k.size, fun j hj hn => (k.block j (Nat.lt_of_lt_of_le hj h.size) (fun q => hn (hu j hj (.inr q)))).trans (h.block j hj (fun q => hn (hu j hj (.inl q))))⟩
theorem Fr.grown {w w' : World} {r : Option Nat} (h : w.grownBy w' r) : Fr (fun k => some k = r) w w' := ⟨h.os, h.tape, h.output, h.size, fun k hk hn => h.block k hk hn⟩
theorem Fr.ofBelow {w w' : World} {N : Nat} (h : Below N w w') : Fr (fun k => N ≤ k) w w' := ⟨h.os, h.tape, h.output, h.size, fun k _ hn => h.block k (by omega)⟩
theorem Fr.set (w : World) (a : Addr) (u : Value) : Fr (fun k => k = a.block) w (w.setCell a u) := ⟨rfl, rfl, rfl, Nat.le_of_eq (by simp), fun k _ hn => Below.heap_setCell w a u k (fun e => hn e)⟩
theorem Fr.bk {S : Nat → Prop} {w w' : World} {b : Nat} {T : TypeId} {cs : List Value} (h : Fr S w w') (hb : Bk w b T cs) (hn : ¬ S b) : Bk w' b T cs := (h.block b hb.lt hn).trans hb
theorem Fr.own {S : Nat → Prop} {w w' : World} {P : Program} {α : Type} {K : Knd P α} {base : Nat} {v : Value} {l : List α} (h : Fr S w w') (hb : K.Own w base v l) (hn : ∀ k, v.ownBlock = some k → ¬ S k) : K.Own w' base v l := hb.keepB fun k hk => h.block k (hb.blk k hk).1 (hn k hk)
theorem Fr.to {S : Nat → Prop} {w w' : World} {N : Nat} (h : Fr S w w') (hN : N ≤ w.heap.size) (hn : ∀ k, k < N → ¬ S k) : Below N w w' := ⟨h.os, h.tape, h.output, h.size, fun k hk => h.block k (Nat.lt_of_lt_of_le hk hN) (hn k hk)⟩
theorem Fr.mono {S T : Nat → Prop} {w w' : World} (h : Fr S w w') (hu : ∀ j, j < w.heap.size → S j → T j) : Fr T w w' := ⟨h.os, h.tape, h.output, h.size, fun k hk hn => h.block k hk (fun q => hn (hu k hk q))⟩
/-- Rows of other types lie in other blocks. -/
theorem row_far {w : World} {P : Program} {α β : Type} {K : Knd P α} {R : Knd P β} {b1 b2 : Nat} {v u : Value} {l : List α} {k : List β} (h : K.Own w b1 v l) (h2 : R.Own w b2 u k) (hT : K.T ≠ R.T) : ∀ j, v.ownBlock = some j → u.ownBlock ≠ some j := by
 intro j hj hk
 obtain ⟨_, cs, fr, e1⟩ := h.blk j hj
 obtain ⟨_, cs2, fr2, e2⟩ := h2.blk j hk
 rw [e1] at e2
 injection e2 with e2
 injection e2 with _ e3 _
 exact hT e3
theorem setCell_block {w : World} {g : Nat} {cur : Array Value} {T : TypeId} (h : w.heap[g]? = some (.cells cur T (0, 0))) (o : Nat) (u : Value) : (w.setCell ⟨g, o, none⟩ u).heap[g]? = some (.cells (cur.setIfInBounds o u) T (0, 0)) := by
 unfold World.setCell
 simp only [Array.getElem?_modify, h, if_true, Option.map_some]
 simp
theorem Knd.row_set {P : Program} {α : Type} {K : Knd P α} (x : α) (i : Nat) (u : Value) (hi : i < K.k) : ∀ (l : List α) (j : Nat) (hj : j < l.length), K.enc x = (K.enc l[j]).set i u → K.row (l.set j x) = (K.row l).set (j * K.k + i) u
 | [], j, hj, _ => absurd hj (Nat.not_lt_zero _)
 | a :: l, 0, hj, h => by
  have h' : K.enc x = (K.enc a).set i u := h
  rw [List.set_cons_zero]
  unfold Knd.row
  rw [List.flatMap_cons, List.flatMap_cons, Nat.zero_mul, Nat.zero_add, List.set_append_left _ _ (by rw [K.len]; exact hi), h']
 | a :: l, j + 1, hj, h => by
  have ih := Knd.row_set x i u hi l j (by simpa using hj) h
  rw [List.set_cons_succ]
  unfold Knd.row at ih ⊢
  rw [List.flatMap_cons, List.flatMap_cons, ih, List.set_append_right _ _ (by rw [K.len, Nat.add_mul]; omega)]
  congr 2
  rw [K.len, Nat.add_mul]
  omega
theorem Knd.Own.put {P : Program} {α : Type} {K : Knd P α} {w : World} {base g n c : Nat} {l : List α} (h : K.Own w base (.slice (some ⟨g, 0, none⟩) n c) l) (j : Nat) (hj : j < l.length) (x : α) (i : Nat) (u : Value) (hi : i < K.k) (hx : K.enc x = (K.enc l[j]).set i u) :
  K.Own (w.setCell ⟨g, j * K.k + i, none⟩ u) base (.slice (some ⟨g, 0, none⟩) n c) (l.set j x) := by
 obtain ⟨h1, h2⟩ := h
 refine ⟨by rw [K.row_len, List.length_set], ?_⟩
 rcases h2 with ⟨h0, _⟩ | ⟨g', cap, cur, hv, hg, hh, hn, hm, hs, hx2⟩
 ·cases h0
 ·simp only [Value.slice.injEq, Option.some.injEq, Addr.mk.injEq, and_true, true_and] at hv
  obtain ⟨rfl, rfl, rfl⟩ := hv
  refine .inr ⟨g, _, _, by rw [List.length_set], hg, setCell_block hh _ _, by rw [List.length_set]; exact hn, hm, by rw [Array.size_setIfInBounds, hs], ?_⟩
  rw [List.length_set, Array.toList_setIfInBounds, Knd.row_set x i u hi l j hj hx, ← hx2, List.take_set]
end Go.Proofs.YtodcmhmankmaoaaGreat
