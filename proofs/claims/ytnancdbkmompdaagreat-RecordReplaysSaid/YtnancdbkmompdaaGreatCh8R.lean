/-
 What the document reads: a message.
-/
import Derived.Test.YtnancdbkmompdaaGreatRY
import Derived.Test.YtnancdbkmompdaaGreatCh7R
import Derived.Test.YtnancdbkmompdaaGreatRcdR
import Derived.Deep.MidRow
namespace Go.Proofs.YtnancdbkmompdaaGreat
open Go.RowKit
set_option linter.unusedSimpArgs false
set_option linter.unusedVariables false
set_option maxRecDepth 100000
set_option maxHeartbeats 40000000
theorem sets_like {b : Nat} : ∀ (vs : List Value) (o : Nat) (w : World), (w.setCells b o vs).os = w.os ∧ (w.setCells b o vs).tape = w.tape ∧ (w.setCells b o vs).output = w.output ∧ (w.setCells b o vs).heap.size = w.heap.size
 | [], _, _ => ⟨rfl, rfl, rfl, rfl⟩
 | v :: r, o, w => by
  obtain ⟨h1, h2, h3, h4⟩ := sets_like (b := b) r (o + 1) (w.setCell ⟨b, o, none⟩ v)
  exact ⟨h1, h2, h3, h4.trans (by simp)⟩
theorem ES.sets {w0 w : World} {r : Nat} {s : ByteArray} {gi g : Nat} {T : TypeId} {cs : List Value} {st : RSt} (h : ES w0 w r s gi g T cs st) (o : Nat) (vs : List Value) : ES w0 (w.setCells g o vs) r s gi g T (splice cs o vs) st := by
 have := h.hr; have := h.hg; have := h.hi
 obtain ⟨l1, l2, l3, l4⟩ := sets_like (b := g) vs o w
 obtain ⟨a, h1, h2, h3⟩ := h.rd
 exact ⟨⟨a, h1, h2, (sets_far (by omega) vs o w).trans h3⟩, (sets_far (by omega) vs o w).trans h.bi, h.bx.sets vs o w cs, ⟨l1.trans h.fo.os, l2.trans h.fo.tape, l3.trans h.fo.output, (by rw [l4]; exact h.fo.size), fun k hk hne => (sets_far (by omega) vs o w).trans (h.fo.block k hk hne)⟩, h.hr, h.hi, h.hri, h.hg⟩
theorem ES.setRow {w0 w : World} {r : Nat} {s : ByteArray} {gi g : Nat} {T : TypeId} {cs : List Value} {st : RSt} (h : ES w0 w r s gi g T cs st) (vs : List Value) : ES w0 (w.setRow g vs.toArray) r s gi g T vs st := by
 have := h.hr; have := h.hg; have := h.hi
 have hb : ∀ k, k ≠ g → (w.setRow g vs.toArray).heap[k]? = w.heap[k]? := fun k hk => (sx_setRow _ g vs.toArray).block k hk
 obtain ⟨a, h1, h2, h3⟩ := h.rd
 exact ⟨⟨a, h1, h2, (hb _ (by omega)).trans h3⟩, (hb _ (by omega)).trans h.bi, heap_setRow_same _ _ cs.toArray vs.toArray _ h.bx, ⟨h.fo.os, h.fo.tape, h.fo.output, (by rw [(sx_setRow _ g vs.toArray).size]; exact h.fo.size), fun k hk hne => (hb k (by omega)).trans (h.fo.block k hk hne)⟩, h.hr, h.hi, h.hri, h.hg⟩
theorem OwnR.sets {k : Nat} {K : Knd Tryz.prog (Cls k)} {α : Type} {R : Rz α} {w : World} {N : Nat} {v : Value} {l : List α} (h : OwnR K R w N v l) {b : Nat} (hb : b < N) (o : Nat) (vs : List Value) : OwnR K R (w.setCells b o vs) N v l :=
 h.keep fun i hi _ => sets_far (by omega) vs o w
/-- The reader, `in` and the thing are laid. -/
theorem four_boxes (w : World) (s : ByteArray) (T : TypeId) (zs : List Value) :
  ES (((w.alloc (.cells zs.toArray T)).alloc (.cells #[.string s, .int .i64 0, .int .i64 0] 108)).alloc (.cells #[.pointer (some ⟨w.heap.size + 1, 0, none⟩)] 110))
   ((((w.alloc (.cells zs.toArray T)).alloc (.cells #[.string s, .int .i64 0, .int .i64 0] 108)).alloc (.cells #[.pointer (some ⟨w.heap.size + 1, 0, none⟩)] 110)).alloc (.cells zs.toArray T))
   (w.heap.size + 1) s (w.heap.size + 1 + 1) (w.heap.size + 1 + 1 + 1) T zs (byt s, 0) ∧
  Bk (((w.alloc (.cells zs.toArray T)).alloc (.cells #[.string s, .int .i64 0, .int .i64 0] 108)).alloc (.cells #[.pointer (some ⟨w.heap.size + 1, 0, none⟩)] 110)) w.heap.size T zs ∧
  Below w.heap.size w (((w.alloc (.cells zs.toArray T)).alloc (.cells #[.string s, .int .i64 0, .int .i64 0] 108)).alloc (.cells #[.pointer (some ⟨w.heap.size + 1, 0, none⟩)] 110)) ∧
  (((w.alloc (.cells zs.toArray T)).alloc (.cells #[.string s, .int .i64 0, .int .i64 0] 108)).alloc (.cells #[.pointer (some ⟨w.heap.size + 1, 0, none⟩)] 110)).heap.size = w.heap.size + 1 + 1 + 1 := by
 have b1 : Below w.heap.size w (w.alloc (.cells zs.toArray T)) := (Below.refl _ _).alloc (Nat.le_refl _) _
 have b2 := b1.alloc b1.size (.cells #[.string s, .int .i64 0, .int .i64 0] 108)
 have b3 := b2.alloc b2.size (.cells #[.pointer (some ⟨w.heap.size + 1, 0, none⟩)] 110)
 have k0 := ((Bk.new w T zs).old (.cells #[.string s, .int .i64 0, .int .i64 0] 108)).old (.cells #[.pointer (some ⟨w.heap.size + 1, 0, none⟩)] 110)
 have k1 := (Bk.new (w.alloc (.cells zs.toArray T)) 108 [.string s, .int .i64 0, .int .i64 0]).old (.cells #[.pointer (some ⟨w.heap.size + 1, 0, none⟩)] 110)
 have k2 := Bk.new ((w.alloc (.cells zs.toArray T)).alloc (.cells #[.string s, .int .i64 0, .int .i64 0] 108)) 110 [.pointer (some ⟨w.heap.size + 1, 0, none⟩)]
 simp only [World.size_alloc] at k1 k2
 have hR : RD (((w.alloc (.cells zs.toArray T)).alloc (.cells #[.string s, .int .i64 0, .int .i64 0] 108)).alloc (.cells #[.pointer (some ⟨w.heap.size + 1, 0, none⟩)] 110)) (w.heap.size + 1) s (byt s, 0) := ⟨0, Nat.zero_le _, fun _ => rfl, k1⟩
 have hS := ES.start hR k2 (by omega) T zs
 simp only [World.size_alloc] at hS
 exact ⟨hS, k0, b3, by simp only [World.size_alloc]⟩
end Go.Proofs.YtnancdbkmompdaaGreat
