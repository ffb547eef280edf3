/-
  The document's answer of layer 10: without one, with another one.
-/
import Derived.Test.YtacjmcjmenbekaaCfgR
namespace Go.Proofs.Ytacjmcjmenbekaa
open Go.RowKit
set_option linter.unusedSimpArgs false
set_option linter.unusedVariables false

/-- Is a number kept? -/
def keepB (ns : List Int) (less more : Int) (i : Int) : Bool := (i == more) || (inB i ns && !(i == less))
def rl (ns : List Int) (less more : Int) (k : Nat) : List Int := ((List.range k).map fun i : Nat => (i : Int)).filter (keepB ns less more)
theorem rl_succ (ns : List Int) (less more : Int) (k : Nat) : rl ns less more (k + 1) = rl ns less more k ++ if keepB ns less more k then [(k : Int)] else [] := by
  unfold rl
  rw [List.range_succ, List.map_append, List.filter_append]
  congr 1
  by_cases h : keepB ns less more k = true <;> simp [h]
theorem rl_len (ns : List Int) (less more : Int) (k : Nat) : (rl ns less more k).length ≤ k := by
  unfold rl
  refine Nat.le_trans (List.length_filter_le _ _) (by simp)
theorem rl_eq {ns : List Int} {less more : Int} {m : List Int} (hm : Rises m) (h : ∀ x, x ∈ m ↔ (0 ≤ x ∧ x ≤ 31) ∧ (x = more ∨ (x ∈ ns ∧ x ≠ less))) : rl ns less more 32 = m := by
  refine rises_ext ?_ hm fun x => ?_
  · refine List.Pairwise.filter _ ?_
    rw [List.pairwise_map]
    exact (List.pairwise_lt_range).imp (fun h => by omega)
  · rw [h x]
    simp only [rl, List.mem_filter, List.mem_map, List.mem_range, keepB, inB, Bool.or_eq_true, Bool.and_eq_true, beq_iff_eq, decide_eq_true_eq, Bool.not_eq_true', beq_eq_false_iff_ne]
    constructor
    · rintro ⟨⟨i, hi, rfl⟩, h2⟩
      exact ⟨by omega, h2⟩
    · rintro ⟨⟨h1, h2⟩, h3⟩
      exact ⟨⟨x.toNat, by omega, by omega⟩, h3⟩
theorem rl_add {ns : List Int} {a : Int} (hn : Nodes ns) (h0 : 0 ≤ a) (h1 : a ≤ 31) (ha : a ∉ ns) : rl ns (-1) a 32 = ins a ns :=
  rl_eq (ins_rises a hn.1 ha) fun x => by
    rw [mem_ins]
    constructor
    · rintro (h | h)
      · subst h; exact ⟨⟨h0, h1⟩, .inl rfl⟩
      · have := hn.2.1 x h; exact ⟨this, .inr ⟨h, by omega⟩⟩
    · rintro ⟨_, h | h⟩
      · exact .inl h
      · exact .inr h.1
theorem rl_del {ns : List Int} {a : Int} (hn : Nodes ns) : rl ns a (-1) 32 = del a ns :=
  rl_eq (del_rises a hn.1) fun x => by
    rw [mem_del]
    constructor
    · rintro ⟨h, h2⟩
      have := hn.2.1 x h; exact ⟨this, .inr ⟨h, h2⟩⟩
    · rintro ⟨h1, h | h⟩
      · omega
      · exact h
theorem rl_rep {ns : List Int} {a b : Int} (hn : Nodes ns) (h0 : 0 ≤ b) (h1 : b ≤ 31) (hb : b ∉ ns) : rl ns a b 32 = ins b (del a ns) :=
  rl_eq (ins_rises b (del_rises a hn.1) (fun q => hb ((mem_del a b ns).1 q).1)) fun x => by
    rw [mem_ins, mem_del]
    constructor
    · rintro (h | h)
      · subst h; exact ⟨⟨h0, h1⟩, .inl rfl⟩
      · have := hn.2.1 x h.1; exact ⟨this, .inr h⟩
    · rintro ⟨_, h | h⟩
      · exact .inl h
      · exact .inr h
theorem OwnI.set {w : World} {base : Nat} {v : Value} {xs : List Int} (h : OwnI w base v xs) {a : Addr} (ha : a.block < base) (u : Value) : OwnI (w.setCell a u) base v xs := by
  obtain ⟨h1, h2⟩ := h
  refine ⟨h1, ?_⟩
  rcases h2 with h2 | ⟨g, cap, cur, hv, hg, hh, hr⟩
  · exact .inl h2
  · exact .inr ⟨g, cap, cur, hv, hg, (Below.heap_setCell _ _ _ _ (by show g ≠ _; omega)).trans hh, hr⟩
theorem OwnI.slice {w : World} {base : Nat} {v : Value} {xs : List Int} (h : OwnI w base v xs) : ∃ a c, v = .slice a xs.length c := by
  rcases h.2 with ⟨rfl, h0⟩ | ⟨g, cap, cur, rfl, _⟩
  · exact ⟨_, _, by rw [h0]⟩
  · exact ⟨_, _, rfl⟩
/-- What stands in memory at each round. -/
structure WInv (w : World) (ep : Int) (ad : Option Addr) (n cap : Nat) (v : Value) (xs : List Int) (wr : World) : Prop where
  held : Held w (w.heap.size + 1) (L1 w ep ad n cap) wr
  lt : w.heap.size + 3 ≤ wr.heap.size
  c0 : wr.cell? ⟨w.heap.size + 2, 0, none⟩ = some (.int .i64 (ep + 1))
  c1 : wr.cell? ⟨w.heap.size + 2, 1, none⟩ = some v
  f1 : wr.frozen? ⟨w.heap.size + 2, 1, none⟩ = false
  r0 : wr.cell? ⟨w.heap.size + 1, 0, none⟩ = some (.int .i64 0)
  r1 : wr.cell? ⟨w.heap.size + 1, 1, none⟩ = some (.slice none 0 0)
  g0 : wr.frozen? ⟨w.heap.size + 1, 0, none⟩ = false
  g1 : wr.frozen? ⟨w.heap.size + 1, 1, none⟩ = false
  own : OwnI wr (w.heap.size + 3) v xs
theorem WInv.kept {w : World} {ep : Int} {ad : Option Addr} {n cap : Nat} {v : Value} {xs : List Int} {wr w' : World} (h : WInv w ep ad n cap v xs wr) (hb : Below wr.heap.size wr w') : WInv w ep ad n cap v xs w' := by
  have hl := h.lt
  exact ⟨h.held.kept hb, Nat.le_trans hl hb.size, (hb.cell (p := ⟨w.heap.size + 2, 0, none⟩) (by dsimp only; omega)).trans h.c0, (hb.cell (p := ⟨w.heap.size + 2, 1, none⟩) (by dsimp only; omega)).trans h.c1, (hb.frozen (p := ⟨w.heap.size + 2, 1, none⟩) (by dsimp only; omega)).trans h.f1,
    (hb.cell (p := ⟨w.heap.size + 1, 0, none⟩) (by dsimp only; omega)).trans h.r0, (hb.cell (p := ⟨w.heap.size + 1, 1, none⟩) (by dsimp only; omega)).trans h.r1, (hb.frozen (p := ⟨w.heap.size + 1, 0, none⟩) (by dsimp only; omega)).trans h.g0, (hb.frozen (p := ⟨w.heap.size + 1, 1, none⟩) (by dsimp only; omega)).trans h.g1, h.own.below hb⟩
theorem WInv.cells {w : World} {ep : Int} {ad : Option Addr} {n cap : Nat} {v : Value} {xs : List Int} {wr : World} (h : WInv w ep ad n cap v xs wr) :
    wr.cell? ⟨w.heap.size + 2, 0, none⟩ = some (.int .i64 (ep + 1)) ∧ wr.cell? ⟨w.heap.size + 2, 1, none⟩ = some v ∧ wr.frozen? ⟨w.heap.size + 2, 1, none⟩ = false ∧ wr.cell? ⟨w.heap.size + 1, 0, none⟩ = some (.int .i64 0) ∧ wr.cell? ⟨w.heap.size + 1, 1, none⟩ = some (.slice none 0 0) ∧ wr.frozen? ⟨w.heap.size + 1, 0, none⟩ = false ∧ wr.frozen? ⟨w.heap.size + 1, 1, none⟩ = false ∧ wr.cell? ⟨w.heap.size, 0, none⟩ = some (.int .i64 ep) ∧ wr.cell? ⟨w.heap.size, 1, none⟩ = some (.slice ad n cap) ∧ w.heap.size < wr.heap.size ∧ w.heap.size + 1 < wr.heap.size ∧ w.heap.size + 2 < wr.heap.size :=
  ⟨h.c0, h.c1, h.f1, h.r0, h.r1, h.g0, h.g1, h.held.cells.1, h.held.cells.2.1, by have := h.lt; omega, by have := h.lt; omega, by have := h.lt; omega⟩
/-- Behind an append, and the store of what it came to. -/
theorem WInv.more {w : World} {ep : Int} {ad : Option Addr} {n cap : Nat} {v : Value} {xs : List Int} {wr w2 : World} (h : WInv w ep ad n cap v xs wr) (hb : Below (w.heap.size + 3) wr w2) (hs : wr.heap.size ≤ w2.heap.size) {v2 : Value} {ys : List Int} (ho : OwnI w2 (w.heap.size + 3) v2 ys) :
    WInv w ep ad n cap v2 ys (w2.setCell ⟨w.heap.size + 2, 1, none⟩ v2) := by
  have hl := h.lt
  have c0 := (hb.cell (p := ⟨w.heap.size + 2, 0, none⟩) (by dsimp only; omega)).trans h.c0
  have c1 := (hb.cell (p := ⟨w.heap.size + 2, 1, none⟩) (by dsimp only; omega)).trans h.c1
  have f1 := (hb.frozen (p := ⟨w.heap.size + 2, 1, none⟩) (by dsimp only; omega)).trans h.f1
  have r0 := (hb.cell (p := ⟨w.heap.size + 1, 0, none⟩) (by dsimp only; omega)).trans h.r0
  have r1 := (hb.cell (p := ⟨w.heap.size + 1, 1, none⟩) (by dsimp only; omega)).trans h.r1
  have g0 := (hb.frozen (p := ⟨w.heap.size + 1, 0, none⟩) (by dsimp only; omega)).trans h.g0
  have g1 := (hb.frozen (p := ⟨w.heap.size + 1, 1, none⟩) (by dsimp only; omega)).trans h.g1
  exact ⟨(h.held.keptN (hb.mono (by omega))).set (by dsimp only; omega) _, by simp; omega, by simp [go_sem, c0], by simp [go_sem, c1], by simpa [go_sem] using f1, by simp [go_sem, r0], by simp [go_sem, r1], by simpa [go_sem] using g0, by simpa [go_sem] using g1, ho.set (by dsimp only; omega) _⟩
end Go.Proofs.Ytacjmcjmenbekaa
