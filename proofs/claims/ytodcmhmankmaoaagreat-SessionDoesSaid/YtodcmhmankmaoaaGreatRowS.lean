/-
  Rows of one's own of elements of k cells each, as the library's sort sees them.
-/
import Derived.Test.YtodcmhmankmaoaaGreatRow
import Derived.Shelf.SlSortCmp.NoneTotal
import Derived.Sort.OwnSorted
namespace Go.Proofs.YtodcmhmankmaoaaGreat
open Go.RowKit Go.Sort
set_option linter.unusedSimpArgs false
set_option linter.unusedVariables false

theorem heap_sortedK {w : World} {g n : Nat} {os : Array Obj} {cur : Array Value} {e : TypeId} {fr : Nat × Nat} (F : Array Value) (hb : w.heap[g]? = some (.cells cur e fr)) :
    (grow (putRow id (Sort.ahead w n) g 0 F) os).heap[g]? = some (.cells (putCells id 0 F cur) e fr) := by
  have hg : g < w.heap.size := (Array.getElem?_eq_some_iff.1 hb).1
  rw [heap_grow_old _ _ (by simpa using hg)]
  simp [putRow, mapBlock, Sort.ahead, Array.getElem?_modify, hb, onCells]
theorem grownBy_sortedK {w : World} {g n : Nat} {os : Array Obj} (F : Array Value) : w.grownBy (grow (putRow id (Sort.ahead w n) g 0 F) os) (some g) := by
  refine ⟨rfl, rfl, rfl, by simp, fun k hk hne => ?_⟩
  rw [heap_grow_old _ _ (by simpa using hk)]
  have : g ≠ k := fun e => hne (by rw [e])
  simp [putRow, mapBlock, Sort.ahead, Array.getElem?_modify, this]
theorem take_putCellsK (cur F : Array Value) (h : F.size ≤ cur.size) : (putCells id 0 F cur).toList.take F.size = F.toList := by
  apply List.ext_getElem?
  intro j
  by_cases hj : j < F.size
  · rw [List.getElem?_take_of_lt hj, Array.getElem?_toList]
    simp [putCells, hj, show j < cur.size by omega]
  · rw [List.getElem?_take_eq_none (by omega), List.getElem?_eq_none (by simp; omega)]
section
variable {P : Program} {α : Type} [Inhabited α] (K : Knd P α)
theorem Knd.flat (l : List α) : (flatK K.enc K.k l.toArray).toList = K.row l := by
  apply List.ext_getElem?
  intro t
  by_cases ht : t < l.length * K.k
  · have hp := K.pos
    have h1 : t / K.k < l.length := by rw [Nat.div_lt_iff_lt_mul hp]; exact ht
    have h2 : t % K.k < K.k := Nat.mod_lt _ hp
    rw [K.row_flat l t (by rw [K.row_len]; exact ht), Array.getElem?_toList]
    have e1 : l.getD (t / K.k) K.d = l[t / K.k] := by simp [List.getD, h1]
    have hl : t % K.k < (K.enc l[t / K.k]).length := by rw [K.len]; exact h2
    rw [e1, List.getElem?_eq_getElem hl]
    simp [flatK, ht, h1, hl]
  · rw [List.getElem?_eq_none (by simp [flatK]; omega), List.getElem?_eq_none (by rw [K.row_len]; omega)]
theorem Knd.flat_size (l : List α) : (flatK K.enc K.k l.toArray).size = l.length * K.k := by simp
variable {K}
theorem Knd.Own.holds {w : World} {base g n c : Nat} {l : List α} (h : K.Own w base (.slice (some ⟨g, 0, none⟩) n c) l) : HoldsK K.enc K.k w g 0 l.toArray ∧ g < w.heap.size ∧ n = l.length := by
  rcases h.2 with ⟨h0, _⟩ | ⟨g', cap, cur, hv, hg, hh, hn, hm, hs, hx⟩
  · cases h0
  · simp only [Value.slice.injEq, Option.some.injEq, Addr.mk.injEq, and_true, true_and] at hv
    obtain ⟨rfl, rfl, rfl⟩ := hv
    refine ⟨?_, (Array.getElem?_eq_some_iff.1 hh).1, rfl⟩
    intro j hj
    rw [K.flat_size] at hj
    refine ⟨?_, by simp [World.frozen?, hh]⟩
    have hjs : j < (flatK K.enc K.k l.toArray).size := by rw [K.flat_size]; exact hj
    have e1 : cur[j]? = (flatK K.enc K.k l.toArray)[j]? := by
      have h1 : (cur.toList.take (l.length * K.k))[j]? = (K.row l)[j]? := by rw [hx]
      rw [List.getElem?_take, if_pos (by omega)] at h1
      rw [← Array.getElem?_toList, h1, ← K.flat, Array.getElem?_toList]
    have e2 : (flatK K.enc K.k l.toArray)[j]? = some ((flatK K.enc K.k l.toArray)[j]!) := by
      rw [getElem!_pos _ j hjs]; exact Array.getElem?_eq_getElem hjs
    simp [World.cell?, hh, e1, e2]
/-- Behind the sort the same slice owns the sorted list. -/
theorem Knd.Own.sorted {w : World} {base g n c : Nat} {l k : List α} (h : K.Own w base (.slice (some ⟨g, 0, none⟩) n c) l) (hl : k.length = l.length) (m : Nat) (os : Array Obj) :
    K.Own (sortWorldK K.enc K.k w g 0 m k.toArray os) base (.slice (some ⟨g, 0, none⟩) n c) k ∧ w.grownBy (sortWorldK K.enc K.k w g 0 m k.toArray os) (some g) := by
  refine ⟨?_, grownBy_sortedK _⟩
  rcases h.2 with ⟨h0, _⟩ | ⟨g', cap, cur, hv, hg, hh, hn, hm, hs, hx⟩
  · cases h0
  · simp only [Value.slice.injEq, Option.some.injEq, Addr.mk.injEq, and_true, true_and] at hv
    obtain ⟨rfl, rfl, rfl⟩ := hv
    refine ⟨K.row_len k, .inr ⟨g, c, _, by rw [hl], hg, heap_sortedK _ hh, by rw [hl]; exact hn, hm, by simp [putCells, hs], ?_⟩⟩
    have hle : l.length * K.k ≤ c * K.k := Nat.mul_le_mul_right _ hn
    have := take_putCellsK cur (flatK K.enc K.k k.toArray) (by rw [K.flat_size, hs, hl]; exact hle)
    rw [K.flat_size, K.flat] at this
    exact this
end
end Go.Proofs.YtodcmhmankmaoaaGreat
