/-
  Graph: slices.Delete of one pointer.
-/
import Derived.Test.YtlckjpjcfalfnaaLn
import Derived.Shelf.SlicesE.Delete
import Derived.Ground.SlgnProg
namespace Go.Proofs.Ytlckjpjcfalfnaa
open Go.RowKit Go.Sort Go.Shelf
open Go.WideMaps
set_option linter.unusedSimpArgs false
set_option linter.unusedVariables false
set_option maxRecDepth 100000

shelf_lay_g SlLaysE.n45 Slgn 45 at Try 50 as Try.delGrp
def encO (o : Option Nat) : Value := .pointer (o.map fun b => ⟨b, 0, none⟩)
theorem heap_put {α : Type} [Inhabited α] (enc : α → Value) {w : World} {g n : Nat} {cur : Array Value} {e : TypeId} {fr : Nat × Nat} (F : Array α) (hb : w.heap[g]? = some (.cells cur e fr)) :
    (putRow enc (Sort.ahead w n) g 0 F).heap[g]? = some (.cells (putCells enc 0 F cur) e fr) := by
  simp [putRow, mapBlock, Sort.ahead, Array.getElem?_modify, hb, onCells]
theorem fr_put {α : Type} [Inhabited α] (enc : α → Value) {w : World} {g n : Nat} (F : Array α) : Fr (fun k => k = g) w (putRow enc (Sort.ahead w n) g 0 F) := by
  refine ⟨rfl, rfl, rfl, by simp [putRow, mapBlock, Sort.ahead], fun k hk hne => ?_⟩
  have : g ≠ k := fun e => hne e.symm
  simp [putRow, mapBlock, Sort.ahead, Array.getElem?_modify, this]
theorem take_put {α : Type} [Inhabited α] (enc : α → Value) (cur : Array Value) (F : Array α) (h : F.size ≤ cur.size) : (putCells enc 0 F cur).toList.take F.size = F.toList.map enc := by
  apply List.ext_getElem?
  intro j
  by_cases hj : j < F.size
  · rw [List.getElem?_take_of_lt hj, Array.getElem?_toList]
    simp [putCells, hj, show j < cur.size by omega]
  · rw [List.getElem?_take_eq_none (by omega), List.getElem?_eq_none (by simp; omega)]
theorem PK_row (l : List Nat) : PK.row l = l.map encG := by
  unfold Knd.row
  induction l with
  | nil => rfl
  | cons a l ih => rw [List.flatMap_cons, List.map_cons, ih]; rfl
def DelP (base : Nat) (v : Value) (l : List Nat) (w : World) (e : Ending) (w' : World) : Prop := ∃ v', Hid (e = .returned v') ∧ PK.Own w' base v' l ∧ Fr (fun k => v.ownBlock = some k) w w' ∧ ∀ k, v'.ownBlock = some k → v.ownBlock = some k
theorem del_any {w : World} {base : Nat} {v : Value} {l : List Nat} (h : PK.Own w base v l) (i : Nat) (hi : i < l.length) (hl : l.length ≤ 100000) :
    Calls Try.prog 50 #[v, .int .i64 i, .int .i64 ((i + 1 : Nat) : Int)] w (DelP base v (l.eraseIdx i) w) := by
  rcases h.2 with ⟨_, h0⟩ | ⟨g, cap, cur, hv, hg, hh, hn, hm, hs, hx⟩
  · omega
  · subst hv
    obtain ⟨i0, hi0, hz0, hz1, hz2⟩ := info_parts PK.info
    have e1 : PK.k = 1 := rfl
    rw [e1, Nat.mul_one] at hs hx
    have hm2 : cap ≤ 9223372036854775807 := by unfold maxLen at hm; omega
    have hcu : ∀ j, j < l.length → cur[j]? = some (encG (l.getD j 0)) := fun j hj => by
      have q : (cur.toList.take l.length)[j]? = (PK.row l)[j]? := by rw [hx]
      rw [List.getElem?_take, if_pos hj, PK_row, List.getElem?_map, List.getElem?_eq_getElem hj, Array.getElem?_toList] at q
      rw [q, getD_at hj]
      rfl
    have hH : Holds encO w g 0 (l.map some).toArray := fun j hj => by
      have hjl : j < l.length := by simpa using hj
      refine ⟨?_, by simp [World.frozen?, hh]⟩
      rw [Nat.zero_add]
      have q := hcu j hjl
      simp only [World.cell?, hh]
      simp [q]
      rw [show l[j]? = some l[j] from List.getElem?_eq_getElem hjl]
      rfl
    have q := AnyE.slices_Delete Try.delGrp encO (fun _ => rfl) none (fun w => by kernel_rfl) i0 hi0 hz1 g 0 cap i (i + 1) (l.map some).toArray w hH (by simpa using hn) hm2 (by omega) (by simp; omega)
    simp only [List.size_toArray, List.length_map] at q
    refine q.mono ?_
    rintro e w' ⟨rfl, n, rfl⟩
    have hF : ((l.map some).toArray.toList.take i ++ (l.map some).toArray.toList.drop (i + 1) ++ List.replicate (i + 1 - i) none) = (l.eraseIdx i).map some ++ [none] := by
      show ((l.map some).take i ++ (l.map some).drop (i + 1) ++ List.replicate (i + 1 - i) none) = _
      rw [List.eraseIdx_eq_take_drop_succ, List.map_append, List.map_take, List.map_drop, show i + 1 - i = 1 by omega]
      rfl
    have hle : (l.eraseIdx i).length = l.length - 1 := by rw [List.length_eraseIdx, if_pos hi]
    rw [hF]
    refine ⟨_, Lib.hid rfl, ⟨PK.row_len _, .inr ⟨g, cap, _, by rw [hle, show l.length - (i + 1 - i) = l.length - 1 by omega], hg, heap_put encO _ hh, by rw [hle]; omega, hm, by rw [e1]; simp [putCells, hs], ?_⟩⟩, (fr_put encO _).mono (fun k _ q => by rw [q]; rfl), fun k hk => hk⟩
    have hsz : ((l.eraseIdx i).map some ++ [none] : List (Option Nat)).toArray.size = l.length := by simp [hle]; omega
    have ht := take_put encO cur ((l.eraseIdx i).map some ++ [none]).toArray (by rw [hsz, hs]; exact hn)
    have ht2 := congrArg (List.take (l.eraseIdx i).length) ht
    rw [List.take_take, hsz, Nat.min_eq_left (by omega)] at ht2
    rw [e1, Nat.mul_one, ht2, PK_row, List.map_append, List.take_left' (by simp), List.map_map]
    rfl
end Go.Proofs.Ytlckjpjcfalfnaa
