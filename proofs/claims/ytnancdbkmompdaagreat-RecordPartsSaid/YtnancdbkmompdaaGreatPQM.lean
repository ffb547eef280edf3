/-
  Texts put together: Ids2, Ids3, RowS, Ids4, Ids5.
-/
import Derived.Test.YtnancdbkmompdaaGreatPQL
import Derived.Maps.OwnSet
import Derived.Maps.RangeWalk
import Derived.DeepKeys4
import Derived.WalkSpells
import Derived.Test.YtnancdbkmompdaaGreatPQD
import Derived.Shelf.SlSortCmp.NoneTotal
import Derived.Sort.OwnSorted
import Derived.Shelf.Lay
import Derived.Ground.SlsfProg
namespace Go.Proofs.YtnancdbkmompdaaGreat
open Go.RowKit Go.Sort
set_option linter.unusedSimpArgs false
set_option linter.unusedVariables false
set_option maxRecDepth 100000

set_option maxRecDepth 100000 in
theorem laidOutI : laidOutB Tryz.prog = true := by kernel_rfl
theorem idRow : (49 : TypeId) < Tryz.prog.types.size := of_decide_eq_true (by kernel_rfl)
theorem idCells : Tryz.prog.cellsOf 49 = 3 := by kernel_rfl
theorem intCells : Tryz.prog.cellsOf 3 = 1 := by kernel_rfl
theorem idDeep : Tryz.prog.keyType 49 = true := by kernel_rfl
theorem idWide : (match Tryz.prog.underlying 49 with | some (.array _ _) | some (.struct _) => true | _ => false) = true := by kernel_rfl
set_option maxRecDepth 100000 in
theorem idLaw : Go.Maps.Keyed Tryz.prog 49 := Go.Maps.Keyed.of_law (deep_law_laid laidOutI (m := 3) (by omega) idRow (by kernel_rfl) idWide)
def okI (x : I3) : Prop := (Lit.int .i64 x.1).wf = true ∧ (Lit.int .i64 x.2.1).wf = true ∧ (Lit.int .i64 x.2.2).wf = true
abbrev idW (x : I3) : Value := .agg #[.int .i64 x.1, .int .i64 x.2.1, .int .i64 x.2.2]
theorem pos_succ {a b : Nat} (h : a < b) : ∃ n, b = n + 1 := ⟨b - 1, by omega⟩
theorem idKey (x : I3) (h : okI x) : ∃ kl, keyOf Tryz.prog 49 (idW x) = some kl := by
 obtain ⟨n, hn⟩ := pos_succ idRow
 have hf : (idW x).formed Tryz.prog 49 = true := by simp [Value.formed, Tryz.underlying49, idCells]
 unfold keyOf
 simp only [Tryz.underlying49, idDeep, hf, hn, Value.cells]
 simp [Program.keyLits, Tryz.underlying49, Tryz.underlying3, idCells, intCells, h.1, h.2.1, h.2.2]
/-- What reads as a key is an instance. -/
theorem idKey_inv (key : Value) (kl : Lit) (h : keyOf Tryz.prog 49 key = some kl) : ∃ x, key = idW x ∧ okI x := by
 obtain ⟨n, hn⟩ := pos_succ idRow
 unfold keyOf at h
 simp only [Tryz.underlying49, idDeep, Bool.true_and] at h
 split at h
 ·rename_i hf
  obtain ⟨cs, rfl, hsz⟩ : ∃ cs, key = .agg cs ∧ cs.size = 3 := by
   cases key <;> simp [Value.formed, Tryz.underlying49, idCells] at hf
   exact ⟨_, rfl, hf⟩
  obtain ⟨l⟩ := cs
  match l, hsz with
  | [c0, c1, c2], _ =>
   simp only [hn, Value.cells] at h
   simp [Program.keyLits, Tryz.underlying49, Tryz.underlying3, idCells, intCells, List.mapM_cons, Option.bind_eq_some_iff] at h
   obtain ⟨a, h0, _, ⟨b, h1, _, ⟨c, h2, _⟩, _⟩, _⟩ := h
   obtain ⟨x0, rfl, w0⟩ : ∃ x, c0 = .int .i64 x ∧ (Lit.int .i64 x).wf = true := by cases c0 <;> simp at h0; obtain ⟨⟨rfl, q⟩, _⟩ := h0; exact ⟨_, rfl, q⟩
   obtain ⟨x1, rfl, w1⟩ : ∃ x, c1 = .int .i64 x ∧ (Lit.int .i64 x).wf = true := by cases c1 <;> simp at h1; obtain ⟨⟨rfl, q⟩, _⟩ := h1; exact ⟨_, rfl, q⟩
   obtain ⟨x2, rfl, w2⟩ : ∃ x, c2 = .int .i64 x ∧ (Lit.int .i64 x).wf = true := by cases c2 <;> simp at h2; obtain ⟨⟨rfl, q⟩, _⟩ := h2; exact ⟨_, rfl, q⟩
   exact ⟨(x0, x1, x2), rfl, w0, w1, w2⟩
 ·cases h
/-- An instance as a key. -/
noncomputable def kf (x : I3) : Lit := (keyOf Tryz.prog 49 (idW x)).getD (.bool false)
theorem kf_key {x : I3} (h : okI x) : keyOf Tryz.prog 49 (idW x) = some (kf x) := by
 obtain ⟨kl, hk⟩ := idKey x h
 unfold kf
 rw [hk]
 rfl
theorem kf_inj {a b : I3} (ha : okI a) (hb : okI b) (h : kf a = kf b) : a = b := by
 have k1 := kf_key ha
 have k2 := kf_key hb
 rw [← h] at k2
 have := idLaw.inj k1 k2
 simp only [Value.agg.injEq, Array.mk.injEq, List.cons.injEq, Value.int.injEq, true_and, and_true] at this
 exact i3_ext this.1 this.2.1 this.2.2
set_option maxRecDepth 100000 in
theorem kf_lit {x : I3} (h : okI x) : WideAt.IsKeyLit (kf x) := idLaw.key (kf_key h)
theorem kf_same {a : I3} (ha : okI a) : (kf a).sameKey (kf a) = true := by
 have hk := kf_lit ha
 cases h : kf a <;> rw [h] at hk <;> simp_all [Lit.sameKey, WideAt.IsKeyLit]
theorem kf_same_iff {a b : I3} (ha : okI a) (hb : okI b) : (kf a).sameKey (kf b) = decide (a = b) := by
 by_cases h : a = b
 ·subst h; rw [kf_same ha]; simp
 ·rw [decide_eq_false h]
  exact Maps.sameKey_ne (fun e => h (kf_inj ha hb e))
/-- A map that reads as the set of a list. -/
structure SetIs (D : DataW Unit) (l : List I3) : Prop where
 has : ∀ x, okI x → Maps.has D (kf x) = hasI l x
 size : Maps.size D = (clnI l).length
 tidy : Maps.Tidy D
theorem SetIs.empty : SetIs (.map []) [] := ⟨fun x _ => rfl, rfl, Maps.tidy_empty⟩
theorem hasI_app (l k : List I3) (x : I3) : hasI (l ++ k) x = (hasI l x || hasI k x) := by unfold hasI; rw [List.any_append]
theorem clnI_snoc (l : List I3) (x : I3) : clnI (l ++ [x]) = putI (clnI l) x := by simp [clnI, List.foldl_append]
theorem hasI_cln (l : List I3) (x : I3) : hasI (clnI l) x = hasI l x := by rw [Bool.eq_iff_iff, hasI_iff, hasI_iff, mem_clnI]
theorem len_putI_eq (l : List I3) (x : I3) : (putI l x).length = if hasI l x then l.length else l.length + 1 := by
 unfold putI
 split
 ·rfl
 ·have := congrArg List.length (List.takeWhile_append_dropWhile (p := fun y => !ltI x y) (l := l))
  rw [List.length_append] at this
  simp only [List.length_append, List.length_cons]
  omega
theorem SetIs.put {D : DataW Unit} {l : List I3} (h : SetIs D l) {x : I3} (hx : okI x) (d : DataW Unit) : SetIs (D.put (kf x) d) (l ++ [x]) := by
 refine ⟨fun y hy => ?_, ?_, h.tidy.put (kf_lit hx) d⟩
 ·rw [hasI_app]
  by_cases e : y = x
  ·subst e
   rw [Maps.has_put_same h.tidy.isMap (kf_lit hx)]
   simp [hasI]
  ·rw [Maps.has_put_other (fun q => e (kf_inj hy hx q)), h.has y hy]
   have : hasI [x] y = false := by rw [hasI_false]; simpa using e
   rw [this, Bool.or_false]
 ·rw [Maps.size_put h.tidy, h.has x hx, h.size, clnI_snoc, len_putI_eq, hasI_cln]
theorem clnI_filter (l : List I3) (p : I3 → Bool) : clnI (l.filter p) = (clnI l).filter p := by
 refine clnI_eq ((clnI_rises l).sublist List.filter_sublist) fun x => ?_
 simp [List.mem_filter, mem_clnI]
theorem Rises.nodup {l : List I3} (h : Rises l) : l.Nodup := List.Pairwise.imp (fun {a b} q e => by subst e; rw [ltI_irrefl] at q; cases q) h
theorem filter_ne_len : ∀ (l : List I3) (x : I3), l.Nodup → (l.filter fun y => decide (y ≠ x)).length + (if hasI l x then 1 else 0) = l.length
 | [], x, _ => rfl
 | a :: l, x, h => by
  have hn := List.nodup_cons.1 h
  have ih := filter_ne_len l x hn.2
  by_cases e : a = x
  ·subst e
   have h1 : hasI l a = false := by rw [hasI_false]; exact hn.1
   have h2 : hasI (a :: l) a = true := by rw [hasI_iff]; simp
   rw [h1] at ih
   rw [h2, List.filter_cons]
   simp at ih ⊢
   simpa using ih
  ·have h2 : hasI (a :: l) x = hasI l x := by
    rw [Bool.eq_iff_iff, hasI_iff, hasI_iff, List.mem_cons]
    constructor
    ·rintro (q | q)
     ·exact absurd q.symm e
     ·exact q
    ·exact .inr
   rw [h2, List.filter_cons, if_pos (by simpa using e), List.length_cons, List.length_cons]
   omega
theorem SetIs.del {D : DataW Unit} {l : List I3} (h : SetIs D l) {x : I3} (hx : okI x) : SetIs (D.del (kf x)) (l.filter fun y => decide (y ≠ x)) := by
 refine ⟨fun y hy => ?_, ?_, h.tidy.del (kf x)⟩
 ·by_cases e : y = x
  ·subst e
   rw [Maps.has_del_same]
   symm
   rw [hasI_false]
   simp
  ·rw [Maps.has_del_other (fun q => e (kf_inj hy hx q)), h.has y hy, Bool.eq_iff_iff, hasI_iff, hasI_iff]
   simp [e]
 ·have h1 := Maps.size_del (k := kf x) h.tidy
  rw [h.has x hx, h.size] at h1
  have h2 := filter_ne_len (clnI l) x (clnI_rises l).nodup
  rw [hasI_cln] at h2
  rw [clnI_filter]
  omega
theorem SetIs.len {D : DataW Unit} {l : List I3} (h : SetIs D l) : Maps.size D ≤ l.length := by rw [h.size]; exact len_clnI l
theorem SetIs.none {D : DataW Unit} {l : List I3} (h : SetIs D l) : (Maps.size D = 0) ↔ l = [] := by
 rw [h.size]
 constructor
 ·intro q
  have := List.eq_nil_of_length_eq_zero q
  cases l with
  | nil => rfl
  | cons x l =>
   have h1 := (mem_clnI (x :: l) x).2 (by simp)
   rw [this] at h1
   cases h1
 ·rintro rfl; rfl
abbrev okL (l : List I3) : Prop := ∀ x ∈ l, okI x
end Go.Proofs.YtnancdbkmompdaaGreat
namespace Go.Proofs.YtnancdbkmompdaaGreat
open Go.RowKit Go.Sort
set_option linter.unusedSimpArgs false
set_option linter.unusedVariables false

/-- A set of instances in memory. -/
def SetAt (w : World) (b : Nat) (l : List I3) : Prop := ∃ (D : DataW Unit) (m : Nat), m ≤ 5000 ∧ w.ownsMap (H := Unit) Tryz.prog 49 unitElem b m D ∧ SetIs D l
def SetP (l : List I3) (w : World) (e : Ending) (w' : World) : Prop := e = .returned (.map (some w.heap.size)) ∧ SetAt w' w.heap.size l ∧ Below w.heap.size w w'
theorem idCell {w : World} {a : Option Addr} {n c : Nat} {l : List I3} (h : IK.Rd w (.slice a n c) l) (k : Nat) (hk : k < n) : n = l.length ∧ ∃ g off, a = some ⟨g, off, none⟩ ∧ g < w.heap.size ∧
  w.cell? ⟨g, off + k * 3, none⟩ = some (.int .i64 (l.getD k (0, 0, 0)).1) ∧ w.cell? ⟨g, off + k * 3 + 1, none⟩ = some (.int .i64 (l.getD k (0, 0, 0)).2.1) ∧ w.cell? ⟨g, off + k * 3 + 2, none⟩ = some (.int .i64 (l.getD k (0, 0, 0)).2.2) ∧ k < l.length := by
 have hl : l ≠ [] := by
  intro e
  obtain ⟨a', c', e', _⟩ := h
  subst e
  simp at e'
  omega
 obtain ⟨hn, g, off, rfl, hg, hc⟩ := h.at hl
 exact ⟨hn, g, off, rfl, hg, hc k hk 0 _ rfl, hc k hk 1 _ rfl, hc k hk 2 _ rfl, by omega⟩
set_option maxRecDepth 100000 in
set_option maxHeartbeats 2000000 in
theorem setOf_any (g c n : Nat) (vs : List Value) (ls : List (List I3)) (w : World) (h1 : vs.length = n) (h2 : ls.length = n) (hn : n ≤ 2) (hg : g < w.heap.size)
  (hc : ∀ i, i < n → w.cell? ⟨g, i, none⟩ = some (vs.getD i undef)) (hr : ∀ i, i < n → IK.Rd w (vs.getD i undef) (ls.getD i [])) (hok : ∀ i, i < n → okL (ls.getD i [])) (hb : ∀ i, i < n → (ls.getD i []).length ≤ 1000) :
  Calls Tryz.prog 72 #[.slice (some ⟨g, 0, none⟩) n c] w (SetP ls.flatten w) := by
 have hmm := @run_makeMap Tryz.prog
 have HC := Lib.hid hc
 have HR := Lib.hid hr
 have HOK := Lib.hid hok
 have HB := Lib.hid hb
 have H2 := Lib.hid h2
 have hM0 : (w.alloc (.map #[] 0)).ownsMap (H := Unit) Tryz.prog 49 unitElem w.heap.size 0 (.map []) := World.ownsMap_made _ _ _ _
 have HM0 := Lib.hid hM0
 have HW0 : Hid (Below w.heap.size w (w.alloc (.map #[] 0))) := Lib.hid ((Below.refl _ _).alloc (Nat.le_refl _) _)
 clear hc hr hok hb h2 h1 hM0
 go_enter Tryz.func72, Tryz.ntmps72
 go_wp2_with fail
 go_loopw [11] (fun i wr => ∃ (k : Nat) (D : DataW Unit) (m : Nat), k ≤ n ∧ i = .int .i64 k ∧ Hid (m ≤ k * 1000) ∧ Hid (wr.ownsMap (H := Unit) Tryz.prog 49 unitElem w.heap.size m D) ∧ Hid (SetIs D (ls.take k).flatten) ∧ Hid (Below w.heap.size w wr)) (fun i _ => n - (intOf i).toNat)
 case atStart => exact ⟨0, _, 0, Nat.zero_le _, rfl, Lib.hid (Nat.zero_le _), HM0, Lib.hid SetIs.empty, HW0⟩
 case round =>
  clear HM0 HW0
  obtain ⟨k, D, m, hk, rfl, hmk, hM, hS, hB⟩ := hrel
  by_cases hlt : k < n
  ·have hlt' : (k : Int) < (n : Int) := by omega
   have hkb : (k : Int) ≤ 10 := by omega
   have hz := hB.out.size
   have hc := (hB.out.cell (p := ⟨g, k, none⟩) hg).trans (HC.out k hlt)
   have hrd := HR.out k hlt
   obtain ⟨v, hv⟩ : ∃ v, vs.getD k undef = v := ⟨_, rfl⟩
   obtain ⟨l, hl⟩ : ∃ l, ls.getD k [] = l := ⟨_, rfl⟩
   have hok := HOK.out k hlt
   have hln := HB.out k hlt
   rw [hv] at hc
   rw [hv, hl] at hrd
   rw [hl] at hok hln
   obtain ⟨a, cc, hve⟩ := hrd.slice
   subst hve
   obtain ⟨N, hN⟩ : ∃ N, l.length = N := ⟨_, rfl⟩
   rw [hN] at hrd hc hln
   have HL : Hid (l = ls.getD k []) := Lib.hid hl.symm
   have HN := Lib.hid hN
   have HRD := Lib.hid hrd
   have HOKL := Lib.hid hok
   clear hl hN hrd hok hv
   go_wp2_with fail
   clear hc
   obtain ⟨wo, hwo⟩ : ∃ wo : World, wo = wr := ⟨_, rfl⟩
   subst hwo
   go_loopw [17] (fun i wr => ∃ (j : Nat) (D : DataW Unit) (m : Nat), j ≤ N ∧ i = .int .i64 j ∧ Hid (m ≤ k * 1000 + j) ∧ Hid (wr.ownsMap (H := Unit) Tryz.prog 49 unitElem w.heap.size m D) ∧ Hid (SetIs D ((ls.take k).flatten ++ l.take j)) ∧ Hid (Below w.heap.size w wr)) (fun i _ => N - (intOf i).toNat)
   case atStart => exact ⟨0, D, m, Nat.zero_le _, rfl, hmk, hM, Lib.hid (by simpa using hS.out), hB⟩
   case round =>
    clear hM hS hB hmk hz
    obtain ⟨j, D, m, hj, rfl, hmj, hM, hS, hB⟩ := hrel
    by_cases hltj : j < N
    ·have hltj' : (j : Int) < (N : Int) := by omega
     have hjb : (j : Int) ≤ 1000 := by omega
     obtain ⟨e0, g2, off2, ha, hg2, q1, q2, q3, hjl⟩ := idCell (HRD.out.below hB.out) j hltj
     obtain ⟨X, hX⟩ : ∃ X, l.getD j (0, 0, 0) = X := ⟨_, rfl⟩
     rw [hX] at q1 q2 q3
     have hXm : X ∈ l := by rw [← hX]; simp [List.getD, hjl]
     have HKX := Lib.hid (HOKL.out X hXm)
     have HKEY := Lib.hid (kf_key (HOKL.out X hXm))
     have HTK : Hid (l.take j ++ [X] = l.take (j + 1)) := Lib.hid (by rw [List.take_succ_eq_append_getElem hjl, ← hX]; simp [List.getD, hjl])
     have hm' : m < maxLen := by have := hmj.out; unfold maxLen; omega
     have hbs : w.heap.size ≤ wr.heap.size := hB.out.size
     subst ha
     clear hX hXm hjl e0
     go_wp2_with (at_mapUpdate; refine wpList_mapUpdate_own _ rfl _ _ _ 145 rfl 49 169 idLaw Tryz.underlying145 unitElem w.heap.size m _ rfl (hM.out.alloc _) hm' _ _ (kf X) rfl rfl HKEY.out (.agg []) [] unitElem_mk ?_)
     intro w6 hown6 hg6
     have hM6 := Lib.hid hown6
     have hS6 : Hid (SetIs (D.put (kf X) (.agg [])) ((ls.take k).flatten ++ l.take (j + 1))) := Lib.hid (by
      rw [← HTK.out, ← List.append_assoc]
      exact hS.out.put HKX.out _)
     have hB6 : Hid (Below w.heap.size w w6) := Lib.hid ((hB.out.alloc hbs _).grown hg6 (by simp; omega) (fun i hi => by simp only [Option.some.injEq] at hi; omega))
     have hmj6 : Hid (m + 1 ≤ k * 1000 + (j + 1)) := Lib.hid (by have := hmj.out; omega)
     clear hown6 hg6 hM hS hB hmj hm' q1 q2 q3 hg2 hbs
     go_wp2
     go_roundw
     case rel => exact ⟨j + 1, _, _, by omega, by go_num, hmj6, hM6, hS6, hB6⟩
     case measure => simp [intOf]; omega
    ·obtain rfl : j = N := by omega
     have hS2 : Hid (SetIs D (ls.take (k + 1)).flatten) := Lib.hid (by
      have h := hS.out
      rw [List.take_of_length_le (l := l) (by rw [HN.out]; exact Nat.le_refl _)] at h
      have hk2 : k < ls.length := by rw [H2.out]; exact hlt
      rw [List.take_succ_eq_append_getElem hk2, List.flatten_append]
      have e : [ls[k]].flatten = l := by rw [HL.out]; simp [List.getD, hk2]
      rw [e]
      exact h)
     have hmk2 : Hid (m ≤ (k + 1) * 1000) := Lib.hid (by have := hmj.out; rw [Nat.add_mul]; omega)
     clear hS hmj
     go_wp2
     go_roundw
     case rel => exact ⟨k + 1, D, m, by omega, by go_num, hmk2, hM, hS2, hB⟩
     case measure => simp [intOf]; omega
  ·obtain rfl : k = n := by omega
   have hS2 : SetIs D ls.flatten := by
    have h := hS.out
    rwa [List.take_of_length_le (by rw [H2.out]; exact Nat.le_refl _)] at h
   have HS2 := Lib.hid hS2
   clear hS hS2
   go_wp2
   go_ret
   exact ⟨rfl, ⟨D, m, by have := hmk.out; omega, hM.out, HS2.out⟩, hB.out⟩
end Go.Proofs.YtnancdbkmompdaaGreat
namespace Go.Proofs.YtnancdbkmompdaaGreat
open Go.RowKit Go.Sort
set_option linter.unusedSimpArgs false
set_option linter.unusedVariables false

theorem heap_sortedK {w : World} {g n : Nat} {os : Array Obj} {cur : Array Value} {e : TypeId} {fr : Nat × Nat} (F : Array Value) (hb : w.heap[g]? = some (.cells cur e fr)) :
  (grow (putRow id (Sort.ahead w n) g 0 F) os).heap[g]? = some (.cells (putCells id 0 F cur) e fr) := by
 have hg : g < w.heap.size := (Array.getElem?_eq_some_iff.1 hb).1
 rw [heap_grow_old _ _ (by simpa using hg)]
 simp [putRow, mapBlock, Sort.ahead, Array.getElem?_modify, hb, onCells]
theorem grownBy_sortedK {w : World} {g n : Nat} {os : Array Obj} (F : Array Value) : w.grownBy (grow (putRow id (Sort.ahead w n) g 0 F) os) (some g) := by
 refine ⟨rfl, rfl, rfl, by simp, fun k hk hne => ?_⟩
 rw [heap_grow_old _ _ (by simpa using hk)]
 have : g ≠ k := fun e => hne (by rw [e])
 simp [putRow, mapBlock, Sort.ahead, Array.getElem?_modify, this]
theorem take_putCellsK (cur F : Array Value) (h : F.size ≤ cur.size) : (putCells id 0 F cur).toList.take F.size = F.toList := by
 apply List.ext_getElem?
 intro j
 by_cases hj : j < F.size
 ·rw [List.getElem?_take_of_lt hj, Array.getElem?_toList]
  simp [putCells, hj, show j < cur.size by omega]
 ·rw [List.getElem?_take_eq_none (by omega), List.getElem?_eq_none (by simp; omega)]
section
variable {P : Program} {α : Type} [Inhabited α] (K : Knd P α)
theorem Knd.flat (l : List α) : (flatK K.enc K.k l.toArray).toList = K.row l := by
 apply List.ext_getElem?
 intro t
 by_cases ht : t < l.length * K.k
 ·have hp := K.pos
  have h1 : t / K.k < l.length := by rw [Nat.div_lt_iff_lt_mul hp]; exact ht
  have h2 : t % K.k < K.k := Nat.mod_lt _ hp
  rw [K.row_flat l t (by rw [K.row_len]; exact ht), Array.getElem?_toList]
  have e1 : l.getD (t / K.k) K.d = l[t / K.k] := by simp [List.getD, h1]
  have hl : t % K.k < (K.enc l[t / K.k]).length := by rw [K.len]; exact h2
  rw [e1, List.getElem?_eq_getElem hl]
  simp [flatK, ht, h1, hl]
 ·rw [List.getElem?_eq_none (by simp [flatK]; omega), List.getElem?_eq_none (by rw [K.row_len]; omega)]
theorem Knd.flat_size (l : List α) : (flatK K.enc K.k l.toArray).size = l.length * K.k := by simp
variable {K}
theorem Knd.Own.holds {w : World} {base g n c : Nat} {l : List α} (h : K.Own w base (.slice (some ⟨g, 0, none⟩) n c) l) : HoldsK K.enc K.k w g 0 l.toArray ∧ g < w.heap.size ∧ n = l.length := by
 rcases h.2 with ⟨h0, _⟩ | ⟨g', cap, cur, hv, hg, hh, hn, hm, hs, hx⟩
 ·cases h0
 ·simp only [Value.slice.injEq, Option.some.injEq, Addr.mk.injEq, and_true, true_and] at hv
  obtain ⟨rfl, rfl, rfl⟩ := hv
  refine ⟨?_, (Array.getElem?_eq_some_iff.1 hh).1, rfl⟩
  intro j hj
  rw [K.flat_size] at hj
  refine ⟨?_, by simp [World.frozen?, hh]⟩
  have hjs : j < (flatK K.enc K.k l.toArray).size := by rw [K.flat_size]; exact hj
  have e1 : cur[j]? = (flatK K.enc K.k l.toArray)[j]? := by
   have h1 : (cur.toList.take (l.length * K.k))[j]? = (K.row l)[j]? := by rw [hx]
   rw [List.getElem?_take, if_pos (by omega)] at h1
   rw [← Array.getElem?_toList, h1, ← K.flat, Array.getElem?_toList]
  have e2 : (flatK K.enc K.k l.toArray)[j]? = some ((flatK K.enc K.k l.toArray)[j]!) := by
   rw [getElem!_pos _ j hjs]; exact Array.getElem?_eq_getElem hjs
  simp [World.cell?, hh, e1, e2]
/-- Behind the sort the same slice owns the sorted list. -/
theorem Knd.Own.sorted {w : World} {base g n c : Nat} {l k : List α} (h : K.Own w base (.slice (some ⟨g, 0, none⟩) n c) l) (hl : k.length = l.length) (m : Nat) (os : Array Obj) :
  K.Own (sortWorldK K.enc K.k w g 0 m k.toArray os) base (.slice (some ⟨g, 0, none⟩) n c) k ∧ w.grownBy (sortWorldK K.enc K.k w g 0 m k.toArray os) (some g) := by
 refine ⟨?_, grownBy_sortedK _⟩
 rcases h.2 with ⟨h0, _⟩ | ⟨g', cap, cur, hv, hg, hh, hn, hm, hs, hx⟩
 ·cases h0
 ·simp only [Value.slice.injEq, Option.some.injEq, Addr.mk.injEq, and_true, true_and] at hv
  obtain ⟨rfl, rfl, rfl⟩ := hv
  refine ⟨K.row_len k, .inr ⟨g, c, _, by rw [hl], hg, heap_sortedK _ hh, by rw [hl]; exact hn, hm, by simp [putCells, hs], ?_⟩⟩
  have hle : l.length * K.k ≤ c * K.k := Nat.mul_le_mul_right _ hn
  have := take_putCellsK cur (flatK K.enc K.k k.toArray) (by rw [K.flat_size, hs, hl]; exact hle)
  rw [K.flat_size, K.flat] at this
  exact this
end
end Go.Proofs.YtnancdbkmompdaaGreat
namespace Go.Proofs.YtnancdbkmompdaaGreat
open Go.RowKit Go.Sort Go.Shelf
set_option linter.unusedSimpArgs false
set_option linter.unusedVariables false

theorem SetAt.kept {w w' : World} {b : Nat} {l : List I3} {row : Option Nat} (h : SetAt w b l) (hg : w.grownBy w' row) (hne : some b ≠ row) : SetAt w' b l := by
 obtain ⟨D, m, hm, ho, hs⟩ := h
 exact ⟨D, m, hm, ho.kept hg hne, hs⟩
theorem SetAt.below {w w' : World} {b : Nat} {l : List I3} (h : SetAt w b l) (hb : Below w.heap.size w w') : SetAt w' b l :=
 h.kept (row := none) ⟨hb.os, hb.tape, hb.output, hb.size, fun k hk _ => hb.block k hk⟩ (by simp)
theorem SetAt.lt {w : World} {b : Nat} {l : List I3} (h : SetAt w b l) : b < w.heap.size := by
 obtain ⟨D, m, hm, ho, hs⟩ := h
 exact ho.lt
end Go.Proofs.YtnancdbkmompdaaGreat
namespace Go.Proofs.YtnancdbkmompdaaGreat
open Go.RowKit Go.Sort Go.Shelf
set_option linter.unusedSimpArgs false
set_option linter.unusedVariables false

shelf_lay_g SlLaysF0.n6 Slsf 6 at Tryz 91 as Tryz.sortIds
theorem ordI_lt (a b : I3) : ltOf ordI a b = ltI a b := by
 unfold ltOf ordI
 cases h1 : ltI a b
 ·cases h2 : ltI b a <;> simp
 ·simp
theorem ltI_swo : SWO (ltOf ordI) where
 irrefl x := by rw [ordI_lt]; exact ltI_irrefl x
 trans x y z h k := by rw [ordI_lt] at *; exact ltI_trans h k
 ntrans x y z h k := by
  rw [ordI_lt] at *
  rw [Bool.eq_false_iff, ne_eq, ltI_iff] at *
  omega
theorem cmpIds (blk off size : Nat) (w : World) : CmpLays Tryz.prog 92 #[] idE 3 ordI blk off size w :=
 fun _ _ _ _ x y => order_any x.1 x.2.1 x.2.2 y.1 y.2.1 y.2.2 _
/-- What was met so far. -/
structure Met (l : List I3) (left : Lit → Bool) (ss : List I3) : Prop where
 nodup : ss.Nodup
 ok : okL ss
 sub : ∀ x ∈ ss, x ∈ l
 left : ∀ x, okI x → left (kf x) = (hasI l x && !hasI ss x)
theorem Met.start {D : DataW Unit} {l : List I3} (h : SetIs D l) : Met l (Maps.has D) [] :=
 ⟨List.nodup_nil, (fun x h => by cases h), (fun x h => by cases h), (fun x hx => by rw [h.has x hx]; simp [hasI])⟩
theorem Met.step {l : List I3} {left : Lit → Bool} {ss : List I3} (h : Met l left ss) {x : I3} (hx : okI x) (hl : left (kf x) = true) : Met l (fun z => left z && !z.sameKey (kf x)) (ss ++ [x]) := by
 have h1 := h.left x hx
 rw [hl] at h1
 have h2 : hasI l x = true ∧ (!hasI ss x) = true := by simpa using h1.symm
 have hin : x ∈ l := (hasI_iff _ _).1 h2.1
 have hni : x ∉ ss := (hasI_false _ _).1 (by simpa using h2.2)
 refine ⟨?_, ?_, ?_, fun y hy => ?_⟩
 ·rw [List.nodup_append]
  exact ⟨h.nodup, by simp, fun a ha b hb => by simp at hb; subst hb; exact fun e => hni (e ▸ ha)⟩
 ·intro y hy
  rcases List.mem_append.1 hy with q | q
  ·exact h.ok y q
  ·simp at q; subst q; exact hx
 ·intro y hy
  rcases List.mem_append.1 hy with q | q
  ·exact h.sub y q
  ·simp at q; subst q; exact hin
 ·show (left (kf y) && !(kf y).sameKey (kf x)) = _
  rw [h.left y hy, kf_same_iff hy hx, hasI_app]
  have : hasI [x] y = decide (y = x) := by unfold hasI; simp [eq_comm]
  rw [this]
  cases hasI l y <;> cases hasI ss y <;> cases decide (y = x) <;> rfl
theorem Met.done {l : List I3} {left : Lit → Bool} {ss : List I3} (h : Met l left ss) (hl : ∀ kl, left kl = false) (ho : okL l) : ∀ x, x ∈ ss ↔ x ∈ l := by
 intro x
 refine ⟨h.sub x, fun hx => ?_⟩
 have h1 := h.left x (ho x hx)
 rw [hl, (hasI_iff _ _).2 hx] at h1
 exact (hasI_iff _ _).1 (by simpa using h1)
theorem sorted_cln {l ss : List I3} (hn : ss.Nodup) (hm : ∀ x, x ∈ ss ↔ x ∈ l) : (ss.mergeSort fun x y => !(ltOf ordI) y x) = clnI l := by
 have e : (fun x y : I3 => !(ltOf ordI) y x) = fun x y => !ltI y x := by funext x y; rw [ordI_lt]
 rw [e]
 have hp := List.mergeSort_perm ss (fun x y => !ltI y x)
 symm
 refine clnI_eq ?_ fun x => hp.mem_iff.trans (hm x)
 have h1 := List.pairwise_mergeSort (le := fun x y : I3 => !ltI y x) (fun a b c h k => by
   simp only [Bool.not_eq_true', Bool.eq_false_iff, ne_eq, ltI_iff] at *
   omega) (fun a b => by
   cases q : ltI b a
   ·simp
   ·simp [ltI_asymm q]) ss
 have h2 : (ss.mergeSort fun x y => !ltI y x).Nodup := hp.nodup_iff.2 hn
 exact (List.Pairwise.and h1 h2).imp (fun {a b} q => by
  have q1 : ltI b a = false := by simpa using q.1
  cases k : ltI a b
  ·exact absurd (ltI_total k q1) q.2
  ·rfl)
def RowP (l : List I3) (w : World) (e : Ending) (w' : World) : Prop := ∃ v, Hid (e = .returned v) ∧ IK.Own w' w.heap.size v l ∧ Below w.heap.size w w'
set_option maxRecDepth 100000 in
set_option maxHeartbeats 4000000 in
theorem risen_any (B : Nat) (l : List I3) (w : World) (hs : SetAt w B l) (ol : okL l) :
  Calls Tryz.prog 71 #[.map (some B)] w (RowP (clnI l) w) := by
 obtain ⟨D, m, hm, hM, hD⟩ := hs
 have HM := Lib.hid hM
 have HD := Lib.hid hD
 have HOL := Lib.hid ol
 have HBL := Lib.hid hM.lt
 have hsz : Maps.size D ≤ 5000 := Nat.le_trans hM.size_le hm
 obtain ⟨C, hC⟩ : ∃ C, Maps.size D = C := ⟨_, rfl⟩
 have HC := Lib.hid hC
 rw [hC] at hsz
 clear hM hD ol hC hm
 go_enter Tryz.func71, Tryz.ntmps71
 go_wp2_with (first
  | (at_len; refine wpList_len_own _ rfl _ 145 rfl 49 169 Tryz.underlying145 unitElem B m D rfl HM.out ?_; rw [HC.out])
  | refine IK.make rfl _ _ rfl rfl C rfl (by omega) w.heap.size (Nat.le_refl _) ?_)
 intro v1 w1 hO1 hb1 hne1 hg1
 have HO1 := Lib.hid hO1
 have HB1 := Lib.hid hb1
 have hM1 := HM.out.kept (row := none) hg1 (by simp)
 have HM1 := Lib.hid hM1
 have HNE1 := Lib.hid hne1
 clear hO1 hb1 hne1 hg1 hM1
 go_wp2_with (at_range; refine wpList_range_own _ rfl _ 145 rfl 49 169 idLaw Tryz.underlying145 unitElem B m D rfl HM1.out ?_)
 intro w2 hr2 hg2 hz2
 have HR2 : Hid (w2.ranges (H := Unit) Tryz.prog 49 unitElem B w1.heap.size m D (Maps.has D) C) := Lib.hid (by have h := hr2; rw [HC.out] at h; exact h)
 have hb2 : Below w1.heap.size w1 w2 := (Below.refl _ _).grown hg2 (Nat.le_refl _) (fun k e => by cases e)
 have HB2 : Hid (Below w.heap.size w w2) := Lib.hid (HB1.out.trans (hb2.mono HB1.out.size))
 have HO2 := Lib.hid (HO1.out.below hb2)
 have HZ : Hid (w.heap.size ≤ w1.heap.size) := Lib.hid HB1.out.size
 clear hr2 hg2 hz2 hb2 HM1 HB1 HO1
 go_wp2_with fail
 go_loopw [3] (fun sl wr => ∃ (v : Value) (left : Lit → Bool) (cnt : Nat) (ss : List I3), v = sl ∧ Hid (wr.ranges (H := Unit) Tryz.prog 49 unitElem B w1.heap.size m D left cnt) ∧ Hid (IK.Own wr w.heap.size v ss) ∧ Hid (v ≠ .slice none 0 0) ∧ Hid (Met l left ss) ∧ Hid (ss.length + cnt ≤ C) ∧ Hid (Below w.heap.size w wr)) (fun _ wr => wr.rangeLeft B w1.heap.size)
 case atStart => exact ⟨_, _, C, [], rfl, HR2, HO2, HNE1, Lib.hid (Met.start HD.out), Lib.hid (by simp), HB2⟩
 case round =>
  clear HR2 HB2 HO2 HNE1
  obtain ⟨v, left, cnt, ss, rfl, hR, hO, hNE, hMet, hcnt, hB⟩ := hrel
  go_wp2_with (at_next; refine wpList_next_ranges _ rfl _ rfl 49 idLaw unitElem idW (fun _ : Unit => Value.agg #[]) (fun key kl hk => by obtain ⟨x, hx, _⟩ := idKey_inv key kl hk; exact ⟨x, hx⟩) (fun v y hv => ⟨(), (unitElem_inv hv).1⟩) B w1.heap.size m _ _ _ rfl hR.out ?_ ?_)
  ·intro hc0 hl0
   obtain ⟨ad, cc, hve⟩ := hO.out.slice
   have hO2 := hO.out
   rw [hve] at hO2
   have hnn := hNE.out
   obtain ⟨g, rfl⟩ : ∃ g, ad = some ⟨g, 0, none⟩ := by
    rcases hO2.2 with ⟨h0, _⟩ | ⟨g, cap, cur, h0, _⟩
    ·exact absurd (hve.trans h0) hnn
    ·simp only [Value.slice.injEq] at h0
     exact ⟨g, h0.1⟩
   obtain ⟨hH, hgl, _⟩ := hO2.holds
   have hmem := hMet.out.done hl0 HOL.out
   have hsr := sorted_cln hMet.out.nodup hmem
   have hlen : (clnI l).length = ss.length := by rw [← hsr]; simp
   have eg : ∀ args w, (callFunc 92 args).run Tryz.prog w = .ok (.enter 92 args) w := enters_of Tryz.func92 (by kernel_rfl) rfl
   have hcon := AnyQ.slices_SortFunc_total Tryz.sortIds 3 Tryz.isAgg49 Tryz.sizeOf49 idE (fun _ => rfl) (fun x v h => IK.one x v h) ordI ltI_swo 92 #[] g 0 cc ss.toArray wr eg (cmpIds g 0 _ wr) hH hgl (by have := hcnt.out; simp; omega) (fun x y h k => by rw [ordI_lt] at h k; exact ltI_total h k)
   rw [show ss.toArray.toList = ss from rfl, hsr] at hcon
   obtain ⟨M, hM⟩ : ∃ M, ss.length = M := ⟨_, rfl⟩
   change Calls Tryz.prog 91 #[.slice (some ⟨g, 0, none⟩) ss.length cc, .func (.func 92) #[] #[]] wr _ at hcon
   rw [hM] at hcon hve
   have HCON := Lib.hid hcon
   have HS : Hid (∀ mm os, IK.Own (sortWorldK idE 3 wr g 0 mm (clnI l).toArray os) w.heap.size (.slice (some ⟨g, 0, none⟩) M cc) (clnI l) ∧ wr.grownBy (sortWorldK idE 3 wr g 0 mm (clnI l).toArray os) (some g)) := Lib.hid (fun mm os => by
    rw [hM] at hO2
    exact hO2.sorted (by rw [hlen]) mm os)
   have HGB : Hid (w.heap.size ≤ g) := Lib.hid (hO2.from g (by simp [Value.ownBlock]))
   subst hve
   clear hcon hO2 hnn hH hgl hmem hsr hlen hM hO hR hMet hcnt hNE hl0 hc0 HM HD
   go_wp2_with (go_at_call 91; refine HCON.out.mono ?_; rintro e w' ⟨rfl, nn, os, rfl⟩)
   go_ret
   exact ⟨_, Lib.hid rfl, (HS.out nn os).1, hB.out.grown (HS.out nn os).2 hB.out.size (fun j hj => by cases hj; exact HGB.out)⟩
  ·intro x1 x2 x3 kl yd yp w3 cnt3 hkey hlk hv hat hrg3 hlt hg3 hs3 hen
   have hxo : okI (x1, x2, x3) := by
    obtain ⟨x', ex, hxo⟩ := idKey_inv _ _ hkey
    simp only [Value.agg.injEq, Array.mk.injEq, List.cons.injEq, Value.int.injEq, true_and, and_true] at ex
    have e : ((x1, x2, x3) : I3) = x' := i3_ext ex.1 ex.2.1 ex.2.2
    rw [e]
    exact hxo
   obtain rfl : kl = kf (x1, x2, x3) := Option.some.inj (hkey.symm.trans (kf_key hxo))
   have hMet3 := Lib.hid (hMet.out.step hxo hlk)
   have hO3 : Hid (IK.Own w3 w.heap.size v ss) := Lib.hid (hO.out.keepB fun k hk => hg3.block k (hO.out.blk k hk).1 (by
    have := row_ne_iter hO.out hR.out
    rw [hk] at this
    exact fun e => this e.symm))
   have hB3 : Hid (Below w.heap.size w w3) := Lib.hid (hB.out.grown hg3 hB.out.size (fun j hj => by cases hj; exact HZ.out))
   have hR3 := Lib.hid hrg3
   have hLT : Hid (cnt3 < cnt) := Lib.hid hlt
   have hLE := Lib.hid hR.out.left_eq
   have hln : ss.length + 1 ≤ 1000000 := by have := hcnt.out; omega
   have hz3 : w.heap.size ≤ w3.heap.size := hB3.out.size
   have hnv := hNE
   clear hkey hlk hv hat hrg3 hlt hg3 hs3 hR hO hMet hB hNE
   go_wp2_with (refine IK.app rfl _ _ rfl w.heap.size v ss rfl ?own _ [(x1, x2, x3)] rfl ?rd hln ?bs ?_)
   case own => exact hO3.out.below (((Below.refl _ _).alloc (Nat.le_refl _) _).alloc (by simp) _)
   case rd => exact IK.rd_boxAt (x1, x2, x3) _ 1 _ _ (by simp)
   case bs => simp; omega
   intro v4 w4 ho4 hb4 hg4 hn4
   have hO4 := Lib.hid ho4
   have hr3 := (hR3.out.alloc (.cells #[.int .i64 x1, .int .i64 x2, .int .i64 x3] 49)).alloc (.cells #[.int .i64 x1, .int .i64 x2, .int .i64 x3] 49)
   have ho3' := hO3.out.below (((Below.refl _ _).alloc (Nat.le_refl _) (.cells #[.int .i64 x1, .int .i64 x2, .int .i64 x3] 49)).alloc (by simp) (.cells #[.int .i64 x1, .int .i64 x2, .int .i64 x3] 49))
   have hR4 := Lib.hid (hr3.kept hg4 (row_ne_low ho3' HBL.out) (row_ne_iter ho3' hr3))
   have hN4 : Hid (v4 ≠ .slice none 0 0) := Lib.hid hn4
   have hB4 : Hid (Below w.heap.size w w4) := Lib.hid (((hB3.out.alloc hz3 _).alloc (by simp; omega) _).trans hb4)
   have hC4 : Hid ((ss ++ [(x1, x2, x3)]).length + cnt3 ≤ C) := Lib.hid (by have := hcnt.out; have := hLT.out; simp; omega)
   clear ho4 hb4 hg4 hn4 hr3 ho3' hO3 hB3 hR3 hcnt hln hz3 hnv hxo
   go_wp2
   go_roundw
   case rel => exact ⟨v4, _, cnt3, _, rfl, hR4, hO4, hN4, hMet3, hC4, hB4⟩
   case measure => rw [hR4.out.left_eq, hLE.out]; exact hLT.out
end Go.Proofs.YtnancdbkmompdaaGreat
