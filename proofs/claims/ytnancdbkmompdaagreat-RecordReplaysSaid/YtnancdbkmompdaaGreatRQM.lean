/-
  Texts put together: Ids3, RowS, Ids5, Mv, Ids6, Ids7.
-/
import Derived.Test.YtnancdbkmompdaaGreatRY
import Derived.Test.YtnancdbkmompdaaGreatRQL
import Derived.WalkSpells
import Derived.Test.YtnancdbkmompdaaGreatRQD
import Derived.Shelf.SlSortCmp.NoneTotal
import Derived.Sort.OwnSorted
import Derived.Shelf.Lay
import Derived.Ground.SlsfProg
import Derived.Shelf.SlicesQ.Contains
import Derived.Laws.StructEq
import Derived.Ground.SlgqProg
import Derived.Deep.QuietTactic
import Derived.BigQuiet
namespace Go.Proofs.YtnancdbkmompdaaGreat
open Go.RowKit Go.Sort
set_option linter.unusedSimpArgs false
set_option linter.unusedVariables false
set_option maxRecDepth 100000
set_option maxHeartbeats 40000000
/-- A set of instances in memory. -/
def SetAt (w : World) (b : Nat) (l : List I3) : Prop := ∃ (D : DataW Unit) (m : Nat), m ≤ 5000 ∧ w.ownsMap (H := Unit) Tryz.prog 49 unitElem b m D ∧ SetIs D l
def SetP (l : List I3) (w : World) (e : Ending) (w' : World) : Prop := e = .returned (.map (some w.heap.size)) ∧ SetAt w' w.heap.size l ∧ Below w.heap.size w w'
theorem idCell {w : World} {a : Option Addr} {n c : Nat} {l : List I3} (h : IK.Rd w (.slice a n c) l) (k : Nat) (hk : k < n) : n = l.length ∧ ∃ g off, a = some ⟨g, off, none⟩ ∧ g < w.heap.size ∧
  w.cell? ⟨g, off + k * 3, none⟩ = some (.int .i64 (l.getD k (0, 0, 0)).1) ∧ w.cell? ⟨g, off + k * 3 + 1, none⟩ = some (.int .i64 (l.getD k (0, 0, 0)).2.1) ∧ w.cell? ⟨g, off + k * 3 + 2, none⟩ = some (.int .i64 (l.getD k (0, 0, 0)).2.2) ∧ k < l.length := by
 have hl : l ≠ [] := by
  intro e
  obtain ⟨a', c', e', _⟩ := h
  subst e
  simp at e'
  omega
 obtain ⟨hn, g, off, rfl, hg, hc⟩ := h.at hl
 exact ⟨hn, g, off, rfl, hg, hc k hk 0 _ rfl, hc k hk 1 _ rfl, hc k hk 2 _ rfl, by omega⟩
theorem setOf_any (g c n : Nat) (vs : List Value) (ls : List (List I3)) (w : World) (h1 : vs.length = n) (h2 : ls.length = n) (hn : n ≤ 2) (hg : g < w.heap.size)
  (hc : ∀ i, i < n → w.cell? ⟨g, i, none⟩ = some (vs.getD i undef)) (hr : ∀ i, i < n → IK.Rd w (vs.getD i undef) (ls.getD i [])) (hok : ∀ i, i < n → okL (ls.getD i [])) (hb : ∀ i, i < n → (ls.getD i []).length ≤ 1000) :
  Calls Tryz.prog 72 #[.slice (some ⟨g, 0, none⟩) n c] w (SetP ls.flatten w) := by
 have hmm := @run_makeMap Tryz.prog
 have HC := Hd hc
 have HR := Hd hr
 have HOK := Hd hok
 have HB := Hd hb
 have H2 := Hd h2
 have hM0 : (w.alloc (.map #[] 0)).ownsMap (H := Unit) Tryz.prog 49 unitElem w.heap.size 0 (.map []) := World.ownsMap_made _ _ _ _
 have HM0 := Hd hM0
 have HW0 : Hid (Below w.heap.size w (w.alloc (.map #[] 0))) := Hd ((Below.refl _ _).alloc (Nat.le_refl _) _)
 clear hc hr hok hb h2 h1 hM0
 go_enter Tryz.func72, Tryz.ntmps72
 go_wp2_with fail
 go_loopw [11] (fun i wr => ∃ (k : Nat) (D : DataW Unit) (m : Nat), k ≤ n ∧ i = .int .i64 k ∧ Hid (m ≤ k * 1000) ∧ Hid (wr.ownsMap (H := Unit) Tryz.prog 49 unitElem w.heap.size m D) ∧ Hid (SetIs D (ls.take k).flatten) ∧ Hid (Below w.heap.size w wr)) (fun i _ => n - (intOf i).toNat)
 case atStart => exact ⟨0, _, 0, Nat.zero_le _, rfl, Hd (Nat.zero_le _), HM0, Hd SetIs.empty, HW0⟩
 case round =>
  clear HM0 HW0
  obtain ⟨k, D, m, hk, rfl, hmk, hM, hS, hB⟩ := hrel
  by_cases hlt : k < n
  ·have hlt' : (k : Int) < (n : Int) := by omega
   have hkb : (k : Int) ≤ 10 := by omega
   have hz := hB.out.size
   have hc := (hB.out.cell (p := ⟨g, k, none⟩) hg).trans (HC.out k hlt)
   have hrd := HR.out k hlt
   obtain ⟨v, hv⟩ : ∃ v, vs.getD k undef = v := ⟨_, rfl⟩
   obtain ⟨l, hl⟩ : ∃ l, ls.getD k [] = l := ⟨_, rfl⟩
   have hok := HOK.out k hlt
   have hln := HB.out k hlt
   rw [hv] at hc
   rw [hv, hl] at hrd
   rw [hl] at hok hln
   obtain ⟨a, cc, hve⟩ := hrd.slice
   subst hve
   obtain ⟨N, hN⟩ : ∃ N, l.length = N := ⟨_, rfl⟩
   rw [hN] at hrd hc hln
   have HL : Hid (l = ls.getD k []) := Hd hl.symm
   have HN := Hd hN
   have HRD := Hd hrd
   have HOKL := Hd hok
   clear hl hN hrd hok hv
   go_wp2_with fail
   clear hc
   obtain ⟨wo, hwo⟩ : ∃ wo : World, wo = wr := ⟨_, rfl⟩
   subst hwo
   go_loopw [17] (fun i wr => ∃ (j : Nat) (D : DataW Unit) (m : Nat), j ≤ N ∧ i = .int .i64 j ∧ Hid (m ≤ k * 1000 + j) ∧ Hid (wr.ownsMap (H := Unit) Tryz.prog 49 unitElem w.heap.size m D) ∧ Hid (SetIs D ((ls.take k).flatten ++ l.take j)) ∧ Hid (Below w.heap.size w wr)) (fun i _ => N - (intOf i).toNat)
   case atStart => exact ⟨0, D, m, Nat.zero_le _, rfl, hmk, hM, Hd (by simpa using hS.out), hB⟩
   case round =>
    clear hM hS hB hmk hz
    obtain ⟨j, D, m, hj, rfl, hmj, hM, hS, hB⟩ := hrel
    by_cases hltj : j < N
    ·have hltj' : (j : Int) < (N : Int) := by omega
     have hjb : (j : Int) ≤ 1000 := by omega
     obtain ⟨e0, g2, off2, ha, hg2, q1, q2, q3, hjl⟩ := idCell (HRD.out.below hB.out) j hltj
     obtain ⟨X, hX⟩ : ∃ X, l.getD j (0, 0, 0) = X := ⟨_, rfl⟩
     rw [hX] at q1 q2 q3
     have hXm : X ∈ l := by rw [← hX]; simp [List.getD, hjl]
     have HKX := Hd (HOKL.out X hXm)
     have HKEY := Hd (kf_key (HOKL.out X hXm))
     have HTK : Hid (l.take j ++ [X] = l.take (j + 1)) := Hd (by rw [List.take_succ_eq_append_getElem hjl, ← hX]; simp [List.getD, hjl])
     have hm' : m < maxLen := by have := hmj.out; unfold maxLen; omega
     have hbs : w.heap.size ≤ wr.heap.size := hB.out.size
     subst ha
     clear hX hXm hjl e0
     go_wp2_with (at_mapUpdate; refine wpList_mapUpdate_own _ rfl _ _ _ 145 rfl 49 169 idLaw Tryz.underlying145 unitElem w.heap.size m _ rfl (hM.out.alloc _) hm' _ _ (kf X) rfl rfl HKEY.out (.agg []) [] unitElem_mk ?_)
     intro w6 hown6 hg6
     have hM6 := Hd hown6
     have hS6 : Hid (SetIs (D.put (kf X) (.agg [])) ((ls.take k).flatten ++ l.take (j + 1))) := Hd (by
      rw [← HTK.out, ← List.append_assoc]
      exact hS.out.put HKX.out _)
     have hB6 : Hid (Below w.heap.size w w6) := Hd ((hB.out.alloc hbs _).grown hg6 (by simp; omega) (fun i hi => by simp only [Option.some.injEq] at hi; omega))
     have hmj6 : Hid (m + 1 ≤ k * 1000 + (j + 1)) := Hd (by have := hmj.out; omega)
     clear hown6 hg6 hM hS hB hmj hm' q1 q2 q3 hg2 hbs
     go_wp2
     go_roundw
     case rel => exact ⟨j + 1, _, _, by omega, by go_num, hmj6, hM6, hS6, hB6⟩
     case measure => simp [intOf]; omega
    ·obtain rfl : j = N := by omega
     have hS2 : Hid (SetIs D (ls.take (k + 1)).flatten) := Hd (by
      have h := hS.out
      rw [List.take_of_length_le (l := l) (by rw [HN.out]; exact Nat.le_refl _)] at h
      have hk2 : k < ls.length := by rw [H2.out]; exact hlt
      rw [List.take_succ_eq_append_getElem hk2, List.flatten_append]
      have e : [ls[k]].flatten = l := by rw [HL.out]; simp [List.getD, hk2]
      rw [e]
      exact h)
     have hmk2 : Hid (m ≤ (k + 1) * 1000) := Hd (by have := hmj.out; rw [Nat.add_mul]; omega)
     clear hS hmj
     go_wp2
     go_roundw
     case rel => exact ⟨k + 1, D, m, by omega, by go_num, hmk2, hM, hS2, hB⟩
     case measure => simp [intOf]; omega
  ·obtain rfl : k = n := by omega
   have hS2 : SetIs D ls.flatten := by
    have h := hS.out
    rwa [List.take_of_length_le (by rw [H2.out]; exact Nat.le_refl _)] at h
   have HS2 := Hd hS2
   clear hS hS2
   go_wp2
   go_ret
   exact ⟨rfl, ⟨D, m, by have := hmk.out; omega, hM.out, HS2.out⟩, hB.out⟩
theorem heap_sortedK {w : World} {g n : Nat} {os : Array Obj} {cur : Array Value} {e : TypeId} {fr : Nat × Nat} (F : Array Value) (hb : w.heap[g]? = some (.cells cur e fr)) :
  (grow (putRow id (Sort.ahead w n) g 0 F) os).heap[g]? = some (.cells (putCells id 0 F cur) e fr) := by
 have hg : g < w.heap.size := (Array.getElem?_eq_some_iff.1 hb).1
 rw [heap_grow_old _ _ (by simpa using hg)]
 simp [putRow, mapBlock, Sort.ahead, Array.getElem?_modify, hb, onCells]
theorem grownBy_sortedK {w : World} {g n : Nat} {os : Array Obj} (F : Array Value) : w.grownBy (grow (putRow id (Sort.ahead w n) g 0 F) os) (some g) := by
 refine ⟨rfl, rfl, rfl, by simp, fun k hk hne => ?_⟩
 rw [heap_grow_old _ _ (by simpa using hk)]
 have : g ≠ k := fun e => hne (by rw [e])
 simp [putRow, mapBlock, Sort.ahead, Array.getElem?_modify, this]
theorem take_putCellsK (cur F : Array Value) (h : F.size ≤ cur.size) : (putCells id 0 F cur).toList.take F.size = F.toList := by
 apply List.ext_getElem?
 intro j
 by_cases hj : j < F.size
 ·rw [List.getElem?_take_of_lt hj, Array.getElem?_toList]
  simp [putCells, hj, show j < cur.size by omega]
 ·rw [List.getElem?_take_eq_none (by omega), List.getElem?_eq_none (by simp; omega)]
section
variable {P : Program} {α : Type} [Inhabited α] (K : Knd P α)
theorem Knd.flat (l : List α) : (flatK K.enc K.k l.toArray).toList = K.row l := by
 apply List.ext_getElem?
 intro t
 by_cases ht : t < l.length * K.k
 ·have hp := K.pos
  have h1 : t / K.k < l.length := by rw [Nat.div_lt_iff_lt_mul hp]; exact ht
  have h2 : t % K.k < K.k := Nat.mod_lt _ hp
  rw [K.row_flat l t (by rw [K.row_len]; exact ht), Array.getElem?_toList]
  have e1 : l.getD (t / K.k) K.d = l[t / K.k] := by simp [List.getD, h1]
  have hl : t % K.k < (K.enc l[t / K.k]).length := by rw [K.len]; exact h2
  rw [e1, List.getElem?_eq_getElem hl]
  simp [flatK, ht, h1, hl]
 ·rw [List.getElem?_eq_none (by simp [flatK]; omega), List.getElem?_eq_none (by rw [K.row_len]; omega)]
theorem Knd.flat_size (l : List α) : (flatK K.enc K.k l.toArray).size = l.length * K.k := by simp
variable {K}
theorem Knd.Own.holds {w : World} {base g n c : Nat} {l : List α} (h : K.Own w base (.slice (some ⟨g, 0, none⟩) n c) l) : HoldsK K.enc K.k w g 0 l.toArray ∧ g < w.heap.size ∧ n = l.length := by
 rcases h.2 with ⟨h0, _⟩ | ⟨g', cap, cur, hv, hg, hh, hn, hm, hs, hx⟩
 ·cases h0
 ·simp only [Value.slice.injEq, Option.some.injEq, Addr.mk.injEq, and_true, true_and] at hv
  obtain ⟨rfl, rfl, rfl⟩ := hv
  refine ⟨?_, (Array.getElem?_eq_some_iff.1 hh).1, rfl⟩
  intro j hj
  rw [K.flat_size] at hj
  refine ⟨?_, by simp [World.frozen?, hh]⟩
  have hjs : j < (flatK K.enc K.k l.toArray).size := by rw [K.flat_size]; exact hj
  have e1 : cur[j]? = (flatK K.enc K.k l.toArray)[j]? := by
   have h1 : (cur.toList.take (l.length * K.k))[j]? = (K.row l)[j]? := by rw [hx]
   rw [List.getElem?_take, if_pos (by omega)] at h1
   rw [← Array.getElem?_toList, h1, ← K.flat, Array.getElem?_toList]
  have e2 : (flatK K.enc K.k l.toArray)[j]? = some ((flatK K.enc K.k l.toArray)[j]!) := by
   rw [getElem!_pos _ j hjs]; exact Array.getElem?_eq_getElem hjs
  simp [World.cell?, hh, e1, e2]
/-- Behind the sort the same slice owns the sorted list. -/
theorem Knd.Own.sorted {w : World} {base g n c : Nat} {l k : List α} (h : K.Own w base (.slice (some ⟨g, 0, none⟩) n c) l) (hl : k.length = l.length) (m : Nat) (os : Array Obj) :
  K.Own (sortWorldK K.enc K.k w g 0 m k.toArray os) base (.slice (some ⟨g, 0, none⟩) n c) k ∧ w.grownBy (sortWorldK K.enc K.k w g 0 m k.toArray os) (some g) := by
 refine ⟨?_, grownBy_sortedK _⟩
 rcases h.2 with ⟨h0, _⟩ | ⟨g', cap, cur, hv, hg, hh, hn, hm, hs, hx⟩
 ·cases h0
 ·simp only [Value.slice.injEq, Option.some.injEq, Addr.mk.injEq, and_true, true_and] at hv
  obtain ⟨rfl, rfl, rfl⟩ := hv
  refine ⟨K.row_len k, .inr ⟨g, c, _, by rw [hl], hg, heap_sortedK _ hh, by rw [hl]; exact hn, hm, by simp [putCells, hs], ?_⟩⟩
  have hle : l.length * K.k ≤ c * K.k := Nat.mul_le_mul_right _ hn
  have := take_putCellsK cur (flatK K.enc K.k k.toArray) (by rw [K.flat_size, hs, hl]; exact hle)
  rw [K.flat_size, K.flat] at this
  exact this
end
end Go.Proofs.YtnancdbkmompdaaGreat
namespace Go.Proofs.YtnancdbkmompdaaGreat
open Go.RowKit Go.Sort Go.Shelf
set_option linter.unusedSimpArgs false
set_option linter.unusedVariables false
set_option maxRecDepth 100000
set_option maxHeartbeats 40000000
shelf_lay_g SlLaysF0.n6 Slsf 6 at Tryz 91 as Tryz.sortIds
theorem ordI_lt (a b : I3) : ltOf ordI a b = ltI a b := by
 unfold ltOf ordI
 cases h1 : ltI a b
 ·cases h2 : ltI b a <;> simp
 ·simp
theorem ltI_swo : SWO (ltOf ordI) where
 irrefl x := by rw [ordI_lt]; exact ltI_irrefl x
 trans x y z h k := by rw [ordI_lt] at *; exact ltI_trans h k
 ntrans x y z h k := by
  rw [ordI_lt] at *
  rw [Bool.eq_false_iff, ne_eq, ltI_iff] at *
  omega
theorem cmpIds (blk off size : Nat) (w : World) : CmpLays Tryz.prog 92 #[] idE 3 ordI blk off size w :=
 fun _ _ _ _ x y => order_any x.1 x.2.1 x.2.2 y.1 y.2.1 y.2.2 _
/-- What was met so far. -/
structure Met (l : List I3) (left : Lit → Bool) (ss : List I3) : Prop where
 nodup : ss.Nodup
 ok : okL ss
 sub : ∀ x ∈ ss, x ∈ l
 left : ∀ x, okI x → left (kf x) = (hasI l x && !hasI ss x)
theorem Met.start {D : DataW Unit} {l : List I3} (h : SetIs D l) : Met l (Maps.has D) [] :=
 ⟨List.nodup_nil, (fun x h => by cases h), (fun x h => by cases h), (fun x hx => by rw [h.has x hx]; simp [hasI])⟩
theorem Met.step {l : List I3} {left : Lit → Bool} {ss : List I3} (h : Met l left ss) {x : I3} (hx : okI x) (hl : left (kf x) = true) : Met l (fun z => left z && !z.sameKey (kf x)) (ss ++ [x]) := by
 have h1 := h.left x hx
 rw [hl] at h1
 have h2 : hasI l x = true ∧ (!hasI ss x) = true := by simpa using h1.symm
 have hin : x ∈ l := (hasI_iff _ _).1 h2.1
 have hni : x ∉ ss := (hasI_false _ _).1 (by simpa using h2.2)
 refine ⟨?_, ?_, ?_, fun y hy => ?_⟩
 ·rw [List.nodup_append]
  exact ⟨h.nodup, by simp, fun a ha b hb => by simp at hb; subst hb; exact fun e => hni (e ▸ ha)⟩
 ·intro y hy
  rcases List.mem_append.1 hy with q | q
  ·exact h.ok y q
  ·simp at q; subst q; exact hx
 ·intro y hy
  rcases List.mem_append.1 hy with q | q
  ·exact h.sub y q
  ·simp at q; subst q; exact hin
 ·show (left (kf y) && !(kf y).sameKey (kf x)) = _
  rw [h.left y hy, kf_same_iff hy hx, hasI_app]
  have : hasI [x] y = decide (y = x) := by unfold hasI; simp [eq_comm]
  rw [this]
  cases hasI l y <;> cases hasI ss y <;> cases decide (y = x) <;> rfl
theorem Met.done {l : List I3} {left : Lit → Bool} {ss : List I3} (h : Met l left ss) (hl : ∀ kl, left kl = false) (ho : okL l) : ∀ x, x ∈ ss ↔ x ∈ l := by
 intro x
 refine ⟨h.sub x, fun hx => ?_⟩
 have h1 := h.left x (ho x hx)
 rw [hl, (hasI_iff _ _).2 hx] at h1
 exact (hasI_iff _ _).1 (by simpa using h1)
theorem sorted_cln {l ss : List I3} (hn : ss.Nodup) (hm : ∀ x, x ∈ ss ↔ x ∈ l) : (ss.mergeSort fun x y => !(ltOf ordI) y x) = clnI l := by
 have e : (fun x y : I3 => !(ltOf ordI) y x) = fun x y => !ltI y x := by funext x y; rw [ordI_lt]
 rw [e]
 have hp := List.mergeSort_perm ss (fun x y => !ltI y x)
 symm
 refine clnI_eq ?_ fun x => hp.mem_iff.trans (hm x)
 have h1 := List.pairwise_mergeSort (le := fun x y : I3 => !ltI y x) (fun a b c h k => by
   simp only [Bool.not_eq_true', Bool.eq_false_iff, ne_eq, ltI_iff] at *
   omega) (fun a b => by
   cases q : ltI b a
   ·simp
   ·simp [ltI_asymm q]) ss
 have h2 : (ss.mergeSort fun x y => !ltI y x).Nodup := hp.nodup_iff.2 hn
 exact (List.Pairwise.and h1 h2).imp (fun {a b} q => by
  have q1 : ltI b a = false := by simpa using q.1
  cases k : ltI a b
  ·exact absurd (ltI_total k q1) q.2
  ·rfl)
def RowP (l : List I3) (w : World) (e : Ending) (w' : World) : Prop := ∃ v, Hid (e = .returned v) ∧ IK.Own w' w.heap.size v l ∧ Below w.heap.size w w'
theorem risen_any (B : Nat) (l : List I3) (w : World) (hs : SetAt w B l) (ol : okL l) :
  Calls Tryz.prog 71 #[.map (some B)] w (RowP (clnI l) w) := by
 obtain ⟨D, m, hm, hM, hD⟩ := hs
 have HM := Hd hM
 have HD := Hd hD
 have HOL := Hd ol
 have HBL := Hd hM.lt
 have hsz : Maps.size D ≤ 5000 := Nat.le_trans hM.size_le hm
 obtain ⟨C, hC⟩ : ∃ C, Maps.size D = C := ⟨_, rfl⟩
 have HC := Hd hC
 rw [hC] at hsz
 clear hM hD ol hC hm
 go_enter Tryz.func71, Tryz.ntmps71
 go_wp2_with (first
  | (at_len; refine wpList_len_own _ rfl _ 145 rfl 49 169 Tryz.underlying145 unitElem B m D rfl HM.out ?_; rw [HC.out])
  | refine IK.make rfl _ _ rfl rfl C rfl (by omega) w.heap.size (Nat.le_refl _) ?_)
 intro v1 w1 hO1 hb1 hne1 hg1
 have HO1 := Hd hO1
 have HB1 := Hd hb1
 have hM1 := HM.out.kept (row := none) hg1 (by simp)
 have HM1 := Hd hM1
 have HNE1 := Hd hne1
 clear hO1 hb1 hne1 hg1 hM1
 go_wp2_with (at_range; refine wpList_range_own _ rfl _ 145 rfl 49 169 idLaw Tryz.underlying145 unitElem B m D rfl HM1.out ?_)
 intro w2 hr2 hg2 hz2
 have HR2 : Hid (w2.ranges (H := Unit) Tryz.prog 49 unitElem B w1.heap.size m D (Maps.has D) C) := Hd (by have h := hr2; rw [HC.out] at h; exact h)
 have hb2 : Below w1.heap.size w1 w2 := (Below.refl _ _).grown hg2 (Nat.le_refl _) (fun k e => by cases e)
 have HB2 : Hid (Below w.heap.size w w2) := Hd (HB1.out.trans (hb2.mono HB1.out.size))
 have HO2 := Hd (HO1.out.below hb2)
 have HZ : Hid (w.heap.size ≤ w1.heap.size) := Hd HB1.out.size
 clear hr2 hg2 hz2 hb2 HM1 HB1 HO1
 go_wp2_with fail
 go_loopw [3] (fun sl wr => ∃ (v : Value) (left : Lit → Bool) (cnt : Nat) (ss : List I3), v = sl ∧ Hid (wr.ranges (H := Unit) Tryz.prog 49 unitElem B w1.heap.size m D left cnt) ∧ Hid (IK.Own wr w.heap.size v ss) ∧ Hid (v ≠ .slice none 0 0) ∧ Hid (Met l left ss) ∧ Hid (ss.length + cnt ≤ C) ∧ Hid (Below w.heap.size w wr)) (fun _ wr => wr.rangeLeft B w1.heap.size)
 case atStart => exact ⟨_, _, C, [], rfl, HR2, HO2, HNE1, Hd (Met.start HD.out), Hd (by simp), HB2⟩
 case round =>
  clear HR2 HB2 HO2 HNE1
  obtain ⟨v, left, cnt, ss, rfl, hR, hO, hNE, hMet, hcnt, hB⟩ := hrel
  go_wp2_with (at_next; refine wpList_next_ranges _ rfl _ rfl 49 idLaw unitElem idW (fun _ : Unit => Value.agg #[]) (fun key kl hk => by obtain ⟨x, hx, _⟩ := idKey_inv key kl hk; exact ⟨x, hx⟩) (fun v y hv => ⟨(), (unitElem_inv hv).1⟩) B w1.heap.size m _ _ _ rfl hR.out ?_ ?_)
  ·intro hc0 hl0
   obtain ⟨ad, cc, hve⟩ := hO.out.slice
   have hO2 := hO.out
   rw [hve] at hO2
   have hnn := hNE.out
   obtain ⟨g, rfl⟩ : ∃ g, ad = some ⟨g, 0, none⟩ := by
    rcases hO2.2 with ⟨h0, _⟩ | ⟨g, cap, cur, h0, _⟩
    ·exact absurd (hve.trans h0) hnn
    ·simp only [Value.slice.injEq] at h0
     exact ⟨g, h0.1⟩
   obtain ⟨hH, hgl, _⟩ := hO2.holds
   have hmem := hMet.out.done hl0 HOL.out
   have hsr := sorted_cln hMet.out.nodup hmem
   have hlen : (clnI l).length = ss.length := by rw [← hsr]; simp
   have eg : ∀ args w, (callFunc 92 args).run Tryz.prog w = .ok (.enter 92 args) w := enters_of Tryz.func92 (by kernel_rfl) rfl
   have hcon := AnyQ.slices_SortFunc_total Tryz.sortIds 3 Tryz.isAgg49 Tryz.sizeOf49 idE (fun _ => rfl) (fun x v h => IK.one x v h) ordI ltI_swo 92 #[] g 0 cc ss.toArray wr eg (cmpIds g 0 _ wr) hH hgl (by have := hcnt.out; simp; omega) (fun x y h k => by rw [ordI_lt] at h k; exact ltI_total h k)
   rw [show ss.toArray.toList = ss from rfl, hsr] at hcon
   obtain ⟨M, hM⟩ : ∃ M, ss.length = M := ⟨_, rfl⟩
   change Calls Tryz.prog 91 #[.slice (some ⟨g, 0, none⟩) ss.length cc, .func (.func 92) #[] #[]] wr _ at hcon
   rw [hM] at hcon hve
   have HCON := Hd hcon
   have HS : Hid (∀ mm os, IK.Own (sortWorldK idE 3 wr g 0 mm (clnI l).toArray os) w.heap.size (.slice (some ⟨g, 0, none⟩) M cc) (clnI l) ∧ wr.grownBy (sortWorldK idE 3 wr g 0 mm (clnI l).toArray os) (some g)) := Hd (fun mm os => by
    rw [hM] at hO2
    exact hO2.sorted (by rw [hlen]) mm os)
   have HGB : Hid (w.heap.size ≤ g) := Hd (hO2.from g (by simp [Value.ownBlock]))
   subst hve
   clear hcon hO2 hnn hH hgl hmem hsr hlen hM hO hR hMet hcnt hNE hl0 hc0 HM HD
   go_wp2_with (go_at_call 91; refine HCON.out.mono ?_; rintro e w' ⟨rfl, nn, os, rfl⟩)
   go_ret
   exact ⟨_, Hd rfl, (HS.out nn os).1, hB.out.grown (HS.out nn os).2 hB.out.size (fun j hj => by cases hj; exact HGB.out)⟩
  ·intro x1 x2 x3 kl yd yp w3 cnt3 hkey hlk hv hat hrg3 hlt hg3 hs3 hen
   have hxo : okI (x1, x2, x3) := by
    obtain ⟨x', ex, hxo⟩ := idKey_inv _ _ hkey
    simp only [Value.agg.injEq, Array.mk.injEq, List.cons.injEq, Value.int.injEq, true_and, and_true] at ex
    have e : ((x1, x2, x3) : I3) = x' := i3_ext ex.1 ex.2.1 ex.2.2
    rw [e]
    exact hxo
   obtain rfl : kl = kf (x1, x2, x3) := Option.some.inj (hkey.symm.trans (kf_key hxo))
   have hMet3 := Hd (hMet.out.step hxo hlk)
   have hO3 : Hid (IK.Own w3 w.heap.size v ss) := Hd (hO.out.keepB fun k hk => hg3.block k (hO.out.blk k hk).1 (by
    have := row_ne_iter hO.out hR.out
    rw [hk] at this
    exact fun e => this e.symm))
   have hB3 : Hid (Below w.heap.size w w3) := Hd (hB.out.grown hg3 hB.out.size (fun j hj => by cases hj; exact HZ.out))
   have hR3 := Hd hrg3
   have hLT : Hid (cnt3 < cnt) := Hd hlt
   have hLE := Hd hR.out.left_eq
   have hln : ss.length + 1 ≤ 1000000 := by have := hcnt.out; omega
   have hz3 : w.heap.size ≤ w3.heap.size := hB3.out.size
   have hnv := hNE
   clear hkey hlk hv hat hrg3 hlt hg3 hs3 hR hO hMet hB hNE
   go_wp2_with (refine IK.app rfl _ _ rfl w.heap.size v ss rfl ?own _ [(x1, x2, x3)] rfl ?rd hln ?bs ?_)
   case own => exact hO3.out.below (((Below.refl _ _).alloc (Nat.le_refl _) _).alloc (by simp) _)
   case rd => exact IK.rd_boxAt (x1, x2, x3) _ 1 _ _ (by simp)
   case bs => simp; omega
   intro v4 w4 ho4 hb4 hg4 hn4
   have hO4 := Hd ho4
   have hr3 := (hR3.out.alloc (.cells #[.int .i64 x1, .int .i64 x2, .int .i64 x3] 49)).alloc (.cells #[.int .i64 x1, .int .i64 x2, .int .i64 x3] 49)
   have ho3' := hO3.out.below (((Below.refl _ _).alloc (Nat.le_refl _) (.cells #[.int .i64 x1, .int .i64 x2, .int .i64 x3] 49)).alloc (by simp) (.cells #[.int .i64 x1, .int .i64 x2, .int .i64 x3] 49))
   have hR4 := Hd (hr3.kept hg4 (row_ne_low ho3' HBL.out) (row_ne_iter ho3' hr3))
   have hN4 : Hid (v4 ≠ .slice none 0 0) := Hd hn4
   have hB4 : Hid (Below w.heap.size w w4) := Hd (((hB3.out.alloc hz3 _).alloc (by simp; omega) _).trans hb4)
   have hC4 : Hid ((ss ++ [(x1, x2, x3)]).length + cnt3 ≤ C) := Hd (by have := hcnt.out; have := hLT.out; simp; omega)
   clear ho4 hb4 hg4 hn4 hr3 ho3' hO3 hB3 hR3 hcnt hln hz3 hnv hxo
   go_wp2
   go_roundw
   case rel => exact ⟨v4, _, cnt3, _, rfl, hR4, hO4, hN4, hMet3, hC4, hB4⟩
   case measure => rw [hR4.out.left_eq, hLE.out]; exact hLT.out
end Go.Proofs.YtnancdbkmompdaaGreat
namespace Go.Proofs.YtnancdbkmompdaaGreat
open Go.RowKit Go.Sort
set_option linter.unusedSimpArgs false
set_option linter.unusedVariables false
set_option maxRecDepth 100000
set_option maxHeartbeats 40000000
/-- How any value reads. -/
def vR : Value → Option (DataW Value × List MemPlace) := fun v => some (.held v, [])
section
variable {α : Type}
def getV (l : List (I3 × α)) (x : I3) : Option α := (l.find? fun e => decide (e.1 = x)).map (·.2)
def delV (l : List (I3 × α)) (x : I3) : List (I3 × α) := l.filter fun e => decide (e.1 ≠ x)
def putV (l : List (I3 × α)) (x : I3) (v : α) : List (I3 × α) := delV l x ++ [(x, v)]
abbrev keysV (l : List (I3 × α)) : List I3 := l.map (·.1)
theorem getV_none {l : List (I3 × α)} {x : I3} : getV l x = none ↔ ∀ v, (x, v) ∉ l := by
 unfold getV
 rw [Option.map_eq_none_iff, List.find?_eq_none]
 constructor
 ·intro h v hv
  exact h _ hv (by simp)
 ·intro h e he q
  have : e.1 = x := by simpa using q
  subst this
  exact h e.2 he
theorem getV_some {l : List (I3 × α)} (hn : (keysV l).Nodup) {x : I3} {v : α} : getV l x = some v ↔ (x, v) ∈ l := by
 constructor
 ·intro h
  unfold getV at h
  rw [Option.map_eq_some_iff] at h
  obtain ⟨e, h1, h2⟩ := h
  have h3 := List.mem_of_find?_eq_some h1
  have h4 : e.1 = x := by simpa using List.find?_some h1
  subst h4 h2
  exact h3
 ·intro h
  induction l with
  | nil => cases h
  | cons a l ih =>
   have hp := List.nodup_cons.1 hn
   unfold getV
   rw [List.find?_cons]
   rcases List.mem_cons.1 h with q | q
   ·subst q; simp
   ·have hne : a.1 ≠ x := fun e => hp.1 (List.mem_map.2 ⟨_, q, e.symm⟩)
    rw [decide_eq_false hne]
    exact ih hp.2 q
theorem getV_isSome {l : List (I3 × α)} {x : I3} : (getV l x).isSome = hasI (keysV l) x := by
 rw [Bool.eq_iff_iff, hasI_iff, Option.isSome_iff_ne_none, Ne, getV_none]
 constructor
 ·intro h
  apply Classical.byContradiction
  intro q
  exact h fun v hv => q (List.mem_map.2 ⟨_, hv, rfl⟩)
 ·intro h q
  obtain ⟨e, he, rfl⟩ := List.mem_map.1 h
  exact q e.2 he
theorem mem_delV {l : List (I3 × α)} {x : I3} {e : I3 × α} : e ∈ delV l x ↔ e ∈ l ∧ e.1 ≠ x := by
 unfold delV
 rw [List.mem_filter]
 simp
theorem keys_delV (l : List (I3 × α)) (x : I3) : keysV (delV l x) = (keysV l).filter fun y => decide (y ≠ x) := by
 unfold delV keysV
 rw [List.filter_map]
 rfl
theorem nodup_delV {l : List (I3 × α)} (h : (keysV l).Nodup) (x : I3) : (keysV (delV l x)).Nodup := by
 rw [keys_delV]
 exact h.sublist List.filter_sublist
theorem nodup_putV {l : List (I3 × α)} (h : (keysV l).Nodup) (x : I3) (v : α) : (keysV (putV l x v)).Nodup := by
 unfold putV keysV
 rw [List.map_append, List.nodup_append]
 refine ⟨nodup_delV h x, by simp, ?_⟩
 intro a ha b hb e
 have hb2 : b = x := by simpa using hb
 obtain ⟨q, hq, rfl⟩ := List.mem_map.1 ha
 exact (mem_delV.1 hq).2 (e.trans hb2)
theorem getV_put {l : List (I3 × α)} (h : (keysV l).Nodup) (x : I3) (v : α) (y : I3) : getV (putV l x v) y = if y = x then some v else getV l y := by
 split
 ·rename_i e
  subst e
  exact (getV_some (nodup_putV h y v)).2 (by unfold putV; simp)
 ·rename_i e
  cases q : getV l y with
  | none =>
   rw [getV_none] at q ⊢
   intro u hu
   unfold putV at hu
   rcases List.mem_append.1 hu with r | r
   ·exact q u (mem_delV.1 r).1
   ·simp at r; exact e r.1
  | some u =>
   rw [getV_some h] at q
   rw [getV_some (nodup_putV h x v)]
   unfold putV
   exact List.mem_append.2 (.inl (mem_delV.2 ⟨q, e⟩))
theorem len_delV {l : List (I3 × α)} (h : (keysV l).Nodup) (x : I3) : (delV l x).length + (if (getV l x).isSome then 1 else 0) = l.length := by
 have q := filter_ne_len (keysV l) x h
 rw [← keys_delV] at q
 rw [getV_isSome]
 simpa using q
theorem len_putV {l : List (I3 × α)} (h : (keysV l).Nodup) (x : I3) (v : α) : (putV l x v).length = if (getV l x).isSome then l.length else l.length + 1 := by
 have q := len_delV h x
 unfold putV
 rw [List.length_append]
 split at q <;> simp_all <;> omega
end
section
variable {α : Type} {enc : α → Value} {w : World} {b : Nat} {l : List (I3 × α)}
/-- The map at a block has these entries. -/
structure MV (enc : α → Value) (w : World) (b : Nat) (l : List (I3 × α)) : Prop where
 own : ∃ D, w.ownsMap (H := Value) Tryz.prog 49 vR b l.length D ∧ Maps.Tidy D ∧ Maps.size D = l.length ∧ (∀ x, okI x → Maps.has D (kf x) = (getV l x).isSome) ∧ (∀ x a, okI x → getV l x = some a → ∀ z, D.atKey (kf x) z = .held (enc a))
 keys : ∀ e ∈ l, okI e.1
 nodup : (keysV l).Nodup
theorem owns_tight {H : Type} {P : Program} {k : TypeId} {R : Value → Option (DataW H × List MemPlace)} {n : Nat} {D : DataW H} (h : w.ownsMap P k R b n D) : w.ownsMap P k R b (Maps.size D) D := by
 obtain ⟨es, clock, hb, F, hs, rfl⟩ := h
 refine ⟨es, clock, hb, F, ?_, rfl⟩
 simp [Maps.size, length_read]
theorem MV.lt (h : MV enc w b l) : b < w.heap.size := by obtain ⟨D, hD, _⟩ := h.own; exact hD.lt
theorem MV.kept {w' : World} {row : Option Nat} (h : MV enc w b l) (hg : w.grownBy w' row) (hne : some b ≠ row) : MV enc w' b l := by
 obtain ⟨D, h1, h2⟩ := h.own
 exact ⟨⟨D, h1.kept hg hne, h2⟩, h.keys, h.nodup⟩
theorem MV.below {w' : World} (h : MV enc w b l) (hb : Below w.heap.size w w') : MV enc w' b l :=
 h.kept (row := none) ⟨hb.os, hb.tape, hb.output, hb.size, fun k hk _ => hb.block k hk⟩ (by simp)
theorem MV.same {w' : World} (h : MV enc w b l) (e : w'.heap[b]? = w.heap[b]?) : MV enc w' b l := by
 obtain ⟨D, ⟨es, ck, hb, hF⟩, h2⟩ := h.own
 exact ⟨⟨D, ⟨es, ck, e.trans hb, hF⟩, h2⟩, h.keys, h.nodup⟩
theorem MV.made (enc : α → Value) (w : World) : MV enc (w.alloc (.map #[] 0)) w.heap.size [] :=
 ⟨⟨.map [], World.ownsMap_made _ _ _ _, Maps.tidy_empty, rfl, fun x _ => rfl, fun x a _ h => by cases h⟩, (fun e h => by cases h), List.nodup_nil⟩
theorem MV.look {t e : TypeId} (h : MV enc w b l) (ht : Tryz.prog.underlying t = some (.map 49 e)) {z : Value} (hz : (zeroValue e).run Tryz.prog w = .ok z w) {x : I3} (hx : okI x) : (Instr.lookup t (.map (some b)) (idW x) false).run Tryz.prog w = .ok (((getV l x).map enc).getD z) w := by
 obtain ⟨D, h1, _, _, h4, h5⟩ := h.own
 obtain ⟨v, ps, hr, hv⟩ := h1.lookup idLaw ht hz (zd := .held z) (zp := []) rfl (kf_key hx)
 have hv2 : DataW.held v = D.atKey (kf x) (.held z) := (Prod.mk.inj (Option.some.inj hv)).1
 rw [hr]
 cases q : getV l x with
 | none =>
  have h6 := h4 x hx
  rw [q] at h6
  rw [Maps.atKey_of_not_has h6] at hv2
  injection hv2 with e
  rw [e]; rfl
 | some a =>
  rw [h5 x a hx q] at hv2
  injection hv2 with e
  rw [e]; rfl
theorem MV.len {t e : TypeId} (h : MV enc w b l) (ht : Tryz.prog.underlying t = some (.map 49 e)) (ty : TypeId) : (Builtin.len_ #[t] ty #[.map (some b)]).run Tryz.prog w = .ok (.int .i64 l.length) w := by
 obtain ⟨D, h1, _, h3, _⟩ := h.own
 rw [h1.len ht ty, h3]
theorem MV.put {t e : TypeId} (h : MV enc w b l) (ht : Tryz.prog.underlying t = some (.map 49 e)) (hn : l.length < maxLen) {x : I3} (hx : okI x) (a : α) : ∃ w', (Instr.mapUpdate t (.map (some b)) (idW x) (enc a)).run Tryz.prog w = .ok () w' ∧ MV enc w' b (putV l x a) ∧ w.mapTurned w' b := by
 obtain ⟨D, h1, h2, h3, h4, h5⟩ := h.own
 obtain ⟨w', r1, r2, r3⟩ := h1.store idLaw ht hn (d := .held (enc a)) (ps := []) (kf_key hx) rfl
 have hs : Maps.size (D.put (kf x) (.held (enc a))) = (putV l x a).length := by
  rw [Maps.size_put h2, h4 x hx, h3, len_putV h.nodup]
 refine ⟨w', r1, ⟨⟨_, by rw [← hs]; exact owns_tight r2, h2.put (kf_lit hx) _, hs, fun y hy => ?_, fun y c hy hc z => ?_⟩, fun e he => ?_, nodup_putV h.nodup x a⟩, r3⟩
 ·rw [getV_put h.nodup]
  by_cases q : y = x
  ·subst q
   rw [Maps.has_put_same h2.isMap (kf_lit hy), if_pos rfl]; rfl
  ·rw [Maps.has_put_other (fun r => q (kf_inj hy hx r)), if_neg q, h4 y hy]
 ·rw [getV_put h.nodup] at hc
  by_cases q : y = x
  ·subst q
   rw [if_pos rfl] at hc
   rw [Maps.atKey_put_same h2.isMap (kf_lit hy), Option.some.inj hc]
  ·rw [if_neg q] at hc
   rw [Maps.atKey_put_other (fun r => q (kf_inj hy hx r))]
   exact h5 y c hy hc z
 ·unfold putV at he
  rcases List.mem_append.1 he with q | q
  ·exact h.keys e (mem_delV.1 q).1
  ·simp at q; subst q; exact hx
end
section
variable {α : Type} {ops : Array Oper} {rest : List Oper} {o : Oper} {a : Act} {w : World} {Q : Exit → Act → World → Prop}
end
end Go.Proofs.YtnancdbkmompdaaGreat
namespace Go.Proofs.YtnancdbkmompdaaGreat
open Go.RowKit Go.Sort Go.Shelf Go.Lib
set_option linter.unusedSimpArgs false
set_option linter.unusedVariables false
set_option maxRecDepth 100000
set_option maxHeartbeats 40000000
theorem setOf_two (v1 v2 : Value) (l1 l2 : List I3) (w : World) (h1 : IK.Rd w v1 l1) (o1 : okL l1) (n1 : l1.length ≤ 1000) (h2 : IK.Rd w v2 l2) (o2 : okL l2) (n2 : l2.length ≤ 1000) :
  Calls Tryz.prog 72 #[.slice (some ⟨w.heap.size, 0, none⟩) 2 2] (w.alloc (.cells #[v1, v2] 34)) (SetP (l1 ++ l2) (w.alloc (.cells #[v1, v2] 34))) := by
 have cS := setOf_any w.heap.size 2 2 [v1, v2] [l1, l2] (w.alloc (.cells #[v1, v2] 34)) rfl rfl (by omega) (by simp)
  (fun i hi => by
   obtain rfl | rfl : i = 0 ∨ i = 1 := by omega
   ·exact new_cell w #[v1, v2] 34 0
   ·exact new_cell w #[v1, v2] 34 1)
  (fun i hi => by
   obtain rfl | rfl : i = 0 ∨ i = 1 := by omega
   ·exact h1.below ((Below.refl _ _).alloc (Nat.le_refl _) _)
   ·exact h2.below ((Below.refl _ _).alloc (Nat.le_refl _) _))
  (fun i hi => by
   obtain rfl | rfl : i = 0 ∨ i = 1 := by omega
   ·exact o1
   ·exact o2)
  (fun i hi => by
   obtain rfl | rfl : i = 0 ∨ i = 1 := by omega
   ·exact n1
   ·exact n2)
 simpa using cS
theorem okL_app {a b : List I3} (h : okL a) (k : okL b) : okL (a ++ b) := fun x hx => by
 rcases List.mem_append.1 hx with q | q
 ·exact h x q
 ·exact k x q
theorem union_any (v1 v2 : Value) (l1 l2 : List I3) (w : World) (h1 : IK.Rd w v1 l1) (o1 : okL l1) (n1 : l1.length ≤ 1000) (h2 : IK.Rd w v2 l2) (o2 : okL l2) (n2 : l2.length ≤ 1000) :
  Calls Tryz.prog 45 #[v1, v2] w (RowP (uniI l1 l2) w) := by
 have HC := Hd (setOf_two v1 v2 l1 l2 w h1 o1 n1 h2 o2 n2)
 obtain ⟨a1, c1, e1⟩ := h1.slice
 obtain ⟨a2, c2, e2⟩ := h2.slice
 subst e1
 subst e2
 have HO := Hd (okL_app o1 o2)
 clear h1 o1 n1 h2 o2 n2
 go_enter Tryz.func45, Tryz.ntmps45
 go_wp2_with fail
 refine HC.out.mono ?_
 rintro e w1 ⟨rfl, hs1, hb1⟩
 have hz1 := hb1.size
 simp only [World.size_alloc] at hs1 hb1 hz1
 have HR := Hd (risen_any _ (l1 ++ l2) w1 hs1 HO.out)
 have HB1 : Hid (Below w.heap.size w w1) := Hd (((Below.refl w.heap.size w).alloc (Nat.le_refl _) _).trans (hb1.mono (by omega)))
 have HZ1 : Hid (w.heap.size ≤ w1.heap.size) := Hd (by omega)
 simp only [World.size_alloc]
 clear hs1 hb1 hz1 HC
 go_wp2_with fail
 refine HR.out.mono ?_
 rintro e w2 ⟨v2, he, ho2, hb2⟩
 rw [he.out]
 have HO2 := Hd (ho2.base HZ1.out)
 have HB2 := Hd (HB1.out.trans (hb2.mono HZ1.out))
 clear ho2 hb2 he HR
 go_wp2
 go_ret
 exact ⟨_, Hd rfl, HO2.out, HB2.out⟩
shelf_lay_g SlLaysQ.n7 Slgq 7 at Tryz 70 as Tryz.containsIds
theorem eqIds : EqlAt Tryz.prog 49 (fun x => .agg (idE x).toArray) (fun x y : I3 => decide (x = y)) := by
 refine ⟨fun x y w => ?_, GuardAt.agg _ (by kernel_rfl)⟩
 have u3 := Tryz.underlying3
 have a3 := Tryz.isAgg3
 have z3 := Tryz.sizeOf3
 have hS : Tryz.prog.underlying 49 = some (.struct (Tryz.prog.fieldsOf 49)) := by kernel_rfl
 have hp : Tryz.prog.stoodInHeld 49 = false := by kernel_rfl
 simp only [idE]
 rw [run_eql_struct, show (10000 : Nat) = 9999 + 1 from rfl, run_equalIn_agg w 9999 49 _ _ hS hp]
 simp only [Program.fieldsOf, Tryz.underlying49]
 go_simp
 by_cases h1 : x.1 = y.1 <;> by_cases h2 : x.2.1 = y.2.1 <;> by_cases h3 : x.2.2 = y.2.2 <;> simp [h1, h2, h3, Prod.ext_iff]
/-- Two instances compared. -/
theorem eqI_run (a1 a2 a3 b1 b2 b3 : Int) : (∀ w, Sem.run Tryz.prog (binOp .eql 49 (.agg #[.int .i64 a1, .int .i64 a2, .int .i64 a3]) (.agg #[.int .i64 b1, .int .i64 b2, .int .i64 b3])) w = .ok (.bool (decide (((a1, a2, a3) : I3) = (b1, b2, b3)))) w) ∧
  (∀ op x y w, Sem.run Tryz.prog (eqGuard op 49 x y (.agg #[.int .i64 a1, .int .i64 a2, .int .i64 a3]) (.agg #[.int .i64 b1, .int .i64 b2, .int .i64 b3])) w = .ok () w) :=
 ⟨fun w => eqIds.1 (a1, a2, a3) (b1, b2, b3) w, fun op x y w => eqIds.2 op x y (a1, a2, a3) (b1, b2, b3) w⟩
theorem index_none (a : Option Addr) (c : Nat) (x1 x2 x3 : Int) (w : World) :
  Calls Tryz.prog 90 #[.slice a 0 c, .agg #[.int .i64 x1, .int .i64 x2, .int .i64 x3]] w fun e w' => e = .returned (.int .i64 (-1)) ∧ Grew w w' := by
 go_enter Tryz.func90, Tryz.ntmps90
 go_wp2
 refine wp_loop_rounds 1 ?_
 rw [rounds_succ]
 go_wp2
 go_ret
 exact ⟨rfl, grew_alloc _ _⟩
theorem has_any (v : Value) (l : List I3) (x1 x2 x3 : Int) (w : World) (h : IK.Rd w v l) (hn : l.length ≤ 1000) :
  Calls Tryz.prog 44 #[v, .agg #[.int .i64 x1, .int .i64 x2, .int .i64 x3]] w fun e w' => e = .returned (.bool (hasI l (x1, x2, x3))) ∧ Below w.heap.size w w' := by
 obtain ⟨a, c, e⟩ := h.slice
 subst e
 by_cases h0 : l = []
 ·subst h0
  have hI := fun W => index_none a c x1 x2 x3 W
  have HI := Hd hI
  clear h hI
  have hc : ∀ W : World, Calls Tryz.prog 70 #[.slice a 0 c, .agg #[.int .i64 x1, .int .i64 x2, .int .i64 x3]] W fun e w' => e = .returned (.bool false) ∧ Grew W w' := by
   intro W
   go_enter Tryz.func70, Tryz.ntmps70
   go_wp2_with fail
   refine (HI.out _).mono ?_
   rintro e w1 ⟨rfl, hg⟩
   have HG := Hd hg
   clear hg
   go_wp2
   go_ret
   exact ⟨rfl, (grew_alloc _ _).trans HG.out⟩
  have HC := Hd hc
  clear hc HI
  show Calls Tryz.prog _ #[.slice a 0 c, _] w _
  go_enter Tryz.func44, Tryz.ntmps44
  go_wp2_with fail
  refine (HC.out _).mono ?_
  rintro e w1 ⟨rfl, hg⟩
  have HG := Hd hg
  clear hg
  go_wp2
  go_ret
  exact ⟨rfl, ((grew_alloc _ _).trans HG.out).below⟩
 ·obtain ⟨_, g, off, rfl, hg, hc⟩ := h.at h0
  have hB : Below w.heap.size w (w.alloc (.cells #[.int .i64 x1, .int .i64 x2, .int .i64 x3] 49)) := (Below.refl _ _).alloc (Nat.le_refl _) _
  have hcon := AnyQ.slices_Contains Tryz.containsIds 3 Tryz.isAgg49 Tryz.sizeOf49 idE (fun _ => rfl) (fun x y => decide (x = y)) eqIds g off l.length c l (x1, x2, x3) (w.alloc (.cells #[.int .i64 x1, .int .i64 x2, .int .i64 x3] 49)) (Nat.le_refl _) (by omega)
   (fun j hj i v hv => (hB.cell (p := ⟨g, off + j * 3 + i, none⟩) hg).trans (hc j hj i v (by
    have e : l.getD j IK.d = l[j]! := by rw [getElem!_pos l j hj]; simp [List.getD, hj]
    rw [e]
    exact hv)))
  change Calls Tryz.prog 70 _ _ _ at hcon
  rw [List.take_length] at hcon
  have e : (l.any fun y => decide ((x1, x2, x3) = y)) = hasI l (x1, x2, x3) := by unfold hasI; congr 1; funext y; rw [decide_eq_decide]; exact eq_comm
  rw [e] at hcon
  obtain ⟨R, hR⟩ : ∃ R, hasI l (x1, x2, x3) = R := ⟨_, rfl⟩
  rw [hR] at hcon ⊢
  obtain ⟨N, hN⟩ : ∃ N, l.length = N := ⟨_, rfl⟩
  rw [hN] at hcon ⊢
  have HCON := Hd hcon
  have HB := Hd hB
  clear hcon hB hc hR e h hN hn
  go_enter Tryz.func44, Tryz.ntmps44
  go_wp2_with fail
  refine HCON.out.mono ?_
  rintro e w1 ⟨rfl, hg⟩
  have HG := Hd hg
  clear hg
  go_wp2
  go_ret
  exact ⟨rfl, HB.out.trans (HG.out.mono (by simp))⟩
end Go.Proofs.YtnancdbkmompdaaGreat
