/-
  Texts put together: RowS, Ids4, Ids5, Ids6, Ids7, Ids8, Ids9.
-/
import Derived.Test.YtchhcaoondfpiaaGreatRow
import Derived.Shelf.SlSortCmp.NoneTotal
import Derived.Sort.OwnSorted
import Derived.Test.YtchhcaoondfpiaaGreatAcIa
import Derived.Shelf.Lay
import Derived.Ground.SlsfProg
import Derived.Shelf.SlicesQ.Contains
import Derived.Laws.StructEq
import Derived.Ground.SlgqProg
import Derived.Deep.QuietTactic
import Derived.BigQuiet
import Derived.Deep.RegionHeld3
namespace Go.Proofs.YtchhcaoondfpiaaGreat
open Go.RowKit Go.Sort
set_option linter.unusedSimpArgs false
set_option linter.unusedVariables false

theorem heap_sortedK {w : World} {g n : Nat} {os : Array Obj} {cur : Array Value} {e : TypeId} {fr : Nat × Nat} (F : Array Value) (hb : w.heap[g]? = some (.cells cur e fr)) :
    (grow (putRow id (Sort.ahead w n) g 0 F) os).heap[g]? = some (.cells (putCells id 0 F cur) e fr) := by
  have hg : g < w.heap.size := (Array.getElem?_eq_some_iff.1 hb).1
  rw [heap_grow_old _ _ (by simpa using hg)]
  simp [putRow, mapBlock, Sort.ahead, Array.getElem?_modify, hb, onCells]
theorem grownBy_sortedK {w : World} {g n : Nat} {os : Array Obj} (F : Array Value) : w.grownBy (grow (putRow id (Sort.ahead w n) g 0 F) os) (some g) := by
  refine ⟨rfl, rfl, rfl, by simp, fun k hk hne => ?_⟩
  rw [heap_grow_old _ _ (by simpa using hk)]
  have : g ≠ k := fun e => hne (by rw [e])
  simp [putRow, mapBlock, Sort.ahead, Array.getElem?_modify, this]
theorem take_putCellsK (cur F : Array Value) (h : F.size ≤ cur.size) : (putCells id 0 F cur).toList.take F.size = F.toList := by
  apply List.ext_getElem?
  intro j
  by_cases hj : j < F.size
  · rw [List.getElem?_take_of_lt hj, Array.getElem?_toList]
    simp [putCells, hj, show j < cur.size by omega]
  · rw [List.getElem?_take_eq_none (by omega), List.getElem?_eq_none (by simp; omega)]
section
variable {P : Program} {α : Type} [Inhabited α] (K : Knd P α)
theorem Knd.flat (l : List α) : (flatK K.enc K.k l.toArray).toList = K.row l := by
  apply List.ext_getElem?
  intro t
  by_cases ht : t < l.length * K.k
  · have hp := K.pos
    have h1 : t / K.k < l.length := by rw [Nat.div_lt_iff_lt_mul hp]; exact ht
    have h2 : t % K.k < K.k := Nat.mod_lt _ hp
    rw [K.row_flat l t (by rw [K.row_len]; exact ht), Array.getElem?_toList]
    have e1 : l.getD (t / K.k) K.d = l[t / K.k] := by simp [List.getD, h1]
    have hl : t % K.k < (K.enc l[t / K.k]).length := by rw [K.len]; exact h2
    rw [e1, List.getElem?_eq_getElem hl]
    simp [flatK, ht, h1, hl]
  · rw [List.getElem?_eq_none (by simp [flatK]; omega), List.getElem?_eq_none (by rw [K.row_len]; omega)]
theorem Knd.flat_size (l : List α) : (flatK K.enc K.k l.toArray).size = l.length * K.k := by simp
variable {K}
theorem Knd.Own.holds {w : World} {base g n c : Nat} {l : List α} (h : K.Own w base (.slice (some ⟨g, 0, none⟩) n c) l) : HoldsK K.enc K.k w g 0 l.toArray ∧ g < w.heap.size ∧ n = l.length := by
  rcases h.2 with ⟨h0, _⟩ | ⟨g', cap, cur, hv, hg, hh, hn, hm, hs, hx⟩
  · cases h0
  · simp only [Value.slice.injEq, Option.some.injEq, Addr.mk.injEq, and_true, true_and] at hv
    obtain ⟨rfl, rfl, rfl⟩ := hv
    refine ⟨?_, (Array.getElem?_eq_some_iff.1 hh).1, rfl⟩
    intro j hj
    rw [K.flat_size] at hj
    refine ⟨?_, by simp [World.frozen?, hh]⟩
    have hjs : j < (flatK K.enc K.k l.toArray).size := by rw [K.flat_size]; exact hj
    have e1 : cur[j]? = (flatK K.enc K.k l.toArray)[j]? := by
      have h1 : (cur.toList.take (l.length * K.k))[j]? = (K.row l)[j]? := by rw [hx]
      rw [List.getElem?_take, if_pos (by omega)] at h1
      rw [← Array.getElem?_toList, h1, ← K.flat, Array.getElem?_toList]
    have e2 : (flatK K.enc K.k l.toArray)[j]? = some ((flatK K.enc K.k l.toArray)[j]!) := by
      rw [getElem!_pos _ j hjs]; exact Array.getElem?_eq_getElem hjs
    simp [World.cell?, hh, e1, e2]
/-- Behind the sort the same slice owns the sorted list. -/
theorem Knd.Own.sorted {w : World} {base g n c : Nat} {l k : List α} (h : K.Own w base (.slice (some ⟨g, 0, none⟩) n c) l) (hl : k.length = l.length) (m : Nat) (os : Array Obj) :
    K.Own (sortWorldK K.enc K.k w g 0 m k.toArray os) base (.slice (some ⟨g, 0, none⟩) n c) k ∧ w.grownBy (sortWorldK K.enc K.k w g 0 m k.toArray os) (some g) := by
  refine ⟨?_, grownBy_sortedK _⟩
  rcases h.2 with ⟨h0, _⟩ | ⟨g', cap, cur, hv, hg, hh, hn, hm, hs, hx⟩
  · cases h0
  · simp only [Value.slice.injEq, Option.some.injEq, Addr.mk.injEq, and_true, true_and] at hv
    obtain ⟨rfl, rfl, rfl⟩ := hv
    refine ⟨K.row_len k, .inr ⟨g, c, _, by rw [hl], hg, heap_sortedK _ hh, by rw [hl]; exact hn, hm, by simp [putCells, hs], ?_⟩⟩
    have hle : l.length * K.k ≤ c * K.k := Nat.mul_le_mul_right _ hn
    have := take_putCellsK cur (flatK K.enc K.k k.toArray) (by rw [K.flat_size, hs, hl]; exact hle)
    rw [K.flat_size, K.flat] at this
    exact this
end
end Go.Proofs.YtchhcaoondfpiaaGreat
namespace Go.Proofs.YtchhcaoondfpiaaGreat
open Go.RowKit Go.Sort Go.Shelf
set_option linter.unusedSimpArgs false
set_option linter.unusedVariables false

def SetQ (l : List I3) (w : World) (e : Ending) (w' : World) : Prop := ∃ b, w.heap.size ≤ b ∧ e = .returned (.map (some b)) ∧ SetAt w' b l ∧ Below w.heap.size w w'
theorem SetAt.kept {w w' : World} {b : Nat} {l : List I3} {row : Option Nat} (h : SetAt w b l) (hg : w.grownBy w' row) (hne : some b ≠ row) : SetAt w' b l := by
  obtain ⟨D, m, hm, ho, hs⟩ := h
  exact ⟨D, m, hm, ho.kept hg hne, hs⟩
theorem SetAt.below {w w' : World} {b : Nat} {l : List I3} (h : SetAt w b l) (hb : Below w.heap.size w w') : SetAt w' b l :=
  h.kept (row := none) ⟨hb.os, hb.tape, hb.output, hb.size, fun k hk _ => hb.block k hk⟩ (by simp)
theorem SetAt.lt {w : World} {b : Nat} {l : List I3} (h : SetAt w b l) : b < w.heap.size := by
  obtain ⟨D, m, hm, ho, hs⟩ := h
  exact ho.lt
theorem filter_take (a b : List I3) (j : Nat) (X : I3) (hX : b.take j ++ [X] = b.take (j + 1)) : (a.filter fun x => !hasI (b.take j) x).filter (fun y => decide (y ≠ X)) = a.filter fun x => !hasI (b.take (j + 1)) x := by
  rw [List.filter_filter, ← hX]
  congr 1
  funext x
  rw [hasI_app]
  have : hasI [X] x = decide (x = X) := by unfold hasI; simp [eq_comm]
  rw [this]
  by_cases e : x = X <;> simp [e]
end Go.Proofs.YtchhcaoondfpiaaGreat
namespace Go.Proofs.YtchhcaoondfpiaaGreat
open Go.RowKit Go.Sort Go.Shelf
set_option linter.unusedSimpArgs false
set_option linter.unusedVariables false

shelf_lay_g SlLaysF0.n6 Slsf 6 at Tryz 90 as Tryz.sortIds
theorem ordI_lt (a b : I3) : ltOf ordI a b = ltI a b := by
  unfold ltOf ordI
  cases h1 : ltI a b
  · cases h2 : ltI b a <;> simp
  · simp
theorem ltI_swo : SWO (ltOf ordI) where
  irrefl x := by rw [ordI_lt]; exact ltI_irrefl x
  trans x y z h k := by rw [ordI_lt] at *; exact ltI_trans h k
  ntrans x y z h k := by
    rw [ordI_lt] at *
    rw [Bool.eq_false_iff, ne_eq, ltI_iff] at *
    omega
theorem cmpIds (blk off size : Nat) (w : World) : CmpLays Tryz.prog 91 #[] idE 3 ordI blk off size w :=
  fun _ _ _ _ x y => order_any x.1 x.2.1 x.2.2 y.1 y.2.1 y.2.2 _
/-- What was met so far. -/
structure Met (l : List I3) (left : Lit → Bool) (ss : List I3) : Prop where
  nodup : ss.Nodup
  ok : okL ss
  sub : ∀ x ∈ ss, x ∈ l
  left : ∀ x, okI x → left (kf x) = (hasI l x && !hasI ss x)
theorem Met.start {D : DataW Unit} {l : List I3} (h : SetIs D l) : Met l (Maps.has D) [] :=
  ⟨List.nodup_nil, (fun x h => by cases h), (fun x h => by cases h), (fun x hx => by rw [h.has x hx]; simp [hasI])⟩
theorem Met.step {l : List I3} {left : Lit → Bool} {ss : List I3} (h : Met l left ss) {x : I3} (hx : okI x) (hl : left (kf x) = true) : Met l (fun z => left z && !z.sameKey (kf x)) (ss ++ [x]) := by
  have h1 := h.left x hx
  rw [hl] at h1
  have h2 : hasI l x = true ∧ (!hasI ss x) = true := by simpa using h1.symm
  have hin : x ∈ l := (hasI_iff _ _).1 h2.1
  have hni : x ∉ ss := (hasI_false _ _).1 (by simpa using h2.2)
  refine ⟨?_, ?_, ?_, fun y hy => ?_⟩
  · rw [List.nodup_append]
    exact ⟨h.nodup, by simp, fun a ha b hb => by simp at hb; subst hb; exact fun e => hni (e ▸ ha)⟩
  · intro y hy
    rcases List.mem_append.1 hy with q | q
    · exact h.ok y q
    · simp at q; subst q; exact hx
  · intro y hy
    rcases List.mem_append.1 hy with q | q
    · exact h.sub y q
    · simp at q; subst q; exact hin
  · show (left (kf y) && !(kf y).sameKey (kf x)) = _
    rw [h.left y hy, kf_same_iff hy hx, hasI_app]
    have : hasI [x] y = decide (y = x) := by unfold hasI; simp [eq_comm]
    rw [this]
    cases hasI l y <;> cases hasI ss y <;> cases decide (y = x) <;> rfl
theorem Met.done {l : List I3} {left : Lit → Bool} {ss : List I3} (h : Met l left ss) (hl : ∀ kl, left kl = false) (ho : okL l) : ∀ x, x ∈ ss ↔ x ∈ l := by
  intro x
  refine ⟨h.sub x, fun hx => ?_⟩
  have h1 := h.left x (ho x hx)
  rw [hl, (hasI_iff _ _).2 hx] at h1
  exact (hasI_iff _ _).1 (by simpa using h1)
theorem sorted_cln {l ss : List I3} (hn : ss.Nodup) (hm : ∀ x, x ∈ ss ↔ x ∈ l) : (ss.mergeSort fun x y => !(ltOf ordI) y x) = clnI l := by
  have e : (fun x y : I3 => !(ltOf ordI) y x) = fun x y => !ltI y x := by funext x y; rw [ordI_lt]
  rw [e]
  have hp := List.mergeSort_perm ss (fun x y => !ltI y x)
  symm
  refine clnI_eq ?_ fun x => hp.mem_iff.trans (hm x)
  have h1 := List.pairwise_mergeSort (le := fun x y : I3 => !ltI y x) (fun a b c h k => by
      simp only [Bool.not_eq_true', Bool.eq_false_iff, ne_eq, ltI_iff] at *
      omega) (fun a b => by
      cases q : ltI b a
      · simp
      · simp [ltI_asymm q]) ss
  have h2 : (ss.mergeSort fun x y => !ltI y x).Nodup := hp.nodup_iff.2 hn
  exact (List.Pairwise.and h1 h2).imp (fun {a b} q => by
    have q1 : ltI b a = false := by simpa using q.1
    cases k : ltI a b
    · exact absurd (ltI_total k q1) q.2
    · rfl)
def RowP (l : List I3) (w : World) (e : Ending) (w' : World) : Prop := ∃ v, Hid (e = .returned v) ∧ IK.Own w' w.heap.size v l ∧ Below w.heap.size w w'
set_option maxRecDepth 100000 in
set_option maxHeartbeats 4000000 in
theorem risen_any (B : Nat) (l : List I3) (w : World) (hs : SetAt w B l) (ol : okL l) :
    Calls Tryz.prog 75 #[.map (some B)] w (RowP (clnI l) w) := by
  obtain ⟨D, m, hm, hM, hD⟩ := hs
  have HM := Lib.hid hM
  have HD := Lib.hid hD
  have HOL := Lib.hid ol
  have HBL := Lib.hid hM.lt
  have hsz : Maps.size D ≤ 5000 := Nat.le_trans hM.size_le hm
  obtain ⟨C, hC⟩ : ∃ C, Maps.size D = C := ⟨_, rfl⟩
  have HC := Lib.hid hC
  rw [hC] at hsz
  clear hM hD ol hC hm
  go_enter Tryz.func75, Tryz.ntmps75
  go_wp2_with (first
    | (at_len; refine wpList_len_own _ rfl _ 115 rfl 37 135 Tryz.underlying115 unitElem B m D rfl HM.out ?_; rw [HC.out])
    | refine IK.make rfl _ _ rfl rfl C rfl (by omega) w.heap.size (Nat.le_refl _) ?_)
  intro v1 w1 hO1 hb1 hne1 hg1
  have HO1 := Lib.hid hO1
  have HB1 := Lib.hid hb1
  have hM1 := HM.out.kept (row := none) hg1 (by simp)
  have HM1 := Lib.hid hM1
  have HNE1 := Lib.hid hne1
  clear hO1 hb1 hne1 hg1 hM1
  go_wp2_with (at_range; refine wpList_range_own _ rfl _ 115 rfl 37 135 idLaw Tryz.underlying115 unitElem B m D rfl HM1.out ?_)
  intro w2 hr2 hg2 hz2
  have HR2 : Hid (w2.ranges (H := Unit) Tryz.prog 37 unitElem B w1.heap.size m D (Maps.has D) C) := Lib.hid (by have h := hr2; rw [HC.out] at h; exact h)
  have hb2 : Below w1.heap.size w1 w2 := (Below.refl _ _).grown hg2 (Nat.le_refl _) (fun k e => by cases e)
  have HB2 : Hid (Below w.heap.size w w2) := Lib.hid (HB1.out.trans (hb2.mono HB1.out.size))
  have HO2 := Lib.hid (HO1.out.below hb2)
  have HZ : Hid (w.heap.size ≤ w1.heap.size) := Lib.hid HB1.out.size
  clear hr2 hg2 hz2 hb2 HM1 HB1 HO1
  go_wp2_with fail
  go_loopw [3] (fun sl wr => ∃ (v : Value) (left : Lit → Bool) (cnt : Nat) (ss : List I3), v = sl ∧ Hid (wr.ranges (H := Unit) Tryz.prog 37 unitElem B w1.heap.size m D left cnt) ∧ Hid (IK.Own wr w.heap.size v ss) ∧ Hid (v ≠ .slice none 0 0) ∧ Hid (Met l left ss) ∧ Hid (ss.length + cnt ≤ C) ∧ Hid (Below w.heap.size w wr)) (fun _ wr => wr.rangeLeft B w1.heap.size)
  case atStart => exact ⟨_, _, C, [], rfl, HR2, HO2, HNE1, Lib.hid (Met.start HD.out), Lib.hid (by simp), HB2⟩
  case round =>
    clear HR2 HB2 HO2 HNE1
    obtain ⟨v, left, cnt, ss, rfl, hR, hO, hNE, hMet, hcnt, hB⟩ := hrel
    go_wp2_with (at_next; refine wpList_next_ranges _ rfl _ rfl 37 idLaw unitElem idV (fun _ : Unit => Value.agg #[]) (fun key kl hk => by obtain ⟨x, hx, _⟩ := idKey_inv key kl hk; exact ⟨x, hx⟩) (fun v y hv => ⟨(), (unitElem_inv hv).1⟩) B w1.heap.size m _ _ _ rfl hR.out ?_ ?_)
    · intro hc0 hl0
      obtain ⟨ad, cc, hve⟩ := hO.out.slice
      have hO2 := hO.out
      rw [hve] at hO2
      have hnn := hNE.out
      obtain ⟨g, rfl⟩ : ∃ g, ad = some ⟨g, 0, none⟩ := by
        rcases hO2.2 with ⟨h0, _⟩ | ⟨g, cap, cur, h0, _⟩
        · exact absurd (hve.trans h0) hnn
        · simp only [Value.slice.injEq] at h0
          exact ⟨g, h0.1⟩
      obtain ⟨hH, hgl, _⟩ := hO2.holds
      have hmem := hMet.out.done hl0 HOL.out
      have hsr := sorted_cln hMet.out.nodup hmem
      have hlen : (clnI l).length = ss.length := by rw [← hsr]; simp
      have eg : ∀ args w, (callFunc 91 args).run Tryz.prog w = .ok (.enter 91 args) w := enters_of Tryz.func91 (by kernel_rfl) rfl
      have hcon := AnyQ.slices_SortFunc_total Tryz.sortIds 3 Tryz.isAgg37 Tryz.sizeOf37 idE (fun _ => rfl) (fun x v h => IK.one x v h) ordI ltI_swo 91 #[] g 0 cc ss.toArray wr eg (cmpIds g 0 _ wr) hH hgl (by have := hcnt.out; simp; omega) (fun x y h k => by rw [ordI_lt] at h k; exact ltI_total h k)
      rw [show ss.toArray.toList = ss from rfl, hsr] at hcon
      obtain ⟨M, hM⟩ : ∃ M, ss.length = M := ⟨_, rfl⟩
      change Calls Tryz.prog 90 #[.slice (some ⟨g, 0, none⟩) ss.length cc, .func (.func 91) #[] #[]] wr _ at hcon
      rw [hM] at hcon hve
      have HCON := Lib.hid hcon
      have HS : Hid (∀ mm os, IK.Own (sortWorldK idE 3 wr g 0 mm (clnI l).toArray os) w.heap.size (.slice (some ⟨g, 0, none⟩) M cc) (clnI l) ∧ wr.grownBy (sortWorldK idE 3 wr g 0 mm (clnI l).toArray os) (some g)) := Lib.hid (fun mm os => by
        rw [hM] at hO2
        exact hO2.sorted (by rw [hlen]) mm os)
      have HGB : Hid (w.heap.size ≤ g) := Lib.hid (hO2.from g (by simp [Value.ownBlock]))
      subst hve
      clear hcon hO2 hnn hH hgl hmem hsr hlen hM hO hR hMet hcnt hNE hl0 hc0 HM HD
      go_wp2_with (go_at_call 90; refine HCON.out.mono ?_; rintro e w' ⟨rfl, nn, os, rfl⟩)
      go_ret
      exact ⟨_, Lib.hid rfl, (HS.out nn os).1, hB.out.grown (HS.out nn os).2 hB.out.size (fun j hj => by cases hj; exact HGB.out)⟩
    · intro x1 x2 x3 kl yd yp w3 cnt3 hkey hlk hv hat hrg3 hlt hg3 hs3 hen
      have hxo : okI (x1, x2, x3) := by
        obtain ⟨x', ex, hxo⟩ := idKey_inv _ _ hkey
        simp only [Value.agg.injEq, Array.mk.injEq, List.cons.injEq, Value.int.injEq, true_and, and_true] at ex
        have e : ((x1, x2, x3) : I3) = x' := i3_ext ex.1 ex.2.1 ex.2.2
        rw [e]
        exact hxo
      obtain rfl : kl = kf (x1, x2, x3) := Option.some.inj (hkey.symm.trans (kf_key hxo))
      have hMet3 := Lib.hid (hMet.out.step hxo hlk)
      have hO3 : Hid (IK.Own w3 w.heap.size v ss) := Lib.hid (hO.out.keepB fun k hk => hg3.block k (hO.out.blk k hk).1 (by
        have := row_ne_iter hO.out hR.out
        rw [hk] at this
        exact fun e => this e.symm))
      have hB3 : Hid (Below w.heap.size w w3) := Lib.hid (hB.out.grown hg3 hB.out.size (fun j hj => by cases hj; exact HZ.out))
      have hR3 := Lib.hid hrg3
      have hLT : Hid (cnt3 < cnt) := Lib.hid hlt
      have hLE := Lib.hid hR.out.left_eq
      have hln : ss.length + 1 ≤ 1000000 := by have := hcnt.out; omega
      have hz3 : w.heap.size ≤ w3.heap.size := hB3.out.size
      have hnv := hNE
      clear hkey hlk hv hat hrg3 hlt hg3 hs3 hR hO hMet hB hNE
      go_wp2_with (refine IK.app rfl _ _ rfl w.heap.size v ss rfl ?own _ [(x1, x2, x3)] rfl ?rd hln ?bs ?_)
      case own => exact hO3.out.below (((Below.refl _ _).alloc (Nat.le_refl _) _).alloc (by simp) _)
      case rd => exact IK.rd_boxAt (x1, x2, x3) _ 1 _ _ (by simp)
      case bs => simp; omega
      intro v4 w4 ho4 hb4 hg4 hn4
      have hO4 := Lib.hid ho4
      have hr3 := (hR3.out.alloc (.cells #[.int .i64 x1, .int .i64 x2, .int .i64 x3] 37)).alloc (.cells #[.int .i64 x1, .int .i64 x2, .int .i64 x3] 37)
      have ho3' := hO3.out.below (((Below.refl _ _).alloc (Nat.le_refl _) (.cells #[.int .i64 x1, .int .i64 x2, .int .i64 x3] 37)).alloc (by simp) (.cells #[.int .i64 x1, .int .i64 x2, .int .i64 x3] 37))
      have hR4 := Lib.hid (hr3.kept hg4 (row_ne_low ho3' HBL.out) (row_ne_iter ho3' hr3))
      have hN4 : Hid (v4 ≠ .slice none 0 0) := Lib.hid hn4
      have hB4 : Hid (Below w.heap.size w w4) := Lib.hid (((hB3.out.alloc hz3 _).alloc (by simp; omega) _).trans hb4)
      have hC4 : Hid ((ss ++ [(x1, x2, x3)]).length + cnt3 ≤ C) := Lib.hid (by have := hcnt.out; have := hLT.out; simp; omega)
      clear ho4 hb4 hg4 hn4 hr3 ho3' hO3 hB3 hR3 hcnt hln hz3 hnv hxo
      go_wp2
      go_roundw
      case rel => exact ⟨v4, _, cnt3, _, rfl, hR4, hO4, hN4, hMet3, hC4, hB4⟩
      case measure => rw [hR4.out.left_eq, hLE.out]; exact hLT.out
end Go.Proofs.YtchhcaoondfpiaaGreat
namespace Go.Proofs.YtchhcaoondfpiaaGreat
open Go.RowKit Go.Sort Go.Shelf Go.Lib
set_option linter.unusedSimpArgs false
set_option linter.unusedVariables false

/-- One row laid in a row of rows. -/
theorem setOf_one (v : Value) (l : List I3) (w : World) (h : IK.Rd w v l) (ho : okL l) (hl : l.length ≤ 1000) :
    Calls Tryz.prog 76 #[.slice (some ⟨w.heap.size, 0, none⟩) 1 1] (w.alloc (.cells #[v] 44)) (SetP l (w.alloc (.cells #[v] 44))) := by
  have cS := setOf_any w.heap.size 1 1 [v] [l] (w.alloc (.cells #[v] 44)) rfl rfl (by omega) (by simp)
    (fun i hi => by obtain rfl : i = 0 := by omega
                    exact new_cell w #[v] 44 0)
    (fun i hi => by obtain rfl : i = 0 := by omega
                    exact h.below ((Below.refl _ _).alloc (Nat.le_refl _) _))
    (fun i hi => by obtain rfl : i = 0 := by omega
                    exact ho)
    (fun i hi => by obtain rfl : i = 0 := by omega
                    exact hl)
  simpa using cS
theorem setOf_two (v1 v2 : Value) (l1 l2 : List I3) (w : World) (h1 : IK.Rd w v1 l1) (o1 : okL l1) (n1 : l1.length ≤ 1000) (h2 : IK.Rd w v2 l2) (o2 : okL l2) (n2 : l2.length ≤ 1000) :
    Calls Tryz.prog 76 #[.slice (some ⟨w.heap.size, 0, none⟩) 2 2] (w.alloc (.cells #[v1, v2] 44)) (SetP (l1 ++ l2) (w.alloc (.cells #[v1, v2] 44))) := by
  have cS := setOf_any w.heap.size 2 2 [v1, v2] [l1, l2] (w.alloc (.cells #[v1, v2] 44)) rfl rfl (by omega) (by simp)
    (fun i hi => by
      obtain rfl | rfl : i = 0 ∨ i = 1 := by omega
      · exact new_cell w #[v1, v2] 44 0
      · exact new_cell w #[v1, v2] 44 1)
    (fun i hi => by
      obtain rfl | rfl : i = 0 ∨ i = 1 := by omega
      · exact h1.below ((Below.refl _ _).alloc (Nat.le_refl _) _)
      · exact h2.below ((Below.refl _ _).alloc (Nat.le_refl _) _))
    (fun i hi => by
      obtain rfl | rfl : i = 0 ∨ i = 1 := by omega
      · exact o1
      · exact o2)
    (fun i hi => by
      obtain rfl | rfl : i = 0 ∨ i = 1 := by omega
      · exact n1
      · exact n2)
  simpa using cS
theorem okL_app {a b : List I3} (h : okL a) (k : okL b) : okL (a ++ b) := fun x hx => by
  rcases List.mem_append.1 hx with q | q
  · exact h x q
  · exact k x q
theorem okL_cln {a : List I3} (h : okL a) : okL (clnI a) := fun x hx => h x ((mem_clnI a x).1 hx)
theorem okL_filter {a : List I3} (h : okL a) (p : I3 → Bool) : okL (a.filter p) := fun x hx => h x (List.mem_filter.1 hx).1
set_option maxRecDepth 100000 in
theorem clean_any (v : Value) (l : List I3) (w : World) (h : IK.Rd w v l) (ho : okL l) (hl : l.length ≤ 1000) :
    Calls Tryz.prog 50 #[v] w (RowP (clnI l) w) := by
  have HC := Lib.hid (setOf_one v l w h ho hl)
  obtain ⟨a, c, e⟩ := h.slice
  subst e
  have HO := Lib.hid ho
  clear h ho hl
  go_enter Tryz.func50, Tryz.ntmps50
  go_wp2_with fail
  refine HC.out.mono ?_
  rintro e w1 ⟨rfl, hs1, hb1⟩
  have hz1 := hb1.size
  simp only [World.size_alloc] at hs1 hb1 hz1
  have HR := Lib.hid (risen_any _ l w1 hs1 HO.out)
  have HB1 : Hid (Below w.heap.size w w1) := Lib.hid (((Below.refl w.heap.size w).alloc (Nat.le_refl _) _).trans (hb1.mono (by omega)))
  have HZ1 : Hid (w.heap.size ≤ w1.heap.size) := Lib.hid (by omega)
  simp only [World.size_alloc]
  clear hs1 hb1 hz1 HC
  go_wp2_with fail
  refine HR.out.mono ?_
  rintro e w2 ⟨v2, he, ho2, hb2⟩
  rw [he.out]
  have HO2 := Lib.hid (ho2.base HZ1.out)
  have HB2 := Lib.hid (HB1.out.trans (hb2.mono HZ1.out))
  clear ho2 hb2 he HR
  go_wp2
  go_ret
  exact ⟨_, Lib.hid rfl, HO2.out, HB2.out⟩
theorem wpList_len_g {H : Type} {P : Program} {ops : Array Oper} {rest : List Oper} {o : Oper} {a : Act} {w : World} {Q : Exit → Act → World → Prop} (hw : Region.wanted o (yielded ops a.tmps) = true) (m : Operand) (t : TypeId) (hop : o.op = Op.call { callee := Callee.builtin Builtin.len, args := #[m], argTypes := #[t] })
    (k e : TypeId) (ht : P.underlying t = some (.map k e)) (R : Value → Option (DataW H × List MemPlace)) (b n : Nat) (D : DataW H) (hm : a.eval m = .map (some b)) (hown : w.ownsMap P k R b n D)
    (hK : wpList P ops Q rest (a.put o.dst (.int .i64 (Maps.size D))) w) : wpList P ops Q (o :: rest) a w := by
  refine wpList_value hw _ w ?_ hK
  unfold execOp
  simp [hop, resolve, invoke, builtin, hm, hown.len ht o.type, Result.andThen]
theorem samI_len (a b : List I3) : samI a b = (decide ((a.filter fun x => !hasI b x) = []) && decide ((b.filter fun x => !hasI a x) = [])) := by
  unfold samI
  rw [Bool.eq_iff_iff]
  simp [List.filter_eq_nil_iff]
shelf_lay_g SlLaysQ.n7 Slgq 7 at Tryz 56 as Tryz.containsIds
theorem eqIds : EqlAt Tryz.prog 37 (fun x => .agg (idE x).toArray) (fun x y : I3 => decide (x = y)) := by
  refine ⟨fun x y w => ?_, GuardAt.agg _ (by kernel_rfl)⟩
  have u3 := Tryz.underlying3
  have a3 := Tryz.isAgg3
  have z3 := Tryz.sizeOf3
  have hS : Tryz.prog.underlying 37 = some (.struct (Tryz.prog.fieldsOf 37)) := by kernel_rfl
  have hp : Tryz.prog.stoodInHeld 37 = false := by kernel_rfl
  simp only [idE]
  rw [run_eql_struct, show (10000 : Nat) = 9999 + 1 from rfl, run_equalIn_agg w 9999 37 _ _ hS hp]
  simp only [Program.fieldsOf, Tryz.underlying37]
  go_simp
  by_cases h1 : x.1 = y.1 <;> by_cases h2 : x.2.1 = y.2.1 <;> by_cases h3 : x.2.2 = y.2.2 <;> simp [h1, h2, h3, Prod.ext_iff]
end Go.Proofs.YtchhcaoondfpiaaGreat
namespace Go.Proofs.YtchhcaoondfpiaaGreat
open Go.RowKit Go.Sort Go.Shelf Go.Lib
set_option linter.unusedSimpArgs false
set_option linter.unusedVariables false

/-- Two instances compared. -/
theorem eqI_run (a1 a2 a3 b1 b2 b3 : Int) : (∀ w, Sem.run Tryz.prog (binOp .eql 37 (.agg #[.int .i64 a1, .int .i64 a2, .int .i64 a3]) (.agg #[.int .i64 b1, .int .i64 b2, .int .i64 b3])) w = .ok (.bool (decide (((a1, a2, a3) : I3) = (b1, b2, b3)))) w) ∧
    (∀ op x y w, Sem.run Tryz.prog (eqGuard op 37 x y (.agg #[.int .i64 a1, .int .i64 a2, .int .i64 a3]) (.agg #[.int .i64 b1, .int .i64 b2, .int .i64 b3])) w = .ok () w) :=
  ⟨fun w => eqIds.1 (a1, a2, a3) (b1, b2, b3) w, fun op x y w => eqIds.2 op x y (a1, a2, a3) (b1, b2, b3) w⟩
theorem index_none (a : Option Addr) (c : Nat) (x1 x2 x3 : Int) (w : World) :
    Calls Tryz.prog 81 #[.slice a 0 c, .agg #[.int .i64 x1, .int .i64 x2, .int .i64 x3]] w fun e w' => e = .returned (.int .i64 (-1)) ∧ Grew w w' := by
  go_enter Tryz.func81, Tryz.ntmps81
  go_wp2
  refine wp_loop_rounds 1 ?_
  rw [rounds_succ]
  go_wp2
  go_ret
  exact ⟨rfl, grew_alloc _ _⟩
set_option maxRecDepth 100000 in
theorem has_any (v : Value) (l : List I3) (x1 x2 x3 : Int) (w : World) (h : IK.Rd w v l) (hn : l.length ≤ 1000) :
    Calls Tryz.prog 27 #[v, .agg #[.int .i64 x1, .int .i64 x2, .int .i64 x3]] w fun e w' => e = .returned (.bool (hasI l (x1, x2, x3))) ∧ Below w.heap.size w w' := by
  obtain ⟨a, c, e⟩ := h.slice
  subst e
  by_cases h0 : l = []
  · subst h0
    have hI := fun W => index_none a c x1 x2 x3 W
    have HI := Lib.hid hI
    clear h hI
    have hc : ∀ W : World, Calls Tryz.prog 56 #[.slice a 0 c, .agg #[.int .i64 x1, .int .i64 x2, .int .i64 x3]] W fun e w' => e = .returned (.bool false) ∧ Grew W w' := by
      intro W
      go_enter Tryz.func56, Tryz.ntmps56
      go_wp2_with fail
      refine (HI.out _).mono ?_
      rintro e w1 ⟨rfl, hg⟩
      have HG := Lib.hid hg
      clear hg
      go_wp2
      go_ret
      exact ⟨rfl, (grew_alloc _ _).trans HG.out⟩
    have HC := Lib.hid hc
    clear hc HI
    show Calls Tryz.prog _ #[.slice a 0 c, _] w _
    go_enter Tryz.func27, Tryz.ntmps27
    go_wp2_with fail
    refine (HC.out _).mono ?_
    rintro e w1 ⟨rfl, hg⟩
    have HG := Lib.hid hg
    clear hg
    go_wp2
    go_ret
    exact ⟨rfl, ((grew_alloc _ _).trans HG.out).below⟩
  · obtain ⟨_, g, off, rfl, hg, hc⟩ := h.at h0
    have hB : Below w.heap.size w (w.alloc (.cells #[.int .i64 x1, .int .i64 x2, .int .i64 x3] 37)) := (Below.refl _ _).alloc (Nat.le_refl _) _
    have hcon := AnyQ.slices_Contains Tryz.containsIds 3 Tryz.isAgg37 Tryz.sizeOf37 idE (fun _ => rfl) (fun x y => decide (x = y)) eqIds g off l.length c l (x1, x2, x3) (w.alloc (.cells #[.int .i64 x1, .int .i64 x2, .int .i64 x3] 37)) (Nat.le_refl _) (by omega)
      (fun j hj i v hv => (hB.cell (p := ⟨g, off + j * 3 + i, none⟩) hg).trans (hc j hj i v (by
        have e : l.getD j IK.d = l[j]! := by rw [getElem!_pos l j hj]; simp [List.getD, hj]
        rw [e]
        exact hv)))
    change Calls Tryz.prog 56 _ _ _ at hcon
    rw [List.take_length] at hcon
    have e : (l.any fun y => decide ((x1, x2, x3) = y)) = hasI l (x1, x2, x3) := by unfold hasI; congr 1; funext y; rw [decide_eq_decide]; exact eq_comm
    rw [e] at hcon
    obtain ⟨R, hR⟩ : ∃ R, hasI l (x1, x2, x3) = R := ⟨_, rfl⟩
    rw [hR] at hcon ⊢
    obtain ⟨N, hN⟩ : ∃ N, l.length = N := ⟨_, rfl⟩
    rw [hN] at hcon ⊢
    have HCON := Lib.hid hcon
    have HB := Lib.hid hB
    clear hcon hB hc hR e h hN hn
    go_enter Tryz.func27, Tryz.ntmps27
    go_wp2_with fail
    refine HCON.out.mono ?_
    rintro e w1 ⟨rfl, hg⟩
    have HG := Lib.hid hg
    clear hg
    go_wp2
    go_ret
    exact ⟨rfl, HB.out.trans (HG.out.mono (by simp))⟩
end Go.Proofs.YtchhcaoondfpiaaGreat
namespace Go.Proofs.YtchhcaoondfpiaaGreat
open Go.RowKit Go.Sort Go.Shelf Go.Lib
set_option linter.unusedSimpArgs false
set_option linter.unusedVariables false

/-- Two instances held apart. -/
theorem neI_run (a1 a2 a3 b1 b2 b3 : Int) : (∀ w, Sem.run Tryz.prog (binOp .neq 37 (.agg #[.int .i64 a1, .int .i64 a2, .int .i64 a3]) (.agg #[.int .i64 b1, .int .i64 b2, .int .i64 b3])) w = .ok (.bool (!decide (((a1, a2, a3) : I3) = (b1, b2, b3)))) w) ∧
    (∀ op x y w, Sem.run Tryz.prog (eqGuard op 37 x y (.agg #[.int .i64 a1, .int .i64 a2, .int .i64 a3]) (.agg #[.int .i64 b1, .int .i64 b2, .int .i64 b3])) w = .ok () w) := by
  refine ⟨fun w => ?_, (eqI_run a1 a2 a3 b1 b2 b3).2⟩
  have h := (eqI_run a1 a2 a3 b1 b2 b3).1 w
  rw [run_eql_struct] at h
  rw [run_neq_struct]
  revert h
  generalize Sem.run Tryz.prog (Op.equalIn 10000 37 (.agg #[.int .i64 a1, .int .i64 a2, .int .i64 a3]) (.agg #[.int .i64 b1, .int .i64 b2, .int .i64 b3])) w = r
  intro h
  cases r with
  | ok v w' => simp [Result.andThen] at h ⊢; simp [h]
  | halt x w' => simp [Result.andThen] at h
theorem getD_mem {l : List I3} {k : Nat} {X : I3} (hX : l.getD k (0, 0, 0) = X) (hk : k < l.length) : X ∈ l := by
  rw [← hX]; simp [List.getD, hk]
set_option maxRecDepth 100000 in
set_option maxHeartbeats 1000000 in
theorem rhas_any (v : Value) (l : List I3) (x1 x2 x3 : Int) (w : World) (h : IK.Rd w v l) (hn : l.length ≤ 10000) :
    Calls Tryz.prog 92 #[v, .agg #[.int .i64 x1, .int .i64 x2, .int .i64 x3]] w fun e w' => e = .returned (.bool (hasI l (x1, x2, x3))) ∧ Below w.heap.size w w' := by
  obtain ⟨a, c, e⟩ := h.slice
  subst e
  obtain ⟨N, hN⟩ : ∃ N, l.length = N := ⟨_, rfl⟩
  obtain ⟨R, hR⟩ : ∃ R, hasI l (x1, x2, x3) = R := ⟨_, rfl⟩
  rw [hN] at h hn ⊢
  rw [hR]
  have HN := Lib.hid hN
  have HR := Lib.hid hR
  have HRD := Lib.hid h
  have hbx : Below w.heap.size w (w.alloc (.cells #[.int .i64 x1, .int .i64 x2, .int .i64 x3] 37)) := (Below.refl _ _).alloc (Nat.le_refl _) _
  have hxc : ∀ j, (w.alloc (.cells #[.int .i64 x1, .int .i64 x2, .int .i64 x3] 37)).cell? ⟨w.heap.size, j, none⟩ = _ := fun j => new_cell w _ 37 j
  have HXC := Lib.hid hxc
  have HBX := Lib.hid hbx
  clear hN hR h hbx hxc
  go_enter Tryz.func92, Tryz.ntmps92
  go_wp2_with fail
  obtain ⟨W0, hW0⟩ : ∃ W0, w.alloc (.cells #[.int .i64 x1, .int .i64 x2, .int .i64 x3] 37) = W0 := ⟨_, rfl⟩
  rw [hW0] at HXC HBX ⊢
  have HZ0 : Hid (W0.heap.size = w.heap.size + 1) := Lib.hid (by rw [← hW0]; simp)
  clear hW0
  go_loopw [5] (fun i wr => ∃ k : Nat, k ≤ N ∧ i = .int .i64 k ∧ Hid (Below W0.heap.size W0 wr) ∧ Hid (∀ j, j < k → l.getD j (0, 0, 0) ≠ (x1, x2, x3))) (fun i _ => N - (intOf i).toNat)
  case atStart => exact ⟨0, Nat.zero_le _, rfl, Lib.hid (Below.refl _ _), Lib.hid (fun j hj => by omega)⟩
  case round =>
    obtain ⟨k, hk, rfl, hB, hF⟩ := hrel
    by_cases hlt : k < N
    · have hlt' : (k : Int) < (N : Int) := by omega
      have hkb : (k : Int) ≤ 10000 := by omega
      have hBw : Below w.heap.size w wr := HBX.out.trans (hB.out.mono (by rw [HZ0.out]; omega))
      obtain ⟨e0, g2, off2, hda, hg2, q1, q2, q3, hjl⟩ := idCell (HRD.out.below hBw) k hlt
      obtain ⟨⟨y1, y2, y3⟩, hX⟩ : ∃ X, l.getD k (0, 0, 0) = X := ⟨_, rfl⟩
      rw [hX] at q1 q2 q3
      have HX := Lib.hid hX
      have HXM := Lib.hid (getD_mem hX hjl)
      have hzr : w.heap.size < W0.heap.size := by rw [HZ0.out]; omega
      have p1 : wr.cell? ⟨w.heap.size, 0, none⟩ = some (.int .i64 x1) := (hB.out.cell (p := ⟨w.heap.size, 0, none⟩) hzr).trans (HXC.out 0)
      have p2 : wr.cell? ⟨w.heap.size, 1, none⟩ = some (.int .i64 x2) := (hB.out.cell (p := ⟨w.heap.size, 1, none⟩) hzr).trans (HXC.out 1)
      have p3 : wr.cell? ⟨w.heap.size, 2, none⟩ = some (.int .i64 x3) := (hB.out.cell (p := ⟨w.heap.size, 2, none⟩) hzr).trans (HXC.out 2)
      obtain ⟨he, hgd⟩ := eqI_run y1 y2 y3 x1 x2 x3
      subst hda
      have HBW := Lib.hid hBw
      cases hb : decide (((y1, y2, y3) : I3) = (x1, x2, x3)) with
      | true =>
        rw [hb] at he
        have HE := Lib.hid (of_decide_eq_true hb)
        clear hX hjl e0 hBw hzr hb
        go_wp2_with fail
        go_quiet (fail)
        go_wp2
        go_ret
        refine ⟨ret_bool ?_, below_drewN_q HBW.out _⟩
        rw [← HR.out]
        exact ((hasI_iff _ _).2 (by rw [← HE.out]; exact HXM.out)).symm
      | false =>
        rw [hb] at he
        have HF2 : Hid (∀ j, j < k + 1 → l.getD j (0, 0, 0) ≠ (x1, x2, x3)) := Lib.hid (fun j hj => by
          by_cases e : j = k
          · subst e; rw [HX.out]; exact of_decide_eq_false hb
          · exact hF.out j (by omega))
        clear hX hjl e0 hBw hzr hb
        go_wp2_with fail
        go_quiet (fail)
        go_wp2
        go_roundw
        case rel => exact ⟨k + 1, by omega, by go_num, Lib.hid (below_drewN_q hB.out _), HF2⟩
        case measure => simp [intOf]; omega
    · obtain rfl : k = N := by omega
      have hBw : Below w.heap.size w wr := HBX.out.trans (hB.out.mono (by rw [HZ0.out]; omega))
      have HBW := Lib.hid hBw
      clear hBw
      go_wp2
      go_ret
      refine ⟨ret_bool ?_, HBW.out⟩
      rw [← HR.out]
      symm
      rw [hasI_false]
      intro hm
      obtain ⟨j, hj, e⟩ := List.getElem_of_mem hm
      exact hF.out j (by rw [← HN.out]; exact hj) (by simp [List.getD, hj, e])
set_option maxRecDepth 100000 in
set_option maxHeartbeats 1000000 in
theorem row_any (va vb : Value) (a b : List I3) (w : World) (ha : IK.Rd w va a) (hb : IK.Rd w vb b) (na : a.length ≤ 10000) (nb : b.length ≤ 10000) :
    Calls Tryz.prog 31 #[va, vb] w fun e w' => e = .returned (.bool (decide (a = b))) ∧ Below w.heap.size w w' := by
  obtain ⟨aa, ca, e⟩ := ha.slice
  subst e
  obtain ⟨ab, cb, e⟩ := hb.slice
  subst e
  obtain ⟨N, hN⟩ : ∃ N, a.length = N := ⟨_, rfl⟩
  obtain ⟨M, hM⟩ : ∃ M, b.length = M := ⟨_, rfl⟩
  obtain ⟨R, hR⟩ : ∃ R, decide (a = b) = R := ⟨_, rfl⟩
  rw [hN] at ha na ⊢
  rw [hM] at hb nb ⊢
  rw [hR]
  have HN := Lib.hid hN
  have HM := Lib.hid hM
  have HR := Lib.hid hR
  have HA := Lib.hid ha
  have HB := Lib.hid hb
  clear hN hM hR ha hb
  by_cases hne : N = M
  · subst hne
    go_enter Tryz.func31, Tryz.ntmps31
    go_wp2_with fail
    go_loopw [5] (fun i wr => ∃ k : Nat, k ≤ N ∧ i = .int .i64 k ∧ Hid (Below w.heap.size w wr) ∧ Hid (∀ j, j < k → a.getD j (0, 0, 0) = b.getD j (0, 0, 0))) (fun i _ => N - (intOf i).toNat)
    case atStart => exact ⟨0, Nat.zero_le _, rfl, Lib.hid (Below.refl _ _), Lib.hid (fun j hj => by omega)⟩
    case round =>
      obtain ⟨k, hk, rfl, hBl, hF⟩ := hrel
      by_cases hlt : k < N
      · have hlt' : (k : Int) < (N : Int) := by omega
        have hkb : (k : Int) ≤ 10000 := by omega
        obtain ⟨e0, g2, off2, hda, hg2, q1, q2, q3, hjl⟩ := idCell (HA.out.below hBl.out) k hlt
        obtain ⟨e1, g3, off3, hdb, hg3, p1, p2, p3, hjm⟩ := idCell (HB.out.below hBl.out) k hlt
        obtain ⟨⟨y1, y2, y3⟩, hX⟩ : ∃ X, a.getD k (0, 0, 0) = X := ⟨_, rfl⟩
        obtain ⟨⟨x1, x2, x3⟩, hY⟩ : ∃ X, b.getD k (0, 0, 0) = X := ⟨_, rfl⟩
        rw [hX] at q1 q2 q3
        rw [hY] at p1 p2 p3
        have HX := Lib.hid hX
        have HY := Lib.hid hY
        have HJL := Lib.hid hjl
        have HJM := Lib.hid hjm
        obtain ⟨he, hgd⟩ := neI_run y1 y2 y3 x1 x2 x3
        subst hda
        subst hdb
        cases hb : decide (((y1, y2, y3) : I3) = (x1, x2, x3)) with
        | true =>
          rw [hb] at he
          have HF2 : Hid (∀ j, j < k + 1 → a.getD j (0, 0, 0) = b.getD j (0, 0, 0)) := Lib.hid (fun j hj => by
            by_cases e : j = k
            · subst e; rw [HX.out, HY.out]; exact of_decide_eq_true hb
            · exact hF.out j (by omega))
          clear hX hY hjl hjm e0 e1 hb
          go_wp2_with fail
          go_quiet (fail)
          go_wp2
          go_roundw
          case rel => exact ⟨k + 1, by omega, by go_num, Lib.hid (below_drewN_q hBl.out _), HF2⟩
          case measure => simp [intOf]; omega
        | false =>
          rw [hb] at he
          have HE := Lib.hid (of_decide_eq_false hb)
          clear hX hY hjl hjm e0 e1 hb
          go_wp2_with fail
          go_quiet (fail)
          go_wp2
          go_ret
          refine ⟨ret_bool ?_, below_drewN_q hBl.out _⟩
          rw [← HR.out]
          symm
          rw [decide_eq_false_iff_not]
          intro e
          exact HE.out (by rw [← HX.out, ← HY.out, e])
      · obtain rfl : k = N := by omega
        go_wp2
        go_ret
        refine ⟨ret_bool ?_, hBl.out⟩
        rw [← HR.out]
        symm
        rw [decide_eq_true_iff]
        refine List.ext_getElem (by rw [HN.out, HM.out]) fun j h1 h2 => ?_
        have := hF.out j (by rw [← HN.out]; exact h1)
        simpa [List.getD, h1, h2] using this
  · have hneI : ¬ (N : Int) = (M : Int) := by omega
    go_enter Tryz.func31, Tryz.ntmps31
    go_wp2
    go_ret
    refine ⟨ret_bool ?_, Below.refl _ _⟩
    rw [← HR.out]
    first
      | (symm; rw [decide_eq_false_iff_not]; intro e; exact hne (by rw [← HN.out, ← HM.out, e]))
      | (have : decide (a = b) = false := by rw [decide_eq_false_iff_not]; intro e; exact hne (by rw [← HN.out, ← HM.out, e])
         rw [this]; simp; omega)
      | fail
end Go.Proofs.YtchhcaoondfpiaaGreat
namespace Go.Proofs.YtchhcaoondfpiaaGreat
open Go.RowKit Go.Sort Go.Shelf Go.Lib
set_option linter.unusedSimpArgs false
set_option linter.unusedVariables false

/-- Six cells that stay. -/
theorem keep6 {wr w' : World} {b1 b2 o1 o2 : Nat} {x1 x2 x3 y1 y2 y3 : Value} (hb1 : b1 < wr.heap.size) (hb2 : b2 < wr.heap.size) (d1 : wr.cell? ⟨b1, o1, none⟩ = some x1) (d2 : wr.cell? ⟨b1, o1 + 1, none⟩ = some x2) (d3 : wr.cell? ⟨b1, o1 + 2, none⟩ = some x3)
    (c1 : wr.cell? ⟨b2, o2, none⟩ = some y1) (c2 : wr.cell? ⟨b2, o2 + 1, none⟩ = some y2) (c3 : wr.cell? ⟨b2, o2 + 2, none⟩ = some y3) (hB : Below wr.heap.size wr w') :
    w'.cell? ⟨b1, o1, none⟩ = some x1 ∧ w'.cell? ⟨b1, o1 + 1, none⟩ = some x2 ∧ w'.cell? ⟨b1, o1 + 2, none⟩ = some x3 ∧ w'.cell? ⟨b2, o2, none⟩ = some y1 ∧ w'.cell? ⟨b2, o2 + 1, none⟩ = some y2 ∧ w'.cell? ⟨b2, o2 + 2, none⟩ = some y3 ∧ Below wr.heap.size wr w' :=
  ⟨(hB.cell (p := ⟨b1, o1, none⟩) hb1).trans d1, (hB.cell (p := ⟨b1, o1 + 1, none⟩) hb1).trans d2, (hB.cell (p := ⟨b1, o1 + 2, none⟩) hb1).trans d3, (hB.cell (p := ⟨b2, o2, none⟩) hb2).trans c1, (hB.cell (p := ⟨b2, o2 + 1, none⟩) hb2).trans c2, (hB.cell (p := ⟨b2, o2 + 2, none⟩) hb2).trans c3, hB⟩
set_option maxRecDepth 100000 in
set_option maxHeartbeats 2000000 in
theorem rright_any (v : Value) (l : List I3) (w : World) (h : IK.Rd w v l) (hn : l.length ≤ 10000) :
    Calls Tryz.prog 63 #[v] w fun e w' => e = .returned (.bool (rgtI l)) ∧ Below w.heap.size w w' := by
  obtain ⟨a, c, e⟩ := h.slice
  subst e
  obtain ⟨N, hN⟩ : ∃ N, l.length = N := ⟨_, rfl⟩
  obtain ⟨R, hR⟩ : ∃ R, rgtI l = R := ⟨_, rfl⟩
  rw [hN] at h hn ⊢
  rw [hR]
  have HN := Lib.hid hN
  have HR := Lib.hid hR
  have HRD := Lib.hid h
  clear hN hR h
  go_enter Tryz.func63, Tryz.ntmps63
  go_wp2_with fail
  go_loopw [3] (fun i wr => ∃ k K : Nat, (k = 0 ∨ k < N) ∧ Hid (K = k + 1) ∧ i = .int .i64 (K : Int) ∧ Hid (Below w.heap.size w wr) ∧ Hid (∀ j, j < k → ltI (l.getD j (0, 0, 0)) (l.getD (j + 1) (0, 0, 0)) = true)) (fun i _ => N + 1 - (intOf i).toNat)
  case atStart => exact ⟨0, 1, .inl rfl, Lib.hid rfl, rfl, Lib.hid (Below.refl _ _), Lib.hid (fun j hj => by omega)⟩
  case round =>
    obtain ⟨k, K, hk, HK, rfl, hB, hF⟩ := hrel
    have hKk := HK.out
    by_cases hlt : k + 1 < N
    · have hlt' : (K : Int) < (N : Int) := by omega
      have hlt2 : (k : Int) < (N : Int) := by omega
      have hlt3 : (0 : Int) ≤ (k : Int) := by omega
      have hlt4 : (0 : Int) ≤ (K : Int) := by omega
      have hkb : (K : Int) ≤ 10000 := by omega
      have hwr : IntKind.i64.wrap ((K : Int) - 1) = (k : Int) := by simp [IntKind.wrap, IntKind.bits, IntKind.signed]; omega
      obtain ⟨e0, g2, off2, hda, hg2, q1, q2, q3, hjl⟩ := idCell (HRD.out.below hB.out) k (by omega)
      obtain ⟨e1, g3, off3, hdb, hg3, p1, p2, p3, hjm⟩ := idCell (HRD.out.below hB.out) (k + 1) hlt
      rw [← hKk] at p1 p2 p3
      subst hda
      simp only [Option.some.injEq, Addr.mk.injEq, and_true] at hdb
      obtain ⟨rfl, rfl⟩ := hdb
      obtain ⟨⟨y1, y2, y3⟩, hX⟩ : ∃ X, l.getD k (0, 0, 0) = X := ⟨_, rfl⟩
      obtain ⟨⟨x1, x2, x3⟩, hY⟩ : ∃ X, l.getD K (0, 0, 0) = X := ⟨_, rfl⟩
      rw [hX] at q1 q2 q3
      rw [hY] at p1 p2 p3
      have HX := Lib.hid hX
      have HY : Hid (l.getD (k + 1) (0, 0, 0) = (x1, x2, x3)) := Lib.hid (by rw [← hKk]; exact hY)
      have hcon := fun W => rless_any y1 y2 y3 x1 x2 x3 W
      obtain ⟨b, hb⟩ : ∃ b, ltI (y1, y2, y3) (x1, x2, x3) = b := ⟨_, rfl⟩
      rw [hb] at hcon
      have HC := Lib.hid hcon
      have HBB := Lib.hid hb
      clear hX hY hjl hjm e0 e1 hb hcon hKk
      cases b with
      | true =>
        go_wp2_with fail
        go_region_held3 (fun w' => w'.cell? ⟨g2, off2 + k * 3, none⟩ = some (.int .i64 y1) ∧ w'.cell? ⟨g2, off2 + k * 3 + 1, none⟩ = some (.int .i64 y2) ∧ w'.cell? ⟨g2, off2 + k * 3 + 2, none⟩ = some (.int .i64 y3) ∧ w'.cell? ⟨g2, off2 + K * 3, none⟩ = some (.int .i64 x1) ∧ w'.cell? ⟨g2, off2 + K * 3 + 1, none⟩ = some (.int .i64 x2) ∧ w'.cell? ⟨g2, off2 + K * 3 + 2, none⟩ = some (.int .i64 x3) ∧ Below wr.heap.size wr w')
          (first
            | exact keep6 hg2 hg2 q1 q2 q3 p1 p2 p3 (Below.refl _ _).drew
            | (go_split_ands; exact keep6 hg2 hg2 q1 q2 q3 p1 p2 p3 (by assumption)))
          (first
            | (go_at_call 72; go_split_ands; refine (HC.out _).mono ?_; rintro e w7 ⟨rfl, hg7⟩; have hS7 : Below wr.heap.size wr w7 := below_self (by assumption) hg7.below)
            | fail)
        go_split_ands
        have HS7 := Lib.hid hS7
        have HF2 : Hid (∀ j, j < k + 1 → ltI (l.getD j (0, 0, 0)) (l.getD (j + 1) (0, 0, 0)) = true) := Lib.hid (fun j hj => by
          by_cases e : j = k
          · subst e; rw [HX.out, HY.out]; exact HBB.out
          · exact hF.out j (by omega))
        have HB2 : Hid (Below w.heap.size w w7) := Lib.hid (hB.out.trans (hS7.mono hB.out.size))
        clear hS7 hg7 hB
        go_wp2
        go_roundw
        case rel => exact ⟨k + 1, K + 1, .inr hlt, Lib.hid (by rw [HK.out]), by go_num, HB2, HF2⟩
        case measure => simp [intOf]; omega
      | false =>
        go_wp2_with fail
        go_region_held3 (fun w' => w'.cell? ⟨g2, off2 + k * 3, none⟩ = some (.int .i64 y1) ∧ w'.cell? ⟨g2, off2 + k * 3 + 1, none⟩ = some (.int .i64 y2) ∧ w'.cell? ⟨g2, off2 + k * 3 + 2, none⟩ = some (.int .i64 y3) ∧ w'.cell? ⟨g2, off2 + K * 3, none⟩ = some (.int .i64 x1) ∧ w'.cell? ⟨g2, off2 + K * 3 + 1, none⟩ = some (.int .i64 x2) ∧ w'.cell? ⟨g2, off2 + K * 3 + 2, none⟩ = some (.int .i64 x3) ∧ Below wr.heap.size wr w')
          (first
            | exact keep6 hg2 hg2 q1 q2 q3 p1 p2 p3 (Below.refl _ _).drew
            | (go_split_ands; exact keep6 hg2 hg2 q1 q2 q3 p1 p2 p3 (by assumption)))
          (first
            | (go_at_call 72; go_split_ands; refine (HC.out _).mono ?_; rintro e w7 ⟨rfl, hg7⟩; have hS7 : Below wr.heap.size wr w7 := below_self (by assumption) hg7.below)
            | fail)
        go_split_ands
        have HB2 : Hid (Below w.heap.size w w7) := Lib.hid (hB.out.trans (hS7.mono hB.out.size))
        clear hS7 hg7 hB
        go_wp2
        go_ret
        refine ⟨ret_bool ?_, HB2.out⟩
        rw [← HR.out]
        symm
        rw [Bool.eq_false_iff, ne_eq, rgtI_at]
        intro q
        have := q k (by rw [HN.out]; exact hlt)
        rw [HX.out, HY.out, HBB.out] at this
        cases this
    · have hge : ¬ ((K : Int) < (N : Int)) := by omega
      clear hKk
      go_wp2
      go_ret
      refine ⟨ret_bool ?_, hB.out⟩
      rw [← HR.out]
      symm
      rw [rgtI_at]
      intro j hj
      rw [HN.out] at hj
      exact hF.out j (by omega)
set_option maxRecDepth 100000 in
set_option maxHeartbeats 2000000 in
theorem right_any (v : Value) (l : List I3) (w : World) (h : IK.Rd w v l) (hn : l.length ≤ 10000) :
    Calls Tryz.prog 29 #[v] w fun e w' => e = .returned (.bool (rgtI l)) ∧ Below w.heap.size w w' := by
  obtain ⟨a, c, e⟩ := h.slice
  subst e
  obtain ⟨N, hN⟩ : ∃ N, l.length = N := ⟨_, rfl⟩
  obtain ⟨R, hR⟩ : ∃ R, rgtI l = R := ⟨_, rfl⟩
  rw [hN] at h hn ⊢
  rw [hR]
  have HN := Lib.hid hN
  have HR := Lib.hid hR
  have HRD := Lib.hid h
  clear hN hR h
  go_enter Tryz.func29, Tryz.ntmps29
  go_wp2_with fail
  go_loopw [6] (fun i wr => ∃ K : Nat, K ≤ N ∧ i = .int .i64 (K : Int) ∧ Hid (Below w.heap.size w wr) ∧ Hid (∀ j, j + 1 < K → ltI (l.getD j (0, 0, 0)) (l.getD (j + 1) (0, 0, 0)) = true)) (fun i _ => N - (intOf i).toNat)
  case atStart => exact ⟨0, Nat.zero_le _, rfl, Lib.hid (Below.refl _ _), Lib.hid (fun j hj => by omega)⟩
  case round =>
    obtain ⟨K, hK, rfl, hB, hF⟩ := hrel
    by_cases hlt : K < N
    · have hlt' : (K : Int) < (N : Int) := by omega
      have hkb : (K : Int) ≤ 10000 := by omega
      by_cases h0 : K = 0
      · subst h0
        go_wp2_with fail
        go_quiet (fail)
        go_wp2
        go_roundw
        case rel => exact ⟨1, by omega, by go_num, Lib.hid (below_drewN_q hB.out _), Lib.hid (fun j hj => by omega)⟩
        case measure => simp [intOf]; omega
      · obtain ⟨k, hKk⟩ : ∃ k, K = k + 1 := ⟨K - 1, by omega⟩
        have HK := Lib.hid hKk
        have hlt2 : (k : Int) < (N : Int) := by omega
        have hlt3 : (0 : Int) ≤ (k : Int) := by omega
        have hlt4 : (0 : Int) ≤ (K : Int) := by omega
        have hlt5 : decide (0 < K) = true := decide_eq_true (by omega)
        have hwr : IntKind.i64.wrap ((K : Int) - 1) = (k : Int) := by simp [IntKind.wrap, IntKind.bits, IntKind.signed]; omega
        obtain ⟨e0, g2, off2, hda, hg2, q1, q2, q3, hjl⟩ := idCell (HRD.out.below hB.out) k (by omega)
        obtain ⟨e1, g3, off3, hdb, hg3, p1, p2, p3, hjm⟩ := idCell (HRD.out.below hB.out) K hlt
        subst hda
        simp only [Option.some.injEq, Addr.mk.injEq, and_true] at hdb
        obtain ⟨rfl, rfl⟩ := hdb
        obtain ⟨⟨y1, y2, y3⟩, hX⟩ : ∃ X, l.getD k (0, 0, 0) = X := ⟨_, rfl⟩
        obtain ⟨⟨x1, x2, x3⟩, hY⟩ : ∃ X, l.getD K (0, 0, 0) = X := ⟨_, rfl⟩
        rw [hX] at q1 q2 q3
        rw [hY] at p1 p2 p3
        have HX := Lib.hid hX
        have HY : Hid (l.getD (k + 1) (0, 0, 0) = (x1, x2, x3)) := Lib.hid (by rw [← hKk]; exact hY)
        have hcon := fun W => less_any y1 y2 y3 x1 x2 x3 W
        obtain ⟨b, hb⟩ : ∃ b, ltI (y1, y2, y3) (x1, x2, x3) = b := ⟨_, rfl⟩
        rw [hb] at hcon
        have HC := Lib.hid hcon
        have HBB := Lib.hid hb
        clear hX hY hjl hjm e0 e1 hb hcon hKk h0
        cases b with
        | true =>
          go_wp2_with fail
          go_region_held3 (fun w' => w'.cell? ⟨g2, off2 + k * 3, none⟩ = some (.int .i64 y1) ∧ w'.cell? ⟨g2, off2 + k * 3 + 1, none⟩ = some (.int .i64 y2) ∧ w'.cell? ⟨g2, off2 + k * 3 + 2, none⟩ = some (.int .i64 y3) ∧ w'.cell? ⟨g2, off2 + K * 3, none⟩ = some (.int .i64 x1) ∧ w'.cell? ⟨g2, off2 + K * 3 + 1, none⟩ = some (.int .i64 x2) ∧ w'.cell? ⟨g2, off2 + K * 3 + 2, none⟩ = some (.int .i64 x3) ∧ Below wr.heap.size wr w')
            (first
              | exact keep6 hg2 hg2 q1 q2 q3 p1 p2 p3 (Below.refl _ _).drew
              | (go_split_ands; exact keep6 hg2 hg2 q1 q2 q3 p1 p2 p3 (by assumption)))
            (first
              | (go_at_call 59; go_split_ands; refine (HC.out _).mono ?_; rintro e w7 ⟨rfl, hg7⟩; have hS7 : Below wr.heap.size wr w7 := below_self (by assumption) hg7.below)
              | fail)
          go_split_ands
          have HF2 : Hid (∀ j, j + 1 < K + 1 → ltI (l.getD j (0, 0, 0)) (l.getD (j + 1) (0, 0, 0)) = true) := Lib.hid (fun j hj => by
            by_cases e : j = k
            · subst e; rw [HX.out, HY.out]; exact HBB.out
            · exact hF.out j (by have := HK.out; omega))
          have HB2 : Hid (Below w.heap.size w w7) := Lib.hid (hB.out.trans (hS7.mono hB.out.size))
          clear hS7 hg7 hB
          go_wp2
          go_roundw
          case rel => exact ⟨K + 1, by omega, by go_num, HB2, HF2⟩
          case measure => simp [intOf]; omega
        | false =>
          go_wp2_with fail
          go_region_held3 (fun w' => w'.cell? ⟨g2, off2 + k * 3, none⟩ = some (.int .i64 y1) ∧ w'.cell? ⟨g2, off2 + k * 3 + 1, none⟩ = some (.int .i64 y2) ∧ w'.cell? ⟨g2, off2 + k * 3 + 2, none⟩ = some (.int .i64 y3) ∧ w'.cell? ⟨g2, off2 + K * 3, none⟩ = some (.int .i64 x1) ∧ w'.cell? ⟨g2, off2 + K * 3 + 1, none⟩ = some (.int .i64 x2) ∧ w'.cell? ⟨g2, off2 + K * 3 + 2, none⟩ = some (.int .i64 x3) ∧ Below wr.heap.size wr w')
            (first
              | exact keep6 hg2 hg2 q1 q2 q3 p1 p2 p3 (Below.refl _ _).drew
              | (go_split_ands; exact keep6 hg2 hg2 q1 q2 q3 p1 p2 p3 (by assumption)))
            (first
              | (go_at_call 59; go_split_ands; refine (HC.out _).mono ?_; rintro e w7 ⟨rfl, hg7⟩; have hS7 : Below wr.heap.size wr w7 := below_self (by assumption) hg7.below)
              | fail)
          go_split_ands
          have HB2 : Hid (Below w.heap.size w w7) := Lib.hid (hB.out.trans (hS7.mono hB.out.size))
          clear hS7 hg7 hB
          go_wp2
          go_ret
          refine ⟨ret_bool ?_, HB2.out⟩
          rw [← HR.out]
          symm
          rw [Bool.eq_false_iff, ne_eq, rgtI_at]
          intro q
          have := q k (by rw [HN.out]; have := HK.out; omega)
          rw [HX.out, HY.out, HBB.out] at this
          cases this
    · obtain rfl : K = N := by omega
      go_wp2
      go_ret
      refine ⟨ret_bool ?_, hB.out⟩
      rw [← HR.out]
      symm
      rw [rgtI_at]
      intro j hj
      rw [HN.out] at hj
      exact hF.out j hj
end Go.Proofs.YtchhcaoondfpiaaGreat
