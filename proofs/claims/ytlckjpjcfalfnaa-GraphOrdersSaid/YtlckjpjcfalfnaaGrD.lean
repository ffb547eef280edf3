/-
  Texts put together: Gm, Gs, Fm, Fi, Fn, Lk, Ki, Op, Ew, Ex, Wp.
-/
import Derived.Test.YtlckjpjcfalfnaaGv
namespace Go.Proofs.Ytlckjpjcfalfnaa
open Go.RowKit Go.Sort
open Go.WideMaps
set_option linter.unusedSimpArgs false
set_option linter.unusedVariables false
set_option maxRecDepth 100000

theorem Knd.row_set {P : Program} {α : Type} {K : Knd P α} (x : α) (i : Nat) (u : Value) (hi : i < K.k) : ∀ (l : List α) (j : Nat) (hj : j < l.length), K.enc x = (K.enc l[j]).set i u → K.row (l.set j x) = (K.row l).set (j * K.k + i) u
  | [], j, hj, _ => absurd hj (Nat.not_lt_zero _)
  | a :: l, 0, hj, h => by
    have h' : K.enc x = (K.enc a).set i u := h
    rw [List.set_cons_zero]
    unfold Knd.row
    rw [List.flatMap_cons, List.flatMap_cons, Nat.zero_mul, Nat.zero_add, List.set_append_left _ _ (by rw [K.len]; exact hi), h']
  | a :: l, j + 1, hj, h => by
    have ih := Knd.row_set x i u hi l j (by simpa using hj) h
    rw [List.set_cons_succ]
    unfold Knd.row at ih ⊢
    rw [List.flatMap_cons, List.flatMap_cons, ih, List.set_append_right _ _ (by rw [K.len, Nat.add_mul]; omega)]
    congr 2
    rw [K.len, Nat.add_mul]
    omega
theorem setCell_block {w : World} {g : Nat} {cur : Array Value} {T : TypeId} (h : w.heap[g]? = some (.cells cur T (0, 0))) (o : Nat) (u : Value) : (w.setCell ⟨g, o, none⟩ u).heap[g]? = some (.cells (cur.setIfInBounds o u) T (0, 0)) := by
  unfold World.setCell
  simp only [Array.getElem?_modify, h, if_true, Option.map_some]
  simp
/-- One cell of an element is set. -/
theorem Knd.Own.put {P : Program} {α : Type} {K : Knd P α} {w : World} {base g n c : Nat} {l : List α} (h : K.Own w base (.slice (some ⟨g, 0, none⟩) n c) l) (j : Nat) (hj : j < l.length) (x : α) (i : Nat) (u : Value) (hi : i < K.k) (hx : K.enc x = (K.enc l[j]).set i u) :
    K.Own (w.setCell ⟨g, j * K.k + i, none⟩ u) base (.slice (some ⟨g, 0, none⟩) n c) (l.set j x) := by
  obtain ⟨h1, h2⟩ := h
  refine ⟨by rw [K.row_len, List.length_set], ?_⟩
  rcases h2 with ⟨h0, _⟩ | ⟨g', cap, cur, hv, hg, hh, hn, hm, hs, hx2⟩
  · cases h0
  · simp only [Value.slice.injEq, Option.some.injEq, Addr.mk.injEq, and_true, true_and] at hv
    obtain ⟨rfl, rfl, rfl⟩ := hv
    refine .inr ⟨g, _, _, by rw [List.length_set], hg, setCell_block hh _ _, by rw [List.length_set]; exact hn, hm, by rw [Array.size_setIfInBounds, hs], ?_⟩
    rw [List.length_set, Array.toList_setIfInBounds, Knd.row_set x i u hi l j hj hx, ← hx2, List.take_set]
/-- 'at.next++', told of the finder. -/
theorem FinAt.bump {w : World} {m bw g n c : Nat} {web : List (I3 × NV)} {L : Fin} {vo vg : Value} (h : FinAt w m bw web L (.slice (some ⟨g, 0, none⟩) n c) vo vg) {wd : List (I3 × Nat)} {x : I3} {k : Nat} (hw : L.way = wd ++ [(x, k)]) (hs : ∀ j, vo.ownBlock = some j ∨ vg.ownBlock = some j → j ≠ g) :
    FinAt (w.setCell ⟨g, wd.length * 4 + 3, none⟩ (.int .i64 ((k + 1 : Nat) : Int))) m bw web { L with way := wd ++ [(x, k + 1)] } (.slice (some ⟨g, 0, none⟩) n c) vo vg := by
  have hgm : m + 4 ≤ g := h.way.from g rfl
  have hf := Fr.set w ⟨g, wd.length * 4 + 3, none⟩ (.int .i64 ((k + 1 : Nat) : Int))
  have ho : WK.Own (w.setCell ⟨g, wd.length * 4 + 3, none⟩ (.int .i64 ((k + 1 : Nat) : Int))) (m + 4) (.slice (some ⟨g, 0, none⟩) n c) (wd ++ [(x, k + 1)]) := by
    have q := h.way
    rw [hw] at q
    have q2 := q.put wd.length (by simp) (x, k + 1) 3 (.int .i64 ((k + 1 : Nat) : Int)) (by show 3 < 4; omega) (by simp [WK, idE])
    have e : (wd ++ [(x, k)]).set wd.length (x, k + 1) = wd ++ [(x, k + 1)] := by simp
    rw [e] at q2
    exact q2
  have hne : ∀ b, b < m + 4 → ¬ b = g := fun b hb => by omega
  have hlw := h.lw
  exact ⟨hf.bk h.bk (hne _ (by omega)), h.lw, hf.mv h.web (hne _ (by omega)), hf.mv h.met (hne _ (by omega)), hf.mv h.low (hne _ (by omega)), hf.mv h.of (hne _ (by omega)), ho, hf.own h.opn (fun j hj => hs j (.inl hj)), hf.own h.grp (fun j hj => hs j (.inr hj))⟩
end Go.Proofs.Ytlckjpjcfalfnaa
namespace Go.Proofs.Ytlckjpjcfalfnaa
open Go.RowKit Go.Sort
open Go.WideMaps
set_option linter.unusedSimpArgs false
set_option linter.unusedVariables false
set_option maxRecDepth 100000

/-- A group, as a value: those behind it by their places. -/
structure Gp where
  ids : List I3
  lst : I3
  wt : Nat
  bh : List Nat
structure GrpAt (w : World) (base b : Nat) (ids : List I3) (lst : I3) (wt : Nat) (bh : List Nat) (vi vb : Value) : Prop where
  bk : Bk w b 90 [vi, .int .i64 lst.1, .int .i64 lst.2.1, .int .i64 lst.2.2, .int .i64 wt, vb]
  ids : IK.Own w base vi ids
  bh : PK.Own w base vb bh
  lo : base ≤ b
theorem Fr.grpAt {S : Nat → Prop} {w w' : World} {base b : Nat} {ids : List I3} {lst : I3} {wt : Nat} {bh : List Nat} {vi vb : Value} (hf : Fr S w w') (h : GrpAt w base b ids lst wt bh vi vb) (h1 : ¬ S b) (h2 : ∀ k, vi.ownBlock = some k → ¬ S k) (h3 : ∀ k, vb.ownBlock = some k → ¬ S k) : GrpAt w' base b ids lst wt bh vi vb :=
  ⟨hf.bk h.bk h1, hf.own h.ids h2, hf.own h.bh h3, h.lo⟩
/-- Groups behind the finder's pointers; none of their rows is the row vo. -/
structure GsAt (w : World) (base : Nat) (vo : Value) (bs : List Nat) (gs : List Gp) : Prop where
  len : bs.length = gs.length
  nodup : bs.Nodup
  at' : ∀ j (hb : j < bs.length) (hg : j < gs.length), ∃ vi vb, GrpAt w base bs[j] gs[j].ids gs[j].lst gs[j].wt (gs[j].bh.map fun i => bs.getD i 0) vi vb ∧ ∀ k, vi.ownBlock = some k → vo.ownBlock ≠ some k
theorem GsAt.nil (w : World) (base : Nat) (vo : Value) : GsAt w base vo [] [] := ⟨rfl, List.nodup_nil, fun j hb => absurd hb (Nat.not_lt_zero _)⟩
theorem GsAt.lt {w : World} {base : Nat} {vo : Value} {bs : List Nat} {gs : List Gp} (h : GsAt w base vo bs gs) : ∀ b ∈ bs, b < w.heap.size ∧ base ≤ b := fun b hb => by
  obtain ⟨j, hj, rfl⟩ := List.getElem_of_mem hb
  obtain ⟨vi, vb, h1, _⟩ := h.at' j hj (by rw [← h.len]; exact hj)
  exact ⟨h1.bk.lt, h1.lo⟩
/-- What enter and leave turn are not the groups. -/
theorem GsAt.keep {S : Nat → Prop} {w w' : World} {base b1 b2 b3 : Nat} {vw vo vg vo' : Value} {lw : List (I3 × Nat)} {lo : List I3} {lg : List Nat} {bs : List Nat} {gs : List Gp} (h : GsAt w base vo bs gs) (hf : Fr S w w') (hw : WK.Own w b1 vw lw) (ho : IK.Own w b2 vo lo) (hbh : ∀ g ∈ gs, g.bh = [])
    (hg : PK.Own w b3 vg lg) (hS : ∀ k, base ≤ k → S k → vw.ownBlock = some k ∨ vo.ownBlock = some k ∨ vg.ownBlock = some k) (hgt : ∀ j (hb : j < bs.length) (hg : j < gs.length) vi vb, GrpAt w base bs[j] gs[j].ids gs[j].lst gs[j].wt (gs[j].bh.map fun i => bs.getD i 0) vi vb → vb = .slice none 0 0 ∨ ∀ k, vb.ownBlock = some k → vg.ownBlock ≠ some k) (hN : Next w vo vo') : GsAt w' base vo' bs gs := by
  refine ⟨h.len, h.nodup, fun j hb hg2 => ?_⟩
  obtain ⟨vi, vb, h1, h2⟩ := h.at' j hb hg2
  refine ⟨vi, vb, hf.grpAt h1 (fun q => ?_) (fun k hk q => ?_) (fun k hk q => ?_), fun k hk e => ?_⟩
  · rcases hS _ h1.lo q with r | r | r
    · exact row_far0 hw h1.bk (by decide) r
    · exact row_far0 ho h1.bk (by decide) r
    · exact row_far0 hg h1.bk (by decide) r
  · rcases hS k (h1.ids.from k hk) q with r | r | r
    · exact row_far h1.ids hw (by decide) k hk r
    · exact h2 k hk r
    · exact row_far h1.ids hg (by decide) k hk r
  · rcases hS k (h1.bh.from k hk) q with r | r | r
    · exact row_far h1.bh hw (by decide) k hk r
    · exact row_far h1.bh ho (by decide) k hk r
    · rcases hgt j hb hg2 vi vb h1 with e | e
      · rw [e] at hk; cases hk
      · exact e k hk r
  · rcases hN k e with r | r
    · exact h2 k hk r
    · have := (h1.ids.blk k hk).1
      omega
theorem GsAt.snoc {w : World} {base b : Nat} {vo : Value} {bs : List Nat} {gs : List Gp} {ids : List I3} {lst : I3} {wt : Nat} {vi vb : Value} (h : GsAt w base vo bs gs) (hb : b ∉ bs) (hg : GrpAt w base b ids lst wt [] vi vb) (hv : ∀ k, vi.ownBlock = some k → vo.ownBlock ≠ some k) (hi : ∀ g ∈ gs, ∀ i ∈ g.bh, i < bs.length) :
    GsAt w base vo (bs ++ [b]) (gs ++ [⟨ids, lst, wt, []⟩]) := by
  refine ⟨by simp [h.len], ?_, fun j hj hj2 => ?_⟩
  · rw [List.nodup_append]
    exact ⟨h.nodup, by simp, fun a ha c hc => by simp at hc; subst hc; exact fun e => hb (e ▸ ha)⟩
  · by_cases e : j < bs.length
    · have e2 : j < gs.length := by rw [← h.len]; exact e
      obtain ⟨vi2, vb2, h1, h2⟩ := h.at' j e e2
      refine ⟨vi2, vb2, ?_, h2⟩
      have q1 : (bs ++ [b])[j] = bs[j] := List.getElem_append_left e
      have q2 : (gs ++ [(⟨ids, lst, wt, []⟩ : Gp)])[j] = gs[j] := List.getElem_append_left e2
      rw [q1, q2]
      have q3 : (gs[j].bh.map fun i => (bs ++ [b]).getD i 0) = gs[j].bh.map fun i => bs.getD i 0 := List.map_congr_left fun i hi2 => by
        have := hi _ (List.getElem_mem e2) i hi2
        simp [List.getD, List.getElem?_append_left this]
      rw [q3]
      exact h1
    · have hjl : j = bs.length := by simp at hj; omega
      subst hjl
      have q1 : (bs ++ [b])[bs.length] = b := by simp
      have q2 : (gs ++ [(⟨ids, lst, wt, []⟩ : Gp)])[bs.length]'hj2 = ⟨ids, lst, wt, []⟩ := by
        rw [List.getElem_append_right (by rw [h.len]; exact Nat.le_refl _)]
        simp [h.len]
      rw [q1, q2]
      exact ⟨vi, vb, hg, hv⟩
end Go.Proofs.Ytlckjpjcfalfnaa
namespace Go.Proofs.Ytlckjpjcfalfnaa
open Go.RowKit Go.Sort
open Go.WideMaps
set_option linter.unusedSimpArgs false
set_option linter.unusedVariables false
set_option maxRecDepth 100000

/-- The finder over places instead of blocks: a group is the set of its nodes. -/
structure FM where
  met : List (I3 × Nat)
  low : List (I3 × Nat)
  way : List (I3 × Nat)
  opn : List I3
  ofi : List (I3 × Nat)
  gs : List (List I3)
def enM (M : FM) (x : I3) : FM := { M with met := putV M.met x (M.met.length + 1), low := putV M.low x (M.met.length + 1), way := M.way ++ [(x, 0)], opn := M.opn ++ [x] }
def lvM (M : FM) (wd : List (I3 × Nat)) (x : I3) : FM :=
  let low := lvLow M.low wd x
  if numOf low x = numOf M.met x then
    { M with low := low, way := wd, opn := M.opn.takeWhile fun y => !decide (y = x), ofi := ofAll M.ofi (clnI (M.opn.dropWhile fun y => !decide (y = x))) M.gs.length, gs := M.gs ++ [clnI (M.opn.dropWhile fun y => !decide (y = x))] }
  else { M with low := low, way := wd }
/-- One step. -/
def stepM (web : List (I3 × NV)) (M : FM) : FM :=
  match M.way.getLast? with
  | none => M
  | some (x, n) =>
    match (stepsV web x)[n]? with
    | none => lvM M M.way.dropLast x
    | some d =>
      let M1 : FM := { M with way := M.way.dropLast ++ [(x, n + 1)] }
      if (getV web d).isSome then
        if numOf M.met d = 0 then enM M1 d
        else if (getV M.ofi d).isNone then { M1 with low := putV M.low x (min (numOf M.low x) (numOf M.met d)) } else M1
      else M1
def phi (web : List (I3 × NV)) (M : FM) : Nat :=
  (((keysV web).filter fun x => decide (numOf M.met x = 0)).map fun x => (stepsV web x).length + 2).sum + (M.way.map fun e => (stepsV web e.1).length - e.2 + 1).sum
theorem sum_less {α : Type} (f : α → Nat) (p q : α → Bool) (x : α) (hx : p x = true) (hq : q x = false) (hs : ∀ y, y ≠ x → q y = p y) : ∀ (l : List α), l.Nodup → x ∈ l → ((l.filter p).map f).sum = f x + ((l.filter q).map f).sum
  | [], _, h => by cases h
  | a :: l, hn, h => by
    have hn2 := List.nodup_cons.1 hn
    by_cases e : a = x
    · subst e
      have e2 : l.filter q = l.filter p := List.filter_congr fun y hy => hs y (fun r => hn2.1 (r ▸ hy))
      rw [List.filter_cons_of_pos hx, List.filter_cons_of_neg (by rw [hq]; simp), e2]
      simp
    · have hm : x ∈ l := (List.mem_cons.1 h).resolve_left (fun r => e r.symm)
      have ih := sum_less f p q x hx hq hs l hn2.2 hm
      have ha := hs a e
      cases hp : p a
      · rw [List.filter_cons_of_neg (by rw [hp]; simp), List.filter_cons_of_neg (by rw [ha, hp]; simp), ih]
      · rw [List.filter_cons_of_pos hp, List.filter_cons_of_pos (by rw [ha, hp]), List.map_cons, List.map_cons, List.sum_cons, List.sum_cons, ih]
        omega
theorem numOf_put {l : List (I3 × Nat)} (h : (keysV l).Nodup) (x : I3) (v : Nat) (y : I3) : numOf (putV l x v) y = if y = x then v else numOf l y := by
  unfold numOf
  rw [getV_put h]
  split <;> rfl
/-- Each step lessens what is left. -/
theorem phi_step {web : List (I3 × NV)} {M : FM} (hw : (keysV web).Nodup) (hm : (keysV M.met).Nodup) (hne : M.way ≠ []) : phi web (stepM web M) < phi web M := by
  obtain ⟨wd, u, hu⟩ : ∃ a b, M.way = a ++ [b] := ⟨M.way.dropLast, M.way.getLast hne, (List.dropLast_concat_getLast hne).symm⟩
  obtain ⟨x, n⟩ := u
  have hl : M.way.getLast? = some (x, n) := by rw [hu]; simp
  have hd : M.way.dropLast = wd := by rw [hu]; simp
  have hold : phi web M = (((keysV web).filter fun x => decide (numOf M.met x = 0)).map fun x => (stepsV web x).length + 2).sum + ((wd.map fun e => (stepsV web e.1).length - e.2 + 1).sum + ((stepsV web x).length - n + 1)) := by
    unfold phi
    rw [hu]
    simp
  rw [hold]
  cases q : (stepsV web x)[n]? with
  | none =>
    have es : stepM web M = lvM M wd x := by
      unfold stepM
      rw [hl, hd]
      simp only [q]
    rw [es]
    have e : phi web (lvM M wd x) = (((keysV web).filter fun x => decide (numOf M.met x = 0)).map fun x => (stepsV web x).length + 2).sum + (wd.map fun e => (stepsV web e.1).length - e.2 + 1).sum := by
      unfold lvM
      simp only
      split <;> rfl
    rw [e]
    omega
  | some d =>
    have hn : n < (stepsV web x).length := (List.getElem?_eq_some_iff.1 q).1
    have hM1 : ∀ lo, phi web { M with way := wd ++ [(x, n + 1)], low := lo } < (((keysV web).filter fun x => decide (numOf M.met x = 0)).map fun x => (stepsV web x).length + 2).sum + ((wd.map fun e => (stepsV web e.1).length - e.2 + 1).sum + ((stepsV web x).length - n + 1)) := fun lo => by
      unfold phi
      simp
      omega
    unfold stepM
    rw [hl, hd]
    simp only [q]
    split
    · rename_i hs
      split
      · rename_i h0
        have hdk : d ∈ keysV web := by rw [getV_isSome] at hs; exact (hasI_iff _ _).1 hs
        have hsum := sum_less (fun x => (stepsV web x).length + 2) (fun x => decide (numOf M.met x = 0)) (fun y => decide (numOf (putV M.met d (M.met.length + 1)) y = 0)) d (by simpa using h0) (by rw [numOf_put hm, if_pos rfl]; simp) (fun y hy => by rw [numOf_put hm, if_neg hy]) (keysV web) hw hdk
        rw [hsum]
        unfold enM phi
        simp
        omega
      · split
        · exact hM1 _
        · exact hM1 M.low
    · exact hM1 M.low
/-- Places told as blocks. -/
def atG (grp : List Nat) (l : List (I3 × Nat)) : List (I3 × Nat) := l.map fun e => (e.1, grp.getD e.2 0)
theorem atG_put (grp : List Nat) (l : List (I3 × Nat)) (x : I3) (i : Nat) : atG grp (putV l x i) = putV (atG grp l) x (grp.getD i 0) := by
  unfold atG putV delV
  rw [List.map_append, List.filter_map]
  rfl
theorem atG_all (grp : List Nat) (i : Nat) : ∀ (ids : List I3) (l : List (I3 × Nat)), atG grp (ofAll l ids i) = ofAll (atG grp l) ids (grp.getD i 0)
  | [], l => rfl
  | x :: ids, l => by
    have ih := atG_all grp i ids (putV l x i)
    unfold ofAll at ih ⊢
    rw [List.foldl_cons, List.foldl_cons, ih, atG_put]
theorem atG_more (grp : List Nat) (b : Nat) (l : List (I3 × Nat)) (h : ∀ e ∈ l, e.2 < grp.length) : atG (grp ++ [b]) l = atG grp l := by
  unfold atG
  refine List.map_congr_left fun e he => ?_
  have := h e he
  simp [List.getD, List.getElem?_append_left this]
/-- The finder in memory is the plain one. -/
structure FRel (L : Fin) (M : FM) : Prop where
  met : L.met = M.met
  low : L.low = M.low
  way : L.way = M.way
  opn : L.opn = M.opn
  of : L.of = atG L.grp M.ofi
  len : L.grp.length = M.gs.length
  lt : ∀ e ∈ M.ofi, e.2 < M.gs.length
theorem FRel.enter {L : Fin} {M : FM} (h : FRel L M) (x : I3) : FRel (enF L x) (enM M x) := by
  refine ⟨?_, ?_, ?_, ?_, h.of, h.len, h.lt⟩
  · show putV L.met x (L.met.length + 1) = putV M.met x (M.met.length + 1)
    rw [h.met]
  · show putV L.low x (L.met.length + 1) = putV M.low x (M.met.length + 1)
    rw [h.met, h.low]
  · show L.way ++ [(x, 0)] = M.way ++ [(x, 0)]
    rw [h.way]
  · show L.opn ++ [x] = M.opn ++ [x]
    rw [h.opn]
theorem FRel.back {L : Fin} {M : FM} (h : FRel L M) (wd : List (I3 × Nat)) (x : I3) (hn : numOf (lvF L wd x).low x ≠ numOf (lvF L wd x).met x) : FRel (lvF L wd x) (lvM M wd x) := by
  have e1 : (lvF L wd x).low = lvLow M.low wd x := by show lvLow L.low wd x = _; rw [h.low]
  have e2 : (lvF L wd x).met = M.met := h.met
  rw [e1, e2] at hn
  have e : lvM M wd x = { M with low := lvLow M.low wd x, way := wd } := by
    unfold lvM
    simp only
    rw [if_neg hn]
  rw [e]
  exact ⟨h.met, e1, rfl, h.opn, h.of, h.len, h.lt⟩
theorem cut_first {l pre post : List I3} {x : I3} (h : l = pre ++ x :: post) (hx : x ∉ pre) : (l.takeWhile fun y => !decide (y = x)) = pre ∧ (l.dropWhile fun y => !decide (y = x)) = x :: post := by
  subst h
  induction pre with
  | nil => simp
  | cons a pre ih =>
    have ha : a ≠ x := fun e => hx (by rw [e]; exact List.mem_cons_self ..)
    obtain ⟨h1, h2⟩ := ih (fun r => hx (List.mem_cons_of_mem _ r))
    constructor
    · rw [List.cons_append, List.takeWhile_cons, if_pos (by simp [ha]), h1]
    · rw [List.cons_append, List.dropWhile_cons, if_pos (by simp [ha]), h2]
theorem mem_ofAll (i : Nat) : ∀ (ids : List I3) (l : List (I3 × Nat)) (e : I3 × Nat), e ∈ ofAll l ids i → e ∈ l ∨ e.2 = i
  | [], l, e, h => .inl h
  | x :: ids, l, e, h => by
    rcases mem_ofAll i ids (putV l x i) e h with q | q
    · unfold putV at q
      rcases List.mem_append.1 q with r | r
      · exact .inl (mem_delV.1 r).1
      · simp at r; exact .inr (by rw [r])
    · exact .inr q
theorem FRel.group {L : Fin} {M : FM} (h : FRel L M) (wd : List (I3 × Nat)) (x : I3) (pre post : List I3) (ho : L.opn = pre ++ x :: post) (hx : x ∉ pre) (gb : Nat) (hn : numOf (lvF L wd x).low x = numOf (lvF L wd x).met x) :
    FRel { lvF L wd x with opn := pre, of := ofAll L.of (clnI (x :: post)) gb, grp := L.grp ++ [gb] } (lvM M wd x) ∧ (lvM M wd x).gs = M.gs ++ [clnI (x :: post)] := by
  have e1 : (lvF L wd x).low = lvLow M.low wd x := by show lvLow L.low wd x = _; rw [h.low]
  have e2 : (lvF L wd x).met = M.met := h.met
  rw [e1, e2] at hn
  obtain ⟨c1, c2⟩ := cut_first (h.opn.symm.trans ho) hx
  have e : lvM M wd x = { M with low := lvLow M.low wd x, way := wd, opn := pre, ofi := ofAll M.ofi (clnI (x :: post)) M.gs.length, gs := M.gs ++ [clnI (x :: post)] } := by
    unfold lvM
    simp only
    rw [if_pos hn, c1, c2]
  rw [e]
  refine ⟨⟨h.met, e1, rfl, rfl, ?_, by simp [h.len], fun u hu => ?_⟩, rfl⟩
  · show ofAll L.of (clnI (x :: post)) gb = atG (L.grp ++ [gb]) (ofAll M.ofi (clnI (x :: post)) M.gs.length)
    have q : (L.grp ++ [gb]).getD M.gs.length 0 = gb := by rw [← h.len]; simp
    rw [atG_all, q, atG_more _ _ _ (fun u hu => by rw [h.len]; exact h.lt u hu), h.of]
  · rcases mem_ofAll _ _ _ u hu with q | q
    · have := h.lt u q
      simp
      omega
    · rw [q]; simp
end Go.Proofs.Ytlckjpjcfalfnaa
namespace Go.Proofs.Ytlckjpjcfalfnaa
open Go.RowKit Go.Sort
open Go.WideMaps
set_option linter.unusedSimpArgs false
set_option linter.unusedVariables false
set_option maxRecDepth 100000

structure FI (web : List (I3 × NV)) (M : FM) : Prop where
  mnd : (keysV M.met).Nodup
  lnd : (keysV M.low).Nodup
  low : ∀ x, x ∈ keysV M.low → x ∈ keysV M.met
  web : ∀ x, x ∈ keysV M.met → x ∈ keysV web
  pos : ∀ x, x ∈ keysV M.met → numOf M.met x ≠ 0
  ond : M.opn.Nodup
  opn : ∀ x ∈ M.opn, x ∈ keysV M.met
  way : List.Sublist (M.way.map (·.1)) M.opn
  fnd : (keysV M.ofi).Nodup
  ofi : ∀ x, x ∈ keysV M.ofi → x ∈ keysV M.met
theorem sub_cut {a pre post : List I3} {x : I3} (h : List.Sublist (a ++ [x]) (pre ++ x :: post)) (hn : (pre ++ x :: post).Nodup) : List.Sublist a pre := by
  obtain ⟨l1, l2, e, h1, h2⟩ := List.append_sublist_iff.1 h
  have hx2 : x ∈ l2 := h2.subset (by simp)
  have hnd := hn
  rw [List.nodup_append] at hnd
  have hxp : x ∉ pre := fun q => hnd.2.2 x q x (List.mem_cons_self ..) rfl
  have hl : List.IsPrefix l1 pre := by
    rcases List.append_eq_append_iff.1 e with ⟨t, e1, e2⟩ | ⟨t, e1, e2⟩
    · cases t with
      | nil => rw [List.append_nil] at e1; rw [e1]; exact List.prefix_rfl
      | cons y t =>
        rw [List.cons_append] at e2
        obtain ⟨rfl, e3⟩ := List.cons.inj e2
        have : x ∈ post := by rw [e3]; exact List.mem_append_right _ hx2
        have q := (List.nodup_append.1 hn).2.1
        exact absurd this (List.nodup_cons.1 q).1
    · exact ⟨t, e1.symm⟩
  exact h1.trans hl.sublist
theorem FI.enter {web : List (I3 × NV)} {M : FM} (h : FI web M) {x : I3} (hw : x ∈ keysV web) (hm : x ∉ keysV M.met) : FI web (enM M x) := by
  have hk : ∀ y, y ∈ keysV (putV M.met x (M.met.length + 1)) ↔ y ∈ keysV M.met ∨ y = x := fun y => mem_keys_put
  refine ⟨nodup_putV h.mnd _ _, nodup_putV h.lnd _ _, fun y hy => ?_, fun y hy => ?_, fun y hy => ?_, ?_, fun y hy => ?_, ?_, h.fnd, fun y hy => ?_⟩
  · rcases mem_keys_put.1 hy with q | q
    · exact (hk y).2 (.inl (h.low y q))
    · exact (hk y).2 (.inr q)
  · rcases (hk y).1 hy with q | q
    · exact h.web y q
    · subst q; exact hw
  · show numOf (putV M.met x (M.met.length + 1)) y ≠ 0
    rw [numOf_put h.mnd]
    split
    · omega
    · rename_i e
      rcases (hk y).1 hy with q | q
      · exact h.pos y q
      · exact absurd q e
  · show (M.opn ++ [x]).Nodup
    rw [List.nodup_append]
    exact ⟨h.ond, by simp, fun a ha b hb => by simp at hb; subst hb; exact fun e => hm (e ▸ h.opn a ha)⟩
  · rcases List.mem_append.1 hy with q | q
    · exact (hk y).2 (.inl (h.opn y q))
    · simp at q; exact (hk y).2 (.inr q)
  · show List.Sublist (List.map (fun e : I3 × Nat => e.1) (M.way ++ [(x, 0)])) (M.opn ++ [x])
    rw [List.map_append]
    exact h.way.append (List.Sublist.refl _)
  · exact (hk y).2 (.inl (h.ofi y hy))
theorem nodup_ofAll (i : Nat) : ∀ (ids : List I3) (l : List (I3 × Nat)), (keysV l).Nodup → (keysV (ofAll l ids i)).Nodup
  | [], l, h => h
  | x :: ids, l, h => nodup_ofAll i ids (putV l x i) (nodup_putV h _ _)
theorem keys_ofAll (i : Nat) (y : I3) : ∀ (ids : List I3) (l : List (I3 × Nat)), y ∈ keysV (ofAll l ids i) ↔ y ∈ keysV l ∨ y ∈ ids
  | [], l => by simp [ofAll]
  | x :: ids, l => by
    have ih := keys_ofAll i y ids (putV l x i)
    show y ∈ keysV (ofAll (putV l x i) ids i) ↔ _
    rw [ih, mem_keys_put, List.mem_cons]
    constructor
    · rintro ((q | q) | q)
      · exact .inl q
      · exact .inr (.inl q)
      · exact .inr (.inr q)
    · rintro (q | q | q)
      · exact .inl (.inl q)
      · exact .inl (.inr q)
      · exact .inr q
theorem FI.leave {web : List (I3 × NV)} {M : FM} (h : FI web M) {wd : List (I3 × Nat)} {x : I3} {n : Nat} (hw : M.way = wd ++ [(x, n)]) : FI web (lvM M wd x) := by
  have hs := h.way
  rw [hw, List.map_append] at hs
  have hlowk : (keysV (lvLow M.low wd x)).Nodup ∧ ∀ y, y ∈ keysV (lvLow M.low wd x) → y ∈ keysV M.met := by
    unfold lvLow
    cases q : wd.getLast? with
    | none => exact ⟨h.lnd, h.low⟩
    | some u =>
      refine ⟨nodup_putV h.lnd _ _, fun y hy => ?_⟩
      rcases mem_keys_put.1 hy with r | r
      · exact h.low y r
      · subst r
        have hu : u ∈ wd := List.mem_of_getLast? q
        exact h.opn _ (hs.subset (List.mem_append_left _ (List.mem_map_of_mem hu)))
  have hxo : x ∈ M.opn := hs.subset (by simp)
  obtain ⟨pre, post, ho⟩ := List.append_of_mem hxo
  have hx : x ∉ pre := by
    have q := h.ond
    rw [ho, List.nodup_append] at q
    exact fun r => q.2.2 x r x (List.mem_cons_self ..) rfl
  unfold lvM
  simp only
  split
  · obtain ⟨c1, c2⟩ := cut_first ho hx
    rw [c1, c2]
    have hon := h.ond
    rw [ho] at hon
    refine ⟨h.mnd, hlowk.1, hlowk.2, h.web, h.pos, (List.nodup_append.1 hon).1, fun y hy => h.opn y (by rw [ho]; exact List.mem_append_left _ hy), ?_, nodup_ofAll _ _ _ h.fnd, fun y hy => ?_⟩
    · refine sub_cut (x := x) (post := post) ?_ hon
      rw [← ho]
      exact hs
    · rcases (keys_ofAll _ y _ _).1 hy with q | q
      · exact h.ofi y q
      · exact h.opn y (by rw [ho]; exact List.mem_append_right _ ((mem_clnI _ _).1 q))
  · exact ⟨h.mnd, hlowk.1, hlowk.2, h.web, h.pos, h.ond, h.opn, (List.sublist_append_left _ _).trans hs, h.fnd, h.ofi⟩
theorem FI.start (web : List (I3 × NV)) : FI web ⟨[], [], [], [], [], []⟩ :=
  ⟨List.nodup_nil, List.nodup_nil, (fun x h => by cases h), (fun x h => by cases h), (fun x h => by cases h), List.nodup_nil, (fun x h => by cases h), List.Sublist.refl _, List.nodup_nil, (fun x h => by cases h)⟩
theorem FI.bump {web : List (I3 × NV)} {M : FM} (h : FI web M) {wd : List (I3 × Nat)} {x : I3} {n : Nat} (hw : M.way = wd ++ [(x, n)]) (k : Nat) : FI web { M with way := wd ++ [(x, k)] } := by
  refine ⟨h.mnd, h.lnd, h.low, h.web, h.pos, h.ond, h.opn, ?_, h.fnd, h.ofi⟩
  have q := h.way
  rw [hw] at q
  simpa using q
theorem FI.setLow {web : List (I3 × NV)} {M : FM} (h : FI web M) {x : I3} (hx : x ∈ keysV M.met) (v : Nat) : FI web { M with low := putV M.low x v } := by
  refine ⟨h.mnd, nodup_putV h.lnd _ _, fun y hy => ?_, h.web, h.pos, h.ond, h.opn, h.way, h.fnd, h.ofi⟩
  rcases mem_keys_put.1 hy with q | q
  · exact h.low y q
  · subst q; exact hx
theorem FI.top {web : List (I3 × NV)} {M : FM} (h : FI web M) {wd : List (I3 × Nat)} {x : I3} {n : Nat} (hw : M.way = wd ++ [(x, n)]) : x ∈ M.opn ∧ x ∈ keysV M.met := by
  have q := h.way
  rw [hw] at q
  have hx : x ∈ M.opn := q.subset (by simp)
  exact ⟨hx, h.opn x hx⟩
theorem numOf_zero {l : List (I3 × Nat)} {x : I3} (h : numOf l x ≠ 0) : x ∈ keysV l := by
  unfold numOf at h
  cases q : getV l x with
  | none => rw [q] at h; exact absurd rfl h
  | some v => exact mem_keys.2 ⟨v, q⟩
theorem FI.step {web : List (I3 × NV)} {M : FM} (h : FI web M) : FI web (stepM web M) := by
  by_cases hne : M.way = []
  · have e : stepM web M = M := by
      unfold stepM
      rw [hne]
      rfl
    rw [e]
    exact h
  · obtain ⟨wd, u, hu⟩ : ∃ a b, M.way = a ++ [b] := ⟨M.way.dropLast, M.way.getLast hne, (List.dropLast_concat_getLast hne).symm⟩
    obtain ⟨x, n⟩ := u
    have hl : M.way.getLast? = some (x, n) := by rw [hu]; simp
    have hd : M.way.dropLast = wd := by rw [hu]; simp
    obtain ⟨_, hxm⟩ := h.top hu
    cases q : (stepsV web x)[n]? with
    | none =>
      have es : stepM web M = lvM M wd x := by
        unfold stepM
        rw [hl, hd]
        simp only [q]
      rw [es]
      exact h.leave hu
    | some d =>
      have hb := h.bump hu (n + 1)
      unfold stepM
      rw [hl, hd]
      simp only [q]
      split
      · rename_i hs
        split
        · rename_i h0
          exact hb.enter (by rw [getV_isSome] at hs; exact (hasI_iff _ _).1 hs) (fun r => h.pos d r h0)
        · split
          · exact hb.setLow hxm _
          · exact hb
      · exact hb
theorem FI.lens {web : List (I3 × NV)} {M : FM} (h : FI web M) : M.met.length ≤ web.length ∧ M.low.length ≤ web.length ∧ M.opn.length ≤ web.length ∧ M.way.length ≤ web.length ∧ M.ofi.length ≤ web.length := by
  have a1 := len_sub h.mnd (k := keysV web) h.web
  have a2 := len_sub h.lnd (k := keysV web) (fun x hx => h.web x (h.low x hx))
  have a5 := len_sub h.fnd (k := keysV web) (fun x hx => h.web x (h.ofi x hx))
  have a3 := len_sub h.ond (k := keysV web) (fun x hx => h.web x (h.opn x hx))
  have a4 := h.way.length_le
  simp only [List.length_map] at a1 a2 a3 a4 a5
  omega
end Go.Proofs.Ytlckjpjcfalfnaa
namespace Go.Proofs.Ytlckjpjcfalfnaa
open Go.RowKit Go.Sort
open Go.WideMaps
set_option linter.unusedSimpArgs false
set_option linter.unusedVariables false
set_option maxRecDepth 100000

/-- A group that find ended. -/
structure GN (w : World) (base b : Nat) (web : List (I3 × NV)) (s : List I3) (vi : Value) : Prop where
  bk : Bk w b 90 [vi, .int .i64 (s.headD (0, 0, 0)).1, .int .i64 (s.headD (0, 0, 0)).2.1, .int .i64 (s.headD (0, 0, 0)).2.2, .int .i64 0, .slice none 0 0]
  ids : IK.Own w base vi (sortL web s)
  lo : base ≤ b
structure GsN (w : World) (base : Nat) (vo : Value) (bs : List Nat) (web : List (I3 × NV)) (gs : List (List I3)) : Prop where
  len : bs.length = gs.length
  nodup : bs.Nodup
  at' : ∀ j (hb : j < bs.length) (hg : j < gs.length), ∃ vi, GN w base bs[j] web gs[j] vi ∧ ∀ k, vi.ownBlock = some k → vo.ownBlock ≠ some k
theorem GsN.nil (w : World) (base : Nat) (vo : Value) (web : List (I3 × NV)) : GsN w base vo [] web [] := ⟨rfl, List.nodup_nil, fun j hb => absurd hb (Nat.not_lt_zero _)⟩
theorem GsN.lt {w : World} {base : Nat} {vo : Value} {bs : List Nat} {web : List (I3 × NV)} {gs : List (List I3)} (h : GsN w base vo bs web gs) : ∀ b ∈ bs, b < w.heap.size ∧ base ≤ b := fun b hb => by
  obtain ⟨j, hj, rfl⟩ := List.getElem_of_mem hb
  obtain ⟨vi, h1, _⟩ := h.at' j hj (by rw [← h.len]; exact hj)
  exact ⟨h1.bk.lt, h1.lo⟩
theorem GsN.keep {S : Nat → Prop} {w w' : World} {base b1 b2 b3 : Nat} {vw vo vg vo' : Value} {lw : List (I3 × Nat)} {lo : List I3} {lg : List Nat} {bs : List Nat} {web : List (I3 × NV)} {gs : List (List I3)} (h : GsN w base vo bs web gs) (hf : Fr S w w') (hw : WK.Own w b1 vw lw) (ho : IK.Own w b2 vo lo)
    (hg : PK.Own w b3 vg lg) (hS : ∀ k, base ≤ k → S k → vw.ownBlock = some k ∨ vo.ownBlock = some k ∨ vg.ownBlock = some k) (hN : Next w vo vo') : GsN w' base vo' bs web gs := by
  refine ⟨h.len, h.nodup, fun j hb hg2 => ?_⟩
  obtain ⟨vi, h1, h2⟩ := h.at' j hb hg2
  refine ⟨vi, ⟨hf.bk h1.bk (fun q => ?_), hf.own h1.ids (fun k hk q => ?_), h1.lo⟩, fun k hk e => ?_⟩
  · rcases hS _ h1.lo q with r | r | r
    · exact row_far0 hw h1.bk (by decide) r
    · exact row_far0 ho h1.bk (by decide) r
    · exact row_far0 hg h1.bk (by decide) r
  · rcases hS k (h1.ids.from k hk) q with r | r | r
    · exact row_far h1.ids hw (by decide) k hk r
    · exact h2 k hk r
    · exact row_far h1.ids hg (by decide) k hk r
  · rcases hN k e with r | r
    · exact h2 k hk r
    · have := (h1.ids.blk k hk).1
      omega
theorem GsN.snoc {w : World} {base b : Nat} {vo : Value} {bs : List Nat} {web : List (I3 × NV)} {gs : List (List I3)} {s : List I3} {vi : Value} (h : GsN w base vo bs web gs) (hb : b ∉ bs) (hg : GN w base b web s vi) (hv : ∀ k, vi.ownBlock = some k → vo.ownBlock ≠ some k) :
    GsN w base vo (bs ++ [b]) web (gs ++ [s]) := by
  refine ⟨by simp [h.len], ?_, fun j hj hj2 => ?_⟩
  · rw [List.nodup_append]
    exact ⟨h.nodup, by simp, fun a ha c hc => by simp at hc; subst hc; exact fun e => hb (e ▸ ha)⟩
  · by_cases e : j < bs.length
    · have e2 : j < gs.length := by rw [← h.len]; exact e
      obtain ⟨vi2, h1, h2⟩ := h.at' j e e2
      refine ⟨vi2, ?_, h2⟩
      have q1 : (bs ++ [b])[j] = bs[j] := List.getElem_append_left e
      have q2 : (gs ++ [s])[j] = gs[j] := List.getElem_append_left e2
      rw [q1, q2]
      exact h1
    · have hjl : j = bs.length := by simp at hj; omega
      subst hjl
      have q1 : (bs ++ [b])[bs.length] = b := by simp
      have q2 : (gs ++ [s])[bs.length]'hj2 = s := by
        rw [List.getElem_append_right (by rw [h.len]; exact Nat.le_refl _)]
        simp [h.len]
      rw [q1, q2]
      exact ⟨vi, hg, hv⟩
/-- No more groups than were met. -/
def FC (M : FM) : Prop := M.gs.length + M.opn.length ≤ M.met.length
theorem FC.enter {web : List (I3 × NV)} {M : FM} (h : FC M) (hI : FI web M) {x : I3} (hm : x ∉ keysV M.met) : FC (enM M x) := by
  unfold FC enM at *
  simp only [List.length_append, List.length_cons, List.length_nil]
  have q := len_putV (l := M.met) hI.mnd x (M.met.length + 1)
  rw [if_neg (by rw [getV_isSome, hasI_iff]; exact hm)] at q
  omega
theorem FC.leave {web : List (I3 × NV)} {M : FM} (h : FC M) (hI : FI web M) {wd : List (I3 × Nat)} {x : I3} {n : Nat} (hw : M.way = wd ++ [(x, n)]) : FC (lvM M wd x) := by
  have hxo := (hI.top hw).1
  obtain ⟨pre, post, ho⟩ := List.append_of_mem hxo
  have hx : x ∉ pre := by
    have q := hI.ond
    rw [ho, List.nodup_append] at q
    exact fun r => q.2.2 x r x (List.mem_cons_self ..) rfl
  unfold FC at *
  unfold lvM
  simp only
  split
  · obtain ⟨c1, c2⟩ := cut_first ho hx
    rw [c1]
    rw [ho] at h
    simp at h ⊢
    omega
  · exact h
theorem FC.step {web : List (I3 × NV)} {M : FM} (h : FC M) (hI : FI web M) : FC (stepM web M) := by
  by_cases hne : M.way = []
  · have e : stepM web M = M := by
      unfold stepM
      rw [hne]
      rfl
    rw [e]
    exact h
  · obtain ⟨wd, u, hu⟩ : ∃ a b, M.way = a ++ [b] := ⟨M.way.dropLast, M.way.getLast hne, (List.dropLast_concat_getLast hne).symm⟩
    obtain ⟨x, n⟩ := u
    have hl : M.way.getLast? = some (x, n) := by rw [hu]; simp
    have hd : M.way.dropLast = wd := by rw [hu]; simp
    cases q : (stepsV web x)[n]? with
    | none =>
      have es : stepM web M = lvM M wd x := by
        unfold stepM
        rw [hl, hd]
        simp only [q]
      rw [es]
      exact h.leave hI hu
    | some d =>
      have hb := hI.bump hu (n + 1)
      have hc : FC { M with way := wd ++ [(x, n + 1)] } := h
      unfold stepM
      rw [hl, hd]
      simp only [q]
      split
      · rename_i hs
        split
        · rename_i h0
          exact hc.enter hb (fun r => hI.pos d r h0)
        · split <;> exact h
      · exact h
/-- What find's loops keep. -/
structure FdS (W0 w0 : World) (m bw : Nat) (web : List (I3 × NV)) (M0 : FM) (vw0 vo0 vg0 : Value) (L : Fin) (M : FM) (vw vo vg : Value) (w : World) : Prop where
  at' : FinAt w m bw web L vw vo vg
  rel : FRel L M
  inv : FI web M
  cnt : FC M
  gs : GsN w (m + 4) vo L.grp web M.gs
  run : ∃ i, M = Nat.repeat (stepM web) i M0
  fr : Fr (fun k => (m ≤ k ∧ k < m + 4) ∨ vw0.ownBlock = some k ∨ vo0.ownBlock = some k ∨ vg0.ownBlock = some k) w0 w
  nw : Next w0 vw0 vw
  no : Next w0 vo0 vo
  ng : Next w0 vg0 vg
  lo : W0.heap.size ≤ m
  sz : m + 4 ≤ w.heap.size
  bel : Below W0.heap.size W0 w
section
variable {W0 w0 w w' : World} {m bw : Nat} {web : List (I3 × NV)} {M0 : FM} {vw0 vo0 vg0 : Value} {L : Fin} {M : FM} {vw vo vg : Value} {S : Nat → Prop}
theorem FdS.fr2 (h : FdS W0 w0 m bw web M0 vw0 vo0 vg0 L M vw vo vg w) (hf : Fr S w w') (hS : ∀ k, S k → (m ≤ k ∧ k < m + 4) ∨ vw.ownBlock = some k ∨ vo.ownBlock = some k ∨ vg.ownBlock = some k) : Fr (fun k => (m ≤ k ∧ k < m + 4) ∨ vw0.ownBlock = some k ∨ vo0.ownBlock = some k ∨ vg0.ownBlock = some k) w0 w' := by
  refine h.fr.trans hf fun j hj q => q.elim id fun r => ?_
  rcases hS j r with a | a | a | a
  · exact .inl a
  · rcases h.nw j a with b | b
    · exact .inr (.inl b)
    · omega
  · rcases h.no j a with b | b
    · exact .inr (.inr (.inl b))
    · omega
  · rcases h.ng j a with b | b
    · exact .inr (.inr (.inr b))
    · omega
theorem FdS.bel2 (h : FdS W0 w0 m bw web M0 vw0 vo0 vg0 L M vw vo vg w) (hf : Fr S w w') (hS : ∀ k, S k → (m ≤ k ∧ k < m + 4) ∨ vw.ownBlock = some k ∨ vo.ownBlock = some k ∨ vg.ownBlock = some k) : Below W0.heap.size W0 w' := by
  refine h.bel.trans (hf.to h.bel.size fun k hk q => ?_)
  have hlo := h.lo
  rcases hS k q with a | a | a | a
  · omega
  · have := h.at'.way.from k a; omega
  · have := h.at'.opn.from k a; omega
  · have := h.at'.grp.from k a; omega
theorem FdS.below (h : FdS W0 w0 m bw web M0 vw0 vo0 vg0 L M vw vo vg w) (hb : Below w.heap.size w w') : FdS W0 w0 m bw web M0 vw0 vo0 vg0 L M vw vo vg w' := by
  have hf : Fr (fun _ => False) w w' := ⟨hb.os, hb.tape, hb.output, hb.size, fun k hk _ => hb.block k hk⟩
  exact ⟨h.at'.below hb, h.rel, h.inv, h.cnt, h.gs.keep hf h.at'.way h.at'.opn h.at'.grp (fun k _ q => q.elim) (Next.refl _ _), h.run, h.fr2 hf (fun k q => q.elim), h.nw, h.no, h.ng, h.lo, Nat.le_trans h.sz hb.size, h.bel2 hf (fun k q => q.elim)⟩
theorem run_next {M0 M : FM} (h : ∃ i, M = Nat.repeat (stepM web) i M0) : ∃ i, stepM web M = Nat.repeat (stepM web) i M0 := by
  obtain ⟨i, rfl⟩ := h
  exact ⟨i + 1, rfl⟩
/-- What a step of the finder keeps, told of what it turned. -/
theorem FdS.move {L2 : Fin} {vw2 vo2 vg2 : Value} (h : FdS W0 w0 m bw web M0 vw0 vo0 vg0 L M vw vo vg w) (hf : Fr S w w') (hS : ∀ k, S k → (m ≤ k ∧ k < m + 4) ∨ vw.ownBlock = some k ∨ vo.ownBlock = some k ∨ vg.ownBlock = some k)
    (ha : FinAt w' m bw web L2 vw2 vo2 vg2) (hr : FRel L2 (stepM web M)) (hg : GsN w' (m + 4) vo2 L2.grp web (stepM web M).gs) (nw : Next w vw vw2) (no : Next w vo vo2) (ng : Next w vg vg2) : FdS W0 w0 m bw web M0 vw0 vo0 vg0 L2 (stepM web M) vw2 vo2 vg2 w' :=
  have t : ∀ {a b c : Value}, Next w0 a b → Next w b c → Next w0 a c := fun p q k hk => by
    rcases q k hk with r | r
    · exact p k r
    · exact .inr (Nat.le_trans h.fr.size r)
  ⟨ha, hr, h.inv.step, h.cnt.step h.inv, hg, run_next h.run, h.fr2 hf hS, t h.nw nw, t h.no no, t h.ng ng, h.lo, Nat.le_trans h.sz hf.size, h.bel2 hf hS⟩
end
/-- What one step is, by cases. -/
theorem step_leave {web : List (I3 × NV)} {M : FM} {wd : List (I3 × Nat)} {x : I3} {n : Nat} (hw : M.way = wd ++ [(x, n)]) (hn : (stepsV web x).length ≤ n) : stepM web M = lvM M wd x := by
  have hl : M.way.getLast? = some (x, n) := by rw [hw]; simp
  have hd : M.way.dropLast = wd := by rw [hw]; simp
  unfold stepM
  rw [hl, hd]
  simp only [List.getElem?_eq_none hn]
theorem step_go {web : List (I3 × NV)} {M : FM} {wd : List (I3 × Nat)} {x d : I3} {n : Nat} (hw : M.way = wd ++ [(x, n)]) (hn : (stepsV web x)[n]? = some d) :
    stepM web M = if (getV web d).isSome then
        if numOf M.met d = 0 then enM { M with way := wd ++ [(x, n + 1)] } d
        else if (getV M.ofi d).isNone then { M with way := wd ++ [(x, n + 1)], low := putV M.low x (min (numOf M.low x) (numOf M.met d)) } else { M with way := wd ++ [(x, n + 1)] }
      else { M with way := wd ++ [(x, n + 1)] } := by
  have hl : M.way.getLast? = some (x, n) := by rw [hw]; simp
  have hd : M.way.dropLast = wd := by rw [hw]; simp
  unfold stepM
  rw [hl, hd]
  simp only [hn]
theorem FRel.bump {L : Fin} {M : FM} (h : FRel L M) (l : List (I3 × Nat)) : FRel { L with way := l } { M with way := l } := ⟨h.met, h.low, rfl, h.opn, h.of, h.len, h.lt⟩
theorem FRel.setLow {L : Fin} {M : FM} (h : FRel L M) (x : I3) (v : Nat) : FRel { L with low := putV L.low x v } { M with low := putV M.low x v } := ⟨h.met, by show putV L.low x v = putV M.low x v; rw [h.low], h.way, h.opn, h.of, h.len, h.lt⟩
theorem atG_get (grp : List Nat) (l : List (I3 × Nat)) (x : I3) : getV (atG grp l) x = (getV l x).map fun i => grp.getD i 0 := by
  unfold getV atG
  rw [List.find?_map, Option.map_map]
  show Option.map _ (List.find? (fun e => decide (e.1 = x)) l) = Option.map _ (Option.map _ (List.find? (fun e => decide (e.1 = x)) l))
  cases List.find? (fun e => decide (e.1 = x)) l <;> rfl
theorem atG_isNone (grp : List Nat) (l : List (I3 × Nat)) (x : I3) : (getV (atG grp l) x).isNone = (getV l x).isNone := by
  rw [atG_get]
  cases getV l x <;> rfl
/-- The last stop's cells. -/
theorem way_cells {w : World} {base g T c T1 n : Nat} {wd : List (I3 × Nat)} {x1 x2 x3 : Int} (h : WK.Own w base (.slice (some ⟨g, 0, none⟩) T c) (wd ++ [((x1, x2, x3), n)])) (hT : wd.length = T1) :
    w.cell? ⟨g, T1 * 4, none⟩ = some (.int .i64 x1) ∧ w.cell? ⟨g, T1 * 4 + 1, none⟩ = some (.int .i64 x2) ∧ w.cell? ⟨g, T1 * 4 + 2, none⟩ = some (.int .i64 x3) ∧ w.cell? ⟨g, T1 * 4 + 3, none⟩ = some (.int .i64 n) ∧ g < w.heap.size ∧ base ≤ g ∧ T = T1 + 1 ∧ T ≤ c ∧ ∃ cs, Bk w g WK.T cs := by
  obtain ⟨hc1, hc2⟩ := own_cap h
  obtain ⟨-, g', o', h7, hgl, hc⟩ := h.rd.at (by simp)
  simp only [Option.some.injEq, Addr.mk.injEq, and_true] at h7
  obtain ⟨rfl, rfl⟩ := h7
  have hT2 : T = T1 + 1 := by rw [hc2, ← hT]; simp
  have q := hc T1 (by omega)
  have eg : (wd ++ [((x1, x2, x3), n)]).getD T1 WK.d = ((x1, x2, x3), n) := by rw [← hT]; simp [List.getD]
  have eK : WK.k = 4 := rfl
  rw [eg, eK] at q
  have e0 : w.cell? ⟨g, T1 * 4, none⟩ = some (.int .i64 x1) := by have r := q 0 _ rfl; simpa using r
  have e1 : w.cell? ⟨g, T1 * 4 + 1, none⟩ = some (.int .i64 x2) := by have r := q 1 _ rfl; simpa using r
  have e2 : w.cell? ⟨g, T1 * 4 + 2, none⟩ = some (.int .i64 x3) := by have r := q 2 _ rfl; simpa using r
  have e3 : w.cell? ⟨g, T1 * 4 + 3, none⟩ = some (.int .i64 n) := by have r := q 3 _ rfl; simpa using r
  refine ⟨e0, e1, e2, e3, hgl, h.from g rfl, hT2, hc1, ?_⟩
  rcases h.2 with ⟨h0, _⟩ | ⟨g', cap, cur, hv, hg, hh, hn, hm, hs, hx2⟩
  · cases h0
  · simp only [Value.slice.injEq, Option.some.injEq, Addr.mk.injEq, and_true, true_and] at hv
    obtain ⟨rfl, rfl, rfl⟩ := hv
    exact ⟨cur.toList, by show w.heap[g]? = _; simpa using hh⟩
theorem way_row {w : World} {base : Nat} {v : Value} {wd : List (I3 × Nat)} {u : I3 × Nat} (h : WK.Own w base v (wd ++ [u])) : ∃ g c, v = .slice (some ⟨g, 0, none⟩) (wd.length + 1) c := by
  rcases h.2 with ⟨_, h0⟩ | ⟨g', cap, cur, hv, hg, hh, hn, hm, hs, hx2⟩
  · simp at h0
  · exact ⟨g', cap, by rw [hv]; simp⟩
section
variable {ops : Array Oper} {o : Oper} {a : Act} {w : World} {K : Act → World → Prop} {Q : Exit → Act → World → Prop} {E : Prop}
theorem step_allocNd (hgd : o.guard = none) (ho : o.op = .alloc 46) (hK : ∀ p w', Bk w' p 46 [.int .i64 0, .int .i64 0, .int .i64 0, .int .i64 0, .slice none 0 0] → Below w.heap.size w w' → w.heap.size ≤ p → K (a.put o.dst (encG p)) w') :
    if Region.wanted o (yielded ops a.tmps) = true then Oper.wp Try.prog o a w K Q else E := by
  refine step_valueL hgd (encG w.heap.size) (w.alloc (.cells #[.int .i64 0, .int .i64 0, .int .i64 0, .int .i64 0, .slice none 0 0] 46)) ?_ (hK _ _ (Bk.new w _ [.int .i64 0, .int .i64 0, .int .i64 0, .int .i64 0, .slice none 0 0]) ((Below.refl _ _).alloc (Nat.le_refl _) _) (Nat.le_refl _))
  unfold execOp
  simp only [ho]
  kernel_rfl
theorem infoNd : (Try.prog.info? 46).map (·.size) = some 5 := by kernel_rfl
theorem step_storeNd (hgd : o.guard = none) (x y : Operand) (ho : o.op = .store 46 x y) (p : Nat) (hx : a.eval x = encG p) (u1 u2 u3 u4 u5 : Value) (hy : a.eval y = .agg #[u1, u2, u3, u4, u5]) (h1 : u1.oneCell' = true) (h2 : u2.oneCell' = true) (h3 : u3.oneCell' = true) (h4 : u4.oneCell' = true) (h5 : u5.oneCell' = true)
    (hbx : Bk w p 46 [.int .i64 0, .int .i64 0, .int .i64 0, .int .i64 0, .slice none 0 0]) (hK : ∀ w', Below p w w' → K (a.put o.dst undef) w') : if Region.wanted o (yielded ops a.tmps) = true then Oper.wp Try.prog o a w K Q else E := by
  rw [if_pos (by simp [Region.wanted, hgd])]
  have hr : (execOp a.eval o).run Try.prog w = .ok .skip (w.setRow p #[u1, u2, u3, u4, u5]) := by
    unfold execOp
    simp only [ho, hx, hy, Instr.storeAt, Instr.sureAddr, Sem.run_bind, Sem.run_pure, Result.andThen_ok, run_storeVar_row w p 46 46 _ #[u1, u2, u3, u4, u5] hbx infoNd rfl (by simp [h1, h2, h3, h4, h5])]
  unfold Oper.wp
  rw [hr]
  exact hK _ (below_setRow (Below.refl _ _) (Nat.le_refl _) _)
end
/-- Between 'at.next++' and the step's end. -/
structure FdB (m bw : Nat) (web : List (I3 × NV)) (L : Fin) (M : FM) (l : List (I3 × Nat)) (vw vo vg : Value) (wr w : World) : Prop where
  at' : FinAt w m bw web { L with way := l } vw vo vg
  rel : FRel { L with way := l } { M with way := l }
  gs : GsN w (m + 4) vo L.grp web M.gs
  fr : Fr (fun k => vw.ownBlock = some k) wr w
section
variable {W0 w0 wr w w' : World} {m bw : Nat} {web : List (I3 × NV)} {M0 : FM} {vw0 vo0 vg0 : Value} {L : Fin} {M : FM} {l : List (I3 × Nat)} {vw vo vg : Value}
theorem FdB.below (h : FdB m bw web L M l vw vo vg wr w) (hb : Below w.heap.size w w') : FdB m bw web L M l vw vo vg wr w' := by
  have hf : Fr (fun _ => False) w w' := ⟨hb.os, hb.tape, hb.output, hb.size, fun k hk _ => hb.block k hk⟩
  exact ⟨h.at'.below hb, h.rel, h.gs.keep hf h.at'.way h.at'.opn h.at'.grp (fun k _ q => q.elim) (Next.refl _ _), h.fr.trans hf (fun j _ q => q.elim id False.elim)⟩
theorem FdS.bump {g T c n n1 T1 : Nat} {wd : List (I3 × Nat)} {x : I3} (h : FdS W0 w0 m bw web M0 vw0 vo0 vg0 L M (.slice (some ⟨g, 0, none⟩) T c) vo vg wr) (hw : M.way = wd ++ [(x, n)]) (hT : wd.length = T1) (hn : n + 1 = n1) :
    FdB m bw web L M (wd ++ [(x, n + 1)]) (.slice (some ⟨g, 0, none⟩) T c) vo vg wr (wr.setCell ⟨g, T1 * 4 + 3, none⟩ (.int .i64 (n1 : Int))) := by
  subst hT hn
  have hgo : ∀ k, vo.ownBlock = some k → k ≠ g := fun k hk e => row_far h.at'.opn h.at'.way (by decide) k hk (by rw [e]; rfl)
  have hgg : ∀ k, vg.ownBlock = some k → k ≠ g := fun k hk e => row_far h.at'.grp h.at'.way (by decide) k hk (by rw [e]; rfl)
  have hf : Fr (fun k => (Value.slice (some ⟨g, 0, none⟩) T c).ownBlock = some k) wr (wr.setCell ⟨g, wd.length * 4 + 3, none⟩ (.int .i64 ((n + 1 : Nat) : Int))) := (Fr.set wr ⟨g, wd.length * 4 + 3, none⟩ _).mono (fun j _ q => by rw [q]; rfl)
  refine ⟨h.at'.bump (h.rel.way.trans hw) (fun j q => q.elim (hgo j) (hgg j)), h.rel.bump _, h.gs.keep hf h.at'.way h.at'.opn h.at'.grp (fun k _ q => .inl q) (Next.refl _ _), hf⟩
theorem FdB.plain (hB : FdB m bw web L M l vw vo vg wr w) (hS : FdS W0 w0 m bw web M0 vw0 vo0 vg0 L M vw vo vg wr) (e : stepM web M = { M with way := l }) : FdS W0 w0 m bw web M0 vw0 vo0 vg0 { L with way := l } (stepM web M) vw vo vg w :=
  hS.move hB.fr (fun k q => .inr (.inl q)) hB.at' (by rw [e]; exact hB.rel) (by rw [e]; exact hB.gs) (Next.refl _ _) (Next.refl _ _) (Next.refl _ _)
theorem FdB.low {x : I3} {v : Nat} (hB : FdB m bw web L M l vw vo vg wr w) (hS : FdS W0 w0 m bw web M0 vw0 vo0 vg0 L M vw vo vg wr) (e : stepM web M = { M with way := l, low := putV M.low x v }) (hf : Fr (fun k => k = m + 1) w w') (hm : MV encN w' (m + 1) (putV L.low x v)) : FdS W0 w0 m bw web M0 vw0 vo0 vg0 { L with way := l, low := putV L.low x v } (stepM web M) vw vo vg w' :=
  hS.move (hB.fr.trans hf (U := fun k => vw.ownBlock = some k ∨ k = m + 1) (fun j _ q => q)) (fun k q => q.elim (fun r => .inr (.inl r)) (fun r => .inl (by omega))) (hB.at'.setLow hf hm) (by rw [e]; exact hB.rel.setLow x v) (by rw [e]; exact hB.gs.keep hf hB.at'.way hB.at'.opn hB.at'.grp (fun k hk q => by omega) (Next.refl _ _)) (Next.refl _ _) (Next.refl _ _) (Next.refl _ _)
theorem FdB.enter {d : I3} {vw' vo' : Value} (hB : FdB m bw web L M l vw vo vg wr w) (hS : FdS W0 w0 m bw web M0 vw0 vo0 vg0 L M vw vo vg wr) (e : stepM web M = enM { M with way := l } d) (ha : FinAt w' m bw web (enF { L with way := l } d) vw' vo' vg) (hf : Fr (fun k => k = m ∨ k = m + 1 ∨ k = m + 3 ∨ vw.ownBlock = some k ∨ vo.ownBlock = some k) w w') (h1 : Next w vw vw') (h2 : Next w vo vo') :
    FdS W0 w0 m bw web M0 vw0 vo0 vg0 (enF { L with way := l } d) (stepM web M) vw' vo' vg w' :=
by
  have hg := hB.gs.keep hf hB.at'.way hB.at'.opn hB.at'.grp (fun k hk q => by
    rcases q with q | q | q | q | q
    · omega
    · omega
    · omega
    · exact .inl q
    · exact .inr (.inl q)) h2
  refine hS.move (hB.fr.trans hf (U := fun k => k = m ∨ k = m + 1 ∨ k = m + 3 ∨ vw.ownBlock = some k ∨ vo.ownBlock = some k) (fun j _ q => q.elim (fun r => .inr (.inr (.inr (.inl r)))) id)) (fun k q => ?_) ha (by rw [e]; exact hB.rel.enter d) (by rw [e]; exact hg) (fun k hk => (h1 k hk).imp id (Nat.le_trans hB.fr.size)) (fun k hk => (h2 k hk).imp id (Nat.le_trans hB.fr.size)) (Next.refl _ _)
  rcases q with q | q | q | q | q
  · exact .inl (by omega)
  · exact .inl (by omega)
  · exact .inl (by omega)
  · exact .inr (.inl q)
  · exact .inr (.inr (.inl q))
theorem lvM_gs0 {wd : List (I3 × Nat)} {x : I3} (h : numOf (lvLow M.low wd x) x ≠ numOf M.met x) : (lvM M wd x).gs = M.gs := by
  unfold lvM
  simp only
  rw [if_neg h]
theorem FdS.back {wd : List (I3 × Nat)} {x : I3} {n : Nat} {vw' : Value} (hS : FdS W0 w0 m bw web M0 vw0 vo0 vg0 L M vw vo vg w) (hw : M.way = wd ++ [(x, n)]) (hn : (stepsV web x).length ≤ n) (ha : FinAt w' m bw web (lvF L wd x) vw' vo vg) (hf : Fr (fun k => k = m + 3 ∨ k = m + 1) w w') (hv : ∀ k, vw'.ownBlock = some k → vw.ownBlock = some k) (hne : numOf (lvF L wd x).low x ≠ numOf (lvF L wd x).met x) :
    FdS W0 w0 m bw web M0 vw0 vo0 vg0 (lvF L wd x) (stepM web M) vw' vo vg w' := by
  have e := step_leave hw hn
  have e1 : (lvF L wd x).low = lvLow M.low wd x := by show lvLow L.low wd x = _; rw [hS.rel.low]
  have e2 : (lvF L wd x).met = M.met := hS.rel.met
  refine hS.move hf (fun k q => .inl (by omega)) ha (by rw [e]; exact hS.rel.back wd x hne) ?_ (fun k hk => .inl (hv k hk)) (Next.refl _ _) (Next.refl _ _)
  rw [e, lvM_gs0 (by rw [← e1, ← e2]; exact hne)]
  exact hS.gs.keep hf hS.at'.way hS.at'.opn hS.at'.grp (fun k hk q => by omega) (Next.refl _ _)
theorem FdS.group {wd : List (I3 × Nat)} {x : I3} {n : Nat} {vw' vo' vg' : Value} {pre post : List I3} {gb g7 c7 : Nat} {y1 y2 y3 : Int} {ys : List I3} (hS : FdS W0 w0 m bw web M0 vw0 vo0 vg0 L M vw vo vg w) (hw : M.way = wd ++ [(x, n)]) (hn : (stepsV web x).length ≤ n) (ho : L.opn = pre ++ x :: post) (hx : x ∉ pre)
    (ha : FinAt w' m bw web { lvF L wd x with opn := pre, of := ofAll L.of (clnI (x :: post)) gb, grp := L.grp ++ [gb] } vw' vo' vg') (hy : clnI (x :: post) = (y1, y2, y3) :: ys) (hb : Bk w' gb 90 [.slice (some ⟨g7, 0, none⟩) (clnI (x :: post)).length c7, .int .i64 y1, .int .i64 y2, .int .i64 y3, .int .i64 0, .slice none 0 0])
    (hi : IK.Own w' w.heap.size (.slice (some ⟨g7, 0, none⟩) (clnI (x :: post)).length c7) (sortL web (clnI (x :: post)))) (hgb : w.heap.size ≤ gb) (hf : Fr (fun k => k = m + 3 ∨ k = m + 1 ∨ k = m + 2 ∨ vg.ownBlock = some k) w w') (hN : Next w vg vg') (hv : ∀ k, vw'.ownBlock = some k → vw.ownBlock = some k) (hvo : ∀ k, vo'.ownBlock = some k → vo.ownBlock = some k) (hne : numOf (lvF L wd x).low x = numOf (lvF L wd x).met x) :
    FdS W0 w0 m bw web M0 vw0 vo0 vg0 { lvF L wd x with opn := pre, of := ofAll L.of (clnI (x :: post)) gb, grp := L.grp ++ [gb] } (stepM web M) vw' vo' vg' w' := by
  have e := step_leave hw hn
  obtain ⟨r1, r2⟩ := hS.rel.group wd x pre post ho hx gb hne
  refine hS.move hf (fun k q => ?_) ha (by rw [e]; exact r1) ?_ (fun k hk => .inl (hv k hk)) (fun k hk => .inl (hvo k hk)) hN
  · rcases q with q | q | q | q
    · exact .inl (by omega)
    · exact .inl (by omega)
    · exact .inl (by omega)
    · exact .inr (.inr (.inr q))
  · rw [e, r2]
    have hS1 : ∀ k, m + 4 ≤ k → (k = m + 3 ∨ k = m + 1 ∨ k = m + 2 ∨ vg.ownBlock = some k) → vw.ownBlock = some k ∨ vo.ownBlock = some k ∨ vg.ownBlock = some k := fun k hk q => by
      rcases q with q | q | q | q
      · omega
      · omega
      · omega
      · exact .inr (.inr q)
    have hk := hS.gs.keep hf hS.at'.way hS.at'.opn hS.at'.grp hS1 (vo' := vo') (fun k hk => .inl (hvo k hk))
    refine hk.snoc (fun q => ?_) ⟨by rw [hy] at hb ⊢; exact hb, hi.base hS.sz, Nat.le_trans hS.sz hgb⟩ (fun k hk1 hk2 => ?_)
    · have := (hS.gs.lt gb q).1
      omega
    · have h1 := hi.from k hk1
      have h2 := (hS.at'.opn.blk k (hvo k hk2)).1
      omega
end
end Go.Proofs.Ytlckjpjcfalfnaa
namespace Go.Proofs.Ytlckjpjcfalfnaa
open Go.RowKit Go.Sort
open Go.WideMaps
set_option linter.unusedSimpArgs false
set_option linter.unusedVariables false
set_option maxRecDepth 100000

def gp0 : Gp := ⟨[], (0, 0, 0), 0, []⟩
/-- One group is another one. -/
def upG {α : Type} (G : Nat → α) (i : Nat) (x : α) : Nat → α := fun t => if t = i then x else G t
theorem upG_same {α : Type} (G : Nat → α) (i : Nat) (x : α) : upG G i x i = x := if_pos rfl
theorem upG_else {α : Type} (G : Nat → α) (x : α) {i t : Nat} (h : t ≠ i) : upG G i x t = G t := if_neg h
/-- Groups behind the finder's pointers: the rows of those behind them lie apart, and apart from the finder's. -/
structure GsL (w : World) (base : Nat) (vg : Value) (bs : List Nat) (N : Nat) (G : Nat → Gp) (vi vb : Nat → Value) : Prop where
  len : bs.length = N
  nodup : bs.Nodup
  at' : ∀ j, j < N → GrpAt w base (bs.getD j 0) (G j).ids (G j).lst (G j).wt ((G j).bh.map fun i => bs.getD i 0) (vi j) (vb j)
  far : ∀ i j, i < N → j < N → i ≠ j → ∀ k, (vb i).ownBlock = some k → (vb j).ownBlock ≠ some k
  farg : ∀ j, j < N → ∀ k, (vb j).ownBlock = some k → vg.ownBlock ≠ some k
theorem getD_at {α : Type} {l : List α} {i : Nat} {d : α} (h : i < l.length) : l.getD i d = l[i] := by simp [List.getD, h]
theorem getD_inj {bs : List Nat} (h : bs.Nodup) {i j : Nat} (hi : i < bs.length) (hj : j < bs.length) (e : bs.getD i 0 = bs.getD j 0) : i = j := by
  rw [getD_at hi, getD_at hj] at e
  rcases Nat.lt_trichotomy i j with q | q | q
  · exact absurd e (List.pairwise_iff_getElem.1 h i j hi hj q)
  · exact q
  · exact absurd e.symm (List.pairwise_iff_getElem.1 h j i hj hi q)
theorem GsL.keep {S : Nat → Prop} {w w' : World} {base : Nat} {vg : Value} {bs : List Nat} {N : Nat} {G : Nat → Gp} {vi vb : Nat → Value} (h : GsL w base vg bs N G vi vb) (hf : Fr S w w') (h1 : ∀ j, j < N → ¬ S (bs.getD j 0)) (h2 : ∀ j, j < N → ∀ k, (vi j).ownBlock = some k → ¬ S k) (h3 : ∀ j, j < N → ∀ k, (vb j).ownBlock = some k → ¬ S k) : GsL w' base vg bs N G vi vb :=
  ⟨h.len, h.nodup, fun j hj => hf.grpAt (h.at' j hj) (h1 j hj) (h2 j hj) (h3 j hj), h.far, h.farg⟩
theorem GsL.below {w w' : World} {base : Nat} {vg : Value} {bs : List Nat} {N : Nat} {G : Nat → Gp} {vi vb : Nat → Value} (h : GsL w base vg bs N G vi vb) (hb : Below w.heap.size w w') : GsL w' base vg bs N G vi vb :=
  h.keep (S := fun _ => False) ⟨hb.os, hb.tape, hb.output, hb.size, fun k hk _ => hb.block k hk⟩ (fun _ _ q => q) (fun _ _ _ _ q => q) (fun _ _ _ _ q => q)
/-- What a row of pointers that is no group's grows by is nothing to the groups. -/
theorem GsL.row {w w' : World} {base : Nat} {vg v : Value} {l : List Nat} {b2 : Nat} {bs : List Nat} {N : Nat} {G : Nat → Gp} {vi vb : Nat → Value} (h : GsL w base vg bs N G vi vb) (hv : PK.Own w b2 v l) (hf : Fr (fun k => v.ownBlock = some k) w w') (hn : ∀ j, j < N → ∀ k, (vb j).ownBlock = some k → v.ownBlock ≠ some k) : GsL w' base vg bs N G vi vb :=
  h.keep hf (fun j hj => row_far0 hv (h.at' j hj).bk (by decide)) (fun j hj k hk q => row_far (h.at' j hj).ids hv (by decide) k hk q) (fun j hj k hk q => hn j hj k hk q)
/-- 'g.behind = append(g.behind, x)'. -/
theorem GsL.app {w w1 : World} {base : Nat} {vg v : Value} {bs : List Nat} {N : Nat} {G : Nat → Gp} {vi vb : Nat → Value} (h : GsL w base vg bs N G vi vb) {i x : Nat} (hi : i < N) (ho : PK.Own w1 base v ((G i).bh.map (fun i => bs.getD i 0) ++ [bs.getD x 0])) (hf : Fr (fun k => (vb i).ownBlock = some k) w w1) (hN : Next w (vb i) v) (hvg : ∀ k, vg.ownBlock = some k → k < w.heap.size) :
    GsL (w1.setCell ⟨bs.getD i 0, 5, none⟩ v) base vg bs N (upG G i { G i with bh := (G i).bh ++ [x] }) vi (upG vb i v) := by
  have hbi := h.at' i hi
  have hs := Fr.set w1 ⟨bs.getD i 0, 5, none⟩ v
  have hb1 : Bk w1 (bs.getD i 0) 90 _ := hf.bk hbi.bk (row_far0 hbi.bh hbi.bk (by decide))
  refine ⟨h.len, h.nodup, fun j hj => ?_, fun a b ha hb hab k hk => ?_, fun j hj k hk => ?_⟩
  · by_cases e : j = i
    · subst e
      rw [upG_same, upG_same]
      refine ⟨hb1.set 5 v, hs.own (hf.own hbi.ids (fun k hk q => row_far hbi.ids hbi.bh (by decide) k hk q)) (fun k hk q => ?_), ?_, hbi.lo⟩
      · subst q
        exact row_far0 (hf.own hbi.ids (fun k hk q => row_far hbi.ids hbi.bh (by decide) k hk q)) hb1 (by decide) hk
      · show PK.Own _ base v (((G j).bh ++ [x]).map _)
        rw [List.map_append]
        exact hs.own ho (fun k hk q => row_far0 ho hb1 (by decide) (by rw [hk, q]))
    · rw [upG_else _ _ e, upG_else _ _ e]
      have hbj := h.at' j hj
      have hne : bs.getD j 0 ≠ bs.getD i 0 := fun q => e (getD_inj h.nodup (by rw [h.len]; exact hj) (by rw [h.len]; exact hi) q)
      have g1 := hf.grpAt hbj (row_far0 hbi.bh hbj.bk (by decide)) (fun k hk q => row_far hbj.ids hbi.bh (by decide) k hk q) (fun k hk q => h.far j i hj hi e k hk q)
      exact hs.grpAt g1 hne (fun k hk q => row_far0 g1.ids hb1 (by decide) (by rw [hk, q])) (fun k hk q => row_far0 g1.bh hb1 (by decide) (by rw [hk, q]))
  · by_cases e1 : a = i
    · subst e1
      rw [upG_same] at hk
      rw [upG_else _ _ (fun r => hab r.symm)]
      rcases hN k hk with q | q
      · exact h.far a b ha hb hab k q
      · intro r
        have := ((h.at' b hb).bh.blk k r).1
        omega
    · rw [upG_else _ _ e1] at hk
      by_cases e2 : b = i
      · subst e2
        rw [upG_same]
        intro r
        rcases hN k r with q | q
        · exact h.far a b ha hb hab k hk q
        · have := ((h.at' a ha).bh.blk k hk).1
          omega
      · rw [upG_else _ _ e2]
        exact h.far a b ha hb hab k hk
  · by_cases e : j = i
    · subst e
      rw [upG_same] at hk
      rcases hN k hk with q | q
      · exact h.farg j hj k q
      · intro r
        have := hvg k r
        omega
    · rw [upG_else _ _ e] at hk
      exact h.farg j hj k hk
/-- 'g.waits' is set. -/
theorem GsL.wait {w : World} {base : Nat} {vg : Value} {bs : List Nat} {N : Nat} {G : Nat → Gp} {vi vb : Nat → Value} (h : GsL w base vg bs N G vi vb) {i n : Nat} (hi : i < N) :
    GsL (w.setCell ⟨bs.getD i 0, 4, none⟩ (.int .i64 (n : Int))) base vg bs N (upG G i { G i with wt := n }) vi vb := by
  have hbi := h.at' i hi
  have hs := Fr.set w ⟨bs.getD i 0, 4, none⟩ (.int .i64 (n : Int))
  refine ⟨h.len, h.nodup, fun j hj => ?_, h.far, h.farg⟩
  have hbj := h.at' j hj
  by_cases e : j = i
  · subst e
    rw [upG_same]
    exact ⟨hbi.bk.set 4 _, hs.own hbi.ids (fun k hk q => row_far0 hbi.ids hbi.bk (by decide) (by rw [hk, q])), hs.own hbi.bh (fun k hk q => row_far0 hbi.bh hbi.bk (by decide) (by rw [hk, q])), hbi.lo⟩
  · rw [upG_else _ _ e]
    have hne : bs.getD j 0 ≠ bs.getD i 0 := fun q => e (getD_inj h.nodup (by rw [h.len]; exact hj) (by rw [h.len]; exact hi) q)
    exact hs.grpAt hbj hne (fun k hk q => row_far0 hbj.ids hbi.bk (by decide) (by rw [hk, q])) (fun k hk q => row_far0 hbj.bh hbi.bk (by decide) (by rw [hk, q]))
/-- What find leaves. -/
def gsOf (web : List (I3 × NV)) (gs : List (List I3)) (j : Nat) : Gp := ⟨sortL web (gs.getD j []), (gs.getD j []).headD (0, 0, 0), 0, []⟩
theorem GsN.gsL {w : World} {base : Nat} {vo vg : Value} {bs : List Nat} {web : List (I3 × NV)} {gs : List (List I3)} (h : GsN w base vo bs web gs) : ∃ vi, GsL w base vg bs gs.length (gsOf web gs) vi (fun _ => .slice none 0 0) := by
  have hc : ∀ j, ∃ vi, j < gs.length → GN w base (bs.getD j 0) web (gs.getD j []) vi := fun j => by
    by_cases hj : j < gs.length
    · have hb : j < bs.length := by rw [h.len]; exact hj
      obtain ⟨vi, h1, _⟩ := h.at' j hb hj
      refine ⟨vi, fun _ => ?_⟩
      rw [getD_at hb, getD_at hj]
      exact h1
    · exact ⟨.int .i64 0, fun q => absurd q hj⟩
  obtain ⟨vi, hvi⟩ := Classical.axiomOfChoice hc
  refine ⟨vi, h.len, h.nodup, fun j hj => ?_, (fun _ _ _ _ _ k hk => by cases hk), (fun _ _ k hk => by cases hk)⟩
  have q := hvi j hj
  exact ⟨q.bk, q.ids, Knd.Own.nil _ _, q.lo⟩
/-- What link and inOrder keep. -/
structure LkS (W0 : World) (m bw : Nat) (web : List (I3 × NV)) (L : Fin) (vw vo vg : Value) (N : Nat) (G : Nat → Gp) (vi vb : Nat → Value) (w : World) : Prop where
  fin : FinAt w m bw web L vw vo vg
  gs : GsL w (m + 4) vg L.grp N G vi vb
  lo : W0.heap.size ≤ m
  sz : m + 4 ≤ w.heap.size
  bel : Below W0.heap.size W0 w
section
variable {W0 w w' : World} {m bw : Nat} {web : List (I3 × NV)} {L : Fin} {vw vo vg : Value} {N : Nat} {G : Nat → Gp} {vi vb : Nat → Value}
theorem LkS.below (h : LkS W0 m bw web L vw vo vg N G vi vb w) (hb : Below w.heap.size w w') : LkS W0 m bw web L vw vo vg N G vi vb w' :=
  ⟨h.fin.below hb, h.gs.below hb, h.lo, Nat.le_trans h.sz hb.size, h.bel.trans (hb.mono h.bel.size)⟩
theorem LkS.row {v : Value} {l : List Nat} (h : LkS W0 m bw web L vw vo vg N G vi vb w) (hv : PK.Own w (m + 4) v l) (hf : Fr (fun k => v.ownBlock = some k) w w') (hn : ∀ j, j < N → ∀ k, (vb j).ownBlock = some k → v.ownBlock ≠ some k) (hg : ∀ k, vg.ownBlock = some k → v.ownBlock ≠ some k) : LkS W0 m bw web L vw vo vg N G vi vb w' :=
  ⟨hf.fin h.fin (fun k hk => hv.from k hk) (fun k hk => ⟨fun q => row_far h.fin.way hv (by decide) k q hk, fun q => row_far h.fin.opn hv (by decide) k q hk, fun q => hg k q hk⟩), h.gs.row hv hf hn, h.lo, Nat.le_trans h.sz hf.size, h.bel.trans (hf.to h.bel.size fun k hk q => by have := hv.from k q; have := h.lo; omega)⟩
theorem LkS.app {w1 : World} {v : Value} {i x : Nat} (h : LkS W0 m bw web L vw vo vg N G vi vb w) (hi : i < N) (ho : PK.Own w1 (m + 4) v ((G i).bh.map (fun i => L.grp.getD i 0) ++ [L.grp.getD x 0])) (hf : Fr (fun k => (vb i).ownBlock = some k) w w1) (hN : Next w (vb i) v) :
    LkS W0 m bw web L vw vo vg N (upG G i { G i with bh := (G i).bh ++ [x] }) vi (upG vb i v) (w1.setCell ⟨L.grp.getD i 0, 5, none⟩ v) := by
  have hbi := h.gs.at' i hi
  have hs := Fr.set w1 ⟨L.grp.getD i 0, 5, none⟩ v
  have hf1 := hf.fin h.fin (fun k hk => hbi.bh.from k hk) (fun k hk => ⟨fun q => row_far h.fin.way hbi.bh (by decide) k q hk, fun q => row_far h.fin.opn hbi.bh (by decide) k q hk, fun q => h.gs.farg i hi k hk q⟩)
  have hb1 := hf.bk hbi.bk (row_far0 hbi.bh hbi.bk (by decide))
  have hb := hbi.lo
  have hl := h.lo
  refine ⟨hs.fin hf1 (fun k hk => by subst hk; exact hbi.lo) (fun k hk => by
    subst hk
    exact ⟨row_far0 hf1.way hb1 (by decide), row_far0 hf1.opn hb1 (by decide), row_far0 hf1.grp hb1 (by decide)⟩), h.gs.app hi ho hf hN (fun k hk => (h.fin.grp.blk k hk).1), h.lo, Nat.le_trans h.sz (Nat.le_trans hf.size hs.size), ?_⟩
  exact (h.bel.trans (hf.to h.bel.size fun k hk q => by have := hbi.bh.from k q; omega)).trans (hs.to (Nat.le_trans h.bel.size hf.size) fun k hk q => by simp only at q; omega)
theorem LkS.wait {i n : Nat} (h : LkS W0 m bw web L vw vo vg N G vi vb w) (hi : i < N) : LkS W0 m bw web L vw vo vg N (upG G i { G i with wt := n }) vi vb (w.setCell ⟨L.grp.getD i 0, 4, none⟩ (.int .i64 (n : Int))) := by
  have hbi := h.gs.at' i hi
  have hs := Fr.set w ⟨L.grp.getD i 0, 4, none⟩ (.int .i64 (n : Int))
  have hb := hbi.lo
  have hl := h.lo
  exact ⟨hs.fin h.fin (fun k hk => by subst hk; exact hbi.lo) (fun k hk => by
    subst hk
    exact ⟨row_far0 h.fin.way hbi.bk (by decide), row_far0 h.fin.opn hbi.bk (by decide), row_far0 h.fin.grp hbi.bk (by decide)⟩), h.gs.wait hi, h.lo, Nat.le_trans h.sz hs.size, h.bel.trans (hs.to h.bel.size fun k hk q => by simp only at q; omega)⟩
end
/-- link, plainly. -/
def lkD (ofi : List (I3 × Nat)) (j : Nat) (G : Nat → Gp) (d : I3) : Nat → Gp :=
  match getV ofi d with
  | none => G
  | some i => if i = j then G else
    let G1 := upG G i { G i with bh := (G i).bh ++ [j] }
    upG G1 j { G1 j with wt := (G1 j).wt + 1 }
def lkX (web : List (I3 × NV)) (ofi : List (I3 × Nat)) (j : Nat) (G : Nat → Gp) (x : I3) : Nat → Gp := (stepsV web x).foldl (lkD ofi j) G
def lkG (web : List (I3 × NV)) (ofi : List (I3 × Nat)) (ids : Nat → List I3) (G : Nat → Gp) (j : Nat) : Nat → Gp := (ids j).foldl (lkX web ofi j) G
theorem foldl_snoc_take {α β : Type} (f : β → α → β) (b : β) (l : List α) (k : Nat) (hk : k < l.length) : (l.take (k + 1)).foldl f b = f ((l.take k).foldl f b) l[k] := by
  rw [List.take_succ_eq_append_getElem hk, List.foldl_append]
  rfl
/-- What link leaves as it is, and how much it adds at most. -/
structure LkB (ids : Nat → List I3) (lst : Nat → I3) (c : Nat) (G : Nat → Gp) : Prop where
  ids : ∀ t, (G t).ids = ids t
  lst : ∀ t, (G t).lst = lst t
  wt : ∀ t, (G t).wt ≤ c
  bh : ∀ t, (G t).bh.length ≤ c
theorem LkB.more {ids : Nat → List I3} {lst : Nat → I3} {c d : Nat} {G : Nat → Gp} (h : LkB ids lst c G) (hd : c ≤ d) : LkB ids lst d G := ⟨h.ids, h.lst, fun t => Nat.le_trans (h.wt t) hd, fun t => Nat.le_trans (h.bh t) hd⟩
theorem LkB.step {ids : Nat → List I3} {lst : Nat → I3} {c : Nat} {G : Nat → Gp} (h : LkB ids lst c G) (i j : Nat) :
    LkB ids lst (c + 1) (upG (upG G i { G i with bh := (G i).bh ++ [j] }) j { upG G i { G i with bh := (G i).bh ++ [j] } j with wt := (upG G i { G i with bh := (G i).bh ++ [j] } j).wt + 1 }) := by
  have h1 : LkB ids lst (c + 1) (upG G i { G i with bh := (G i).bh ++ [j] }) := by
    refine ⟨fun t => ?_, fun t => ?_, fun t => ?_, fun t => ?_⟩ <;> (unfold upG; split)
    · rename_i e; rw [e]; exact h.ids i
    · exact h.ids t
    · rename_i e; rw [e]; exact h.lst i
    · exact h.lst t
    · exact Nat.le_succ_of_le (h.wt i)
    · exact Nat.le_succ_of_le (h.wt t)
    · have := h.bh i; simp; omega
    · exact Nat.le_succ_of_le (h.bh t)
  have hw : (upG G i { G i with bh := (G i).bh ++ [j] } j).wt ≤ c := by
    unfold upG
    split
    · exact h.wt i
    · exact h.wt j
  generalize upG G i { G i with bh := (G i).bh ++ [j] } = G1 at h1 hw ⊢
  refine ⟨fun t => ?_, fun t => ?_, fun t => ?_, fun t => ?_⟩ <;> (unfold upG; split)
  · rename_i e; rw [e]; exact h1.ids j
  · exact h1.ids t
  · rename_i e; rw [e]; exact h1.lst j
  · exact h1.lst t
  · simp; omega
  · exact h1.wt t
  · exact h1.bh j
  · exact h1.bh t
end Go.Proofs.Ytlckjpjcfalfnaa
namespace Go.Proofs.Ytlckjpjcfalfnaa
open Go.RowKit Go.Sort
open Go.WideMaps
set_option linter.unusedSimpArgs false
set_option linter.unusedVariables false
set_option maxRecDepth 100000

/-- Which of the free ones comes first, behind k looks. -/
def pick (lst : Nat → I3) (F : List Nat) : Nat → Nat
  | 0 => 0
  | k + 1 => if ltI (lst (F.getD k 0)) (lst (F.getD (pick lst F k) 0)) then k else pick lst F k
theorem pick_succ (lst : Nat → I3) (F : List Nat) (k : Nat) : pick lst F (k + 1) = if ltI (lst (F.getD k 0)) (lst (F.getD (pick lst F k) 0)) then k else pick lst F k := rfl
theorem pick_lt (lst : Nat → I3) (F : List Nat) : ∀ k, 0 < F.length → k ≤ F.length → pick lst F k < F.length
  | 0, h, _ => h
  | k + 1, h, hk => by
    unfold pick
    split
    · omega
    · exact pick_lt lst F k h (by omega)
theorem pick_least (lst : Nat → I3) (F : List Nat) : ∀ k, ∀ i, i < k → ltI (lst (F.getD i 0)) (lst (F.getD (pick lst F k) 0)) = false
  | 0, i, h => absurd h (Nat.not_lt_zero _)
  | k + 1, i, h => by
    unfold pick
    split
    · rename_i hk
      by_cases e : i = k
      · subst e; exact ltI_irrefl _
      · have ih := pick_least lst F k i (by omega)
        cases q : ltI (lst (F.getD i 0)) (lst (F.getD k 0))
        · rfl
        · rw [ltI_trans q hk] at ih; cases ih
    · rename_i hk
      by_cases e : i = k
      · subst e; simpa using hk
      · exact pick_least lst F k i (by omega)
structure KS where
  F : List Nat
  wt : Nat → Nat
  out : List Nat
def kdec (s : List Nat × (Nat → Nat)) (b : Nat) : List Nat × (Nat → Nat) := (if s.2 b - 1 = 0 then s.1 ++ [b] else s.1, upG s.2 b (s.2 b - 1))
def kstep (lst : Nat → I3) (E : Nat → List Nat) (S : KS) : KS :=
  if S.F = [] then S else
    let g := S.F.getD (pick lst S.F S.F.length) 0
    let r := (E g).foldl kdec (S.F.eraseIdx (pick lst S.F S.F.length), S.wt)
    ⟨r.1, r.2, S.out ++ [g]⟩
/-- For how many of those that did not come yet one waits. -/
def rem (N : Nat) (E : Nat → List Nat) (out : List Nat) (j : Nat) : Nat := ((List.range N).map fun i => if i ∈ out then 0 else (E i).count j).sum
theorem sum_one {g : Nat} (f f' : Nat → Nat) (c : Nat) (hg : f g = f' g + c) (he : ∀ i, i ≠ g → f i = f' i) : ∀ (l : List Nat), l.Nodup → (l.map f).sum = (l.map f').sum + if g ∈ l then c else 0
  | [], _ => by simp
  | a :: l, hn => by
    have hn2 := List.nodup_cons.1 hn
    have ih := sum_one f f' c hg he l hn2.2
    rw [List.map_cons, List.map_cons, List.sum_cons, List.sum_cons, ih]
    by_cases e : a = g
    · subst e
      rw [if_neg hn2.1, if_pos (List.mem_cons_self ..), hg]
      omega
    · rw [he a e]
      by_cases q : g ∈ l
      · rw [if_pos q, if_pos (List.mem_cons_of_mem _ q)]; omega
      · rw [if_neg q, if_neg (by simp [q]; exact fun r => e r.symm)]; omega
theorem rem_out {N : Nat} {E : Nat → List Nat} {out : List Nat} {g : Nat} (hg : g < N) (ho : g ∉ out) (j : Nat) : rem N E out j = rem N E (out ++ [g]) j + (E g).count j := by
  unfold rem
  have q := sum_one (g := g) (fun i => if i ∈ out then 0 else (E i).count j) (fun i => if i ∈ out ++ [g] then 0 else (E i).count j) ((E g).count j) (by simp [ho]) (fun i hi => by simp [hi]) (List.range N) List.nodup_range
  rw [if_pos (List.mem_range.2 hg)] at q
  exact q
theorem sum_le_mul {c : Nat} (f : Nat → Nat) (h : ∀ i, f i ≤ c) : ∀ (l : List Nat), (l.map f).sum ≤ l.length * c
  | [] => by simp
  | a :: l => by
    have ih := sum_le_mul f h l
    have := h a
    rw [List.map_cons, List.sum_cons, List.length_cons, Nat.add_mul]
    omega
theorem rem_le {c N : Nat} {E : Nat → List Nat} (h : ∀ i, (E i).length ≤ c) (out : List Nat) (j : Nat) : rem N E out j ≤ N * c := by
  have q := sum_le_mul (c := c) (fun i => if i ∈ out then 0 else (E i).count j) (fun i => by
    split
    · exact Nat.zero_le _
    · exact Nat.le_trans List.count_le_length (h i)) (List.range N)
  rwa [List.length_range] at q
/-- Who waits for nobody is free, or came. -/
structure KI (N : Nat) (E : Nat → List Nat) (ex : List Nat) (F : List Nat) (wt : Nat → Nat) (out : List Nat) : Prop where
  nd : (out ++ F).Nodup
  lt : ∀ j ∈ out ++ F, j < N
  wt' : ∀ j, wt j = rem N E out j + ex.count j
  mem : ∀ j, j < N → (wt j = 0 ↔ j ∈ out ++ F)
theorem KI.dec {N : Nat} {E : Nat → List Nat} {b : Nat} {ex F : List Nat} {wt : Nat → Nat} {out : List Nat} (h : KI N E (b :: ex) F wt out) (hb : b < N) : 0 < wt b ∧ KI N E ex (kdec (F, wt) b).1 (kdec (F, wt) b).2 out := by
  have hw := h.wt' b
  rw [List.count_cons_self] at hw
  have hp : 0 < wt b := by omega
  have hnm : b ∉ out ++ F := fun q => by have := (h.mem b hb).2 q; omega
  have hw2 : ∀ j, upG wt b (wt b - 1) j = rem N E out j + ex.count j := fun j => by
    by_cases e : j = b
    · subst e; rw [upG_same]; omega
    · rw [upG_else _ _ e, h.wt' j, List.count_cons_of_ne (fun r => e r.symm)]
  refine ⟨hp, ?_⟩
  unfold kdec
  simp only
  by_cases hz : wt b - 1 = 0
  · rw [if_pos hz]
    refine ⟨?_, fun j hj => ?_, hw2, fun j hj => ?_⟩
    · rw [← List.append_assoc, List.nodup_append]
      exact ⟨h.nd, by simp, fun a ha c hc => by simp at hc; subst hc; exact fun e => hnm (e ▸ ha)⟩
    · rw [← List.append_assoc] at hj
      rcases List.mem_append.1 hj with q | q
      · exact h.lt j q
      · simp at q; rw [q]; exact hb
    · rw [← List.append_assoc, List.mem_append]
      by_cases e : j = b
      · subst e; rw [upG_same]; simp [hz]
      · rw [upG_else _ _ e, h.mem j hj]; simp [e]
  · rw [if_neg hz]
    refine ⟨h.nd, h.lt, hw2, fun j hj => ?_⟩
    by_cases e : j = b
    · subst e
      rw [upG_same]
      exact ⟨fun q => absurd q hz, fun q => absurd q hnm⟩
    · rw [upG_else _ _ e]; exact h.mem j hj
theorem mem_erase_at {F : List Nat} {a j : Nat} (ha : a < F.length) (hn : F.Nodup) : j ∈ F ↔ j = F.getD a 0 ∨ j ∈ F.eraseIdx a := by
  have e : F = F.take a ++ F[a] :: F.drop (a + 1) := by rw [← List.drop_eq_getElem_cons ha, List.take_append_drop]
  rw [getD_at ha, List.eraseIdx_eq_take_drop_succ, List.mem_append]
  conv => lhs; rw [e]
  rw [List.mem_append, List.mem_cons]
  constructor
  · rintro (q | q | q)
    · exact .inr (.inl q)
    · exact .inl q
    · exact .inr (.inr q)
  · rintro (q | q | q)
    · exact .inr (.inl q)
    · exact .inl q
    · exact .inr (.inr q)
theorem not_erase {F : List Nat} {a : Nat} (ha : a < F.length) (hn : F.Nodup) : F.getD a 0 ∉ F.eraseIdx a := by
  have e : F = F.take a ++ F[a] :: F.drop (a + 1) := by rw [← List.drop_eq_getElem_cons ha, List.take_append_drop]
  rw [getD_at ha, List.eraseIdx_eq_take_drop_succ, List.mem_append]
  rw [e, List.nodup_append, List.nodup_cons] at hn
  rintro (q | q)
  · exact hn.2.2 _ q _ (List.mem_cons_self ..) rfl
  · exact hn.2.1.1 q
theorem KI.take {N : Nat} {E : Nat → List Nat} {F : List Nat} {wt : Nat → Nat} {out : List Nat} (h : KI N E [] F wt out) {a : Nat} (ha : a < F.length) : KI N E (E (F.getD a 0)) (F.eraseIdx a) wt (out ++ [F.getD a 0]) ∧ F.getD a 0 < N := by
  have hnd := List.nodup_append.1 h.nd
  have hg : F.getD a 0 ∈ F := (mem_erase_at ha hnd.2.1).2 (.inl rfl)
  have hgN := h.lt _ (List.mem_append_right _ hg)
  have hgo : F.getD a 0 ∉ out := fun q => hnd.2.2 _ q _ hg rfl
  have hm : ∀ j, j ∈ (out ++ [F.getD a 0]) ++ F.eraseIdx a ↔ j ∈ out ++ F := fun j => by
    rw [List.mem_append, List.mem_append, List.mem_append, mem_erase_at ha hnd.2.1, List.mem_singleton, or_assoc]
  refine ⟨⟨?_, fun j hj => h.lt j ((hm j).1 hj), fun j => ?_, fun j hj => by rw [hm]; exact h.mem j hj⟩, hgN⟩
  · rw [List.append_assoc, List.nodup_append]
    refine ⟨hnd.1, ?_, fun x hx y hy e => ?_⟩
    · rw [List.singleton_append, List.nodup_cons]
      exact ⟨not_erase ha hnd.2.1, hnd.2.1.sublist (List.eraseIdx_sublist ..)⟩
    · rw [List.singleton_append, List.mem_cons] at hy
      exact hnd.2.2 x hx y ((mem_erase_at ha hnd.2.1).2 hy) e
  · rw [h.wt' j, rem_out hgN hgo]
    simp
theorem KI.decs {N : Nat} {E : Nat → List Nat} {out : List Nat} : ∀ (l ex F : List Nat) (wt : Nat → Nat), KI N E (l ++ ex) F wt out → (∀ b ∈ l, b < N) → KI N E ex (l.foldl kdec (F, wt)).1 (l.foldl kdec (F, wt)).2 out
  | [], ex, F, wt, h, _ => h
  | b :: l, ex, F, wt, h, hl => by
    rw [List.foldl_cons]
    exact KI.decs l ex _ _ (h.dec (hl b (List.mem_cons_self ..))).2 (fun c hc => hl c (List.mem_cons_of_mem _ hc))
theorem KI.step {N : Nat} {E : Nat → List Nat} {S : KS} (lst : Nat → I3) (h : KI N E [] S.F S.wt S.out) (hE : ∀ i, i < N → ∀ b ∈ E i, b < N) : KI N E [] (kstep lst E S).F (kstep lst E S).wt (kstep lst E S).out := by
  unfold kstep
  split
  · exact h
  · rename_i hne
    have hp : 0 < S.F.length := List.length_pos_iff.2 hne
    obtain ⟨h1, h2⟩ := h.take (pick_lt lst S.F S.F.length hp (Nat.le_refl _))
    exact KI.decs _ [] _ _ (by rw [List.append_nil]; exact h1) (hE _ h2)
/-- What link did: who waits how often, and for whom. -/
structure LkW (N : Nat) (G : Nat → Gp) : Prop where
  wt : ∀ j, (G j).wt = ((List.range N).map fun i => (G i).bh.count j).sum
  bh : ∀ i, ∀ b ∈ (G i).bh, b < N
theorem LkW.step {N : Nat} {G : Nat → Gp} (h : LkW N G) {i j : Nat} (hi : i < N) (hj : j < N) (hij : i ≠ j) : LkW N (upG (upG G i { G i with bh := (G i).bh ++ [j] }) j { upG G i { G i with bh := (G i).bh ++ [j] } j with wt := (upG G i { G i with bh := (G i).bh ++ [j] } j).wt + 1 }) := by
  have hji : j ≠ i := fun e => hij e.symm
  have e0 : upG G i { G i with bh := (G i).bh ++ [j] } j = G j := upG_else _ _ hji
  rw [e0]
  have hb : ∀ t, (upG (upG G i { G i with bh := (G i).bh ++ [j] }) j { G j with wt := (G j).wt + 1 } t).bh = if t = i then (G i).bh ++ [j] else (G t).bh := fun t => by
    by_cases e1 : t = j
    · subst e1; rw [upG_same, if_neg hji]
    · rw [upG_else _ _ e1]
      by_cases e2 : t = i
      · subst e2; rw [upG_same, if_pos rfl]
      · rw [upG_else _ _ e2, if_neg e2]
  have hw : ∀ t, (upG (upG G i { G i with bh := (G i).bh ++ [j] }) j { G j with wt := (G j).wt + 1 } t).wt = (G t).wt + if t = j then 1 else 0 := fun t => by
    by_cases e1 : t = j
    · subst e1; rw [upG_same, if_pos rfl]
    · rw [upG_else _ _ e1, if_neg e1]
      by_cases e2 : t = i
      · subst e2; rw [upG_same]; rfl
      · rw [upG_else _ _ e2]; rfl
  refine ⟨fun t => ?_, fun t b hbm => ?_⟩
  · rw [hw, h.wt t]
    have q := sum_one (g := i) (fun i' => ((upG (upG G i { G i with bh := (G i).bh ++ [j] }) j { G j with wt := (G j).wt + 1 } i').bh).count t) (fun i' => (G i').bh.count t) (if t = j then 1 else 0) (by
      simp only [hb, if_true, List.count_append]
      by_cases e : t = j
      · subst e; simp
      · rw [if_neg e, List.count_singleton]
        simp
        exact fun r => e r.symm) (fun i' hi' => by simp only [hb, if_neg hi']) (List.range N) List.nodup_range
    rw [if_pos (List.mem_range.2 hi)] at q
    exact q.symm
  · rw [hb] at hbm
    split at hbm
    · rcases List.mem_append.1 hbm with q | q
      · exact h.bh i b q
      · simp at q; rw [q]; exact hj
    · exact h.bh t b hbm
theorem LkW.dep {N : Nat} {ofi : List (I3 × Nat)} (ho : ∀ x i, getV ofi x = some i → i < N) {j : Nat} (hj : j < N) {G : Nat → Gp} (h : LkW N G) (d : I3) : LkW N (lkD ofi j G d) := by
  unfold lkD
  split
  · exact h
  · rename_i i hi
    split
    · exact h
    · rename_i hne
      exact h.step (ho d i hi) hj hne
theorem LkW.fold {α : Type} {N : Nat} (f : (Nat → Gp) → α → Nat → Gp) (hf : ∀ G a, LkW N G → LkW N (f G a)) : ∀ (l : List α) (G : Nat → Gp), LkW N G → LkW N (l.foldl f G)
  | [], G, h => h
  | a :: l, G, h => by rw [List.foldl_cons]; exact LkW.fold f hf l _ (hf G a h)
theorem LkW.all {N : Nat} {web : List (I3 × NV)} {ofi : List (I3 × Nat)} (ho : ∀ x i, getV ofi x = some i → i < N) (ids : Nat → List I3) {G : Nat → Gp} (h : LkW N G) : ∀ (l : List Nat), (∀ j ∈ l, j < N) → LkW N (l.foldl (lkG web ofi ids) G) := by
  intro l
  induction l generalizing G with
  | nil => exact fun _ => h
  | cons j l ih =>
    intro hl
    rw [List.foldl_cons]
    refine ih ?_ (fun k hk => hl k (List.mem_cons_of_mem _ hk))
    exact LkW.fold _ (fun G x hG => LkW.fold _ (fun G d hG => hG.dep ho (hl j (List.mem_cons_self ..)) d) _ _ hG) _ _ h
def mkG (ids : Nat → List I3) (lst : Nat → I3) (E : Nat → List Nat) (wt : Nat → Nat) : Nat → Gp := fun j => ⟨ids j, lst j, wt j, E j⟩
theorem mkG_up (ids : Nat → List I3) (lst : Nat → I3) (E : Nat → List Nat) (wt : Nat → Nat) (b n : Nat) : upG (mkG ids lst E wt) b { mkG ids lst E wt b with wt := n } = mkG ids lst E (upG wt b n) := by
  funext t
  unfold upG mkG
  split <;> simp_all
theorem mkG_of {ids : Nat → List I3} {lst : Nat → I3} {c : Nat} {G : Nat → Gp} (h : LkB ids lst c G) : G = mkG ids lst (fun t => (G t).bh) (fun t => (G t).wt) := by
  funext t
  unfold mkG
  rw [← h.ids t, ← h.lst t]
theorem KI.start {N : Nat} {G : Nat → Gp} (h : LkW N G) : KI N (fun t => (G t).bh) [] ((List.range N).filter fun j => decide ((G j).wt = 0)) (fun t => (G t).wt) [] := by
  refine ⟨?_, fun j hj => ?_, fun j => ?_, fun j hj => ?_⟩
  · rw [List.nil_append]; exact List.nodup_range.sublist (List.filter_sublist ..)
  · rw [List.nil_append, List.mem_filter] at hj; exact List.mem_range.1 hj.1
  · rw [h.wt j]; unfold rem; simp
  · rw [List.nil_append, List.mem_filter]; simp [hj]
end Go.Proofs.Ytlckjpjcfalfnaa
namespace Go.Proofs.Ytlckjpjcfalfnaa
open Go.RowKit Go.Sort
open Go.WideMaps
set_option linter.unusedSimpArgs false
set_option linter.unusedVariables false
set_option maxRecDepth 100000

/-- The finder, behind the first ones. -/
inductive FdR (web : List (I3 × NV)) : List I3 → FM → Prop
  | nil : FdR web [] ⟨[], [], [], [], [], []⟩
  | skip {l : List I3} {M : FM} {x : I3} : FdR web l M → numOf M.met x ≠ 0 → FdR web (l ++ [x]) M
  | go {l : List I3} {M M' : FM} {x : I3} (i : Nat) : FdR web l M → numOf M.met x = 0 → M' = Nat.repeat (stepM web) i (enM M x) → M'.way = [] → FdR web (l ++ [x]) M'
/-- Groups are of nodes, each once. -/
def GI (web : List (I3 × NV)) (M : FM) : Prop := ∀ s ∈ M.gs, (∀ x ∈ s, x ∈ keysV web) ∧ s.Nodup
theorem nodup_clnI (l : List I3) : (clnI l).Nodup := (clnI_rises l).imp fun h e => by subst e; rw [ltI_irrefl] at h; cases h
theorem GI.leave {web : List (I3 × NV)} {M : FM} (h : GI web M) (hI : FI web M) (wd : List (I3 × Nat)) (x : I3) : GI web (lvM M wd x) := by
  unfold lvM
  simp only
  split
  · intro s hs
    rcases List.mem_append.1 hs with q | q
    · exact h s q
    · simp at q
      subst q
      refine ⟨fun y hy => ?_, nodup_clnI _⟩
      rw [mem_clnI] at hy
      exact hI.web y (hI.opn y ((List.dropWhile_sublist _).subset hy))
  · exact h
theorem GI.step {web : List (I3 × NV)} {M : FM} (h : GI web M) (hI : FI web M) : GI web (stepM web M) := by
  by_cases hne : M.way = []
  · have e : stepM web M = M := by
      unfold stepM
      rw [hne]
      rfl
    rw [e]
    exact h
  · obtain ⟨wd, u, hu⟩ : ∃ a b, M.way = a ++ [b] := ⟨M.way.dropLast, M.way.getLast hne, (List.dropLast_concat_getLast hne).symm⟩
    obtain ⟨x, n⟩ := u
    have hl : M.way.getLast? = some (x, n) := by rw [hu]; simp
    have hd : M.way.dropLast = wd := by rw [hu]; simp
    cases q : (stepsV web x)[n]? with
    | none =>
      have es : stepM web M = lvM M wd x := by
        unfold stepM
        rw [hl, hd]
        simp only [q]
      rw [es]
      exact h.leave hI _ _
    | some d =>
      unfold stepM
      rw [hl, hd]
      simp only [q]
      split
      · split
        · exact h
        · split <;> exact h
      · exact h
theorem GI.run {web : List (I3 × NV)} {M : FM} (h : GI web M) (hI : FI web M) (i : Nat) : GI web (Nat.repeat (stepM web) i M) ∧ FI web (Nat.repeat (stepM web) i M) := by
  induction i with
  | zero => exact ⟨h, hI⟩
  | succ i ih => exact ⟨ih.1.step ih.2, ih.2.step⟩
theorem FdR.inv {web : List (I3 × NV)} {l : List I3} {M : FM} (h : FdR web l M) : (∀ x ∈ l, x ∈ keysV web) → FI web M ∧ GI web M ∧ M.way = [] := by
  induction h with
  | nil => exact fun _ => ⟨FI.start web, (fun s hs => by cases hs), rfl⟩
  | skip _ _ ih => exact fun hl => ih (fun x hx => hl x (List.mem_append_left _ hx))
  | go i hr h0 hM hw ih =>
    intro hl
    obtain ⟨h1, h2, h3⟩ := ih (fun x hx => hl x (List.mem_append_left _ hx))
    have he := h1.enter (hl _ (List.mem_append_right _ (List.mem_singleton.2 rfl))) (fun r => h1.pos _ r h0)
    obtain ⟨a, b⟩ := GI.run (i := i) (M := enM _ _) h2 he
    rw [hM]
    exact ⟨b, a, hM ▸ hw⟩
/-- What link does, told of any property. -/
theorem lk_inv (P : (Nat → Gp) → Prop) (ofi : List (I3 × Nat)) (hP : ∀ G i j, P G → i ≠ j → P (upG (upG G i { G i with bh := (G i).bh ++ [j] }) j { upG G i { G i with bh := (G i).bh ++ [j] } j with wt := (upG G i { G i with bh := (G i).bh ++ [j] } j).wt + 1 })) (web : List (I3 × NV)) (ids : Nat → List I3) : ∀ (l : List Nat) (G : Nat → Gp), P G → P (l.foldl (lkG web ofi ids) G) := by
  have h1 : ∀ j d G, P G → P (lkD ofi j G d) := fun j d G h => by
    unfold lkD
    split
    · exact h
    · split
      · exact h
      · rename_i hne
        exact hP G _ j h hne
  have h2 : ∀ j (l : List I3) G, P G → P (l.foldl (lkD ofi j) G) := fun j l => by
    induction l with
    | nil => exact fun G h => h
    | cons d l ih => exact fun G h => ih _ (h1 j d G h)
  have h3 : ∀ j (l : List I3) G, P G → P (l.foldl (lkX web ofi j) G) := fun j l => by
    induction l with
    | nil => exact fun G h => h
    | cons x l ih => exact fun G h => ih _ (h2 j _ G h)
  intro l
  induction l with
  | nil => exact fun G h => h
  | cons j l ih => exact fun G h => ih _ (h3 j _ G h)
def idsO (web : List (I3 × NV)) (gs : List (List I3)) (j : Nat) : List I3 := sortL web (gs.getD j [])
def lstO (gs : List (List I3)) (j : Nat) : I3 := (gs.getD j []).headD (0, 0, 0)
/-- The groups, linked. -/
def lkO (web : List (I3 × NV)) (M : FM) : Nat → Gp := (List.range M.gs.length).foldl (lkG web M.ofi (idsO web M.gs)) (gsOf web M.gs)
def bhO (web : List (I3 × NV)) (M : FM) (j : Nat) : List Nat := (lkO web M j).bh
def wtO (web : List (I3 × NV)) (M : FM) (j : Nat) : Nat := (lkO web M j).wt
theorem lkO_mk (web : List (I3 × NV)) (M : FM) : lkO web M = mkG (idsO web M.gs) (lstO M.gs) (bhO web M) (wtO web M) := by
  have h : ∀ t, (lkO web M t).ids = idsO web M.gs t ∧ (lkO web M t).lst = lstO M.gs t := lk_inv (fun G => ∀ t, (G t).ids = idsO web M.gs t ∧ (G t).lst = lstO M.gs t) M.ofi (fun G i j h _ t => by
    unfold upG
    split
    · rename_i e
      subst e
      split
      · rename_i e2; subst e2; exact h t
      · exact h t
    · split
      · rename_i e2; subst e2; exact h t
      · exact h t) web (idsO web M.gs) (List.range M.gs.length) (gsOf web M.gs) (fun t => ⟨rfl, rfl⟩)
  funext t
  unfold mkG bhO wtO
  rw [← (h t).1, ← (h t).2]
/-- What Order answers: the groups that the finder found, each as soon as it may, the least first. -/
structure OrdIs (web : List (I3 × NV)) (os : List (List I3)) : Prop where
  ex : ∃ M out i wt, FdR web (clnI (keysV web)) M ∧ os = out.map (idsO web M.gs) ∧ (⟨[], wt, out⟩ : KS) = Nat.repeat (kstep (lstO M.gs) (bhO web M)) i ⟨(List.range M.gs.length).filter fun j => decide (wtO web M j = 0), wtO web M, []⟩
end Go.Proofs.Ytlckjpjcfalfnaa
namespace Go.Proofs.Ytlckjpjcfalfnaa
open Go.RowKit Go.Sort
open Go.WideMaps
set_option linter.unusedSimpArgs false
set_option linter.unusedVariables false
set_option maxRecDepth 100000

/-- The same instances and lists, wherever they lie. -/
def DEq (a b : List (I3 × NV)) : Prop := ∀ x, (getV a x).map (·.d) = (getV b x).map (·.d)
theorem DEq.some {a b : List (I3 × NV)} (h : DEq a b) (x : I3) : (getV a x).isSome = (getV b x).isSome := by
  have q := congrArg Option.isSome (h x)
  simpa using q
theorem DEq.nd {a b : List (I3 × NV)} (h : DEq a b) (x : I3) : (ndOf a x).d = (ndOf b x).d := by
  have q := h x
  unfold ndOf
  cases h1 : getV a x <;> cases h2 : getV b x <;> rw [h1, h2] at q <;> simp_all
theorem DEq.steps {a b : List (I3 × NV)} (h : DEq a b) (x : I3) : stepsV a x = stepsV b x := by unfold stepsV; rw [h.nd]
theorem DEq.stepM {a b : List (I3 × NV)} (h : DEq a b) : stepM a = stepM b := by
  funext M
  unfold Go.Proofs.Ytlckjpjcfalfnaa.stepM
  split
  · rfl
  · rename_i x n _
    rw [h.steps]
    split
    · rfl
    · rename_i d _
      simp only [h.some]
theorem DEq.sort {a b : List (I3 × NV)} (h : DEq a b) : sortL a = sortL b := by
  funext l
  unfold sortL
  congr 1
  funext x y
  unfold ltG
  have e : ∀ z, sqOf a z = sqOf b z := fun z => congrArg (·.sq) (h.nd z)
  rw [e x, e y]
theorem DEq.lkX {a b : List (I3 × NV)} (h : DEq a b) : lkX a = lkX b := by
  funext o j G x
  unfold Go.Proofs.Ytlckjpjcfalfnaa.lkX
  rw [h.steps]
theorem DEq.keys {a b : List (I3 × NV)} (h : DEq a b) : clnI (keysV a) = clnI (keysV b) :=
  (clnI_rises _).uniq (clnI_rises _) fun x => by
    rw [mem_clnI, mem_clnI, ← hasI_iff, ← hasI_iff, ← getV_isSome, ← getV_isSome, h.some]
theorem DEq.fdR {a b : List (I3 × NV)} (h : DEq a b) {l : List I3} {M : FM} (hr : FdR a l M) : FdR b l M := by
  induction hr with
  | nil => exact .nil
  | skip _ h0 ih => exact .skip ih h0
  | go i _ h0 hM hw ih => exact .go i ih h0 (by rw [← h.stepM]; exact hM) hw
theorem DEq.idsO {a b : List (I3 × NV)} (h : DEq a b) : idsO a = idsO b := by
  funext gs j
  unfold Go.Proofs.Ytlckjpjcfalfnaa.idsO
  rw [h.sort]
theorem DEq.lkO {a b : List (I3 × NV)} (h : DEq a b) : lkO a = lkO b := by
  funext M
  unfold Go.Proofs.Ytlckjpjcfalfnaa.lkO
  have e1 : lkG a = lkG b := by
    funext o ids G j
    unfold Go.Proofs.Ytlckjpjcfalfnaa.lkG
    rw [h.lkX]
  have e2 : gsOf a = gsOf b := by
    funext gs j
    unfold gsOf
    rw [h.sort]
  rw [e1, e2, h.idsO]
theorem DEq.ord {a b : List (I3 × NV)} (h : DEq a b) {os : List (List I3)} (ho : OrdIs a os) : OrdIs b os := by
  obtain ⟨M, out, i, wt, h1, h2, h3⟩ := ho.ex
  have e1 : bhO a M = bhO b M := by funext j; unfold bhO; rw [h.lkO]
  have e2 : wtO a M = wtO b M := by funext j; unfold wtO; rw [h.lkO]
  exact ⟨M, out, i, wt, h.keys ▸ h.fdR h1, by rw [← h.idsO]; exact h2, by rw [← e1, ← e2]; exact h3⟩
theorem repeat_fix {α : Type} (f : α → α) (x : α) (h : f x = x) : ∀ n, Nat.repeat f n x = x
  | 0 => rfl
  | n + 1 => by show f (Nat.repeat f n x) = x; rw [repeat_fix f x h n, h]
theorem repeat_add {α : Type} (f : α → α) (x : α) (i : Nat) : ∀ n, Nat.repeat f (i + n) x = Nat.repeat f n (Nat.repeat f i x)
  | 0 => rfl
  | n + 1 => by show f (Nat.repeat f (i + n) x) = f _; rw [repeat_add f x i n]
theorem repeat_end {α : Type} (f : α → α) (x : α) (P : α → Prop) (hP : ∀ y, P y → f y = y) {i k : Nat} (hi : P (Nat.repeat f i x)) (hk : P (Nat.repeat f k x)) : Nat.repeat f i x = Nat.repeat f k x := by
  rcases Nat.le_total i k with h | h
  · obtain ⟨n, rfl⟩ := Nat.exists_eq_add_of_le h
    rw [repeat_add, repeat_fix f _ (hP _ hi)]
  · obtain ⟨n, rfl⟩ := Nat.exists_eq_add_of_le h
    rw [repeat_add, repeat_fix f _ (hP _ hk)]
theorem stepM_end (web : List (I3 × NV)) (M : FM) (h : M.way = []) : stepM web M = M := by
  unfold stepM
  rw [h]
  rfl
theorem kstep_end (lst : Nat → I3) (E : Nat → List Nat) (S : KS) (h : S.F = []) : kstep lst E S = S := by
  unfold kstep
  rw [if_pos h]
/-- The finder, reckoned with so many steps. -/
def fdE (web : List (I3 × NV)) (K : Nat) (l : List I3) : FM := l.foldl (fun M x => if numOf M.met x = 0 then Nat.repeat (stepM web) K (enM M x) else M) ⟨[], [], [], [], [], []⟩
theorem fdE_snoc (web : List (I3 × NV)) (K : Nat) (l : List I3) (x : I3) : fdE web K (l ++ [x]) = if numOf (fdE web K l).met x = 0 then Nat.repeat (stepM web) K (enM (fdE web K l) x) else fdE web K l := by unfold fdE; rw [List.foldl_append]; rfl
theorem FdR.det {web : List (I3 × NV)} {K : Nat} {l : List I3} {M : FM} (h : FdR web l M) : (∀ k, k ≤ l.length → (fdE web K (l.take k)).way = []) → M = fdE web K l := by
  induction h with
  | nil => exact fun _ => rfl
  | @skip l M x _ h0 ih =>
    intro hk
    have e := ih fun k hk1 => by have q := hk k (by simp; omega); rwa [List.take_append_of_le_length hk1] at q
    rw [fdE_snoc, ← e, if_neg h0]
  | @go l M M' x i _ h0 hM hw ih =>
    intro hk
    have e := ih fun k hk1 => by have q := hk k (by simp; omega); rwa [List.take_append_of_le_length hk1] at q
    have q := hk (l ++ [x]).length (Nat.le_refl _)
    rw [List.take_length, fdE_snoc, ← e, if_pos h0] at q
    rw [fdE_snoc, ← e, if_pos h0, hM]
    exact repeat_end (stepM web) _ (fun M => M.way = []) (stepM_end web) (hM ▸ hw) q
theorem OrdIs.det {web : List (I3 × NV)} {os : List (List I3)} (h : OrdIs web os) (K K2 : Nat) (hw : ∀ k, k ≤ (clnI (keysV web)).length → (fdE web K ((clnI (keysV web)).take k)).way = []) {M : FM} (hM : fdE web K (clnI (keysV web)) = M)
    (hF : (Nat.repeat (kstep (lstO M.gs) (bhO web M)) K2 ⟨(List.range M.gs.length).filter fun j => decide (wtO web M j = 0), wtO web M, []⟩).F = []) : os = (Nat.repeat (kstep (lstO M.gs) (bhO web M)) K2 ⟨(List.range M.gs.length).filter fun j => decide (wtO web M j = 0), wtO web M, []⟩).out.map (idsO web M.gs) := by
  obtain ⟨M', out, i, wt, h1, h2, h3⟩ := h.ex
  have e : M' = M := (h1.det hw).trans hM
  subst e
  have q := repeat_end (kstep (lstO M'.gs) (bhO web M')) ⟨(List.range M'.gs.length).filter fun j => decide (wtO web M' j = 0), wtO web M', []⟩ (fun S => S.F = []) (kstep_end _ _) (i := i) (k := K2) (by rw [← h3]) hF
  rw [← q, ← h3]
  exact h2
/-- What rises by number, then by ID, is one list. -/
theorem ltG_uniq (web : List (I3 × NV)) : ∀ {a b : List I3}, a.Pairwise (fun x y => ltG web x y = true) → b.Pairwise (fun x y => ltG web x y = true) → (∀ x, x ∈ a ↔ x ∈ b) → a = b := by
  intro a
  induction a with
  | nil =>
    intro b _ _ h
    cases b with
    | nil => rfl
    | cons y b => exact absurd ((h y).2 (List.mem_cons_self ..)) (by simp)
  | cons x a ih =>
    intro b ha hb h
    cases b with
    | nil => exact absurd ((h x).1 (List.mem_cons_self ..)) (by simp)
    | cons y b =>
      have ha2 := List.pairwise_cons.1 ha
      have hb2 := List.pairwise_cons.1 hb
      have irr := (ltG_swo web).irrefl
      have hxy : x = y := by
        rcases List.mem_cons.1 ((h x).1 (List.mem_cons_self ..)) with q | q
        · exact q
        · rcases List.mem_cons.1 ((h y).2 (List.mem_cons_self ..)) with r | r
          · exact r.symm
          · have h1 := hb2.1 x q
            have h2 := ha2.1 y r
            have h3 := (ltG_swo web).trans _ _ _ h1 h2
            rw [irr] at h3
            cases h3
      subst hxy
      have nx : ∀ {l : List I3}, (∀ z ∈ l, ltG web x z = true) → x ∉ l := fun hl q => by
        have := hl x q
        rw [irr] at this
        cases this
      rw [ih ha2.2 hb2.2 fun z => ?_]
      constructor
      · intro hz
        rcases List.mem_cons.1 ((h z).1 (List.mem_cons_of_mem _ hz)) with q | q
        · subst q; exact absurd hz (nx ha2.1)
        · exact q
      · intro hz
        rcases List.mem_cons.1 ((h z).2 (List.mem_cons_of_mem _ hz)) with q | q
        · subst q; exact absurd hz (nx hb2.1)
        · exact q
theorem sortL_rises (web : List (I3 × NV)) {l : List I3} (hn : l.Nodup) : (sortL web l).Pairwise (fun x y => ltG web x y = true) := by
  have hp : (sortL web l).Pairwise (fun x y => (!ltG web y x) = true) := by
    unfold sortL
    refine List.pairwise_mergeSort (fun a b c h k => ?_) (fun a b => ?_) l
    · simp only [Bool.not_eq_true'] at *
      exact (ltG_swo web).ntrans _ _ _ k h
    · cases q : ltG web b a
      · rfl
      · cases q2 : ltG web a b
        · simp
        · have h3 := (ltG_swo web).trans _ _ _ q q2
          rw [(ltG_swo web).irrefl] at h3
          cases h3
  have hnd : (sortL web l).Nodup := by unfold sortL; exact (List.mergeSort_perm l _).nodup_iff.2 hn
  refine (hp.and hnd).imp fun {x y} h => ?_
  cases q : ltG web x y
  · have h1 := h.1
    simp only [Bool.not_eq_true'] at h1
    exact absurd (ltG_total _ _ _ q h1) h.2
  · rfl
theorem sortL_eq (web : List (I3 × NV)) {l k : List I3} (hn : l.Nodup) (hk : k.Pairwise (fun x y => ltG web x y = true)) (h : ∀ x, x ∈ k ↔ x ∈ l) : sortL web l = k :=
  ltG_uniq web (sortL_rises web hn) hk fun x => by rw [h x]; unfold sortL; exact List.mem_mergeSort
end Go.Proofs.Ytlckjpjcfalfnaa
namespace Go.Proofs.Ytlckjpjcfalfnaa
open Go.RowKit Go.Sort
open Go.WideMaps
set_option linter.unusedSimpArgs false
set_option linter.unusedVariables false
set_option maxRecDepth 100000

abbrev xA : I3 := (0, 1, 0)
abbrev xB : I3 := (0, 2, 0)
abbrev xC : I3 := (0, 3, 0)
def exN (x : I3) (s : Int) (d : I3) : NV := ⟨⟨x, s, [d]⟩, none, 0⟩
def exV : List (I3 × NV) := [(xA, exN xA 2 xB), (xB, exN xB 1 xA), (xC, exN xC 0 xA)]
theorem ex_keys : clnI (keysV exV) = [xA, xB, xC] := by kernel_rfl
theorem ex_way0 : (fdE exV 12 ([xA, xB, xC].take 0)).way = [] := by kernel_rfl
theorem ex_way1 : (fdE exV 12 ([xA, xB, xC].take 1)).way = [] := by kernel_rfl
theorem ex_way2 : (fdE exV 12 ([xA, xB, xC].take 2)).way = [] := by kernel_rfl
theorem ex_way3 : (fdE exV 12 ([xA, xB, xC].take 3)).way = [] := by kernel_rfl
theorem ex_way : ∀ k, k ≤ 3 → (fdE exV 12 ([xA, xB, xC].take k)).way = [] := fun k hk => by
  have h : k = 0 ∨ k = 1 ∨ k = 2 ∨ k = 3 := by omega
  rcases h with rfl | rfl | rfl | rfl
  · exact ex_way0
  · exact ex_way1
  · exact ex_way2
  · exact ex_way3
def exM : FM := fdE exV 12 [xA, xB, xC]
theorem ex_gs : exM.gs = [[xA, xB], [xC]] := by kernel_rfl
theorem ex_ofi : exM.ofi = [(xA, 0), (xB, 0), (xC, 1)] := by kernel_rfl
def exIds (j : Nat) : List I3 := if j = 0 then [xB, xA] else if j = 1 then [xC] else []
theorem ex_ids : idsO exV exM.gs = exIds := by
  funext j
  unfold idsO exIds
  rw [ex_gs]
  match j with
  | 0 => exact sortL_eq exV (by decide) (by simp [ltG, sqOf, ndOf, getV, exV, exN]) (fun x => by simp [or_comm])
  | 1 => exact sortL_eq exV (by decide) (by simp) (fun x => Iff.rfl)
  | j + 2 => exact sortL_eq exV (by simp) (by simp) (fun x => by simp)
def exG : Nat → Gp := fun j => ⟨exIds j, ([[xA, xB], [xC]].getD j []).headD (0, 0, 0), 0, []⟩
theorem ex_lk : lkO exV exM = (List.range 2).foldl (lkG exV [(xA, 0), (xB, 0), (xC, 1)] exIds) exG := by
  unfold lkO
  rw [ex_ids, ex_ofi]
  have e : gsOf exV exM.gs = exG := by
    funext j
    unfold gsOf exG
    have q := congrFun ex_ids j
    unfold idsO at q
    rw [q, ex_gs]
  rw [e, ex_gs]
  rfl
theorem ex_out : List.map exIds (Nat.repeat (kstep (lstO [[xA, xB], [xC]]) fun j => ((List.range 2).foldl (lkG exV [(xA, 0), (xB, 0), (xC, 1)] exIds) exG j).bh) 5 ⟨(List.range [[xA, xB], [xC]].length).filter fun j => decide (((List.range 2).foldl (lkG exV [(xA, 0), (xB, 0), (xC, 1)] exIds) exG j).wt = 0), fun j => ((List.range 2).foldl (lkG exV [(xA, 0), (xB, 0), (xC, 1)] exIds) exG j).wt, []⟩).out = [[xB, xA], [xC]] := by kernel_rfl
theorem ex_ord {os : List (List I3)} (h : OrdIs exV os) : os = [[xB, xA], [xC]] := by
  have hb : bhO exV exM = fun j => ((List.range 2).foldl (lkG exV [(xA, 0), (xB, 0), (xC, 1)] exIds) exG j).bh := by funext j; unfold bhO; rw [ex_lk]
  have hw : wtO exV exM = fun j => ((List.range 2).foldl (lkG exV [(xA, 0), (xB, 0), (xC, 1)] exIds) exG j).wt := by funext j; unfold wtO; rw [ex_lk]
  have q := h.det 12 5 (by rw [ex_keys]; exact ex_way) (M := exM) (by rw [ex_keys]; rfl) (by rw [hb, hw, ex_gs]; kernel_rfl)
  rw [q, ex_ids, hb, hw, ex_gs]
  exact ex_out
end Go.Proofs.Ytlckjpjcfalfnaa
namespace Go.Proofs.Ytlckjpjcfalfnaa
open Go.RowKit Go.Sort
open Go.WideMaps
set_option linter.unusedSimpArgs false
set_option linter.unusedVariables false
set_option maxRecDepth 100000

section
variable {n1 n2 n3 : NV} (h1 : n1.d = ⟨xA, 2, [xB]⟩) (h2 : n2.d = ⟨xB, 1, [xA]⟩) (h3 : n3.d = ⟨xC, 0, [xA]⟩)
theorem ex_get (x : I3) : getV [(xA, n1), (xB, n2), (xC, n3)] x = if x = xA then some n1 else if x = xB then some n2 else if x = xC then some n3 else none := by
  unfold getV
  simp only [List.find?_cons, List.find?_nil]
  by_cases e1 : x = xA
  · subst e1; rfl
  · rw [if_neg e1]
    have q1 : decide (xA = x) = false := decide_eq_false (fun r => e1 r.symm)
    by_cases e2 : x = xB
    · subst e2; rfl
    · rw [if_neg e2]
      have q2 : decide (xB = x) = false := decide_eq_false (fun r => e2 r.symm)
      by_cases e3 : x = xC
      · subst e3; rfl
      · rw [if_neg e3]
        have q3 : decide (xC = x) = false := decide_eq_false (fun r => e3 r.symm)
        simp [q1, q2, q3]
include h1 h2 h3
theorem ex_steps (x : I3) : stepsV [(xA, n1), (xB, n2), (xC, n3)] x = if x = xA then [xB] else if x = xB then [xA] else if x = xC then [xA] else [] := by
  unfold stepsV ndOf
  rw [ex_get]
  by_cases e1 : x = xA
  · rw [if_pos e1, if_pos e1]; simp [h1]
  · rw [if_neg e1, if_neg e1]
    by_cases e2 : x = xB
    · rw [if_pos e2, if_pos e2]; simp [h2]
    · rw [if_neg e2, if_neg e2]
      by_cases e3 : x = xC
      · rw [if_pos e3, if_pos e3]; simp [h3]
      · rw [if_neg e3, if_neg e3]; rfl
theorem ex_cur {cur : List (I3 × NV)} (h : RdyIs [(xA, n1), (xB, n2), (xC, n3)] cur []) : (∀ x, getV cur x = getV [(xA, n1), (xB, n2), (xC, n3)] x) ∧ DEq cur exV := by
  have hg : ∀ x, x = xA ∨ x = xB ∨ x = xC → x ∈ keysV cur := h.great (fun x => x = xA ∨ x = xB ∨ x = xC) fun y hy => by
    refine ⟨?_, by simp, fun d hd => .inr ?_⟩
    · rcases hy with rfl | rfl | rfl <;> simp [keysV]
    · rw [ex_steps h1 h2 h3] at hd
      rcases hy with rfl | rfl | rfl <;> simp at hd <;> simp [hd]
  have hv : ∀ x, getV cur x = getV [(xA, n1), (xB, n2), (xC, n3)] x := fun x => by
    cases q : getV cur x with
    | some n => exact ((h.sub x n q).1).symm
    | none =>
      have hn : x ∉ keysV cur := fun r => by
        obtain ⟨n, hn⟩ := mem_keys.1 r
        rw [q] at hn
        cases hn
      rw [ex_get, if_neg (fun e => hn (hg x (.inl e))), if_neg (fun e => hn (hg x (.inr (.inl e)))), if_neg (fun e => hn (hg x (.inr (.inr e))))]
  refine ⟨hv, fun x => ?_⟩
  rw [hv x, ex_get]
  have e0 : getV exV x = if x = xA then some (exN xA 2 xB) else if x = xB then some (exN xB 1 xA) else if x = xC then some (exN xC 0 xA) else none := ex_get x
  rw [e0]
  by_cases e1 : x = xA
  · rw [if_pos e1, if_pos e1]; simp [h1, exN]
  · rw [if_neg e1, if_neg e1]
    by_cases e2 : x = xB
    · rw [if_pos e2, if_pos e2]; simp [h2, exN]
    · rw [if_neg e2, if_neg e2]
      by_cases e3 : x = xC
      · rw [if_pos e3, if_pos e3]; simp [h3, exN]
      · rw [if_neg e3, if_neg e3]
theorem ex_ready {cur : List (I3 × NV)} (h : RdyIs [(xA, n1), (xB, n2), (xC, n3)] cur []) : (clnI (keysV cur)).length = 3 := by
  rw [(ex_cur h1 h2 h3 h).2.keys, ex_keys]
  rfl
theorem ex_order {cur : List (I3 × NV)} {os : List (List I3)} (h : RdyIs [(xA, n1), (xB, n2), (xC, n3)] cur []) (ho : OrdIs cur os) : os = [[xB, xA], [xC]] := ex_ord ((ex_cur h1 h2 h3 h).2.ord ho)
theorem ex_reach {M : List I3} (h : ∀ x, x ∈ M ↔ Rch (stepsV [(xA, n1), (xB, n2), (xC, n3)]) xC x) : (clnI M).length = 2 := by
  have q : clnI M = [xA, xB] := clnI_eq (by simp [Rises, ltI]) fun x => by
    rw [h x]
    have sA := ex_steps h1 h2 h3 xA
    have sB := ex_steps h1 h2 h3 xB
    have sC := ex_steps h1 h2 h3 xC
    simp at sA sB sC
    constructor
    · intro hx
      have hA : Rch (stepsV [(xA, n1), (xB, n2), (xC, n3)]) xC xA := .one (by rw [sC]; simp)
      simp at hx
      rcases hx with rfl | rfl
      · exact hA
      · exact .more hA (by rw [sA]; simp)
    · intro hx
      induction hx with
      | one hy => rw [sC] at hy; simp at hy; simp [hy]
      | more _ hy ih =>
        simp at ih
        rcases ih with rfl | rfl
        · rw [sA] at hy; simp at hy; simp [hy]
        · rw [sB] at hy; simp at hy; simp [hy]
  rw [q]
  rfl
omit h2 h3 in
theorem ex_one {cur : List (I3 × NV)} (h : RdyIs [(xA, n1)] cur []) : (clnI (keysV cur)).length = 0 := by
  have hg : ∀ x, getV [(xA, n1)] x = if x = xA then some n1 else none := fun x => by
    unfold getV
    simp only [List.find?_cons, List.find?_nil]
    by_cases e1 : x = xA
    · subst e1; rfl
    · rw [if_neg e1]
      have q1 : decide (xA = x) = false := decide_eq_false (fun r => e1 r.symm)
      simp [q1]
  have hA : ∀ x ∈ keysV cur, x = xA := fun x hx => by
    obtain ⟨n, hn⟩ := mem_keys.1 hx
    have q := (h.sub x n hn).1
    rw [hg] at q
    by_cases e : x = xA
    · exact e
    · rw [if_neg e] at q; cases q
  have hn : ∀ x, x ∉ keysV cur := fun x hx => by
    have e := hA x hx
    subst e
    have s : stepsV [(xA, n1)] xA = [xB] := by
      unfold stepsV ndOf
      rw [hg, if_pos rfl]
      simp [h1]
    rcases h.closed xA hx xB (by rw [s]; simp) with q | q
    · cases q
    · have := hA xB q
      cases this
  have e : keysV cur = [] := List.eq_nil_iff_forall_not_mem.2 hn
  rw [e]
  rfl
end
end Go.Proofs.Ytlckjpjcfalfnaa
