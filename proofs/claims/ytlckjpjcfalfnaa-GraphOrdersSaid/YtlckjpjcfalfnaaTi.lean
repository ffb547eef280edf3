/-
  Graph, plainly: what the finder ends are groups that lead to each other, and to ended ones alone.
-/
import Derived.Test.YtlckjpjcfalfnaaGrD
namespace Go.Proofs.Ytlckjpjcfalfnaa
open Go.RowKit Go.Sort
open Go.WideMaps
set_option linter.unusedSimpArgs false
set_option linter.unusedVariables false
set_option maxRecDepth 100000

theorem Rch.trans {f : I3 → List I3} {a b c : I3} (h : Rch f a b) (k : Rch f b c) : Rch f a c := by
  induction k with
  | one hy => exact .more h hy
  | more _ hy ih => exact .more ih hy
/-- To which nodes one leads by one step. -/
def eV (web : List (I3 × NV)) (x : I3) : List I3 := (stepsV web x).filter fun d => (getV web d).isSome
theorem mem_eV {web : List (I3 × NV)} {x d : I3} : d ∈ eV web x ↔ d ∈ stepsV web x ∧ (getV web d).isSome = true := by unfold eV; rw [List.mem_filter]
/-- One on the way, and those behind it that it came back from. -/
structure BI (web : List (I3 × NV)) (M : FM) (x : I3) (n : Nat) (s : List I3) : Prop where
  dn : ∀ y ∈ s, Rch (eV web) x y
  e1 : ∀ d ∈ (stepsV web x).take n, (getV web d).isSome = true → d ∈ keysV M.met ∧ (d ∈ M.opn → numOf M.low x ≤ numOf M.met d)
  e2 : ∀ y ∈ s, ∀ d ∈ eV web y, d ∈ keysV M.met ∧ (d ∈ M.opn → numOf M.low x ≤ numOf M.met d)
  back : ∀ y ∈ s, numOf M.low y < numOf M.met y ∧ ∃ z ∈ M.opn, numOf M.met z = numOf M.low y ∧ Rch (eV web) y z
  low : numOf M.low x ≤ numOf M.met x ∧ ∃ z ∈ M.opn, numOf M.met z = numOf M.low x ∧ (z = x ∨ Rch (eV web) x z)
theorem BI.mono {web : List (I3 × NV)} {M M' : FM} {x : I3} {n : Nat} {s : List I3} (h : BI web M x n s) (hk : ∀ y ∈ keysV M.met, y ∈ keysV M'.met) (hn : ∀ y ∈ keysV M.met, numOf M'.met y = numOf M.met y) (hl : ∀ y, y = x ∨ y ∈ s → numOf M'.low y = numOf M.low y) (ho : ∀ d ∈ M'.opn, d ∈ keysV M.met → d ∈ M.opn)
    (hw : ∀ z ∈ M.opn, ∀ y, (y = x ∨ y ∈ s) → numOf M.met z ≤ numOf M.met y → z ∈ M'.opn) (hx : x ∈ keysV M.met) (hs : ∀ y ∈ s, y ∈ keysV M.met) (hz : ∀ z ∈ M.opn, z ∈ keysV M.met) : BI web M' x n s := by
  refine ⟨h.dn, fun d hd hw2 => ?_, fun y hy d hd => ?_, fun y hy => ?_, ?_⟩
  · obtain ⟨q1, q2⟩ := h.e1 d hd hw2
    exact ⟨hk d q1, fun r => by rw [hl x (.inl rfl), hn d q1]; exact q2 (ho d r q1)⟩
  · obtain ⟨q1, q2⟩ := h.e2 y hy d hd
    exact ⟨hk d q1, fun r => by rw [hl x (.inl rfl), hn d q1]; exact q2 (ho d r q1)⟩
  · obtain ⟨q1, z, q2, q3, q4⟩ := h.back y hy
    rw [hl y (.inr hy), hn y (hs y hy)]
    exact ⟨q1, z, hw z q2 y (.inr hy) (by omega), by rw [hn z (hz z q2)]; exact q3, q4⟩
  · obtain ⟨q1, z, q2, q3, q4⟩ := h.low
    rw [hl x (.inl rfl), hn x hx]
    exact ⟨q1, z, hw z q2 x (.inl rfl) (by omega), by rw [hn z (hz z q2)]; exact q3, q4⟩
abbrev Blk := I3 × Nat × List I3
def wayB (B : List Blk) : List (I3 × Nat) := B.map fun b => (b.1, b.2.1)
def opnB (B : List Blk) : List I3 := B.flatMap fun b => b.1 :: b.2.2
theorem opnB_app (A B : List Blk) : opnB (A ++ B) = opnB A ++ opnB B := by simp [opnB]
theorem opnB_one (x : I3) (n : Nat) (s : List I3) : opnB [(x, n, s)] = x :: s := by simp [opnB]
theorem wayB_app (A B : List Blk) : wayB (A ++ B) = wayB A ++ wayB B := by simp [wayB]
theorem mem_opnB {B : List Blk} {y : I3} : y ∈ opnB B ↔ ∃ b ∈ B, y = b.1 ∨ y ∈ b.2.2 := by simp [opnB]
structure TI (web : List (I3 × NV)) (M : FM) (B : List Blk) : Prop where
  way : M.way = wayB B
  opn : M.opn = opnB B
  ord : M.opn.Pairwise fun a b => numOf M.met a < numOf M.met b
  num : ∀ x ∈ keysV M.met, numOf M.met x ≤ M.met.length
  cov : ∀ x, x ∈ keysV M.met ↔ x ∈ M.opn ∨ (getV M.ofi x).isSome = true
  dis : ∀ x ∈ M.opn, getV M.ofi x = none
  chn : ∀ l1 a c l2, B.map (·.1) = l1 ++ a :: c :: l2 → c ∈ eV web a
  blk : ∀ b ∈ B, BI web M b.1 b.2.1 b.2.2
  gof : ∀ x j, getV M.ofi x = some j ↔ ∃ s, M.gs[j]? = some s ∧ x ∈ s
  gcl : ∀ x j, getV M.ofi x = some j → ∀ d ∈ eV web x, ∃ k, k ≤ j ∧ getV M.ofi d = some k
  gmu : ∀ s ∈ M.gs, ∀ x ∈ s, ∀ y ∈ s, x = y ∨ Rch (eV web) x y
  gri : ∀ s ∈ M.gs, Rises s ∧ s ≠ []
section
variable {web : List (I3 × NV)} {M : FM} {B B0 : List Blk} {x : I3} {n : Nat} {s : List I3}
theorem TI.start : TI web ⟨[], [], [], [], [], []⟩ [] := by
  refine ⟨rfl, rfl, List.Pairwise.nil, (fun x h => by cases h), fun x => by simp [keysV, getV], (fun x h => by cases h), (fun l1 a c l2 h => by simp at h), (fun b h => by cases h), fun x j => by simp [getV], (fun x j h => by simp [getV] at h), (fun s h => by cases h), (fun s h => by cases h)⟩
theorem TI.met (h : TI web M B) {y : I3} (hy : y ∈ M.opn) : y ∈ keysV M.met := (h.cov y).2 (.inl hy)
theorem TI.enter (h : TI web M B) (hI : FI web M) (hx : (getV web x).isSome = true) (hm : x ∉ keysV M.met) (hc : ∀ l1 a, B.map (·.1) = l1 ++ [a] → x ∈ eV web a) : TI web (enM M x) (B ++ [(x, 0, [])]) := by
  have hn : ∀ y, numOf (enM M x).met y = if y = x then M.met.length + 1 else numOf M.met y := fun y => numOf_put hI.mnd x _ y
  have hl : ∀ y, numOf (enM M x).low y = if y = x then M.met.length + 1 else numOf M.low y := fun y => numOf_put hI.lnd x _ y
  have hk : ∀ y, y ∈ keysV (enM M x).met ↔ y ∈ keysV M.met ∨ y = x := fun y => mem_keys_put
  have hne : ∀ y ∈ keysV M.met, y ≠ x := fun y hy e => hm (e ▸ hy)
  have ho : (enM M x).opn = M.opn ++ [x] := rfl
  have hox : getV M.ofi x = none := by
    cases q : getV M.ofi x with
    | none => rfl
    | some j => exact absurd ((h.cov x).2 (.inr (by rw [q]; rfl))) hm
  refine ⟨?_, ?_, ?_, fun y hy => ?_, fun y => ?_, fun y hy => ?_, fun l1 a c l2 hq => ?_, fun b hb => ?_, h.gof, h.gcl, h.gmu, h.gri⟩
  · show M.way ++ [(x, 0)] = _
    rw [wayB_app, h.way]; rfl
  · rw [ho, opnB_app, h.opn, opnB_one]
  · rw [ho, List.pairwise_append]
    refine ⟨h.ord.imp_of_mem fun {a b} ha hb q => ?_, List.pairwise_singleton _ _, fun a ha b hb => ?_⟩
    · rw [hn, hn, if_neg (hne _ (h.met ha)), if_neg (hne _ (h.met hb))]; exact q
    · simp at hb
      subst hb
      rw [hn, hn, if_pos rfl, if_neg (hne _ (h.met ha))]
      have := h.num a (h.met ha)
      omega
  · have hlen : (enM M x).met.length = M.met.length + 1 := by
      show (putV M.met x _).length = _
      rw [len_putV hI.mnd, if_neg (by rw [getV_isSome, hasI_iff]; exact hm)]
    rw [hn, hlen]
    split
    · exact Nat.le_refl _
    · rename_i e
      rcases (hk y).1 hy with q | q
      · exact Nat.le_succ_of_le (h.num y q)
      · exact absurd q e
  · rw [hk, h.cov, ho, List.mem_append, List.mem_singleton]
    constructor
    · rintro ((q | q) | q)
      · exact .inl (.inl q)
      · exact .inr q
      · exact .inl (.inr q)
    · rintro ((q | q) | q)
      · exact .inl (.inl q)
      · exact .inr q
      · exact .inl (.inr q)
  · rw [ho, List.mem_append, List.mem_singleton] at hy
    rcases hy with q | q
    · exact h.dis y q
    · rw [q]; exact hox
  · rw [List.map_append, List.map_cons, List.map_nil] at hq
    rcases List.append_eq_append_iff.1 hq with ⟨t, e1, e2⟩ | ⟨t, e1, e2⟩
    · cases t with
      | nil => simp at e2
      | cons t0 t => simp at e2
    · cases t with
      | nil => simp at e2
      | cons t0 t =>
        rw [List.cons_append] at e2
        obtain ⟨rfl, e3⟩ := List.cons.inj e2
        cases t with
        | nil =>
          simp at e3
          rw [e3.1]
          exact hc l1 a e1
        | cons t1 t =>
          rw [List.cons_append] at e3
          obtain ⟨rfl, e4⟩ := List.cons.inj e3
          exact h.chn l1 a c t e1
  · rcases List.mem_append.1 hb with q | q
    · have hbo : ∀ y, y = b.1 ∨ y ∈ b.2.2 → y ∈ M.opn := fun y hy => by rw [h.opn]; exact mem_opnB.2 ⟨b, q, hy⟩
      refine (h.blk b q).mono (fun y hy => (hk y).2 (.inl hy)) (fun y hy => by rw [hn, if_neg (hne y hy)]) (fun y hy => by rw [hl, if_neg (hne _ (h.met (hbo y hy)))]) (fun d hd hd2 => ?_) (fun z hz _ _ _ => List.mem_append_left _ hz) (h.met (hbo _ (.inl rfl))) (fun y hy => h.met (hbo y (.inr hy))) (fun z hz => h.met hz)
      rw [ho, List.mem_append, List.mem_singleton] at hd
      exact hd.elim id (fun r => absurd r (hne d hd2))
    · simp at q
      subst q
      refine ⟨(fun y hy => by cases hy), (fun d hd => by simp at hd), (fun y hy => by cases hy), (fun y hy => by cases hy), ?_⟩
      simp only
      rw [hl, hn, if_pos rfl, if_pos rfl]
      exact ⟨Nat.le_refl _, x, List.mem_append_right _ (List.mem_singleton.2 rfl), by rw [hn, if_pos rfl], .inl rfl⟩
theorem TI.bump {B2 : List Blk} (h : TI web M (B0 ++ (x, n, s) :: B2)) {d : I3} (hd : (stepsV web x)[n]? = some d) (hd2 : (getV web d).isSome = true → d ∈ keysV M.met ∧ (d ∈ M.opn → numOf M.low x ≤ numOf M.met d)) : TI web { M with way := wayB (B0 ++ (x, n + 1, s) :: B2) } (B0 ++ (x, n + 1, s) :: B2) := by
  refine ⟨rfl, ?_, h.ord, h.num, h.cov, h.dis, fun l1 a c l2 hq => h.chn l1 a c l2 (by simpa using hq), fun b hb => ?_, h.gof, h.gcl, h.gmu, h.gri⟩
  · show M.opn = _
    rw [h.opn]
    simp [opnB]
  · rcases List.mem_append.1 hb with q | q
    · have r := h.blk b (List.mem_append_left _ q)
      exact ⟨r.dn, r.e1, r.e2, r.back, r.low⟩
    · rcases List.mem_cons.1 q with q | q
      · subst q
        have r := h.blk (x, n, s) (List.mem_append_right _ (List.mem_cons_self ..))
        refine ⟨r.dn, fun c hc hw => ?_, r.e2, r.back, r.low⟩
        obtain ⟨hn1, hn2⟩ := List.getElem?_eq_some_iff.1 hd
        rw [List.take_succ_eq_append_getElem hn1, hn2] at hc
        rcases List.mem_append.1 hc with q | q
        · exact r.e1 c q hw
        · simp at q
          subst q
          exact hd2 hw
      · have r := h.blk b (List.mem_append_right _ (List.mem_cons_of_mem _ q))
        exact ⟨r.dn, r.e1, r.e2, r.back, r.low⟩
theorem opn_nd (h : TI web M B) (hI : FI web M) : (opnB B).Nodup := h.opn ▸ hI.ond
theorem TI.low' (h : TI web M (B0 ++ [(x, n, s)])) (hI : FI web M) {d : I3} (hd : d ∈ eV web x) (ho : d ∈ M.opn) : TI web { M with low := putV M.low x (min (numOf M.low x) (numOf M.met d)) } (B0 ++ [(x, n, s)]) := by
  have hnd := opn_nd h hI
  rw [opnB_app, opnB_one, List.nodup_append, List.nodup_cons] at hnd
  have hl : ∀ y, numOf (putV M.low x (min (numOf M.low x) (numOf M.met d))) y = if y = x then min (numOf M.low x) (numOf M.met d) else numOf M.low y := fun y => numOf_put hI.lnd x _ y
  have hbo : ∀ b ∈ B0 ++ [(x, n, s)], ∀ y, y = b.1 ∨ y ∈ b.2.2 → y ∈ M.opn := fun b hb y hy => by rw [h.opn]; exact mem_opnB.2 ⟨b, hb, hy⟩
  refine ⟨h.way, h.opn, h.ord, h.num, h.cov, h.dis, h.chn, fun b hb => ?_, h.gof, h.gcl, h.gmu, h.gri⟩
  have r := h.blk b hb
  rcases List.mem_append.1 hb with q | q
  · refine r.mono (fun _ q => q) (fun _ _ => rfl) (fun y hy => ?_) (fun _ q _ => q) (fun _ q _ _ _ => q) (h.met (hbo b hb _ (.inl rfl))) (fun y hy => h.met (hbo b hb y (.inr hy))) (fun z hz => h.met hz)
    rw [hl, if_neg]
    intro e
    exact hnd.2.2 y (mem_opnB.2 ⟨b, q, hy⟩) x (List.mem_cons_self ..) e
  · simp at q
    subst q
    simp only at r
    have hys : ∀ y ∈ s, y ≠ x := fun y hy e => hnd.2.1.1 (e ▸ hy)
    refine ⟨r.dn, fun c hc hw => ⟨(r.e1 c hc hw).1, fun q => ?_⟩, fun y hy c hc => ⟨(r.e2 y hy c hc).1, fun q => ?_⟩, fun y hy => ?_, ?_⟩
    · show numOf (putV _ _ _) x ≤ _
      rw [hl, if_pos rfl]
      exact Nat.le_trans (Nat.min_le_left _ _) ((r.e1 c hc hw).2 q)
    · show numOf (putV _ _ _) x ≤ _
      rw [hl, if_pos rfl]
      exact Nat.le_trans (Nat.min_le_left _ _) ((r.e2 y hy c hc).2 q)
    · show numOf (putV _ _ _) y < _ ∧ ∃ z ∈ M.opn, numOf M.met z = numOf (putV _ _ _) y ∧ _
      rw [hl, if_neg (hys y hy)]
      exact r.back y hy
    · show numOf (putV _ _ _) x ≤ numOf M.met x ∧ ∃ z ∈ M.opn, numOf M.met z = numOf (putV _ _ _) x ∧ _
      rw [hl, if_pos rfl]
      obtain ⟨q1, z, q2, q3, q4⟩ := r.low
      refine ⟨Nat.le_trans (Nat.min_le_left _ _) q1, ?_⟩
      by_cases e : numOf M.low x ≤ numOf M.met d
      · rw [Nat.min_eq_left e]
        exact ⟨z, q2, q3, q4⟩
      · rw [Nat.min_eq_right (by omega)]
        exact ⟨d, ho, rfl, .inr (.one hd)⟩
end
theorem getV_ofAll (i : Nat) (y : I3) : ∀ (ids : List I3) (l : List (I3 × Nat)), (keysV l).Nodup → getV (ofAll l ids i) y = if y ∈ ids then some i else getV l y
  | [], l, _ => by simp [ofAll]
  | a :: ids, l, h => by
    have ih := getV_ofAll i y ids (putV l a i) (nodup_putV h _ _)
    show getV (ofAll (putV l a i) ids i) y = _
    rw [ih, getV_put h]
    by_cases e : y ∈ ids
    · rw [if_pos e, if_pos (List.mem_cons_of_mem _ e)]
    · rw [if_neg e]
      by_cases e2 : y = a
      · subst e2; rw [if_pos rfl, if_pos (List.mem_cons_self ..)]
      · rw [if_neg e2, if_neg (by simp [e, e2])]
section
variable {web : List (I3 × NV)} {M : FM} {B B0 : List Blk} {x : I3} {n : Nat} {s : List I3}
theorem TI.ahead (h : TI web M (B0 ++ [(x, n, s)])) {a : I3} (ha : a ∈ opnB B0) : ∀ b ∈ x :: s, numOf M.met a < numOf M.met b := fun b hb => by
  have q := h.ord
  rw [h.opn, opnB_app, opnB_one, List.pairwise_append] at q
  exact q.2.2 a ha b hb
theorem TI.group (h : TI web M (B0 ++ [(x, n, s)])) (hI : FI web M) (hn : (stepsV web x).length ≤ n) (hq : numOf (lvLow M.low (wayB B0) x) x = numOf M.met x) : TI web (lvM M (wayB B0) x) B0 := by
  have hnd := opn_nd h hI
  rw [opnB_app, opnB_one, List.nodup_append, List.nodup_cons] at hnd
  have hxo : x ∉ opnB B0 := fun r => hnd.2.2 x r x (List.mem_cons_self ..) rfl
  have hop : M.opn = opnB B0 ++ x :: s := by rw [h.opn, opnB_app, opnB_one]
  have hbx := h.blk (x, n, s) (List.mem_append_right _ (List.mem_singleton.2 rfl))
  simp only at hbx
  have hlow : ∀ y, numOf (lvLow M.low (wayB B0) x) y = numOf M.low y ∨ ∃ u nu su B1, B0 = B1 ++ [(u, nu, su)] ∧ y = u ∧ numOf (lvLow M.low (wayB B0) x) y = min (numOf M.low u) (numOf M.low x) := fun y => by
    unfold lvLow
    rcases List.eq_nil_or_concat B0 with e | ⟨B1, b, e⟩
    · subst e; exact .inl rfl
    · rw [List.concat_eq_append] at e
      subst e
      obtain ⟨u, nu, su⟩ := b
      have e1 : (wayB (B1 ++ [(u, nu, su)])).getLast? = some (u, nu) := by simp [wayB]
      rw [e1]
      simp only
      rw [numOf_put hI.lnd]
      by_cases e2 : y = u
      · rw [if_pos e2]; exact .inr ⟨u, nu, su, B1, rfl, e2, rfl⟩
      · rw [if_neg e2]; exact .inl rfl
  have hlx : numOf (lvLow M.low (wayB B0) x) x = numOf M.low x := by
    rcases hlow x with e | ⟨u, nu, su, B1, e, e2, _⟩
    · exact e
    · exact absurd (mem_opnB.2 ⟨(u, nu, su), by rw [e]; simp, .inl e2⟩) hxo
  have hxl : numOf M.low x = numOf M.met x := hlx.symm.trans hq
  have hl : ∀ y, numOf (lvLow M.low (wayB B0) x) y = numOf M.low y := fun y => by
    rcases hlow y with e | ⟨u, nu, su, B1, e, e2, e3⟩
    · exact e
    · subst e2
      have r := (h.blk (y, nu, su) (List.mem_append_left _ (by rw [e]; simp))).low.1
      have r2 := h.ahead (a := y) (mem_opnB.2 ⟨(y, nu, su), by rw [e]; simp, .inl rfl⟩) x (List.mem_cons_self ..)
      simp only at r
      rw [e3, Nat.min_eq_left (by omega)]
  obtain ⟨c1, c2⟩ := cut_first hop hxo
  have hM : lvM M (wayB B0) x = { M with low := lvLow M.low (wayB B0) x, way := wayB B0, opn := opnB B0, ofi := ofAll M.ofi (clnI (x :: s)) M.gs.length, gs := M.gs ++ [clnI (x :: s)] } := by
    unfold lvM
    simp only
    rw [if_pos hq, c1, c2]
  have hg : ∀ y, y ∈ clnI (x :: s) ↔ y ∈ x :: s := fun y => mem_clnI _ _
  have hgo : ∀ y, getV (ofAll M.ofi (clnI (x :: s)) M.gs.length) y = if y ∈ x :: s then some M.gs.length else getV M.ofi y := fun y => by
    rw [getV_ofAll _ _ _ _ hI.fnd]
    by_cases e : y ∈ x :: s
    · rw [if_pos e, if_pos ((hg y).2 e)]
    · rw [if_neg e, if_neg (fun r => e ((hg y).1 r))]
  have hso : ∀ y ∈ x :: s, y ∈ M.opn := fun y hy => by rw [hop]; exact List.mem_append_right _ hy
  have hlt : ∀ y j, getV M.ofi y = some j → j < M.gs.length := fun y j q => by
    obtain ⟨t, e, _⟩ := (h.gof y j).1 q
    exact (List.getElem?_eq_some_iff.1 e).1
  have hns : ∀ y j, getV M.ofi y = some j → y ∉ x :: s := fun y j q r => by rw [h.dis y (hso y r)] at q; cases q
  have hcl : ∀ y ∈ x :: s, ∀ d ∈ eV web y, d ∈ x :: s ∨ ∃ k, getV M.ofi d = some k := fun y hy d hd => by
    have q : d ∈ keysV M.met ∧ (d ∈ M.opn → numOf M.low x ≤ numOf M.met d) := by
      rcases List.mem_cons.1 hy with e | e
      · subst e
        exact hbx.e1 d (by rw [List.take_of_length_le hn]; exact (mem_eV.1 hd).1) (mem_eV.1 hd).2
      · exact hbx.e2 y e d hd
    rcases (h.cov d).1 q.1 with r | r
    · have r2 := q.2 r
      rw [hop] at r
      rcases List.mem_append.1 r with r3 | r3
      · have := h.ahead r3 x (List.mem_cons_self ..)
        omega
      · exact .inl r3
    · exact .inr (Option.isSome_iff_exists.1 r)
  have hrc : ∀ y z, Rch (eV web) y z → (y ∈ x :: s ∨ ∃ k, getV M.ofi y = some k) → z ∈ x :: s ∨ ∃ k, getV M.ofi z = some k := fun y z hr hy => by
    have st : ∀ a, (a ∈ x :: s ∨ ∃ k, getV M.ofi a = some k) → ∀ d ∈ eV web a, d ∈ x :: s ∨ ∃ k, getV M.ofi d = some k := fun a ha d hd => by
      rcases ha with q | ⟨k, q⟩
      · exact hcl a q d hd
      · obtain ⟨k2, _, q2⟩ := h.gcl a k q d hd
        exact .inr ⟨k2, q2⟩
    induction hr with
    | one hd => exact st y hy _ hd
    | more _ hd ih => exact st _ ih _ hd
  have hbk : ∀ m, ∀ y ∈ s, numOf M.met y ≤ m → Rch (eV web) y x := fun m => by
    induction m with
    | zero =>
      intro y hy hm
      have := (hbx.back y hy).1
      omega
    | succ m ih =>
      intro y hy hm
      obtain ⟨q1, z, q2, q3, q4⟩ := hbx.back y hy
      rcases hrc y z q4 (.inl (List.mem_cons_of_mem _ hy)) with r | ⟨k, r⟩
      · rcases List.mem_cons.1 r with e | e
        · subst e; exact q4
        · exact q4.trans (ih z e (by omega))
      · rw [h.dis z q2] at r; cases r
  rw [hM]
  refine ⟨rfl, rfl, ?_, h.num, fun y => ?_, fun y hy => ?_, fun l1 a c l2 q => ?_, fun b hb => ?_, fun y j => ?_, fun y j q d hd => ?_, fun t ht y hy z hz => ?_, fun t ht => ?_⟩
  · have q := h.ord
    rw [hop, List.pairwise_append] at q
    exact q.1
  · rw [h.cov, hop, List.mem_append]
    show _ ↔ y ∈ opnB B0 ∨ (getV (ofAll M.ofi (clnI (x :: s)) M.gs.length) y).isSome = true
    rw [hgo]
    by_cases e : y ∈ x :: s
    · simp only [e, or_true, true_or, if_true, Option.isSome_some]
    · simp only [e, or_false, if_false]
  · show getV (ofAll M.ofi (clnI (x :: s)) M.gs.length) y = none
    rw [hgo, if_neg (fun r => hnd.2.2 y hy y r rfl)]
    exact h.dis y (by rw [hop]; exact List.mem_append_left _ hy)
  · exact h.chn l1 a c (l2 ++ [x]) (by rw [List.map_append, q]; simp)
  · have hbo : ∀ y, y = b.1 ∨ y ∈ b.2.2 → y ∈ opnB B0 := fun y hy => mem_opnB.2 ⟨b, hb, hy⟩
    have hbm : ∀ y, y = b.1 ∨ y ∈ b.2.2 → y ∈ keysV M.met := fun y hy => h.met (by rw [hop]; exact List.mem_append_left _ (hbo y hy))
    refine (h.blk b (List.mem_append_left _ hb)).mono (fun _ q => q) (fun _ _ => rfl) (fun y _ => hl y) (fun d hd _ => by rw [hop]; exact List.mem_append_left _ hd) (fun z hz y hy hle => ?_) (hbm _ (.inl rfl)) (fun y hy => hbm y (.inr hy)) (fun z hz => h.met hz)
    rw [hop] at hz
    rcases List.mem_append.1 hz with r | r
    · exact r
    · have := h.ahead (hbo y hy) z r
      omega
  · show getV (ofAll M.ofi (clnI (x :: s)) M.gs.length) y = some j ↔ ∃ t, (M.gs ++ [clnI (x :: s)])[j]? = some t ∧ y ∈ t
    rw [hgo]
    by_cases e : y ∈ x :: s
    · rw [if_pos e]
      constructor
      · intro q
        injection q with q
        subst q
        exact ⟨clnI (x :: s), by simp, (hg y).2 e⟩
      · rintro ⟨t, ht, hy⟩
        by_cases hj : j < M.gs.length
        · rw [List.getElem?_append_left hj] at ht
          have q := (h.gof y j).2 ⟨t, ht, hy⟩
          exact absurd e (hns y j q)
        · have hj2 : j < (M.gs ++ [clnI (x :: s)]).length := (List.getElem?_eq_some_iff.1 ht).1
          simp at hj2
          have : j = M.gs.length := by omega
          rw [this]
    · rw [if_neg e, h.gof]
      constructor
      · rintro ⟨t, ht, hy⟩
        exact ⟨t, by rw [List.getElem?_append_left (List.getElem?_eq_some_iff.1 ht).1]; exact ht, hy⟩
      · rintro ⟨t, ht, hy⟩
        by_cases hj : j < M.gs.length
        · rw [List.getElem?_append_left hj] at ht
          exact ⟨t, ht, hy⟩
        · have hj2 : j < (M.gs ++ [clnI (x :: s)]).length := (List.getElem?_eq_some_iff.1 ht).1
          simp at hj2
          have hj3 : j = M.gs.length := by omega
          subst hj3
          simp at ht
          subst ht
          exact absurd ((hg y).1 hy) e
  · have q' : getV (ofAll M.ofi (clnI (x :: s)) M.gs.length) y = some j := q
    show ∃ k, k ≤ j ∧ getV (ofAll M.ofi (clnI (x :: s)) M.gs.length) d = some k
    rw [hgo] at q'
    rw [hgo]
    by_cases e : y ∈ x :: s
    · rw [if_pos e] at q'
      injection q' with q'
      subst q'
      rcases hcl y e d hd with r | ⟨k, r⟩
      · exact ⟨_, Nat.le_refl _, if_pos r⟩
      · exact ⟨k, Nat.le_of_lt (hlt d k r), by rw [if_neg (hns d k r)]; exact r⟩
    · rw [if_neg e] at q'
      obtain ⟨k, hk, r⟩ := h.gcl y j q' d hd
      exact ⟨k, hk, by rw [if_neg (hns d k r)]; exact r⟩
  · rcases List.mem_append.1 ht with r | r
    · exact h.gmu t r y hy z hz
    · simp at r
      subst r
      have hyx := (hg y).1 hy
      have hzx := (hg z).1 hz
      rcases List.mem_cons.1 hyx with e | e
      · rcases List.mem_cons.1 hzx with e2 | e2
        · exact .inl (e.trans e2.symm)
        · subst e; exact .inr (hbx.dn z e2)
      · have hy1 := hbk _ y e (Nat.le_refl _)
        rcases List.mem_cons.1 hzx with e2 | e2
        · subst e2; exact .inr hy1
        · exact .inr (hy1.trans (hbx.dn z e2))
  · rcases List.mem_append.1 ht with r | r
    · exact h.gri t r
    · simp at r
      subst r
      exact ⟨clnI_rises _, fun e => by have := (hg x).2 (List.mem_cons_self ..); rw [e] at this; cases this⟩
theorem TI.back (h : TI web M (B0 ++ [(x, n, s)])) (hI : FI web M) (hn : (stepsV web x).length ≤ n) (hq : numOf (lvLow M.low (wayB B0) x) x ≠ numOf M.met x) : ∃ B', TI web (lvM M (wayB B0) x) B' := by
  have hnd := opn_nd h hI
  rw [opnB_app, opnB_one, List.nodup_append, List.nodup_cons] at hnd
  have hxo : x ∉ opnB B0 := fun r => hnd.2.2 x r x (List.mem_cons_self ..) rfl
  have hop : M.opn = opnB B0 ++ x :: s := by rw [h.opn, opnB_app, opnB_one]
  have hbx := h.blk (x, n, s) (List.mem_append_right _ (List.mem_singleton.2 rfl))
  simp only at hbx
  rcases List.eq_nil_or_concat B0 with e | ⟨B1, b, e⟩
  · subst e
    have q0 : numOf M.low x ≠ numOf M.met x := hq
    obtain ⟨q1, z, q2, q3, _⟩ := hbx.low
    rw [hop] at q2
    simp [opnB] at q2
    rcases q2 with q2 | q2
    · subst q2; exact absurd q3.symm q0
    · have r := h.ord
      rw [hop] at r
      have r2 := (List.pairwise_cons.1 (by simpa [opnB] using r : (x :: s).Pairwise fun a b => numOf M.met a < numOf M.met b)).1 z q2
      omega
  · rw [List.concat_eq_append] at e
    subst e
    obtain ⟨u, nu, su⟩ := b
    have hum : u ∈ opnB (B1 ++ [(u, nu, su)]) := mem_opnB.2 ⟨(u, nu, su), by simp, .inl rfl⟩
    have hxu : x ≠ u := fun e => hxo (e ▸ hum)
    have e1 : (wayB (B1 ++ [(u, nu, su)])).getLast? = some (u, nu) := by simp [wayB]
    have elow : lvLow M.low (wayB (B1 ++ [(u, nu, su)])) x = putV M.low u (min (numOf M.low u) (numOf M.low x)) := by unfold lvLow; rw [e1]
    have hl : ∀ y, numOf (putV M.low u (min (numOf M.low u) (numOf M.low x))) y = if y = u then min (numOf M.low u) (numOf M.low x) else numOf M.low y := fun y => numOf_put hI.lnd u _ y
    rw [elow, hl, if_neg hxu] at hq
    have hM : lvM M (wayB (B1 ++ [(u, nu, su)])) x = { M with low := putV M.low u (min (numOf M.low u) (numOf M.low x)), way := wayB (B1 ++ [(u, nu, su)]) } := by
      unfold lvM
      simp only
      rw [elow, if_neg (by rw [hl, if_neg hxu]; exact hq)]
    have hxe : x ∈ eV web u := h.chn (B1.map (·.1)) u x [] (by simp)
    have hbu := h.blk (u, nu, su) (List.mem_append_left _ (by simp))
    simp only at hbu
    rw [opnB_app, opnB_one, List.nodup_append, List.nodup_cons] at hnd
    have hsu : ∀ y ∈ su, y ≠ u := fun y hy e => hnd.1.2.1.1 (e ▸ hy)
    have hss : ∀ y ∈ s, y ≠ u := fun y hy e => hnd.2.2 u (List.mem_append_right _ (List.mem_cons_self ..)) y (List.mem_cons_of_mem _ hy) e.symm
    rw [hM]
    refine ⟨B1 ++ [(u, nu, su ++ x :: s)], by simp [wayB], by rw [show _ = M.opn from rfl, hop]; simp [opnB], h.ord, h.num, h.cov, h.dis, fun l1 a c l2 q => h.chn l1 a c (l2 ++ [x]) (by rw [List.map_append, show (B1 ++ [(u, nu, su)]).map (·.1) = (B1 ++ [(u, nu, su ++ x :: s)]).map (·.1) by simp, q]; simp), fun b hb => ?_, h.gof, h.gcl, h.gmu, h.gri⟩
    rcases List.mem_append.1 hb with q | q
    · have hbo : ∀ y, y = b.1 ∨ y ∈ b.2.2 → y ∈ opnB B1 := fun y hy => mem_opnB.2 ⟨b, q, hy⟩
      have hbm : ∀ y, y = b.1 ∨ y ∈ b.2.2 → y ∈ M.opn := fun y hy => by rw [hop, opnB_app]; exact List.mem_append_left _ (List.mem_append_left _ (hbo y hy))
      refine (h.blk b (List.mem_append_left _ (List.mem_append_left _ q))).mono (fun _ r => r) (fun _ _ => rfl) (fun y hy => ?_) (fun _ r _ => r) (fun _ r _ _ _ => r) (h.met (hbm _ (.inl rfl))) (fun y hy => h.met (hbm y (.inr hy))) (fun z hz => h.met hz)
      show numOf (putV _ _ _) y = _
      rw [hl, if_neg]
      exact fun e => hnd.1.2.2 y (hbo y hy) u (List.mem_cons_self ..) e
    · simp at q
      subst q
      have hlu : numOf (putV M.low u (min (numOf M.low u) (numOf M.low x))) u = min (numOf M.low u) (numOf M.low x) := by rw [hl, if_pos rfl]
      refine ⟨fun y hy => ?_, fun d hd hw => ⟨(hbu.e1 d hd hw).1, fun r => ?_⟩, fun y hy d hd => ?_, fun y hy => ?_, ?_⟩
      · rcases List.mem_append.1 hy with r | r
        · exact hbu.dn y r
        · rcases List.mem_cons.1 r with r | r
          · subst r; exact .one hxe
          · exact (Rch.one hxe).trans (hbx.dn y r)
      · show numOf (putV _ _ _) u ≤ _
        rw [hlu]
        exact Nat.le_trans (Nat.min_le_left _ _) ((hbu.e1 d hd hw).2 r)
      · rcases List.mem_append.1 hy with r | r
        · refine ⟨(hbu.e2 y r d hd).1, fun r2 => ?_⟩
          show numOf (putV _ _ _) u ≤ _
          rw [hlu]
          exact Nat.le_trans (Nat.min_le_left _ _) ((hbu.e2 y r d hd).2 r2)
        · have q : d ∈ keysV M.met ∧ (d ∈ M.opn → numOf M.low x ≤ numOf M.met d) := by
            rcases List.mem_cons.1 r with e | e
            · subst e
              exact hbx.e1 d (by rw [List.take_of_length_le hn]; exact (mem_eV.1 hd).1) (mem_eV.1 hd).2
            · exact hbx.e2 y e d hd
          refine ⟨q.1, fun r2 => ?_⟩
          show numOf (putV _ _ _) u ≤ _
          rw [hlu]
          exact Nat.le_trans (Nat.min_le_right _ _) (q.2 r2)
      · show numOf (putV _ _ _) y < numOf M.met y ∧ ∃ z ∈ M.opn, numOf M.met z = numOf (putV _ _ _) y ∧ _
        rcases List.mem_append.1 hy with r | r
        · rw [hl, if_neg (hsu y r)]; exact hbu.back y r
        · rcases List.mem_cons.1 r with e | e
          · subst e
            rw [hl, if_neg hxu]
            obtain ⟨q1, z, q2, q3, q4⟩ := hbx.low
            refine ⟨by omega, z, q2, q3, ?_⟩
            rcases q4 with q4 | q4
            · subst q4; omega
            · exact q4
          · rw [hl, if_neg (hss y e)]; exact hbx.back y e
      · show numOf (putV _ _ _) u ≤ numOf M.met u ∧ ∃ z ∈ M.opn, numOf M.met z = numOf (putV _ _ _) u ∧ _
        rw [hlu]
        obtain ⟨q1, z, q2, q3, q4⟩ := hbu.low
        refine ⟨Nat.le_trans (Nat.min_le_left _ _) q1, ?_⟩
        by_cases e : numOf M.low u ≤ numOf M.low x
        · rw [Nat.min_eq_left e]; exact ⟨z, q2, q3, q4⟩
        · rw [Nat.min_eq_right (by omega)]
          obtain ⟨p1, z2, p2, p3, p4⟩ := hbx.low
          refine ⟨z2, p2, p3, .inr ?_⟩
          rcases p4 with p4 | p4
          · subst p4; exact .one hxe
          · exact (Rch.one hxe).trans p4
theorem TI.step (h : TI web M B) (hI : FI web M) : ∃ B', TI web (stepM web M) B' := by
  rcases List.eq_nil_or_concat B with e | ⟨B0, b, e⟩
  · subst e
    have hw : M.way = [] := h.way
    have e : stepM web M = M := by
      unfold stepM
      rw [hw]
      rfl
    rw [e]
    exact ⟨_, h⟩
  · rw [List.concat_eq_append] at e
    subst e
    obtain ⟨x, n, s⟩ := b
    have hw : M.way = wayB B0 ++ [(x, n)] := by rw [h.way, wayB_app]; rfl
    cases q : (stepsV web x)[n]? with
    | none =>
      have hn : (stepsV web x).length ≤ n := List.getElem?_eq_none_iff.1 q
      rw [step_leave hw hn]
      by_cases hq : numOf (lvLow M.low (wayB B0) x) x = numOf M.met x
      · exact ⟨_, h.group hI hn hq⟩
      · exact h.back hI hn hq
    | some d =>
      have hds : d ∈ stepsV web x := List.mem_of_getElem? q
      have ew : ∀ s', wayB (B0 ++ [(x, n + 1, s')]) = wayB B0 ++ [(x, n + 1)] := fun s' => by rw [wayB_app]; rfl
      rw [step_go hw q]
      split
      · rename_i hs
        have hde : d ∈ eV web x := mem_eV.2 ⟨hds, hs⟩
        split
        · rename_i h0
          have hdm : d ∉ keysV M.met := fun r => hI.pos d r h0
          have h1 := h.enter hI hs hdm (fun l1 a e => by
            rw [List.map_append, List.map_cons, List.map_nil] at e
            obtain ⟨_, e2⟩ := List.append_inj' e rfl
            injection e2 with e2
            rw [← e2]
            exact hde)
          rw [List.append_assoc, List.singleton_append] at h1
          have h2 := h1.bump q (fun _ => ⟨mem_keys_put.2 (.inr rfl), fun _ => by
            have hlx := (h.blk (x, n, s) (List.mem_append_right _ (List.mem_singleton.2 rfl))).low.1
            have hxm : x ∈ keysV M.met := (hI.top hw).2
            have e1 : numOf (enM M d).low x = numOf M.low x := by
              show numOf (putV _ _ _) x = _
              have hxd : x ≠ d := fun e => by subst e; exact hdm hxm
              rw [numOf_put hI.lnd, if_neg hxd]
            have e2 : numOf (enM M d).met d = M.met.length + 1 := by
              show numOf (putV _ _ _) d = _
              rw [numOf_put hI.mnd, if_pos rfl]
            have := h.num x hxm
            simp only at hlx
            rw [e1, e2]
            omega⟩)
          refine ⟨B0 ++ (x, n + 1, s) :: [(d, 0, [])], ?_⟩
          · have e3 : (enM { M with way := wayB B0 ++ [(x, n + 1)] } d) = { enM M d with way := wayB (B0 ++ (x, n + 1, s) :: [(d, 0, [])]) } := by
              unfold enM
              simp [wayB]
            rw [e3]
            exact h2
        · rename_i h0
          have hdm : d ∈ keysV M.met := numOf_zero h0
          split
          · rename_i ho
            have hdo : d ∈ M.opn := by
              rcases (h.cov d).1 hdm with r | r
              · exact r
              · rw [Option.isNone_iff_eq_none] at ho; rw [ho] at r; cases r
            have h1 := h.low' hI hde hdo
            have h2 := h1.bump q (fun _ => ⟨hdm, fun _ => by
              show numOf (putV _ _ _) x ≤ _
              rw [numOf_put hI.lnd, if_pos rfl]
              exact Nat.min_le_right _ _⟩)
            refine ⟨B0 ++ [(x, n + 1, s)], ?_⟩
            · rw [← ew s]; exact h2
          · rename_i ho
            have h2 := h.bump q (fun _ => ⟨hdm, fun r => by rw [h.dis d r] at ho; exact absurd rfl ho⟩)
            refine ⟨B0 ++ [(x, n + 1, s)], ?_⟩
            · rw [← ew s]; exact h2
      · rename_i hs
        have h2 := h.bump q (fun r => absurd r hs)
        refine ⟨B0 ++ [(x, n + 1, s)], ?_⟩
        · rw [← ew s]; exact h2
theorem TI.run (h : TI web M B) (hI : FI web M) (i : Nat) : (∃ B', TI web (Nat.repeat (stepM web) i M) B') ∧ FI web (Nat.repeat (stepM web) i M) := by
  induction i with
  | zero => exact ⟨⟨B, h⟩, hI⟩
  | succ i ih =>
    obtain ⟨⟨B', h'⟩, hI'⟩ := ih
    exact ⟨h'.step hI', hI'.step⟩
end
theorem repeat_met {web : List (I3 × NV)} {x : I3} (i : Nat) (M : FM) (h : x ∈ keysV M.met) : x ∈ keysV (Nat.repeat (stepM web) i M).met := by
  have st : ∀ M : FM, x ∈ keysV M.met → x ∈ keysV (stepM web M).met := fun M h => by
    unfold stepM
    split
    · exact h
    · split
      · unfold lvM
        simp only
        split <;> exact h
      · simp only
        split
        · split
          · exact mem_keys_put.2 (.inl h)
          · split <;> exact h
        · exact h
  induction i with
  | zero => exact h
  | succ i ih => exact st _ ih
theorem TI.empty {web : List (I3 × NV)} {M : FM} {B : List Blk} (h : TI web M B) (hw : M.way = []) : B = [] := by
  have q := h.way
  rw [hw] at q
  cases B with
  | nil => rfl
  | cons b B => simp [wayB] at q
/-- What FdR comes to. -/
theorem FdR.ti {web : List (I3 × NV)} {l : List I3} {M : FM} (h : FdR web l M) : (∀ x ∈ l, x ∈ keysV web) → TI web M [] ∧ FI web M ∧ ∀ x ∈ l, x ∈ keysV M.met := by
  induction h with
  | nil => exact fun _ => ⟨TI.start, FI.start web, (fun x hx => by cases hx)⟩
  | @skip l M x _ h0 ih =>
    intro hl
    obtain ⟨h1, h2, h3⟩ := ih (fun x hx => hl x (List.mem_append_left _ hx))
    refine ⟨h1, h2, fun y hy => ?_⟩
    rcases List.mem_append.1 hy with q | q
    · exact h3 y q
    · simp at q; subst q; exact numOf_zero h0
  | @go l M M' x i _ h0 hM hw ih =>
    intro hl
    obtain ⟨h1, h2, h3⟩ := ih (fun x hx => hl x (List.mem_append_left _ hx))
    have hxw : x ∈ keysV web := hl x (List.mem_append_right _ (List.mem_singleton.2 rfl))
    have hxm : x ∉ keysV M.met := fun r => h2.pos x r h0
    have ht := h1.enter h2 (by rw [getV_isSome, hasI_iff]; exact hxw) hxm (fun l1 a e => by simp at e)
    obtain ⟨⟨B', hB⟩, hI⟩ := ht.run (h2.enter hxw hxm) i
    rw [← hM] at hB hI
    have e := hB.empty hw
    subst e
    refine ⟨hB, hI, fun y hy => ?_⟩
    rw [hM]
    apply repeat_met
    rcases List.mem_append.1 hy with q | q
    · exact mem_keys_put.2 (.inl (h3 y q))
    · simp at q; exact mem_keys_put.2 (.inr q)
end Go.Proofs.Ytlckjpjcfalfnaa
