/-
  Laws of package paths, those that this seat can use.
-/
import Derived.Test.YtodcmhmankmaoaaGreatByt
import Derived.ProofKit
import Derived.OpenShut
import Derived.Lib.SmallJoins
import Derived.Deep.Slices
import Derived.Test.YtodcmhmankmaoaaGreatArr
import Derived.Laws.AppendOwnNone
import Derived.Lib.Join
import Derived.Lib.IndexMore
import Derived.Lib.Strings
import Derived.Sort.Walk0
import Derived.Shelf.GgClosure.StringsIndexFunc
import Derived.Shelf.GgClosure.Gives
import Derived.Test.YtodcmhmankmaoaaGreatShelf
import Derived.WalkMore
namespace Go.Proofs.YtodcmhmankmaoaaGreat
open Go.ChangeShapes Go.WideShapes Go.ChangeAt Go.RowKit Go.Joins Go.Deep Go
set_option linter.unusedSimpArgs false
set_option linter.unusedVariables false

/-- Things one by one make a list. -/
theorem list_of {α : Type} {dflt : α} {Pr : Nat → α → Prop} : ∀ n, (∀ i, i < n → ∃ t, Pr i t) → ∃ ts : List α, ts.length = n ∧ ∀ i, i < n → Pr i (ts.getD i dflt)
  | 0, _ => ⟨[], rfl, fun i h => by omega⟩
  | n + 1, h => by
    obtain ⟨ts, h1, h2⟩ := list_of (dflt := dflt) n (fun i hi => h i (by omega))
    obtain ⟨t, ht⟩ := h n (by omega)
    refine ⟨ts ++ [t], by simp [h1], fun i hi => ?_⟩
    by_cases q : i < n
    · have := h2 i q
      simpa [List.getD, List.getElem?_append, h1, q] using this
    · obtain rfl : i = n := by omega
      simpa [List.getD, List.getElem?_append, h1] using ht
/-- Texts that can be read from an address. -/
def SRd (w : World) (a : Option Addr) (ss : List ByteArray) : Prop :=
  ss.length ≤ 9223372036854775807 ∧ (ss = [] ∨ ∃ g off, a = some ⟨g, off, none⟩ ∧ g < w.heap.size ∧ ∀ i, i < ss.length → w.cell? ⟨g, off + i, none⟩ = some (.string (ss.getD i ByteArray.empty)))
theorem SRd.below {w w' : World} {a : Option Addr} {ss : List ByteArray} (h : SRd w a ss) (hb : Below w.heap.size w w') : SRd w' a ss := by
  obtain ⟨h1, h2⟩ := h
  refine ⟨h1, ?_⟩
  rcases h2 with h2 | ⟨b, off, ha, hbl, hc⟩
  · exact .inl h2
  · exact .inr ⟨b, off, ha, by have := hb.size; omega, fun i hi => by rw [hb.cell (p := ⟨b, off + i, none⟩) hbl]; exact hc i hi⟩
theorem SRd.cell {w : World} {a : Option Addr} {ss : List ByteArray} (h : SRd w a ss) (k : Nat) (hk : k < ss.length) : ∃ g off, a = some ⟨g, off, none⟩ ∧ g < w.heap.size ∧ w.cell? ⟨g, off + k, none⟩ = some (.string (ss.getD k ByteArray.empty)) := by
  rcases h.2 with h0 | ⟨g, off, ha, hg, hc⟩
  · subst h0; simp at hk
  · exact ⟨g, off, ha, hg, hc k hk⟩
theorem block_lt_of_cell2 {w : World} {p : Addr} {v : Value} (h : w.cell? p = some v) (hs : p.spot = none) : p.block < w.heap.size := by
  by_cases g : p.block < w.heap.size
  · exact g
  · exfalso
    have e : w.heap[p.block]? = none := by simp; omega
    simp [World.cell?, hs, e] at h
theorem add_at (b o j : Nat) : (⟨b, o, none⟩ : Addr).add j = ⟨b, o + j, none⟩ := by unfold Addr.add; split <;> simp_all
theorem cellsStr : Tryz.prog.cellsOf 9 = 1 := by kernel_rfl
/-- An own row of values, each a cell. -/
def Own1 (w : World) (base e : Nat) (v : Value) (vs : List Value) : Prop := w.ownsRow base e 1 v vs.length vs
theorem own1_from {w : World} {base e : Nat} {v : Value} {vs : List Value} (h : Own1 w base e v vs) : ∀ k, v.ownBlock = some k → base ≤ k := by
  intro k hk
  rcases h.2 with ⟨rfl, _⟩ | ⟨g, cap, cur, rfl, hg, _⟩
  · cases hk
  · simp [Value.ownBlock] at hk; omega
theorem Own1.nil (w : World) (base e : Nat) : Own1 w base e (.slice none 0 0) [] := ⟨rfl, .inl ⟨rfl, rfl⟩⟩
theorem Own1.slice {w : World} {base e : Nat} {v : Value} {vs : List Value} (h : Own1 w base e v vs) : ∃ a c, v = .slice a vs.length c := by
  rcases h.2 with ⟨rfl, h0⟩ | ⟨g, cap, cur, rfl, _⟩
  · exact ⟨_, _, by rw [h0]⟩
  · exact ⟨_, _, rfl⟩
theorem Own1.below {w w' : World} {base e : Nat} {v : Value} {vs : List Value} (h : Own1 w base e v vs) (hb : Below w.heap.size w w') : Own1 w' base e v vs := by
  obtain ⟨h1, h2⟩ := h
  refine ⟨h1, ?_⟩
  rcases h2 with h2 | ⟨g, cap, cur, hv, hg, hh, hr⟩
  · exact .inl h2
  · exact .inr ⟨g, cap, cur, hv, hg, (hb.block g (Array.getElem?_eq_some_iff.1 hh).1).trans hh, hr⟩
theorem Own1.cell {w : World} {base e : Nat} {v : Value} {vs : List Value} (h : Own1 w base e v vs) (k : Nat) (hk : k < vs.length) : ∃ g c, v = .slice (some ⟨g, 0, none⟩) vs.length c ∧ g < w.heap.size ∧ w.cell? ⟨g, k, none⟩ = some (vs.getD k undef) := by
  rcases h.2 with ⟨rfl, h0⟩ | ⟨g, cap, cur, rfl, hg, hh, hn, hm, hs, hx⟩
  · omega
  · refine ⟨g, cap, rfl, (Array.getElem?_eq_some_iff.1 hh).1, ?_⟩
    have e1 : cur[k]? = some (vs.getD k undef) := by
      have h1 : (cur.toList.take (vs.length * 1))[k]? = vs[k]? := by rw [hx]
      rw [List.getElem?_take, if_pos (by omega)] at h1
      rw [← Array.getElem?_toList, h1]
      simp [List.getD, hk]
    simp [World.cell?, hh, e1]
section
variable {ops : Array Oper} {rest : List Oper} {o : Oper} {a : Act} {w : World} {Q : Exit → Act → World → Prop}
/-- 'append(s, x)', s a row of one's own, x one value that is a cell. -/
theorem wpList_app1 (hgd : o.guard = none) (s x : Operand) (t e : TypeId) (z : Value) (bytes : Nat) (ho : o.op = .call { callee := .builtin .append, args := #[s, x], argTypes := #[t, t] })
    (ht : Tryz.prog.underlying t = some (.slice e)) (hinfo : (Tryz.prog.info? e).map (fun i => (i.zero, i.size, i.bytes)) = some (some z, 1, bytes)) (hzs : z.cells.size = 1) (hby : bytes ≤ 100)
    (base : Nat) (v : Value) (vs : List Value) (hs : a.eval s = v) (hown : Own1 w base e v vs) (g : Nat) (u : Value) (hx : a.eval x = .slice (some ⟨g, 0, none⟩) 1 1) (hu : w.cell? ⟨g, 0, none⟩ = some u) (h1 : u.oneCell' = true)
    (hl : vs.length ≤ 1000000000) (hbase : base ≤ w.heap.size)
    (h : ∀ v' w', Own1 w' base e v' (vs ++ [u]) → Below base w w' → w.heap.size ≤ w'.heap.size → w.grownBy w' v.ownBlock → wpList Tryz.prog ops Q rest (a.put o.dst v') w') : wpList Tryz.prog ops Q (o :: rest) a w := by
  obtain ⟨i0, hi, hz0, hz1, hz2⟩ := info_parts hinfo
  refine wpList_append_own _ hgd s x t ho base e i0 z 1 bytes ht hi hz0 hz1 hz2 hzs (by decide) v vs.length vs hs hown ⟨g, 0, none⟩ 1 1 [u] hx rfl ?_ (by intro q hq; simp at hq; subst hq; exact h1) (by unfold maxLen; omega) (Nat.le_trans (Nat.mul_le_mul (show vs.length + 1 ≤ 1000000001 by omega) hby) (by decide)) hbase ?_
  · intro j q hj
    match j, hj with
    | 0, hj => simp at hj; subst hj; simpa [Addr.add] using hu
  · intro v' w' q1 q2 _
    refine h v' w' ?_ ((Below.refl base w).grown q2 hbase (own1_from hown)) q2.size q2
    unfold Own1
    rw [List.length_append]
    exact q1
end
theorem infoStr : (Tryz.prog.info? 9).map (fun i => (i.zero, i.size, i.bytes)) = some (some (.string ByteArray.empty), 1, 16) := by kernel_rfl
section
variable {ops : Array Oper} {rest : List Oper} {o : Oper} {a : Act} {w : World} {Q : Exit → Act → World → Prop}
/-- 'append(l, x...)' of texts, l a row of one's own. -/
theorem wpList_appS (hgd : o.guard = none) (s x : Operand) (ho : o.op = .call { callee := .builtin .append, args := #[s, x], argTypes := #[34, 34] })
    (base : Nat) (v : Value) (vs : List ByteArray) (hs : a.eval s = v) (hown : Own1 w base 9 v (vs.map .string)) (ad : Option Addr) (cap : Nat) (ss : List ByteArray) (hx : a.eval x = .slice ad ss.length cap) (hy : SRd w ad ss) (hc : ad = none → cap = 0)
    (hl : vs.length + ss.length ≤ 1000000) (hbase : base ≤ w.heap.size)
    (h : ∀ v' w', Own1 w' base 9 v' ((vs ++ ss).map .string) → Below base w w' → w.heap.size ≤ w'.heap.size → wpList Tryz.prog ops Q rest (a.put o.dst v') w') : wpList Tryz.prog ops Q (o :: rest) a w := by
  obtain ⟨i0, hi, hz0, hz1, hz2⟩ := info_parts infoStr
  have hown' : w.ownsRow base 9 1 v vs.length (vs.map .string) := by have := hown; unfold Own1 at this; rw [List.length_map] at this; exact this
  cases ad with
  | none =>
    have hss : ss = [] := by
      rcases hy.2 with h0 | ⟨g, off, ha, _⟩
      · exact h0
      · cases ha
    subst hss
    obtain rfl := hc rfl
    refine wpList_append_own_none hgd s x 34 ho base 9 i0 1 Tryz.underlying34 hi v vs.length (vs.map .string) hs hown' hx ?_
    have := h v w (by simpa using hown) (Below.refl _ _) (Nat.le_refl _)
    exact this
  | some ad =>
    refine wpList_append_own _ hgd s x 34 ho base 9 i0 (.string ByteArray.empty) 1 16 Tryz.underlying34 hi hz0 hz1 hz2 rfl (by decide) v vs.length (vs.map .string) hs hown' ad ss.length cap (ss.map .string) hx (by simp) ?_ (by intro u hu; simp at hu; obtain ⟨z, _, rfl⟩ := hu; rfl) (by unfold maxLen; omega) (by omega) hbase ?_
    · intro j u hu
      rcases hy.2 with h0 | ⟨b, off, ha, _, hcl⟩
      · subst h0; simp at hu
      · cases ha
        have hj : j < ss.length := by
          have := (List.getElem?_eq_some_iff.1 hu).1
          simpa using this
        have e : u = .string (ss.getD j ByteArray.empty) := by
          simp [hj] at hu; simp [List.getD, hj, ← hu]
        rw [e, add_at]
        exact hcl j hj
    · intro v' w' q1 q2 _
      refine h v' w' ?_ ((Below.refl base w).grown q2 hbase (own1_from hown)) q2.size
      unfold Own1
      rw [List.length_map, List.length_append, List.map_append]
      exact q1
end
theorem srd_of_own {w : World} {base : Nat} {v : Value} {ss : List ByteArray} (h : Own1 w base 9 v (ss.map .string)) (hl : ss.length ≤ 1000000) : ∃ a c, v = .slice a ss.length c ∧ SRd w a ss := by
  obtain ⟨a, c, e⟩ := h.slice
  rw [List.length_map] at e
  refine ⟨a, c, e, by omega, ?_⟩
  by_cases h0 : ss = []
  · exact .inl h0
  right
  have hpos : 0 < ss.length := List.length_pos_iff.2 h0
  obtain ⟨g, c', e', hg, _⟩ := h.cell 0 (by simpa using hpos)
  rw [e] at e'
  simp only [Value.slice.injEq] at e'
  obtain ⟨rfl, _, rfl⟩ := e'
  refine ⟨g, 0, rfl, hg, fun i hi => ?_⟩
  obtain ⟨g2, c2, e2, _, hc⟩ := h.cell i (by simpa using hi)
  rw [e] at e2
  simp only [Value.slice.injEq, Option.some.injEq, Addr.mk.injEq] at e2
  obtain ⟨⟨rfl, _, _⟩, _, _⟩ := e2
  rw [Nat.zero_add, hc]
  simp [List.getD, hi]
/-- 's[:n]' of texts that came in. -/
theorem srd_cut {w : World} {a : Option Addr} {c : Nat} {ss : List ByteArray} (h : SRd w a ss) (n : Nat) (hn : n ≤ ss.length) : SRd w a (ss.take n) := by
  refine ⟨by simp; have := h.1; omega, ?_⟩
  rcases h.2 with h0 | ⟨g, off, ha, hg, hc⟩
  · exact .inl (by rw [h0]; simp)
  · by_cases z : ss.take n = []
    · exact .inl z
    · refine .inr ⟨g, off, ha, hg, fun i hi => ?_⟩
      have hi' : i < n ∧ i < ss.length := by simp at hi; omega
      rw [hc i hi'.2]
      simp [List.getD, List.getElem?_take, hi'.1]
section
variable {ops : Array Oper} {rest : List Oper} {o : Oper} {a : Act} {w : World} {Q : Exit → Act → World → Prop}
/-- 's[:h]' of texts. -/
theorem wpList_cutS (hw : Region.wanted o (yielded ops a.tmps) = true) (x hi : Operand) (ho : o.op = .slice 34 x none (some hi) none) (ad : Option Addr) (n c : Nat) (hx : a.eval x = .slice ad n c)
    (h : Nat) (hh : a.eval hi = .int .i64 (h : Int)) (hn : h ≤ c)
    (hk : wpList Tryz.prog ops Q rest (a.put o.dst (.slice ad h c)) w) : wpList Tryz.prog ops Q (o :: rest) a w := by
  refine wpList_value hw _ w ?_ hk
  have hu : Tryz.prog.underlying 34 = some (.slice (Tryz.prog.elem 34)) := by kernel_rfl
  have hs : ∀ w, (sizeOf (Tryz.prog.elem 34)).run Tryz.prog w = .ok 1 w := fun w => by kernel_rfl
  unfold execOp
  simp only [ho, Option.map_some, Option.map_none, hx, hh, Sem.run_bind, Sem.run_pure, Result.andThen_ok]
  rw [run_sliceAt_slice (h := hu), run_slice_h (ht := hu) (h0 := by omega) (h2 := by omega), hs]
  rcases ad with _ | ⟨b, k, q⟩ <;> simp [sliced, Addr.add]
end
theorem Own1.blk {w : World} {base e : Nat} {v : Value} {vs : List Value} (h : Own1 w base e v vs) : ∀ k, v.ownBlock = some k → ∃ cs fr, w.heap[k]? = some (.cells cs e fr) := by
  intro k hk
  rcases h.2 with ⟨rfl, _⟩ | ⟨g, cap, cur, rfl, hg, hh, _⟩
  · cases hk
  · simp [Value.ownBlock] at hk
    subst hk
    exact ⟨_, _, hh⟩
theorem Own1.keepB {w w' : World} {base e : Nat} {v : Value} {vs : List Value} (h : Own1 w base e v vs) (hk : ∀ k, v.ownBlock = some k → w'.heap[k]? = w.heap[k]?) : Own1 w' base e v vs := by
  obtain ⟨h1, h2⟩ := h
  refine ⟨h1, ?_⟩
  rcases h2 with h2 | ⟨g, cap, cur, hv, hg, hh, hr⟩
  · exact .inl h2
  · exact .inr ⟨g, cap, cur, hv, hg, (hk g (by rw [hv]; rfl)).trans hh, hr⟩
def okc (c : UInt8) : Bool := (decide (97 ≤ c.toNat) && decide (c.toNat ≤ 122)) || (decide (48 ≤ c.toNat) && decide (c.toNat ≤ 57)) || decide (c.toNat = 45) || decide (c.toNat = 95)
def nmB (l : List UInt8) : Bool := l.all okc && decide (1 ≤ l.length) && decide (l.length ≤ 16)
/-- What is between the strokes. -/
def spl : List UInt8 → List (List UInt8)
  | [] => [[]]
  | c :: l => if c = 47 then [] :: spl l else (c :: (spl l).headD []) :: (spl l).tail
def jn (ns : List (List UInt8)) : List UInt8 := Lib.join ns [47]
/-- May these be a path's names? -/
def okN (ns : List (List UInt8)) : Bool := ns.all nmB && decide (ns.length ≤ 8)
def nmsO : List UInt8 → Option (List (List UInt8))
  | [] => none
  | c :: r => if c = 47 then (if r = [] then some [] else if okN (spl r) then some (spl r) else none) else none
theorem spl_ne (l : List UInt8) : spl l ≠ [] := by
  cases l with
  | nil => simp [spl]
  | cons c l => unfold spl; split <;> simp
theorem spl_no (x : List UInt8) (h : ∀ c ∈ x, c ≠ 47) : spl x = [x] := by
  induction x with
  | nil => rfl
  | cons c x ih =>
    have hc := h c (by simp)
    rw [spl, if_neg hc, ih (fun d hd => h d (by simp [hd]))]
    rfl
theorem spl_app (x r : List UInt8) (h : ∀ c ∈ x, c ≠ 47) : spl (x ++ 47 :: r) = x :: spl r := by
  induction x with
  | nil => simp [spl]
  | cons c x ih =>
    have hc := h c (by simp)
    rw [List.cons_append, spl, if_neg hc, ih (fun d hd => h d (by simp [hd]))]
    rfl
theorem okc_ne {c : UInt8} (h : okc c = true) : c ≠ 47 := by
  rintro rfl
  revert h
  decide
theorem nmB_ne {l : List UInt8} (h : nmB l = true) : (∀ c ∈ l, c ≠ 47) ∧ l ≠ [] := by
  unfold nmB at h
  simp only [Bool.and_eq_true, List.all_eq_true, decide_eq_true_eq] at h
  exact ⟨fun c hc => okc_ne (h.1.1 c hc), by rintro rfl; simp at h⟩
theorem jn_nil : jn [] = [] := rfl
theorem jn_one (x : List UInt8) : jn [x] = x := by simp [jn, Lib.join_one]
theorem jn_cons (x y : List UInt8) (r : List (List UInt8)) : jn (x :: y :: r) = x ++ 47 :: jn (y :: r) := by
  simp [jn, Lib.join_cons, Lib.joinTail]
theorem spl_jn (ns : List (List UInt8)) (h0 : ns ≠ []) (h : ∀ n ∈ ns, ∀ c ∈ n, c ≠ 47) : spl (jn ns) = ns := by
  induction ns with
  | nil => exact absurd rfl h0
  | cons x r ih =>
    cases r with
    | nil => rw [jn_one, spl_no x (h x (by simp))]
    | cons y r =>
      rw [jn_cons, spl_app x _ (h x (by simp)), ih (by simp) (fun n hn => h n (by simp [hn]))]
theorem jn_spl (l : List UInt8) : jn (spl l) = l := by
  induction l with
  | nil => rfl
  | cons c l ih =>
    obtain ⟨x, r, hx⟩ : ∃ x r, spl l = x :: r := by
      cases hs : spl l with
      | nil => exact absurd hs (spl_ne l)
      | cons x r => exact ⟨x, r, rfl⟩
    rw [hx] at ih
    rw [spl, hx]
    by_cases hc : c = 47
    · rw [if_pos hc, jn_cons, ih, hc]; rfl
    · rw [if_neg hc]
      cases r with
      | nil => rw [jn_one] at ih; simp only [List.headD_cons, List.tail_cons]; rw [jn_one, ih]
      | cons y r =>
        rw [jn_cons] at ih
        simp only [List.headD_cons, List.tail_cons]
        rw [jn_cons, List.cons_append, ih]
theorem okN_all {ns : List (List UInt8)} (h : okN ns = true) : ∀ n ∈ ns, nmB n = true := by
  unfold okN at h
  simp only [Bool.and_eq_true, List.all_eq_true, decide_eq_true_eq] at h
  exact h.1
theorem okN_len {ns : List (List UInt8)} (h : okN ns = true) : ns.length ≤ 8 := by
  unfold okN at h
  simp only [Bool.and_eq_true, decide_eq_true_eq] at h
  exact h.2
theorem okN_mk {ns : List (List UInt8)} (h : ∀ n ∈ ns, nmB n = true) (hl : ns.length ≤ 8) : okN ns = true := by
  unfold okN
  simp only [Bool.and_eq_true, List.all_eq_true, decide_eq_true_eq]
  exact ⟨h, hl⟩
/-- A path is its names. -/
theorem nmsO_path {ns : List (List UInt8)} (h : okN ns = true) : nmsO (47 :: jn ns) = some ns := by
  unfold nmsO
  simp only [if_true]
  cases ns with
  | nil => rfl
  | cons x r =>
    have hx := okN_all h x (by simp)
    have hne : jn (x :: r) ≠ [] := by
      cases r with
      | nil => rw [jn_one]; exact (nmB_ne hx).2
      | cons y r => rw [jn_cons]; simp
    rw [if_neg hne, spl_jn _ (by simp) (fun n hn => (nmB_ne (okN_all h n hn)).1), if_pos h]
theorem path_nmsO {p : List UInt8} {ns : List (List UInt8)} (h : nmsO p = some ns) : p = 47 :: jn ns ∧ okN ns = true := by
  unfold nmsO at h
  cases p with
  | nil => cases h
  | cons c r =>
    simp only at h
    split at h
    · rename_i hc
      subst hc
      split at h
      · rename_i hr
        cases h
        exact ⟨by rw [hr]; rfl, rfl⟩
      · split at h
        · rename_i ho
          cases h
          exact ⟨by rw [jn_spl], ho⟩
        · cases h
    · cases h
/-- Of what a cut at a stroke leaves. -/
theorem occ47 (l : List UInt8) : Lib.index l [47] = match l with | [] => -1 | c :: r => if c = 47 then 0 else if Lib.index r [47] == -1 then -1 else Lib.index r [47] + 1 := by
  cases l with
  | nil => rfl
  | cons c r =>
    rw [Lib.index]
    by_cases hc : c = 47
    · subst hc; simp [List.isPrefixOf]
    · have : (List.isPrefixOf [47] (c :: r)) = false := by simp [List.isPrefixOf, Ne.symm hc]
      rw [this]; simp [hc]
theorem cut_spl (l : List UInt8) : ((Lib.cut l [47]).2.2 = true ∧ spl l = (Lib.cut l [47]).1 :: spl (Lib.cut l [47]).2.1) ∨ ((Lib.cut l [47]).2.2 = false ∧ spl l = [(Lib.cut l [47]).1] ∧ (Lib.cut l [47]).2.1 = []) := by
  induction l with
  | nil => right; refine ⟨rfl, rfl, rfl⟩
  | cons c r ih =>
    have hx := occ47 (c :: r)
    simp only at hx
    have hge := Lib.index_ge r [47]
    by_cases hc : c = 47
    · subst hc
      rw [if_pos rfl] at hx
      left
      unfold Lib.cut
      rw [hx]
      simp [spl]
    · rw [if_neg hc] at hx
      by_cases hm : Lib.index r [47] = -1
      · rw [hm] at hx
        simp only [beq_self_eq_true, if_true] at hx
        right
        unfold Lib.cut at ih ⊢
        rw [hx]
        rw [hm] at ih
        simp at ih ⊢
        rw [spl, if_neg hc, ih]
        rfl
      · have hm' : (Lib.index r [47] == -1) = false := by simpa using hm
        rw [hm'] at hx
        simp only [Bool.false_eq_true, if_false] at hx
        left
        unfold Lib.cut at ih ⊢
        rw [hx]
        obtain ⟨k, hk⟩ : ∃ k : Nat, Lib.index r [47] = k := ⟨(Lib.index r [47]).toNat, by omega⟩
        rw [hk] at ih ⊢
        have e1 : ((k : Int) + 1).toNat = k + 1 := by omega
        have e2 : (0 : Int) ≤ (k : Int) + 1 := by omega
        have e3 : (0 : Int) ≤ (k : Int) := by omega
        simp only [if_pos e2, if_pos e3, e1, Int.toNat_natCast, List.length_singleton] at ih ⊢
        simp only [Bool.true_eq_false, false_and, or_false, true_and, Bool.false_eq_true] at ih
        refine ⟨trivial, ?_⟩
        rw [spl, if_neg hc, ih]
        simp only [List.headD_cons, List.tail_cons, List.take_succ_cons]
        rw [show k + 1 + 1 = (k + 1) + 1 from rfl, List.drop_succ_cons]
theorem okN_take {ns : List (List UInt8)} (h : okN ns = true) (k : Nat) : okN (ns.take k) = true := by
  refine okN_mk (fun n hn => okN_all h n (List.mem_of_mem_take hn)) ?_
  have := okN_len h
  simp; omega
theorem bl_irr (a : List UInt8) : Op.bytesLess a a = false := by
  induction a with
  | nil => rfl
  | cons c a ih => simp [Op.bytesLess, ih]
theorem bl_trans (a b c : List UInt8) (h1 : Op.bytesLess a b = true) (h2 : Op.bytesLess b c = true) : Op.bytesLess a c = true := by
  induction a generalizing b c with
  | nil =>
    cases b with
    | nil => cases h1
    | cons y b => cases c with
      | nil => cases h2
      | cons z c => rfl
  | cons x a ih =>
    cases b with
    | nil => cases h1
    | cons y b =>
      cases c with
      | nil => cases h2
      | cons z c =>
        simp only [Op.bytesLess, Bool.or_eq_true, Bool.and_eq_true, decide_eq_true_eq, beq_iff_eq] at h1 h2 ⊢
        rcases h1 with q | ⟨rfl, q⟩ <;> rcases h2 with r | ⟨rfl, r⟩
        · exact .inl (UInt8.lt_trans q r)
        · exact .inl q
        · exact .inl r
        · exact .inr ⟨rfl, ih _ _ q r⟩
theorem bl_tot (a b : List UInt8) (h : a ≠ b) : Op.bytesLess a b = !Op.bytesLess b a := by
  induction a generalizing b with
  | nil =>
    cases b with
    | nil => exact absurd rfl h
    | cons y b => rfl
  | cons x a ih =>
    cases b with
    | nil => rfl
    | cons y b =>
      simp only [Op.bytesLess]
      by_cases e : x = y
      · subst e
        have : a ≠ b := fun q => h (by rw [q])
        rw [ih b this]
        simp
      · have e2 : (x == y) = false := by simpa using e
        have e3 : (y == x) = false := by simpa using Ne.symm e
        rw [e2, e3]
        simp only [Bool.false_and, Bool.or_false]
        have : x < y ∨ y < x := by
          have : x.toNat ≠ y.toNat := fun q => e (UInt8.toNat_inj.1 q)
          rcases Nat.lt_or_gt_of_ne this with q | q
          · exact .inl (UInt8.lt_iff_toNat_lt.2 q)
          · exact .inr (UInt8.lt_iff_toNat_lt.2 q)
        rcases this with q | q
        · have : ¬ y < x := fun r => UInt8.lt_irrefl _ (UInt8.lt_trans q r)
          simp [q, this]
        · have : ¬ x < y := fun r => UInt8.lt_irrefl _ (UInt8.lt_trans q r)
          simp [q, this]
/-- The first name that differs. -/
def ltN : List (List UInt8) → List (List UInt8) → Bool
  | _, [] => false
  | [], _ :: _ => true
  | x :: a, y :: b => if x = y then ltN a b else Op.bytesLess x y
theorem ltN_irr (a : List (List UInt8)) : ltN a a = false := by
  induction a with
  | nil => rfl
  | cons x a ih => rw [ltN, if_pos rfl, ih]
theorem ltN_trans (a b c : List (List UInt8)) (h1 : ltN a b = true) (h2 : ltN b c = true) : ltN a c = true := by
  induction a generalizing b c with
  | nil =>
    cases b with
    | nil => cases h1
    | cons y b => cases c with
      | nil => cases h2
      | cons z c => rfl
  | cons x a ih =>
    cases b with
    | nil => cases h1
    | cons y b =>
      cases c with
      | nil => cases h2
      | cons z c =>
        rw [ltN] at h1 h2 ⊢
        by_cases e1 : x = y
        · subst e1
          rw [if_pos rfl] at h1
          by_cases e2 : x = z
          · rw [if_pos e2] at h2 ⊢; exact ih _ _ h1 h2
          · rw [if_neg e2] at h2 ⊢; exact h2
        · rw [if_neg e1] at h1
          by_cases e2 : y = z
          · subst e2; rw [if_neg e1]; exact h1
          · rw [if_neg e2] at h2
            have h3 := bl_trans _ _ _ h1 h2
            have : x ≠ z := by rintro rfl; rw [bl_irr] at h3; cases h3
            rw [if_neg this]; exact h3
theorem ltN_tot (a b : List (List UInt8)) (h : a ≠ b) : ltN a b = !ltN b a := by
  induction a generalizing b with
  | nil =>
    cases b with
    | nil => exact absurd rfl h
    | cons y b => rfl
  | cons x a ih =>
    cases b with
    | nil => rfl
    | cons y b =>
      rw [ltN, ltN]
      by_cases e : x = y
      · subst e
        rw [if_pos rfl, if_pos rfl]
        exact ih b (fun q => h (by rw [q]))
      · rw [if_neg e, if_neg (Ne.symm e)]
        exact bl_tot x y e
theorem ltN_pre (a b : List (List UInt8)) (h1 : a.length < b.length) (h2 : b.take a.length = a) : ltN a b = true := by
  induction a generalizing b with
  | nil =>
    cases b with
    | nil => simp at h1
    | cons y b => rfl
  | cons x a ih =>
    cases b with
    | nil => simp at h1
    | cons y b =>
      simp only [List.length_cons, List.take_succ_cons, List.cons.injEq] at h1 h2
      rw [ltN, if_pos h2.1.symm]
      exact ih b (by omega) h2.2
def cmpN (a b : List (List UInt8)) : Int := if a = b then 0 else if ltN a b then -1 else 1
theorem cmpN_lt (a b : List (List UInt8)) : cmpN a b < 0 ↔ ltN a b = true := by
  unfold cmpN
  by_cases e : a = b
  · subst e; simp [ltN_irr]
  · rw [if_neg e]; split <;> simp_all
theorem cmpN_cons (x : List UInt8) (a b : List (List UInt8)) : cmpN (x :: a) (x :: b) = cmpN a b := by
  unfold cmpN
  rw [ltN, if_pos rfl]
  simp
def ofL (l : List UInt8) : ByteArray := ⟨l.toArray⟩
theorem ofL_data (l : List UInt8) : (ofL l).data.toList = l := by simp [ofL]
theorem ofL_of (s : ByteArray) : ofL s.data.toList = s := by cases s; simp [ofL]
theorem ofL_inj {a b : List UInt8} (h : ofL a = ofL b) : a = b := by rw [← ofL_data a, h, ofL_data]
theorem data_inj {s t : ByteArray} (h : s.data.toList = t.data.toList) : s = t := by rw [← ofL_of s, h, ofL_of]
theorem ofL_size (l : List UInt8) : (ofL l).size = l.length := by simp [ofL, ByteArray.size]
/-- The names of a text: none, where it is no path. -/
def nmL (p : ByteArray) : List (List UInt8) := (nmsO p.data.toList).getD []
def vld (p : ByteArray) : Bool := (nmsO p.data.toList).isSome
def pth (ns : List (List UInt8)) : ByteArray := ofL (47 :: jn ns)
def par (p : ByteArray) : ByteArray := if (nmL p).length = 0 then ByteArray.empty else pth (nmL p).dropLast
def lst (p : ByteArray) : ByteArray := if (nmL p).length = 0 then ByteArray.empty else ofL ((nmL p).getLastD [])
def dpt (p : ByteArray) : Int := if vld p then ((nmL p).length : Int) else -1
def blw (p q : ByteArray) : Bool := vld p && vld q && decide ((nmL p).length < (nmL q).length) && decide ((nmL q).take (nmL p).length = nmL p)
def lsr (p q : ByteArray) : Bool := vld p && vld q && ltN (nmL p) (nmL q)
theorem nm_ok (p : ByteArray) : okN (nmL p) = true := by
  unfold nmL
  cases h : nmsO p.data.toList with
  | none => rfl
  | some ns => exact (path_nmsO h).2
theorem vld_pth {p : ByteArray} (h : vld p = true) : p = pth (nmL p) := by
  unfold vld at h
  unfold nmL
  cases hn : nmsO p.data.toList with
  | none => rw [hn] at h; cases h
  | some ns =>
    have := (path_nmsO hn).1
    unfold pth
    rw [Option.getD_some, ← this, ofL_of]
theorem pth_vld {ns : List (List UInt8)} (h : okN ns = true) : vld (pth ns) = true ∧ nmL (pth ns) = ns := by
  unfold vld nmL pth
  rw [ofL_data, nmsO_path h]
  exact ⟨rfl, rfl⟩
theorem nm_inj {p q : ByteArray} (hp : vld p = true) (hq : vld q = true) (h : nmL p = nmL q) : p = q := by rw [vld_pth hp, vld_pth hq, h]
theorem nm_novld {p : ByteArray} (h : vld p = false) : nmL p = [] := by
  unfold vld at h
  unfold nmL
  cases hn : nmsO p.data.toList with
  | none => rfl
  | some ns => rw [hn] at h; cases h
theorem root_iff {p : ByteArray} (h : vld p = true) : p = pth [] ↔ nmL p = [] := by
  constructor
  · intro e; rw [e]; exact (pth_vld rfl).2
  · intro e; exact (vld_pth h).trans (by rw [e])
theorem okN_dropLast {ns : List (List UInt8)} (h : okN ns = true) : okN ns.dropLast = true := by rw [List.dropLast_eq_take]; exact okN_take h _
/-- An odd rune. -/
def oddR (x : Nat) : Bool := !((decide (97 ≤ x) && decide (x ≤ 122)) || (decide (48 ≤ x) && decide (x ≤ 57)) || decide (x = 45) || decide (x = 95))
theorem oddR_byte (c : UInt8) : oddR c.toNat = !okc c := rfl
theorem oddR_big (x : Nat) (h : 128 ≤ x) : oddR x = true := by
  unfold oddR
  have h1 : ¬ x ≤ 122 := by omega
  have h2 : ¬ x ≤ 57 := by omega
  have h3 : ¬ x = 45 := by omega
  have h4 : ¬ x = 95 := by omega
  simp [h1, h2, h3, h4]
theorem dec_small (s : ByteArray) (i : Nat) (h : (s.get! i).toNat < 128) : Utf8.decode s i = ((s.get! i).toNat, 1) := by
  unfold Utf8.decode
  simp [h]
theorem dec_big (s : ByteArray) (i : Nat) (h : ¬ (s.get! i).toNat < 128) : 128 ≤ (Utf8.decode s i).1 := by
  have e : (Utf8.runeError : Nat) = 65533 := by decide
  unfold Utf8.decode
  simp only [Nat.add_zero, h, if_false]
  repeat' split
  all_goals first | (simp only [e]; omega) | (simp only [Bool.and_eq_true, decide_eq_true_eq, ge_iff_le] at *; omega)
theorem get_at (s : ByteArray) (i : Nat) (h : i < s.data.toList.length) : s.get! i = s.data.toList[i] := by
  have h' : i < s.data.size := by simpa using h
  show s.data[i]! = _
  rw [getElem!_pos s.data i h']
  simp
theorem okc_small {c : UInt8} (h : okc c = true) : c.toNat < 128 := by
  unfold okc at h
  simp only [Bool.or_eq_true, Bool.and_eq_true, decide_eq_true_eq] at h
  omega
theorem idx_from (s : ByteArray) : ∀ (f pos : Nat), s.size ≤ pos + f → (decide (0 ≤ Lib.idxFuncFrom oddR true s f pos)) = !((s.data.toList.drop pos).all okc)
  | 0, pos, h => by
    have : s.data.toList.drop pos = [] := List.drop_eq_nil_of_le (by have := Lib.size_eq s; omega)
    rw [this]; rfl
  | f + 1, pos, h => by
    have hs : s.data.toList.length = s.size := (Lib.size_eq s).symm
    unfold Lib.idxFuncFrom
    by_cases hp : pos < s.size
    · rw [if_pos hp]
      have hl : pos < s.data.toList.length := by omega
      have hd : s.data.toList.drop pos = s.data.toList[pos] :: s.data.toList.drop (pos + 1) := List.drop_eq_getElem_cons hl
      have hg := get_at s pos hl
      rw [hd]
      obtain ⟨c, hc⟩ : ∃ c, s.data.toList[pos] = c := ⟨_, rfl⟩
      rw [hc] at hg ⊢
      rw [List.all_cons]
      by_cases ho : okc c = true
      · have hd2 := dec_small s pos (by rw [hg]; exact okc_small ho)
        rw [hd2, hg]
        simp only [oddR_byte, ho, Bool.not_true, Bool.false_eq_true, if_false, Bool.true_and]
        exact idx_from s f (pos + 1) (by omega)
      · have : oddR (Utf8.decode s pos).1 = true := by
          by_cases hb : (s.get! pos).toNat < 128
          · rw [dec_small s pos hb, hg]
            show oddR c.toNat = true
            rw [oddR_byte]; simpa using ho
          · exact oddR_big _ (dec_big s pos hb)
        rw [if_pos this]
        have ho' : okc c = false := by simpa using ho
        rw [ho']
        simp
    · rw [if_neg hp]
      have : s.data.toList.drop pos = [] := List.drop_eq_nil_of_le (by omega)
      rw [this]; rfl
theorem idx_all (s : ByteArray) : (decide (0 ≤ Lib.idxFunc oddR true s)) = !(s.data.toList.all okc) := by
  have := idx_from s s.size 0 (by omega)
  rw [List.drop_zero] at this
  exact this
theorem odd_any (x : Nat) (w : World) : Calls Tryz.prog 98 #[.int .i32 (x : Int)] w fun e w' => e = .returned (.bool (oddR x)) ∧ w = w' := by
  by_cases h1 : 97 ≤ x
  · by_cases h2 : x ≤ 122
    · have e : oddR x = false := by unfold oddR; simp [h1, h2]
      rw [e]
      have k1 : (97 : Int) ≤ (x : Int) := by omega
      have k2 : (x : Int) ≤ 122 := by omega
      have k3 : ¬ (x : Int) ≤ 57 := by omega
      clear e
      go_enter Tryz.func98, Tryz.ntmps98
      go_wp2
      go_ret
      exact ⟨rfl, rfl⟩
    · have e : oddR x = true := by
        unfold oddR
        have : ¬ x ≤ 57 := by omega
        have q1 : ¬ x = 45 := by omega
        have q2 : ¬ x = 95 := by omega
        simp [h2, this, q1, q2]
      rw [e]
      have k1 : (97 : Int) ≤ (x : Int) := by omega
      have k2 : ¬ (x : Int) ≤ 122 := by omega
      have k3 : ¬ (x : Int) ≤ 57 := by omega
      have k4 : ((x : Int) == 45) = false := by simp; omega
      have k5 : ((x : Int) == 95) = false := by simp; omega
      have k6 : (48 : Int) ≤ (x : Int) := by omega
      clear e
      go_enter Tryz.func98, Tryz.ntmps98
      go_wp2
      go_ret
      exact ⟨rfl, rfl⟩
  · have k1 : ¬ (97 : Int) ≤ (x : Int) := by omega
    by_cases h3 : 48 ≤ x ∧ x ≤ 57
    · have e : oddR x = false := by unfold oddR; simp [h3]
      rw [e]
      have k2 : (48 : Int) ≤ (x : Int) := by omega
      have k3 : (x : Int) ≤ 57 := by omega
      clear e
      go_enter Tryz.func98, Tryz.ntmps98
      go_wp2
      go_ret
      exact ⟨rfl, rfl⟩
    · have e : oddR x = (!(decide (x = 45)) && !(decide (x = 95))) := by
        unfold oddR
        have q : ¬ (48 ≤ x ∧ x ≤ 57) := h3
        by_cases a : 48 ≤ x
        · have : ¬ x ≤ 57 := fun b => h3 ⟨a, b⟩
          simp [h1, a, this]
        · simp [h1, a]
      have kk : (48 : Int) ≤ (x : Int) → ¬ (x : Int) ≤ 57 := by omega
      by_cases h5 : x = 45
      · subst h5
        go_enter Tryz.func98, Tryz.ntmps98
        go_wp2
        go_ret
        exact ⟨rfl, rfl⟩
      · by_cases h6 : x = 95
        · subst h6
          go_enter Tryz.func98, Tryz.ntmps98
          go_wp2
          go_ret
          exact ⟨rfl, rfl⟩
        · have e2 : oddR x = true := by rw [e]; simp [h5, h6]
          rw [e2]
          have k4 : ((x : Int) == 45) = false := by simp; omega
          have k5 : ((x : Int) == 95) = false := by simp; omega
          clear e e2 h5 h6 h3
          by_cases a : (48 : Int) ≤ (x : Int)
          · have b := kk a
            clear kk
            go_enter Tryz.func98, Tryz.ntmps98
            go_wp2
            go_ret
            exact ⟨rfl, rfl⟩
          · clear kk
            go_enter Tryz.func98, Tryz.ntmps98
            go_wp2
            go_ret
            exact ⟨rfl, rfl⟩
theorem odd_pays (w : World) : Go.Proofs.PredAt Tryz.prog 98 #[] encR oddR w := fun W x _ => (odd_any x W).mono fun e w' ⟨he, hw⟩ => ⟨he, 0, hw.symm⟩
def nmS (s : ByteArray) : Bool := nmB s.data.toList
theorem enters42 : ∀ args w, (callFunc 98 args).run Tryz.prog w = .ok (.enter 98 args) w := enters_of Tryz.func98 (by kernel_rfl) rfl
theorem nmS_len (s : ByteArray) : nmS s = (s.data.toList.all okc && decide (1 ≤ s.size) && decide (s.size ≤ 16)) := by
  unfold nmS nmB
  rw [← Lib.size_eq]
theorem isname_any (s : ByteArray) (w : World) : Calls Tryz.prog 79 #[.string s] w fun e w' => e = .returned (.bool (nmS s)) ∧ Below w.heap.size w w' := by
  have cC := Tryz.strings_ContainsFunc 98 #[] enters42 oddR s w (odd_pays w)
  rw [idx_all] at cC
  have e := nmS_len s
  by_cases h1 : 1 ≤ s.size
  · by_cases h2 : s.size ≤ 16
    · have e2 : nmS s = s.data.toList.all okc := by rw [e]; simp [h1, h2]
      rw [e2]
      obtain ⟨B, hB⟩ : ∃ B, s.data.toList.all okc = B := ⟨_, rfl⟩
      rw [hB] at cC ⊢
      have k1 : (0 : Int) < (s.size : Int) := by omega
      have k2 : (s.size : Int) ≤ 16 := by omega
      clear e e2 hB h1 h2
      go_enter Tryz.func79, Tryz.ntmps79
      go_wp2_with (go_at_call 99; refine cC.mono ?_; rintro e w1 ⟨rfl, hb⟩; have HB := Lib.hid hb; clear hb)
      go_ret
      exact ⟨by simp, HB.out⟩
    · have e2 : nmS s = false := by rw [e]; simp [h2]
      rw [e2]
      have k1 : (0 : Int) < (s.size : Int) := by omega
      have k2 : ¬ (s.size : Int) ≤ 16 := by omega
      clear e e2 cC h1 h2
      go_enter Tryz.func79, Tryz.ntmps79
      go_wp2
      go_ret
      exact ⟨rfl, Below.refl _ _⟩
  · have e2 : nmS s = false := by rw [e]; simp [h1]
    rw [e2]
    have k1 : ¬ (0 : Int) < (s.size : Int) := by omega
    clear e e2 cC h1
    go_enter Tryz.func79, Tryz.ntmps79
    go_wp2
    go_ret
    exact ⟨rfl, Below.refl _ _⟩
/-- Is there a text that is no name? -/
def oddIn (ss : List ByteArray) : Bool := ss.any (fun s => !nmS s)
def IxP (ss : List ByteArray) (w : World) (e : Ending) (w' : World) : Prop := ∃ n : Int, Hid (e = .returned (.int .i64 n)) ∧ (0 ≤ n ↔ oddIn ss = true) ∧ Below w.heap.size w w'
/-- The library's one variable holds a number. -/
def ML (w : World) : Prop := ∃ m, w.cell? ⟨0, 0, none⟩ = some (.int .i64 m)
theorem ML.below {w w' : World} (h : ML w) (hb : Below w.heap.size w w') : ML w' := by
  obtain ⟨m, hm⟩ := h
  exact ⟨m, (hb.cell (p := ⟨0, 0, none⟩) (block_lt_of_cell2 hm rfl)).trans hm⟩
def tx (ns : List (List UInt8)) : List ByteArray := ns.map ofL
theorem cut1_any (R : List UInt8) (w : World) (hR : R.length ≤ 1000) (hm : ML w) : Calls Tryz.prog 78 #[.string (ofL R), .string { data := #[47] }] w fun e w' =>
    e = .returned (.tuple #[.string (ofL (Lib.cut R [47]).1), .string (ofL (Lib.cut R [47]).2.1), .bool (Lib.cut R [47]).2.2]) ∧ Below w.heap.size w w' := by
  obtain ⟨m, hm⟩ := hm
  have := Tryz.strings_Cut (ofL R) { data := #[47] } m w (by rw [ofL_size]; omega) hm
  rw [ofL_data] at this
  refine this.mono ?_
  rintro e w' ⟨he, n, rfl⟩
  exact ⟨he, below_drewNg w n⟩
theorem cutpre_any (p : ByteArray) (w : World) : Calls Tryz.prog 77 #[.string p, .string { data := #[47] }] w fun e w' =>
    e = .returned (.tuple #[.string (ofL (Lib.trimPrefix p.data.toList [47])), .bool (Lib.hasPrefix p.data.toList [47])]) ∧ w = w' :=
  (Tryz.strings_CutPrefix p { data := #[47] } w).mono fun e w' ⟨he, hw⟩ => ⟨he, hw.symm⟩
def sl : Value → Nat
  | .slice _ n _ => n
  | _ => 0
def CutP (p : ByteArray) (w : World) (e : Ending) (w' : World) : Prop := ∃ v, Hid (e = .returned (.tuple #[v, .bool (vld p)])) ∧ Own1 w' w.heap.size 9 v ((tx (nmL p)).map .string) ∧ Below w.heap.size w w'
theorem cutP_no {p : ByteArray} (h : vld p = false) (w w' : World) (hb : Below w.heap.size w w') : CutP p w (.returned (.tuple #[.slice none 0 0, .bool false])) w' := by
  refine ⟨.slice none 0 0, by rw [h]; rfl, ?_, hb⟩
  rw [nm_novld h]
  exact Own1.nil _ _ _
set_option maxHeartbeats 4000000 in
theorem cut_any (p : ByteArray) (w : World) (hp : p.size ≤ 1000) (hm : ML w) : Calls Tryz.prog 54 #[.string p] w (CutP p w) := by
  by_cases hr : p = pth []
  · subst hr
    have q1 : (ByteArray.toList { data := #[47] } == ByteArray.toList { data := #[47] }) = true := by simp
    have e : pth [] = { data := #[47] } := rfl
    have hv := (pth_vld (ns := []) rfl)
    rw [e] at hv ⊢
    have HV := Lib.hid hv
    clear hv e hm hp
    go_enter Tryz.func54, Tryz.ntmps54
    go_wp2
    go_step3
    go_wp2
    rw [Exit.noGoto_ret]
    go_ret2
    refine ⟨.slice none 0 0, by rw [HV.out.1]; rfl, ?_, Below.refl _ _⟩
    rw [HV.out.2]
    exact Own1.nil _ _ _
  · have q1 : (p.toList == [47]) = false := by
      rw [Lib.toList_data]
      simp only [beq_eq_false_iff_ne, ne_eq]
      intro h
      exact hr (data_inj (by rw [h]; rfl))
    have hd : p = ofL p.data.toList := (ofL_of p).symm
    obtain ⟨l, hl⟩ : ∃ l, p.data.toList = l := ⟨_, rfl⟩
    have cP := cutpre_any p w
    rw [hl] at cP
    have hvl : vld p = (nmsO l).isSome := by unfold vld; rw [hl]
    have hnl : nmL p = (nmsO l).getD [] := by unfold nmL; rw [hl]
    have hsz : l.length ≤ 1000 := by rw [← hl, ← Lib.size_eq]; exact hp
    have hpl : p = ofL l := by rw [← hl]; exact hd
    by_cases hpre : ∃ r, l = 47 :: r
    · obtain ⟨r, hr2⟩ := hpre
      subst hr2
      have hrne : r ≠ [] := by
        rintro rfl
        exact hr (by rw [hpl]; rfl)
      have e1 : Lib.hasPrefix (47 :: r) [47] = true := by simp [Lib.hasPrefix]
      have e2 : Lib.trimPrefix (47 :: r) [47] = r := by simp [Lib.trimPrefix, Lib.hasPrefix]
      rw [e1, e2] at cP
      have hO : nmsO (47 :: r) = if okN (spl r) then some (spl r) else none := by
        unfold nmsO
        simp only [if_true]
        rw [if_neg hrne]
      rw [hO] at hvl hnl
      obtain ⟨ps, hps⟩ : ∃ ps, spl r = ps := ⟨_, rfl⟩
      rw [hps] at hvl hnl
      have hpl0 : 0 < ps.length := by
        rw [← hps]
        exact List.length_pos_iff.2 (spl_ne r)
      have hno : okN ps = false → vld p = false := fun h => by rw [hvl, h]; rfl
      have hyes : okN ps = true → vld p = true ∧ nmL p = ps := fun h => by rw [hvl, hnl, h]; exact ⟨rfl, rfl⟩
      have HNO := Lib.hid hno
      have HYES := Lib.hid hyes
      have HPS := Lib.hid hps
      have HM := Lib.hid hm
      have hrl : r.length ≤ 1000 := by simp at hsz; omega
      clear hno hyes hps hm hO hvl hnl e1 e2 hrne hr hd hl hpl hp hsz
      go_enter Tryz.func54, Tryz.ntmps54
      go_wp2_with fail
      go_step3
      go_wp2_with fail
      refine cP.mono ?_
      rintro e w1 ⟨rfl, rfl⟩
      clear cP
      go_wp2_with fail
      go_step3
      go_wp2_with fail
      go_loopw [4, 5, 6] (fun names rest more wr => ∃ (k : Nat) (R : List UInt8) (a : Option Addr) (c : Nat) (b : Bool), k ≤ 8 ∧ k ≤ ps.length ∧ R.length ≤ 1000 ∧ names = .slice a k c ∧ rest = .string (ofL R) ∧ more = .bool b ∧ Hid (b = decide (k < ps.length)) ∧ Hid (k < ps.length → spl R = ps.drop k) ∧ Hid (∀ n ∈ ps.take k, nmB n = true) ∧ Hid (Own1 wr w.heap.size 9 (.slice a k c) ((tx (ps.take k)).map .string)) ∧ Hid (Below w.heap.size w wr)) (fun names _ _ _ => 9 - sl names)
      case atStart => exact ⟨0, r, none, 0, true, by omega, by omega, hrl, rfl, rfl, rfl, Lib.hid (by simp [hpl0]), Lib.hid (fun _ => by rw [HPS.out]; rfl), Lib.hid (by simp), Lib.hid (by simpa [tx] using Own1.nil _ _ _), Lib.hid (Below.refl _ _)⟩
      case round =>
        obtain ⟨k, R, a, c, b, hk8, hkl, hRl, rfl, rfl, rfl, hb, hR, hN, hO, hB⟩ := hrel
        obtain ⟨w3, rfl⟩ : ∃ w3 : World, w3 = wr := ⟨_, rfl⟩
        cases b with
        | false =>
          have hkk : k = ps.length := by
            have := hb.out
            simp only [Bool.false_eq, decide_eq_false_iff_not] at this
            omega
          subst hkk
          have hk0 : (0 : Int) < (ps.length : Int) := by omega
          have hN' := hN.out
          have hO' := hO.out
          rw [List.take_length] at hN' hO'
          have hok := okN_mk hN' hk8
          have HF := Lib.hid (HYES.out hok)
          have HO := Lib.hid hO'
          clear hN hN' hO hO' hok hb hR
          go_wp2
          rw [Exit.noGoto_ret]
          go_ret2
          refine ⟨_, by rw [HF.out.1]; rfl, ?_, hB.out⟩
          rw [HF.out.2]
          exact HO.out
        | true =>
          have hkk : k < ps.length := by
            have := hb.out
            simpa using this
          have hRs := hR.out hkk
          have hcs := cut_spl R
          have cC := cut1_any R w3 hRl (HM.out.below hB.out)
          obtain ⟨h, hh⟩ : ∃ h, (Lib.cut R [47]).1 = h := ⟨_, rfl⟩
          obtain ⟨t, ht⟩ : ∃ t, (Lib.cut R [47]).2.1 = t := ⟨_, rfl⟩
          obtain ⟨m, hmm⟩ : ∃ m, (Lib.cut R [47]).2.2 = m := ⟨_, rfl⟩
          rw [hh, ht, hmm] at cC hcs
          have htl : t.length ≤ 1000 := by
            rw [← ht]
            unfold Lib.cut
            split
            · simp; omega
            · simp
          have hd : ps.drop k = h :: ps.drop (k + 1) := by
            have e0 := List.drop_eq_getElem_cons hkk
            have : ps[k] = h := by
              rw [hRs, e0] at hcs
              rcases hcs with ⟨_, q⟩ | ⟨_, q, _⟩
              · exact (List.cons.inj q).1
              · exact (List.cons.inj q).1
            rw [e0, this]
          have hbt : m = decide (k + 1 < ps.length) ∧ (k + 1 < ps.length → spl t = ps.drop (k + 1)) := by
            rw [hRs, hd] at hcs
            rcases hcs with ⟨q1, q⟩ | ⟨q1, q, _⟩
            · have e := (List.cons.inj q).2
              have hne : ps.drop (k + 1) ≠ [] := by rw [e]; exact spl_ne t
              have : k + 1 < ps.length := by
                apply Classical.byContradiction
                intro hc
                exact hne (List.drop_eq_nil_of_le (by omega))
              exact ⟨by rw [q1]; simp [this], fun _ => e.symm⟩
            · have e := (List.cons.inj q).2
              have : ¬ k + 1 < ps.length := by
                intro hc
                have := congrArg List.length e
                simp at this
                omega
              exact ⟨by rw [q1]; simp [this], fun hc => absurd hc this⟩
          have hhm : h ∈ ps := List.mem_of_mem_drop (by rw [hd]; simp)
          have htk : ps.take (k + 1) = ps.take k ++ [h] := by
            have e0 := List.drop_eq_getElem_cons hkk
            rw [hd] at e0
            have : ps[k] = h := ((List.cons.inj e0).1).symm
            rw [List.take_succ_eq_append_getElem hkk, this]
          have HBT := Lib.hid hbt
          have HHM := Lib.hid hhm
          have HTK := Lib.hid htk
          clear hcs hh ht hmm hRs hd hbt hhm htk hb hR
          go_wp2_with fail
          refine cC.mono ?_
          rintro e w4 ⟨rfl, hb4⟩
          have HB4 := Lib.hid (below_self hB.out hb4)
          have HO4 := Lib.hid (hO.out.below hb4)
          have cN := isname_any (ofL h) w4
          have hnB : nmS (ofL h) = nmB h := by unfold nmS; rw [ofL_data]
          rw [hnB] at cN
          obtain ⟨B, hBB⟩ : ∃ B, nmB h = B := ⟨_, rfl⟩
          rw [hBB] at cN
          have HBB := Lib.hid hBB
          clear hb4 cC hnB hBB hB hO
          go_wp2_with fail
          refine cN.mono ?_
          rintro e w5 ⟨rfl, hb5⟩
          have HB5 := Lib.hid (below_self HB4.out hb5)
          have HO5 := Lib.hid (HO4.out.below hb5)
          clear hb5 cN HB4 HO4
          cases B with
          | false =>
            have hv := HNO.out (by
              apply Bool.eq_false_iff.2
              intro hc
              have := okN_all hc h HHM.out
              rw [HBB.out] at this
              cases this)
            have HV := Lib.hid hv
            clear hv
            go_wp2
            rw [Exit.noGoto_ret]
            go_ret2
            exact cutP_no HV.out _ _ HB5.out
          | true =>
            by_cases hk : k = 8
            · subst hk
              have hv := HNO.out (by
                apply Bool.eq_false_iff.2
                intro hc
                have := okN_len hc
                omega)
              have HV := Lib.hid hv
              clear hv
              go_wp2
              rw [Exit.noGoto_ret]
              go_ret2
              exact cutP_no HV.out _ _ HB5.out
            · have hk7 : k < 8 := by omega
              have k1 : ((k : Int) == 8) = false := by simp; omega
              have HLN : Hid (((tx (ps.take k)).map Value.string).length ≤ 1000000000) := Lib.hid (by simp [tx]; omega)
              have hz := HB5.out.size
              go_wp2_with (refine wpList_app1 rfl _ _ 34 9 _ 16 rfl Tryz.underlying34 infoStr rfl (by omega) w.heap.size _ ((tx (ps.take k)).map .string) rfl (HO5.out.below ((Below.refl _ _).alloc (Nat.le_refl _) _)) w5.heap.size (.string (ofL h)) rfl ?hu rfl HLN.out (by simp; omega) ?_)
              case hu => simp [go_sem]
              intro v6 w6 ho6 hb6 hz6 hg6
              have ho7 : Own1 w6 w.heap.size 9 v6 ((tx (ps.take (k + 1))).map Value.string) := by
                rw [HTK.out]
                simpa [tx] using ho6
              obtain ⟨a6, c6, e6⟩ := ho7.slice
              have hl6 : ((tx (ps.take (k + 1))).map Value.string).length = k + 1 := by simp [tx]; omega
              rw [hl6] at e6
              subst e6
              have HO7 := Lib.hid ho7
              have HB7 := Lib.hid (HB5.out.trans (((Below.refl w5.heap.size w5).alloc (Nat.le_refl _) _ |>.mono hz).trans hb6))
              have HN7 : Hid (∀ n ∈ ps.take (k + 1), nmB n = true) := Lib.hid (by
                rw [HTK.out]
                intro n hn
                rcases List.mem_append.1 hn with q | q
                · exact hN.out n q
                · rw [List.mem_singleton.1 q]; exact HBB.out)
              clear ho6 ho7 hb6 hz6 hg6 hl6 HO5 HB5 hN
              go_wp2
              go_roundw
              case rel => exact ⟨k + 1, t, a6, c6, m, by omega, by omega, htl, rfl, rfl, rfl, Lib.hid HBT.out.1, Lib.hid HBT.out.2, HN7, HO7, HB7⟩
              case measure => simp [sl]; omega
    · have e1 : Lib.hasPrefix l [47] = false := by
        unfold Lib.hasPrefix
        cases l with
        | nil => rfl
        | cons c r =>
          by_cases hc : c = 47
          · exact absurd ⟨r, by rw [hc]⟩ hpre
          · simp [List.isPrefixOf, Ne.symm hc]
      rw [e1] at cP
      have hv : vld p = false := by
        rw [hvl]
        unfold nmsO
        cases l with
        | nil => rfl
        | cons c r =>
          by_cases hc : c = 47
          · exact absurd ⟨r, by rw [hc]⟩ hpre
          · simp [hc]
      have HV := Lib.hid hv
      clear hv e1 hpre hm hvl hnl hr hd hl hpl hp hsz
      go_enter Tryz.func54, Tryz.ntmps54
      go_wp2_with fail
      go_step3
      go_wp2_with fail
      refine cP.mono ?_
      rintro e w1 ⟨rfl, rfl⟩
      clear cP
      go_wp2_with fail
      go_step3
      go_wp2_with fail
      go_loopw [4, 5, 6] (fun names rest more wr => names = .slice none 0 0 ∧ more = .bool false ∧ w = wr) (fun names _ _ _ => 9 - sl names)
      case atStart => exact ⟨rfl, rfl, rfl⟩
      case round =>
        obtain ⟨rfl, rfl, rfl⟩ := hrel
        go_wp2
        rw [Exit.noGoto_ret]
        go_ret2
        exact cutP_no HV.out _ _ (Below.refl _ _)
theorem Own1.cap {w : World} {base e : Nat} {a : Option Addr} {n c : Nat} {vs : List Value} (h : Own1 w base e (.slice a n c) vs) : n ≤ c := by
  rcases h.2 with ⟨hv, h0⟩ | ⟨g, cap, cur, hv, hg, hh, hn, _⟩
  · simp only [Value.slice.injEq] at hv
    omega
  · simp only [Value.slice.injEq] at hv
    omega
theorem tx_len (ns : List (List UInt8)) : (tx ns).length = ns.length := by simp [tx]
theorem tx_inj {a b : List (List UInt8)} (h : tx a = tx b) : a = b := by
  have : (tx a).map (·.data.toList) = (tx b).map (·.data.toList) := by rw [h]
  simpa [tx, ofL_data, Function.comp_def] using this
theorem tx_data (ns : List (List UInt8)) : (tx ns).map (·.data.toList) = ns := by simp [tx, ofL_data, Function.comp_def]
theorem tx_take (ns : List (List UInt8)) (k : Nat) : (tx ns).take k = tx (ns.take k) := by simp [tx, List.map_take]
theorem tx_of (ss : List ByteArray) : tx (ss.map (·.data.toList)) = ss := by
  unfold tx
  rw [List.map_map]
  have : (ofL ∘ fun x : ByteArray => x.data.toList) = id := by funext s; exact ofL_of s
  rw [this, List.map_id]
theorem tx_getD (ns : List (List UInt8)) (k : Nat) (h : k < ns.length) : (tx ns).getD k ByteArray.empty = ofL (ns.getD k []) := by simp [tx, List.getD, h]
/-- What cut gives: names that can be read. -/
theorem cut_srd {p : ByteArray} {w w' : World} {v : Value} (h : Own1 w' w.heap.size 9 v ((tx (nmL p)).map .string)) : ∃ a c, v = .slice a (nmL p).length c ∧ SRd w' a (tx (nmL p)) ∧ (nmL p).length ≤ c := by
  have h8 := okN_len (nm_ok p)
  obtain ⟨a, c, rfl, hs⟩ := srd_of_own h (by rw [tx_len]; omega)
  rw [tx_len] at h ⊢
  exact ⟨a, c, rfl, hs, h.cap⟩
theorem join_any (a : Option Addr) (c : Nat) (ns : List (List UInt8)) (w : World) (hs : SRd w a (tx ns)) (hc : ns.length ≤ c) (hl : (jn ns).length ≤ 1000000000) (hn : ns.length ≤ 1000000000) :
    Calls Tryz.prog 81 #[.slice a ns.length c, .string { data := #[47] }] w fun e w' => e = .returned (.string (ofL (jn ns))) ∧ Below w.heap.size w w' := by
  rcases hs.2 with h0 | ⟨g, off, rfl, hg, hcl⟩
  · have : ns = [] := tx_inj (a := ns) (b := []) h0
    subst this
    exact (Tryz.strings_Join_none a c _ w).mono fun e w' ⟨he, hw⟩ => ⟨he, hw ▸ Below.refl _ _⟩
  · have := Tryz.strings_Join g off c (tx ns) { data := #[47] } w (fun j x hj => by
      have hjl : j < (tx ns).length := (List.getElem?_eq_some_iff.1 hj).1
      have e := hcl j hjl
      simp only [List.getD, hj, Option.getD_some] at e
      exact e) hg (by rw [tx_len]; omega) (by rw [tx_len]; omega) (by
        rw [tx_data]
        show (jn ns).length ≤ _
        omega)
    rw [tx_data, tx_len] at this
    exact this
theorem cat47 (X : List UInt8) : ({ data := #[47] } : ByteArray) ++ ofL X = ofL (47 :: X) := by
  apply data_inj
  rw [ofL_data]
  simp [ofL]
def rtP (ns : List (List UInt8)) (w : World) (e : Ending) (w' : World) : Prop := e = .returned (.string (pth ns)) ∧ Below w.heap.size w w'
theorem jn_len (ns : List (List UInt8)) (h : okN ns = true) : (jn ns).length ≤ 136 := by
  have h8 := okN_len h
  have hN := okN_all h
  have key : ∀ l : List (List UInt8), (∀ n ∈ l, nmB n = true) → (jn l).length ≤ 17 * l.length := by
    intro l
    induction l with
    | nil => intro _; simp [jn_nil]
    | cons x r ih =>
      intro hl
      have hx := hl x (by simp)
      have hxl : x.length ≤ 16 := by
        unfold nmB at hx
        simp only [Bool.and_eq_true, decide_eq_true_eq] at hx
        exact hx.2
      have hr := ih (fun n hn => hl n (by simp [hn]))
      cases r with
      | nil => rw [jn_one]; simp; omega
      | cons y r =>
        rw [jn_cons]
        simp only [List.length_append, List.length_cons] at hr ⊢
        omega
  have := key ns hN
  omega
theorem pth_size (ns : List (List UInt8)) (h : okN ns = true) : (pth ns).size ≤ 137 := by
  have := jn_len ns h
  unfold pth
  rw [ofL_size]
  simp
  omega
theorem valid_any (p : ByteArray) (w : World) (hp : p.size ≤ 1000) (hm : ML w) : Calls Tryz.prog 67 #[.string p] w fun e w' => e = .returned (.bool (vld p)) ∧ Below w.heap.size w w' := by
  have cC := cut_any p w hp hm
  clear hm hp
  obtain ⟨B, hB⟩ : ∃ B, vld p = B := ⟨_, rfl⟩
  rw [hB]
  go_enter Tryz.func67, Tryz.ntmps67
  go_wp2_with fail
  refine cC.mono ?_
  rintro e w1 ⟨v, he, ho, hb⟩
  rw [hB] at he
  subst he
  have HBl := Lib.hid hb
  clear ho hb hB cC
  go_wp2
  go_ret
  exact ⟨rfl, HBl.out⟩
def NamP (p : ByteArray) (w : World) (e : Ending) (w' : World) : Prop := ∃ v, Hid (e = .returned v) ∧ Own1 w' w.heap.size 9 v ((tx (nmL p)).map .string) ∧ Below w.heap.size w w'
set_option maxHeartbeats 1000000 in
theorem last_any (p : ByteArray) (w : World) (hp : p.size ≤ 1000) (hm : ML w) : Calls Tryz.prog 104 #[.string p] w fun e w' => e = .returned (.string (lst p)) ∧ Below w.heap.size w w' := by
  have cC := cut_any p w hp hm
  have hn8 := okN_len (nm_ok p)
  clear hm hp
  by_cases h0 : (nmL p).length = 0
  · have e1 : lst p = ByteArray.empty := by unfold lst; rw [if_pos h0]
    rw [e1]
    go_enter Tryz.func104, Tryz.ntmps104
    go_wp2_with fail
    refine cC.mono ?_
    rintro e w1 ⟨v, he, ho, hb⟩
    obtain ⟨B, hB⟩ : ∃ B, vld p = B := ⟨_, rfl⟩
    rw [hB] at he
    subst he
    obtain ⟨a, c, hv, hs, hcap⟩ := cut_srd ho
    rw [h0] at hv
    subst hv
    have HBl := Lib.hid hb
    clear ho hb hB cC hs hcap e1 h0
    go_wp2
    go_ret
    exact ⟨rfl, HBl.out⟩
  · have e1 : lst p = ofL ((nmL p).getLastD []) := by unfold lst; rw [if_neg h0]
    obtain ⟨m, hm⟩ : ∃ m, (nmL p).length = m + 1 := ⟨(nmL p).length - 1, by omega⟩
    have el : (nmL p).getD m [] = (nmL p).getLastD [] := by
      rw [List.getLastD_eq_getLast?, List.getLast?_eq_getElem?, hm]
      simp [List.getD]
    obtain ⟨L, hL⟩ : ∃ L, (nmL p).getLastD [] = L := ⟨_, rfl⟩
    rw [e1, hL]
    go_enter Tryz.func104, Tryz.ntmps104
    go_wp2_with fail
    refine cC.mono ?_
    rintro e w1 ⟨v, he, ho, hb⟩
    obtain ⟨B, hB⟩ : ∃ B, vld p = B := ⟨_, rfl⟩
    rw [hB] at he
    subst he
    obtain ⟨a, c, hv, hs, hcap⟩ := cut_srd ho
    have HBl := Lib.hid hb
    obtain ⟨g, off, rfl, hg, hcl⟩ := hs.cell m (by rw [tx_len]; omega)
    rw [tx_getD _ _ (by omega), el, hL] at hcl
    rw [hm] at hv
    subst hv
    have k1 : ((m : Int) + 1 == 0) = false := by simp; omega
    have k2 : (0 : Int) ≤ (m : Int) := by omega
    have k3 : (m : Int) ≤ 100 := by omega
    clear ho hb hB cC hs hcap e1 h0 el hL hm
    go_wp2
    go_ret
    exact ⟨rfl, HBl.out⟩
set_option maxHeartbeats 1000000 in
theorem parent_any (p : ByteArray) (w : World) (hp : p.size ≤ 1000) (hm : ML w) : Calls Tryz.prog 58 #[.string p] w fun e w' => e = .returned (.string (par p)) ∧ Below w.heap.size w w' := by
  have cC := cut_any p w hp hm
  have hok := nm_ok p
  have hn8 := okN_len hok
  clear hm hp
  by_cases h0 : (nmL p).length = 0
  · have e1 : par p = ByteArray.empty := by unfold par; rw [if_pos h0]
    rw [e1]
    go_enter Tryz.func58, Tryz.ntmps58
    go_wp2_with fail
    refine cC.mono ?_
    rintro e w1 ⟨v, he, ho, hb⟩
    obtain ⟨B, hB⟩ : ∃ B, vld p = B := ⟨_, rfl⟩
    rw [hB] at he
    subst he
    obtain ⟨a, c, hv, hs, hcap⟩ := cut_srd ho
    rw [h0] at hv
    subst hv
    have HBl := Lib.hid hb
    clear ho hb hB cC hs hcap e1 h0 hok
    go_wp2
    go_ret
    exact ⟨rfl, HBl.out⟩
  · have e1 : par p = pth (nmL p).dropLast := by unfold par; rw [if_neg h0]
    have hokd := okN_dropLast hok
    obtain ⟨m, hm⟩ : ∃ m, (nmL p).length = m + 1 := ⟨(nmL p).length - 1, by omega⟩
    obtain ⟨D, hD⟩ : ∃ D, (nmL p).dropLast = D := ⟨_, rfl⟩
    have hDt : (nmL p).take m = D := by rw [← hD, List.dropLast_eq_take, hm]; rfl
    have hDl : D.length = m := by rw [← hD, List.length_dropLast, hm]; rfl
    rw [hD] at hokd
    have hjl := jn_len D hokd
    rw [e1, hD]
    have HDt := Lib.hid hDt
    have HDl := Lib.hid hDl
    clear hDt hDl hD hokd e1 hok
    go_enter Tryz.func58, Tryz.ntmps58
    go_wp2_with fail
    refine cC.mono ?_
    rintro e w1 ⟨v, he, ho, hb⟩
    obtain ⟨B, hB⟩ : ∃ B, vld p = B := ⟨_, rfl⟩
    rw [hB] at he
    subst he
    obtain ⟨a, c, hv, hs, hcap⟩ := cut_srd ho
    have hs2 := srd_cut (c := c) hs m (by rw [tx_len]; omega)
    rw [tx_take, HDt.out] at hs2
    rw [hm] at hv hcap
    subst hv
    have HBl := Lib.hid hb
    have hj : Calls Tryz.prog 81 #[.slice a m c, .string { data := #[47] }] w1 fun e w' => e = .returned (.string (ofL (jn D))) ∧ Below w1.heap.size w1 w' := by
      have := join_any a c D w1 hs2 (by rw [HDl.out]; omega) (by omega) (by rw [HDl.out]; omega)
      rw [HDl.out] at this
      exact this
    have k1 : ((m : Int) + 1 == 0) = false := by simp; omega
    have k2 : (0 : Int) ≤ (m : Int) := by omega
    have k3 : (m : Int) ≤ 100 := by omega
    have k4 : m ≤ c := by omega
    obtain ⟨X, hX⟩ : ∃ X, ofL (jn D) = X := ⟨_, rfl⟩
    have hXs : X.size ≤ 136 := by rw [← hX, ofL_size]; exact hjl
    rw [hX] at hj
    have hcat : ({ data := #[47] } : ByteArray) ++ X = pth D := by rw [← hX, cat47]; rfl
    have HC := Lib.hid hcat
    have hsz1 : ({ data := #[47] } : ByteArray).size = 1 := rfl
    have k5 : ¬ (9223372036854775807 < 1 + X.size) := by omega
    clear ho hb hB cC hs hcap h0 hs2 hm hX hcat
    go_wp2_with (refine wpList_cutS rfl _ _ rfl a (m + 1) c rfl m ?hh k4 ?_)
    case hh => simp [go_sem]
    go_wp2_with fail
    refine hj.mono ?_
    rintro e w2 ⟨rfl, hb⟩
    have HB2 := Lib.hid (below_self HBl.out hb)
    clear hb hj
    go_wp2
    go_ret
    exact ⟨ret_str HC.out, HB2.out⟩
def ofP (ss : List ByteArray) : ByteArray := if okN (ss.map (·.data.toList)) then pth (ss.map (·.data.toList)) else ByteArray.empty
def ofE (ss : List ByteArray) : Int := if okN (ss.map (·.data.toList)) then 0 else 1
theorem okN_parts (ss : List ByteArray) : okN (ss.map (·.data.toList)) = (!(oddIn ss) && !decide (8 < ss.length)) := by
  unfold okN oddIn
  rw [List.all_map, List.length_map]
  congr 1
  · rw [Bool.eq_iff_iff]
    simp [nmS, Function.comp_def]
  · rw [Bool.eq_iff_iff]
    simp
theorem isnan_any (s : ByteArray) (w : World) : Calls Tryz.prog 100 #[.string s] w fun e w' => e = .returned (.bool false) ∧ w = w' := by
  have q2 : (s.toList != s.toList) = false := by simp
  go_enter Tryz.func100, Tryz.ntmps100
  go_wp2
  go_ret
  exact ⟨rfl, rfl⟩
def cmpS (x y : List UInt8) : Int := if x = y then 0 else if Op.bytesLess x y then -1 else 1
theorem cmps_any (s t : ByteArray) (w : World) : Calls Tryz.prog 80 #[.string s, .string t] w fun e w' => e = .returned (.int .i64 (cmpS s.data.toList t.data.toList)) ∧ w = w' := by
  have es : s.toList = s.data.toList := Lib.toList_data s
  have et : t.toList = t.data.toList := Lib.toList_data t
  rw [← es, ← et]
  obtain ⟨x, hx⟩ : ∃ x, s.toList = x := ⟨_, rfl⟩
  obtain ⟨y, hy⟩ : ∃ y, t.toList = y := ⟨_, rfl⟩
  by_cases h1 : x = y
  · have e : cmpS s.toList t.toList = 0 := by unfold cmpS; rw [hx, hy, if_pos h1]
    rw [e]
    have k1 : Op.bytesLess s.toList t.toList = false := by rw [hx, hy, h1]; exact bl_irr y
    have k2 : (s.toList == t.toList) = true := by rw [hx, hy, h1]; simp
    clear es et e hx hy h1
    go_enter Tryz.func80, Tryz.ntmps80
    go_wp2_with (go_at_call 100; refine (isnan_any _ _).mono ?_; rintro e w' ⟨rfl, rfl⟩)
    go_ret
    exact ⟨rfl, rfl⟩
  · have k2 : (s.toList == t.toList) = false := by rw [hx, hy]; simpa using h1
    cases h2 : Op.bytesLess x y with
    | true =>
      have e : cmpS s.toList t.toList = -1 := by unfold cmpS; rw [hx, hy, if_neg h1, h2]; rfl
      rw [e]
      have k1 : Op.bytesLess s.toList t.toList = true := by rw [hx, hy]; exact h2
      clear es et e hx hy h1 h2
      go_enter Tryz.func80, Tryz.ntmps80
      go_wp2_with (go_at_call 100; refine (isnan_any _ _).mono ?_; rintro e w' ⟨rfl, rfl⟩)
      go_ret
      exact ⟨rfl, rfl⟩
    | false =>
      have e : cmpS s.toList t.toList = 1 := by unfold cmpS; rw [hx, hy, if_neg h1, h2]; rfl
      rw [e]
      have k1 : Op.bytesLess s.toList t.toList = false := by rw [hx, hy]; exact h2
      clear es et e hx hy h1 h2
      go_enter Tryz.func80, Tryz.ntmps80
      go_wp2_with (go_at_call 100; refine (isnan_any _ _).mono ?_; rintro e w' ⟨rfl, rfl⟩)
      go_ret
      exact ⟨rfl, rfl⟩
theorem cmpN_step (x y : List UInt8) (a b : List (List UInt8)) : cmpN (x :: a) (y :: b) = if cmpS x y = 0 then cmpN a b else cmpS x y := by
  by_cases h : x = y
  · subst h
    have : cmpS x x = 0 := by unfold cmpS; rw [if_pos rfl]
    rw [if_pos this, cmpN_cons]
  · have e : cmpS x y = if Op.bytesLess x y then -1 else 1 := by unfold cmpS; rw [if_neg h]
    have e2 : cmpN (x :: a) (y :: b) = if Op.bytesLess x y then -1 else 1 := by
      unfold cmpN
      rw [if_neg (fun q => h (List.cons.inj q).1), ltN, if_neg h]
    rw [e2, ← e]
    rw [if_neg]
    rw [e]
    split <;> omega
theorem cmpN_nil_cons (y : List UInt8) (b : List (List UInt8)) : cmpN [] (y :: b) = -1 := rfl
theorem cmpN_cons_nil (y : List UInt8) (b : List (List UInt8)) : cmpN (y :: b) [] = 1 := rfl
theorem cmpN_nil : cmpN [] [] = 0 := rfl
set_option maxHeartbeats 1000000 in
theorem compare_any (a1 a2 : Option Addr) (c1 c2 : Nat) (P Q : List (List UInt8)) (w : World) (h1 : SRd w a1 (tx P)) (h2 : SRd w a2 (tx Q)) :
    Calls Tryz.prog 55 #[.slice a1 P.length c1, .slice a2 Q.length c2] w fun e w' => e = .returned (.int .i64 (cmpN P Q)) ∧ w = w' := by
  have H1 := Lib.hid h1
  have H2 := Lib.hid h2
  have l1 := h1.1
  have l2 := h2.1
  rw [tx_len] at l1 l2
  clear h1 h2
  obtain ⟨C, hC⟩ : ∃ C, cmpN P Q = C := ⟨_, rfl⟩
  rw [hC]
  have HC := Lib.hid hC
  clear hC
  go_enter Tryz.func55, Tryz.ntmps55
  go_wp2_with fail
  go_loop [11] (fun i => ∃ k : Nat, k ≤ P.length ∧ k ≤ Q.length ∧ i = .int .i64 k ∧ Hid (cmpN (P.drop k) (Q.drop k) = C)) (fun i => P.length - (intOf i).toNat)
  case atStart => exact ⟨0, by omega, by omega, rfl, HC⟩
  case round =>
    obtain ⟨k, hk1, hk2, rfl, hD⟩ := hrel
    by_cases hlt : k < P.length
    · obtain ⟨g, off, rfl, hg, hc⟩ := H1.out.cell k (by rw [tx_len]; exact hlt)
      rw [tx_getD _ _ hlt] at hc
      have hlt' : (k : Int) < (P.length : Int) := by omega
      have d1 : P.drop k = P.getD k [] :: P.drop (k + 1) := by
        rw [List.drop_eq_getElem_cons hlt]; simp [List.getD, hlt]
      by_cases hlt2 : k < Q.length
      · obtain ⟨g2, off2, rfl, hg2, hc2⟩ := H2.out.cell k (by rw [tx_len]; exact hlt2)
        rw [tx_getD _ _ hlt2] at hc2
        have d2 : Q.drop k = Q.getD k [] :: Q.drop (k + 1) := by
          rw [List.drop_eq_getElem_cons hlt2]; simp [List.getD, hlt2]
        have hD' := hD.out
        rw [d1, d2, cmpN_step] at hD'
        obtain ⟨x, hx⟩ : ∃ x, P.getD k [] = x := ⟨_, rfl⟩
        obtain ⟨y, hy⟩ : ∃ y, Q.getD k [] = y := ⟨_, rfl⟩
        rw [hx] at hc hD'
        rw [hy] at hc2 hD'
        have cM := cmps_any (ofL x) (ofL y) w
        rw [ofL_data, ofL_data] at cM
        obtain ⟨Z, hZ⟩ : ∃ Z, cmpS x y = Z := ⟨_, rfl⟩
        rw [hZ] at cM hD'
        have hkk : ¬ (Q.length : Int) ≤ (k : Int) := by omega
        have hlt2' : (k : Int) < (Q.length : Int) := by omega
        by_cases z0 : Z = 0
        · subst z0
          rw [if_pos rfl] at hD'
          have HD := Lib.hid hD'
          clear hD hD' hx hy hZ d1 d2
          go_wp2_with (go_at_call 80; refine cM.mono ?_; rintro e w' ⟨rfl, rfl⟩)
          go_round
          case rel => exact ⟨k + 1, by omega, by omega, by go_num, HD⟩
          case measure => simp [intOf]; omega
        · rw [if_neg z0] at hD'
          subst hD'
          have z1 : (Z == 0) = false := by simpa using z0
          have z2 : (Z != 0) = true := by simp [z0]
          clear hD hx hy hZ d1 d2 z0 HC
          go_wp2_with (go_at_call 80; refine cM.mono ?_; rintro e w' ⟨rfl, rfl⟩)
          go_ret
          exact ⟨rfl, rfl⟩
      · have hD' := hD.out
        have d2 : Q.drop k = [] := List.drop_eq_nil_of_le (by omega)
        rw [d1, d2, cmpN_cons_nil] at hD'
        subst hD'
        have hkk : (Q.length : Int) ≤ (k : Int) := by omega
        clear hD d1 d2 HC
        go_wp2
        go_ret
        exact ⟨rfl, rfl⟩
    · have d1 : P.drop k = [] := List.drop_eq_nil_of_le (by omega)
      have hlt' : ¬ (k : Int) < (P.length : Int) := by omega
      have hD' := hD.out
      rw [d1] at hD'
      by_cases hlt2 : k < Q.length
      · have d2 : Q.drop k = Q.getD k [] :: Q.drop (k + 1) := by
          rw [List.drop_eq_getElem_cons hlt2]; simp [List.getD, hlt2]
        rw [d2, cmpN_nil_cons] at hD'
        subst hD'
        have hkk : P.length < Q.length := by omega
        clear hD d1 d2 HC
        go_wp2
        go_ret
        exact ⟨rfl, rfl⟩
      · have d2 : Q.drop k = [] := List.drop_eq_nil_of_le (by omega)
        rw [d2, cmpN_nil] at hD'
        subst hD'
        have hkk : ¬ P.length < Q.length := by omega
        clear hD d1 d2 HC
        go_wp2
        go_ret
        exact ⟨rfl, rfl⟩
set_option maxHeartbeats 1000000 in
theorem less_any (p q : ByteArray) (w : World) (hp : p.size ≤ 1000) (hq : q.size ≤ 1000) (hm : ML w) : Calls Tryz.prog 29 #[.string p, .string q] w fun e w' => e = .returned (.bool (lsr p q)) ∧ Below w.heap.size w w' := by
  have cP := cut_any p w hp hm
  have cQ := fun w' (hb : Below w.heap.size w w') => cut_any q w' hq (hm.below hb)
  have eL : lsr p q = (vld p && vld q && ltN (nmL p) (nmL q)) := rfl
  obtain ⟨A, hA⟩ : ∃ A, vld p = A := ⟨_, rfl⟩
  obtain ⟨B, hB⟩ : ∃ B, vld q = B := ⟨_, rfl⟩
  rw [eL, hA, hB]
  have HA := Lib.hid hA
  have HB := Lib.hid hB
  have hz : (decide (cmpN (nmL p) (nmL q) < 0)) = ltN (nmL p) (nmL q) := by
    rw [Bool.eq_iff_iff, decide_eq_true_eq]; exact cmpN_lt _ _
  obtain ⟨Z, hZ⟩ : ∃ Z, cmpN (nmL p) (nmL q) = Z := ⟨_, rfl⟩
  rw [hZ] at hz
  rw [← hz]
  have HZ := Lib.hid hZ
  clear eL hA hB hz hZ hm hp hq
  cases A <;> cases B
  all_goals
    go_enter Tryz.func29, Tryz.ntmps29
    go_wp2_with fail
    refine cP.mono ?_
    rintro e w1 ⟨v, he, ho, hb⟩
    rw [HA.out] at he
    subst he
    have cQ1 := cQ w1 hb
    have HO1 := Lib.hid ho
    have HB1 := Lib.hid hb
    clear ho hb cP cQ
    go_wp2_with fail
    refine cQ1.mono ?_
    rintro e w2 ⟨v2, he, ho, hb⟩
    rw [HB.out] at he
    subst he
    have HB2 := Lib.hid (below_self HB1.out hb)
    have ho1 := HO1.out.below hb
  · clear ho ho1 hb cQ1 HO1
    go_wp2
    go_ret
    exact ⟨rfl, HB2.out⟩
  · clear ho ho1 hb cQ1 HO1
    go_wp2
    go_ret
    exact ⟨rfl, HB2.out⟩
  · clear ho ho1 hb cQ1 HO1
    go_wp2
    go_ret
    exact ⟨rfl, HB2.out⟩
  · obtain ⟨a1, c1, rfl, hs1, _⟩ := cut_srd (w := w) ho1
    obtain ⟨a2, c2, rfl, hs2, _⟩ := cut_srd ho
    have cC := compare_any a1 a2 c1 c2 (nmL p) (nmL q) w2 hs1 hs2
    rw [HZ.out] at cC
    clear ho ho1 hb cQ1 HO1 hs1 hs2
    go_wp2_with fail
    refine cC.mono ?_
    rintro e w3 ⟨rfl, rfl⟩
    clear cC
    go_wp2
    go_ret
    exact ⟨by simp, HB2.out⟩
end Go.Proofs.YtodcmhmankmaoaaGreat
