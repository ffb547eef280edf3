/-
  Instances as keys of a map; sets of instances.
-/
import Derived.Test.YtlckjpjcfalfnaaIds1
import Derived.Maps.OwnSet
import Derived.Maps.RangeWalk
import Derived.DeepKeys4
namespace Go.Proofs.Ytlckjpjcfalfnaa
open Go.RowKit Go.Sort
set_option linter.unusedSimpArgs false
set_option linter.unusedVariables false
set_option maxRecDepth 100000

set_option maxRecDepth 100000 in
theorem laidOutI : laidOutB Try.prog = true := by kernel_rfl
theorem idRow : (25 : TypeId) < Try.prog.types.size := of_decide_eq_true (by kernel_rfl)
theorem idCells : Try.prog.cellsOf 25 = 3 := by kernel_rfl
theorem intCells : Try.prog.cellsOf 3 = 1 := by kernel_rfl
theorem idDeep : Try.prog.keyType 25 = true := by kernel_rfl
theorem idWide : (match Try.prog.underlying 25 with | some (.array _ _) | some (.struct _) => true | _ => false) = true := by kernel_rfl
set_option maxRecDepth 100000 in
theorem idLaw : Go.Maps.Keyed Try.prog 25 := Go.Maps.Keyed.of_law (deep_law_laid laidOutI (m := 3) (by omega) idRow (by kernel_rfl) idWide)
def okI (x : I3) : Prop := (Lit.int .i64 x.1).wf = true ∧ (Lit.int .i64 x.2.1).wf = true ∧ (Lit.int .i64 x.2.2).wf = true
abbrev idV (x : I3) : Value := .agg #[.int .i64 x.1, .int .i64 x.2.1, .int .i64 x.2.2]
theorem pos_succ {a b : Nat} (h : a < b) : ∃ n, b = n + 1 := ⟨b - 1, by omega⟩
theorem idKey (x : I3) (h : okI x) : ∃ kl, keyOf Try.prog 25 (idV x) = some kl := by
  obtain ⟨n, hn⟩ := pos_succ idRow
  have hf : (idV x).formed Try.prog 25 = true := by simp [Value.formed, Try.underlying25, idCells]
  unfold keyOf
  simp only [Try.underlying25, idDeep, hf, hn, Value.cells]
  simp [Program.keyLits, Try.underlying25, Try.underlying3, idCells, intCells, h.1, h.2.1, h.2.2]
/-- What reads as a key is an instance. -/
theorem idKey_inv (key : Value) (kl : Lit) (h : keyOf Try.prog 25 key = some kl) : ∃ x, key = idV x ∧ okI x := by
  obtain ⟨n, hn⟩ := pos_succ idRow
  unfold keyOf at h
  simp only [Try.underlying25, idDeep, Bool.true_and] at h
  split at h
  · rename_i hf
    obtain ⟨cs, rfl, hsz⟩ : ∃ cs, key = .agg cs ∧ cs.size = 3 := by
      cases key <;> simp [Value.formed, Try.underlying25, idCells] at hf
      exact ⟨_, rfl, hf⟩
    obtain ⟨l⟩ := cs
    match l, hsz with
    | [c0, c1, c2], _ =>
      simp only [hn, Value.cells] at h
      simp [Program.keyLits, Try.underlying25, Try.underlying3, idCells, intCells, List.mapM_cons, Option.bind_eq_some_iff] at h
      obtain ⟨a, h0, _, ⟨b, h1, _, ⟨c, h2, _⟩, _⟩, _⟩ := h
      obtain ⟨x0, rfl, w0⟩ : ∃ x, c0 = .int .i64 x ∧ (Lit.int .i64 x).wf = true := by cases c0 <;> simp at h0; obtain ⟨⟨rfl, q⟩, _⟩ := h0; exact ⟨_, rfl, q⟩
      obtain ⟨x1, rfl, w1⟩ : ∃ x, c1 = .int .i64 x ∧ (Lit.int .i64 x).wf = true := by cases c1 <;> simp at h1; obtain ⟨⟨rfl, q⟩, _⟩ := h1; exact ⟨_, rfl, q⟩
      obtain ⟨x2, rfl, w2⟩ : ∃ x, c2 = .int .i64 x ∧ (Lit.int .i64 x).wf = true := by cases c2 <;> simp at h2; obtain ⟨⟨rfl, q⟩, _⟩ := h2; exact ⟨_, rfl, q⟩
      exact ⟨(x0, x1, x2), rfl, w0, w1, w2⟩
  · cases h
/-- An instance as a key. -/
noncomputable def kf (x : I3) : Lit := (keyOf Try.prog 25 (idV x)).getD (.bool false)
theorem kf_key {x : I3} (h : okI x) : keyOf Try.prog 25 (idV x) = some (kf x) := by
  obtain ⟨kl, hk⟩ := idKey x h
  unfold kf
  rw [hk]
  rfl
theorem kf_inj {a b : I3} (ha : okI a) (hb : okI b) (h : kf a = kf b) : a = b := by
  have k1 := kf_key ha
  have k2 := kf_key hb
  rw [← h] at k2
  have := idLaw.inj k1 k2
  simp only [Value.agg.injEq, Array.mk.injEq, List.cons.injEq, Value.int.injEq, true_and, and_true] at this
  exact i3_ext this.1 this.2.1 this.2.2
set_option maxRecDepth 100000 in
theorem kf_lit {x : I3} (h : okI x) : WideAt.IsKeyLit (kf x) := idLaw.key (kf_key h)
theorem kf_same {a : I3} (ha : okI a) : (kf a).sameKey (kf a) = true := by
  have hk := kf_lit ha
  cases h : kf a <;> rw [h] at hk <;> simp_all [Lit.sameKey, WideAt.IsKeyLit]
theorem kf_same_iff {a b : I3} (ha : okI a) (hb : okI b) : (kf a).sameKey (kf b) = decide (a = b) := by
  by_cases h : a = b
  · subst h; rw [kf_same ha]; simp
  · rw [decide_eq_false h]
    exact Maps.sameKey_ne (fun e => h (kf_inj ha hb e))
/-- A map that reads as the set of a list. -/
structure SetIs (D : DataW Unit) (l : List I3) : Prop where
  has : ∀ x, okI x → Maps.has D (kf x) = hasI l x
  size : Maps.size D = (clnI l).length
  tidy : Maps.Tidy D
theorem SetIs.empty : SetIs (.map []) [] := ⟨fun x _ => rfl, rfl, Maps.tidy_empty⟩
theorem hasI_app (l k : List I3) (x : I3) : hasI (l ++ k) x = (hasI l x || hasI k x) := by unfold hasI; rw [List.any_append]
theorem clnI_snoc (l : List I3) (x : I3) : clnI (l ++ [x]) = putI (clnI l) x := by simp [clnI, List.foldl_append]
theorem hasI_cln (l : List I3) (x : I3) : hasI (clnI l) x = hasI l x := by rw [Bool.eq_iff_iff, hasI_iff, hasI_iff, mem_clnI]
theorem len_putI_eq (l : List I3) (x : I3) : (putI l x).length = if hasI l x then l.length else l.length + 1 := by
  unfold putI
  split
  · rfl
  · have := congrArg List.length (List.takeWhile_append_dropWhile (p := fun y => !ltI x y) (l := l))
    rw [List.length_append] at this
    simp only [List.length_append, List.length_cons]
    omega
theorem SetIs.put {D : DataW Unit} {l : List I3} (h : SetIs D l) {x : I3} (hx : okI x) (d : DataW Unit) : SetIs (D.put (kf x) d) (l ++ [x]) := by
  refine ⟨fun y hy => ?_, ?_, h.tidy.put (kf_lit hx) d⟩
  · rw [hasI_app]
    by_cases e : y = x
    · subst e
      rw [Maps.has_put_same h.tidy.isMap (kf_lit hx)]
      simp [hasI]
    · rw [Maps.has_put_other (fun q => e (kf_inj hy hx q)), h.has y hy]
      have : hasI [x] y = false := by rw [hasI_false]; simpa using e
      rw [this, Bool.or_false]
  · rw [Maps.size_put h.tidy, h.has x hx, h.size, clnI_snoc, len_putI_eq, hasI_cln]
theorem clnI_filter (l : List I3) (p : I3 → Bool) : clnI (l.filter p) = (clnI l).filter p := by
  refine clnI_eq ((clnI_rises l).sublist List.filter_sublist) fun x => ?_
  simp [List.mem_filter, mem_clnI]
theorem Rises.nodup {l : List I3} (h : Rises l) : l.Nodup := List.Pairwise.imp (fun {a b} q e => by subst e; rw [ltI_irrefl] at q; cases q) h
theorem filter_ne_len : ∀ (l : List I3) (x : I3), l.Nodup → (l.filter fun y => decide (y ≠ x)).length + (if hasI l x then 1 else 0) = l.length
  | [], x, _ => rfl
  | a :: l, x, h => by
    have hn := List.nodup_cons.1 h
    have ih := filter_ne_len l x hn.2
    by_cases e : a = x
    · subst e
      have h1 : hasI l a = false := by rw [hasI_false]; exact hn.1
      have h2 : hasI (a :: l) a = true := by rw [hasI_iff]; simp
      rw [h1] at ih
      rw [h2, List.filter_cons]
      simp at ih ⊢
      simpa using ih
    · have h2 : hasI (a :: l) x = hasI l x := by
        rw [Bool.eq_iff_iff, hasI_iff, hasI_iff, List.mem_cons]
        constructor
        · rintro (q | q)
          · exact absurd q.symm e
          · exact q
        · exact .inr
      rw [h2, List.filter_cons, if_pos (by simpa using e), List.length_cons, List.length_cons]
      omega
theorem SetIs.del {D : DataW Unit} {l : List I3} (h : SetIs D l) {x : I3} (hx : okI x) : SetIs (D.del (kf x)) (l.filter fun y => decide (y ≠ x)) := by
  refine ⟨fun y hy => ?_, ?_, h.tidy.del (kf x)⟩
  · by_cases e : y = x
    · subst e
      rw [Maps.has_del_same]
      symm
      rw [hasI_false]
      simp
    · rw [Maps.has_del_other (fun q => e (kf_inj hy hx q)), h.has y hy, Bool.eq_iff_iff, hasI_iff, hasI_iff]
      simp [e]
  · have h1 := Maps.size_del (k := kf x) h.tidy
    rw [h.has x hx, h.size] at h1
    have h2 := filter_ne_len (clnI l) x (clnI_rises l).nodup
    rw [hasI_cln] at h2
    rw [clnI_filter]
    omega
theorem SetIs.len {D : DataW Unit} {l : List I3} (h : SetIs D l) : Maps.size D ≤ l.length := by rw [h.size]; exact len_clnI l
theorem SetIs.none {D : DataW Unit} {l : List I3} (h : SetIs D l) : (Maps.size D = 0) ↔ l = [] := by
  rw [h.size]
  constructor
  · intro q
    have := List.eq_nil_of_length_eq_zero q
    cases l with
    | nil => rfl
    | cons x l =>
      have h1 := (mem_clnI (x :: l) x).2 (by simp)
      rw [this] at h1
      cases h1
  · rintro rfl; rfl
abbrev okL (l : List I3) : Prop := ∀ x ∈ l, okI x
end Go.Proofs.Ytlckjpjcfalfnaa
