/-
  The walk of package touch's disturbs.
-/
import Derived.Test.YtphddigohmdbnaaTchK
import Derived.Test.YtphddigohmdbnaaTchE
namespace Go.Proofs.Ytphddigohmdbnaa
open Go.RowKit
set_option linter.unusedSimpArgs false
set_option linter.unusedVariables false

/-- A cell as a key. -/
noncomputable def kf (c : Cl) : Lit := (keyOf Try.prog 49 (.agg #[.string c.1, .int .u8 c.2])).getD (.bool false)
def okC (c : Cl) : Prop := c.1.size ≤ maxLen ∧ (Lit.int .u8 c.2).wf = true
theorem kf_key {c : Cl} (h : okC c) : keyOf Try.prog 49 (.agg #[.string c.1, .int .u8 c.2]) = some (kf c) := by
  obtain ⟨kl, hk⟩ := cellKey c h.1 h.2
  unfold kf
  rw [hk]
  rfl
theorem kf_inj {a b : Cl} (ha : okC a) (hb : okC b) (h : kf a = kf b) : a = b := by
  have k1 := kf_key ha
  have k2 := kf_key hb
  rw [← h] at k2
  have := cellLaw.inj k1 k2
  simp only [Value.agg.injEq, Array.mk.injEq, List.cons.injEq, Value.string.injEq, Value.int.injEq, true_and, and_true] at this
  exact Prod.ext this.1 this.2
set_option maxRecDepth 100000 in
theorem kf_lit {c : Cl} (h : okC c) : WideAt.IsKeyLit (kf c) := cellLaw.key (kf_key h)
noncomputable abbrev cset {H : Type} (l : List Cl) : DataW H := Maps.setOf (.agg []) (l.map kf)
set_option maxRecDepth 100000 in
theorem has_cells {H : Type} (l : List Cl) (x : Cl) (hl : ∀ c ∈ l, okC c) (hx : okC x) : Maps.has (cset (H := H) l) (kf x) = memB x l := by
  unfold cset
  rw [Maps.has_setOf _ _ _ (by
    intro k hk
    rw [List.mem_map] at hk
    obtain ⟨c, hc, rfl⟩ := hk
    exact kf_lit (hl c hc))]
  unfold memB
  rw [List.any_map]
  rw [Bool.eq_iff_iff, List.any_eq_true, List.any_eq_true]
  constructor
  · rintro ⟨c, hc, hs⟩
    refine ⟨c, hc, ?_⟩
    have : kf c = kf x := by
      apply Classical.byContradiction
      intro hne
      have := Maps.sameKey_ne hne
      simp only [Function.comp_apply] at hs
      rw [this] at hs
      cases hs
    exact decide_eq_true (kf_inj (hl c hc) hx this)
  · rintro ⟨c, hc, hs⟩
    refine ⟨c, hc, ?_⟩
    obtain rfl : c = x := of_decide_eq_true hs
    have hk := kf_lit hx
    simp only [Function.comp_apply]
    cases hkx : kf c <;> rw [hkx] at hk <;> simp_all [Lit.sameKey, WideAt.IsKeyLit]
theorem okC_of {p : ByteArray} {x : Int} (hp : p.size ≤ 1000) (hx : x = 101 ∨ x = 118 ∨ x = 107) : okC (p, x) := by
  refine ⟨by unfold maxLen; show p.size ≤ _; omega, ?_⟩
  rcases hx with rfl | rfl | rfl
  · show (Lit.int .u8 101).wf = true; decide
  · show (Lit.int .u8 118).wf = true; decide
  · show (Lit.int .u8 107).wf = true; decide
theorem rds_ok {op : Int} {p : ByteArray} (hp : p.size ≤ 1000) : ∀ c ∈ rds op p, okC c := by
  have h2 : (par p).size ≤ 1000 := by have := @par_size p; omega
  intro c hc
  unfold rds at hc
  repeat' split at hc
  all_goals simp only [List.mem_cons, List.not_mem_nil, or_false] at hc
  all_goals first
    | exact hc.elim
    | (rcases hc with rfl | rfl <;> first | exact okC_of hp (by simp) | exact okC_of h2 (by simp))
    | (subst hc; first | exact okC_of hp (by simp) | exact okC_of (by decide) (by simp))
    | skip
theorem wrs_ok {op : Int} {p : ByteArray} (hp : p.size ≤ 1000) : ∀ c ∈ wrs op p, okC c := by
  have h2 : (par p).size ≤ 1000 := by have := @par_size p; omega
  intro c hc
  unfold wrs at hc
  repeat' split at hc
  all_goals simp only [List.mem_cons, List.not_mem_nil, or_false] at hc
  all_goals first
    | exact hc.elim
    | (rcases hc with rfl | rfl | rfl <;> first | exact okC_of hp (by simp) | exact okC_of h2 (by simp))
    | (subst hc; first | exact okC_of hp (by simp) | exact okC_of h2 (by simp))
    | skip
end Go.Proofs.Ytphddigohmdbnaa
