/-
  Package accept, plainly: who votes sees all that matters (where an instance stands is lclA).
-/
import Derived.Test.YtchhcaoondfpiaaGreatAcM
import Derived.Test.YtchhcaoondfpiaaGreatAt5
namespace Go.Proofs.YtchhcaoondfpiaaGreat
set_option linter.unusedSimpArgs false
set_option linter.unusedVariables false

theorem mxS_geA (l : List Int) (x : Int) (h : x ∈ l) : x ≤ mxS l := by
  unfold mxS
  have : ∀ (l : List Int) (a : Int), a ≤ l.foldl max a ∧ ∀ x ∈ l, x ≤ l.foldl max a := by
    intro l
    induction l with
    | nil => intro a; exact ⟨Int.le_refl _, fun x hx => by cases hx⟩
    | cons y l ih =>
      intro a
      rw [List.foldl_cons]
      have h1 := ih (max a y)
      refine ⟨by omega, fun x hx => ?_⟩
      rcases List.mem_cons.1 hx with q | q
      · omega
      · exact h1.2 x q
  exact (this l 0).2 x h
def matB (a b : CM) : Bool := Tc.bth a.cl a.op a.pa b.cl b.op b.pa
theorem lclA_sees (l : List Kn) (id : I3) (c : CM) : ∀ k ∈ l, k.id ≠ id → k.id.1 = id.1 → matB k.cm c = true → k.id ∈ (lclA l id c).2 ∧ k.a.1 < (lclA l id c).1 := by
  intro k hk hne he hm
  have hmk : matK id c k = true := by
    unfold matK
    simp only [Bool.and_eq_true, Bool.not_eq_true', decide_eq_false_iff_not, decide_eq_true_eq]
    exact ⟨hne, he, hm⟩
  have hf : k ∈ l.filter (matK id c) := List.mem_filter.2 ⟨hk, hmk⟩
  refine ⟨?_, ?_⟩
  · show k.id ∈ clnI ((l.filter (matK id c)).map (·.id))
    rw [mem_clnI]
    exact List.mem_map.2 ⟨k, hf, rfl⟩
  · show k.a.1 < mxS ((l.filter (matK id c)).map (·.a.1)) + 1
    have := mxS_geA ((l.filter (matK id c)).map (·.a.1)) k.a.1 (List.mem_map.2 ⟨k, hf, rfl⟩)
    omega
theorem lclA_self (l : List Kn) (id : I3) (c : CM) : id ∉ (lclA l id c).2 := by
  intro h
  have h1 : id ∈ clnI ((l.filter (matK id c)).map (·.id)) := h
  rw [mem_clnI] at h1
  obtain ⟨k, hk, e⟩ := List.mem_map.1 h1
  have h2 := (List.mem_filter.1 hk).2
  unfold matK at h2
  simp only [Bool.and_eq_true, Bool.not_eq_true', decide_eq_false_iff_not] at h2
  exact h2.1 e
/-- AcceptSees, plainly. -/
theorem hear_all {b : BSt} (he : EpB b) {m : Mg} (hk : m.kind = 0) {x : Mg} (hx : (hearB lclA b m).2 = [x]) (hx1 : x.kind = 1) (hv : ¬ (1 ≤ (getL b.l m.id).st ∧ (getL b.l m.id).vo = m.bal)) :
    (∀ d ∈ m.ins.at'.2, d ∈ x.ins.at'.2) ∧ (∀ k ∈ knB b.l, k.id ≠ m.id → matB k.cm m.ins.cm = true → k.id ∈ x.ins.at'.2 ∧ k.a.1 < x.ins.at'.1) ∧ m.ins.at'.1 ≤ x.ins.at'.1 ∧ x.ins.cm = m.ins.cm ∧ m.id ∉ x.ins.at'.2 ∧ rgtI x.ins.at'.2 = true :=
  hear_sees lclA he matB hk (lclA_sees _ _ _) (lclA_self _ _ _) hx hx1 hv
end Go.Proofs.YtchhcaoondfpiaaGreat
