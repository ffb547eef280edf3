/-
  Package accept's laws: what they share, behind AcL.
-/
import Derived.Test.YtchhcaoondfpiaaGreatAcLl
namespace Go.Proofs.YtchhcaoondfpiaaGreat
open Go.RowKit Go.Sort
open Go.WideMaps
set_option linter.unusedSimpArgs false
set_option linter.unusedVariables false
set_option maxRecDepth 100000

theorem AnsIs.out {w w' : World} {N bk : Nat} {v : Value} {l : List Mg} (h : AnsIs w N v l) (hg : w.grownBy w' (some bk)) (hne : ∀ g cs T fr, w.heap[g]? = some (.cells cs T fr) → g ≠ bk) : AnsIs w' N v l := by
  rcases h with q | ⟨M, g', u, h1, h2, h3, h4, h5⟩
  · exact .inl q
  · exact .inr ⟨M, g', u, h1, h2, (hg.block _ (Bk.lt h3) (by simpa using hne _ _ _ _ h3)).trans h3, h4.outA hg hne, h5⟩
/-- What is answered is not large. -/
theorem hear_ans {b : BSt} {i : Nat} (h : SmBk b i) (hr : RisesB b.l) (hk : okB b.l) {m : Mg} (hm : SmMg m) (hi : i ≤ 100) : ∀ M ∈ (hearB lclA b m).2, M.sn = snp0 ∧ M.ins.at'.2.length ≤ 1000 := by
  have hg := (h.get hr m.id).2.1
  have key : ∀ (k : Int) (bal : Bal) (x : Ist), x.at'.2.length ≤ 1000 → ∀ M ∈ [ansB b k m bal x], M.sn = snp0 ∧ M.ins.at'.2.length ≤ 1000 := by
    intro k bal x hx M hM
    rw [List.mem_singleton] at hM
    subst hM
    exact ⟨rfl, hx⟩
  have hm1 := hm.1
  unfold hearB
  split
  · intro M hM; cases hM
  split
  · intro M hM; cases hM
  split
  · exact key _ _ _ (by omega)
  split
  · exact key _ _ _ (by show ([] : List I3).length ≤ 1000; decide)
  unfold voteB
  split
  · split
    · intro M hM; cases hM
    · split
      · refine key _ _ _ ?_
        have h2 := mrg_len m.ins.at' (lclA (knB b.l) m.id m.ins.cm)
        have h3 := (lcl_small h hk m.id m.ins.cm).2.1
        simp only
        omega
      · exact key _ _ _ (by omega)
  split
  · exact key _ _ _ (by simp only; omega)
  · exact key _ _ _ (by simp only; omega)
theorem AnsIs.slice {w : World} {N : Nat} {v : Value} {l : List Mg} (h : AnsIs w N v l) : ∃ a n c, v = .slice a n c := by
  rcases h with ⟨_, rfl⟩ | ⟨_, _, _, _, rfl, _⟩
  · exact ⟨_, _, _, rfl⟩
  · exact ⟨_, _, _, rfl⟩
theorem below_drewNA {B : Nat} {w w' : World} (h : Below B w w') (n : Nat) : Below B w (w'.drewN n) :=
  ⟨h.os, h.tape, h.output, h.size, h.block⟩
end Go.Proofs.YtchhcaoondfpiaaGreat
