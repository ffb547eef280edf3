/-
  Each path has its parent, whatever is done; no program.
-/
import Derived.Test.YtoojfbeikohikaaDirU
namespace Go.Proofs.Ytoojfbeikohikaa
set_option linter.unusedSimpArgs false
set_option linter.unusedVariables false

theorem RightD.put {l : List E3} (h : RightD l) {q v : ByteArray} {n : Int} (ho : okP q) (hv : v.size ≤ 64) (hn : 1 ≤ n) (hup : thrD l (par q) = true) : RightD (putD l q v n) := by
  have mp := fun e => mem_putD (v := v) (n := n) h.keys ho (e := e)
  have lift : ∀ p, thrD l p = true → thrD (putD l q v n) p = true := by
    intro p hp
    rw [thrD_iff] at hp ⊢
    rcases hp with hp | ⟨e, he, hq⟩
    · exact .inl hp
    · by_cases e1 : e.1 = q
      · exact .inr ⟨(q, v, n), (mp _).2 (.inl rfl), by rw [← hq, e1]⟩
      · exact .inr ⟨e, (mp _).2 (.inr ⟨he, e1⟩), hq⟩
  refine ⟨h.rise.put q v n, h.keys.put ho v n, fun e he => ?_, fun e he => ?_, fun e he => ?_⟩
  all_goals rcases (mp e).1 he with rfl | ⟨h1, _⟩
  · exact hv
  · exact h.vals e h1
  · exact hn
  · exact h.vers e h1
  · exact lift _ hup
  · exact lift _ (h.up e h1)
theorem RightD.del {l : List E3} (h : RightD l) {q : ByteArray} (hk : ∀ e ∈ l, par e.1 ≠ q) : RightD (delD l q) := by
  refine ⟨h.rise.del q, h.keys.del q, fun e he => h.vals e (mem_delD.1 he).1, fun e he => h.vers e (mem_delD.1 he).1, fun e he => ?_⟩
  have h1 := (mem_delD.1 he).1
  rw [thrD_iff]
  rcases thrD_iff.1 (h.up e h1) with q1 | ⟨y, hy, q1⟩
  · exact .inl q1
  · exact .inr ⟨y, mem_delD.2 ⟨hy, fun e2 => hk e h1 (by rw [← q1, e2])⟩, q1⟩
theorem RightD.set {l : List E3} (h : RightD l) {q v : ByteArray} (ho : okP q) (hv : v.size ≤ 64) : RightD (setD l q v).2 := by
  unfold setD
  cases hf : fndD l q with
  | none => exact h
  | some x =>
    have hm := (fndD_some (v := x.1) (n := x.2) h.rise).1 hf
    have h1 := h.vers _ hm
    have h2 := h.up _ hm
    exact h.put ho hv (by simp only at h1 ⊢; omega) h2
theorem RightD.app {l : List E3} (h : RightD l) (op : Int) (q v : ByteArray) (ver : Int) : RightD (appD l op q v ver).2 := by
  unfold appD
  cases hr : rgt op q v with
  | false => exact h
  | true =>
    have hv : vld q = true := by have h := hr; simp only [rgt, Bool.and_eq_true] at h; exact h.1
    simp only [Bool.not_true, Bool.false_eq_true, if_false]
    split
    · rename_i h1
      subst h1
      have hs : v.size ≤ 64 := by simpa [rgt, hv] using hr
      unfold crD
      split
      · exact h
      · rename_i h2
        split
        · rename_i h3
          exact h.put (okP_ne hv (fun e => h2 (by rw [e]; simp [thrD]))) hs (by omega) h3
        · exact h
    · split
      · unfold rmD
        split
        · split
          · exact h
          · rename_i h3
            refine h.del fun e he hq => h3 ?_
            have : lst e.1 ∈ kidD l q := by
              unfold kidD
              exact List.mem_map.2 ⟨e, List.mem_filter.2 ⟨he, by simpa using hq⟩, rfl⟩
            exact List.length_pos_of_mem this
        · exact h
      · split
        · rename_i h3
          subst h3
          have hh : v.size ≤ 64 ∧ q ≠ pth [] := by simpa [rgt, hv] using hr
          exact h.set (okP_ne hv hh.2) hh.1
        · split
          · unfold gtD; split <;> exact h
          · split
            · unfold lsD; split <;> exact h
            · split
              · rename_i h6
                subst h6
                have hh : v.size ≤ 64 ∧ q ≠ pth [] := by simpa [rgt, hv] using hr
                unfold casD
                split
                · exact h
                · exact h.set (okP_ne hv hh.2) hh.1
              · exact h
end Go.Proofs.Ytoojfbeikohikaa
