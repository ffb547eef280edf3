/-
  What is read, and what is written; no program.
-/
import Derived.Test.YtoojfbeikohikaaDirW
namespace Go.Proofs.Ytoojfbeikohikaa
set_option linter.unusedSimpArgs false
set_option linter.unusedVariables false

theorem reads_quiet {l : List E3} (op : Int) (p v : ByteArray) (ver : Int) (h : (appD l op p v ver).1.err ≠ 0 ∨ op = 4 ∨ op = 5) : (appD l op p v ver).2 = l := by
  unfold appD at *
  cases hr : rgt op p v with
  | false => rfl
  | true =>
    rw [hr] at h
    simp only [Bool.not_true, Bool.false_eq_true, if_false] at h ⊢
    split
    · rename_i h1
      subst h1
      simp only [if_true] at h
      unfold crD at *
      split
      · rfl
      · split
        · rename_i h2 h3
          rw [if_neg h2, if_pos h3] at h
          simp at h
        · rfl
    · rename_i h1
      rw [if_neg h1] at h
      split
      · rename_i h2
        subst h2
        simp only [if_true] at h
        unfold rmD at *
        split
        · rename_i h3
          rw [if_pos h3] at h
          split
          · rfl
          · rename_i h4
            rw [if_neg h4] at h
            simp [bad] at h
        · rfl
      · rename_i h2
        rw [if_neg h2] at h
        have hset : ((setD l p v).1.err ≠ 0) → (setD l p v).2 = l := by
          unfold setD
          cases fndD l p with
          | none => intro _; rfl
          | some x => intro q; simp at q
        split
        · rename_i h3
          subst h3
          simp only [if_true] at h
          exact hset (by simpa using h)
        · rename_i h3
          rw [if_neg h3] at h
          split
          · unfold gtD; split <;> rfl
          · rename_i h4
            rw [if_neg h4] at h
            split
            · unfold lsD; split <;> rfl
            · rename_i h5
              rw [if_neg h5] at h
              split
              · rename_i h6
                subst h6
                simp only [if_true] at h
                unfold casD at *
                split
                · rfl
                · rename_i h7
                  rw [if_neg h7] at h
                  exact hset (by simpa using h)
              · rfl
end Go.Proofs.Ytoojfbeikohikaa
