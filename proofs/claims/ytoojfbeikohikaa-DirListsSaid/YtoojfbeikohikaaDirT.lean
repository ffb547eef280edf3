/-
  What a command does to the entries; no program.
-/
import Derived.Test.YtoojfbeikohikaaDirS
namespace Go.Proofs.Ytoojfbeikohikaa
set_option linter.unusedSimpArgs false
set_option linter.unusedVariables false

/-- Nothing, or an entry put, or one gone. -/
theorem app_way (l : List E3) (op : Int) (q v : ByteArray) (ver : Int) : (appD l op q v ver).2 = l ∨ (∃ n, okP q ∧ (appD l op q v ver).2 = putD l q v n ∧ (n = 1 ∨ ∃ x, fndD l q = some x ∧ n = x.2 + 1)) ∨ (appD l op q v ver).2 = delD l q := by
  have hset : okP q → ((setD l q v).2 = l ∨ (∃ n, okP q ∧ (setD l q v).2 = putD l q v n ∧ (n = 1 ∨ ∃ x, fndD l q = some x ∧ n = x.2 + 1))) := by
    intro ho
    unfold setD
    cases h : fndD l q with
    | none => exact .inl rfl
    | some x => exact .inr ⟨x.2 + 1, ho, rfl, .inr ⟨x, rfl, rfl⟩⟩
  unfold appD
  cases hr : rgt op q v with
  | false => exact .inl rfl
  | true =>
    have hv : vld q = true := by have h := hr; simp only [rgt, Bool.and_eq_true] at h; exact h.1
    simp only [Bool.not_true, Bool.false_eq_true, if_false]
    split
    · unfold crD
      split
      · exact .inl rfl
      · rename_i h1
        split
        · refine .inr (.inl ⟨1, okP_ne hv (fun e => h1 (by rw [e]; simp [thrD])), rfl, .inl rfl⟩)
        · exact .inl rfl
    · split
      · unfold rmD
        split
        · split
          · exact .inl rfl
          · exact .inr (.inr rfl)
        · exact .inl rfl
      · split
        · rename_i h3
          have hne : q ≠ pth [] := by rintro rfl; subst h3; simp [rgt] at hr
          rcases hset (okP_ne hv hne) with h | h
          · exact .inl h
          · exact .inr (.inl h)
        · split
          · unfold gtD; split <;> exact .inl rfl
          · split
            · unfold lsD; split <;> exact .inl rfl
            · split
              · rename_i h6
                have hne : q ≠ pth [] := by rintro rfl; subst h6; simp [rgt] at hr
                unfold casD
                split
                · exact .inl rfl
                · rcases hset (okP_ne hv hne) with h | h
                  · exact .inl h
                  · exact .inr (.inl h)
              · exact .inl rfl
def verB (K : Nat) (l : List E3) : Prop := ∀ e ∈ l, 0 ≤ e.2.2 ∧ e.2.2 ≤ (K : Int)
theorem app_ver {l : List E3} {K : Nat} (hr : RisesD l) (hk : okKeys l) (hv : verB K l) (op : Int) (q v : ByteArray) (ver : Int) : verB (K + 1) (appD l op q v ver).2 := by
  have h0 : verB (K + 1) l := fun e he => by have := hv e he; exact ⟨this.1, by push_cast; omega⟩
  rcases app_way l op q v ver with h | ⟨n, ho, h, hn⟩ | h
  · rw [h]; exact h0
  · rw [h]
    intro e he
    rcases (mem_putD hk ho).1 he with rfl | ⟨h1, _⟩
    · rcases hn with rfl | ⟨x, hx, rfl⟩
      · exact ⟨by simp, by simp; omega⟩
      · have := hv _ ((fndD_some (v := x.1) (n := x.2) hr).1 hx)
        simp only at this ⊢
        exact ⟨by omega, by push_cast; omega⟩
    · exact h0 e h1
  · rw [h]
    exact fun e he => h0 e (mem_delD.1 he).1
theorem app_fnd {l : List E3} (hr : RisesD l) (hk : okKeys l) (op : Int) (q v : ByteArray) (ver : Int) {p : ByteArray} (hp : p ≠ q) : fndD (appD l op q v ver).2 p = fndD l p := by
  rcases app_way l op q v ver with h | ⟨n, ho, h, _⟩ | h
  · rw [h]
  · rw [h, fndD_put hr hk ho, if_neg hp]
  · rw [h, fndD_del hr, if_neg hp]
theorem gt_other {l l2 : List E3} {p : ByteArray} (h : fndD l2 p = fndD l p) (ver : Int) (v : ByteArray) : (appD l2 4 p v ver).1 = (appD l 4 p v ver).1 := by
  unfold appD
  cases rgt 4 p v with
  | false => rfl
  | true => simp [gtD, thrD, h]; split <;> rfl
theorem gt_names (l : List E3) (p v : ByteArray) (ver : Int) : (appD l 4 p v ver).1.names = [] ∧ (appD l 4 p v ver).2 = l := by
  unfold appD
  cases rgt 4 p v with
  | false => exact ⟨rfl, rfl⟩
  | true =>
    simp [gtD]
    split <;> exact ⟨rfl, rfl⟩
end Go.Proofs.Ytoojfbeikohikaa
