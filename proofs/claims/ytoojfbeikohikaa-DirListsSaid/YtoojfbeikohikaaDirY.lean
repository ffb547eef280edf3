/-
  What a write does; no program.
-/
import Derived.Test.YtoojfbeikohikaaDirX
namespace Go.Proofs.Ytoojfbeikohikaa
set_option linter.unusedSimpArgs false
set_option linter.unusedVariables false

theorem gt_some {l : List E3} {p : ByteArray} {x : ByteArray × Int} (h : fndD l p = some x) : gtD l p = (⟨0, x.1, x.2, []⟩, l) := by
  simp [gtD, thrD, h]
theorem gt_none {l : List E3} {p : ByteArray} (hr : p ≠ pth []) (h : fndD l p = none) : gtD l p = (bad 2, l) := by
  simp [gtD, thrD, h, hr]
theorem set_writes {l : List E3} (h : RightD l) {p v : ByteArray} (ho : okP p) (he : (setD l p v).1.err = 0) :
    (gtD (setD l p v).2 p).1.val = v ∧ (gtD (setD l p v).2 p).1.ver = (gtD l p).1.ver + 1 ∧ (setD l p v).1.ver = (gtD (setD l p v).2 p).1.ver ∧ (setD l p v).2.length = l.length := by
  unfold setD at *
  cases hf : fndD l p with
  | none => rw [hf] at he; simp [bad] at he
  | some x =>
    have h1 : fndD (putD l p v (x.2 + 1)) p = some (v, x.2 + 1) := by rw [fndD_put h.rise h.keys ho, if_pos rfl]
    have h2 := len_putD h.rise h.keys ho v (x.2 + 1)
    rw [hf] at h2
    simp only [gt_some h1, gt_some hf]
    exact ⟨trivial, trivial, trivial, by simpa using h2⟩
/-- What a write that goes through leaves. -/
theorem writes_law {l : List E3} (h : RightD l) (op : Int) (p v : ByteArray) (ver : Int) (u1 u2 : ByteArray) (z1 z2 : Int) (he : (appD l op p v ver).1.err = 0) (h4 : op ≠ 4) (h5 : op ≠ 5) :
    (if op = 1 then ((appD l 4 p u1 z1).1.err = 2 ∧ (appD (appD l op p v ver).2 4 p u2 z2).1.val = v ∧ (appD (appD l op p v ver).2 4 p u2 z2).1.ver = 1 ∧ (appD l op p v ver).2.length = l.length + 1)
     else if op = 2 then ((appD l 4 p u1 z1).1.err = 0 ∧ (appD (appD l op p v ver).2 4 p u2 z2).1.err = 2 ∧ (appD l op p v ver).2.length + 1 = l.length)
     else ((appD (appD l op p v ver).2 4 p u2 z2).1.val = v ∧ (appD (appD l op p v ver).2 4 p u2 z2).1.ver = (appD l 4 p u1 z1).1.ver + 1 ∧ (appD l op p v ver).1.ver = (appD (appD l op p v ver).2 4 p u2 z2).1.ver ∧ (appD l op p v ver).2.length = l.length)) := by
  cases hr : rgt op p v with
  | false => simp [appD, hr, bad] at he
  | true =>
    have hv : vld p = true := by have h := hr; simp only [rgt, Bool.and_eq_true] at h; exact h.1
    rw [app4 hv, app4 hv]
    by_cases h1 : op = 1
    · subst h1
      have e : appD l 1 p v ver = crD l p v := by simp [appD, hr]
      rw [e] at he ⊢
      rw [if_pos rfl]
      unfold crD at *
      cases ht : thrD l p with
      | true => rw [ht] at he; simp [bad] at he
      | false =>
        have hne : p ≠ pth [] := fun e => by rw [e] at ht; simp [thrD] at ht
        have ho := okP_ne hv hne
        have hf : fndD l p = none := by rw [thrD_no hne] at ht; simpa using ht
        cases hu : thrD l (par p) with
        | false => rw [ht, hu] at he; simp [bad] at he
        | true =>
          have h2 : fndD (putD l p v 1) p = some (v, 1) := by rw [fndD_put h.rise h.keys ho, if_pos rfl]
          have h3 := len_putD h.rise h.keys ho v 1
          rw [hf] at h3
          simp only [Bool.false_eq_true, if_false, if_true, gt_none hne hf, gt_some h2]
          exact ⟨rfl, trivial, trivial, by simpa using h3⟩
    · rw [if_neg h1]
      by_cases h2 : op = 2
      · subst h2
        have e : appD l 2 p v ver = rmD l p := by simp [appD, hr]
        rw [e] at he ⊢
        rw [if_pos rfl]
        have hne : p ≠ pth [] := by rintro rfl; simp [rgt] at hr
        unfold rmD at *
        cases ht : thrD l p with
        | false => rw [ht] at he; simp [bad] at he
        | true =>
          rw [ht] at he
          have hf : (fndD l p).isSome = true := by rw [← thrD_no hne]; exact ht
          obtain ⟨x, hx⟩ := Option.isSome_iff_exists.1 hf
          by_cases hk : 0 < (kidD l p).length
          · simp [hk, bad] at he
          · have h3 : fndD (delD l p) p = none := by rw [fndD_del h.rise, if_pos rfl]
            have h4 := len_delD h.rise p
            rw [hf] at h4
            simp only [if_true, hk, if_false, gt_some hx, gt_none hne h3]
            exact ⟨trivial, rfl, by simpa using h4⟩
      · rw [if_neg h2]
        by_cases h3 : op = 3
        · subst h3
          have hne : p ≠ pth [] := by rintro rfl; simp [rgt] at hr
          have e : appD l 3 p v ver = setD l p v := by simp [appD, hr]
          rw [e] at he ⊢
          exact set_writes h (okP_ne hv hne) he
        · by_cases h6 : op = 6
          · subst h6
            have hne : p ≠ pth [] := by rintro rfl; simp [rgt] at hr
            have e : appD l 6 p v ver = casD l p v ver := by simp [appD, hr]
            rw [e] at he ⊢
            unfold casD at *
            split
            · rename_i h7
              rw [if_pos h7] at he
              simp at he
            · rename_i h7
              rw [if_neg h7] at he
              exact set_writes h (okP_ne hv hne) he
          · simp [appD, hr, h1, h2, h3, h4, h5, h6, bad] at he
end Go.Proofs.Ytoojfbeikohikaa
