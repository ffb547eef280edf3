/-
  The count of draws only grows: of a run of the model's operations.
-/
import Derived.Test.YtoojfbeikohikaaByt
namespace Go.Proofs.Ytoojfbeikohikaa
set_option linter.unusedSimpArgs false
set_option linter.unusedVariables false

theorem drawn_setCell (w : World) (a : Addr) (v : Value) : (w.setCell a v).drawn = w.drawn := by
  unfold World.setCell
  repeat' split
  all_goals rfl
theorem drawn_freeze (w : World) (a : Addr) (n : Nat) : (w.freeze a n).drawn = w.drawn := by
  unfold World.freeze
  repeat' split
  all_goals rfl
theorem drawn_ask {α : Type} : ∀ (a : Ask α) (w : World), w.drawn ≤ (w.ask a).2.drawn
  | .done a, w => Nat.le_refl _
  | .ask what range k, w => by
    unfold World.ask
    simp only
    split
    · exact drawn_ask (k 0) w
    · have := drawn_ask (k ((Question.extern what range).cut (w.tape w.drawn (Question.extern what range)))) { w with drawn := w.drawn + 1 }
      simp only at this
      omega
theorem drawn_sys (w : World) (c : Sys) : w.drawn ≤ (w.sys c).2.drawn := by
  have h := drawn_ask (Kernel.perform c w.os) w
  unfold World.sys
  split
  · exact Nat.le_refl _
  · rename_i heq
    rw [heq] at h
    exact h
theorem drawn_viewStore {p : Program} {w : World} {at_ : Addr} {u : TypeId} {k : Addr} {v : Value} {b : Bool} {w' : World} {l : List Addr} (h : w.viewStore p at_ u k v b = .ok (w', l)) : w'.drawn = w.drawn := by
  unfold World.viewStore at h
  simp only [bind, Except.bind, pure, Except.pure, throw, throwThe, MonadExceptOf.throw] at h
  repeat' split at h
  all_goals first
    | (cases h; done)
    | (cases h; rfl)
theorem drawn_farStore {p : Program} {w w' : World} {a : Addr} {v : Value} {b : Bool} {l : List Addr} (h : w.farStore p a v b = .ok (w', l)) : w'.drawn = w.drawn := by
  unfold World.farStore at h
  split at h
  · split at h
    · rename_i heq
      cases h
      exact drawn_viewStore heq
    · cases h
  · cases h
theorem drawn_run {α : Type} (p : Program) : ∀ (x : Sem α) (w : World) (v : α) (w' : World), x.run p w = .ok v w' → w.drawn ≤ w'.drawn
  | .pure a, w, v, w', h => by simp only [Sem.run, Result.ok.injEq] at h; rw [h.2]; exact Nat.le_refl _
  | .load m a k, w, v, w', h => by
    simp only [Sem.run] at h
    split at h
    · exact drawn_run p _ _ _ _ h
    · split at h
      · exact drawn_run p _ _ _ _ h
      · cases h
  | .store m a x k, w, v, w', h => by
    have hk := drawn_run p k
    have key : ∀ (h : (match w.cell? a with
        | some _ => if w.frozen? a then Result.halt (.unsupported (.unsafePointer "a write to bytes that a string shares")) w else k.run p (w.setCell a x)
        | none => match w.farStore p a x (m == Mode.atomic) with
          | .ok (w, _) => k.run p w
          | .error h => .halt h w) = .ok v w'), w.drawn ≤ w'.drawn := by
      intro h
      split at h
      · split at h
        · cases h
        · have := hk _ _ _ h
          rwa [drawn_setCell] at this
      · split at h
        · rename_i w2 l2 heq
          have := hk _ _ _ h
          rwa [drawn_farStore heq] at this
        · cases h
    cases x
    all_goals
      simp only [Sem.run] at h
      first
        | exact key h
        | exact absurd h (by simp)
  | .new o k, w, v, w', h => by
    simp only [Sem.run] at h
    have := drawn_run p _ _ _ _ h
    exact this
  | .shape r k, w, v, w', h => drawn_run p _ _ _ _ (by simpa only [Sem.run] using h)
  | .freeze a n k, w, v, w', h => by
    simp only [Sem.run] at h
    have := drawn_run p _ _ _ _ h
    rwa [drawn_freeze] at this
  | .frozen a k, w, v, w', h => drawn_run p _ _ _ _ (by simpa only [Sem.run] using h)
  | .getObj r k, w, v, w', h => by
    simp only [Sem.run] at h
    split at h
    · cases h
    · exact drawn_run p _ _ _ _ h
    · cases h
  | .setObj r o k, w, v, w', h => by
    simp only [Sem.run] at h
    split at h
    · cases h
    · have := drawn_run p _ _ _ _ h
      exact this
    · cases h
  | .choose q k, w, v, w', h => by
    simp only [Sem.run] at h
    split at h
    · exact drawn_run p _ _ _ _ h
    · have := drawn_run p _ _ _ _ h
      simp only at this
      omega
  | .sys c k, w, v, w', h => by
    simp only [Sem.run] at h
    have := drawn_run p _ _ _ _ h
    exact Nat.le_trans (drawn_sys w c) this
  | .program k, w, v, w', h => drawn_run p _ _ _ _ (by simpa only [Sem.run] using h)
  | .mark _ k, w, v, w', h => drawn_run p _ _ _ _ (by simpa only [Sem.run] using h)
  | .halt hh, w, v, w', h => by simp only [Sem.run] at h; cases h
end Go.Proofs.Ytoojfbeikohikaa
