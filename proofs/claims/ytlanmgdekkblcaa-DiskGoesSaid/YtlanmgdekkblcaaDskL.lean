/-
  The walk of DiskLasts.
-/
import Derived.Test.YtlanmgdekkblcaaDskS
import Derived.Test.YtlanmgdekkblcaaStrO
namespace Go.Proofs.Ytlanmgdekkblcaa
open Go.RowKit
set_option linter.unusedSimpArgs false
set_option linter.unusedVariables false

theorem totL_mono (L : List (List Int)) : ∀ i j, i ≤ j → totL (L.take i) ≤ totL (L.take j) := by
  induction L with
  | nil => intro i j _; simp
  | cons X L ih =>
    intro i j h
    cases i with
    | zero => simp [totL]
    | succ i =>
      cases j with
      | zero => omega
      | succ j =>
        have := ih i j (by omega)
        simp only [List.take_succ_cons, totL, List.map_cons, List.sum_cons] at this ⊢
        omega
theorem totL_lt (L : List (List Int)) (i j : Nat) (h : i < j) (hj : j ≤ L.length) : totL (L.take i) < totL (L.take j) := by
  have h1 := totL_mono L (i + 1) j (by omega)
  have e : L.take (i + 1) = L.take i ++ [L[i]'(by omega)] := List.take_succ_eq_append_getElem (by omega)
  rw [e, totL_snoc] at h1
  omega
/-- Just so many are whole within c bytes. -/
theorem cutN_iff (L : List (List Int)) (c k : Nat) (hk : k ≤ L.length) : totL (L.take k) ≤ c ↔ k ≤ cutN L c := by
  constructor
  · intro h
    by_cases q : k ≤ cutN L c
    · exact q
    · exfalso
      have h1 := cutN_more L c (by omega)
      have h2 := totL_mono L (cutN L c + 1) k (by omega)
      have e : L.take (cutN L c + 1) = L.take (cutN L c) ++ [L[cutN L c]'(by omega)] := List.take_succ_eq_append_getElem (by omega)
      rw [e, totL_snoc] at h2
      have e2 : L.getD (cutN L c) [] = L[cutN L c]'(by omega) := by simp [List.getD, List.getElem?_eq_getElem (show cutN L c < L.length by omega)]
      rw [e2] at h1
      omega
  · intro h
    exact Nat.le_trans (totL_mono L k _ h) (cutN_tot L c)
/-- How much is to be kept, as the statement reckons it. -/
def lf (keep : Int) : Int := min (max keep 0) 1073741824
theorem lf_zero {keep : Int} (h : keep ≤ 0) : lf keep = 0 := by unfold lf; omega
theorem lf_self {keep : Int} (h : 0 ≤ keep) (h2 : keep ≤ 1073741824) : lf keep = keep := by unfold lf; omega
theorem lf_all {keep : Int} (h : 1073741824 ≤ keep) : lf keep = 1073741824 := by unfold lf; omega
theorem lf_bd (keep : Int) : 0 ≤ lf keep ∧ lf keep ≤ 1073741824 := by unfold lf; omega
theorem lf_iff (keep : Int) (L : List (List Int)) (k : Nat) (hk : k ≤ L.length) (hL : totL L ≤ 1000000) : 0 ≤ lf keep - (totL (L.take k) : Nat) ↔ k ≤ cutN L (kpN keep (totL L)) := by
  rw [← cutN_iff L _ k hk]
  have h1 := totL_mono L k L.length hk
  rw [List.take_length] at h1
  unfold lf kpN
  omega
theorem take_join (A B : List (List Int)) (c : Nat) : (joinN A ++ joinN B).take ((joinN A).length + c) = joinN A ++ (joinN B).take c := by
  rw [List.take_append, List.take_of_length_le (by omega)]
  simp
theorem all_two {A B : List (List Int)} (hA : GoodL A) (hB : GoodL B) (c : Nat) (hc : c ≤ totL B) : allN ((joinN A ++ joinN B).take ((joinN A).length + c)) = A ++ B.take (cutN B c) := by
  rw [take_join, allN_join A _ hA, allN_cut B hB c hc]
theorem cut_two (A B : List (List Int)) (c : Nat) : ((joinN A ++ joinN B).take ((joinN A).length + c)).take (totL (A ++ B.take (cutN B c))) = joinN (A ++ B.take (cutN B c)) := by
  have h1 := cutN_tot B c
  have e1 : totL (A ++ B.take (cutN B c)) = (joinN A).length + totL (B.take (cutN B c)) := by rw [joinN_len]; simp [totL]
  have e2 : joinN A ++ joinN B = joinN (A ++ B.take (cutN B c)) ++ joinN (B.drop (cutN B c)) := by
    rw [joinN_append, List.append_assoc, ← joinN_append (B.take _), List.take_append_drop]
  rw [List.take_take, Nat.min_eq_left (by omega), e2, ← joinN_len, List.take_left']
  rfl
/-- The statement's reckoning and the crash's come to the same. -/
theorem cut_same (keep : Int) (L : List (List Int)) (hL : totL L ≤ 1000000) : cutN L (lf keep).toNat = cutN L (kpN keep (totL L)) := by
  have hi : ∀ k, k ≤ L.length → (k ≤ cutN L (lf keep).toNat ↔ k ≤ cutN L (kpN keep (totL L))) := fun k hk => by
    rw [← cutN_iff L _ k hk, ← lf_iff keep L k hk hL]
    have := (lf_bd keep).1
    omega
  exact Nat.le_antisymm ((hi _ (cutN_le L _)).1 (Nat.le_refl _)) ((hi _ (cutN_le L _)).2 (Nat.le_refl _))
end Go.Proofs.Ytlanmgdekkblcaa
