/-
  Frames one behind another, and what is cut off them.
-/
import Derived.Test.YtcieilbnlbielaaFrmJ
import Derived.Test.YtcieilbnlbielaaFrmF
namespace Go.Proofs.Ytcieilbnlbielaa
open Go.RowKit
set_option linter.unusedSimpArgs false
set_option linter.unusedVariables false

def GoodL (L : List (List Int)) : Prop := ∀ X ∈ L, X.length ≤ 500 ∧ ∀ x ∈ X, 0 ≤ x ∧ x ≤ 255
theorem dec4_frm (X r : List Int) (h : X.length ≤ 500) : dec4 (frm X ++ r) = X.length := by
  unfold frm
  rw [List.append_assoc, List.append_assoc]
  exact dec4_f4 _ _ (by omega)
theorem tk_front (X r : List Int) (h : X.length ≤ 500) : tkN (frm X ++ r) = (X, ((8 + X.length : Nat) : Int), 0) := by
  have hd := dec4_frm X r h
  have hl : (frm X ++ r).length = X.length + 8 + r.length := by rw [List.length_append, frm_length]
  have hdr : (frm X ++ r).drop 4 = f4 (sumN 0 X) ++ (X ++ r) := by simp [frm, f4]
  have hdr8 : ((frm X ++ r).take (8 + X.length)).drop 8 = X := by
    rw [List.take_append_of_le_length (by rw [frm_length]; omega), List.take_of_length_le (by rw [frm_length]; omega)]
    simp [frm, f4]
  unfold tkN tkG
  rw [hd, hdr, dec4_f4 _ _ (sumN_lt 0 X), hdr8]
  rw [if_neg (by omega), if_neg (by omega), if_neg (by omega), if_neg (by simp)]
theorem tk_part (X r : List Int) (c : Nat) (h : X.length ≤ 500) (hc : c < 8 + X.length) : (tkN ((frm X ++ r).take c)).2.2 ≠ 0 := by
  have hl : ((frm X ++ r).take c).length = c := by rw [List.length_take, List.length_append, frm_length]; omega
  unfold tkN tkG
  by_cases c8 : c < 8
  · rw [if_pos (by omega)]; simp
  have hd : dec4 ((frm X ++ r).take c) = X.length := by
    rw [← dec4_take, List.take_take, Nat.min_eq_left (by omega), dec4_take, dec4_frm X r h]
  rw [hd, if_neg (by omega), if_neg (by omega), if_pos (by omega)]
  simp
theorem allN_front (X r : List Int) (h : X.length ≤ 500) : allN (frm X ++ r) = X :: allN r := by
  rw [allN_step, tk_front X r h, if_pos rfl]
  congr 2
  exact List.drop_left' (by rw [frm_length]; show X.length + 8 = 8 + X.length; omega)
theorem joinN_cons (X : List Int) (L : List (List Int)) : joinN (X :: L) = frm X ++ joinN L := by simp [joinN]
theorem joinN_append (A B : List (List Int)) : joinN (A ++ B) = joinN A ++ joinN B := by simp [joinN]
theorem allN_join (L : List (List Int)) (r : List Int) (h : GoodL L) : allN (joinN L ++ r) = L ++ allN r := by
  induction L with
  | nil => rfl
  | cons X L ih =>
    rw [joinN_cons, List.append_assoc, allN_front _ _ (h X (by simp)).1, ih (fun Y q => h Y (by simp [q]))]
    rfl
theorem allN_nil : allN [] = [] := by rw [allN_step]; rfl
def cutN : List (List Int) → Nat → Nat
  | [], _ => 0
  | X :: r, c => if 8 + X.length ≤ c then cutN r (c - (8 + X.length)) + 1 else 0
theorem cutN_le (L : List (List Int)) : ∀ c, cutN L c ≤ L.length := by
  induction L with
  | nil => intro c; simp [cutN]
  | cons X L ih =>
    intro c
    unfold cutN
    split
    · have := ih (c - (8 + X.length)); simp; omega
    · simp
theorem cutN_tot (L : List (List Int)) : ∀ c, totL (L.take (cutN L c)) ≤ c := by
  induction L with
  | nil => intro c; simp [totL]
  | cons X L ih =>
    intro c
    unfold cutN
    split
    · have := ih (c - (8 + X.length))
      simp only [List.take_succ_cons, totL, List.map_cons, List.sum_cons] at this ⊢
      omega
    · simp [totL]
theorem cutN_more (L : List (List Int)) : ∀ c, cutN L c < L.length → c < totL (L.take (cutN L c)) + (8 + (L.getD (cutN L c) []).length) := by
  induction L with
  | nil => intro c h; simp at h
  | cons X L ih =>
    intro c h
    unfold cutN at h ⊢
    by_cases q : 8 + X.length ≤ c
    · rw [if_pos q] at h ⊢
      have := ih (c - (8 + X.length)) (by simpa using h)
      simp only [List.take_succ_cons, totL, List.map_cons, List.sum_cons, List.getD_cons_succ] at this ⊢
      omega
    · rw [if_neg q]
      simp [totL]
      omega
theorem allN_cut (L : List (List Int)) (h : GoodL L) : ∀ c, c ≤ totL L → allN ((joinN L).take c) = L.take (cutN L c) := by
  induction L with
  | nil => intro c _; simp [joinN, cutN, allN_nil]
  | cons X L ih =>
    intro c hc
    have hX := (h X (by simp)).1
    rw [joinN_cons]
    unfold cutN
    by_cases q : 8 + X.length ≤ c
    · rw [if_pos q, List.take_append, List.take_of_length_le (by rw [frm_length]; omega), frm_length, allN_front _ _ hX, Nat.add_comm X.length 8]
      rw [ih (fun Y q => h Y (by simp [q])) _ (by simp only [totL, List.map_cons, List.sum_cons] at hc ⊢; omega)]
      rfl
    · rw [if_neg q, allN_step, if_neg (tk_part X _ c hX (by omega))]
      rfl
theorem joinN_range (L : List (List Int)) (h : GoodL L) : ∀ x ∈ joinN L, 0 ≤ x ∧ x ≤ 255 := by
  induction L with
  | nil => intro x q; simp [joinN] at q
  | cons X L ih =>
    intro x q
    rw [joinN_cons] at q
    rcases List.mem_append.1 q with q | q
    · exact frm_range (h X (by simp)).2 (by have := (h X (by simp)).1; omega) x q
    · exact ih (fun Y q => h Y (by simp [q])) x q
end Go.Proofs.Ytcieilbnlbielaa
