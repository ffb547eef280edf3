/-
  Paths and their names, on plain lists of bytes.
-/
import Derived.Lib.Join
import Derived.Lib.IndexMore
import Derived.Lib.Strings
namespace Go.Proofs.Ytdhmalpeooobfaa
open Go
set_option linter.unusedSimpArgs false
set_option linter.unusedVariables false

def okc (c : UInt8) : Bool := (decide (97 ≤ c.toNat) && decide (c.toNat ≤ 122)) || (decide (48 ≤ c.toNat) && decide (c.toNat ≤ 57)) || decide (c.toNat = 45) || decide (c.toNat = 95)
def nmB (l : List UInt8) : Bool := l.all okc && decide (1 ≤ l.length) && decide (l.length ≤ 16)
/-- What is between the strokes. -/
def spl : List UInt8 → List (List UInt8)
  | [] => [[]]
  | c :: l => if c = 47 then [] :: spl l else (c :: (spl l).headD []) :: (spl l).tail
def jn (ns : List (List UInt8)) : List UInt8 := Lib.join ns [47]
/-- May these be a path's names? -/
def okN (ns : List (List UInt8)) : Bool := ns.all nmB && decide (ns.length ≤ 8)
def nmsO : List UInt8 → Option (List (List UInt8))
  | [] => none
  | c :: r => if c = 47 then (if r = [] then some [] else if okN (spl r) then some (spl r) else none) else none
theorem spl_ne (l : List UInt8) : spl l ≠ [] := by
  cases l with
  | nil => simp [spl]
  | cons c l => unfold spl; split <;> simp
theorem spl_no (x : List UInt8) (h : ∀ c ∈ x, c ≠ 47) : spl x = [x] := by
  induction x with
  | nil => rfl
  | cons c x ih =>
    have hc := h c (by simp)
    rw [spl, if_neg hc, ih (fun d hd => h d (by simp [hd]))]
    rfl
theorem spl_app (x r : List UInt8) (h : ∀ c ∈ x, c ≠ 47) : spl (x ++ 47 :: r) = x :: spl r := by
  induction x with
  | nil => simp [spl]
  | cons c x ih =>
    have hc := h c (by simp)
    rw [List.cons_append, spl, if_neg hc, ih (fun d hd => h d (by simp [hd]))]
    rfl
theorem okc_ne {c : UInt8} (h : okc c = true) : c ≠ 47 := by
  rintro rfl
  revert h
  decide
theorem nmB_ne {l : List UInt8} (h : nmB l = true) : (∀ c ∈ l, c ≠ 47) ∧ l ≠ [] := by
  unfold nmB at h
  simp only [Bool.and_eq_true, List.all_eq_true, decide_eq_true_eq] at h
  exact ⟨fun c hc => okc_ne (h.1.1 c hc), by rintro rfl; simp at h⟩
theorem jn_nil : jn [] = [] := rfl
theorem jn_one (x : List UInt8) : jn [x] = x := by simp [jn, Lib.join_one]
theorem jn_cons (x y : List UInt8) (r : List (List UInt8)) : jn (x :: y :: r) = x ++ 47 :: jn (y :: r) := by
  simp [jn, Lib.join_cons, Lib.joinTail]
theorem spl_jn (ns : List (List UInt8)) (h0 : ns ≠ []) (h : ∀ n ∈ ns, ∀ c ∈ n, c ≠ 47) : spl (jn ns) = ns := by
  induction ns with
  | nil => exact absurd rfl h0
  | cons x r ih =>
    cases r with
    | nil => rw [jn_one, spl_no x (h x (by simp))]
    | cons y r =>
      rw [jn_cons, spl_app x _ (h x (by simp)), ih (by simp) (fun n hn => h n (by simp [hn]))]
theorem jn_spl (l : List UInt8) : jn (spl l) = l := by
  induction l with
  | nil => rfl
  | cons c l ih =>
    obtain ⟨x, r, hx⟩ : ∃ x r, spl l = x :: r := by
      cases hs : spl l with
      | nil => exact absurd hs (spl_ne l)
      | cons x r => exact ⟨x, r, rfl⟩
    rw [hx] at ih
    rw [spl, hx]
    by_cases hc : c = 47
    · rw [if_pos hc, jn_cons, ih, hc]; rfl
    · rw [if_neg hc]
      cases r with
      | nil => rw [jn_one] at ih; simp only [List.headD_cons, List.tail_cons]; rw [jn_one, ih]
      | cons y r =>
        rw [jn_cons] at ih
        simp only [List.headD_cons, List.tail_cons]
        rw [jn_cons, List.cons_append, ih]
theorem okN_all {ns : List (List UInt8)} (h : okN ns = true) : ∀ n ∈ ns, nmB n = true := by
  unfold okN at h
  simp only [Bool.and_eq_true, List.all_eq_true, decide_eq_true_eq] at h
  exact h.1
theorem okN_len {ns : List (List UInt8)} (h : okN ns = true) : ns.length ≤ 8 := by
  unfold okN at h
  simp only [Bool.and_eq_true, decide_eq_true_eq] at h
  exact h.2
theorem okN_mk {ns : List (List UInt8)} (h : ∀ n ∈ ns, nmB n = true) (hl : ns.length ≤ 8) : okN ns = true := by
  unfold okN
  simp only [Bool.and_eq_true, List.all_eq_true, decide_eq_true_eq]
  exact ⟨h, hl⟩
/-- A path is its names. -/
theorem nmsO_path {ns : List (List UInt8)} (h : okN ns = true) : nmsO (47 :: jn ns) = some ns := by
  unfold nmsO
  simp only [if_true]
  cases ns with
  | nil => rfl
  | cons x r =>
    have hx := okN_all h x (by simp)
    have hne : jn (x :: r) ≠ [] := by
      cases r with
      | nil => rw [jn_one]; exact (nmB_ne hx).2
      | cons y r => rw [jn_cons]; simp
    rw [if_neg hne, spl_jn _ (by simp) (fun n hn => (nmB_ne (okN_all h n hn)).1), if_pos h]
theorem path_nmsO {p : List UInt8} {ns : List (List UInt8)} (h : nmsO p = some ns) : p = 47 :: jn ns ∧ okN ns = true := by
  unfold nmsO at h
  cases p with
  | nil => cases h
  | cons c r =>
    simp only at h
    split at h
    · rename_i hc
      subst hc
      split at h
      · rename_i hr
        cases h
        exact ⟨by rw [hr]; rfl, rfl⟩
      · split at h
        · rename_i ho
          cases h
          exact ⟨by rw [jn_spl], ho⟩
        · cases h
    · cases h
/-- Of what a cut at a stroke leaves. -/
theorem occ47 (l : List UInt8) : Lib.index l [47] = match l with | [] => -1 | c :: r => if c = 47 then 0 else if Lib.index r [47] == -1 then -1 else Lib.index r [47] + 1 := by
  cases l with
  | nil => rfl
  | cons c r =>
    rw [Lib.index]
    by_cases hc : c = 47
    · subst hc; simp [List.isPrefixOf]
    · have : (List.isPrefixOf [47] (c :: r)) = false := by simp [List.isPrefixOf, Ne.symm hc]
      rw [this]; simp [hc]
theorem cut_spl (l : List UInt8) : ((Lib.cut l [47]).2.2 = true ∧ spl l = (Lib.cut l [47]).1 :: spl (Lib.cut l [47]).2.1) ∨ ((Lib.cut l [47]).2.2 = false ∧ spl l = [(Lib.cut l [47]).1] ∧ (Lib.cut l [47]).2.1 = []) := by
  induction l with
  | nil => right; refine ⟨rfl, rfl, rfl⟩
  | cons c r ih =>
    have hx := occ47 (c :: r)
    simp only at hx
    have hge := Lib.index_ge r [47]
    by_cases hc : c = 47
    · subst hc
      rw [if_pos rfl] at hx
      left
      unfold Lib.cut
      rw [hx]
      simp [spl]
    · rw [if_neg hc] at hx
      by_cases hm : Lib.index r [47] = -1
      · rw [hm] at hx
        simp only [beq_self_eq_true, if_true] at hx
        right
        unfold Lib.cut at ih ⊢
        rw [hx]
        rw [hm] at ih
        simp at ih ⊢
        rw [spl, if_neg hc, ih]
        rfl
      · have hm' : (Lib.index r [47] == -1) = false := by simpa using hm
        rw [hm'] at hx
        simp only [Bool.false_eq_true, if_false] at hx
        left
        unfold Lib.cut at ih ⊢
        rw [hx]
        obtain ⟨k, hk⟩ : ∃ k : Nat, Lib.index r [47] = k := ⟨(Lib.index r [47]).toNat, by omega⟩
        rw [hk] at ih ⊢
        have e1 : ((k : Int) + 1).toNat = k + 1 := by omega
        have e2 : (0 : Int) ≤ (k : Int) + 1 := by omega
        have e3 : (0 : Int) ≤ (k : Int) := by omega
        simp only [if_pos e2, if_pos e3, e1, Int.toNat_natCast, List.length_singleton] at ih ⊢
        simp only [Bool.true_eq_false, false_and, or_false, true_and, Bool.false_eq_true] at ih
        refine ⟨trivial, ?_⟩
        rw [spl, if_neg hc, ih]
        simp only [List.headD_cons, List.tail_cons, List.take_succ_cons]
        rw [show k + 1 + 1 = (k + 1) + 1 from rfl, List.drop_succ_cons]
theorem okN_take {ns : List (List UInt8)} (h : okN ns = true) (k : Nat) : okN (ns.take k) = true := by
  refine okN_mk (fun n hn => okN_all h n (List.mem_of_mem_take hn)) ?_
  have := okN_len h
  simp; omega
end Go.Proofs.Ytdhmalpeooobfaa
