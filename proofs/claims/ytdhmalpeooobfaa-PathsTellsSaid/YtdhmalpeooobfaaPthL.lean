/-
  Paths: their order, and what the calls answer, on plain lists.
-/
import Derived.Test.YtdhmalpeooobfaaPthM
import Derived.Sort.Walk0
namespace Go.Proofs.Ytdhmalpeooobfaa
open Go
set_option linter.unusedSimpArgs false
set_option linter.unusedVariables false

theorem bl_irr (a : List UInt8) : Op.bytesLess a a = false := by
  induction a with
  | nil => rfl
  | cons c a ih => simp [Op.bytesLess, ih]
theorem bl_trans (a b c : List UInt8) (h1 : Op.bytesLess a b = true) (h2 : Op.bytesLess b c = true) : Op.bytesLess a c = true := by
  induction a generalizing b c with
  | nil =>
    cases b with
    | nil => cases h1
    | cons y b => cases c with
      | nil => cases h2
      | cons z c => rfl
  | cons x a ih =>
    cases b with
    | nil => cases h1
    | cons y b =>
      cases c with
      | nil => cases h2
      | cons z c =>
        simp only [Op.bytesLess, Bool.or_eq_true, Bool.and_eq_true, decide_eq_true_eq, beq_iff_eq] at h1 h2 ⊢
        rcases h1 with q | ⟨rfl, q⟩ <;> rcases h2 with r | ⟨rfl, r⟩
        · exact .inl (UInt8.lt_trans q r)
        · exact .inl q
        · exact .inl r
        · exact .inr ⟨rfl, ih _ _ q r⟩
theorem bl_tot (a b : List UInt8) (h : a ≠ b) : Op.bytesLess a b = !Op.bytesLess b a := by
  induction a generalizing b with
  | nil =>
    cases b with
    | nil => exact absurd rfl h
    | cons y b => rfl
  | cons x a ih =>
    cases b with
    | nil => rfl
    | cons y b =>
      simp only [Op.bytesLess]
      by_cases e : x = y
      · subst e
        have : a ≠ b := fun q => h (by rw [q])
        rw [ih b this]
        simp
      · have e2 : (x == y) = false := by simpa using e
        have e3 : (y == x) = false := by simpa using Ne.symm e
        rw [e2, e3]
        simp only [Bool.false_and, Bool.or_false]
        have : x < y ∨ y < x := by
          have : x.toNat ≠ y.toNat := fun q => e (UInt8.toNat_inj.1 q)
          rcases Nat.lt_or_gt_of_ne this with q | q
          · exact .inl (UInt8.lt_iff_toNat_lt.2 q)
          · exact .inr (UInt8.lt_iff_toNat_lt.2 q)
        rcases this with q | q
        · have : ¬ y < x := fun r => UInt8.lt_irrefl _ (UInt8.lt_trans q r)
          simp [q, this]
        · have : ¬ x < y := fun r => UInt8.lt_irrefl _ (UInt8.lt_trans q r)
          simp [q, this]
/-- The first name that differs. -/
def ltN : List (List UInt8) → List (List UInt8) → Bool
  | _, [] => false
  | [], _ :: _ => true
  | x :: a, y :: b => if x = y then ltN a b else Op.bytesLess x y
theorem ltN_irr (a : List (List UInt8)) : ltN a a = false := by
  induction a with
  | nil => rfl
  | cons x a ih => rw [ltN, if_pos rfl, ih]
theorem ltN_trans (a b c : List (List UInt8)) (h1 : ltN a b = true) (h2 : ltN b c = true) : ltN a c = true := by
  induction a generalizing b c with
  | nil =>
    cases b with
    | nil => cases h1
    | cons y b => cases c with
      | nil => cases h2
      | cons z c => rfl
  | cons x a ih =>
    cases b with
    | nil => cases h1
    | cons y b =>
      cases c with
      | nil => cases h2
      | cons z c =>
        rw [ltN] at h1 h2 ⊢
        by_cases e1 : x = y
        · subst e1
          rw [if_pos rfl] at h1
          by_cases e2 : x = z
          · rw [if_pos e2] at h2 ⊢; exact ih _ _ h1 h2
          · rw [if_neg e2] at h2 ⊢; exact h2
        · rw [if_neg e1] at h1
          by_cases e2 : y = z
          · subst e2; rw [if_neg e1]; exact h1
          · rw [if_neg e2] at h2
            have h3 := bl_trans _ _ _ h1 h2
            have : x ≠ z := by rintro rfl; rw [bl_irr] at h3; cases h3
            rw [if_neg this]; exact h3
theorem ltN_tot (a b : List (List UInt8)) (h : a ≠ b) : ltN a b = !ltN b a := by
  induction a generalizing b with
  | nil =>
    cases b with
    | nil => exact absurd rfl h
    | cons y b => rfl
  | cons x a ih =>
    cases b with
    | nil => rfl
    | cons y b =>
      rw [ltN, ltN]
      by_cases e : x = y
      · subst e
        rw [if_pos rfl, if_pos rfl]
        exact ih b (fun q => h (by rw [q]))
      · rw [if_neg e, if_neg (Ne.symm e)]
        exact bl_tot x y e
theorem ltN_pre (a b : List (List UInt8)) (h1 : a.length < b.length) (h2 : b.take a.length = a) : ltN a b = true := by
  induction a generalizing b with
  | nil =>
    cases b with
    | nil => simp at h1
    | cons y b => rfl
  | cons x a ih =>
    cases b with
    | nil => simp at h1
    | cons y b =>
      simp only [List.length_cons, List.take_succ_cons, List.cons.injEq] at h1 h2
      rw [ltN, if_pos h2.1.symm]
      exact ih b (by omega) h2.2
def cmpN (a b : List (List UInt8)) : Int := if a = b then 0 else if ltN a b then -1 else 1
theorem cmpN_lt (a b : List (List UInt8)) : cmpN a b < 0 ↔ ltN a b = true := by
  unfold cmpN
  by_cases e : a = b
  · subst e; simp [ltN_irr]
  · rw [if_neg e]; split <;> simp_all
theorem cmpN_cons (x : List UInt8) (a b : List (List UInt8)) : cmpN (x :: a) (x :: b) = cmpN a b := by
  unfold cmpN
  rw [ltN, if_pos rfl]
  simp
def ofL (l : List UInt8) : ByteArray := ⟨l.toArray⟩
theorem ofL_data (l : List UInt8) : (ofL l).data.toList = l := by simp [ofL]
theorem ofL_of (s : ByteArray) : ofL s.data.toList = s := by cases s; simp [ofL]
theorem ofL_inj {a b : List UInt8} (h : ofL a = ofL b) : a = b := by rw [← ofL_data a, h, ofL_data]
theorem data_inj {s t : ByteArray} (h : s.data.toList = t.data.toList) : s = t := by rw [← ofL_of s, h, ofL_of]
theorem ofL_size (l : List UInt8) : (ofL l).size = l.length := by simp [ofL, ByteArray.size]
/-- The names of a text: none, where it is no path. -/
def nmL (p : ByteArray) : List (List UInt8) := (nmsO p.data.toList).getD []
def vld (p : ByteArray) : Bool := (nmsO p.data.toList).isSome
def pth (ns : List (List UInt8)) : ByteArray := ofL (47 :: jn ns)
def par (p : ByteArray) : ByteArray := if (nmL p).length = 0 then ByteArray.empty else pth (nmL p).dropLast
def lst (p : ByteArray) : ByteArray := if (nmL p).length = 0 then ByteArray.empty else ofL ((nmL p).getLastD [])
def dpt (p : ByteArray) : Int := if vld p then ((nmL p).length : Int) else -1
def blw (p q : ByteArray) : Bool := vld p && vld q && decide ((nmL p).length < (nmL q).length) && decide ((nmL q).take (nmL p).length = nmL p)
def lsr (p q : ByteArray) : Bool := vld p && vld q && ltN (nmL p) (nmL q)
theorem nm_ok (p : ByteArray) : okN (nmL p) = true := by
  unfold nmL
  cases h : nmsO p.data.toList with
  | none => rfl
  | some ns => exact (path_nmsO h).2
theorem vld_pth {p : ByteArray} (h : vld p = true) : p = pth (nmL p) := by
  unfold vld at h
  unfold nmL
  cases hn : nmsO p.data.toList with
  | none => rw [hn] at h; cases h
  | some ns =>
    have := (path_nmsO hn).1
    unfold pth
    rw [Option.getD_some, ← this, ofL_of]
theorem pth_vld {ns : List (List UInt8)} (h : okN ns = true) : vld (pth ns) = true ∧ nmL (pth ns) = ns := by
  unfold vld nmL pth
  rw [ofL_data, nmsO_path h]
  exact ⟨rfl, rfl⟩
theorem nm_inj {p q : ByteArray} (hp : vld p = true) (hq : vld q = true) (h : nmL p = nmL q) : p = q := by rw [vld_pth hp, vld_pth hq, h]
theorem nm_novld {p : ByteArray} (h : vld p = false) : nmL p = [] := by
  unfold vld at h
  unfold nmL
  cases hn : nmsO p.data.toList with
  | none => rfl
  | some ns => rw [hn] at h; cases h
theorem root_iff {p : ByteArray} (h : vld p = true) : p = pth [] ↔ nmL p = [] := by
  constructor
  · intro e; rw [e]; exact (pth_vld rfl).2
  · intro e; exact (vld_pth h).trans (by rw [e])
theorem okN_dropLast {ns : List (List UInt8)} (h : okN ns = true) : okN ns.dropLast = true := by rw [List.dropLast_eq_take]; exact okN_take h _
end Go.Proofs.Ytdhmalpeooobfaa
