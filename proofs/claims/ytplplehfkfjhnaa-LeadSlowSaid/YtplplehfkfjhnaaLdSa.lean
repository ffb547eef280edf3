/-
  Leads: a first lead that was heard alike by some: what it is.
-/
import Derived.Test.YtplplehfkfjhnaaLdQ
import Derived.Test.YtplplehfkfjhnaaLdR
import Derived.Test.YtplplehfkfjhnaaLdXm
import Derived.Test.YtplplehfkfjhnaaLdK
namespace Go.Proofs.Ytplplehfkfjhnaa
open Go.RowKit
open Bb (quoN thN allB)
set_option linter.unusedSimpArgs false
set_option linter.unusedVariables false
set_option maxRecDepth 100000

abbrev slC : CM := ⟨1, 0, 0, ⟨#[]⟩, ⟨#[]⟩, 0, 0, 0⟩
def slI (a : At) : Ist := ⟨1, (0, 0), (0, 0), cm0, a⟩
def slM (a : At) (i : Int) : Mg := ⟨1, i, 0, (0, 0, 1), (0, 0), slI a, sn0⟩
def slL (n : Nat) (a : At) (k : Nat) : LSt := ⟨0, nds n, 0, (0, 0, 1), (0, 0), (0, 0), true, 0, slC, a, nds k, List.replicate k (slI a)⟩
def slS (n : Nat) (a : At) (k : Nat) : LSt := if k = n then entL (slL n a n) 3 slC a else slL n a k
theorem nds_sub {k n : Nat} (h : k ≤ n) : ∀ x ∈ nds k, x ∈ nds n := fun x hx => by
  rw [nds_mem] at hx ⊢
  omega
theorem slM_V {w : World} {a : At} {ua : Option Addr} {M uc : Nat} (hM : a.2.length = M) (hr : IK.Rd w (.slice ua M uc) a.2) (ho : okL a.2) (i : Int) : MgV w (.agg (msE (slM a i) (.slice ua M uc) (.slice none 0 0) (.slice none 0 0) (.slice none 0 0)).toArray) (slM a i) := by
  subst hM
  exact ⟨ua, uc, none, 0, 0, none, 0, 0, none, 0, 0, rfl, hr, ho⟩
theorem slL_ok (n : Nat) (a : At) (k : Nat) (hn : n ≤ 7) (hk : k ≤ n) (ha : a.2.length ≤ 40) : LOk (slL n a k) :=
  ⟨by show (nds n).length ≤ 40; rw [nds_len]; omega, nds_nodup k, nds_sub hk, by show (List.replicate k (slI a)).length = (nds k).length; rw [nds_len]; simp, (fun x hx => by
    have h : x = slI a := (List.mem_replicate.1 hx).2
    subst h; show a.2.length ≤ 60; omega), by show a.2.length ≤ 3000; omega⟩
theorem slL_add (n : Nat) (a : At) (k : Nat) : addL (slL n a k) (slM a (k : Int)) = slL n a (k + 1) := by
  unfold addL slL slM
  simp only [nds_snoc]
  rw [List.replicate_succ']
theorem slL_ats (n : Nat) (a : At) (k : Nat) : atsL (slL n a k) = List.replicate k a := by
  unfold atsL slL
  simp [slI]
theorem slL_alk (n : Nat) (a : At) (k : Nat) : alkL (slL n a k) = true := by
  unfold alkL
  rw [slL_ats]
  have h : (List.replicate k a).any (othB (slL n a k).at') = false := by
    rw [List.any_eq_false]
    intro x hx
    have h : x = a := (List.mem_replicate.1 hx).2
    subst h
    show ¬ (!sameA x x) = true
    rw [sameA_self]; simp
  rw [h]; rfl
theorem slL_th (n : Nat) (a : At) (k : Nat) (hk : k ≤ n) : thN (nds k) (nds n) = (k : Int) := by rw [thN_len _ _ (nds_nodup k) (nds_sub hk) (nds_nodup n), nds_len]
theorem slL_prop (n : Nat) (a : At) (k : Nat) (hk : k < n) : propL (slL n a (k + 1)) = slS n a (k + 1) := by
  have hall : allB (slL n a (k + 1)).who (slL n a (k + 1)).ns = decide (k + 1 = n) := by
    show allB (nds (k + 1)) (nds n) = _
    unfold allB
    rw [slL_th n a (k + 1) (by omega), nds_len]
    by_cases h : k + 1 = n
    · rw [decide_eq_true h]; simp; omega
    · rw [decide_eq_false h]; simp; omega
  unfold propL slS
  rw [slL_alk, hall]
  have hf : (slL n a (k + 1)).first = true := rfl
  rw [hf]
  simp only [Bool.and_self, if_true]
  by_cases h : k + 1 = n
  · rw [if_pos (decide_eq_true h), if_pos h]; subst h; rfl
  · rw [if_neg (by simp [h]), if_neg h]
theorem inB_nds (n : Nat) (i : Int) : inB i (nds n) = decide (0 ≤ i ∧ i < n) := by
  by_cases h : 0 ≤ i ∧ i < n
  · rw [decide_eq_true h]; have := (nds_mem n i).2 h; simpa [inB] using this
  · rw [decide_eq_false h]
    have : i ∉ nds n := fun q => h ((nds_mem n i).1 q)
    simpa [inB] using this
theorem slL_pass (n : Nat) (a : At) (k : Nat) (hk : k < n) : passL (slL n a k) (slM a (k : Int)) = true := by
  unfold passL
  show (!false && (decide ((0, 0, 1) = ((0, 0, 1) : I3)) && inB (k : Int) (nds n))) = true
  rw [inB_nds, decide_eq_true (show 0 ≤ (k : Int) ∧ (k : Int) < n from ⟨by omega, by omega⟩)]; simp
theorem slL_fit (n : Nat) (a : At) (k : Nat) : fitL (slL n a k) (slM a (k : Int)) 0 = true := by
  unfold fitL
  show ((0 : Int) == 0 && decide ((0, 0) = ((0, 0) : Bal)) && !inB (k : Int) (nds k)) = true
  rw [inB_nds, decide_eq_false (show ¬ (0 ≤ (k : Int) ∧ (k : Int) < k) from by omega)]; simp
theorem slL_eno (n : Nat) (a : At) (k : Nat) (hn : 1 ≤ n) (hk : k ≤ n) : enoL (slL n a k) = decide (n < 2 * k) := by
  unfold enoL
  show decide (quoN ((nds n).length : Int) ≤ thN (nds k) (nds n)) = _
  rw [nds_len, slL_th n a k hk]
  unfold quoN
  rw [if_neg (by omega)]
  by_cases q : n < 2 * k
  · rw [decide_eq_true q, decide_eq_true (by omega)]
  · rw [decide_eq_false q, decide_eq_false (by omega)]
theorem slL_wait (n : Nat) (a : At) (k : Nat) (hk : k ≤ n) : (wtL (slL n a k)).length = n - k := by
  have h : ((wtL (slL n a k)).length : Int) = ((nds n).length : Int) - thN (nds k) (nds n) := rest_len (nds k) (nds n)
  rw [nds_len, slL_th n a k hk] at h
  omega
def SlHP (n : Nat) (a : At) (k B g : Nat) (w : World) (e : Ending) (w' : World) : Prop := (∃ b : Bool, Hid (e = .returned (.bool b))) ∧ LdAt w' B g (slS n a k) ∧ Below B w w' ∧ Kt w w'
theorem sl_hear {W0 w : World} {B g n k : Nat} {a : At} {v : Value} (h : LdAt w B g (slL n a k)) (hn : n ≤ 7) (hk : k < n) (ha : a.2.length ≤ 40) (hm : MgV W0 v (slM a (k : Int))) (hW0 : W0.heap.size ≤ B) (hbw : Below W0.heap.size W0 w) :
    Calls Try.prog 13 #[gP g, v] w (SlHP n a (k + 1) B g w) := by
  refine (hear_preY h (slL_ok n a k hn (by omega) ha) hm hW0 hbw (by show a.2.length ≤ 60; omega) (slL_pass n a k hk) rfl (slL_fit n a k)).mono ?_
  rintro e w' ⟨he, hl, hb, hk2⟩
  rw [slL_add, slL_prop n a k hk] at hl
  exact ⟨⟨_, he⟩, hl, hb, hk2⟩
/-- It accepts: what it heard, together. -/
def acL (n : Nat) (A : At) (h : Nat) : LSt := ⟨0, nds n, 0, (0, 0, 1), (0, 0), (0, 0), true, 1, slC, A, nds h, List.replicate h in00⟩
def acS (n : Nat) (A : At) (h : Nat) : LSt := if n < 2 * h then entL (acL n A h) 3 slC A else acL n A h
def acM (i : Int) : Mg := ⟨3, i, 0, (0, 0, 1), (0, 0), in00, sn0⟩
theorem acM_V (w : World) (i : Int) : MgV w (.agg (msE (acM i) (.slice none 0 0) (.slice none 0 0) (.slice none 0 0) (.slice none 0 0)).toArray) (acM i) := ⟨none, 0, none, 0, 0, none, 0, 0, none, 0, 0, rfl, Knd.Rd.nil w, by intro x hx; cases hx⟩
theorem acL_ok (n : Nat) (A : At) (k : Nat) (hn : n ≤ 7) (hk : k ≤ n) (ha : A.2.length ≤ 3000) : LOk (acL n A k) :=
  ⟨by show (nds n).length ≤ 40; rw [nds_len]; omega, nds_nodup k, nds_sub hk, by show (List.replicate k in00).length = (nds k).length; rw [nds_len]; simp, (fun x hx => by
    have h : x = in00 := (List.mem_replicate.1 hx).2
    subst h; decide), ha⟩
theorem acL_add (n : Nat) (A : At) (k : Nat) : addL (acL n A k) (acM (k : Int)) = acL n A (k + 1) := by
  unfold addL acL acM
  simp only [nds_snoc]
  rw [List.replicate_succ']
theorem acL_eno (n : Nat) (A : At) (k : Nat) (hn : 1 ≤ n) (hk : k ≤ n) : enoL (acL n A k) = decide (n < 2 * k) := slL_eno n A k hn hk
theorem acL_pass (n : Nat) (A : At) (k : Nat) (hk : k < n) : passL (acL n A k) (acM (k : Int)) = true := by
  unfold passL
  show (!false && (decide ((0, 0, 1) = ((0, 0, 1) : I3)) && inB (k : Int) (nds n))) = true
  rw [inB_nds, decide_eq_true (show 0 ≤ (k : Int) ∧ (k : Int) < n from ⟨by omega, by omega⟩)]; simp
theorem acL_fit (n : Nat) (A : At) (k : Nat) : fitL (acL n A k) (acM (k : Int)) 1 = true := by
  unfold fitL
  show ((1 : Int) == 1 && decide ((0, 0) = ((0, 0) : Bal)) && !inB (k : Int) (nds k)) = true
  rw [inB_nds, decide_eq_false (show ¬ (0 ≤ (k : Int) ∧ (k : Int) < k) from by omega)]; simp
def AcHP (n : Nat) (A : At) (k B g : Nat) (w : World) (e : Ending) (w' : World) : Prop := (∃ b : Bool, Hid (e = .returned (.bool b))) ∧ LdAt w' B g (acS n A k) ∧ Below B w w' ∧ Kt w w'
theorem ac_hear {w : World} {B g n k : Nat} {A : At} {f : Int} (hf : f = (k : Int)) (h : LdAt w B g (acL n A k)) (hn1 : 1 ≤ n) (hn : n ≤ 7) (hk : k < n) (hA : A.2.length ≤ 3000) :
    Calls Try.prog 13 #[gP g, .agg (msE (acM f) (.slice none 0 0) (.slice none 0 0) (.slice none 0 0) (.slice none 0 0)).toArray] w (AcHP n A (k + 1) B g w) := by
  subst hf
  have hW : Below ({ w with heap := #[] } : World).heap.size { w with heap := #[] } w := ⟨rfl, rfl, rfl, Nat.zero_le _, fun k hk => by cases hk⟩
  have he0 := acL_eno n A (k + 1) hn1 (by omega)
  rw [← acL_add] at he0
  by_cases q : n < 2 * (k + 1)
  · rw [decide_eq_true q] at he0
    refine (hear_accY h (acL_ok n A k hn (by omega) hA) (acM_V _ _) (Nat.zero_le _) hW (by show (0 : Nat) ≤ 60; omega) (acL_pass n A k hk) rfl (acL_fit n A k) he0).mono ?_
    rintro e w' ⟨he, hl, hb, hk2⟩
    refine ⟨⟨_, he⟩, ?_, hb, hk2⟩
    unfold acS
    rw [if_pos q, ← acL_add]; exact hl
  · rw [decide_eq_false q] at he0
    refine (hear_accQ h (acL_ok n A k hn (by omega) hA) (acM_V _ _) (Nat.zero_le _) hW (by show (0 : Nat) ≤ 60; omega) (acL_pass n A k hk) rfl (acL_fit n A k) he0).mono ?_
    rintro e w' ⟨he, hl, hb, hk2⟩
    refine ⟨⟨_, he⟩, ?_, hb, hk2⟩
    unfold acS
    rw [if_neg q, ← acL_add]; exact hl
theorem slA_sq (a : At) : ∀ k : Nat, sqA (List.replicate (k + 1) a) = a.1
  | 0 => rfl
  | k + 1 => by
    rw [List.replicate_succ', sqA_snoc, slA_sq a k]
    simp
theorem slA_mem (a : At) (k : Nat) (x : I3) : x ∈ dpA (List.replicate (k + 1) a) ↔ x ∈ a.2 := by
  unfold dpA
  rw [List.mem_flatMap]
  constructor
  · rintro ⟨b, hb, hx⟩
    have : b = a := (List.mem_replicate.1 hb).2
    subst this; exact hx
  · intro hx
    exact ⟨a, List.mem_replicate.2 ⟨by omega, rfl⟩, hx⟩
theorem slA_sq1 (a : At) (k : Nat) (h : 1 ≤ k) : sqA (List.replicate k a) = a.1 := by
  obtain ⟨j, rfl⟩ : ∃ j, k = j + 1 := ⟨k - 1, by omega⟩
  exact slA_sq a j
theorem slA_cln (a : At) (k : Nat) : clnI (allA (List.replicate (k + 1) a)).2 = clnI a.2 := clnI_congr fun x => by
  show x ∈ clnI (dpA (List.replicate (k + 1) a)) ↔ _
  rw [mem_clnI]; exact slA_mem a k x
theorem slA_cln1 (a : At) (k : Nat) (h : 1 ≤ k) : clnI (allA (List.replicate k a)).2 = clnI a.2 := by
  obtain ⟨j, rfl⟩ : ∃ j, k = j + 1 := ⟨k - 1, by omega⟩
  exact slA_cln a j
end Go.Proofs.Ytplplehfkfjhnaa
