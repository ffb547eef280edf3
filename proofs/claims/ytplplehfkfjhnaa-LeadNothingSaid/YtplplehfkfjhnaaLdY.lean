/-
  Leads: a lead that takes over, of whom nobody knows anything: what it is.
-/
import Derived.Test.YtplplehfkfjhnaaLdU
import Derived.Test.YtplplehfkfjhnaaLdO
namespace Go.Proofs.Ytplplehfkfjhnaa
open Go.RowKit
open Bb (quoN thN allB)
set_option linter.unusedSimpArgs false
set_option linter.unusedVariables false
set_option maxRecDepth 100000

theorem thN_len (who ns : List Int) (hw : who.Nodup) (hs : ∀ x ∈ who, x ∈ ns) (hn : ns.Nodup) : thN who ns = (who.length : Int) := by
  unfold thN
  have h1 : (ns.filter fun x => inB x who).length ≤ who.length := nodup_len _ _ (hn.filter _) (fun x hx => by
    have := (List.mem_filter.1 hx).2
    simpa [inB] using this)
  have h2 : who.length ≤ (ns.filter fun x => inB x who).length := nodup_len _ _ hw (fun x hx => List.mem_filter.2 ⟨hs x hx, by simpa [inB] using hx⟩)
  omega
theorem rest_len (who : List Int) : ∀ ns : List Int, ((ns.filter fun n => !inB n who).length : Int) = ns.length - thN who ns
  | [] => rfl
  | a :: l => by
    have h := rest_len who l
    unfold thN at h ⊢
    by_cases q : inB a who = true
    · simp only [List.filter_cons, q, Bool.not_true, if_true, List.length_cons] at h ⊢
      simp only [Bool.false_eq_true, if_false]
      omega
    · have q2 : inB a who = false := by simpa using q
      simp only [List.filter_cons, q2, Bool.not_false, if_true, List.length_cons] at h ⊢
      simp only [Bool.false_eq_true, if_false]
      omega
/-- The nodes 0 .. n-1. -/
def nds (n : Nat) : List Int := (List.range n).map fun (i : Nat) => (i : Int)
theorem nds_len (n : Nat) : (nds n).length = n := by simp [nds]
theorem nds_mem (n : Nat) (x : Int) : x ∈ nds n ↔ 0 ≤ x ∧ x < n := by
  unfold nds
  rw [List.mem_map]
  constructor
  · rintro ⟨a, h1, rfl⟩
    have := List.mem_range.1 h1
    omega
  · rintro ⟨h1, h2⟩
    exact ⟨x.toNat, List.mem_range.2 (by omega), by omega⟩
theorem nds_snoc (n : Nat) : nds (n + 1) = nds n ++ [(n : Int)] := by simp [nds, List.range_succ]
theorem nds_nodup (n : Nat) : (nds n).Nodup := by
  induction n with
  | zero => exact List.nodup_nil
  | succ k ih =>
    rw [nds_snoc]
    exact List.nodup_append.2 ⟨ih, by simp, fun a ha b hb => by
      have := (nds_mem k a).1 ha
      simp at hb
      omega⟩
/-- A lead that took over, and heard these, who know nothing. -/
def pyL (n : Nat) (id : I3) (b : Bal) (ws : List Int) : LSt := ⟨0, nds n, 0, id, b, (0, 0), false, 2, ⟨0, 0, 0, ⟨#[]⟩, ⟨#[]⟩, 0, 0, 0⟩, (0, []), ws, List.replicate ws.length in00⟩
def pyM (id : I3) (b : Bal) (f : Int) : Mg := ⟨6, f, 0, id, b, in00, sn0⟩
def pyS (n : Nat) (id : I3) (b : Bal) (ws : List Int) : LSt := if n < 2 * ws.length then entL (pyL n id b ws) 1 cm0 (0, []) else pyL n id b ws
theorem pyL_add (n : Nat) (id : I3) (b : Bal) (ws : List Int) (f : Int) : addL (pyL n id b ws) (pyM id b f) = pyL n id b (ws ++ [f]) := by
  unfold addL pyL pyM
  simp only [List.length_append, List.length_cons, List.length_nil, Nat.zero_add]
  rw [List.replicate_succ']
theorem pyL_ok (n : Nat) (id : I3) (b : Bal) (ws : List Int) (hn : n ≤ 7) (hd : ws.Nodup) (hs : ∀ x ∈ ws, x ∈ nds n) : LOk (pyL n id b ws) :=
  ⟨by show (nds n).length ≤ 40; rw [nds_len]; omega, hd, hs, by show (List.replicate ws.length in00).length = _; simp; rfl, (fun x hx => by
    have h : x = in00 := (List.mem_replicate.1 hx).2
    subst h; decide), by show ([] : List I3).length ≤ 3000; decide⟩
theorem pyL_eno (n : Nat) (id : I3) (b : Bal) (ws : List Int) (h1 : 1 ≤ n) (hd : ws.Nodup) (hs : ∀ x ∈ ws, x ∈ nds n) : enoL (pyL n id b ws) = decide (n < 2 * ws.length) := by
  unfold enoL
  show decide (quoN ((nds n).length : Int) ≤ thN ws (nds n)) = _
  rw [nds_len, thN_len ws _ hd hs (nds_nodup n)]
  unfold quoN
  rw [if_neg (by omega)]
  by_cases q : n < 2 * ws.length
  · rw [decide_eq_true q, decide_eq_true (by omega)]
  · rw [decide_eq_false q, decide_eq_false (by omega)]
theorem pyL_pass (n : Nat) (id : I3) (b : Bal) (ws : List Int) (f : Int) (hf : f ∈ nds n) : passL (pyL n id b ws) (pyM id b f) = true := by
  unfold passL
  show (!false && (decide (id = id) && inB f (nds n))) = true
  simp [inB, hf]
theorem pyL_fit (n : Nat) (id : I3) (b : Bal) (ws : List Int) (f : Int) : fitL (pyL n id b ws) (pyM id b f) 2 = !inB f ws := by
  unfold fitL
  show (((2 : Int) == 2) && decide (b = b) && !inB f ws) = _
  simp
theorem pyM_V (w : World) (id : I3) (b : Bal) (f : Int) : MgV w (.agg (msE (pyM id b f) (.slice none 0 0) (.slice none 0 0) (.slice none 0 0) (.slice none 0 0)).toArray) (pyM id b f) :=
  ⟨none, 0, none, 0, 0, none, 0, 0, none, 0, 0, rfl, Knd.Rd.nil w, by intro x hx; cases hx⟩
/-- Who is heard behind one more answer. -/
def pyW (ws : List Int) (f : Int) : List Int := if inB f ws then ws else ws ++ [f]
def PyP (n : Nat) (id : I3) (b : Bal) (B g : Nat) (ws : List Int) (w : World) (e : Ending) (w' : World) : Prop := Hid (e = .returned (.bool (decide (n < 2 * ws.length)))) ∧ LdAt w' B g (pyS n id b ws) ∧ Below B w w' ∧ Kt w w'
end Go.Proofs.Ytplplehfkfjhnaa
