/-
  Leads: one that takes over hears of somebody who knows nothing.
-/
import Derived.Test.YtplplehfkfjhnaaLdY
import Derived.Test.YtplplehfkfjhnaaLdS
namespace Go.Proofs.Ytplplehfkfjhnaa
open Go.RowKit
open Bb (quoN thN allB)
set_option linter.unusedSimpArgs false
set_option linter.unusedVariables false
set_option maxRecDepth 100000

theorem py_hear {W0 w : World} {B g n : Nat} {id : I3} {b : Bal} {ws : List Int} {f : Int} (h : LdAt w B g (pyL n id b ws)) (hn1 : 1 ≤ n) (hn : n ≤ 7) (hd : ws.Nodup) (hs : ∀ x ∈ ws, x ∈ nds n) (hf : f ∈ nds n) (h2 : ¬ n < 2 * ws.length) :
    Calls Try.prog 13 #[gP g, .agg (msE (pyM id b f) (.slice none 0 0) (.slice none 0 0) (.slice none 0 0) (.slice none 0 0)).toArray] w (PyP n id b B g (pyW ws f) w) := by
  have hok := pyL_ok n id b ws hn hd hs
  have hW : Below ({ w with heap := #[] } : World).heap.size { w with heap := #[] } w := ⟨rfl, rfl, rfl, Nat.zero_le _, fun k hk => by cases hk⟩
  by_cases q : inB f ws = true
  · have hw : pyW ws f = ws := by unfold pyW; rw [if_pos q]
    rw [hw]
    refine (hear_prepN h hok (pyM_V _ id b f) (Nat.zero_le _) hW (by show (0 : Nat) ≤ 60; omega) (pyL_pass n id b ws f hf) rfl (by rw [pyL_fit, q]; rfl)).mono ?_
    rintro e w' ⟨he, hl, hb, hk⟩
    refine ⟨?_, ?_, hb, hk⟩
    · rw [decide_eq_false h2]; exact he
    · unfold pyS; rw [if_neg h2]; exact hl
  · have q2 : inB f ws = false := by simpa using q
    have hw : pyW ws f = ws ++ [f] := by unfold pyW; rw [if_neg q]
    have hfit : fitL (pyL n id b ws) (pyM id b f) 2 = true := by rw [pyL_fit, q2]; rfl
    have hni : f ∉ ws := by simpa [inB] using q2
    have hd2 : (ws ++ [f]).Nodup := List.nodup_append.2 ⟨hd, by simp, fun a ha c hc => by simp at hc; subst hc; exact fun e => hni (e ▸ ha)⟩
    have hs2 : ∀ x ∈ ws ++ [f], x ∈ nds n := fun x hx => by
      rcases List.mem_append.1 hx with r | r
      · exact hs x r
      · simp at r; subst r; exact hf
    have heno := pyL_eno n id b (ws ++ [f]) hn1 hd2 hs2
    rw [hw]
    by_cases q3 : n < 2 * (ws ++ [f]).length
    · rw [decide_eq_true q3, ← pyL_add] at heno
      refine (hear_prepY h hok (pyM_V _ id b f) (Nat.zero_le _) hW (by show (0 : Nat) ≤ 60; omega) (pyL_pass n id b ws f hf) rfl hfit heno (fun y hy => by
        rw [pyL_add] at hy
        have h0 : y = in00 := (List.mem_replicate.1 hy).2
        subst h0; decide)).mono ?_
      rintro e w' ⟨he, hl, hb, hk⟩
      refine ⟨?_, ?_, hb, hk⟩
      · rw [decide_eq_true q3]; exact he
      · unfold pyS; rw [if_pos q3, ← pyL_add]; exact hl
    · rw [decide_eq_false q3, ← pyL_add] at heno
      refine (hear_prepQ h hok (pyM_V _ id b f) (Nat.zero_le _) hW (by show (0 : Nat) ≤ 60; omega) (pyL_pass n id b ws f hf) rfl hfit heno).mono ?_
      rintro e w' ⟨he, hl, hb, hk⟩
      refine ⟨?_, ?_, hb, hk⟩
      · rw [decide_eq_false q3]; exact he
      · unfold pyS; rw [if_neg q3, ← pyL_add]; exact hl
/-- A block of another type turns: the lead stays. -/
theorem LdAt.stay {w w' : World} {B g : Nat} {L : LSt} (h : LdAt w B g L) {q : Nat} {T : TypeId} (hq : HasT w q T) (h1 : T ≠ 75) (h2 : T ≠ 3) (h3 : T ≠ 38) (h4 : T ≠ 27) (hsz : w.heap.size ≤ w'.heap.size) (hk : ∀ k, k < w.heap.size → k ≠ q → w'.heap[k]? = w.heap[k]?) : LdAt w' B g L := by
  obtain ⟨Bw, vn, vd, vw, vh, h⟩ := h
  have hT : ∀ (k : Nat) (S : TypeId), HasT w k S → S ≠ T → w'.heap[k]? = w.heap[k]? := fun k S hkS hne => hk k (by obtain ⟨cs, fr, e⟩ := hkS; exact (Array.getElem?_eq_some_iff.1 e).1) (HasT.ne hkS hq hne)
  refine ⟨Bw, vn, vd, vw, vh, (hT g _ h.hasT (Ne.symm h1)).trans h.bk, h.lo, h.hi, Nat.le_trans h.sz hsz, h.conf.keepB fun k hk2 => hT k _ (h.conf.blk k hk2).2 (Ne.symm h2), h.cb, h.deps.keepB fun k hk2 => hT k _ (h.deps.blk k hk2).2 (Ne.symm h4), h.ok, h.who.keepB fun k hk2 => hT k _ (h.who.blk k hk2).2 (Ne.symm h2), ?_⟩
  obtain ⟨rs, r1, r2, r3⟩ := h.heard
  exact ⟨rs, r1.keepB (fun k hk2 => hT k _ (r1.blk k hk2).2 (Ne.symm h3)), r2, fun j a c => (r3 j a c).keep (fun k cs fr e => hT k _ ⟨cs, fr, e⟩ (Ne.symm h4))⟩
end Go.Proofs.Ytplplehfkfjhnaa
