/-
  A writer, thing by thing: what becomes of it.
-/
import Derived.Test.YtipdlhaegkjchaaThing
namespace Go.Proofs.Ytipdlhaegkjchaa
open Go.RowKit
set_option linter.unusedSimpArgs false
set_option linter.unusedVariables false

set_option maxHeartbeats 1600000 in
theorem wtext_spoilt (b : Nat) (s : ByteArray) (w : World) (hW : WrAt w b [] true) :
    Calls Try.prog 10 #[.pointer (some ⟨b, 0, none⟩), .string s] w fun e w' => e = .returned (.pointer (some ⟨b, 0, none⟩)) ∧ WrAt w' b [] true ∧ Below b w w' := by
  go_enter Try.func10, Try.ntmps10
  go_wp2_with fail
  refine (wnum_spoilt b _ w hW).mono ?_
  rintro e w1 ⟨rfl, hW1, hb1⟩
  have HW1 := Lib.hid hW1
  have HB1 := Lib.hid hb1
  obtain ⟨c1, f0, f1, hsize, v0, c0, hown⟩ := hW1
  clear hown hb1
  go_wp2
  go_ret
  exact ⟨rfl, HW1.out, HB1.out⟩

/-- A thing's bytes; none, if it can't be written. -/
def encT (t : Th) : Option (List Int) := if t.1 = true then some (enc t.2.2.size ++ byt t.2.2) else if 0 ≤ t.2.1 ∧ t.2.1 ≤ 281474976710656 then some (enc t.2.1) else none
/-- A writer's state behind a thing. -/
def wst (st : List Int × Bool) (t : Th) : List Int × Bool := if st.2 = true then ([], true) else match encT t with
  | none => ([], true)
  | some e => (st.1 ++ e, false)
def StOk (st : List Int × Bool) (k : Nat) : Prop := st.1.length ≤ 4000 * k ∧ (st.2 = true → st.1 = [])
theorem enc_len8 (n : Int) : (enc n).length ≤ 8 := by
  have key : ∀ (f : Nat) (m : Int), (encN f m).length ≤ f := by
    intro f
    induction f with
    | zero => intro m; simp [encN]
    | succ f ih =>
      intro m
      rw [encN_succ]
      split
      · simp
      · rw [List.length_cons]; have := ih (m / 128); omega
  exact key 8 n
theorem wst_ok {st : List Int × Bool} {k : Nat} (h : StOk st k) (t : Th) (ht : t.2.2.size ≤ 3000) : StOk (wst st t) (k + 1) := by
  unfold wst
  by_cases q : st.2 = true
  · rw [if_pos q]; exact ⟨by simp, fun _ => rfl⟩
  · rw [if_neg q]
    have hl := h.1
    cases he : encT t with
    | none => exact ⟨by simp, fun _ => rfl⟩
    | some e =>
      refine ⟨?_, fun h => by cases h⟩
      have : e.length ≤ 3008 := by
        unfold encT at he
        by_cases c : t.1 = true
        · rw [if_pos c] at he
          have q := Option.some.inj he
          have := enc_len8 t.2.2.size
          rw [← q]
          simp [byt_length]; omega
        · rw [if_neg c] at he
          split at he
          · have q := Option.some.inj he
            have := enc_len8 t.2.1
            rw [← q]; omega
          · cases he
      simp; omega
theorem wr_text (b k : Nat) (st : List Int × Bool) (t : Th) (w : World) (hW : WrAt w b st.1 st.2) (hk : StOk st k) (h3 : k ≤ 1000) (ht : t.2.2.size ≤ 3000) (hT : t.1 = true) :
    Calls Try.prog 10 #[.pointer (some ⟨b, 0, none⟩), .string t.2.2] w fun e w' => e = .returned (.pointer (some ⟨b, 0, none⟩)) ∧ WrAt w' b (wst st t).1 (wst st t).2 ∧ Below b w w' := by
  obtain ⟨xs, sp⟩ := st
  cases sp with
  | true =>
    obtain rfl : xs = [] := hk.2 rfl
    rw [show wst ([], true) t = ([], true) from by unfold wst; rw [if_pos rfl]]
    exact wtext_spoilt b t.2.2 w hW
  | false =>
    have e : wst (xs, false) t = (xs ++ (enc t.2.2.size ++ byt t.2.2), false) := by
      unfold wst encT
      rw [if_neg (by simp), if_pos hT]
    rw [e]
    have := hk.1
    simp only at this
    exact wtext_good b t.2.2 xs w hW (by omega) (by omega)
theorem wr_num (b k : Nat) (st : List Int × Bool) (t : Th) (w : World) (hW : WrAt w b st.1 st.2) (hk : StOk st k) (h3 : k ≤ 1000) (hT : t.1 = false) :
    Calls Try.prog 12 #[.pointer (some ⟨b, 0, none⟩), .int .i64 t.2.1] w fun e w' => e = .returned (.pointer (some ⟨b, 0, none⟩)) ∧ WrAt w' b (wst st t).1 (wst st t).2 ∧ Below b w w' := by
  obtain ⟨xs, sp⟩ := st
  cases sp with
  | true =>
    obtain rfl : xs = [] := hk.2 rfl
    rw [show wst ([], true) t = ([], true) from by unfold wst; rw [if_pos rfl]]
    exact wnum_spoilt b t.2.1 w hW
  | false =>
    by_cases c : 0 ≤ t.2.1 ∧ t.2.1 ≤ 281474976710656
    · have e : wst (xs, false) t = (xs ++ enc t.2.1, false) := by
        unfold wst encT
        rw [if_neg (by simp), if_neg (by simp [hT]), if_pos c]
      rw [e]
      have := hk.1
      simp only at this
      exact wnum_good b t.2.1 xs w hW c.1 c.2 (by omega)
    · have e : wst (xs, false) t = ([], true) := by
        unfold wst encT
        rw [if_neg (by simp), if_neg (by simp [hT]), if_neg c]
      rw [e]
      exact wnum_bad b t.2.1 xs false w hW c
theorem trd_at {w : World} {a : Option Addr} {ts : List Th} {i : Nat} (h : TRd w a ts) (hi : i < ts.length) : ∃ g off, a = some ⟨g, off, none⟩ ∧ g < w.heap.size ∧ w.cell? ⟨g, off + i * 3, none⟩ = some (.bool (ts.getD i default).1) ∧ w.cell? ⟨g, off + i * 3 + 1, none⟩ = some (.int .i64 (ts.getD i default).2.1) ∧ w.cell? ⟨g, off + i * 3 + 2, none⟩ = some (.string (ts.getD i default).2.2) := by
  rcases h.2 with h0 | ⟨g, off, ha, hg, hc⟩
  · subst h0; simp at hi
  · exact ⟨g, off, ha, hg, hc i hi⟩
/-- The state behind the first things. -/
def wsts (ts : List Th) (i : Nat) : List Int × Bool := (ts.take i).foldl wst ([], false)
theorem wsts_succ (ts : List Th) (i : Nat) (h : i < ts.length) : wsts ts (i + 1) = wst (wsts ts i) (ts.getD i default) := by
  unfold wsts
  rw [List.take_succ_eq_append_getElem h, List.foldl_append]
  simp [List.getD, h]
theorem wsts_ok (ts : List Th) : ∀ i, i ≤ ts.length → (∀ j, j < i → (ts.getD j default).2.2.size ≤ 3000) → StOk (wsts ts i) i
  | 0, _, _ => ⟨by simp [wsts], fun _ => rfl⟩
  | i + 1, h, hs => by
    rw [wsts_succ ts i (by omega)]
    exact wst_ok (wsts_ok ts i (by omega) (fun j hj => hs j (by omega))) _ (hs i (by omega))
end Go.Proofs.Ytipdlhaegkjchaa
