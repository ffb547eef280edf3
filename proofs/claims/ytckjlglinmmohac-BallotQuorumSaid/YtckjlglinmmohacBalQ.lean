/-
  The walk of BallotQuorum: more than half are enough, half are not; who is no member counts for nothing.
-/
import Derived.Test.YtckjlglinmmohacBal5
import Derived.Laws.AppendOwnNone
import Derived.Deep.DeepCutAuto
namespace Go.Proofs.Ytckjlglinmmohac
open Go.RowKit
set_option linter.unusedSimpArgs false
set_option linter.unusedVariables false

abbrev cfgq (ep : Int) (a : Option Addr) (n cap : Nat) : Value := .agg #[.int .i64 ep, .slice a n cap]
theorem infoInt : (Try.prog.info? 3).map (fun i => (i.zero, i.size, i.bytes)) = some (some (.int .i64 0), 1, 8) := by kernel_rfl

/-- A row that the call itself has made, read as a list of numbers. -/
theorem irow_of_owns {w : World} {base : Nat} {v : Value} {zs : List Int} (h : w.ownsRow base 3 1 v zs.length (zs.map (Value.int .i64))) (hl : zs.length ≤ 9223372036854775807) :
    ∃ (a : Option Addr) (cap : Nat), v = .slice a zs.length cap ∧ IRow w a zs := by
  obtain ⟨_, h | ⟨g, cap, cur, rfl, _, hh, hn, _, hs, hx⟩⟩ := h
  · obtain ⟨rfl, h0⟩ := h
    exact ⟨none, 0, by rw [h0], hl, .inl (List.eq_nil_of_length_eq_zero h0)⟩
  · refine ⟨some ⟨g, 0, none⟩, cap, rfl, hl, ?_⟩
    by_cases h0 : zs = []
    · exact .inl h0
    · refine .inr ⟨g, 0, rfl, ?_, fun i hi => ?_⟩
      · by_cases q : g < w.heap.size
        · exact q
        · have : w.heap[g]? = none := by simp; omega
          rw [this] at hh; cases hh
      · have e : cur[i]? = some (.int .i64 (zs.getD i 0)) := by
          have h1 : (cur.toList.take (zs.length * 1))[i]? = (zs.map (Value.int .i64))[i]? := by rw [hx]
          rw [List.getElem?_take, if_pos (by omega)] at h1
          rw [← Array.getElem?_toList, h1]
          simp [List.getD, hi]
        simp [World.cell?, hh, e]

theorem thN_more (who : List Int) (o : Int) : ∀ ns : List Int, thN who ns ≤ thN (who ++ [o]) ns ∧ (inB o ns = false → thN (who ++ [o]) ns = thN who ns)
  | [] => by simp [thN]
  | n :: ns => by
    have r := thN_more who o ns
    have e : ∀ l : List Int, thN l (n :: ns) = thN l ns + if inB n l = true then 1 else 0 := by
      intro l; unfold thN; by_cases g : inB n l = true <;> simp [List.filter_cons, g]
    rw [e who, e (who ++ [o])]
    have hm : inB n (who ++ [o]) = true ↔ inB n who = true ∨ n = o := by simp [inB]
    constructor
    · have := r.1
      by_cases g1 : inB n who = true
      · have g2 := hm.2 (.inl g1); rw [if_pos g1, if_pos g2]; omega
      · rw [if_neg g1]; split <;> omega
    · intro h
      have h2 : ¬ n = o ∧ inB o ns = false := by
        simp [inB] at h ⊢; exact ⟨fun q => h.1 q.symm, h.2⟩
      have := r.2 h2.2
      by_cases g1 : inB n who = true
      · have g2 := hm.2 (.inl g1); rw [if_pos g1, if_pos g2]; omega
      · have g2 : ¬ inB n (who ++ [o]) = true := fun q => by
          rcases hm.1 q with q | q
          · exact g1 q
          · exact h2.1 q
        rw [if_neg g1, if_neg g2]; omega
theorem thN_self (ns : List Int) : thN ns ns = ns.length := by
  unfold thN
  rw [List.filter_eq_self.2 (fun x hx => by simp [inB, hx])]
theorem quo_le (n : Nat) : quoN n ≤ n := by unfold quoN; split <;> omega
theorem owns_from {w : World} {base e size n : Nat} {v : Value} {xs : List Value} (h : w.ownsRow base e size v n xs) : ∀ k, v.ownBlock = some k → base ≤ k := by
  intro k hk
  rcases h.2 with ⟨rfl, _⟩ | ⟨g, cap, cur, rfl, hg, _⟩
  · cases hk
  · simp [Value.ownBlock] at hk; omega
theorem irow_news {w : World} {ad : Addr} {zs : List Int} (h : IRow w (some ad) zs) : ∀ (j : Nat) (u : Value), (zs.map (Value.int .i64))[j]? = some u → w.cell? (ad.add j) = some u := by
  intro j u hu
  rcases h.2 with h0 | ⟨b, off, ha, _, hc⟩
  · subst h0; simp at hu
  · cases ha
    have hj : j < zs.length := by
      have := (List.getElem?_eq_some_iff.1 hu).1
      simpa using this
    have e : u = .int .i64 (zs.getD j 0) := by
      simp [hj] at hu; simp [List.getD, hj, ← hu]
    rw [e]
    by_cases h0 : j = 0
    · subst h0; simpa [Addr.add] using hc 0 hj
    · simpa [Addr.add, h0] using hc j hj
theorem one_news {zs : List Int} : ∀ u ∈ zs.map (Value.int .i64), u.oneCell' = true := by
  intro u hu; simp at hu; obtain ⟨x, _, rfl⟩ := hu; rfl
theorem enough_more (ep : Int) (a a2 : Option Addr) (cap cap2 : Nat) (ns who : List Int) (other : Int) (w : World) (hr : IRow w a ns) (hr2 : IRow w a2 (who ++ [other])) :
    Calls Try.prog 14 #[.agg #[.int .i64 ep, .slice a ns.length cap], .slice a2 (who.length + 1) cap2] w fun e w' => e = .returned (.bool (decide (quoN ns.length ≤ thN (who ++ [other]) ns))) ∧ Below w.heap.size w w' := by
  have h := enough_any ep a a2 cap cap2 ns (who ++ [other]) w hr hr2
  have e : (who ++ [other]).length = who.length + 1 := by simp
  rw [e] at h
  exact h
theorem enough_one (ep : Int) (a a2 : Option Addr) (cap cap2 : Nat) (ns : List Int) (other : Int) (w : World) (hr : IRow w a ns) (hr2 : IRow w a2 ([] ++ [other])) :
    Calls Try.prog 14 #[.agg #[.int .i64 ep, .slice a ns.length cap], .slice a2 1 cap2] w fun e w' => e = .returned (.bool (decide (quoN ns.length ≤ thN ([] ++ [other]) ns))) ∧ Below w.heap.size w w' :=
  enough_any ep a a2 cap cap2 ns ([] ++ [other]) w hr hr2
theorem enough_none (ep : Int) (a : Option Addr) (cap : Nat) (ns : List Int) (w : World) (hr : IRow w a ns) :
    Calls Try.prog 14 #[.agg #[.int .i64 ep, .slice a ns.length cap], .slice none 0 0] w fun e w' => e = .returned (.bool (decide (quoN ns.length ≤ thN [] ns))) ∧ Below w.heap.size w w' :=
  enough_any ep a none cap 0 ns [] w hr ⟨by simp, .inl rfl⟩
theorem all_empty (ep : Int) (a : Option Addr) (cap : Nat) (ns : List Int) (w : World) (hr : IRow w a ns) :
    Calls Try.prog 21 #[.agg #[.int .i64 ep, .slice a ns.length cap], .slice none 0 0] w fun e w' => e = .returned (.bool (allB [] ns)) ∧ Below w.heap.size w w' :=
  all_any ep a none cap 0 ns [] w hr ⟨by simp, .inl rfl⟩
end Go.Proofs.Ytckjlglinmmohac
