/-
  The walks of package ballot that go over lists of nodes: what each returns, as a plain function of the numbers in the list.
-/
import Derived.Test.YtckjlglinmmohabBal
import Derived.LoopTactic
namespace Go.Proofs.Ytckjlglinmmohab
open Go.RowKit
set_option linter.unusedSimpArgs false
set_option linter.unusedVariables false

theorem ret_int {k : IntKind} {a b : Int} (h : a = b) : Ending.returned (.int k a) = .returned (.int k b) := by rw [h]
theorem ret_bool {a b : Bool} (h : a = b) : Ending.returned (.bool a) = .returned (.bool b) := by rw [h]

/-- A slice of numbers, as it lies in memory. -/
def IRow (w : World) (a : Option Addr) (zs : List Int) : Prop :=
  zs.length ≤ 9223372036854775807 ∧ (zs = [] ∨ ∃ b off, a = some ⟨b, off, none⟩ ∧ b < w.heap.size ∧ ∀ i, i < zs.length → w.cell? ⟨b, off + i, none⟩ = some (.int .i64 (zs.getD i 0)))
theorem IRow.below {w w' : World} {a : Option Addr} {zs : List Int} (h : IRow w a zs) (hb : Below w.heap.size w w') : IRow w' a zs := by
  obtain ⟨h1, h2⟩ := h
  refine ⟨h1, ?_⟩
  rcases h2 with h2 | ⟨b, off, ha, hbl, hc⟩
  · exact .inl h2
  · exact .inr ⟨b, off, ha, by have := hb.size; omega, fun i hi => by rw [hb.cell (p := ⟨b, off + i, none⟩) hbl]; exact hc i hi⟩

/-- Is the number in the list? -/
def inB (n : Int) (zs : List Int) : Bool := decide (n ∈ zs)
theorem inB_nil (n : Int) : inB n [] = false := by simp [inB]
theorem take_succ_getD (zs : List Int) (k : Nat) (h : k < zs.length) : zs.take (k + 1) = zs.take k ++ [zs.getD k 0] := by
  rw [List.take_succ_eq_append_getElem h]; simp [List.getD, h]
theorem inB_snoc (n : Int) (zs : List Int) (k : Nat) (h : k < zs.length) : inB n (zs.take (k + 1)) = (inB n (zs.take k) || (zs[k] == n)) := by
  rw [List.take_succ_eq_append_getElem h, Bool.eq_iff_iff]
  unfold inB
  simp only [decide_eq_true_eq, Bool.or_eq_true, beq_iff_eq, List.mem_append, List.mem_singleton]
  constructor
  · rintro (h | h)
    · exact Or.inl h
    · exact Or.inr h.symm
  · rintro (h | h)
    · exact Or.inl h
    · exact Or.inr h.symm
theorem inB_at (n : Int) (zs : List Int) (k : Nat) (h : k < zs.length) (e : zs[k] = n) : inB n zs = true := by
  simp [inB]; rw [← e]; simp

set_option maxHeartbeats 400000 in
/-- syndicref05.In. -/
theorem refIn_any (a : Option Addr) (cap : Nat) (zs : List Int) (n : Int) (w : World) (hr : IRow w a zs) :
    Calls Try.prog 38 #[.slice a zs.length cap, .int .i64 n] w fun e w' => e = .returned (.bool (inB n zs)) ∧ w = w' := by
  obtain ⟨hl, hrow⟩ := hr
  go_enter Try.func38, Try.ntmps38
  go_wp2
  go_loop [5] (fun i => ∃ k : Nat, k ≤ zs.length ∧ i = .int .i64 k ∧ Hid (inB n (zs.take k) = false)) (fun i => zs.length - (intOf i).toNat)
  case atStart => exact ⟨0, Nat.zero_le _, rfl, inB_nil n⟩
  case round =>
    obtain ⟨k, hk, rfl, hH⟩ := hrel
    by_cases hlt : k < zs.length
    · rcases hrow with h0 | ⟨b, off, rfl, hb, hc⟩
      · rw [h0] at hlt; simp at hlt
      · have hcell := hc k hlt
        have hs := inB_snoc n zs k hlt
        have HC := Lib.hid hc
        clear hc
        by_cases he : zs[k] = n
        · have hf := Lib.hid (inB_at n zs k hlt he)
          have hE : (zs[k] == n) = true := by simpa using he
          have HE := Lib.hid he
          clear he hs
          go_wp2
          go_ret
          exact ⟨ret_bool hf.out.symm, rfl⟩
        · have hE : (zs[k] == n) = false := by simpa using he
          rw [hH.out, hE] at hs
          have HS : Hid (inB n (zs.take (k + 1)) = false) := hs
          clear hs he
          go_wp2
          go_round
          case rel => exact ⟨k + 1, by omega, by go_num, HS⟩
          case measure => simp [intOf]; omega
    · have : k = zs.length := by omega
      subst this
      have hH' := hH.out
      rw [List.take_length] at hH'
      have hF := Lib.hid hH'
      clear hH'
      go_wp2
      go_ret
      exact ⟨ret_bool hF.out.symm, rfl⟩

/-- What slices.Index hands back: a number that is not below 0 just where the number is in the list. -/
def IxPost (n : Int) (zs : List Int) (w : World) (e : Ending) (w' : World) : Prop := ∃ j : Int, e = .returned (.int .i64 j) ∧ (decide (0 ≤ j)) = inB n zs ∧ w = w'

set_option maxHeartbeats 400000 in
theorem index_any (a : Option Addr) (cap : Nat) (zs : List Int) (n : Int) (w : World) (hr : IRow w a zs) :
    Calls Try.prog 47 #[.slice a zs.length cap, .int .i64 n] w (IxPost n zs w) := by
  obtain ⟨hl, hrow⟩ := hr
  go_enter Try.func47, Try.ntmps47
  go_wp2
  go_loop [8] (fun i => ∃ k : Nat, k ≤ zs.length ∧ i = .int .i64 k ∧ Hid (inB n (zs.take k) = false)) (fun i => zs.length - (intOf i).toNat)
  case atStart => exact ⟨0, Nat.zero_le _, rfl, inB_nil n⟩
  case round =>
    obtain ⟨k, hk, rfl, hH⟩ := hrel
    by_cases hlt : k < zs.length
    · rcases hrow with h0 | ⟨b, off, rfl, hb, hc⟩
      · rw [h0] at hlt; simp at hlt
      · have hcell := hc k hlt
        have hs := inB_snoc n zs k hlt
        have HC := Lib.hid hc
        clear hc
        by_cases he : zs[k] = n
        · have hf := Lib.hid (inB_at n zs k hlt he)
          have hE : (n == zs[k]) = true := by simpa using he.symm
          have HE := Lib.hid he
          clear he hs
          go_wp2
          go_ret
          exact ⟨_, rfl, by rw [hf.out]; simp, rfl⟩
        · have hE : (n == zs[k]) = false := by simpa using fun h => he h.symm
          rw [hH.out, (by simpa using he : (zs[k] == n) = false)] at hs
          have HS : Hid (inB n (zs.take (k + 1)) = false) := hs
          clear hs he
          go_wp2
          go_round
          case rel => exact ⟨k + 1, by omega, by go_num, HS⟩
          case measure => simp [intOf]; omega
    · have : k = zs.length := by omega
      subst this
      have hH' := hH.out
      rw [List.take_length] at hH'
      have hF := Lib.hid hH'
      clear hH'
      go_wp2
      go_ret
      exact ⟨_, rfl, by rw [hF.out]; simp, rfl⟩

set_option maxHeartbeats 400000 in
theorem contains_any (a : Option Addr) (cap : Nat) (zs : List Int) (n : Int) (w : World) (hr : IRow w a zs) :
    Calls Try.prog 44 #[.slice a zs.length cap, .int .i64 n] w fun e w' => e = .returned (.bool (inB n zs)) ∧ w = w' := by
  have HR := Lib.hid hr
  clear hr
  go_enter Try.func44, Try.ntmps44
  go_wp2_with (go_at_call 47; refine (index_any _ _ zs n _ HR.out).mono ?_; rintro e w' ⟨j, rfl, hj, rfl⟩; have HJ := Lib.hid hj; clear hj)
  go_ret
  exact ⟨ret_bool HJ.out, rfl⟩

/-- How many of the first list are in the second one. -/
def thN (who ns : List Int) : Int := (ns.filter fun x => inB x who).length
theorem thN_nil (who : List Int) : thN who [] = 0 := rfl
theorem thN_le (who ns : List Int) : 0 ≤ thN who ns ∧ thN who ns ≤ ns.length := by
  unfold thN; have := List.length_filter_le (fun x => inB x who) ns; omega
theorem thN_snoc (who ns : List Int) (k : Nat) (h : k < ns.length) : thN who (ns.take (k + 1)) = thN who (ns.take k) + if inB ns[k] who = true then 1 else 0 := by
  rw [List.take_succ_eq_append_getElem h]; unfold thN
  rw [List.filter_append]
  by_cases g : inB ns[k] who = true <;> simp [List.filter_cons, g]

set_option maxHeartbeats 800000 in
/-- ballot.there. -/
theorem there_any (ep : Int) (a a2 : Option Addr) (cap cap2 : Nat) (ns who : List Int) (w : World) (hr : IRow w a ns) (hr2 : IRow w a2 who) :
    Calls Try.prog 39 #[.agg #[.int .i64 ep, .slice a ns.length cap], .slice a2 who.length cap2] w fun e w' => e = .returned (.int .i64 (thN who ns)) ∧ Below w.heap.size w w' := by
  have hbel : Below w.heap.size w (w.alloc (.cells #[.int .i64 ep, .slice a ns.length cap] 54)) := (Below.refl _ _).alloc (Nat.le_refl _) _
  have HB := Lib.hid hbel
  have HR2 := Lib.hid (hr2.below hbel)
  obtain ⟨hl, hrow⟩ := hr.below hbel
  clear hr hr2 hbel
  go_enter Try.func39, Try.ntmps39
  go_wp2
  go_loop [5, 11] (fun n i => ∃ k : Nat, k ≤ ns.length ∧ i = .int .i64 k ∧ n = .int .i64 (thN who (ns.take k))) (fun _ i => ns.length - (intOf i).toNat)
  case atStart => exact ⟨0, Nat.zero_le _, rfl, rfl⟩
  case round =>
    obtain ⟨k, hk, rfl, rfl⟩ := hrel
    have hd := thN_le who (ns.take k)
    have hdl : (ns.take k).length ≤ k := List.length_take_le _ _
    by_cases hlt : k < ns.length
    · rcases hrow with h0 | ⟨b, off, rfl, hb, hc⟩
      · rw [h0] at hlt; simp at hlt
      · have hcell := hc k hlt
        have HS := Lib.hid (thN_snoc who ns k hlt)
        have HC := Lib.hid hc
        clear hc
        cases g : inB ns[k] who
        · have G := Lib.hid g
          clear g
          go_wp2_with (go_at_call 44; refine (contains_any _ _ who _ _ HR2.out).mono ?_; rw [G.out]; rintro e w' ⟨rfl, rfl⟩)
          go_round
          case rel => exact ⟨k + 1, by omega, by go_num, by rw [HS.out, G.out]; simp⟩
          case measure => simp [intOf]; omega
        · have G := Lib.hid g
          clear g
          go_wp2_with (go_at_call 44; refine (contains_any _ _ who _ _ HR2.out).mono ?_; rw [G.out]; rintro e w' ⟨rfl, rfl⟩)
          go_round
          case rel => exact ⟨k + 1, by omega, by go_num, by rw [HS.out, G.out]; simp⟩
          case measure => simp [intOf]; omega
    · have : k = ns.length := by omega
      subst this
      go_wp2
      go_ret
      exact ⟨rfl, HB.out⟩
end Go.Proofs.Ytckjlglinmmohab
