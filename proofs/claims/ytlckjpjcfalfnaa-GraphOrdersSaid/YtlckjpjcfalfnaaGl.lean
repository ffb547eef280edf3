/-
  Graph: all, group by group.
-/
import Derived.Test.YtlckjpjcfalfnaaGz
import Derived.Shelf.Spec.SlicesGrow
import Derived.Ground.Names8Prog
namespace Go.Proofs.Ytlckjpjcfalfnaa
open Go.RowKit Go.Sort Go.Shelf
open Go.WideMaps
set_option linter.unusedSimpArgs false
set_option linter.unusedVariables false
set_option maxRecDepth 100000

shelf_lay_g Lays8.n4 Nm8 4 at Try 55 as Try.growIds
theorem grow_any (n : Nat) (w : World) (hn : n ≤ 1000000) : Calls Try.prog 55 #[.slice none 0 0, .int .i64 n] w fun e w' => ∃ v, e = .returned v ∧ IK.Own w' w.heap.size v [] ∧ Below w.heap.size w w' := by
  by_cases h : n = 0
  · subst h
    refine (Any8.slices_Grow_room Try.growIds none 0 0 0 w (Nat.le_refl _) (by omega) (by omega) (by omega)).mono ?_
    rintro e w' ⟨rfl, rfl⟩
    exact ⟨_, rfl, Knd.Own.nil _ _, Below.refl _ _⟩
  · obtain ⟨i0, hi, hz0, hz1, hz2⟩ := info_parts IK.info
    refine (Any8.slices_Grow_grow Try.growIds i0 IK.z hi hz0 (by rw [hz1]; exact IK.pos) none 0 0 n [] w (Nat.le_refl _) (by omega) (by rw [hz2]; show (0 + n) * 24 ≤ _; omega) (by omega) (by simp) (fun _ => rfl) (fun a h => by cases h)).mono ?_
    rintro e w' ⟨rfl, rfl⟩
    have hd : Below w.heap.size w w.drew := (Below.refl w.heap.size w).drew
    have hge := grownCap_ge w (0 + n) 0 IK.T
    have hle := grownCap_le_maxLen w (0 + n) 0 IK.T (by unfold maxLen; omega)
    refine ⟨_, rfl, ⟨rfl, .inr ⟨w.heap.size, _, _, rfl, Nat.le_refl _, heap_alloc_new w.drew _, Nat.zero_le _, hle, ?_, by rw [List.length_nil, Nat.zero_mul]; rfl⟩⟩, hd.trans ((Below.refl w.drew.heap.size w.drew).alloc (Nat.le_refl _) _)⟩
    rw [Array.size_append, Array.size_append, size_zeroCells, size_zeroCells, IK.zc]
    simp only [Array.size_empty, List.size_toArray, List.length_nil]
    rw [Nat.zero_add, Nat.sub_zero, ← Nat.add_mul]
    congr 1
    change 0 + n + (grownCap w (0 + n) 0 IK.T - (0 + n)) = grownCap w (0 + n) 0 IK.T
    omega
/-- A row of rows. -/
def RowsAt (w : World) (v : Value) (ls : List (List I3)) : Prop := ∃ a c, v = .slice a ls.length c ∧ ls.length ≤ 100000 ∧ ∀ (j : Nat) (hj : j < ls.length), ∃ g off b n' c', a = some ⟨g, off, none⟩ ∧ g < w.heap.size ∧ w.cell? ⟨g, off + j, none⟩ = some (.slice b n' c') ∧ IK.Rd w (.slice b n' c') ls[j]
theorem RowsAt.below {w w' : World} {v : Value} {ls : List (List I3)} (h : RowsAt w v ls) (hb : Below w.heap.size w w') : RowsAt w' v ls := by
  obtain ⟨a, c, e, h1, h2⟩ := h
  refine ⟨a, c, e, h1, fun j hj => ?_⟩
  obtain ⟨g, off, b, n', c', ha, hg, hc, hr⟩ := h2 j hj
  exact ⟨g, off, b, n', c', ha, Nat.lt_of_lt_of_le hg hb.size, (hb.cell (p := ⟨g, off + j, none⟩) hg).trans hc, hr.below hb⟩
def ConP (l : List I3) (w : World) (e : Ending) (w' : World) : Prop := ∃ v, Hid (e = .returned v) ∧ IK.Own w' w.heap.size v l ∧ Below w.heap.size w w'
set_option maxHeartbeats 4000000 in
theorem concat_any {w : World} {v : Value} {ls : List (List I3)} (h : RowsAt w v ls) (hs : ls.flatten.length ≤ 100000) : Calls Try.prog 40 #[v] w (ConP ls.flatten w) := by
  obtain ⟨a, c, e, h1, h2⟩ := h
  subst e
  obtain ⟨N, hN⟩ : ∃ q, ls.length = q := ⟨_, rfl⟩
  have HR := Lib.hid h2
  have HS := Lib.hid hs
  have HN := Lib.hid hN
  rw [hN] at h1 ⊢
  have hN63 : N ≤ 9223372036854775807 := by omega
  clear h2 hs hN
  go_enter Try.func40, Try.ntmps40
  go_wp2_with fail
  go_loopw [3, 11] (fun s i wr => ∃ (k : Nat), k ≤ N ∧ s = .int .i64 ((ls.take k).flatten.length : Nat) ∧ i = .int .i64 k ∧ wr = w) (fun _ i _ => N - (intOf i).toNat)
  case atStart => exact ⟨0, Nat.zero_le _, rfl, rfl, rfl⟩
  case round =>
    obtain ⟨k, hk, rfl, rfl, hww⟩ := hrel
    obtain rfl := hww.symm
    by_cases hkN : k < N
    · have hk1 : (k : Int) < (N : Int) := by omega
      have hk2 : decide ((k : Int) < (N : Int)) = true := decide_eq_true hk1
      have hk3 : decide (k < N) = true := decide_eq_true hkN
      have hkl : k < ls.length := by rw [HN.out]; exact hkN
      obtain ⟨g, off, b, n', c', ha, hg, hc, hr⟩ := HR.out k hkl
      subst ha
      obtain ⟨a', cc, e'⟩ := hr.slice
      simp only [Value.slice.injEq] at e'
      obtain ⟨-, hn', -⟩ := e'
      have htk : (ls.take (k + 1)).flatten.length = (ls.take k).flatten.length + n' := by rw [List.take_succ_eq_append_getElem hkl, List.flatten_append, List.length_append, hn']; simp
      obtain ⟨S0, hS0⟩ : ∃ q, (ls.take k).flatten.length = q := ⟨_, rfl⟩
      have hsle : S0 + n' ≤ 100000 := by
        rw [← hS0, ← htk]
        refine Nat.le_trans ?_ HS.out
        conv => rhs; rw [← List.take_append_drop (k + 1) ls, List.flatten_append, List.length_append]
        exact Nat.le_add_right _ _
      rw [hS0] at htk ⊢
      have HTk := Lib.hid htk
      have hw : IntKind.i64.wrap ((S0 : Int) + (n' : Int)) = ((S0 + n' : Nat) : Int) := by rw [IntKind.wrap_i64]; omega
      have hw0 : decide (((S0 + n' : Nat) : Int) < 0) = false := decide_eq_false (by omega)
      have hw1 : ¬ (((S0 + n' : Nat) : Int) < 0) := by omega
      have hn63 : n' ≤ 9223372036854775807 := by omega
      clear htk hS0 hr hn' hkl
      go_wp2_with fail
      go_roundw
      case rel => exact ⟨k + 1, by omega, by rw [HTk.out]; simp, by go_num, by trivial⟩
      case measure => simp [intOf]; omega
    · obtain rfl : k = N := by omega
      have hk2 : decide ((k : Int) < (k : Int)) = false := decide_eq_false (by omega)
      have hk3 : decide (k < k) = false := decide_eq_false (by omega)
      have hS0 : (ls.take k).flatten.length ≤ 100000 := by rw [List.take_of_length_le (by rw [HN.out]; exact Nat.le_refl _)]; exact HS.out
      obtain ⟨S0, hS1⟩ : ∃ q, (ls.take k).flatten.length = q := ⟨_, rfl⟩
      rw [hS1] at hS0 ⊢
      have HGr := Lib.hid (grow_any S0 w (by omega))
      clear hS1
      go_wp2_with fail
      refine HGr.out.mono ?_
      rintro e w2 ⟨v2, rfl, ho, hb⟩
      have HO := Lib.hid ho
      have HB := Lib.hid hb
      clear ho hb HGr
      go_wp2_with fail
      go_loopw [6, 27] (fun v i w3 => ∃ (j : Nat), j ≤ k ∧ i = .int .i64 j ∧ Hid (IK.Own w3 w.heap.size v (ls.take j).flatten) ∧ Hid (Below w.heap.size w w3)) (fun _ i _ => k - (intOf i).toNat)
      case atStart => exact ⟨0, Nat.zero_le _, rfl, HO, HB⟩
      case round =>
        clear HO HB
        obtain ⟨j, hj, rfl, HO, HB⟩ := hrel
        by_cases hjN : j < k
        · have hk1 : (j : Int) < (k : Int) := by omega
          have hk4 : decide ((j : Int) < (k : Int)) = true := decide_eq_true hk1
          have hk5 : decide (j < k) = true := decide_eq_true hjN
          have hjl : j < ls.length := by rw [HN.out]; exact hjN
          obtain ⟨g, off, b, n', c', ha, hg, hc, hr⟩ := HR.out j hjl
          subst ha
          have hc3 := (HB.out.cell (p := ⟨g, off + j, none⟩) hg).trans hc
          have HRd := Lib.hid (hr.below HB.out)
          have htk : (ls.take (j + 1)).flatten = (ls.take j).flatten ++ ls[j] := by rw [List.take_succ_eq_append_getElem hjl, List.flatten_append]; simp
          have HLn : Hid ((ls.take j).flatten.length + ls[j].length ≤ 1000000) := Lib.hid (by
            rw [← List.length_append, ← htk]
            refine Nat.le_trans ?_ (Nat.le_trans HS.out (by omega))
            conv => rhs; rw [← List.take_append_drop (j + 1) ls, List.flatten_append, List.length_append]
            exact Nat.le_add_right _ _)
          obtain ⟨x, hx⟩ : ∃ x, ls[j] = x := ⟨_, rfl⟩
          rw [hx] at HRd HLn htk
          have HTk := Lib.hid htk
          obtain ⟨av, cv, ev⟩ := HO.out.slice
          clear hc hr hx htk hjl
          go_wp2_with (first
            | (refine IK.app (by kernel_rfl) (.tmp 31) (.tmp 32) rfl w.heap.size _ _ rfl HO.out _ x rfl HRd.out HLn.out HB.out.size ?_; intro v7 w7 ho7 hb7 hg7 _; have HO7 := Lib.hid ho7; have HB7 := Lib.hid (HB.out.trans hb7); clear ho7 hb7 hg7)
            | fail)
          clear hc3 HO HB
          go_wp2_with fail
          go_roundw
          case rel => exact ⟨j + 1, by omega, by go_num, Lib.hid (by rw [HTk.out]; exact HO7.out), HB7⟩
          case measure => simp [intOf]; omega
        · obtain rfl : j = k := by omega
          have hk4 : decide ((j : Int) < (j : Int)) = false := decide_eq_false (by omega)
          have hk5 : decide (j < j) = false := decide_eq_false (by omega)
          have HO9 : Hid (IK.Own _ w.heap.size _ ls.flatten) := Lib.hid (by have q := HO.out; rw [List.take_of_length_le (by rw [HN.out]; exact Nat.le_refl _)] at q; exact q)
          clear HO
          go_wp2
          go_ret
          exact ⟨_, Lib.hid rfl, HO9.out, HB.out⟩
set_option maxHeartbeats 1000000 in
theorem flat_any {w : World} {v : Value} {ls : List (List I3)} (h : RowsAt w v ls) (hs : ls.flatten.length ≤ 100000) : Calls Try.prog 22 #[v] w (ConP ls.flatten w) := by
  have HC := Lib.hid (concat_any h hs)
  obtain ⟨a, c, e, _⟩ := h
  subst e
  obtain ⟨N, hN⟩ : ∃ q, ls.length = q := ⟨_, rfl⟩
  rw [hN] at HC ⊢
  go_enter Try.func22, Try.ntmps22
  go_wp2_with fail
  refine HC.out.mono ?_
  rintro e w2 ⟨v2, he, ho, hb⟩
  rw [he.out]
  have HO := Lib.hid ho
  have HB := Lib.hid hb
  clear ho hb he HC
  go_wp2
  go_ret
  exact ⟨_, Lib.hid rfl, HO.out, HB.out⟩
end Go.Proofs.Ytlckjpjcfalfnaa
