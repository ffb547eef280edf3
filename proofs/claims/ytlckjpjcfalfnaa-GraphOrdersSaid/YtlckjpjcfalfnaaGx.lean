/-
  Graph: is there more than is looked at?
-/
import Derived.Test.YtlckjpjcfalfnaaGo
namespace Go.Proofs.Ytlckjpjcfalfnaa
open Go.RowKit Go.Sort
open Go.WideMaps
set_option linter.unusedSimpArgs false
set_option linter.unusedVariables false
set_option maxRecDepth 100000

def overB (nv : List NV) (dn : List I3) : Bool := (nv.take 15).any (fun n => decide (14 < n.d.dl.length)) || decide (14 < nv.length) || decide (14 < dn.length)
set_option maxHeartbeats 4000000 in
theorem over_any {w : World} {v vd : Value} {nv : List NV} {dn : List I3} (h : NRow w v nv) (hd : IK.Rd w vd dn) : Calls Try.prog 11 #[v, vd] w fun e w' => e = .returned (.bool (overB nv dn)) ∧ Below w.heap.size w w' := by
  have hl : nv.length ≤ 9223372036854775807 := by obtain ⟨_, _, _, q, _⟩ := h.el; unfold maxLen at q; omega
  have hdl : dn.length ≤ 9223372036854775807 := by have q := hd.len; unfold maxLen at q; omega
  obtain ⟨a, c, e, _, hel⟩ := h.el
  obtain ⟨a2, c2, e2⟩ := hd.slice
  obtain ⟨N, hN⟩ : ∃ q, nv.length = q := ⟨_, rfl⟩
  obtain ⟨M, hM⟩ : ∃ q, dn.length = q := ⟨_, rfl⟩
  rw [hN] at e hl
  rw [hM] at e2 hdl
  subst e
  subst e2
  obtain ⟨B, hB⟩ : ∃ q, overB nv dn = q := ⟨_, rfl⟩
  have HEl := Lib.hid hel
  have HN := Lib.hid hN
  have HOk := Lib.hid h.ok
  have HEnd : Hid ((∀ n ∈ nv.take 15, n.d.dl.length ≤ 14) → (decide (14 < N) || decide (14 < M)) = B) := Lib.hid fun q => by
    rw [← hB]
    unfold overB
    rw [hN, hM, List.any_eq_false.2 (fun n hn => by have := q n hn; simp; omega)]
    simp
  have HHit : Hid (∀ n ∈ nv.take 15, 14 < n.d.dl.length → B = true) := Lib.hid fun n hn q => by
    rw [← hB]
    unfold overB
    rw [List.any_eq_true.2 ⟨n, hn, by simpa using q⟩]
    rfl
  have hN63 : N ≤ 9223372036854775807 := by omega
  have hM63 : M ≤ 9223372036854775807 := by omega
  rw [hB]
  clear h hel hN hM hB hd
  go_enter Try.func11, Try.ntmps11
  go_wp2_with fail
  go_loopw [5] (fun i wr => ∃ (k : Nat), k ≤ N ∧ k ≤ 15 ∧ i = .int .i64 k ∧ Hid (∀ n ∈ nv.take k, n.d.dl.length ≤ 14) ∧ Hid (wr = w)) (fun i _ => N - (intOf i).toNat)
  case atStart => exact ⟨0, Nat.zero_le _, by omega, rfl, Lib.hid (fun n hn => by simp at hn), Lib.hid rfl⟩
  case round =>
    obtain ⟨k, hk, hk15, rfl, HK, HW⟩ := hrel
    by_cases hkN : k < N
    · have hk1 : (k : Int) < (N : Int) := by omega
      have hk2 : decide ((k : Int) < (N : Int)) = true := decide_eq_true hk1
      have hk3 : decide (k < N) = true := decide_eq_true hkN
      by_cases hk14 : k ≤ 14
      · have hk4 : (k : Int) ≤ 14 := by omega
        have hk5 : decide ((k : Int) ≤ 14) = true := decide_eq_true hk4
        have hk6 : decide (k ≤ 14) = true := decide_eq_true hk14
        have hkl : k < nv.length := by rw [HN.out]; exact hkN
        obtain ⟨g, off, ha, hg, hc⟩ := HEl.out k hkl
        subst ha
        have htk : nv.take (k + 1) = nv.take k ++ [nv[k]] := List.take_succ_eq_append_getElem hkl
        have hmem : nv[k] ∈ nv.take 15 := List.mem_take_iff_getElem.2 ⟨k, by omega, rfl⟩
        have hrl := (HOk.out _ (List.getElem_mem hkl)).2.2.len
        obtain ⟨nn, hnn⟩ : ∃ n, nv[k] = n := ⟨_, rfl⟩
        rw [hnn] at hc htk hmem hrl
        obtain ⟨⟨⟨j1, j2, j3⟩, sq, dl⟩, na, nc⟩ := nn
        obtain ⟨D, hD⟩ : ∃ D, dl.length = D := ⟨_, rfl⟩
        have d4 : w.cell? ⟨g, off + k * 5 + 4, none⟩ = some (.slice na D nc) := by
          have q := hc 4 (.slice na dl.length nc) rfl
          rw [hD] at q
          exact q
        rw [← HW.out] at d4
        have HD := Lib.hid hD
        have HTk := Lib.hid htk
        have HMem := Lib.hid hmem
        have hrl2 : D ≤ maxLen := by rw [← hD]; exact hrl
        have hD63 : D ≤ 9223372036854775807 := by unfold maxLen at hrl2; omega
        clear hc htk hmem hnn hrl hrl2 hg hD
        by_cases hD14 : 14 < D
        · have g1 : (14 : Int) < (D : Int) := by omega
          have g2 : decide ((14 : Int) < (D : Int)) = true := decide_eq_true g1
          have g3 : decide (14 < D) = true := decide_eq_true hD14
          have hB := HHit.out _ HMem.out (by show 14 < dl.length; rw [HD.out]; exact hD14)
          subst hB
          go_wp2
          go_ret
          exact ⟨rfl, by rw [HW.out]; exact Below.refl _ _⟩
        · have g1 : ¬ (14 : Int) < (D : Int) := by omega
          have g2 : decide ((14 : Int) < (D : Int)) = false := decide_eq_false g1
          have g3 : decide (14 < D) = false := decide_eq_false hD14
          have HK2 : Hid (∀ n ∈ nv.take (k + 1), n.d.dl.length ≤ 14) := Lib.hid (by
            rw [HTk.out]
            intro n hn
            rcases List.mem_append.1 hn with r | r
            · exact HK.out n r
            · simp at r
              subst r
              show dl.length ≤ 14
              rw [HD.out]; omega)
          clear HK
          go_wp2_with fail
          go_roundw
          case rel => exact ⟨k + 1, by omega, by omega, by go_num, HK2, HW⟩
          case measure => simp [intOf]; omega
      · have hk4 : ¬ (k : Int) ≤ 14 := by omega
        have hk5 : decide ((k : Int) ≤ 14) = false := decide_eq_false hk4
        have hk6 : decide (k ≤ 14) = false := decide_eq_false hk14
        have hB := HEnd.out (by obtain rfl : k = 15 := by omega
                                exact HK.out)
        have g1 : (14 : Int) < (N : Int) := by omega
        have g2 : decide ((14 : Int) < (N : Int)) = true := decide_eq_true g1
        have g3 : decide (14 < N) = true := decide_eq_true (by omega)
        rw [g3] at hB
        simp only [Bool.true_or] at hB
        subst hB
        go_wp2
        go_ret
        exact ⟨rfl, by rw [HW.out]; exact Below.refl _ _⟩
    · obtain rfl : k = N := by omega
      have hk2 : decide ((k : Int) < (k : Int)) = false := decide_eq_false (by omega)
      have hk3 : decide (k < k) = false := decide_eq_false (by omega)
      have hB := HEnd.out (fun n hn => HK.out n (by rw [List.take_of_length_le (by rw [HN.out]; exact Nat.le_refl _)]; exact List.mem_of_mem_take hn))
      by_cases h14 : 14 < k
      · have g1 : (14 : Int) < (k : Int) := by omega
        have g2 : decide ((14 : Int) < (k : Int)) = true := decide_eq_true g1
        have g3 : decide (14 < k) = true := decide_eq_true h14
        rw [g3] at hB
        simp only [Bool.true_or] at hB
        subst hB
        go_wp2
        go_ret
        exact ⟨rfl, by rw [HW.out]; exact Below.refl _ _⟩
      · have g1 : ¬ (14 : Int) < (k : Int) := by omega
        have g2 : decide ((14 : Int) < (k : Int)) = false := decide_eq_false g1
        have g3 : decide (14 < k) = false := decide_eq_false h14
        have g4 : decide ((14 : Int) < (M : Int)) = B := by
          rw [g3, Bool.false_or] at hB
          rw [← hB, decide_eq_decide]; omega
        have g5 : decide (14 < M) = B := by rw [← g4, decide_eq_decide]; omega
        clear hB
        go_wp2
        go_ret
        exact ⟨rfl, by rw [HW.out]; exact Below.refl _ _⟩
end Go.Proofs.Ytlckjpjcfalfnaa
