/-
  The document's answers on names and paths of names.
-/
import Derived.Test.YtdhmalpeooobfaaPthU
namespace Go.Proofs.Ytdhmalpeooobfaa
open Go.RowKit
set_option linter.unusedSimpArgs false
set_option linter.unusedVariables false

theorem at_list (s : ByteArray) (k : Nat) (h : k < s.size) : s.data.toList.drop k = s[k] :: s.data.toList.drop (k + 1) := by
  have hl : k < s.data.toList.length := by rw [← Lib.size_eq]; exact h
  rw [List.drop_eq_getElem_cons hl]
  rfl
theorem all_take (s : ByteArray) (k : Nat) (h : k < s.size) : (s.data.toList.take (k + 1)).all okc = ((s.data.toList.take k).all okc && okc s[k]) := by
  have hl : k < s.data.toList.length := by rw [← Lib.size_eq]; exact h
  rw [List.take_succ_eq_append_getElem hl, List.all_append]
  simp only [List.all_cons, List.all_nil, Bool.and_true]
  rfl
theorem all_no (s : ByteArray) (k : Nat) (h : k < s.size) (ho : okc s[k] = false) : nmS s = false := by
  rw [nmS_len]
  have : s.data.toList.all okc = false := by
    rw [Bool.eq_false_iff, ne_eq, List.all_eq_true]
    intro hc
    have hl : k < s.data.toList.length := by rw [← Lib.size_eq]; exact h
    have := hc s.data.toList[k] (List.getElem_mem hl)
    have e : s.data.toList[k] = s[k] := rfl
    rw [e, ho] at this
    cases this
  rw [this]
  rfl
set_option maxHeartbeats 1000000 in
theorem rname_any (s : ByteArray) (w : World) (hs : s.size ≤ 9223372036854775807) : Calls Try.prog 35 #[.string s] w fun e w' => e = .returned (.bool (nmS s)) ∧ w = w' := by
  obtain ⟨B, hB⟩ : ∃ B, nmS s = B := ⟨_, rfl⟩
  rw [hB]
  have HB := Lib.hid hB
  clear hB
  go_enter Try.func35, Try.ntmps35
  go_wp2_with fail
  go_loop [3] (fun i => ∃ k : Nat, k ≤ s.size ∧ i = .int .i64 k ∧ Hid ((s.data.toList.take k).all okc = true)) (fun i => s.size - (intOf i).toNat)
  case atStart => exact ⟨0, Nat.zero_le _, rfl, Lib.hid (by simp)⟩
  case round =>
    obtain ⟨k, hk, rfl, hA⟩ := hrel
    by_cases hlt : k < s.size
    · have HT := Lib.hid (all_take s k hlt)
      have HN := Lib.hid (all_no s k hlt)
      have hlt' : (k : Int) < (s.size : Int) := by omega
      cases hO : okc s[k] with
      | true =>
        have HT2 : Hid ((s.data.toList.take (k + 1)).all okc = true) := Lib.hid (by rw [HT.out, hA.out, hO]; rfl)
        have hO2 := hO
        unfold okc at hO2
        simp only [Bool.or_eq_true, Bool.and_eq_true, decide_eq_true_eq] at hO2
        clear hO HT HN
        obtain ⟨c, hc⟩ : ∃ c : Nat, s[k].toNat = c := ⟨_, rfl⟩
        rw [hc] at hO2
        have hcase : (97 ≤ c ∧ c ≤ 122) ∨ (¬ 97 ≤ c ∧ 48 ≤ c ∧ c ≤ 57) ∨ (c = 45) ∨ (c = 95) := by omega
        rcases hcase with ⟨q1, q2⟩ | ⟨q1, q2, q3⟩ | q | q
        · have z1 : (97 : Int) ≤ (c : Int) := by omega
          have z2 : (c : Int) ≤ 122 := by omega
          clear hO2 q1 q2
          go_wp2
          go_round
          case rel => exact ⟨k + 1, by omega, by go_num, HT2⟩
          case measure => simp [intOf]; omega
        · have z1 : ¬ (97 : Int) ≤ (c : Int) := by omega
          have z2 : (48 : Int) ≤ (c : Int) := by omega
          have z3 : (c : Int) ≤ 57 := by omega
          clear hO2 q1 q2 q3
          go_wp2
          go_round
          case rel => exact ⟨k + 1, by omega, by go_num, HT2⟩
          case measure => simp [intOf]; omega
        · rw [q] at hc
          clear hO2 q
          go_wp2
          go_round
          case rel => exact ⟨k + 1, by omega, by go_num, HT2⟩
          case measure => simp [intOf]; omega
        · rw [q] at hc
          clear hO2 q
          go_wp2
          go_round
          case rel => exact ⟨k + 1, by omega, by go_num, HT2⟩
          case measure => simp [intOf]; omega
      | false =>
        have hBf : B = false := by rw [← HB.out]; exact HN.out hO
        subst hBf
        have hO2 : ¬ (okc s[k] = true) := by rw [hO]; simp
        unfold okc at hO2
        simp only [Bool.or_eq_true, Bool.and_eq_true, decide_eq_true_eq] at hO2
        clear hO HT HN HB
        obtain ⟨c, hc⟩ : ∃ c : Nat, s[k].toNat = c := ⟨_, rfl⟩
        rw [hc] at hO2
        have z1 : ((c : Int) == 45) = false := by simp; omega
        have z2 : ((c : Int) == 95) = false := by simp; omega
        have hcase : (97 ≤ c ∧ ¬ c ≤ 122) ∨ (¬ 97 ≤ c ∧ 48 ≤ c ∧ ¬ c ≤ 57) ∨ (¬ 97 ≤ c ∧ ¬ 48 ≤ c) := by omega
        rcases hcase with ⟨q1, q2⟩ | ⟨q1, q2, q3⟩ | ⟨q1, q2⟩
        · have z3 : (97 : Int) ≤ (c : Int) := by omega
          have z4 : ¬ (c : Int) ≤ 122 := by omega
          have z5 : (48 : Int) ≤ (c : Int) := by omega
          have z6 : ¬ (c : Int) ≤ 57 := by omega
          clear hO2 q1 q2
          go_wp2
          go_ret
          exact ⟨rfl, rfl⟩
        · have z3 : ¬ (97 : Int) ≤ (c : Int) := by omega
          have z5 : (48 : Int) ≤ (c : Int) := by omega
          have z6 : ¬ (c : Int) ≤ 57 := by omega
          clear hO2 q1 q2 q3
          go_wp2
          go_ret
          exact ⟨rfl, rfl⟩
        · have z3 : ¬ (97 : Int) ≤ (c : Int) := by omega
          have z5 : ¬ (48 : Int) ≤ (c : Int) := by omega
          clear hO2 q1 q2
          go_wp2
          go_ret
          exact ⟨rfl, rfl⟩
    · have hlt' : ¬ (k : Int) < (s.size : Int) := by omega
      have e : s.data.toList.all okc = true := by
        have := hA.out
        rw [List.take_of_length_le (by rw [← Lib.size_eq]; omega)] at this
        exact this
      have e2 := nmS_len s
      rw [e, Bool.true_and, HB.out] at e2
      by_cases h1 : 1 ≤ s.size
      · by_cases h2 : s.size ≤ 16
        · have e3 : B = true := by rw [e2]; simp [h1, h2]
          subst e3
          have z1 : (1 : Int) ≤ (s.size : Int) := by omega
          have z2 : (s.size : Int) ≤ 16 := by omega
          clear e e2 hA HB
          go_wp2
          go_ret
          exact ⟨rfl, rfl⟩
        · have e3 : B = false := by rw [e2]; simp [h2]
          subst e3
          have z1 : (1 : Int) ≤ (s.size : Int) := by omega
          have z2 : ¬ (s.size : Int) ≤ 16 := by omega
          clear e e2 hA HB
          go_wp2
          go_ret
          exact ⟨rfl, rfl⟩
      · have e3 : B = false := by rw [e2]; simp [h1]
        subst e3
        have z1 : ¬ (1 : Int) ≤ (s.size : Int) := by omega
        clear e e2 hA HB
        go_wp2
        go_ret
        exact ⟨rfl, rfl⟩
end Go.Proofs.Ytdhmalpeooobfaa
