/-
  The walks of the document's Digits, and of both Shows.
-/
import Derived.Test.YtmkmdgehgllnbaaDoorIdsC
namespace Go.Proofs.YtmkmdgehgllnbaaDoor
open Go.RowKit Go.Sort Go.Shelf Go.Lib
set_option linter.unusedSimpArgs false
set_option linter.unusedVariables false

def emptyN : Value → Nat
  | .string t => if t.size = 0 then 1 else 0
  | _ => 0
theorem emptyN_str (t : ByteArray) : emptyN (.string t) = if t.size = 0 then 1 else 0 := rfl
set_option maxRecDepth 100000 in
set_option maxHeartbeats 2000000 in
theorem digits_pos (u : Nat) (hu : u ≤ 9223372036854775807) (w : World) :
    Calls Tryd.prog 28 #[.int .i64 (u : Int)] w fun e w' => e = .returned (.string (dd u)) ∧ Below w.heap.size w w' := by
  have hne : ((u : Int) == -9223372036854775808) = false := by simp
  have hneg : decide ((u : Int) < 0) = false := by simp
  obtain ⟨R, hR⟩ : ∃ R, dd u = R := ⟨_, rfl⟩
  rw [hR]
  have HR := Lib.hid hR
  clear hR
  go_enter Tryd.func28, Tryd.ntmps28
  go_wp2_with fail
  clear hne hneg
  go_loopw [0, 3] (fun n s wr => ∃ (m : Nat) (t : ByteArray), n = .int .i64 (m : Int) ∧ s = .string t ∧ Hid (m ≤ u) ∧ Hid (DigI u m t) ∧ Hid (Below w.heap.size w wr)) (fun n s _ => 2 * (intOf n).toNat + emptyN s)
  case atStart => exact ⟨u, _, rfl, rfl, Lib.hid (Nat.le_refl _), Lib.hid (.inl ⟨rfl, rfl⟩), Lib.hid (Below.refl _ _)⟩
  case round =>
    obtain ⟨m, t, rfl, rfl, hm, hD, hB⟩ := hrel
    have hmu := hm.out
    have hts : t.size ≤ 20 := by
      rcases hD.out with ⟨rfl, _⟩ | ⟨_, h, _⟩
      · simp
      · exact h
    have hz := hB.out.size
    have m1 : (m : Int).tmod 10 = (m : Int) % 10 := IntWalk.rem_in _ _ (by omega)
    have m2 : IntKind.i64.wrap ((m : Int).tdiv 10) = (m : Int) / 10 := IntWalk.i64_quo _ _ ⟨by omega, by omega, by omega⟩
    have m2' : wrap64 ((m : Int) / 10) = (m : Int) / 10 := by unfold wrap64; omega
    have m3 : IntKind.i64.wrap (48 + (m : Int) % 10) = 48 + (m : Int) % 10 := IntWalk.i64_in _ (by omega)
    have m4 : IntKind.u8.wrap (48 + (m : Int) % 10) = 48 + (m : Int) % 10 := IntWalk.u8_in _ (by omega)
    have kx := fun (W : World) => text_byte W (48 + (m : Int) % 10) (0, 0)
    have zs : (txt [48 + (m : Int) % 10]).size = 1 := txt_size _
    have zn : ¬ (9223372036854775807 < 1 + t.size) := by omega
    by_cases h0 : 0 < m
    · have hd : decide (0 < m) = true := decide_eq_true h0
      have HD2 := Lib.hid (hD.out.step (by omega) (.inr (by omega)))
      clear hts hmu
      go_wp2
      go_roundw
      case rel => exact ⟨m / 10, _, by rw [m2']; simp, rfl, Lib.hid (by have := hm.out; omega), HD2, Lib.hid (hB.out.alloc hz _)⟩
      case measure =>
        rw [m2']
        have : emptyN (.string (txt [48 + (m : Int) % 10] ++ t)) = 0 := by
          rw [emptyN_str, ByteArray.size_append, zs, if_neg (by omega)]
        rw [this]
        simp [intOf]
        omega
    · obtain rfl : m = 0 := by omega
      by_cases he : t = ByteArray.empty
      · subst he
        have HD2 : Hid (DigI u 0 (txt [48] ++ ByteArray.empty)) := Lib.hid (by have h := hD.out.step (by omega) (.inl rfl); simpa using h)
        have kx2 := fun (W : World) => text_byte W 48 (0, 0)
        have zs2 : (txt [48]).size = 1 := txt_size _
        clear hts hmu kx m1 m2 m2' m3 m4 zs
        go_wp2
        go_roundw
        case rel => exact ⟨0, _, by first | rfl | go_num, rfl, Lib.hid (by have := hm.out; omega), HD2, Lib.hid (hB.out.alloc hz _)⟩
        case measure =>
          have h1 : emptyN (.string (txt [48])) = 0 := by rw [emptyN_str, zs2, if_neg (by omega)]
          have h2 : emptyN (.string ByteArray.empty) = 1 := rfl
          first
            | (rw [h1, h2]; simp [intOf])
            | (simp [intOf]; omega)
      · have hf := hD.out.done he
        have HF := Lib.hid hf
        have hte : t.toList.isEmpty = false := by
          rw [List.isEmpty_eq_false_iff, ByteArray.toList_eq]
          intro q
          exact he (ByteArray.ext (by simpa using q))
        clear hts hmu kx m1 m2 m2' m3 m4 zs zn hf
        go_wp2
        go_ret
        exact ⟨ret_str (by rw [← HR.out, HF.out]), hB.out⟩
set_option maxRecDepth 100000 in
theorem its_min : its (-9223372036854775808) = { data := #[45, 57, 50, 50, 51, 51, 55, 50, 48, 51, 54, 56, 53, 52, 55, 55, 53, 56, 48, 56] } := by
  unfold its Lib.itoa
  apply ByteArray.ext
  simp [Lib.decDigits]
set_option maxRecDepth 100000 in
set_option maxHeartbeats 1000000 in
theorem digits_any (n : Int) (h0 : -9223372036854775808 ≤ n) (h1 : n ≤ 9223372036854775807) (w : World) :
    Calls Tryd.prog 28 #[.int .i64 n] w fun e w' => e = .returned (.string (its n)) ∧ Below w.heap.size w w' := by
  by_cases hm : n = -9223372036854775808
  · subst hm
    rw [its_min]
    go_enter Tryd.func28, Tryd.ntmps28
    go_wp2
    go_ret
    exact ⟨rfl, Below.refl _ _⟩
  · by_cases hn : 0 ≤ n
    · obtain ⟨u, rfl⟩ := Int.eq_ofNat_of_zero_le hn
      have := digits_pos u (by omega) w
      rw [its_pos hn]
      simpa using this
    · have hc := fun W => digits_pos (-n).toNat (by omega) W
      have e1 : (((-n).toNat : Nat) : Int) = -n := by omega
      have hs := dd_size (-n).toNat (by omega)
      have hi := its_neg (n := n) (by omega)
      obtain ⟨D, hD⟩ : ∃ D, dd (-n).toNat = D := ⟨_, rfl⟩
      obtain ⟨R, hR⟩ : ∃ R, its n = R := ⟨_, rfl⟩
      rw [hR]
      rw [hD, hR] at hi
      rw [hD] at hs
      rw [hD] at hc
      rw [e1] at hc
      have HC := Lib.hid hc
      have HI := Lib.hid hi
      have zn : ¬ (9223372036854775807 < 1 + D.size) := by omega
      have k1 : (n == -9223372036854775808) = false := by simp; exact hm
      have k2 : decide (n < 0) = true := decide_eq_true (by omega)
      have k3 : IntKind.i64.wrap (-n) = -n := IntWalk.i64_in _ (by omega)
      have k4 : wrap64 (-n) = -n := by unfold wrap64; omega
      clear hc hi hD hR e1 hs hm hn
      go_enter Tryd.func28, Tryd.ntmps28
      go_wp2_with fail
      try rw [k4]
      refine (HC.out _).mono ?_
      rintro e w1 ⟨rfl, hb⟩
      have HB := Lib.hid hb
      clear hb
      go_wp2
      go_ret
      exact ⟨ret_str (by rw [HI.out]; rfl), HB.out⟩
end Go.Proofs.YtmkmdgehgllnbaaDoor
