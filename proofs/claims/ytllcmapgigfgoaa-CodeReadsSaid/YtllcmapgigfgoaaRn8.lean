/-
  The walk of package num's reader: a text that is the last of a row without spare room.
-/
import Derived.Test.YtllcmapgigfgoaaRn7
namespace Go.Proofs.Ytllcmapgigfgoaa
open Go.RowKit
set_option linter.unusedSimpArgs false
set_option linter.unusedVariables false

set_option maxHeartbeats 4000000 in
theorem rtext_rest (b g off cap k m : Nat) (most : Int) (xs : List Int) (w : World) (h : RdAt w b xs 0) (hx : ∀ x ∈ xs, 0 ≤ x ∧ x ≤ 255) (hl : xs.length ≤ 1000000000) (hN : numG 8 0 0 xs = ((m : Int), (k : Int), 0)) (hk : k + m ≤ xs.length) (hm : (m : Int) ≤ most)
    (hcap : xs.length ≤ cap) (hc1 : ¬ k = cap) (hc2 : cap = k + m) (c0 : w.cell? ⟨b, 0, none⟩ = some (.slice (some ⟨g, off, none⟩) xs.length cap)) (hb : BRd w (some ⟨g, off, none⟩) xs) (hgb : g ≠ b) (hcm : cap ≤ 9223372036854775807) :
    Calls Try.prog 117 #[.pointer (some ⟨b, 0, none⟩), .int .i64 most] w fun e w' => e = .returned (.string (txt ((xs.drop k).take m))) ∧ RdAt w' b (xs.drop (k + m)) 0 ∧ Onl b w w' := by
  obtain ⟨c1, f0, f1, hs, _, _⟩ := h
  have HB := Lib.hid hb
  have HX := Lib.hid hx
  have HN := Lib.hid hN
  have hcv := conv_brd (c := cap - k) (brd_take (m := m) (brd_drop hb (by omega : k ≤ xs.length)))
  rw [show ((xs.drop k).take m).length = m from by simp; omega] at hcv
  clear hb hx hN
  have k1 : k ≤ cap := by omega
  have k3 : ¬ cap = k := by omega
  have k6 : k + m ≤ cap := by omega
  have k7 : cap ≤ k + m := by omega
  have k5 := eq_true hc2
  clear hc2
  have t1 : decide (most < (m : Int)) = false := by simp; omega
  have t2 : decide ((xs.length : Int) - (k : Int) < (m : Int)) = false := by simp; omega
  go_enter Try.func117, Try.ntmps117
  go_wp2_with (go_at_call 118; refine (number_any _ _ xs _ HB.out HX.out).mono ?_; rw [HN.out]; rintro e w1 ⟨rfl, rfl⟩)
  go_ret
  have hd : (xs.drop (k + m)).length = xs.length - (k + m) := by simp
  have hz : xs.length - (k + m) = 0 := by omega
  have hz2 : cap - (k + m) = 0 := by omega
  refine ⟨rfl, ⟨by simp [go_sem, *], by simp [go_sem, *], by simp [go_sem, *], by simpa using hs, ⟨some ⟨g, off, none⟩, cap - (k + m), by rw [hd]; simp [go_sem, *], ⟨by rw [hd]; omega, .inl (List.eq_nil_of_length_eq_zero (by rw [hd]; exact hz))⟩, (fun q => by cases q), by rw [hd]; omega, by omega, fun x q => by cases q; rfl⟩, ?_⟩, (Onl.refl b _).set0 c0 (by intro ad' q; cases q <;> exact ⟨_, rfl, rfl⟩) (by simp [go_sem, c0])⟩
  intro a2 cap2 hc
  rw [hd] at hc
  simp [go_sem, *] at hc
  rw [← hc.1]; exact hgb
set_option maxHeartbeats 4000000 in
theorem rtext_edge (b g off cap k m : Nat) (most : Int) (xs : List Int) (w : World) (h : RdAt w b xs 0) (hx : ∀ x ∈ xs, 0 ≤ x ∧ x ≤ 255) (hl : xs.length ≤ 1000000000) (hN : numG 8 0 0 xs = ((m : Int), (k : Int), 0)) (hk : k + m ≤ xs.length) (hm : (m : Int) ≤ most)
    (hcap : xs.length ≤ cap) (hc1 : cap = k) (hc2 : cap = k + m) (c0 : w.cell? ⟨b, 0, none⟩ = some (.slice (some ⟨g, off, none⟩) xs.length cap)) (hb : BRd w (some ⟨g, off, none⟩) xs) (hgb : g ≠ b) (hcm : cap ≤ 9223372036854775807) :
    Calls Try.prog 117 #[.pointer (some ⟨b, 0, none⟩), .int .i64 most] w fun e w' => e = .returned (.string (txt ((xs.drop k).take m))) ∧ RdAt w' b (xs.drop (k + m)) 0 ∧ Onl b w w' := by
  obtain ⟨c1, f0, f1, hs, _, _⟩ := h
  have HB := Lib.hid hb
  have HX := Lib.hid hx
  have HN := Lib.hid hN
  have hcv := conv_brd (c := cap - k) (xs := (xs.drop k).take m) (w := w) (g := g) (off := off) ⟨by simp; omega, .inl (by rw [show m = 0 from by omega]; rfl)⟩
  rw [show ((xs.drop k).take m).length = m from by simp; omega] at hcv
  clear hb hx hN
  have k1 : k ≤ cap := by omega
  have k3 := eq_true hc1
  have k6 : k + m ≤ cap := by omega
  have k7 : cap ≤ k + m := by omega
  have k5 := eq_true hc2
  clear hc2 hc1
  have t1 : decide (most < (m : Int)) = false := by simp; omega
  have t2 : decide ((xs.length : Int) - (k : Int) < (m : Int)) = false := by simp; omega
  go_enter Try.func117, Try.ntmps117
  go_wp2_with (go_at_call 118; refine (number_any _ _ xs _ HB.out HX.out).mono ?_; rw [HN.out]; rintro e w1 ⟨rfl, rfl⟩)
  go_ret
  have hd : (xs.drop (k + m)).length = xs.length - (k + m) := by simp
  have hz : xs.length - (k + m) = 0 := by omega
  have hz2 : cap - (k + m) = 0 := by omega
  refine ⟨rfl, ⟨by simp [go_sem, *], by simp [go_sem, *], by simp [go_sem, *], by simpa using hs, ⟨some ⟨g, off, none⟩, cap - (k + m), by rw [hd]; simp [go_sem, *], ⟨by rw [hd]; omega, .inl (List.eq_nil_of_length_eq_zero (by rw [hd]; exact hz))⟩, (fun q => by cases q), by rw [hd]; omega, by omega, fun x q => by cases q; rfl⟩, ?_⟩, (Onl.refl b _).set0 c0 (by intro ad' q; cases q <;> exact ⟨_, rfl, rfl⟩) (by simp [go_sem, c0])⟩
  intro a2 cap2 hc
  rw [hd] at hc
  simp [go_sem, *] at hc
  rw [← hc.1]; exact hgb
end Go.Proofs.Ytllcmapgigfgoaa
