/-
  The walks of the document's Clean, Union, Less2.
-/
import Derived.Test.YtplplehfkfjhnaaIdsA
namespace Go.Proofs.Ytplplehfkfjhnaa
open Go.RowKit Go.Sort Go.Shelf Go.Lib
set_option linter.unusedSimpArgs false
set_option linter.unusedVariables false

theorem clnI_take (l : List I3) (k : Nat) (hk : k < l.length) (X : I3) (hX : l.getD k (0, 0, 0) = X) : clnI (l.take (k + 1)) = putI (clnI (l.take k)) X := by
  rw [List.take_succ_eq_append_getElem hk, clnI_snoc]
  congr 1
  rw [← hX]; simp [List.getD, hk]
set_option maxRecDepth 100000 in
set_option maxHeartbeats 1000000 in
theorem rclean_any (v : Value) (l : List I3) (w : World) (h : IK.Rd w v l) (hn : l.length ≤ 5000) :
    Calls Try.prog 42 #[v] w (RowP (clnI l) w) := by
  obtain ⟨a, c, e⟩ := h.slice
  subst e
  obtain ⟨N, hN⟩ : ∃ N, l.length = N := ⟨_, rfl⟩
  rw [hN] at h hn ⊢
  have HN := Lib.hid hN
  have HRD := Lib.hid h
  clear hN h
  go_enter Try.func42, Try.ntmps42
  go_wp2_with fail
  go_loopw [3, 4] (fun o i wr => ∃ (k : Nat) (vo : Value), k ≤ N ∧ vo = o ∧ i = .int .i64 k ∧ Hid (IK.Own wr w.heap.size vo (clnI (l.take k))) ∧ Hid (Below w.heap.size w wr)) (fun _ i _ => N - (intOf i).toNat)
  case atStart => exact ⟨0, _, Nat.zero_le _, rfl, rfl, Lib.hid (Knd.Own.nil _ _), Lib.hid (Below.refl _ _)⟩
  case round =>
    obtain ⟨k, vo, hk, rfl, rfl, hO, hB⟩ := hrel
    by_cases hlt : k < N
    · have hlt' : (k : Int) < (N : Int) := by omega
      have hkb : (k : Int) ≤ 5000 := by omega
      obtain ⟨e0, g2, off2, hda, hg2, q1, q2, q3, hjl⟩ := idCell (HRD.out.below hB.out) k hlt
      obtain ⟨⟨y1, y2, y3⟩, hX⟩ : ∃ X, l.getD k (0, 0, 0) = X := ⟨_, rfl⟩
      rw [hX] at q1 q2 q3
      have hcl := put_any w.heap.size vo (clnI (l.take k)) y1 y2 y3 wr hO.out hB.out.size (by have := len_clnI (l.take k); have := List.length_take_le k l; omega)
      rw [← clnI_take l k hjl _ hX] at hcl
      have HC := Lib.hid hcl
      subst hda
      clear hX hjl e0 hcl hO
      go_wp2_with fail
      refine HC.out.mono ?_
      rintro e w2 ⟨v2, he, ho2, hb2⟩
      rw [he.out]
      have O2 := Lib.hid ho2
      have B2 : Hid (Below w.heap.size w w2) := Lib.hid (hB.out.trans (hb2.mono hB.out.size))
      clear ho2 hb2 he hB HC q1 q2 q3
      go_wp2
      go_roundw
      case rel => exact ⟨k + 1, v2, by omega, rfl, by go_num, O2, B2⟩
      case measure => simp [intOf]; omega
    · obtain rfl : k = N := by omega
      have hO2 := hO.out
      rw [List.take_of_length_le (by rw [HN.out]; exact Nat.le_refl _)] at hO2
      have HO2 := Lib.hid hO2
      clear hO hO2
      go_wp2
      go_ret
      exact ⟨_, Lib.hid rfl, HO2.out, hB.out⟩
theorem take_filter (a b : List I3) (k : Nat) (hk : k < a.length) (X : I3) (hX : a.getD k (0, 0, 0) = X) : (a.take (k + 1)).filter (fun x => !hasI b x) = (a.take k).filter (fun x => !hasI b x) ++ (if hasI b X then [] else [X]) := by
  rw [List.take_succ_eq_append_getElem hk, List.filter_append]
  congr 1
  have : a[k] = X := by rw [← hX]; simp [List.getD, hk]
  rw [this]
  cases h : hasI b X <;> simp [h]
end Go.Proofs.Ytplplehfkfjhnaa
