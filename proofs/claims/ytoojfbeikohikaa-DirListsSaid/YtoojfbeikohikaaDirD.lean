/-
  order: paths.Less, as sorting asks for it.
-/
import Derived.Test.YtoojfbeikohikaaDirC
import Derived.Test.YtoojfbeikohikaaDrw3
import Derived.Test.YtoojfbeikohikaaRowS
namespace Go.Proofs.Ytoojfbeikohikaa
open Go.RowKit Go.Sort Go.Shelf
set_option linter.unusedSimpArgs false
set_option linter.unusedVariables false

theorem Bel.grew {w w' : World} (h : Bel w w') : ∃ q os, w' = grow (w.drewN q) os := by
  obtain ⟨hb, hd⟩ := h
  refine ⟨w'.drawn - w.drawn, w'.heap.extract w.heap.size w'.heap.size, ?_⟩
  have e : w'.heap = w.heap ++ w'.heap.extract w.heap.size w'.heap.size := by
    apply Array.ext_getElem?
    intro k
    by_cases hk : k < w.heap.size
    · rw [Array.getElem?_append_left hk, hb.block k hk]
    · rw [Array.getElem?_append_right (by omega), Array.getElem?_extract]
      have := hb.size
      by_cases h2 : k < w'.heap.size
      · rw [if_pos (by omega)]
        congr 1
        omega
      · rw [if_neg (by omega), Array.getElem?_eq_none (by omega)]
  obtain ⟨hp, tp, dr, os, ou⟩ := w'
  have h1 := hb.os
  have h2 := hb.tape
  have h3 := hb.output
  simp only at e h1 h2 h3 hd
  unfold grow
  simp only [World.drewN]
  rw [← e, h1, h2, h3, Nat.add_sub_cancel' hd]
def ordD (a b : E3) : Int := if lsr a.1 b.1 then -1 else if lsr b.1 a.1 then 1 else 0
abbrev enV (e : E3) : Value := .agg #[.string e.1, .string e.2.1, .int .i64 e.2.2]
set_option maxHeartbeats 1000000 in
theorem order_any (p1 v1 : ByteArray) (n1 : Int) (p2 v2 : ByteArray) (n2 : Int) (w : World) (h1 : p1.size ≤ 1000) (h2 : p2.size ≤ 1000) (hm : ML w) :
    Calls Try.prog 27 #[.agg #[.string p1, .string v1, .int .i64 n1], .agg #[.string p2, .string v2, .int .i64 n2]] w fun e w' => e = .returned (.int .i64 (ordD (p1, v1, n1) (p2, v2, n2))) ∧ Bel w w' := by
  obtain ⟨X, hX⟩ : ∃ X, (w.alloc (.cells #[.string p1, .string v1, .int .i64 n1] 43)).alloc (.cells #[.string p2, .string v2, .int .i64 n2] 43) = X := ⟨_, rfl⟩
  have hB : Bel w X := by rw [← hX]; exact ((Bel.refl w).alloc _).alloc _
  have k1 : X.cell? ⟨w.heap.size, 0, none⟩ = some (.string p1) := by rw [← hX]; simp [go_sem]
  have k2 : X.cell? ⟨w.heap.size + 1, 0, none⟩ = some (.string p2) := by rw [← hX]; simp [go_sem]
  have hz : w.heap.size + 1 < X.heap.size := by rw [← hX]; simp
  have HL1 := Lib.hid (less_drw p1 p2 X h1 h2 (hm.below hB.1))
  have HL2 : Hid (∀ W, Bel w W → Calls Try.prog 28 #[.string p2, .string p1] W fun e w' => e = .returned (.bool (lsr p2 p1)) ∧ Bel W w') := Lib.hid (fun W hW => less_drw p2 p1 W h2 h1 (hm.below hW.1))
  have HB := Lib.hid hB
  have K1 := Lib.hid k1
  have K2 := Lib.hid k2
  have HZ := Lib.hid hz
  obtain ⟨A, hA⟩ : ∃ A, lsr p1 p2 = A := ⟨_, rfl⟩
  obtain ⟨B, hBB⟩ : ∃ B, lsr p2 p1 = B := ⟨_, rfl⟩
  rw [hA] at HL1
  rw [hBB] at HL2
  have HO : Hid (ordD (p1, v1, n1) (p2, v2, n2) = if A then -1 else if B then 1 else 0) := Lib.hid (by simp [ordD, hA, hBB])
  clear hA hBB hB hz h1 h2 hm
  go_enter Try.func27, Try.ntmps27
  go_wp2_with fail
  refine HL1.out.mono ?_
  rintro e w1 ⟨rfl, hb⟩
  have HB1 := Lib.hid (Bel.trans HB.out hb)
  have k1 := (hb.1.cell (p := ⟨w.heap.size, 0, none⟩) (by have := HZ.out; show w.heap.size < _; omega)).trans K1.out
  have k2 := (hb.1.cell (p := ⟨w.heap.size + 1, 0, none⟩) HZ.out).trans K2.out
  clear hb hX
  cases A with
  | true =>
    go_wp2
    go_ret
    exact ⟨by rw [HO.out]; rfl, HB1.out⟩
  | false =>
    go_wp2_with fail
    refine (HL2.out w1 HB1.out).mono ?_
    rintro e w2 ⟨rfl, hb⟩
    have HB2 := Lib.hid (Bel.trans HB1.out hb)
    clear hb
    cases B
    all_goals
      go_wp2
      go_ret
      exact ⟨by rw [HO.out]; rfl, HB2.out⟩
end Go.Proofs.Ytoojfbeikohikaa
