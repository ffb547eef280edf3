/-
  The walk of package attr's Agree; the document's example of layer 11.
-/
import Derived.Test.YtfngjdcagopapaaGreatAt5
import Derived.RegionTactic
namespace Go.Proofs.YtfngjdcagopapaaGreat
open Tc (ML)
open Go.RowKit
set_option linter.unusedSimpArgs false
set_option linter.unusedVariables false
set_option maxRecDepth 100000


set_option maxHeartbeats 4000000 in
theorem agree2_any (s : Int) (v : Value) (l : List I3) (W : World) (g : Nat) (hg : W.heap.size = g) (h : IK.Rd W v l) (ho : okL l) (hl : l.length ≤ 1000) :
    Calls Tryz.prog 16 #[.slice (some ⟨g, 0, none⟩) 2 2] (W.alloc (.cells #[.int .i64 s, v, .int .i64 s, v] aT)) fun e w' => e = .returned (.bool true) ∧ Below W.heap.size W w' := by
  subst hg
  obtain ⟨a, c, e⟩ := h.slice
  obtain ⟨N, hN⟩ : ∃ N, l.length = N := ⟨_, rfl⟩
  rw [hN] at e
  subst e
  have H := Lib.hid h
  have HSM : Hid (∀ W', Below W.heap.size W W' → Calls Tryz.prog 14 #[.agg #[.int .i64 s, .slice a N c], .agg #[.int .i64 s, .slice a N c]] W' fun e w' => e = .returned (.bool true) ∧ Below W'.heap.size W' w') := Lib.hid (fun W' hb => by
    have h1 := asame_any s s _ _ l l W' (h.below hb) ho hl (h.below hb) ho hl
    rw [sameA_self] at h1
    exact h1)
  have HB0 : Hid (Bk (W.alloc (.cells #[.int .i64 s, .slice a N c, .int .i64 s, .slice a N c] aT)) W.heap.size aT [.int .i64 s, .slice a N c, .int .i64 s, .slice a N c]) := Lib.hid (Bk.newAt rfl _ _)
  clear h ho hl hN
  go_enter Tryz.func16, Tryz.ntmps16
  go_wp2_with fail
  go_loopw [7] (fun i wr => ∃ k : Nat, k ≤ 2 ∧ i = .int .i64 k ∧ Hid (Bk wr W.heap.size aT [.int .i64 s, .slice a N c, .int .i64 s, .slice a N c]) ∧ Hid (Below W.heap.size W wr)) (fun i _ => 2 - (intOf i).toNat)
  case atStart => exact ⟨0, Nat.zero_le _, rfl, HB0, Lib.hid (al1 _ _)⟩
  case round =>
    clear HB0
    obtain ⟨k, hk, rfl, hA, hB⟩ := hrel
    have c0 := hA.out.cell 0
    have c1 := hA.out.cell 1
    have c2 := hA.out.cell 2
    have c3 := hA.out.cell 3
    simp only [List.getElem?_cons_zero, List.getElem?_cons_succ] at c0 c1 c2 c3
    have hz := hA.out.lt
    by_cases hlt : k < 2
    · have hlt' : (k : Int) < 2 := by omega
      have q0 : wr.cell? ⟨W.heap.size, k * 2, none⟩ = some (.int .i64 s) := by
        obtain rfl | rfl : k = 0 ∨ k = 1 := by omega
        · exact c0
        · exact c2
      have q1 : wr.cell? ⟨W.heap.size, k * 2 + 1, none⟩ = some (.slice a N c) := by
        obtain rfl | rfl : k = 0 ∨ k = 1 := by omega
        · exact c1
        · exact c3
      have HW2 : Hid (Below W.heap.size W (wr.alloc (.cells #[.int .i64 s, .slice a N c] aT))) := Lib.hid (hB.out.alloc hB.out.size _)
      have HA2 := Lib.hid (hA.out.old (.cells #[.int .i64 s, .slice a N c] aT))
      clear c2 c3
      go_wp2_with fail
      generalize hX : wr.alloc (.cells #[.int .i64 s, .slice a N c] aT) = X at *
      have y0 : X.cell? ⟨wr.heap.size, 0, none⟩ = some (.int .i64 s) := by rw [← hX]; exact (Bk.newAt rfl aT [.int .i64 s, .slice a N c]).cell 0
      have y1 : X.cell? ⟨wr.heap.size, 1, none⟩ = some (.slice a N c) := by rw [← hX]; exact (Bk.newAt rfl aT [.int .i64 s, .slice a N c]).cell 1
      have hzx : X.heap.size = wr.heap.size + 1 := by rw [← hX]; simp
      have p0 := HA2.out.cell 0
      have p1 := HA2.out.cell 1
      simp only [List.getElem?_cons_zero, List.getElem?_cons_succ] at p0 p1
      have hX0 : W.heap.size < X.heap.size := by omega
      have hX1 : wr.heap.size < X.heap.size := by omega
      have HC : Hid (∀ w' : World, Below X.heap.size X w' → (w'.cell? ⟨wr.heap.size, 0, none⟩ = some (.int .i64 s) ∧ w'.cell? ⟨wr.heap.size, 1, none⟩ = some (.slice a N c) ∧ w'.cell? ⟨W.heap.size, 0, none⟩ = some (.int .i64 s) ∧ w'.cell? ⟨W.heap.size, 1, none⟩ = some (.slice a N c) ∧ Below X.heap.size X w')) :=
        Lib.hid (fun w' hb => ⟨(hb.cell (p := ⟨wr.heap.size, 0, none⟩) hX1).trans y0, (hb.cell (p := ⟨wr.heap.size, 1, none⟩) hX1).trans y1, (hb.cell (p := ⟨W.heap.size, 0, none⟩) hX0).trans p0, (hb.cell (p := ⟨W.heap.size, 1, none⟩) hX0).trans p1, hb⟩)
      have HSX : Hid (∀ W', Below X.heap.size X W' → Calls Tryz.prog 14 #[.agg #[.int .i64 s, .slice a N c], .agg #[.int .i64 s, .slice a N c]] W' fun e w' => e = .returned (.bool true) ∧ Below W'.heap.size W' w') := Lib.hid (fun W' hb => HSM.out W' (HW2.out.trans (hb.mono HW2.out.size)))
      clear hX y0 y1 p0 p1 hzx c0 c1 q0 q1 hA hB
      go_region_held3 (fun w' => w'.cell? ⟨wr.heap.size, 0, none⟩ = some (.int .i64 s) ∧ w'.cell? ⟨wr.heap.size, 1, none⟩ = some (.slice a N c) ∧ w'.cell? ⟨W.heap.size, 0, none⟩ = some (.int .i64 s) ∧ w'.cell? ⟨W.heap.size, 1, none⟩ = some (.slice a N c) ∧ Below X.heap.size X w')
        (first
          | exact HC.out _ (Below.refl _ _).drew
          | (go_split_ands; exact HC.out _ (by assumption))
          | (go_split_ands; exact HC.out _ (below_self (by assumption) (by assumption)))
          | (go_split_ands; exact HC.out _ (Below.drew (by assumption)))
          | fail)
        (first
          | (go_at_call 14; go_split_ands; refine (HSX.out _ (by assumption)).mono ?_; rintro e w5 ⟨rfl, hbw5⟩; have hS5 : Below X.heap.size X w5 := below_self (by assumption) hbw5)
          | fail)
      all_goals
        go_split_ands
        have HL : Hid (Below X.heap.size X _) := Lib.hid (by assumption)
        have HA3 := Lib.hid (HA2.out.below HL.out)
        have HB3 := Lib.hid (HW2.out.trans (HL.out.mono HW2.out.size))
        go_wp2
        go_roundw
        case rel => exact ⟨k + 1, by omega, by go_num, HA3, HB3⟩
        case measure => simp [intOf]; omega
    · obtain rfl : k = 2 := by omega
      go_wp2
      go_ret
      exact ⟨rfl, hB.out⟩
end Go.Proofs.YtfngjdcagopapaaGreat
