/-
  The document's example of package ids.
-/
import Derived.Test.YtmkmdgehgllnbaaDoorIdsE
namespace Go.Proofs.YtmkmdgehgllnbaaDoor
open Go.RowKit Go.Sort Go.Shelf Go.Lib
set_option linter.unusedSimpArgs false
set_option linter.unusedVariables false

theorem ex_u : uniI [(1, 1, 4)] [(1, 2, 3), (1, 1, 4)] = [(1, 2, 3), (1, 1, 4)] := by decide +kernel
theorem ex_l : lesI [(1, 2, 3), (1, 1, 4)] [(1, 2, 3)] = [(1, 1, 4)] := by decide +kernel
theorem ok_a : okI (1, 2, 3) := ⟨by decide, by decide, by decide⟩
theorem ok_b : okI (1, 1, 4) := ⟨by decide, by decide, by decide⟩
theorem ok_l (l : List I3) (h : l = [(1, 2, 3), (1, 1, 4)] ∨ l = [(1, 1, 4), (1, 2, 3)] ∨ l = [(1, 2, 3), (1, 2, 3)] ∨ l = [(1, 2, 3)] ∨ l = [(1, 1, 4)]) : okL l := by
  intro x hx
  rcases h with rfl | rfl | rfl | rfl | rfl <;> simp at hx
  · rcases hx with rfl | rfl
    · exact ok_a
    · exact ok_b
  · rcases hx with rfl | rfl
    · exact ok_b
    · exact ok_a
  · subst hx; exact ok_a
  · subst hx; exact ok_a
  · subst hx; exact ok_b
theorem ex_show : shw (1, 2, 3) = { data := #[49, 46, 50, 46, 51] } := by
  unfold shw its Lib.itoa dot
  apply ByteArray.ext
  simp [Lib.decDigits]
set_option maxRecDepth 100000 in
set_option maxHeartbeats 8000000 in
theorem works_any (w : World) (ht : TB w) : Calls Tryd.prog 8 #[] w fun e w' => e = .returned (.bool true) ∧ Below w.heap.size w w' := by
  have HT := Lib.hid ht
  clear ht
  have hB4 : Below w.heap.size w ((((w.alloc (.cells #[.int .i64 1, .int .i64 2, .int .i64 3] 23)).alloc (.cells #[.int .i64 1, .int .i64 1, .int .i64 4] 23)).alloc (.cells #[.int .i64 1, .int .i64 1, .int .i64 4] 23)).alloc (.cells #[.int .i64 1, .int .i64 2, .int .i64 3, .int .i64 1, .int .i64 1, .int .i64 4] 23)) := ((((Below.refl _ _).alloc (Nat.le_refl _) _).alloc (by simp) _).alloc (by simp; omega) _).alloc (by simp; omega) _
  have hR1 : IK.Rd ((((w.alloc (.cells #[.int .i64 1, .int .i64 2, .int .i64 3] 23)).alloc (.cells #[.int .i64 1, .int .i64 1, .int .i64 4] 23)).alloc (.cells #[.int .i64 1, .int .i64 1, .int .i64 4] 23)).alloc (.cells #[.int .i64 1, .int .i64 2, .int .i64 3, .int .i64 1, .int .i64 1, .int .i64 4] 23)) (.slice (some ⟨w.heap.size + 1 + 1, 0, none⟩) 1 1) [((1, 1, 4) : I3)] := (IK.rd_lit [((1, 1, 4) : I3)] 23 1 1 rfl (by simp [maxLen]) ((w.alloc (.cells #[.int .i64 1, .int .i64 2, .int .i64 3] 23)).alloc (.cells #[.int .i64 1, .int .i64 1, .int .i64 4] 23)) _ (by simp)).below ((Below.refl _ _).alloc (Nat.le_refl _) _)
  have hR2 : IK.Rd ((((w.alloc (.cells #[.int .i64 1, .int .i64 2, .int .i64 3] 23)).alloc (.cells #[.int .i64 1, .int .i64 1, .int .i64 4] 23)).alloc (.cells #[.int .i64 1, .int .i64 1, .int .i64 4] 23)).alloc (.cells #[.int .i64 1, .int .i64 2, .int .i64 3, .int .i64 1, .int .i64 1, .int .i64 4] 23)) (.slice (some ⟨w.heap.size + 1 + 1 + 1, 0, none⟩) 2 2) [((1, 2, 3) : I3), (1, 1, 4)] := IK.rd_lit [((1, 2, 3) : I3), (1, 1, 4)] 23 2 2 rfl (by simp [maxLen]) (((w.alloc (.cells #[.int .i64 1, .int .i64 2, .int .i64 3] 23)).alloc (.cells #[.int .i64 1, .int .i64 1, .int .i64 4] 23)).alloc (.cells #[.int .i64 1, .int .i64 1, .int .i64 4] 23)) _ (by simp)
  have hz4 : ((((w.alloc (.cells #[.int .i64 1, .int .i64 2, .int .i64 3] 23)).alloc (.cells #[.int .i64 1, .int .i64 1, .int .i64 4] 23)).alloc (.cells #[.int .i64 1, .int .i64 1, .int .i64 4] 23)).alloc (.cells #[.int .i64 1, .int .i64 2, .int .i64 3, .int .i64 1, .int .i64 1, .int .i64 4] 23)).heap.size = w.heap.size + 4 := by simp
  have da0 : ((((w.alloc (.cells #[.int .i64 1, .int .i64 2, .int .i64 3] 23)).alloc (.cells #[.int .i64 1, .int .i64 1, .int .i64 4] 23)).alloc (.cells #[.int .i64 1, .int .i64 1, .int .i64 4] 23)).alloc (.cells #[.int .i64 1, .int .i64 2, .int .i64 3, .int .i64 1, .int .i64 1, .int .i64 4] 23)).cell? ⟨w.heap.size, 0, none⟩ = some (.int .i64 1) := (old_cell _ _ _ _ (by simp <;> omega)).trans ((old_cell _ _ _ _ (by simp <;> omega)).trans ((two_cells w _ _ _ _).1 0))
  have da1 : ((((w.alloc (.cells #[.int .i64 1, .int .i64 2, .int .i64 3] 23)).alloc (.cells #[.int .i64 1, .int .i64 1, .int .i64 4] 23)).alloc (.cells #[.int .i64 1, .int .i64 1, .int .i64 4] 23)).alloc (.cells #[.int .i64 1, .int .i64 2, .int .i64 3, .int .i64 1, .int .i64 1, .int .i64 4] 23)).cell? ⟨w.heap.size, 1, none⟩ = some (.int .i64 2) := (old_cell _ _ _ _ (by simp <;> omega)).trans ((old_cell _ _ _ _ (by simp <;> omega)).trans ((two_cells w _ _ _ _).1 1))
  have da2 : ((((w.alloc (.cells #[.int .i64 1, .int .i64 2, .int .i64 3] 23)).alloc (.cells #[.int .i64 1, .int .i64 1, .int .i64 4] 23)).alloc (.cells #[.int .i64 1, .int .i64 1, .int .i64 4] 23)).alloc (.cells #[.int .i64 1, .int .i64 2, .int .i64 3, .int .i64 1, .int .i64 1, .int .i64 4] 23)).cell? ⟨w.heap.size, 2, none⟩ = some (.int .i64 3) := (old_cell _ _ _ _ (by simp <;> omega)).trans ((old_cell _ _ _ _ (by simp <;> omega)).trans ((two_cells w _ _ _ _).1 2))
  have db0 : ((((w.alloc (.cells #[.int .i64 1, .int .i64 2, .int .i64 3] 23)).alloc (.cells #[.int .i64 1, .int .i64 1, .int .i64 4] 23)).alloc (.cells #[.int .i64 1, .int .i64 1, .int .i64 4] 23)).alloc (.cells #[.int .i64 1, .int .i64 2, .int .i64 3, .int .i64 1, .int .i64 1, .int .i64 4] 23)).cell? ⟨w.heap.size + 1, 0, none⟩ = some (.int .i64 1) := (old_cell _ _ _ _ (by simp <;> omega)).trans ((old_cell _ _ _ _ (by simp <;> omega)).trans ((two_cells w _ _ _ _).2 0))
  have db1 : ((((w.alloc (.cells #[.int .i64 1, .int .i64 2, .int .i64 3] 23)).alloc (.cells #[.int .i64 1, .int .i64 1, .int .i64 4] 23)).alloc (.cells #[.int .i64 1, .int .i64 1, .int .i64 4] 23)).alloc (.cells #[.int .i64 1, .int .i64 2, .int .i64 3, .int .i64 1, .int .i64 1, .int .i64 4] 23)).cell? ⟨w.heap.size + 1, 1, none⟩ = some (.int .i64 1) := (old_cell _ _ _ _ (by simp <;> omega)).trans ((old_cell _ _ _ _ (by simp <;> omega)).trans ((two_cells w _ _ _ _).2 1))
  have db2 : ((((w.alloc (.cells #[.int .i64 1, .int .i64 2, .int .i64 3] 23)).alloc (.cells #[.int .i64 1, .int .i64 1, .int .i64 4] 23)).alloc (.cells #[.int .i64 1, .int .i64 1, .int .i64 4] 23)).alloc (.cells #[.int .i64 1, .int .i64 2, .int .i64 3, .int .i64 1, .int .i64 1, .int .i64 4] 23)).cell? ⟨w.heap.size + 1, 2, none⟩ = some (.int .i64 4) := (old_cell _ _ _ _ (by simp <;> omega)).trans ((old_cell _ _ _ _ (by simp <;> omega)).trans ((two_cells w _ _ _ _).2 2))
  go_enter Tryd.func8, Tryd.ntmps8
  go_wp2_with fail
  generalize ((((w.alloc (.cells #[.int .i64 1, .int .i64 2, .int .i64 3] 23)).alloc (.cells #[.int .i64 1, .int .i64 1, .int .i64 4] 23)).alloc (.cells #[.int .i64 1, .int .i64 1, .int .i64 4] 23)).alloc (.cells #[.int .i64 1, .int .i64 2, .int .i64 3, .int .i64 1, .int .i64 1, .int .i64 4] 23)) = X4 at *
  have hc := union_any _ _ _ _ X4 hR1 (ok_l _ (by simp)) (by simp) hR2 (ok_l _ (by simp)) (by simp)
  rw [ex_u] at hc
  refine hc.mono ?_
  rintro e w1 ⟨v1, he, ho1, hb1⟩
  rw [he.out]
  obtain ⟨au, cu, eu⟩ := ho1.slice
  have eu' : v1 = .slice au 2 cu := eu
  subst eu'
  have hl0 : w.heap.size < X4.heap.size := by omega
  have hl1 : w.heap.size + 1 < X4.heap.size := by omega
  replace da0 := (hb1.cell (p := ⟨w.heap.size, 0, none⟩) hl0).trans da0
  replace da1 := (hb1.cell (p := ⟨w.heap.size, 1, none⟩) hl0).trans da1
  replace da2 := (hb1.cell (p := ⟨w.heap.size, 2, none⟩) hl0).trans da2
  replace db0 := (hb1.cell (p := ⟨w.heap.size + 1, 0, none⟩) hl1).trans db0
  replace db1 := (hb1.cell (p := ⟨w.heap.size + 1, 1, none⟩) hl1).trans db1
  replace db2 := (hb1.cell (p := ⟨w.heap.size + 1, 2, none⟩) hl1).trans db2
  have hz1 := hb1.size
  have HB1 := Lib.hid (hB4.trans (hb1.mono (by omega)))
  have HU1 := Lib.hid ho1.rd
  clear hR1 hR2 hc he ho1 hb1 hB4 eu
  go_wp2_with fail
  have hc := less2_any _ _ _ _ (w1.alloc (.cells #[.int .i64 1, .int .i64 2, .int .i64 3] 23)) (HU1.out.below ((Below.refl _ _).alloc (Nat.le_refl _) _)) (ok_l _ (by simp)) (by simp) (IK.rd_lit [((1, 2, 3) : I3)] 23 1 1 rfl (by simp [maxLen]) w1 _ rfl) (ok_l _ (by simp)) (by simp)
  rw [ex_l] at hc
  refine hc.mono ?_
  rintro e X ⟨v2, he, ho2, hb2⟩
  rw [he.out]
  obtain ⟨al, cl, el⟩ := ho2.slice
  have el' : v2 = .slice al 1 cl := el
  subst el'
  have hbx : Below w1.heap.size w1 X := ((Below.refl _ _).alloc (Nat.le_refl _) _).trans (hb2.mono (by simp))
  replace da0 := (hbx.cell (p := ⟨w.heap.size, 0, none⟩) (by dsimp only; omega)).trans da0
  replace da1 := (hbx.cell (p := ⟨w.heap.size, 1, none⟩) (by dsimp only; omega)).trans da1
  replace da2 := (hbx.cell (p := ⟨w.heap.size, 2, none⟩) (by dsimp only; omega)).trans da2
  replace db0 := (hbx.cell (p := ⟨w.heap.size + 1, 0, none⟩) (by dsimp only; omega)).trans db0
  replace db1 := (hbx.cell (p := ⟨w.heap.size + 1, 1, none⟩) (by dsimp only; omega)).trans db1
  replace db2 := (hbx.cell (p := ⟨w.heap.size + 1, 2, none⟩) (by dsimp only; omega)).trans db2
  have hx0 : w.heap.size < X.heap.size := by have := hbx.size; omega
  have hx1 : w.heap.size + 1 < X.heap.size := by have := hbx.size; omega
  have HBX := Lib.hid (HB1.out.trans (hbx.mono (by omega)))
  have HU := Lib.hid (HU1.out.below hbx)
  have HTX := Lib.hid (HT.out.below HBX.out)
  obtain ⟨_, gu, offu, hau, hgu, hcu⟩ := HU.out.at (by simp)
  have u0 := hcu 0 (by omega) 0 _ rfl
  have u1 := hcu 0 (by omega) 1 _ rfl
  have u2 := hcu 0 (by omega) 2 _ rfl
  simp only [Nat.zero_mul, Nat.add_zero] at u0 u1 u2
  change X.cell? ⟨gu, offu, none⟩ = some (.int .i64 1) at u0
  change X.cell? ⟨gu, offu + 1, none⟩ = some (.int .i64 2) at u1
  change X.cell? ⟨gu, offu + 2, none⟩ = some (.int .i64 3) at u2
  subst hau
  obtain ⟨heq, hgd⟩ := eqI_run 1 2 3 1 2 3
  rw [show decide (((1, 2, 3) : I3) = (1, 2, 3)) = true from rfl] at heq
  have C1 : Hid (∀ W : World, Below X.heap.size X W → Calls Tryd.prog 13 #[(.agg #[.int .i64 1, .int .i64 2, .int .i64 3])] W fun e w' => e = .returned (.string { data := #[49, 46, 50, 46, 51] }) ∧ Below W.heap.size W w') := Lib.hid (fun W hW => by have h := show_any 1 2 3 W ⟨by omega, by omega⟩ ⟨by omega, by omega⟩ ⟨by omega, by omega⟩ (HTX.out.below hW); rw [ex_show] at h; exact h)
  have C2 : Hid (∀ W : World, Below X.heap.size X W → Calls Tryd.prog 15 #[(.slice (some ⟨gu, offu, none⟩) 2 cu)] W fun e w' => e = .returned (.bool true) ∧ Below W.heap.size W w') := Lib.hid (fun W hW => by have h := right_any (.slice (some ⟨gu, offu, none⟩) 2 cu) [((1, 2, 3) : I3), (1, 1, 4)] W (HU.out.below hW) (by simp); rw [show rgtI [((1, 2, 3) : I3), (1, 1, 4)] = true from by decide +kernel] at h; exact h)
  have C3 : Hid (∀ W : World, Below X.heap.size X W → Calls Tryd.prog 17 #[(.slice (some ⟨gu, offu, none⟩) 2 cu), (.agg #[.int .i64 1, .int .i64 1, .int .i64 4])] W fun e w' => e = .returned (.bool true) ∧ Below W.heap.size W w') := Lib.hid (fun W hW => by have h := has_any (.slice (some ⟨gu, offu, none⟩) 2 cu) [((1, 2, 3) : I3), (1, 1, 4)] 1 1 4 W (HU.out.below hW) (by simp); rw [show hasI [((1, 2, 3) : I3), (1, 1, 4)] (1, 1, 4) = true from by decide +kernel] at h; exact h)
  have C4 : Hid (∀ W : World, Below X.heap.size X W → Calls Tryd.prog 9 #[(.agg #[.int .i64 1, .int .i64 2, .int .i64 3]), (.agg #[.int .i64 1, .int .i64 1, .int .i64 4])] W fun e w' => e = .returned (.bool true) ∧ Below W.heap.size W w') := Lib.hid (fun W hW => by have h := less_any 1 2 3 1 1 4 W; rw [show ltI (1, 2, 3) (1, 1, 4) = true from by decide +kernel] at h; exact h.mono fun e w' q => ⟨q.1, q.2.below⟩)
  have C5 : Hid (∀ W : World, Below X.heap.size X W → Calls Tryd.prog 11 #[(.agg #[.int .i64 1, .int .i64 2, .int .i64 3])] W fun e w' => e = .returned (.bool true) ∧ Below W.heap.size W w') := Lib.hid (fun W hW => by have h := valid_any 1 2 3 W; rw [show vldI (1, 2, 3) = true from by decide +kernel] at h; exact h.mono fun e w' q => ⟨q.1, q.2.below⟩)
  have C6 : Hid (∀ W : World, Below X.heap.size X W → Calls Tryd.prog 26 #[(.slice (some ⟨gu, offu, none⟩) 2 cu), .slice (some ⟨W.heap.size, 0, none⟩) 2 2] (W.alloc (.cells #[.int .i64 1, .int .i64 1, .int .i64 4, .int .i64 1, .int .i64 2, .int .i64 3] 23)) fun e w' => e = .returned (.bool true) ∧ Below W.heap.size W w') := Lib.hid (fun W hW => by have h := same_any (.slice (some ⟨gu, offu, none⟩) 2 cu) (.slice (some ⟨W.heap.size, 0, none⟩) 2 2) [((1, 2, 3) : I3), (1, 1, 4)] [((1, 1, 4) : I3), (1, 2, 3)] (W.alloc (.cells #[.int .i64 1, .int .i64 1, .int .i64 4, .int .i64 1, .int .i64 2, .int .i64 3] 23)) ((HU.out.below hW).below ((Below.refl _ _).alloc (Nat.le_refl _) _)) (ok_l _ (by simp)) (by simp) (IK.rd_lit [((1, 1, 4) : I3), (1, 2, 3)] 23 2 2 rfl (by simp [maxLen]) W _ rfl) (ok_l _ (by simp)) (by simp); rw [show samI [((1, 2, 3) : I3), (1, 1, 4)] [((1, 1, 4) : I3), (1, 2, 3)] = true from by decide +kernel] at h; exact h.mono fun e w' q => ⟨q.1, ((Below.refl _ _).alloc (Nat.le_refl _) _).trans (q.2.mono (by simp))⟩)
  have C7 : Hid (∀ W : World, Below X.heap.size X W → Calls Tryd.prog 20 #[.slice (some ⟨W.heap.size, 0, none⟩) 2 2] (W.alloc (.cells #[.int .i64 1, .int .i64 2, .int .i64 3, .int .i64 1, .int .i64 2, .int .i64 3] 23)) fun e w' => (∃ ac cc, e = .returned (.slice ac 1 cc)) ∧ Below W.heap.size W w') := Lib.hid (fun W hW => by
    have h := clean_any (.slice (some ⟨W.heap.size, 0, none⟩) 2 2) [((1, 2, 3) : I3), (1, 2, 3)] (W.alloc (.cells #[.int .i64 1, .int .i64 2, .int .i64 3, .int .i64 1, .int .i64 2, .int .i64 3] 23)) (IK.rd_lit [((1, 2, 3) : I3), (1, 2, 3)] 23 2 2 rfl (by simp [maxLen]) W _ rfl) (ok_l _ (by simp)) (by simp)
    rw [show clnI [((1, 2, 3) : I3), (1, 2, 3)] = [((1, 2, 3) : I3)] from by decide +kernel] at h
    exact h.mono fun e w' ⟨v, he, ho, hb⟩ => by
      obtain ⟨ac, cc, e3⟩ := ho.slice
      exact ⟨⟨ac, cc, by rw [he.out, e3]; rfl⟩, ((Below.refl _ _).alloc (Nat.le_refl _) _).trans (hb.mono (by simp))⟩)
  have HC : Hid (∀ w' : World, Below X.heap.size X w' → (w'.cell? ⟨w.heap.size, 0, none⟩ = some (.int .i64 1) ∧ w'.cell? ⟨w.heap.size, 1, none⟩ = some (.int .i64 2) ∧ w'.cell? ⟨w.heap.size, 2, none⟩ = some (.int .i64 3) ∧ w'.cell? ⟨w.heap.size + 1, 0, none⟩ = some (.int .i64 1) ∧ w'.cell? ⟨w.heap.size + 1, 1, none⟩ = some (.int .i64 1) ∧ w'.cell? ⟨w.heap.size + 1, 2, none⟩ = some (.int .i64 4) ∧ w'.cell? ⟨gu, offu, none⟩ = some (.int .i64 1) ∧ w'.cell? ⟨gu, offu + 1, none⟩ = some (.int .i64 2) ∧ w'.cell? ⟨gu, offu + 2, none⟩ = some (.int .i64 3) ∧ Below X.heap.size X w')) := Lib.hid (fun w' hb => ⟨(hb.cell (p := ⟨w.heap.size, 0, none⟩) hx0).trans da0, (hb.cell (p := ⟨w.heap.size, 1, none⟩) hx0).trans da1, (hb.cell (p := ⟨w.heap.size, 2, none⟩) hx0).trans da2, (hb.cell (p := ⟨w.heap.size + 1, 0, none⟩) hx1).trans db0, (hb.cell (p := ⟨w.heap.size + 1, 1, none⟩) hx1).trans db1, (hb.cell (p := ⟨w.heap.size + 1, 2, none⟩) hx1).trans db2, (hb.cell (p := ⟨gu, offu, none⟩) hgu).trans u0, (hb.cell (p := ⟨gu, offu + 1, none⟩) hgu).trans u1, (hb.cell (p := ⟨gu, offu + 2, none⟩) hgu).trans u2, hb⟩)
  clear hc he ho2 hb2 hbx el hcu HU1 HB1 hz1 hz4 hl0 hl1 HU HT HTX da0 da1 da2 db0 db1 db2 u0 u1 u2
  go_wp2_with fail
  go_region_held3 (fun w' => w'.cell? ⟨w.heap.size, 0, none⟩ = some (.int .i64 1) ∧ w'.cell? ⟨w.heap.size, 1, none⟩ = some (.int .i64 2) ∧ w'.cell? ⟨w.heap.size, 2, none⟩ = some (.int .i64 3) ∧ w'.cell? ⟨w.heap.size + 1, 0, none⟩ = some (.int .i64 1) ∧ w'.cell? ⟨w.heap.size + 1, 1, none⟩ = some (.int .i64 1) ∧ w'.cell? ⟨w.heap.size + 1, 2, none⟩ = some (.int .i64 4) ∧ w'.cell? ⟨gu, offu, none⟩ = some (.int .i64 1) ∧ w'.cell? ⟨gu, offu + 1, none⟩ = some (.int .i64 2) ∧ w'.cell? ⟨gu, offu + 2, none⟩ = some (.int .i64 3) ∧ Below X.heap.size X w')
    (first
      | exact HC.out _ (Below.refl _ _).drew
      | (go_split_ands; exact HC.out _ (by assumption))
      | (go_split_ands; exact HC.out _ (below_self (by assumption) (by assumption)))
      | (go_split_ands; exact HC.out _ (Below.drew (by assumption)))
      | (go_split_ands; exact HC.out _ (Below.alloc (by assumption) (Below.size (by assumption)) _))
      | fail)
    (first
      | (go_at_call 13; go_split_ands; refine (C1.out _ (by assumption)).mono ?_; rintro e w5 ⟨rfl, hbw5⟩; have hS5 : Below X.heap.size X w5 := below_self (by assumption) hbw5)
      | (go_at_call 15; go_split_ands; refine (C2.out _ (by assumption)).mono ?_; rintro e w5 ⟨rfl, hbw5⟩; have hS5 : Below X.heap.size X w5 := below_self (by assumption) hbw5)
      | (go_at_call 17; go_split_ands; refine (C3.out _ (by assumption)).mono ?_; rintro e w5 ⟨rfl, hbw5⟩; have hS5 : Below X.heap.size X w5 := below_self (by assumption) hbw5)
      | (go_at_call 9; go_split_ands; refine (C4.out _ (by assumption)).mono ?_; rintro e w5 ⟨rfl, hbw5⟩; have hS5 : Below X.heap.size X w5 := below_self (by assumption) hbw5)
      | (go_at_call 11; go_split_ands; refine (C5.out _ (by assumption)).mono ?_; rintro e w5 ⟨rfl, hbw5⟩; have hS5 : Below X.heap.size X w5 := below_self (by assumption) hbw5)
      | (go_at_call 26; go_split_ands; refine (C6.out _ (by assumption)).mono ?_; rintro e w5 ⟨rfl, hbw5⟩; have hS5 : Below X.heap.size X w5 := below_self (by assumption) hbw5)
      | (go_at_call 20; go_split_ands; refine (C7.out _ (by assumption)).mono ?_; rintro e w5 ⟨⟨ac, cc, rfl⟩, hbw5⟩; have hS5 : Below X.heap.size X w5 := below_self (by assumption) hbw5)
      | fail)
  go_split_ands
  go_wp2
  go_ret
  exact ⟨rfl, HBX.out.trans (Below.mono (by assumption) (Nat.le_of_lt hx0))⟩
end Go.Proofs.YtmkmdgehgllnbaaDoor
