/-
  The document's example of package paths.
-/
import Derived.Test.YtdhmalpeooobfaaPthF
namespace Go.Proofs.Ytdhmalpeooobfaa
open Go.RowKit
set_option linter.unusedSimpArgs false
set_option linter.unusedVariables false

theorem cab : nmL { data := #[47, 97, 47, 98] } = [[97], [98]] := by decide +kernel
theorem cpar : par { data := #[47, 97, 47, 98] } = { data := #[47, 97] } := by decide +kernel
theorem clst : lst { data := #[47, 97, 47, 98] } = { data := #[98] } := by decide +kernel
theorem cdpt : dpt { data := #[47, 97, 47, 98] } = 2 := by decide +kernel
theorem cblw : blw { data := #[47] } { data := #[47, 97] } = true := by decide +kernel
theorem cvld : vld { data := #[47] } = true := by decide +kernel
theorem clsr : lsr { data := #[47, 97] } { data := #[47, 97, 47, 98] } = true := by decide +kernel
theorem cofP : ofP (tx [[97], [98]]) = { data := #[47, 97, 47, 98] } := by decide +kernel
theorem cofE : ofE (tx [[97], [98]]) = 0 := by decide +kernel
set_option maxHeartbeats 2000000 in
set_option maxRecDepth 10000 in
theorem works_any (w : World) (hm : ML w) : Calls Try.prog 9 #[] w fun e w' => e = .returned (.bool true) ∧ Below w.heap.size w w' := by
  have HM := Lib.hid hm
  clear hm
  go_enter Try.func9, Try.ntmps9
  go_wp2_with fail
  refine (names_any _ w (by decide) HM.out).mono ?_
  rintro e w1 ⟨v, he, ho, hb⟩
  subst he
  rw [cab] at ho
  obtain ⟨a, c, hv, hs⟩ := srd_of_own ho (by decide)
  rw [hv] at ho
  have hcp := ho.cap
  have hlen : (tx [[97], [98]]).length = 2 := rfl
  rw [hlen] at hv hcp
  obtain ⟨g, off, rfl, hg, hc⟩ := hs.cell 1 (by decide)
  have hc' : w1.cell? ⟨g, off + 1, none⟩ = some (.string { data := #[98] }) := hc
  have hO := of_any (some ⟨g, off, none⟩) c (tx [[97], [98]]) w1 hs (by rw [hlen]; exact hcp)
  rw [cofP, cofE, hlen] at hO
  subst hv
  have HB1 := Lib.hid hb
  have hb1 := hb
  clear hs hc hb ho hlen
  go_wp2_with fail
  refine hO.mono ?_
  rintro e w2 ⟨rfl, hb⟩
  have hb2 := below_self HB1.out hb
  have HC := Lib.hid hc'
  have hc2 : w2.cell? ⟨g, off + 1, none⟩ = some (.string { data := #[98] }) := (hb.cell (p := ⟨g, off + 1, none⟩) hg).trans hc'
  have HB2 := Lib.hid hb2
  clear hO hb hb1 hb2 hc' HB1
  go_wp2_with fail
  refine (show Calls Try.prog 17 #[.string { data := #[47, 97, 47, 98] }] w2 fun e w' => e = .returned (.string { data := #[47, 97] }) ∧ Below w2.heap.size w2 w' from by
    have := parent_any { data := #[47, 97, 47, 98] } w2 (by decide) (HM.out.below HB2.out); rw [cpar] at this; exact this).mono ?_
  rintro e w3 ⟨rfl, hb⟩
  have HB3 := Lib.hid (below_self HB2.out hb)
  clear hb HB2
  go_wp2_with fail
  refine (show Calls Try.prog 19 #[.string { data := #[47, 97, 47, 98] }] w3 fun e w' => e = .returned (.string { data := #[98] }) ∧ Below w3.heap.size w3 w' from by
    have := last_any { data := #[47, 97, 47, 98] } w3 (by decide) (HM.out.below HB3.out); rw [clst] at this; exact this).mono ?_
  rintro e w4 ⟨rfl, hb⟩
  have HB4 := Lib.hid (below_self HB3.out hb)
  clear hb HB3
  go_wp2_with fail
  refine (show Calls Try.prog 15 #[.string { data := #[47, 97, 47, 98] }] w4 fun e w' => e = .returned (.int .i64 2) ∧ Below w4.heap.size w4 w' from by
    have := depth_any { data := #[47, 97, 47, 98] } w4 (by decide) (HM.out.below HB4.out); rw [cdpt] at this; exact this).mono ?_
  rintro e w5 ⟨rfl, hb⟩
  have HB5 := Lib.hid (below_self HB4.out hb)
  clear hb HB4
  go_wp2_with fail
  refine (show Calls Try.prog 21 #[.string { data := #[47] }, .string { data := #[47, 97] }] w5 fun e w' => e = .returned (.bool true) ∧ Below w5.heap.size w5 w' from by
    have := below_any { data := #[47] } { data := #[47, 97] } w5 (by decide) (by decide) (HM.out.below HB5.out); rw [cblw] at this; exact this).mono ?_
  rintro e w6 ⟨rfl, hb⟩
  have HB6 := Lib.hid (below_self HB5.out hb)
  clear hb HB5
  go_wp2_with fail
  refine (show Calls Try.prog 10 #[.string { data := #[47] }] w6 fun e w' => e = .returned (.bool true) ∧ Below w6.heap.size w6 w' from by
    have := valid_any { data := #[47] } w6 (by decide) (HM.out.below HB6.out); rw [cvld] at this; exact this).mono ?_
  rintro e w7 ⟨rfl, hb⟩
  have HB7 := Lib.hid (below_self HB6.out hb)
  clear hb HB6
  go_wp2_with fail
  refine (show Calls Try.prog 23 #[.string { data := #[47, 97] }, .string { data := #[47, 97, 47, 98] }] w7 fun e w' => e = .returned (.bool true) ∧ Below w7.heap.size w7 w' from by
    have := less_any { data := #[47, 97] } { data := #[47, 97, 47, 98] } w7 (by decide) (by decide) (HM.out.below HB7.out); rw [clsr] at this; exact this).mono ?_
  rintro e w8 ⟨rfl, hb⟩
  have HB8 := Lib.hid (below_self HB7.out hb)
  clear hb HB7
  go_wp2
  go_ret
  exact ⟨rfl, HB8.out⟩
end Go.Proofs.Ytdhmalpeooobfaa
