/-
  The document's examples of layer 2 come out true.
-/
import Derived.Test.YtofcpjjhchlcmaaSum3
import Derived.Lib.SlBytesConst
namespace Go.Proofs.Ytofcpjjhchlcmaa
open Go.RowKit
set_option linter.unusedSimpArgs false
set_option linter.unusedVariables false

theorem ex_nine : sumN 0 [49, 50, 51, 52, 53, 54, 55, 56, 57] = 3421780262 := by decide +kernel
theorem ex_four : ∃ n : Nat, sumN 0 [49, 50, 51, 52] = n ∧ n < 4294967296 ∧ sumN n [53, 54, 55, 56, 57] = 3421780262 := ⟨_, rfl, by decide +kernel, by decide +kernel⟩
theorem of_nil (w : World) : Calls Try.prog 13 #[.slice none 0 0] w fun e w' => e = .returned (.int .u32 0) ∧ Below w.heap.size w w' :=
  (of_any _ [] w (Bt.nil w) (by simp)).mono fun e w' h => h
set_option maxHeartbeats 4000000 in
theorem works_any (w : World) : Calls Try.prog 9 #[] w fun e w' => e = .returned (.bool true) ∧ Below w.heap.size w w' := by
  obtain ⟨n, hn1, hn2, hn3⟩ := ex_four
  have HN1 := Lib.hid hn1
  have HN3 := Lib.hid hn3
  clear hn1 hn3
  have kc := fun (w : World) (C : Array Value) (n c : Nat) => Lib.run_convert_bytes_const (P := Try.prog) w 27 5 C n c Try.underlying27 Try.underlying5
  go_enter Try.func9, Try.ntmps9
  go_wp2_with fail
  refine (of_any _ [49, 50, 51, 52, 53, 54, 55, 56, 57] _ (bt_lit w [49, 50, 51, 52, 53, 54, 55, 56, 57] _ _ (by decide)) (by decide)).mono ?_
  rw [ex_nine]
  rintro e w1 ⟨rfl, hb1⟩
  have HB1 : Hid (Below w.heap.size w w1) := ((Below.refl _ w).alloc (Nat.le_refl _) _).trans (hb1.mono (by simp))
  clear hb1
  go_wp2_with fail
  refine (of_nil _).mono ?_
  rintro e w2 ⟨rfl, hb2⟩
  have HB2 : Hid (Below w.heap.size w w2) := below_self HB1.out hb2
  clear hb2 HB1
  go_wp2_with fail
  refine (of_any _ [49, 50, 51, 52] _ (bt_lit w2 [49, 50, 51, 52] _ _ (by decide)) (by decide)).mono ?_
  rw [HN1.out]
  rintro e w3 ⟨rfl, hb3⟩
  have HB3 : Hid (Below w.heap.size w w3) := HB2.out.trans ((((Below.refl _ w2).alloc (Nat.le_refl _) _).trans (hb3.mono (by simp))).mono HB2.out.size)
  clear hb3 HB2
  go_wp2_with fail
  refine (more_any n _ [53, 54, 55, 56, 57] _ hn2 (bt_lit w3 [53, 54, 55, 56, 57] _ _ (by decide)) (by decide)).mono ?_
  rw [HN3.out]
  rintro e w4 ⟨rfl, hb4⟩
  have HB4 : Hid (Below w.heap.size w w4) := HB3.out.trans ((((Below.refl _ w3).alloc (Nat.le_refl _) _).trans (hb4.mono (by simp))).mono HB3.out.size)
  clear hb4 HB3
  go_wp2
  go_ret
  exact ⟨rfl, HB4.out⟩
end Go.Proofs.Ytofcpjjhchlcmaa
