/-
  The walk of SumTable.
-/
import Derived.Test.YtofcpjjhchlcmaaSumT
import Derived.Deep.QuietTactic
import Derived.BigQuiet
namespace Go.Proofs.Ytofcpjjhchlcmaa
open Go.RowKit
set_option linter.unusedSimpArgs false
set_option linter.unusedVariables false

set_option maxRecDepth 100000 in
set_option maxHeartbeats 4000000 in
theorem tab_in (a b : Nat) (w : World) (ha : a < 256) (hb : b < 256) :
    Calls Try.prog 7 #[.int .u8 a, .int .u8 b] w fun e w' => e = .returned (.bool true) ∧ Below w.heap.size w w' := by
  have hx8 := xor8 a b ha hb
  have hn := Nat.xor_lt_two_pow (n := 8) ha hb
  have hx32 := xor32 (stp a) (stp b) (stp_lt (by omega)) (stp_lt (by omega))
  have e1 : stp (a ^^^ b) = stp a ^^^ stp b := stp_xor a b
  have e2 : stp a = stp b ↔ a = b := stp_inj (by omega) (by omega)
  have e0 : stp 0 = 0 := by decide
  have ga : (tabN 256)[a]? = some (.int .u32 (stp a : Nat)) := by rw [tabN_get 256 a ha, if_pos ha]
  have gb : (tabN 256)[b]? = some (.int .u32 (stp b : Nat)) := by rw [tabN_get 256 b hb, if_pos hb]
  have gn : (tabN 256)[a ^^^ b]? = some (.int .u32 (stp (a ^^^ b) : Nat)) := by rw [tabN_get 256 _ hn, if_pos hn]
  have g0 : (tabN 256)[0]? = some (.int .u32 (stp 0 : Nat)) := by rw [tabN_get 256 0 (by decide), if_pos (by decide)]
  rw [e0] at g0
  rw [e1] at gn
  generalize a ^^^ b = n at hx8 hn gn
  generalize stp a = p at hx32 e2 ga gn
  generalize stp b = q at hx32 e2 gb gn
  generalize p ^^^ q = r at hx32 gn
  have HG : Hid ((tabN 256)[a]? = some (.int .u32 (p : Int)) ∧ (tabN 256)[b]? = some (.int .u32 (q : Int)) ∧ (tabN 256)[n]? = some (.int .u32 (r : Int)) ∧ (tabN 256)[0]? = some (.int .u32 ((0 : Nat) : Int))) := ⟨ga, gb, gn, g0⟩
  have hab : ((p : Int) == (q : Int)) = ((a : Int) == (b : Int)) := by
    rw [Bool.eq_iff_iff]; simp only [beq_iff_eq]; omega
  have HAB := Lib.hid hab
  have HX32 := Lib.hid hx32
  have HX8 := Lib.hid hx8
  have HI := Lib.hid (tab_info2 256)
  have HK := Lib.hid (tabN_one 256)
  clear ga gb gn g0 hab e0 e1 e2 hx32 hx8
  go_enter Try.func7, Try.ntmps7
  go_wp2_with (first
    | (go_at_call 9; refine (works_any _).mono ?_; rintro e w0 ⟨rfl, hb0⟩; have HB0 := Lib.hid hb0; clear hb0)
    | (go_at_call 10; refine (table_any _).mono ?_; rintro e w1 ⟨he, hb1⟩; rw [he.out]; have HB1 := Lib.hid hb1; clear hb1 he)
    | (refine wpList_alloc_new (o := ⟨some 6, _, _, _, _, _⟩) rfl 24 rfl _ tab_zero ?_; rw [tab_zero2]; intro w2 hc2 hs2 hb2; have HC2 := Lib.hid hc2; have HB2 := Lib.hid hb2; clear hc2 hb2)
    | (refine wpList_store_row rfl 24 _ _ rfl w1.heap.size rfl (tabN 256) rfl (tabN 0) 24 HC2.out HI.out (by rw [tabN_size, tabN_size]) HK.out ?_; obtain ⟨w3, hw3⟩ : ∃ w3, w2.setRow w1.heap.size (tabN 256) = w3 := ⟨_, rfl⟩; rw [hw3]; have HW3 := Lib.hid hw3; clear hw3))
  have hC : w3.heap[w1.heap.size]? = some (.cells (tabN 256) 24 (0, 0)) := by rw [← HW3.out]; exact heap_setRow_same _ _ _ _ _ HC2.out
  have hB : Below w.heap.size w w3 := by
    rw [← HW3.out]
    exact below_setRow ((below_self HB0.out HB1.out).trans (HB2.out.mono (by have := HB0.out.size; have := HB1.out.size; omega))) (by have := HB0.out.size; have := HB1.out.size; omega) _
  have HC := Lib.hid hC
  have HB := Lib.hid hB
  clear hC hB HC2 HB1 HB2 HB0 HW3 HK HI
  have ca := (cell_of_row w3 w1.heap.size a _ _ _ HC.out).trans HG.out.1
  have cb := (cell_of_row w3 w1.heap.size b _ _ _ HC.out).trans HG.out.2.1
  have cn := (cell_of_row w3 w1.heap.size n _ _ _ HC.out).trans HG.out.2.2.1
  have c0 := (cell_of_row w3 w1.heap.size 0 _ _ _ HC.out).trans HG.out.2.2.2
  have hx32 := HX32.out
  have hx8 := HX8.out
  have hab := HAB.out
  have ia : (a : Int) < 256 := by omega
  have ib : (b : Int) < 256 := by omega
  have iN : (n : Int) < 256 := by omega
  go_quiet (fail)
  go_wp2
  go_ret
  exact ⟨rfl, ⟨HB.out.os, HB.out.tape, HB.out.output, HB.out.size, HB.out.block⟩⟩
theorem tab_law (a b : Int) (w : World) (ha : (Lit.int .u8 a).wf = true) (hb : (Lit.int .u8 b).wf = true) :
    Calls Try.prog 7 #[.int .u8 a, .int .u8 b] w fun e w' => e = .returned (.bool true) ∧ Below w.heap.size w w' := by
  have ha := u8_wf ha
  have hb := u8_wf hb
  obtain ⟨a, rfl⟩ := Int.eq_ofNat_of_zero_le ha.1
  obtain ⟨b, rfl⟩ := Int.eq_ofNat_of_zero_le hb.1
  exact tab_in a b w (by omega) (by omega)
end Go.Proofs.Ytofcpjjhchlcmaa
