/-
  The walk of package sum's table.
-/
import Derived.Test.YtfobdkhmffphmaaSum
import Derived.Laws.ResultCell
namespace Go.Proofs.Ytfobdkhmffphmaa
open Go.RowKit
set_option linter.unusedSimpArgs false
set_option linter.unusedVariables false

/-- The table's first cells. -/
def tabN (k : Nat) : Array Value := Array.ofFn (n := 256) fun i => .int .u32 (if i.val < k then stp i.val else 0 : Nat)
theorem tabN_size (k : Nat) : (tabN k).size = 256 := by simp [tabN]
theorem tabN_get (k i : Nat) (h : i < 256) : (tabN k)[i]? = some (.int .u32 (if i < k then stp i else 0 : Nat)) := by simp [tabN, h]
theorem tabN_set (k : Nat) (h : k < 256) : (tabN k).setIfInBounds k (.int .u32 (stp k : Nat)) = tabN (k + 1) := by
  apply Array.ext_getElem?
  intro i
  by_cases hi : i < 256
  · rw [tabN_get (k + 1) i hi, Array.getElem?_setIfInBounds]
    by_cases e : k = i
    · subst e
      simp [tabN_size, h]
    · rw [if_neg e, tabN_get k i hi]
      by_cases q : i < k
      · rw [if_pos q, if_pos (by omega)]
      · rw [if_neg q, if_neg (by omega)]
  · rw [Array.getElem?_eq_none (by simp [tabN_size]; omega), Array.getElem?_eq_none (by simp [tabN_size]; omega)]
theorem tabN_one (k : Nat) : (tabN k).all (·.oneCell') = true := by
  rw [Array.all_eq_true]
  intro i hi
  have h := tabN_get k i (by rw [tabN_size] at hi; exact hi)
  rw [Array.getElem?_eq_getElem hi] at h
  rw [Option.some.inj h]
  rfl
set_option maxRecDepth 100000 in
theorem tab_zero (w : World) : (zeroValue 75).run Try.prog w = .ok (.agg (Array.replicate 256 (.int .u32 0))) w := by kernel_rfl
set_option maxRecDepth 100000 in
theorem tab_zero2 : (Value.agg (Array.replicate 256 (.int .u32 0))).cells = tabN 0 := by
  show Array.replicate 256 (Value.int .u32 0) = _
  apply Array.ext_getElem?
  intro i
  by_cases hi : i < 256
  · rw [tabN_get 0 i hi]; simp [hi]
  · rw [Array.getElem?_eq_none (by simp; omega), Array.getElem?_eq_none (by simp [tabN_size]; omega)]
theorem tab_info : (Try.prog.info? 75).map (·.size) = some 256 := by kernel_rfl
theorem tab_info2 (k : Nat) : (Try.prog.info? 75).map (·.size) = some (tabN k).size := by rw [tabN_size]; exact tab_info

theorem u32_cast {i : Nat} (h : i < 256) : ((i : Int)) % 4294967296 = (i : Int) := by omega
set_option maxRecDepth 100000 in
set_option maxHeartbeats 1600000 in
theorem table_any (w : World) : Calls Try.prog 37 #[] w fun e w' => Hid (e = .returned (.agg (tabN 256))) ∧ Below w.heap.size w w' := by
  have HI0 := Lib.hid (tab_info2 0)
  have HI := Lib.hid (tab_info2 256)
  go_enter Try.func37, Try.ntmps37
  go_wp2_with (first
    | (refine wpList_alloc_new (o := ⟨some 0, _, _, _, _, _⟩) rfl 75 rfl _ tab_zero ?_; rw [tab_zero2]; intro w1 hc1 hs1 hb1; have HC1 := Lib.hid hc1; have HB1 := Lib.hid hb1; clear hc1 hb1)
    | (refine wpList_alloc_new (o := ⟨some 1, _, _, _, _, _⟩) rfl 75 rfl _ tab_zero ?_; rw [tab_zero2]; intro w2 hc2 hs2 hb2; have HC2 := Lib.hid hc2; have HB2 := Lib.hid hb2; clear hc2 hb2))
  have hc1 : w2.heap[w.heap.size]? = some (.cells (tabN 0) 75 (0, 0)) := by rw [HB2.out.block _ (by omega)]; exact HC1.out
  have hB : Below w.heap.size w w2 := HB1.out.trans (HB2.out.mono (by omega))
  have HC1' := Lib.hid hc1
  have HB := Lib.hid hB
  clear hc1 hB HC1 HB1 HB2
  go_loopw [3] (fun c wr => ∃ k : Nat, k ≤ 256 ∧ c = .int .i64 k ∧ Hid (wr.heap[w1.heap.size]? = some (.cells (tabN k) 75 (0, 0))) ∧ Hid (wr.heap[w.heap.size]? = some (.cells (tabN 0) 75 (0, 0))) ∧ Hid (Below w.heap.size w wr)) (fun c _ => 256 - (intOf c).toNat)
  case atStart => exact ⟨0, by omega, rfl, HC2, HC1', HB⟩
  case round =>
    clear HC1' HB HC2
    obtain ⟨k, hk, rfl, hC2, hC1, hB⟩ := hrel
    by_cases hlt : k < 256
    · have hc := cell_of_row wr w1.heap.size k _ _ _ hC2.out
      rw [tabN_get k k hlt, if_neg (by omega)] at hc
      have hf := frozen_of_row wr w1.heap.size k _ _ hC2.out
      have hw := u32_cast hlt
      go_wp2_with (go_at_call 38; refine (sumstep_any k _ (by omega)).mono ?_; rintro e w3 ⟨rfl, rfl⟩)
      go_roundw
      case rel => 
        refine ⟨k + 1, by omega, by go_num, ?_, ?_, ?_⟩
        · have := heap_setCell_same wr w1.heap.size k (tabN k) 75 (.int .u32 (stp k : Nat)) hC2.out
          rw [tabN_set k hlt] at this
          exact this
        · show Hid _
          unfold Hid
          rw [heap_setCell_other _ _ _ _ (by simp; omega)]
          exact hC1.out
        · exact hB.out.setCell (by simp; omega) _
      case measure => simp [intOf]; omega
    · have e : k = 256 := by omega
      subst e
      have HK := Lib.hid (tabN_one 256)
      go_wp2_with (first
        | (refine wpList_load_row rfl 75 _ rfl w1.heap.size rfl 75 (tabN 256) (0, 0) _ hC2.out Try.underlying75 rfl HI.out ?_)
        | (refine wpList_store_row rfl 75 _ _ rfl w.heap.size rfl (tabN 256) rfl (tabN 0) 75 hC1.out HI.out (by rw [tabN_size, tabN_size]) HK.out ?_))
      refine bodyPost_ret (v := .agg (tabN 256)) ?_ rfl ⟨rfl, below_setRow hB.out (Nat.le_refl _) _⟩
      exact results_cell_row rfl _ _ w.heap.size 75 (tabN 256) (0, 0) _ rfl (heap_setRow_same _ _ _ _ _ hC1.out) Try.underlying75 rfl HI.out
end Go.Proofs.Ytfobdkhmffphmaa
