/-
  The walk of SumSums.
-/
import Derived.Test.YtofcpjjhchlcmaaSumT
import Derived.Deep.RegionHeld3
namespace Go.Proofs.Ytofcpjjhchlcmaa
open Go.RowKit
set_option linter.unusedSimpArgs false
set_option linter.unusedVariables false

/-- What is kept of a world: a cell, and all that was there. -/
def KS (w : World) (g i : Nat) (v : Value) (w' : World) : Prop := w'.cell? ⟨g, i, none⟩ = some v ∧ g < w'.heap.size ∧ Below w.heap.size w w'
theorem KS.below {w w1 w2 : World} {g i : Nat} {v : Value} (h : KS w g i v w1) (hb : Below w1.heap.size w1 w2) : KS w g i v w2 :=
  ⟨(hb.cell (p := ⟨g, i, none⟩) h.2.1).trans h.1, Nat.lt_of_lt_of_le h.2.1 hb.size, below_self h.2.2 hb⟩
theorem KS.drew {w w1 : World} {g i : Nat} {v : Value} (h : KS w g i v w1) : KS w g i v w1.drew := h.below (Below.refl _ _).drew
theorem KS.alloc {w w1 : World} {g i : Nat} {v : Value} (h : KS w g i v w1) (o : Obj) : KS w g i v (w1.alloc o) := h.below ((Below.refl _ _).alloc (Nat.le_refl _) o)
theorem KS.parts {w w1 : World} {g i : Nat} {v : Value} (h : KS w g i v w1) : w1.cell? ⟨g, i, none⟩ = some v ∧ KS w g i v w1 := ⟨h.1, h⟩
/-- '[]byte(s)' in a region that draws its order. -/
theorem step_bytes {P : Program} {ops : Array Oper} {o : Oper} {a : Act} {w : World} {K : Act → World → Prop} {Q : Exit → Act → World → Prop} (hw : Region.wanted o (yielded ops a.tmps) = true) (src dst : TypeId) (x : Operand)
    (ho : o.op = .convert src dst x) (e : TypeId) (hs : P.underlying src = some .string) (hd : P.underlying dst = some (.slice e)) (he : P.underlying e = some (.int .u8)) (s : ByteArray) (hx : a.eval x = .string s)
    (hl : s.size ≤ 9223372036854775807)
    (h : ∀ v' w', Bt w' v' (byt s) → w.heap.size + 1 = w'.heap.size → Below w.heap.size w w' → K (a.put o.dst v') w') : if Region.wanted o (yielded ops a.tmps) = true then Oper.wp P o a w K Q else K (a.put o.dst undef) w := by
  obtain ⟨v', w', hr, h1, h2, h3⟩ := bt_bytes (P := P) w src dst e s hl hs hd he
  rw [if_pos hw]
  unfold Oper.wp execOp
  simp only [ho, hx, hr, Sem.run_bind, Sem.run_pure, Result.andThen_ok]
  exact h v' w' h1 h2 h3
set_option maxRecDepth 100000 in
set_option maxHeartbeats 4000000 in
theorem sums_in (s : Nat) (b : ByteArray) (i : Nat) (w : World) (hs : s < 4294967296) (hb : b.size ≤ 3000) (hi : i < 256) :
    Calls Try.prog 3 #[.int .u32 s, .string b, .int .u8 i] w fun e w' => e = .returned (.bool true) ∧ Below w.heap.size w w' := by
  have t1 : ¬ (3000 : Int) < b.size := by omega
  have z1 : b.size ≤ 9223372036854775807 := by omega
  have hsl : stp i < 4294967296 := stp_lt (by omega)
  have hi32 : i < 4294967296 := by omega
  have gi : (tabN 256)[i]? = some (.int .u32 (stp i : Nat)) := by rw [tabN_get 256 i hi, if_pos hi]
  have ii : (i : Int) < 256 := by omega
  have im : IntKind.u32.wrap (i : Int) = (i : Int) := IntWalk.u32_in _ (by omega)
  have GI := Lib.hid gi
  have HI := Lib.hid (tab_info2 256)
  have HK := Lib.hid (tabN_one 256)
  have HX := Lib.hid (byt_range b)
  clear gi hb
  go_enter Try.func3, Try.ntmps3
  go_wp2_with (first
    | (go_at_call 9; refine (works_any _).mono ?_; rintro e w0 ⟨rfl, hb0⟩; have HB0 := Lib.hid hb0; clear hb0)
    | (go_at_call 10; refine (table_any _).mono ?_; rintro e w1 ⟨he, hb1⟩; rw [he.out]; have HB1 := Lib.hid hb1; clear hb1 he)
    | (refine wpList_alloc_new (o := ⟨some 8, _, _, _, _, _⟩) rfl 24 rfl _ tab_zero ?_; rw [tab_zero2]; intro w2 hc2 hs2 hb2; have HC2 := Lib.hid hc2; have HB2 := Lib.hid hb2; clear hc2 hb2)
    | (refine wpList_store_row rfl 24 _ _ rfl w1.heap.size rfl (tabN 256) rfl (tabN 0) 24 HC2.out HI.out (by rw [tabN_size, tabN_size]) HK.out ?_; obtain ⟨w3, hw3⟩ : ∃ w3, w2.setRow w1.heap.size (tabN 256) = w3 := ⟨_, rfl⟩; rw [hw3]; have HW3 := Lib.hid hw3; clear hw3))
  have hC : w3.heap[w1.heap.size]? = some (.cells (tabN 256) 24 (0, 0)) := by rw [← HW3.out]; exact heap_setRow_same _ _ _ _ _ HC2.out
  have hB : Below w.heap.size w w3 := by
    rw [← HW3.out]
    exact below_setRow ((below_self HB0.out HB1.out).trans (HB2.out.mono (by have := HB0.out.size; have := HB1.out.size; omega))) (by have := HB0.out.size; have := HB1.out.size; omega) _
  have hS3 : w3.heap.size = w1.heap.size + 1 := by rw [← HW3.out, hs2]; simp [World.setRow]
  have ci := (cell_of_row w3 w1.heap.size i _ _ _ hC).trans GI.out
  have HKS : Hid (KS w w1.heap.size i (.int .u32 (stp i : Nat)) w3) := ⟨ci, by omega, hB⟩
  clear hC hB HC2 HB1 HB2 HB0 HW3 HK HI ci hS3
  refine wp_region_held_drew (S := fun w' => w'.cell? ⟨w1.heap.size, i, none⟩ = some (.int .u32 (stp i : Nat)) ∧ KS w w1.heap.size i (.int .u32 (stp i : Nat)) w') (by kernel_rfl) ?_ (fun hHeld => ?_)
  · (first | exact HKS.out.parts | exact HKS.out.drew.parts | (go_split_ands; first | exact KS.parts (KS.below (by assumption) (by assumption)) | exact KS.parts (KS.drew (by assumption)) | exact KS.parts (by assumption)))
  refine wpAnyH_take (i := 0) (v := ?_) rfl (by kernel_rfl) (by kernel_rfl) (by kernel_rfl) (fun _ _ _ h => h) (Or.inl ⟨by rfl, ?_⟩) (by assumption) ?_
  rotate_left
  · (intro w hSw; (try dsimp only at hSw); go_simp; try rfl)
  try simp only [Act.put, List.setIfInBounds_toArray, List.set_cons_zero, List.set_cons_succ, List.getElem_toArray, List.getElem_cons_zero, List.getElem_cons_succ]
  refine wpAnyH_take (i := 1) (v := ?_) rfl (by kernel_rfl) (by kernel_rfl) (by kernel_rfl) (fun _ _ _ h => h) (Or.inl ⟨by rfl, ?_⟩) (by assumption) ?_
  rotate_left
  · (intro w hSw; (try dsimp only at hSw); go_simp; try rfl)
  try simp only [Act.put, List.setIfInBounds_toArray, List.set_cons_zero, List.set_cons_succ, List.getElem_toArray, List.getElem_cons_zero, List.getElem_cons_succ]
  refine wpAnyH_take (i := 2) (v := ?_) rfl (by kernel_rfl) (by kernel_rfl) (by kernel_rfl) (fun _ _ _ h => h) (Or.inl ⟨by rfl, ?_⟩) (by assumption) ?_
  rotate_left
  · (intro w hSw; (try dsimp only at hSw); go_simp; try rfl)
  try simp only [Act.put, List.setIfInBounds_toArray, List.set_cons_zero, List.set_cons_succ, List.getElem_toArray, List.getElem_cons_zero, List.getElem_cons_succ]
  refine wpAnyH_take (i := 3) (v := ?_) rfl (by kernel_rfl) (by kernel_rfl) (by kernel_rfl) (fun _ _ _ h => h) (Or.inl ⟨by rfl, ?_⟩) (by assumption) ?_
  rotate_left
  · (intro w hSw; (try dsimp only at hSw); go_simp; try rfl)
  try simp only [Act.put, List.setIfInBounds_toArray, List.set_cons_zero, List.set_cons_succ, List.getElem_toArray, List.getElem_cons_zero, List.getElem_cons_succ]
  refine wpAnyH_take (i := 6) (v := ?_) rfl (by kernel_rfl) (by kernel_rfl) (by kernel_rfl) (fun _ _ _ h => h) (Or.inl ⟨by rfl, ?_⟩) (by assumption) ?_
  rotate_left
  · (intro w hSw; (try dsimp only at hSw); go_simp; try rfl)
  try simp only [Act.put, List.setIfInBounds_toArray, List.set_cons_zero, List.set_cons_succ, List.getElem_toArray, List.getElem_cons_zero, List.getElem_cons_succ]
  refine wpAnyH_take (i := 7) (v := ?_) rfl (by kernel_rfl) (by kernel_rfl) (by kernel_rfl) (fun _ _ _ h => h) (Or.inl ⟨by rfl, ?_⟩) (by assumption) ?_
  rotate_left
  · (intro w hSw; (try dsimp only at hSw); go_simp; try rfl)
  try simp only [Act.put, List.setIfInBounds_toArray, List.set_cons_zero, List.set_cons_succ, List.getElem_toArray, List.getElem_cons_zero, List.getElem_cons_succ]
  refine wpAnyH_ready (rs := [4]) (by kernel_rfl) (by simp) ?_
  refine (AllReadyH.cons rfl (fun K hK => ?_) AllReadyH.nil)
  refine step_bytes (by rfl) 9 27 _ rfl 5 Try.underlying9 Try.underlying27 Try.underlying5 _ rfl z1 ?_
  intro v4 x4 ht4 hz4 hb4
  have HT4 := Lib.hid ht4
  clear ht4 hz4
  refine hK.out _ _ ?_ (fun hHeld => ?_)
  · (first | exact HKS.out.parts | exact HKS.out.drew.parts | (go_split_ands; first | exact KS.parts (KS.below (by assumption) (by assumption)) | exact KS.parts (KS.drew (by assumption)) | exact KS.parts (by assumption)))
  clear hK K
  try simp only [Act.put, List.setIfInBounds_toArray, List.set_cons_zero, List.set_cons_succ, List.getElem_toArray, List.getElem_cons_zero, List.getElem_cons_succ]
  refine wpAnyH_ready (rs := [5]) (by kernel_rfl) (by simp) ?_
  refine (AllReadyH.cons rfl (fun K hK => ?_) AllReadyH.nil)
  go_simp
  (go_at_call 11; refine (more_any _ _ _ _ hs HT4.out HX.out).mono ?_; rintro e y5 ⟨rfl, hc5⟩)
  refine hK.out _ _ ?_ (fun hHeld => ?_)
  · (first | exact HKS.out.parts | exact HKS.out.drew.parts | (go_split_ands; first | exact KS.parts (KS.below (by assumption) (by assumption)) | exact KS.parts (KS.drew (by assumption)) | exact KS.parts (by assumption)))
  clear hK K
  try simp only [Act.put, List.setIfInBounds_toArray, List.set_cons_zero, List.set_cons_succ, List.getElem_toArray, List.getElem_cons_zero, List.getElem_cons_succ]
  refine wpAnyH_ready (rs := [8]) (by kernel_rfl) (by simp) ?_
  refine (AllReadyH.cons rfl (fun K hK => ?_) AllReadyH.nil)
  go_simp
  (go_at_call 12; refine (rmore_any _ _ _ hs z1).mono ?_; rintro e y8 ⟨rfl, rfl⟩)
  refine hK.out _ _ ?_ (fun hHeld => ?_)
  · (first | exact HKS.out.parts | exact HKS.out.drew.parts | (go_split_ands; first | exact KS.parts (KS.below (by assumption) (by assumption)) | exact KS.parts (KS.drew (by assumption)) | exact KS.parts (by assumption)))
  clear hK K
  try simp only [Act.put, List.setIfInBounds_toArray, List.set_cons_zero, List.set_cons_succ, List.getElem_toArray, List.getElem_cons_zero, List.getElem_cons_succ]
  refine wpAnyH_take (i := 9) (v := ?_) rfl (by kernel_rfl) (by kernel_rfl) (by kernel_rfl) (fun _ _ _ h => h) (Or.inl ⟨by rfl, ?_⟩) (by assumption) ?_
  rotate_left
  · (intro w hSw; (try dsimp only at hSw); go_simp; try rfl)
  try simp only [Act.put, List.setIfInBounds_toArray, List.set_cons_zero, List.set_cons_succ, List.getElem_toArray, List.getElem_cons_zero, List.getElem_cons_succ]
  refine wpAnyH_take (i := 10) (v := ?_) rfl (by kernel_rfl) (by kernel_rfl) (by kernel_rfl) (fun _ _ _ h => h) (Or.inl ⟨by rfl, ?_⟩) (by assumption) ?_
  rotate_left
  · (intro w hSw; (try dsimp only at hSw); go_simp; try rfl)
  try simp only [Act.put, List.setIfInBounds_toArray, List.set_cons_zero, List.set_cons_succ, List.getElem_toArray, List.getElem_cons_zero, List.getElem_cons_succ]
  refine wpAnyH_take (i := 11) (v := ?_) rfl (by kernel_rfl) (by kernel_rfl) (by kernel_rfl) (fun _ _ _ h => h) (Or.inl ⟨by rfl, ?_⟩) (by assumption) ?_
  rotate_left
  · (intro w hSw; (try dsimp only at hSw); go_simp; try rfl)
  try simp only [Act.put, List.setIfInBounds_toArray, List.set_cons_zero, List.set_cons_succ, List.getElem_toArray, List.getElem_cons_zero, List.getElem_cons_succ]
  refine wpAnyH_take (i := 12) (v := ?_) rfl (by kernel_rfl) (by kernel_rfl) (by kernel_rfl) (fun _ _ _ h => h) (Or.inl ⟨by rfl, ?_⟩) (by assumption) ?_
  rotate_left
  · (intro w hSw; (try dsimp only at hSw); go_simp; try rfl)
  try simp only [Act.put, List.setIfInBounds_toArray, List.set_cons_zero, List.set_cons_succ, List.getElem_toArray, List.getElem_cons_zero, List.getElem_cons_succ]
  refine wpAnyH_take (i := 15) (v := ?_) rfl (by kernel_rfl) (by kernel_rfl) (by kernel_rfl) (fun _ _ _ h => h) (Or.inl ⟨by rfl, ?_⟩) (by assumption) ?_
  rotate_left
  · (intro w hSw; (try dsimp only at hSw); go_simp; try rfl)
  try simp only [Act.put, List.setIfInBounds_toArray, List.set_cons_zero, List.set_cons_succ, List.getElem_toArray, List.getElem_cons_zero, List.getElem_cons_succ]
  refine wpAnyH_ready (rs := [13]) (by kernel_rfl) (by simp) ?_
  refine (AllReadyH.cons rfl (fun K hK => ?_) AllReadyH.nil)
  refine step_bytes (by rfl) 9 27 _ rfl 5 Try.underlying9 Try.underlying27 Try.underlying5 _ rfl z1 ?_
  intro v13 x13 ht13 hz13 hb13
  have HT13 := Lib.hid ht13
  clear ht13 hz13
  refine hK.out _ _ ?_ (fun hHeld => ?_)
  · (first | exact HKS.out.parts | exact HKS.out.drew.parts | (go_split_ands; first | exact KS.parts (KS.below (by assumption) (by assumption)) | exact KS.parts (KS.drew (by assumption)) | exact KS.parts (by assumption)))
  clear hK K
  try simp only [Act.put, List.setIfInBounds_toArray, List.set_cons_zero, List.set_cons_succ, List.getElem_toArray, List.getElem_cons_zero, List.getElem_cons_succ]
  refine wpAnyH_ready (rs := [14]) (by kernel_rfl) (by simp) ?_
  refine (AllReadyH.cons rfl (fun K hK => ?_) AllReadyH.nil)
  go_simp
  (go_at_call 13; refine (of_any _ _ _ HT13.out HX.out).mono ?_; rintro e y14 ⟨rfl, hc14⟩)
  refine hK.out _ _ ?_ (fun hHeld => ?_)
  · (first | exact HKS.out.parts | exact HKS.out.drew.parts | (go_split_ands; first | exact KS.parts (KS.below (by assumption) (by assumption)) | exact KS.parts (KS.drew (by assumption)) | exact KS.parts (by assumption)))
  clear hK K
  try simp only [Act.put, List.setIfInBounds_toArray, List.set_cons_zero, List.set_cons_succ, List.getElem_toArray, List.getElem_cons_zero, List.getElem_cons_succ]
  refine wpAnyH_ready (rs := [16]) (by kernel_rfl) (by simp) ?_
  refine (AllReadyH.cons rfl (fun K hK => ?_) AllReadyH.nil)
  go_simp
  (go_at_call 12; refine (rmore_any 0 _ _ (by decide) z1).mono ?_; rintro e y16 ⟨rfl, rfl⟩)
  refine hK.out _ _ ?_ (fun hHeld => ?_)
  · (first | exact HKS.out.parts | exact HKS.out.drew.parts | (go_split_ands; first | exact KS.parts (KS.below (by assumption) (by assumption)) | exact KS.parts (KS.drew (by assumption)) | exact KS.parts (by assumption)))
  clear hK K
  try simp only [Act.put, List.setIfInBounds_toArray, List.set_cons_zero, List.set_cons_succ, List.getElem_toArray, List.getElem_cons_zero, List.getElem_cons_succ]
  refine wpAnyH_take (i := 17) (v := ?_) rfl (by kernel_rfl) (by kernel_rfl) (by kernel_rfl) (fun _ _ _ h => h) (Or.inl ⟨by rfl, ?_⟩) (by assumption) ?_
  rotate_left
  · (intro w hSw; (try dsimp only at hSw); go_simp; try rfl)
  try simp only [Act.put, List.setIfInBounds_toArray, List.set_cons_zero, List.set_cons_succ, List.getElem_toArray, List.getElem_cons_zero, List.getElem_cons_succ]
  refine wpAnyH_take (i := 18) (v := ?_) rfl (by kernel_rfl) (by kernel_rfl) (by kernel_rfl) (fun _ _ _ h => h) (Or.inl ⟨by rfl, ?_⟩) (by assumption) ?_
  rotate_left
  · (intro w hSw; (try dsimp only at hSw); go_simp; try rfl)
  try simp only [Act.put, List.setIfInBounds_toArray, List.set_cons_zero, List.set_cons_succ, List.getElem_toArray, List.getElem_cons_zero, List.getElem_cons_succ]
  refine wpAnyH_take (i := 19) (v := ?_) rfl (by kernel_rfl) (by kernel_rfl) (by kernel_rfl) (fun _ _ _ h => h) (Or.inl ⟨by rfl, ?_⟩) (by assumption) ?_
  rotate_left
  · (intro w hSw; (try dsimp only at hSw); go_simp; try rfl)
  try simp only [Act.put, List.setIfInBounds_toArray, List.set_cons_zero, List.set_cons_succ, List.getElem_toArray, List.getElem_cons_zero, List.getElem_cons_succ]
  refine wpAnyH_take (i := 20) (v := ?_) rfl (by kernel_rfl) (by kernel_rfl) (by kernel_rfl) (fun _ _ _ h => h) (Or.inl ⟨by rfl, ?_⟩) (by assumption) ?_
  rotate_left
  · (intro w hSw; (try dsimp only at hSw); go_simp; try rfl)
  try simp only [Act.put, List.setIfInBounds_toArray, List.set_cons_zero, List.set_cons_succ, List.getElem_toArray, List.getElem_cons_zero, List.getElem_cons_succ]
  refine wpAnyH_take (i := 21) (v := ?_) rfl (by kernel_rfl) (by kernel_rfl) (by kernel_rfl) (fun _ _ _ h => h) (Or.inl ⟨by rfl, ?_⟩) (by assumption) ?_
  rotate_left
  · (intro w hSw; (try dsimp only at hSw); go_simp; try rfl)
  try simp only [Act.put, List.setIfInBounds_toArray, List.set_cons_zero, List.set_cons_succ, List.getElem_toArray, List.getElem_cons_zero, List.getElem_cons_succ]
  refine wpAnyH_take (i := 22) (v := ?_) rfl (by kernel_rfl) (by kernel_rfl) (by kernel_rfl) (fun _ _ _ h => h) (Or.inl ⟨by rfl, ?_⟩) (by assumption) ?_
  rotate_left
  · (intro w hSw; (try dsimp only at hSw); go_simp; try rfl)
  try simp only [Act.put, List.setIfInBounds_toArray, List.set_cons_zero, List.set_cons_succ, List.getElem_toArray, List.getElem_cons_zero, List.getElem_cons_succ]
  refine wpAnyH_take (i := 23) (v := ?_) rfl (by kernel_rfl) (by kernel_rfl) (by kernel_rfl) (fun _ _ _ h => h) (Or.inl ⟨by rfl, ?_⟩) (by assumption) ?_
  rotate_left
  · (intro w hSw; (try dsimp only at hSw); go_simp; try rfl)
  try simp only [Act.put, List.setIfInBounds_toArray, List.set_cons_zero, List.set_cons_succ, List.getElem_toArray, List.getElem_cons_zero, List.getElem_cons_succ]
  refine wpAnyH_take (i := 24) (v := ?_) rfl (by kernel_rfl) (by kernel_rfl) (by kernel_rfl) (fun _ _ _ h => h) (Or.inl ⟨by rfl, ?_⟩) (by assumption) ?_
  rotate_left
  · (intro w hSw; (try dsimp only at hSw); go_simp; try rfl)
  try simp only [Act.put, List.setIfInBounds_toArray, List.set_cons_zero, List.set_cons_succ, List.getElem_toArray, List.getElem_cons_zero, List.getElem_cons_succ]
  refine wpAnyH_ready (rs := [25]) (by kernel_rfl) (by simp) ?_
  refine (AllReadyH.cons rfl (fun K hK => ?_) AllReadyH.nil)
  go_simp
  (go_at_call 14; refine (rstep_any _ _ hi32).mono ?_; rintro e y25 ⟨rfl, rfl⟩)
  refine hK.out _ _ ?_ (fun hHeld => ?_)
  · (first | exact HKS.out.parts | exact HKS.out.drew.parts | (go_split_ands; first | exact KS.parts (KS.below (by assumption) (by assumption)) | exact KS.parts (KS.drew (by assumption)) | exact KS.parts (by assumption)))
  clear hK K
  try simp only [Act.put, List.setIfInBounds_toArray, List.set_cons_zero, List.set_cons_succ, List.getElem_toArray, List.getElem_cons_zero, List.getElem_cons_succ]
  refine wpAnyH_take (i := 26) (v := ?_) rfl (by kernel_rfl) (by kernel_rfl) (by kernel_rfl) (fun _ _ _ h => h) (Or.inl ⟨by rfl, ?_⟩) (by assumption) ?_
  rotate_left
  · (intro w hSw; (try dsimp only at hSw); go_simp; try rfl)
  try simp only [Act.put, List.setIfInBounds_toArray, List.set_cons_zero, List.set_cons_succ, List.getElem_toArray, List.getElem_cons_zero, List.getElem_cons_succ]
  refine wpAnyH_take (i := 27) (v := ?_) rfl (by kernel_rfl) (by kernel_rfl) (by kernel_rfl) (fun _ _ _ h => h) (Or.inl ⟨by rfl, ?_⟩) (by assumption) ?_
  rotate_left
  · (intro w hSw; (try dsimp only at hSw); go_simp; try rfl)
  try simp only [Act.put, List.setIfInBounds_toArray, List.set_cons_zero, List.set_cons_succ, List.getElem_toArray, List.getElem_cons_zero, List.getElem_cons_succ]
  refine wpAnyH_take (i := 28) (v := ?_) rfl (by kernel_rfl) (by kernel_rfl) (by kernel_rfl) (fun _ _ _ h => h) (Or.inl ⟨by rfl, ?_⟩) (by assumption) ?_
  rotate_left
  · (intro w hSw; (try dsimp only at hSw); go_simp; try rfl)
  try simp only [Act.put, List.setIfInBounds_toArray, List.set_cons_zero, List.set_cons_succ, List.getElem_toArray, List.getElem_cons_zero, List.getElem_cons_succ]
  refine wpAnyH_done (by kernel_rfl) ?_ _
  go_split_ands
  go_wp2
  go_ret
  exact ⟨rfl, (by assumption : KS _ _ _ _ _).2.2⟩
theorem sums_law (s : Int) (b : ByteArray) (i : Int) (w : World) (hs : (Lit.int .u32 s).wf = true) (hb : b.size ≤ maxLen) (hi : (Lit.int .u8 i).wf = true) :
    Calls Try.prog 3 #[.int .u32 s, .string b, .int .u8 i] w fun e w' => e = .returned (.bool true) ∧ Below w.heap.size w w' := by
  obtain ⟨s, rfl, hs1⟩ := u32_wf hs
  have hi := u8_wf hi
  obtain ⟨i, rfl⟩ := Int.eq_ofNat_of_zero_le hi.1
  by_cases hl : b.size ≤ 3000
  · exact sums_in s b i w hs1 hl (by omega)
  · have t1 : (3000 : Int) < b.size := by omega
    go_enter Try.func3, Try.ntmps3
    go_wp2_with (go_at_call 9; refine (works_any _).mono ?_; rintro e w1 ⟨rfl, hb1⟩)
    go_ret
    exact ⟨rfl, hb1⟩
end Go.Proofs.Ytofcpjjhchlcmaa
