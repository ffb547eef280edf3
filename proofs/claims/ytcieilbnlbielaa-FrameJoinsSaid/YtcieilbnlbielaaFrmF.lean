/-
  The walk of FrameFirst.
-/
import Derived.Test.YtcieilbnlbielaaFrmW
namespace Go.Proofs.Ytcieilbnlbielaa
open Go.RowKit
set_option linter.unusedSimpArgs false
set_option linter.unusedVariables false

theorem f4_dec4 {l : List Int} (h : ∀ x ∈ l, 0 ≤ x ∧ x ≤ 255) (hl : 4 ≤ l.length) : f4 (dec4 l) = l.take 4 := by
  have h0 := getD_range h 0
  have h1 := getD_range h 1
  have h2 := getD_range h 2
  have h3 := getD_range h 3
  have e : l.take 4 = [l.getD 0 0, l.getD 1 0, l.getD 2 0, l.getD 3 0] := by
    match l, hl with
    | a :: b :: c :: d :: r, _ => rfl
  rw [e]
  unfold f4 dec4
  generalize l.getD 0 0 = a at *
  generalize l.getD 1 0 = b at *
  generalize l.getD 2 0 = c at *
  generalize l.getD 3 0 = d at *
  simp only [List.cons.injEq, and_true]
  refine ⟨?_, ?_, ?_, ?_⟩ <;> omega
theorem dec4_f4 (n : Nat) (r : List Int) (h : n < 4294967296) : dec4 (f4 n ++ r) = n := by
  unfold dec4 f4
  simp
  omega
theorem tk_parts (b : List Int) (h : (tkN b).2.2 = 0) : (tkN b).1 = (b.take (8 + dec4 b)).drop 8 ∧ 8 + dec4 b ≤ b.length ∧ sumN 0 (tkN b).1 = dec4 (b.drop 4) ∧ (tkN b).2.1 = ((8 + dec4 b : Nat) : Int) ∧ dec4 b ≤ 16777215 := by
  unfold tkN tkG at h ⊢
  by_cases c0 : b.length < 8
  · rw [if_pos c0] at h; simp at h
  rw [if_neg c0] at h ⊢
  by_cases c1 : (16777215 : Int) < dec4 b
  · rw [if_pos c1] at h; simp at h
  rw [if_neg c1] at h ⊢
  by_cases c2 : b.length < 8 + dec4 b
  · rw [if_pos c2] at h; simp at h
  rw [if_neg c2] at h ⊢
  by_cases c3 : sumN 0 ((b.take (8 + dec4 b)).drop 8) ≠ dec4 (b.drop 4)
  · rw [if_pos c3] at h; simp at h
  rw [if_neg c3] at h ⊢
  exact ⟨rfl, by omega, by simpa using c3, rfl, by omega⟩
theorem tk_err (b : List Int) (h : (tkN b).2.2 ≠ 0) : (tkN b).1 = [] ∧ (tkN b).2.1 = 0 := by
  unfold tkN tkG at h ⊢
  by_cases c0 : b.length < 8
  · rw [if_pos c0]; exact ⟨rfl, rfl⟩
  rw [if_neg c0] at h ⊢
  by_cases c1 : (16777215 : Int) < dec4 b
  · rw [if_pos c1]; exact ⟨rfl, rfl⟩
  rw [if_neg c1] at h ⊢
  by_cases c2 : b.length < 8 + dec4 b
  · rw [if_pos c2]; exact ⟨rfl, rfl⟩
  rw [if_neg c2] at h ⊢
  by_cases c3 : sumN 0 ((b.take (8 + dec4 b)).drop 8) ≠ dec4 (b.drop 4)
  · rw [if_pos c3]; exact ⟨rfl, rfl⟩
  rw [if_neg c3] at h; simp at h
/-- What is taken is what would be put. -/
theorem tk_frm (b : List Int) (hb : ∀ x ∈ b, 0 ≤ x ∧ x ≤ 255) (h : (tkN b).2.2 = 0) : frm (tkN b).1 = b.take (8 + dec4 b) := by
  obtain ⟨h1, h2, h3, _, _⟩ := tk_parts b h
  have hl : (tkN b).1.length = dec4 b := by rw [h1]; simp; omega
  unfold frm
  rw [hl, h3, h1, f4_dec4 hb (by omega), f4_dec4 (fun x q => hb x (List.mem_of_mem_drop q)) (by simp; omega)]
  have e1 : b.take 4 ++ (b.drop 4).take 4 = b.take 8 := by
    rw [show (8 : Nat) = 4 + 4 from rfl, List.take_add]
  rw [e1, List.drop_take]
  rw [List.take_add]
  congr 2
  omega
theorem txt_extract (b : ByteArray) (n : Nat) : txt ((byt b).take n) = b.extract 0 n := by
  apply byt_inj
  rw [byt_txt (fun x q => byt_range b x (List.mem_of_mem_take q))]
  simp only [byt, ByteArray.data_extract, Array.toList_extract, List.extract_eq_take_drop, List.map_take, List.map_drop]
  simp
set_option maxRecDepth 100000 in
set_option maxHeartbeats 8000000 in
theorem first_good (b : ByteArray) (w : World) (hb : b.size ≤ 500) (x : List Int) (N : Nat) (hx : (tkN (byt b)).1 = x) (hN : dec4 (byt b) = N) (he : (tkN (byt b)).2.2 = 0) :
    Calls Try.prog 8 #[.string b] w fun e w' => e = .returned (.bool true) ∧ Below w.heap.size w w' := by
  obtain ⟨p1, p2, p3, p4, p5⟩ := tk_parts (byt b) he
  have hf := tk_frm (byt b) (byt_range b) he
  have hxr : ∀ z ∈ x, 0 ≤ z ∧ z ≤ 255 := by
    intro z q
    rw [← hx, p1] at q
    exact byt_range b z (List.mem_of_mem_take (List.mem_of_mem_drop q))
  rw [hN] at p1 p2 p4 p5 hf
  rw [byt_length] at p2
  have hxl : x.length = N := by rw [← hx, p1]; simp [byt_length]; omega
  rw [hx] at hf
  obtain ⟨M, hM⟩ : ∃ M, 8 + N = M := ⟨_, rfl⟩
  rw [hM] at p4 p2 hf
  have htk : tkN (byt b) = (x, (M : Int), 0) := Prod.ext hx (Prod.ext p4 he)
  have heq : ((txt (frm x)).toList == (b.extract 0 M).toList) = true := by rw [hf, txt_extract]; simp
  have t1 : ¬ (500 : Int) < b.size := by omega
  have z1 : b.size ≤ 9223372036854775807 := by omega
  have HTK := Lib.hid htk
  have HXR := Lib.hid hxr
  have hx2 : x.length ≤ 500 := by omega
  have hM2 : IntKind.i64.wrap ((x.length : Int) + 8) = (x.length : Int) + 8 := IntWalk.i64_in _ (by omega)
  have hM3 : ((M : Int) == (x.length : Int) + 8) = true := by simp; omega
  have hM4 : (M : Int) ≤ (b.size : Int) := by omega
  have hM5 : (0 : Int) ≤ (M : Int) := by omega
  have hM6 : M ≤ b.size := by omega
  have hx16 : x.length ≤ 16777215 := Nat.le_trans hx2 (by decide)
  have HX16 := Lib.hid hx16
  clear hx hN he p1 p2 p3 p4 p5 hf htk hxr hxl hM hx16
  go_enter Try.func8, Try.ntmps8
  go_wp2_with fail
  refine (works_any _).mono ?_
  rintro e w1 ⟨rfl, hb1⟩
  have HB1 := Lib.hid hb1
  clear hb1
  go_wp2_with (refine wpList_bytes_g (o := ⟨some 18, _, _, _, _, _⟩) rfl 9 23 _ rfl 5 Try.underlying9 Try.underlying23 Try.underlying5 _ rfl z1 ?_)
  intro v2 w2 ht2 hz2 hb2
  have HT2 := Lib.hid ht2
  have HB2 : Hid (Below w.heap.size w w2) := below_self HB1.out hb2
  clear ht2 hb2 HB1
  go_wp2_with fail
  refine (take_any _ (byt b) _ HT2.out (byt_range b) (by rw [byt_length]; omega)).mono ?_
  rw [HTK.out]
  rintro e w3 ⟨v3, he3, ho3, hb3⟩
  rw [he3.out]
  have ho3' : Own8 w3 _ v3 x := ho3
  have hbt3 := ho3'.bt (by omega)
  obtain ⟨a3, c3, rfl, _, _⟩ := hbt3.row
  have HT3 := Lib.hid hbt3
  have HB3 : Hid (Below w.heap.size w w3) := below_self HB2.out hb3
  clear he3 ho3 hb3 HT2 HB2 hbt3
  go_wp2_with fail
  refine (put_good _ x _ HT3.out HXR.out HX16.out).mono ?_
  rintro e w4 ⟨vf, he4, ht4, hb4⟩
  rw [he4.out]
  have HT := Lib.hid ht4
  have HB : Hid (Below w.heap.size w w4) := below_self HB3.out hb4
  clear he4 ht4 hb4 HB3 HT3
  go_wp2
  refine wp_region_held_drew (S := fun w' => Bt w' vf (frm x) ∧ Below w.heap.size w w') (by kernel_rfl) ?_ (fun hHeld => ?_)
  · (first | exact ⟨HT.out, HB.out⟩ | exact ⟨HT.out.below (Below.refl _ _).drew, HB.out.drew⟩ | (go_split_ands; first | exact ⟨(by assumption : Bt _ vf (frm x)).below (by assumption), below_self (by assumption) (by assumption)⟩ | exact ⟨by assumption, by assumption⟩))
  refine wpAnyH_take (i := 0) (v := ?_) rfl (by kernel_rfl) (by kernel_rfl) (by kernel_rfl) (fun _ _ _ h => h) (Or.inl ⟨by rfl, ?_⟩) (by assumption) ?_
  rotate_left
  · (intro w hSw; (try dsimp only at hSw); go_simp; try rfl)
  try simp only [Act.put, List.setIfInBounds_toArray, List.set_cons_zero, List.set_cons_succ, List.getElem_toArray, List.getElem_cons_zero, List.getElem_cons_succ]
  refine wpAnyH_take (i := 1) (v := ?_) rfl (by kernel_rfl) (by kernel_rfl) (by kernel_rfl) (fun _ _ _ h => h) (Or.inl ⟨by rfl, ?_⟩) (by assumption) ?_
  rotate_left
  · (intro w hSw; (try dsimp only at hSw); go_simp; try rfl)
  try simp only [Act.put, List.setIfInBounds_toArray, List.set_cons_zero, List.set_cons_succ, List.getElem_toArray, List.getElem_cons_zero, List.getElem_cons_succ]
  refine wpAnyH_take (i := 2) (v := ?_) rfl (by kernel_rfl) (by kernel_rfl) (by kernel_rfl) (fun _ _ _ h => h) (Or.inl ⟨by rfl, ?_⟩) (by assumption) ?_
  rotate_left
  · (intro w hSw; (try dsimp only at hSw); go_simp; try rfl)
  try simp only [Act.put, List.setIfInBounds_toArray, List.set_cons_zero, List.set_cons_succ, List.getElem_toArray, List.getElem_cons_zero, List.getElem_cons_succ]
  refine wpAnyH_take (i := 3) (v := ?_) rfl (by kernel_rfl) (by kernel_rfl) (by kernel_rfl) (fun _ _ _ h => h) (Or.inl ⟨by rfl, ?_⟩) (by assumption) ?_
  rotate_left
  · (intro w hSw; (try dsimp only at hSw); go_simp; try rfl)
  try simp only [Act.put, List.setIfInBounds_toArray, List.set_cons_zero, List.set_cons_succ, List.getElem_toArray, List.getElem_cons_zero, List.getElem_cons_succ]
  refine wpAnyH_take (i := 4) (v := ?_) rfl (by kernel_rfl) (by kernel_rfl) (by kernel_rfl) (fun _ _ _ h => h) (Or.inl ⟨by rfl, ?_⟩) (by assumption) ?_
  rotate_left
  · (intro w hSw; (try dsimp only at hSw); go_simp; try rfl)
  try simp only [Act.put, List.setIfInBounds_toArray, List.set_cons_zero, List.set_cons_succ, List.getElem_toArray, List.getElem_cons_zero, List.getElem_cons_succ]
  refine wpAnyH_take (i := 5) (v := ?_) rfl (by kernel_rfl) (by kernel_rfl) (by kernel_rfl) (fun _ _ _ h => h) (Or.inl ⟨by rfl, ?_⟩) (by assumption) ?_
  rotate_left
  · (intro w hSw; (try dsimp only at hSw); go_simp; try rfl)
  try simp only [Act.put, List.setIfInBounds_toArray, List.set_cons_zero, List.set_cons_succ, List.getElem_toArray, List.getElem_cons_zero, List.getElem_cons_succ]
  refine wpAnyH_take (i := 6) (v := ?_) rfl (by kernel_rfl) (by kernel_rfl) (by kernel_rfl) (fun _ _ _ h => h) (Or.inl ⟨by rfl, ?_⟩) (by assumption) ?_
  rotate_left
  · (intro w hSw; (try dsimp only at hSw); go_simp; try rfl)
  try simp only [Act.put, List.setIfInBounds_toArray, List.set_cons_zero, List.set_cons_succ, List.getElem_toArray, List.getElem_cons_zero, List.getElem_cons_succ]
  refine wpAnyH_take (i := 7) (v := ?_) rfl (by kernel_rfl) (by kernel_rfl) (by kernel_rfl) (fun _ _ _ h => h) (Or.inl ⟨by rfl, ?_⟩) (by assumption) ?_
  rotate_left
  · (intro w hSw; (try dsimp only at hSw); go_simp; try rfl)
  try simp only [Act.put, List.setIfInBounds_toArray, List.set_cons_zero, List.set_cons_succ, List.getElem_toArray, List.getElem_cons_zero, List.getElem_cons_succ]
  refine wpAnyH_ready (rs := [8]) (by kernel_rfl) (by simp) ?_
  refine (AllReadyH.cons rfl (fun K hK => ?_) AllReadyH.nil)
  go_simp
  refine hK.out _ _ ?_ (fun hHeld => ?_)
  · (first | exact ⟨HT.out, HB.out⟩ | exact ⟨HT.out.below (Below.refl _ _).drew, HB.out.drew⟩ | (go_split_ands; first | exact ⟨(by assumption : Bt _ vf (frm x)).below (by assumption), below_self (by assumption) (by assumption)⟩ | exact ⟨by assumption, by assumption⟩))
  clear hK K
  try simp only [Act.put, List.setIfInBounds_toArray, List.set_cons_zero, List.set_cons_succ, List.getElem_toArray, List.getElem_cons_zero, List.getElem_cons_succ]
  refine wpAnyH_take (i := 9) (v := ?_) rfl (by kernel_rfl) (by kernel_rfl) (by kernel_rfl) (fun _ _ _ h => h) (Or.inl ⟨by rfl, ?_⟩) (by assumption) ?_
  rotate_left
  · (intro w hSw; (try dsimp only at hSw); go_simp; try rfl)
  try simp only [Act.put, List.setIfInBounds_toArray, List.set_cons_zero, List.set_cons_succ, List.getElem_toArray, List.getElem_cons_zero, List.getElem_cons_succ]
  refine wpAnyH_take (i := 10) (v := ?_) rfl (by kernel_rfl) (by kernel_rfl) (by kernel_rfl) (fun _ _ _ h => h) (Or.inl ⟨by rfl, ?_⟩) (by assumption) ?_
  rotate_left
  · (intro w hSw; (try dsimp only at hSw); go_simp; try rfl)
  try simp only [Act.put, List.setIfInBounds_toArray, List.set_cons_zero, List.set_cons_succ, List.getElem_toArray, List.getElem_cons_zero, List.getElem_cons_succ]
  refine wpAnyH_take (i := 11) (v := ?_) rfl (by kernel_rfl) (by kernel_rfl) (by kernel_rfl) (fun _ _ _ h => h) (Or.inl ⟨by rfl, ?_⟩) (by assumption) ?_
  rotate_left
  · (intro w hSw; (try dsimp only at hSw); go_simp; try rfl)
  try simp only [Act.put, List.setIfInBounds_toArray, List.set_cons_zero, List.set_cons_succ, List.getElem_toArray, List.getElem_cons_zero, List.getElem_cons_succ]
  refine wpAnyH_take (i := 12) (v := ?_) rfl (by kernel_rfl) (by kernel_rfl) (by kernel_rfl) (fun _ _ _ h => h) (Or.inl ⟨by rfl, ?_⟩) (by assumption) ?_
  rotate_left
  · (intro w hSw; (try dsimp only at hSw); go_simp; try rfl)
  try simp only [Act.put, List.setIfInBounds_toArray, List.set_cons_zero, List.set_cons_succ, List.getElem_toArray, List.getElem_cons_zero, List.getElem_cons_succ]
  refine wpAnyH_take (i := 13) (v := ?_) rfl (by kernel_rfl) (by kernel_rfl) (by kernel_rfl) (fun _ _ _ h => h) (Or.inl ⟨by rfl, ?_⟩) (by assumption) ?_
  rotate_left
  · (intro w hSw; (try dsimp only at hSw); go_simp; try rfl)
  try simp only [Act.put, List.setIfInBounds_toArray, List.set_cons_zero, List.set_cons_succ, List.getElem_toArray, List.getElem_cons_zero, List.getElem_cons_succ]
  refine wpAnyH_take (i := 14) (v := ?_) rfl (by kernel_rfl) (by kernel_rfl) (by kernel_rfl) (fun _ _ _ h => h) (Or.inl ⟨by rfl, ?_⟩) (by assumption) ?_
  rotate_left
  · (intro w hSw; (try dsimp only at hSw); go_simp; try rfl)
  try simp only [Act.put, List.setIfInBounds_toArray, List.set_cons_zero, List.set_cons_succ, List.getElem_toArray, List.getElem_cons_zero, List.getElem_cons_succ]
  refine wpAnyH_ready (rs := [15]) (by kernel_rfl) (by simp) ?_
  refine (AllReadyH.cons rfl (fun K hK => ?_) AllReadyH.nil)
  go_simp
  refine hK.out _ _ ?_ (fun hHeld => ?_)
  · (first | exact ⟨HT.out, HB.out⟩ | exact ⟨HT.out.below (Below.refl _ _).drew, HB.out.drew⟩ | (go_split_ands; first | exact ⟨(by assumption : Bt _ vf (frm x)).below (by assumption), below_self (by assumption) (by assumption)⟩ | exact ⟨by assumption, by assumption⟩))
  clear hK K
  try simp only [Act.put, List.setIfInBounds_toArray, List.set_cons_zero, List.set_cons_succ, List.getElem_toArray, List.getElem_cons_zero, List.getElem_cons_succ]
  refine wpAnyH_take (i := 16) (v := ?_) rfl (by kernel_rfl) (by kernel_rfl) (by kernel_rfl) (fun _ _ _ h => h) (Or.inl ⟨by rfl, ?_⟩) (by assumption) ?_
  rotate_left
  · (intro w hSw; (try dsimp only at hSw); go_simp; try rfl)
  try simp only [Act.put, List.setIfInBounds_toArray, List.set_cons_zero, List.set_cons_succ, List.getElem_toArray, List.getElem_cons_zero, List.getElem_cons_succ]
  refine wpAnyH_take (i := 17) (v := ?_) rfl (by kernel_rfl) (by kernel_rfl) (by kernel_rfl) (fun _ _ _ h => h) (Or.inl ⟨by rfl, ?_⟩) (by assumption) ?_
  rotate_left
  · (intro w hSw; (try dsimp only at hSw); go_simp; try rfl)
  try simp only [Act.put, List.setIfInBounds_toArray, List.set_cons_zero, List.set_cons_succ, List.getElem_toArray, List.getElem_cons_zero, List.getElem_cons_succ]
  refine wpAnyH_take (i := 18) (v := ?_) rfl (by kernel_rfl) (by kernel_rfl) (by kernel_rfl) (fun _ _ _ h => h) (Or.inl ⟨by rfl, ?_⟩) (by assumption) ?_
  rotate_left
  · (intro w hSw; (try dsimp only at hSw); go_simp; try rfl)
  try simp only [Act.put, List.setIfInBounds_toArray, List.set_cons_zero, List.set_cons_succ, List.getElem_toArray, List.getElem_cons_zero, List.getElem_cons_succ]
  refine wpAnyH_take (i := 19) (v := ?_) rfl (by kernel_rfl) (by kernel_rfl) (by kernel_rfl) (fun _ _ _ h => h) (Or.inl ⟨by rfl, ?_⟩) (by assumption) ?_
  rotate_left
  · (intro w hSw; (try dsimp only at hSw); go_simp; try rfl)
  try simp only [Act.put, List.setIfInBounds_toArray, List.set_cons_zero, List.set_cons_succ, List.getElem_toArray, List.getElem_cons_zero, List.getElem_cons_succ]
  refine wpAnyH_take (i := 21) (v := ?_) rfl (by kernel_rfl) (by kernel_rfl) (by kernel_rfl) (fun _ _ _ h => h) (Or.inl ⟨by rfl, ?_⟩) (by assumption) ?_
  rotate_left
  · (intro w hSw; (try dsimp only at hSw); go_simp; try rfl)
  try simp only [Act.put, List.setIfInBounds_toArray, List.set_cons_zero, List.set_cons_succ, List.getElem_toArray, List.getElem_cons_zero, List.getElem_cons_succ]
  refine wpAnyH_take (i := 22) (v := ?_) rfl (by kernel_rfl) (by kernel_rfl) (by kernel_rfl) (fun _ _ _ h => h) (Or.inl ⟨by rfl, ?_⟩) (by assumption) ?_
  rotate_left
  · (intro w hSw; (try dsimp only at hSw); go_simp; try rfl)
  try simp only [Act.put, List.setIfInBounds_toArray, List.set_cons_zero, List.set_cons_succ, List.getElem_toArray, List.getElem_cons_zero, List.getElem_cons_succ]
  refine wpAnyH_take (i := 23) (v := ?_) rfl (by kernel_rfl) (by kernel_rfl) (by kernel_rfl) (fun _ _ _ h => h) (Or.inl ⟨by rfl, ?_⟩) (by assumption) ?_
  rotate_left
  · (intro w hSw; (try dsimp only at hSw); go_simp; try rfl)
  try simp only [Act.put, List.setIfInBounds_toArray, List.set_cons_zero, List.set_cons_succ, List.getElem_toArray, List.getElem_cons_zero, List.getElem_cons_succ]
  refine wpAnyH_ready (rs := [20]) (by kernel_rfl) (by simp) ?_
  refine (AllReadyH.cons rfl (fun K hK => ?_) AllReadyH.nil)
  go_split_ands
  refine step_text (by rfl) 23 9 _ rfl 5 Try.underlying23 Try.underlying5 Try.underlying9 _ (frm x) rfl (by assumption) ?_
  refine hK.out _ _ ?_ (fun hHeld => ?_)
  · (first | exact ⟨HT.out, HB.out⟩ | exact ⟨HT.out.below (Below.refl _ _).drew, HB.out.drew⟩ | (go_split_ands; first | exact ⟨(by assumption : Bt _ vf (frm x)).below (by assumption), below_self (by assumption) (by assumption)⟩ | exact ⟨by assumption, by assumption⟩))
  clear hK K
  try simp only [Act.put, List.setIfInBounds_toArray, List.set_cons_zero, List.set_cons_succ, List.getElem_toArray, List.getElem_cons_zero, List.getElem_cons_succ]
  refine wpAnyH_take (i := 24) (v := ?_) rfl (by kernel_rfl) (by kernel_rfl) (by kernel_rfl) (fun _ _ _ h => h) (Or.inl ⟨by rfl, ?_⟩) (by assumption) ?_
  rotate_left
  · (intro w hSw; (try dsimp only at hSw); go_simp; try rfl)
  try simp only [Act.put, List.setIfInBounds_toArray, List.set_cons_zero, List.set_cons_succ, List.getElem_toArray, List.getElem_cons_zero, List.getElem_cons_succ]
  refine wpAnyH_take (i := 25) (v := ?_) rfl (by kernel_rfl) (by kernel_rfl) (by kernel_rfl) (fun _ _ _ h => h) (Or.inl ⟨by rfl, ?_⟩) (by assumption) ?_
  rotate_left
  · (intro w hSw; (try dsimp only at hSw); go_simp; try rfl)
  try simp only [Act.put, List.setIfInBounds_toArray, List.set_cons_zero, List.set_cons_succ, List.getElem_toArray, List.getElem_cons_zero, List.getElem_cons_succ]
  refine wpAnyH_take (i := 26) (v := ?_) rfl (by kernel_rfl) (by kernel_rfl) (by kernel_rfl) (fun _ _ _ h => h) (Or.inl ⟨by rfl, ?_⟩) (by assumption) ?_
  rotate_left
  · (intro w hSw; (try dsimp only at hSw); go_simp; try rfl)
  try simp only [Act.put, List.setIfInBounds_toArray, List.set_cons_zero, List.set_cons_succ, List.getElem_toArray, List.getElem_cons_zero, List.getElem_cons_succ]
  refine wpAnyH_done (by kernel_rfl) ?_ _
  go_split_ands
  go_wp2
  go_ret
  exact ⟨rfl, by assumption⟩
set_option maxRecDepth 100000 in
set_option maxHeartbeats 8000000 in
theorem first_law (b : ByteArray) (w : World) (hb : b.size ≤ maxLen) :
    Calls Try.prog 8 #[.string b] w fun e w' => e = .returned (.bool true) ∧ Below w.heap.size w w' := by
  by_cases hl : b.size ≤ 500
  · by_cases he : (tkN (byt b)).2.2 = 0
    · exact first_good b w hl _ _ rfl rfl he
    · obtain ⟨q1, q2⟩ := tk_err (byt b) he
      obtain ⟨er, her⟩ : ∃ er, (tkN (byt b)).2.2 = er := ⟨_, rfl⟩
      rw [her] at he
      have htk : tkN (byt b) = ([], 0, er) := Prod.ext q1 (Prod.ext q2 her)
      have HTK := Lib.hid htk
      have hee : (er == 0) = false := by simpa using he
      have hen : (er != 0) = true := by simpa using he
      have t1 : ¬ (500 : Int) < b.size := by omega
      have z1 : b.size ≤ 9223372036854775807 := by omega
      clear q1 q2 her he htk
      go_enter Try.func8, Try.ntmps8
      go_wp2_with fail
      refine (works_any _).mono ?_
      rintro e w1 ⟨rfl, hb1⟩
      have HB1 := Lib.hid hb1
      clear hb1
      go_wp2_with (refine wpList_bytes_g (o := ⟨some 18, _, _, _, _, _⟩) rfl 9 23 _ rfl 5 Try.underlying9 Try.underlying23 Try.underlying5 _ rfl z1 ?_)
      intro v2 w2 ht2 hz2 hb2
      have HT2 := Lib.hid ht2
      have HB2 : Hid (Below w.heap.size w w2) := below_self HB1.out hb2
      clear ht2 hb2 HB1
      go_wp2_with fail
      refine (take_any _ (byt b) _ HT2.out (byt_range b) (by rw [byt_length]; omega)).mono ?_
      rw [HTK.out]
      rintro e w3 ⟨v3, he3, ho3, hb3⟩
      rw [he3.out]
      have ho3' : Own8 w3 _ v3 [] := ho3
      obtain ⟨a3, c3, rfl, _, _⟩ := (ho3'.bt (by simp)).row
      have HB3 : Hid (Below w.heap.size w w3) := below_self HB2.out hb3
      clear he3 ho3 hb3 HT2 HB2
      go_wp2
      go_ret
      exact ⟨rfl, HB3.out⟩
  · have t1 : (500 : Int) < b.size := by omega
    go_enter Try.func8, Try.ntmps8
    go_wp2_with (go_at_call 9; refine (works_any _).mono ?_; rintro e w1 ⟨rfl, hb1⟩)
    go_ret
    exact ⟨rfl, hb1⟩
end Go.Proofs.Ytcieilbnlbielaa
