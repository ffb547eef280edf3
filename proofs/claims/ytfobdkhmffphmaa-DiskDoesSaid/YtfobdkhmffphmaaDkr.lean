/-
  The document's own disk.
-/
import Derived.Test.YtfobdkhmffphmaaFrmX
import Derived.Test.YtfobdkhmffphmaaDsk5
import Derived.Test.YtfobdkhmffphmaaBk
import Derived.Lib.MinMax
namespace Go.Proofs.Ytfobdkhmffphmaa
open Go.RowKit
set_option linter.unusedSimpArgs false
set_option linter.unusedVariables false
set_option maxRecDepth 100000

/-- The document's disk lies at r: what lasts, and what does not. -/
def RAt (w : World) (r : Nat) (o n : ByteArray) : Prop := Bk w r 30 [.string o, .string n]
/-- Of what was there that block alone has turned. -/
structure Fr (w w' : World) (r : Nat) : Prop where
  os : w'.os = w.os
  tape : w'.tape = w.tape
  output : w'.output = w.output
  size : w.heap.size ≤ w'.heap.size
  block : ∀ k, k < w.heap.size → k ≠ r → w'.heap[k]? = w.heap[k]?
theorem Fr.refl (w : World) (r : Nat) : Fr w w r := ⟨rfl, rfl, rfl, Nat.le_refl _, fun _ _ _ => rfl⟩
theorem Fr.drew {w w' : World} {r : Nat} (h : Fr w w' r) : Fr w w'.drew r := ⟨h.os, h.tape, h.output, h.size, h.block⟩
theorem Fr.set {w w' : World} {r : Nat} (h : Fr w w' r) (o : Nat) (u : Value) : Fr w (w'.setCell ⟨r, o, none⟩ u) r := ⟨h.os, h.tape, h.output, by simpa using h.size, fun k hk hn => (Below.heap_setCell _ _ _ k hn).trans (h.block k hk hn)⟩
theorem Fr.below {w w' : World} {r : Nat} (h : Below w.heap.size w w') : Fr w w' r := ⟨h.os, h.tape, h.output, h.size, fun k hk _ => h.block k hk⟩
theorem Fr.trans {w w1 w2 : World} {r : Nat} (h : Fr w w1 r) (k : Fr w1 w2 r) : Fr w w2 r := ⟨k.os.trans h.os, k.tape.trans h.tape, k.output.trans h.output, Nat.le_trans h.size k.size, fun j hj hn => (k.block j (Nat.lt_of_lt_of_le hj h.size) hn).trans (h.block j hj hn)⟩
def RsP (r : Nat) (o n : ByteArray) (w : World) (e : Ending) (w' : World) : Prop := Hid (e = .returned (.tuple #[])) ∧ RAt w' r o n ∧ Fr w w' r
theorem bk_drew {w : World} {b : Nat} {T : TypeId} {cs : List Value} (h : Bk w b T cs) : Bk w.drew b T cs := h
set_option maxHeartbeats 4000000 in
theorem rsync_any {w : World} {r : Nat} {o n : ByteArray} (h : RAt w r o n) (hs : o.size + n.size ≤ 100000) : Calls Try.prog 8 #[.pointer (some ⟨r, 0, none⟩)] w (RsP r (o ++ n) ⟨#[]⟩ w) := by
  have HR := Lib.hid h
  have HRd := Lib.hid (bk_drew h)
  have c0 := (bk_drew h).cell 0
  have c1 := (bk_drew h).cell 1
  have f0 := (bk_drew h).fz 0
  have f1 := (bk_drew h).fz 1
  simp only [List.getElem?_cons_zero, List.getElem?_cons_succ] at c0 c1
  have hlt := h.lt
  have hz1 : ¬ (9223372036854775807 : Int) < (o.size : Int) + (n.size : Int) := by omega
  have hz2 : ¬ 9223372036854775807 < o.size + n.size := by omega
  clear h
  go_enter Try.func8, Try.ntmps8
  go_wp2_with fail
  refine wp_region_held_drew (S := (fun _ => True)) (by kernel_rfl) ?_ (fun hHeld => ?_)
  · (trivial)
  refine wpAnyH_take (i := 0) (v := ?_) rfl (by kernel_rfl) (by kernel_rfl) (by kernel_rfl) (fun _ _ _ h => h) (Or.inl ⟨by rfl, ?_⟩) (by assumption) ?_
  rotate_left
  · (intro w hSw; (try dsimp only at hSw); go_simp; try rfl)
  try simp only [Act.put, List.setIfInBounds_toArray, List.set_cons_zero, List.set_cons_succ, List.getElem_toArray, List.getElem_cons_zero, List.getElem_cons_succ]
  refine wpAnyH_take (i := 1) (v := ?_) rfl (by kernel_rfl) (by kernel_rfl) (by kernel_rfl) (fun _ _ _ h => h) (Or.inl ⟨by rfl, ?_⟩) (by assumption) ?_
  rotate_left
  · (intro w hSw; (try dsimp only at hSw); go_simp; try rfl)
  try simp only [Act.put, List.setIfInBounds_toArray, List.set_cons_zero, List.set_cons_succ, List.getElem_toArray, List.getElem_cons_zero, List.getElem_cons_succ]
  refine wpAnyH_take (i := 2) (v := ?_) rfl (by kernel_rfl) (by kernel_rfl) (by kernel_rfl) (fun _ _ _ h => h) (Or.inl ⟨by rfl, ?_⟩) (by assumption) ?_
  rotate_left
  · (intro w hSw; (try dsimp only at hSw); go_simp; try rfl)
  try simp only [Act.put, List.setIfInBounds_toArray, List.set_cons_zero, List.set_cons_succ, List.getElem_toArray, List.getElem_cons_zero, List.getElem_cons_succ]
  refine wpAnyH_take (i := 3) (v := ?_) rfl (by kernel_rfl) (by kernel_rfl) (by kernel_rfl) (fun _ _ _ h => h) (Or.inl ⟨by rfl, ?_⟩) (by assumption) ?_
  rotate_left
  · (intro w hSw; (try dsimp only at hSw); go_simp; try rfl)
  try simp only [Act.put, List.setIfInBounds_toArray, List.set_cons_zero, List.set_cons_succ, List.getElem_toArray, List.getElem_cons_zero, List.getElem_cons_succ]
  refine wpAnyH_take (i := 5) (v := ?_) rfl (by kernel_rfl) (by kernel_rfl) (by kernel_rfl) (fun _ _ _ h => h) (Or.inl ⟨by rfl, ?_⟩) (by assumption) ?_
  rotate_left
  · (intro w hSw; (try dsimp only at hSw); go_simp; try rfl)
  try simp only [Act.put, List.setIfInBounds_toArray, List.set_cons_zero, List.set_cons_succ, List.getElem_toArray, List.getElem_cons_zero, List.getElem_cons_succ]
  refine wpAnyH_take (i := 6) (v := ?_) rfl (by kernel_rfl) (by kernel_rfl) (by kernel_rfl) (fun _ _ _ h => h) (Or.inl ⟨by rfl, ?_⟩) (by assumption) ?_
  rotate_left
  · (intro w hSw; (try dsimp only at hSw); go_simp; try rfl)
  try simp only [Act.put, List.setIfInBounds_toArray, List.set_cons_zero, List.set_cons_succ, List.getElem_toArray, List.getElem_cons_zero, List.getElem_cons_succ]
  refine wpAnyH_take (i := 7) (v := ?_) rfl (by kernel_rfl) (by kernel_rfl) (by kernel_rfl) (fun _ _ _ h => h) (Or.inl ⟨by rfl, ?_⟩) (by assumption) ?_
  rotate_left
  · (intro w hSw; (try dsimp only at hSw); go_simp; try rfl)
  try simp only [Act.put, List.setIfInBounds_toArray, List.set_cons_zero, List.set_cons_succ, List.getElem_toArray, List.getElem_cons_zero, List.getElem_cons_succ]
  refine wpAnyH_ready (rs := [4, 8]) (by kernel_rfl) (by simp) ?_
  refine (AllReadyH.cons rfl (fun K hK => ?_) (AllReadyH.cons rfl (fun K hK => ?_) AllReadyH.nil))
  ·
    go_simp
    refine hK.out _ _ ?_ (fun hHeld => ?_)
    · (trivial)
    clear hK K
    try simp only [Act.put, List.setIfInBounds_toArray, List.set_cons_zero, List.set_cons_succ, List.getElem_toArray, List.getElem_cons_zero, List.getElem_cons_succ]
    refine wpAnyH_ready (rs := [8]) (by kernel_rfl) (by simp) ?_
    refine (AllReadyH.cons rfl (fun K hK => ?_) AllReadyH.nil)
    go_simp
    refine hK.out _ _ ?_ (fun hHeld => ?_)
    · (trivial)
    clear hK K
    try simp only [Act.put, List.setIfInBounds_toArray, List.set_cons_zero, List.set_cons_succ, List.getElem_toArray, List.getElem_cons_zero, List.getElem_cons_succ]
    refine wpAnyH_take (i := 9) (v := ?_) rfl (by kernel_rfl) (by kernel_rfl) (by kernel_rfl) (fun _ _ _ h => h) (Or.inl ⟨by rfl, ?_⟩) (by assumption) ?_
    rotate_left
    · (intro w hSw; (try dsimp only at hSw); go_simp; try rfl)
    try simp only [Act.put, List.setIfInBounds_toArray, List.set_cons_zero, List.set_cons_succ, List.getElem_toArray, List.getElem_cons_zero, List.getElem_cons_succ]
    refine wpAnyH_take (i := 10) (v := ?_) rfl (by kernel_rfl) (by kernel_rfl) (by kernel_rfl) (fun _ _ _ h => h) (Or.inl ⟨by rfl, ?_⟩) (by assumption) ?_
    rotate_left
    · (intro w hSw; (try dsimp only at hSw); go_simp; try rfl)
    try simp only [Act.put, List.setIfInBounds_toArray, List.set_cons_zero, List.set_cons_succ, List.getElem_toArray, List.getElem_cons_zero, List.getElem_cons_succ]
    refine wpAnyH_take (i := 11) (v := ?_) rfl (by kernel_rfl) (by kernel_rfl) (by kernel_rfl) (fun _ _ _ h => h) (Or.inl ⟨by rfl, ?_⟩) (by assumption) ?_
    rotate_left
    · (intro w hSw; (try dsimp only at hSw); go_simp; try rfl)
    try simp only [Act.put, List.setIfInBounds_toArray, List.set_cons_zero, List.set_cons_succ, List.getElem_toArray, List.getElem_cons_zero, List.getElem_cons_succ]
    refine wpAnyH_ready (rs := [12]) (by kernel_rfl) (by simp) ?_
    refine (AllReadyH.cons rfl (fun K hK => ?_) AllReadyH.nil)
    go_simp
    refine hK.out _ _ ?_ (fun hHeld => ?_)
    · (trivial)
    clear hK K
    try simp only [Act.put, List.setIfInBounds_toArray, List.set_cons_zero, List.set_cons_succ, List.getElem_toArray, List.getElem_cons_zero, List.getElem_cons_succ]
    refine wpAnyH_done (by kernel_rfl) ?_ _
    have hb2 := HRd.out.set 0 (.string (o ++ n))
    have hfv := (Fr.refl w r).drew.set 0 (.string (o ++ n))
    obtain ⟨V, hV⟩ : ∃ V, w.drew.setCell ⟨r, 0, none⟩ (.string (o ++ n)) = V := ⟨_, rfl⟩
    rw [hV] at hb2 hfv
    first | rw [hV] | rw [show (w.setCell ⟨r, 0, none⟩ (.string (o ++ n))).drew = V from hV]
    have HB2 := Lib.hid hb2
    have HFV := Lib.hid hfv
    have g1 := hb2.cell 1
    have k1 := hb2.fz 1
    have hl2 := hb2.lt
    simp only [List.set_cons_zero, List.getElem?_cons_zero, List.getElem?_cons_succ] at g1
    clear hb2 hfv hV c0 c1 f0 f1
    go_wp2_with fail
    go_end0
    exact ⟨rfl, HB2.out.set 1 (.string ⟨#[]⟩), HFV.out.set 1 _⟩
  ·
    go_simp
    refine hK.out _ _ ?_ (fun hHeld => ?_)
    · (trivial)
    clear hK K
    try simp only [Act.put, List.setIfInBounds_toArray, List.set_cons_zero, List.set_cons_succ, List.getElem_toArray, List.getElem_cons_zero, List.getElem_cons_succ]
    refine wpAnyH_ready (rs := [4]) (by kernel_rfl) (by simp) ?_
    refine (AllReadyH.cons rfl (fun K hK => ?_) AllReadyH.nil)
    go_simp
    refine hK.out _ _ ?_ (fun hHeld => ?_)
    · (trivial)
    clear hK K
    try simp only [Act.put, List.setIfInBounds_toArray, List.set_cons_zero, List.set_cons_succ, List.getElem_toArray, List.getElem_cons_zero, List.getElem_cons_succ]
    refine wpAnyH_take (i := 9) (v := ?_) rfl (by kernel_rfl) (by kernel_rfl) (by kernel_rfl) (fun _ _ _ h => h) (Or.inl ⟨by rfl, ?_⟩) (by assumption) ?_
    rotate_left
    · (intro w hSw; (try dsimp only at hSw); go_simp; try rfl)
    try simp only [Act.put, List.setIfInBounds_toArray, List.set_cons_zero, List.set_cons_succ, List.getElem_toArray, List.getElem_cons_zero, List.getElem_cons_succ]
    refine wpAnyH_take (i := 10) (v := ?_) rfl (by kernel_rfl) (by kernel_rfl) (by kernel_rfl) (fun _ _ _ h => h) (Or.inl ⟨by rfl, ?_⟩) (by assumption) ?_
    rotate_left
    · (intro w hSw; (try dsimp only at hSw); go_simp; try rfl)
    try simp only [Act.put, List.setIfInBounds_toArray, List.set_cons_zero, List.set_cons_succ, List.getElem_toArray, List.getElem_cons_zero, List.getElem_cons_succ]
    refine wpAnyH_take (i := 11) (v := ?_) rfl (by kernel_rfl) (by kernel_rfl) (by kernel_rfl) (fun _ _ _ h => h) (Or.inl ⟨by rfl, ?_⟩) (by assumption) ?_
    rotate_left
    · (intro w hSw; (try dsimp only at hSw); go_simp; try rfl)
    try simp only [Act.put, List.setIfInBounds_toArray, List.set_cons_zero, List.set_cons_succ, List.getElem_toArray, List.getElem_cons_zero, List.getElem_cons_succ]
    refine wpAnyH_ready (rs := [12]) (by kernel_rfl) (by simp) ?_
    refine (AllReadyH.cons rfl (fun K hK => ?_) AllReadyH.nil)
    go_simp
    refine hK.out _ _ ?_ (fun hHeld => ?_)
    · (trivial)
    clear hK K
    try simp only [Act.put, List.setIfInBounds_toArray, List.set_cons_zero, List.set_cons_succ, List.getElem_toArray, List.getElem_cons_zero, List.getElem_cons_succ]
    refine wpAnyH_done (by kernel_rfl) ?_ _
    have hb2 := HRd.out.set 0 (.string (o ++ n))
    have hfv := (Fr.refl w r).drew.set 0 (.string (o ++ n))
    obtain ⟨V, hV⟩ : ∃ V, w.drew.setCell ⟨r, 0, none⟩ (.string (o ++ n)) = V := ⟨_, rfl⟩
    rw [hV] at hb2 hfv
    first | rw [hV] | rw [show (w.setCell ⟨r, 0, none⟩ (.string (o ++ n))).drew = V from hV]
    have HB2 := Lib.hid hb2
    have HFV := Lib.hid hfv
    have g1 := hb2.cell 1
    have k1 := hb2.fz 1
    have hl2 := hb2.lt
    simp only [List.set_cons_zero, List.getElem?_cons_zero, List.getElem?_cons_succ] at g1
    clear hb2 hfv hV c0 c1 f0 f1
    go_wp2_with fail
    go_end0
    exact ⟨rfl, HB2.out.set 1 (.string ⟨#[]⟩), HFV.out.set 1 _⟩
def RaP (r : Nat) (o n : ByteArray) (w : World) (e : Ending) (w' : World) : Prop := Hid (e = .returned (.int .i64 0)) ∧ RAt w' r o n ∧ Fr w w' r
set_option maxHeartbeats 4000000 in
theorem rappend_any {w : World} {r : Nat} {o n b : ByteArray} (h : RAt w r o n) (hb : b.size ≤ 500) (hs : n.size ≤ 100000) : Calls Try.prog 15 #[.pointer (some ⟨r, 0, none⟩), .string b] w (RaP r o (n ++ txt (frm (byt b))) w) := by
  have HR := Lib.hid h
  have HRd := Lib.hid (bk_drew h)
  have HPt := Lib.hid (fun W : World => rput_good b W hb)
  have hps : (txt (frm (byt b))).size = b.size + 8 := by rw [txt_size, frm_length, byt_length]
  obtain ⟨P, hP⟩ : ∃ P, txt (frm (byt b)) = P := ⟨_, rfl⟩
  rw [hP] at HPt hps ⊢
  have hz1 : ¬ (9223372036854775807 : Int) < (n.size : Int) + (P.size : Int) := by omega
  have hz2 : ¬ 9223372036854775807 < n.size + P.size := by omega
  have hb1 : ¬ (16777215 : Int) < (b.size : Int) := by omega
  have hb2 : decide ((16777215 : Int) < (b.size : Int)) = false := decide_eq_false hb1
  have hb3 : decide (16777215 < b.size) = false := decide_eq_false (by omega)
  clear h hP hps
  go_enter Try.func15, Try.ntmps15
  go_wp2_with fail
  refine wp_region_held_drew (S := (fun _ => True)) (by kernel_rfl) ?_ (fun hHeld => ?_)
  · (trivial)
  refine wpAnyH_take (i := 0) (v := ?_) rfl (by kernel_rfl) (by kernel_rfl) (by kernel_rfl) (fun _ _ _ h => h) (Or.inl ⟨by rfl, ?_⟩) (by assumption) ?_
  rotate_left
  · (intro w hSw; (try dsimp only at hSw); go_simp; try rfl)
  try simp only [Act.put, List.setIfInBounds_toArray, List.set_cons_zero, List.set_cons_succ, List.getElem_toArray, List.getElem_cons_zero, List.getElem_cons_succ]
  refine wpAnyH_take (i := 1) (v := ?_) rfl (by kernel_rfl) (by kernel_rfl) (by kernel_rfl) (fun _ _ _ h => h) (Or.inl ⟨by rfl, ?_⟩) (by assumption) ?_
  rotate_left
  · (intro w hSw; (try dsimp only at hSw); go_simp; try rfl)
  try simp only [Act.put, List.setIfInBounds_toArray, List.set_cons_zero, List.set_cons_succ, List.getElem_toArray, List.getElem_cons_zero, List.getElem_cons_succ]
  refine wpAnyH_take (i := 2) (v := ?_) rfl (by kernel_rfl) (by kernel_rfl) (by kernel_rfl) (fun _ _ _ h => h) (Or.inl ⟨by rfl, ?_⟩) (by assumption) ?_
  rotate_left
  · (intro w hSw; (try dsimp only at hSw); go_simp; try rfl)
  try simp only [Act.put, List.setIfInBounds_toArray, List.set_cons_zero, List.set_cons_succ, List.getElem_toArray, List.getElem_cons_zero, List.getElem_cons_succ]
  refine wpAnyH_take (i := 3) (v := ?_) rfl (by kernel_rfl) (by kernel_rfl) (by kernel_rfl) (fun _ _ _ h => h) (Or.inl ⟨by rfl, ?_⟩) (by assumption) ?_
  rotate_left
  · (intro w hSw; (try dsimp only at hSw); go_simp; try rfl)
  try simp only [Act.put, List.setIfInBounds_toArray, List.set_cons_zero, List.set_cons_succ, List.getElem_toArray, List.getElem_cons_zero, List.getElem_cons_succ]
  refine wpAnyH_take (i := 5) (v := ?_) rfl (by kernel_rfl) (by kernel_rfl) (by kernel_rfl) (fun _ _ _ h => h) (Or.inl ⟨by rfl, ?_⟩) (by assumption) ?_
  rotate_left
  · (intro w hSw; (try dsimp only at hSw); go_simp; try rfl)
  try simp only [Act.put, List.setIfInBounds_toArray, List.set_cons_zero, List.set_cons_succ, List.getElem_toArray, List.getElem_cons_zero, List.getElem_cons_succ]
  refine wpAnyH_ready (rs := [4, 6]) (by kernel_rfl) (by simp) ?_
  refine (AllReadyH.cons rfl (fun K hK => ?_) (AllReadyH.cons rfl (fun K hK => ?_) AllReadyH.nil))
  ·
    first
      | (have hq := hbP; have c1 := ((HRd.out.below hbP).cell 1); simp only [List.getElem?_cons_zero, List.getElem?_cons_succ] at c1; go_simp)
      | (have c1 := HRd.out.cell 1; simp only [List.getElem?_cons_zero, List.getElem?_cons_succ] at c1; go_simp)
    refine hK.out _ _ ?_ (fun hHeld => ?_)
    · (trivial)
    clear hK K
    try simp only [Act.put, List.setIfInBounds_toArray, List.set_cons_zero, List.set_cons_succ, List.getElem_toArray, List.getElem_cons_zero, List.getElem_cons_succ]
    refine wpAnyH_ready (rs := [6]) (by kernel_rfl) (by simp) ?_
    refine (AllReadyH.cons rfl (fun K hK => ?_) AllReadyH.nil)
    go_simp
    (go_at_call 24; refine (HPt.out _).mono ?_; rintro e wp ⟨rfl, hbP⟩)
    refine hK.out _ _ ?_ (fun hHeld => ?_)
    · (trivial)
    clear hK K
    try simp only [Act.put, List.setIfInBounds_toArray, List.set_cons_zero, List.set_cons_succ, List.getElem_toArray, List.getElem_cons_zero, List.getElem_cons_succ]
    refine wpAnyH_take (i := 7) (v := ?_) rfl (by kernel_rfl) (by kernel_rfl) (by kernel_rfl) (fun _ _ _ h => h) (Or.inl ⟨by rfl, ?_⟩) (by assumption) ?_
    rotate_left
    · (intro w hSw; (try dsimp only at hSw); go_simp; try rfl)
    try simp only [Act.put, List.setIfInBounds_toArray, List.set_cons_zero, List.set_cons_succ, List.getElem_toArray, List.getElem_cons_zero, List.getElem_cons_succ]
    refine wpAnyH_take (i := 8) (v := ?_) rfl (by kernel_rfl) (by kernel_rfl) (by kernel_rfl) (fun _ _ _ h => h) (Or.inl ⟨by rfl, ?_⟩) (by assumption) ?_
    rotate_left
    · (intro w hSw; (try dsimp only at hSw); go_simp; try rfl)
    try simp only [Act.put, List.setIfInBounds_toArray, List.set_cons_zero, List.set_cons_succ, List.getElem_toArray, List.getElem_cons_zero, List.getElem_cons_succ]
    refine wpAnyH_take (i := 9) (v := ?_) rfl (by kernel_rfl) (by kernel_rfl) (by kernel_rfl) (fun _ _ _ h => h) (Or.inl ⟨by rfl, ?_⟩) (by assumption) ?_
    rotate_left
    · (intro w hSw; (try dsimp only at hSw); go_simp; try rfl)
    try simp only [Act.put, List.setIfInBounds_toArray, List.set_cons_zero, List.set_cons_succ, List.getElem_toArray, List.getElem_cons_zero, List.getElem_cons_succ]
    refine wpAnyH_ready (rs := [10]) (by kernel_rfl) (by simp) ?_
    refine (AllReadyH.cons rfl (fun K hK => ?_) AllReadyH.nil)
    have hbk := HRd.out.below hbP
    have f1 := hbk.fz 1
    have c1 := hbk.cell 1
    have hlp := hbk.lt
    simp only [List.getElem?_cons_zero, List.getElem?_cons_succ] at c1
    go_simp
    refine hK.out _ _ ?_ (fun hHeld => ?_)
    · (trivial)
    clear hK K
    try simp only [Act.put, List.setIfInBounds_toArray, List.set_cons_zero, List.set_cons_succ, List.getElem_toArray, List.getElem_cons_zero, List.getElem_cons_succ]
    refine wpAnyH_done (by kernel_rfl) ?_ _
    have HZ := Lib.hid ((HRd.out.below hbP).set 1 (.string (n ++ P)))
    have HFz := Lib.hid (((Fr.refl w r).drew.trans (Fr.below (r := r) hbP)).set 1 (.string (n ++ P)))
    clear hbP HPt
    go_wp2
    go_ret
    exact ⟨rfl, HZ.out, HFz.out⟩
  ·
    go_simp
    (go_at_call 24; refine (HPt.out _).mono ?_; rintro e wp ⟨rfl, hbP⟩)
    refine hK.out _ _ ?_ (fun hHeld => ?_)
    · (trivial)
    clear hK K
    try simp only [Act.put, List.setIfInBounds_toArray, List.set_cons_zero, List.set_cons_succ, List.getElem_toArray, List.getElem_cons_zero, List.getElem_cons_succ]
    refine wpAnyH_ready (rs := [4]) (by kernel_rfl) (by simp) ?_
    refine (AllReadyH.cons rfl (fun K hK => ?_) AllReadyH.nil)
    first
      | (have hq := hbP; have c1 := ((HRd.out.below hbP).cell 1); simp only [List.getElem?_cons_zero, List.getElem?_cons_succ] at c1; go_simp)
      | (have c1 := HRd.out.cell 1; simp only [List.getElem?_cons_zero, List.getElem?_cons_succ] at c1; go_simp)
    refine hK.out _ _ ?_ (fun hHeld => ?_)
    · (trivial)
    clear hK K
    try simp only [Act.put, List.setIfInBounds_toArray, List.set_cons_zero, List.set_cons_succ, List.getElem_toArray, List.getElem_cons_zero, List.getElem_cons_succ]
    refine wpAnyH_take (i := 7) (v := ?_) rfl (by kernel_rfl) (by kernel_rfl) (by kernel_rfl) (fun _ _ _ h => h) (Or.inl ⟨by rfl, ?_⟩) (by assumption) ?_
    rotate_left
    · (intro w hSw; (try dsimp only at hSw); go_simp; try rfl)
    try simp only [Act.put, List.setIfInBounds_toArray, List.set_cons_zero, List.set_cons_succ, List.getElem_toArray, List.getElem_cons_zero, List.getElem_cons_succ]
    refine wpAnyH_take (i := 8) (v := ?_) rfl (by kernel_rfl) (by kernel_rfl) (by kernel_rfl) (fun _ _ _ h => h) (Or.inl ⟨by rfl, ?_⟩) (by assumption) ?_
    rotate_left
    · (intro w hSw; (try dsimp only at hSw); go_simp; try rfl)
    try simp only [Act.put, List.setIfInBounds_toArray, List.set_cons_zero, List.set_cons_succ, List.getElem_toArray, List.getElem_cons_zero, List.getElem_cons_succ]
    refine wpAnyH_take (i := 9) (v := ?_) rfl (by kernel_rfl) (by kernel_rfl) (by kernel_rfl) (fun _ _ _ h => h) (Or.inl ⟨by rfl, ?_⟩) (by assumption) ?_
    rotate_left
    · (intro w hSw; (try dsimp only at hSw); go_simp; try rfl)
    try simp only [Act.put, List.setIfInBounds_toArray, List.set_cons_zero, List.set_cons_succ, List.getElem_toArray, List.getElem_cons_zero, List.getElem_cons_succ]
    refine wpAnyH_ready (rs := [10]) (by kernel_rfl) (by simp) ?_
    refine (AllReadyH.cons rfl (fun K hK => ?_) AllReadyH.nil)
    have hbk := HRd.out.below hbP
    have f1 := hbk.fz 1
    have c1 := hbk.cell 1
    have hlp := hbk.lt
    simp only [List.getElem?_cons_zero, List.getElem?_cons_succ] at c1
    go_simp
    refine hK.out _ _ ?_ (fun hHeld => ?_)
    · (trivial)
    clear hK K
    try simp only [Act.put, List.setIfInBounds_toArray, List.set_cons_zero, List.set_cons_succ, List.getElem_toArray, List.getElem_cons_zero, List.getElem_cons_succ]
    refine wpAnyH_done (by kernel_rfl) ?_ _
    have HZ := Lib.hid ((HRd.out.below hbP).set 1 (.string (n ++ P)))
    have HFz := Lib.hid (((Fr.refl w r).drew.trans (Fr.below (r := r) hbP)).set 1 (.string (n ++ P)))
    clear hbP HPt
    go_wp2
    go_ret
    exact ⟨rfl, HZ.out, HFz.out⟩
set_option maxHeartbeats 4000000 in
theorem rcrash_any {w : World} {r : Nat} {o n : ByteArray} (keep : Int) (h : RAt w r o n) (hs : o.size + n.size ≤ 100000) : Calls Try.prog 10 #[.pointer (some ⟨r, 0, none⟩), .int .i64 keep] w (RsP r (o ++ n.extract 0 (kpN keep n.size)) ⟨#[]⟩ w) := by
  have HR := Lib.hid h
  have HRd := Lib.hid (bk_drew h)
  have c0 := (bk_drew h).cell 0
  have c1 := (bk_drew h).cell 1
  have f0 := (bk_drew h).fz 0
  have f1 := (bk_drew h).fz 1
  simp only [List.getElem?_cons_zero, List.getElem?_cons_succ] at c0 c1
  have hlt := h.lt
  obtain ⟨K, hK⟩ : ∃ K, kpN keep n.size = K := ⟨_, rfl⟩
  have hKn : K ≤ n.size := by rw [← hK]; unfold kpN; omega
  have hmn : min (max keep 0) (n.size : Int) = (K : Int) := by rw [← hK]; unfold kpN; omega
  have hmn2 : min (n.size : Int) (max keep 0) = (K : Int) := by rw [← hmn]; omega
  have HSz : Hid (o.size + (n.extract 0 K).size ≤ 100000) := Lib.hid (by rw [ByteArray.size_extract]; omega)
  have hKi : (K : Int) ≤ (n.size : Int) := by omega
  rw [hK]
  clear h hK
  go_enter Try.func10, Try.ntmps10
  go_wp2_with fail
  refine wp_region_held_drew (S := (fun _ => True)) (by kernel_rfl) ?_ (fun hHeld => ?_)
  · (trivial)
  refine wpAnyH_take (i := 0) (v := ?_) rfl (by kernel_rfl) (by kernel_rfl) (by kernel_rfl) (fun _ _ _ h => h) (Or.inl ⟨by rfl, ?_⟩) (by assumption) ?_
  rotate_left
  · (intro w hSw; (try dsimp only at hSw); go_simp; try rfl)
  try simp only [Act.put, List.setIfInBounds_toArray, List.set_cons_zero, List.set_cons_succ, List.getElem_toArray, List.getElem_cons_zero, List.getElem_cons_succ]
  refine wpAnyH_take (i := 1) (v := ?_) rfl (by kernel_rfl) (by kernel_rfl) (by kernel_rfl) (fun _ _ _ h => h) (Or.inl ⟨by rfl, ?_⟩) (by assumption) ?_
  rotate_left
  · (intro w hSw; (try dsimp only at hSw); go_simp; try rfl)
  try simp only [Act.put, List.setIfInBounds_toArray, List.set_cons_zero, List.set_cons_succ, List.getElem_toArray, List.getElem_cons_zero, List.getElem_cons_succ]
  refine wpAnyH_take (i := 2) (v := ?_) rfl (by kernel_rfl) (by kernel_rfl) (by kernel_rfl) (fun _ _ _ h => h) (Or.inl ⟨by rfl, ?_⟩) (by assumption) ?_
  rotate_left
  · (intro w hSw; (try dsimp only at hSw); go_simp; try rfl)
  try simp only [Act.put, List.setIfInBounds_toArray, List.set_cons_zero, List.set_cons_succ, List.getElem_toArray, List.getElem_cons_zero, List.getElem_cons_succ]
  refine wpAnyH_take (i := 3) (v := ?_) rfl (by kernel_rfl) (by kernel_rfl) (by kernel_rfl) (fun _ _ _ h => h) (Or.inl ⟨by rfl, ?_⟩) (by assumption) ?_
  rotate_left
  · (intro w hSw; (try dsimp only at hSw); go_simp; try rfl)
  try simp only [Act.put, List.setIfInBounds_toArray, List.set_cons_zero, List.set_cons_succ, List.getElem_toArray, List.getElem_cons_zero, List.getElem_cons_succ]
  refine wpAnyH_take (i := 5) (v := ?_) rfl (by kernel_rfl) (by kernel_rfl) (by kernel_rfl) (fun _ _ _ h => h) (Or.inl ⟨by rfl, ?_⟩) (by assumption) ?_
  rotate_left
  · (intro w hSw; (try dsimp only at hSw); go_simp; try rfl)
  try simp only [Act.put, List.setIfInBounds_toArray, List.set_cons_zero, List.set_cons_succ, List.getElem_toArray, List.getElem_cons_zero, List.getElem_cons_succ]
  refine wpAnyH_take (i := 6) (v := ?_) rfl (by kernel_rfl) (by kernel_rfl) (by kernel_rfl) (fun _ _ _ h => h) (Or.inl ⟨by rfl, ?_⟩) (by assumption) ?_
  rotate_left
  · (intro w hSw; (try dsimp only at hSw); go_simp; try rfl)
  try simp only [Act.put, List.setIfInBounds_toArray, List.set_cons_zero, List.set_cons_succ, List.getElem_toArray, List.getElem_cons_zero, List.getElem_cons_succ]
  refine wpAnyH_take (i := 7) (v := ?_) rfl (by kernel_rfl) (by kernel_rfl) (by kernel_rfl) (fun _ _ _ h => h) (Or.inl ⟨by rfl, ?_⟩) (by assumption) ?_
  rotate_left
  · (intro w hSw; (try dsimp only at hSw); go_simp; try rfl)
  try simp only [Act.put, List.setIfInBounds_toArray, List.set_cons_zero, List.set_cons_succ, List.getElem_toArray, List.getElem_cons_zero, List.getElem_cons_succ]
  refine wpAnyH_take (i := 8) (v := ?_) rfl (by kernel_rfl) (by kernel_rfl) (by kernel_rfl) (fun _ _ _ h => h) (Or.inl ⟨by rfl, ?_⟩) (by assumption) ?_
  rotate_left
  · (intro w hSw; (try dsimp only at hSw); go_simp; try rfl)
  try simp only [Act.put, List.setIfInBounds_toArray, List.set_cons_zero, List.set_cons_succ, List.getElem_toArray, List.getElem_cons_zero, List.getElem_cons_succ]
  refine wpAnyH_take (i := 9) (v := ?_) rfl (by kernel_rfl) (by kernel_rfl) (by kernel_rfl) (fun _ _ _ h => h) (Or.inl ⟨by rfl, ?_⟩) (by assumption) ?_
  rotate_left
  · (intro w hSw; (try dsimp only at hSw); go_simp; try rfl)
  try simp only [Act.put, List.setIfInBounds_toArray, List.set_cons_zero, List.set_cons_succ, List.getElem_toArray, List.getElem_cons_zero, List.getElem_cons_succ]
  refine wpAnyH_ready (rs := [4, 10]) (by kernel_rfl) (by simp) ?_
  refine (AllReadyH.cons rfl (fun K hK => ?_) (AllReadyH.cons rfl (fun K hK => ?_) AllReadyH.nil))
  ·
    go_simp
    refine hK.out _ _ ?_ (fun hHeld => ?_)
    · (trivial)
    clear hK K
    try simp only [Act.put, List.setIfInBounds_toArray, List.set_cons_zero, List.set_cons_succ, List.getElem_toArray, List.getElem_cons_zero, List.getElem_cons_succ]
    refine wpAnyH_ready (rs := [10]) (by kernel_rfl) (by simp) ?_
    refine (AllReadyH.cons rfl (fun K hK => ?_) AllReadyH.nil)
    go_simp
    refine hK.out _ _ ?_ (fun hHeld => ?_)
    · (trivial)
    clear hK K
    try simp only [Act.put, List.setIfInBounds_toArray, List.set_cons_zero, List.set_cons_succ, List.getElem_toArray, List.getElem_cons_zero, List.getElem_cons_succ]
    refine wpAnyH_take (i := 11) (v := ?_) rfl (by kernel_rfl) (by kernel_rfl) (by kernel_rfl) (fun _ _ _ h => h) (Or.inl ⟨by rfl, ?_⟩) (by assumption) ?_
    rotate_left
    · (intro w hSw; (try dsimp only at hSw); go_simp; try rfl)
    try simp only [Act.put, List.setIfInBounds_toArray, List.set_cons_zero, List.set_cons_succ, List.getElem_toArray, List.getElem_cons_zero, List.getElem_cons_succ]
    refine wpAnyH_take (i := 12) (v := ?_) rfl (by kernel_rfl) (by kernel_rfl) (by kernel_rfl) (fun _ _ _ h => h) (Or.inl ⟨by rfl, ?_⟩) (by assumption) ?_
    rotate_left
    · (intro w hSw; (try dsimp only at hSw); go_simp; try rfl)
    try simp only [Act.put, List.setIfInBounds_toArray, List.set_cons_zero, List.set_cons_succ, List.getElem_toArray, List.getElem_cons_zero, List.getElem_cons_succ]
    refine wpAnyH_take (i := 13) (v := ?_) rfl (by kernel_rfl) (by kernel_rfl) (by kernel_rfl) (fun _ _ _ h => h) (Or.inl ⟨by rfl, ?_⟩) (by assumption) ?_
    rotate_left
    · (intro w hSw; (try dsimp only at hSw); go_simp; try rfl)
    try simp only [Act.put, List.setIfInBounds_toArray, List.set_cons_zero, List.set_cons_succ, List.getElem_toArray, List.getElem_cons_zero, List.getElem_cons_succ]
    refine wpAnyH_take (i := 14) (v := ?_) rfl (by kernel_rfl) (by kernel_rfl) (by kernel_rfl) (fun _ _ _ h => h) (Or.inl ⟨by rfl, ?_⟩) (by assumption) ?_
    rotate_left
    · (intro w hSw; (try dsimp only at hSw); go_simp; try rfl)
    try simp only [Act.put, List.setIfInBounds_toArray, List.set_cons_zero, List.set_cons_succ, List.getElem_toArray, List.getElem_cons_zero, List.getElem_cons_succ]
    refine wpAnyH_take (i := 15) (v := ?_) rfl (by kernel_rfl) (by kernel_rfl) (by kernel_rfl) (fun _ _ _ h => h) (Or.inl ⟨by rfl, ?_⟩) (by assumption) ?_
    rotate_left
    · (intro w hSw; (try dsimp only at hSw); go_simp; try rfl)
    try simp only [Act.put, List.setIfInBounds_toArray, List.set_cons_zero, List.set_cons_succ, List.getElem_toArray, List.getElem_cons_zero, List.getElem_cons_succ]
    refine wpAnyH_ready (rs := [16]) (by kernel_rfl) (by simp) ?_
    refine (AllReadyH.cons rfl (fun K hK => ?_) AllReadyH.nil)
    go_simp
    refine hK.out _ _ ?_ (fun hHeld => ?_)
    · (trivial)
    clear hK K
    try simp only [Act.put, List.setIfInBounds_toArray, List.set_cons_zero, List.set_cons_succ, List.getElem_toArray, List.getElem_cons_zero, List.getElem_cons_succ]
    refine wpAnyH_done (by kernel_rfl) ?_ _
    have hb2 := HRd.out.set 1 (.string (n.extract 0 K))
    have hfv := (Fr.refl w r).drew.set 1 (.string (n.extract 0 K))
    obtain ⟨V, hV⟩ : ∃ V, w.drew.setCell ⟨r, 1, none⟩ (.string (n.extract 0 K)) = V := ⟨_, rfl⟩
    rw [hV] at hb2 hfv
    first | rw [hV] | rw [show (w.setCell ⟨r, 1, none⟩ (.string (n.extract 0 K))).drew = V from hV]
    have HB2 := Lib.hid hb2
    have HFc := Lib.hid hfv
    clear hb2 hfv hV c0 c1 f0 f1
    go_wp2_with fail
    refine (rsync_any (o := o) (n := n.extract 0 K) HB2.out HSz.out).mono ?_
    rintro e w2 ⟨he, hr, hf⟩
    rw [he.out]
    have HR2 := Lib.hid hr
    have HF2 := Lib.hid (HFc.out.trans hf)
    clear he hr hf
    go_wp2_with fail
    go_end0
    exact ⟨rfl, HR2.out, HF2.out⟩
  ·
    go_simp
    refine hK.out _ _ ?_ (fun hHeld => ?_)
    · (trivial)
    clear hK K
    try simp only [Act.put, List.setIfInBounds_toArray, List.set_cons_zero, List.set_cons_succ, List.getElem_toArray, List.getElem_cons_zero, List.getElem_cons_succ]
    refine wpAnyH_take (i := 11) (v := ?_) rfl (by kernel_rfl) (by kernel_rfl) (by kernel_rfl) (fun _ _ _ h => h) (Or.inl ⟨by rfl, ?_⟩) (by assumption) ?_
    rotate_left
    · (intro w hSw; (try dsimp only at hSw); go_simp; try rfl)
    try simp only [Act.put, List.setIfInBounds_toArray, List.set_cons_zero, List.set_cons_succ, List.getElem_toArray, List.getElem_cons_zero, List.getElem_cons_succ]
    refine wpAnyH_take (i := 12) (v := ?_) rfl (by kernel_rfl) (by kernel_rfl) (by kernel_rfl) (fun _ _ _ h => h) (Or.inl ⟨by rfl, ?_⟩) (by assumption) ?_
    rotate_left
    · (intro w hSw; (try dsimp only at hSw); go_simp; try rfl)
    try simp only [Act.put, List.setIfInBounds_toArray, List.set_cons_zero, List.set_cons_succ, List.getElem_toArray, List.getElem_cons_zero, List.getElem_cons_succ]
    refine wpAnyH_ready (rs := [4]) (by kernel_rfl) (by simp) ?_
    refine (AllReadyH.cons rfl (fun K hK => ?_) AllReadyH.nil)
    go_simp
    refine hK.out _ _ ?_ (fun hHeld => ?_)
    · (trivial)
    clear hK K
    try simp only [Act.put, List.setIfInBounds_toArray, List.set_cons_zero, List.set_cons_succ, List.getElem_toArray, List.getElem_cons_zero, List.getElem_cons_succ]
    refine wpAnyH_take (i := 13) (v := ?_) rfl (by kernel_rfl) (by kernel_rfl) (by kernel_rfl) (fun _ _ _ h => h) (Or.inl ⟨by rfl, ?_⟩) (by assumption) ?_
    rotate_left
    · (intro w hSw; (try dsimp only at hSw); go_simp; try rfl)
    try simp only [Act.put, List.setIfInBounds_toArray, List.set_cons_zero, List.set_cons_succ, List.getElem_toArray, List.getElem_cons_zero, List.getElem_cons_succ]
    refine wpAnyH_take (i := 14) (v := ?_) rfl (by kernel_rfl) (by kernel_rfl) (by kernel_rfl) (fun _ _ _ h => h) (Or.inl ⟨by rfl, ?_⟩) (by assumption) ?_
    rotate_left
    · (intro w hSw; (try dsimp only at hSw); go_simp; try rfl)
    try simp only [Act.put, List.setIfInBounds_toArray, List.set_cons_zero, List.set_cons_succ, List.getElem_toArray, List.getElem_cons_zero, List.getElem_cons_succ]
    refine wpAnyH_take (i := 15) (v := ?_) rfl (by kernel_rfl) (by kernel_rfl) (by kernel_rfl) (fun _ _ _ h => h) (Or.inl ⟨by rfl, ?_⟩) (by assumption) ?_
    rotate_left
    · (intro w hSw; (try dsimp only at hSw); go_simp; try rfl)
    try simp only [Act.put, List.setIfInBounds_toArray, List.set_cons_zero, List.set_cons_succ, List.getElem_toArray, List.getElem_cons_zero, List.getElem_cons_succ]
    refine wpAnyH_ready (rs := [16]) (by kernel_rfl) (by simp) ?_
    refine (AllReadyH.cons rfl (fun K hK => ?_) AllReadyH.nil)
    go_simp
    refine hK.out _ _ ?_ (fun hHeld => ?_)
    · (trivial)
    clear hK K
    try simp only [Act.put, List.setIfInBounds_toArray, List.set_cons_zero, List.set_cons_succ, List.getElem_toArray, List.getElem_cons_zero, List.getElem_cons_succ]
    refine wpAnyH_done (by kernel_rfl) ?_ _
    have hb2 := HRd.out.set 1 (.string (n.extract 0 K))
    have hfv := (Fr.refl w r).drew.set 1 (.string (n.extract 0 K))
    obtain ⟨V, hV⟩ : ∃ V, w.drew.setCell ⟨r, 1, none⟩ (.string (n.extract 0 K)) = V := ⟨_, rfl⟩
    rw [hV] at hb2 hfv
    first | rw [hV] | rw [show (w.setCell ⟨r, 1, none⟩ (.string (n.extract 0 K))).drew = V from hV]
    have HB2 := Lib.hid hb2
    have HFc := Lib.hid hfv
    clear hb2 hfv hV c0 c1 f0 f1
    go_wp2_with fail
    refine (rsync_any (o := o) (n := n.extract 0 K) HB2.out HSz.out).mono ?_
    rintro e w2 ⟨he, hr, hf⟩
    rw [he.out]
    have HR2 := Lib.hid hr
    have HF2 := Lib.hid (HFc.out.trans hf)
    clear he hr hf
    go_wp2_with fail
    go_end0
    exact ⟨rfl, HR2.out, HF2.out⟩
def RoP (r : Nat) (o : ByteArray) (w : World) (e : Ending) (w' : World) : Prop := ∃ lv, Hid (e = .returned lv) ∧ Own1 w' w.heap.size 9 lv (strs (allN (byt o))) ∧ RAt w' r (o.extract 0 (totL (allN (byt o)))) ⟨#[]⟩ ∧ Fr w w' r
set_option maxHeartbeats 4000000 in
theorem ropen_any {w : World} {r : Nat} {o n : ByteArray} (h : RAt w r o n) (hs : o.size + n.size ≤ 100000) : Calls Try.prog 12 #[.pointer (some ⟨r, 0, none⟩)] w (RoP r (o ++ n) w) := by
  have HR := Lib.hid h
  have hlt := h.lt
  obtain ⟨q, hq⟩ : ∃ q, o ++ n = q := ⟨_, rfl⟩
  have hqs : q.size ≤ 100000 := by rw [← hq, ByteArray.size_append]; exact hs
  have HSy := Lib.hid (rsync_any h hs)
  rw [hq] at HSy ⊢
  have HQs := Lib.hid hqs
  have HLt := Lib.hid hlt
  clear h hq
  go_enter Try.func12, Try.ntmps12
  go_wp2_with fail
  refine HSy.out.mono ?_
  rintro e w1 ⟨he, hr, hf⟩
  rw [he.out]
  have HR1 := Lib.hid hr
  have HF1 := Lib.hid hf
  have c0 := hr.cell 0
  simp only [List.getElem?_cons_zero] at c0
  clear he hr hf HSy
  go_wp2_with fail
  refine (rall_any q w1 (by omega)).mono ?_
  rintro e w2 ⟨lv, he, ho, hb⟩
  rw [he.out]
  obtain ⟨T, hT⟩ : ∃ T, totL (allN (byt q)) = T := ⟨_, rfl⟩
  have hTq : T ≤ q.size := by rw [← hT, ← byt_length]; exact totL_allN _
  rw [hT]
  have HT := Lib.hid hT
  have HO2 := Lib.hid ho
  have HR2 := Lib.hid (HR1.out.below hb)
  have HF2 := Lib.hid (HF1.out.trans (Fr.below hb))
  have hTi : (T : Int) ≤ (q.size : Int) := by omega
  have c0 := (HR1.out.below hb).cell 0
  have f0 := (HR1.out.below hb).fz 0
  have hl2 := (HR1.out.below hb).lt
  simp only [List.getElem?_cons_zero] at c0
  clear he ho hb hT
  go_wp2_with fail
  go_ret
  refine ⟨lv, rfl, ?_, ?_, HF2.out.set 0 _⟩
  · have hle : Own1 w2 w.heap.size 9 lv (strs (allN (byt q))) := ⟨HO2.out.1, by
      rcases HO2.out.2 with h1 | ⟨g, cap, cur, h1, h2, h3⟩
      · exact .inl h1
      · exact .inr ⟨g, cap, cur, h1, Nat.le_trans HF1.out.size h2, h3⟩⟩
    exact ownsRow_keep hle fun k h1 h2 => Below.heap_setCell _ _ _ k (by have := HLt.out; show k ≠ r; omega)
  · rw [HT.out]; exact HR2.out.set 0 _
end Go.Proofs.Ytfobdkhmffphmaa
