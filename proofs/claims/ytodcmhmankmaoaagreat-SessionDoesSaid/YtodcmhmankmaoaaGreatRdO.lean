/-
 Of, over entries that are no directory's.
-/
import Derived.Test.YtodcmhmankmaoaaGreatSht
import Derived.Test.YtodcmhmankmaoaaGreatJ5b
import Derived.Test.YtodcmhmankmaoaaGreatRd6
namespace Go.Proofs.YtodcmhmankmaoaaGreat
open Go.RowKit
set_option linter.unusedSimpArgs false
set_option linter.unusedVariables false

/-- Does an entry fit behind those ahead of it? -/
noncomputable def fitK (l : List E3) (k : Nat) : Bool := fitD (l.take k) (l.getD k EK.d) && (k == 0 || lsr (l.getD (k - 1) EK.d).1 (l.getD k EK.d).1)
theorem good_succ {l : List E3} {k : Nat} (h : ∀ i, i < k → fitK l i = true) (h1 : fitK l k = true) : ∀ i, i < k + 1 → fitK l i = true := fun i hi => by
 by_cases e : i = k
 ·rw [e]; exact h1
 ·exact h i (by omega)
theorem good_right {l : List E3} {k : Nat} (hk : k ≤ l.length) (h : ∀ i, i < k → fitK l i = true) : RightD (l.take k) := by
 have gd : ∀ j (hj : j < l.length), l.getD j EK.d = l[j] := fun j hj => by simp [List.getD, hj]
 have key : ∀ j (hj : j < k), 0 < dpt (l[j]'(by omega)).1 ∧ thrD (l.take j) (par (l[j]'(by omega)).1) = true ∧ (l[j]'(by omega)).2.1.size ≤ 64 ∧ 1 ≤ (l[j]'(by omega)).2.2 := fun j hj => by
  have q := h j hj
  unfold fitK fitD at q
  rw [gd j (by omega)] at q
  simp only [Bool.and_eq_true, decide_eq_true_eq] at q
  exact ⟨q.1.1.1.1, q.1.1.1.2, q.1.1.2, q.1.2⟩
 have mem : ∀ e ∈ l.take k, ∃ j, ∃ hj : j < k, e = l[j]'(by omega) := fun e he => by
  obtain ⟨j, hj, rfl⟩ := List.getElem_of_mem he
  rw [List.length_take] at hj
  exact ⟨j, by omega, by rw [List.getElem_take]⟩
 refine ⟨rises_adj fun j hj => ?_, fun e he => ?_, fun e he => ?_, fun e he => ?_, fun e he => ?_⟩
 ·rw [List.length_take] at hj
  have q := h (j + 1) (by omega)
  unfold fitK at q
  rw [Nat.add_sub_cancel, gd j (by omega), gd (j + 1) (by omega)] at q
  simp only [Bool.and_eq_true, Bool.or_eq_true, beq_iff_eq] at q
  rw [List.getElem_take, List.getElem_take]
  exact q.2.resolve_left (by omega)
 ·obtain ⟨j, hj, rfl⟩ := mem e he
  exact (dpt_ok _).1 (by have := (key j hj).1; omega)
 ·obtain ⟨j, hj, rfl⟩ := mem e he
  exact (key j hj).2.2.1
 ·obtain ⟨j, hj, rfl⟩ := mem e he
  exact (key j hj).2.2.2
 ·obtain ⟨j, hj, rfl⟩ := mem e he
  rcases thrD_iff.1 (key j hj).2.1 with q | ⟨x, hx, q⟩
  ·exact thrD_iff.2 (.inl q)
  ·refine thrD_iff.2 (.inr ⟨x, ?_, q⟩)
   rw [show l.take j = (l.take k).take j by rw [List.take_take, Nat.min_eq_left (by omega)]] at hx
   exact List.mem_of_mem_take hx
set_option maxRecDepth 100000 in
set_option maxHeartbeats 4000000 in
theorem ofd_bad (a : Option Addr) (n c : Nat) (l : List E3) (w : World) (hR : EK.Rd w (.slice a n c) l) (hl : l.length ≤ 1000) (hz : ∀ x ∈ l, x.1.size ≤ 1000) (h : ¬ RightD l) (hm : ML w) :
  Calls Tryz.prog 8 #[.slice a n c] w fun e w' => e = .returned (.tuple #[.pointer none, .int .i64 1]) ∧ Below w.heap.size w w' := by
 have hn : n = l.length := by
  obtain ⟨a', c', e', _⟩ := hR
  simp only [Value.slice.injEq] at e'
  exact e'.2.1
 have HL := Lib.hid hn
 have hn2 : n ≤ 1000 := by omega
 have HR := Lib.hid hR
 have HH := Lib.hid h
 have HZl := Lib.hid hz
 have HM := Lib.hid hm
 have HN := Lib.hid (new_any w)
 clear hR h hm hl hn hz
 go_enter Tryz.func8, Tryz.ntmps8
 go_wp2_with (go_at_call 27; refine HN.out.mono ?_; rintro e w1 ⟨rfl, hd, hb⟩; have HD1 := Lib.hid hd; have HB1 := Lib.hid hb; clear hd hb)
 go_loopw [10] (fun i wr => ∃ k : Nat, k ≤ n ∧ i = .int .i64 k ∧ Hid (DirAt wr (w.heap.size + 1) w.heap.size k (l.take k)) ∧ Hid (Below w.heap.size w wr) ∧ Hid (∀ i, i < k → fitK l i = true)) (fun i _ => n - (intOf i).toNat)
 case atStart => exact ⟨0, Nat.zero_le _, rfl, Lib.hid HD1.out, HB1, Lib.hid (fun i hi => absurd hi (Nat.not_lt_zero _))⟩
 case round =>
  clear HD1 HB1
  obtain ⟨k, hk, rfl, hD, hB, HGd⟩ := hrel
  by_cases hlt : k < n
  ·have hlt' : (k : Int) < (n : Int) := by omega
   obtain ⟨-, g, off, ha, hg, t0, t1, t2, hkl⟩ := entCell (HR.out.below hB.out) k hlt
   subst ha
   obtain ⟨⟨p, v, m⟩, hE⟩ : ∃ E, l.getD k EK.d = E := ⟨_, rfl⟩
   rw [hE] at t0 t1 t2
   have hE2 : l[k] = (p, v, m) := by rw [← hE]; simp [List.getD, hkl]
   have HE := Lib.hid hE2
   have HEg := Lib.hid hE
   obtain ⟨X, hX⟩ : ∃ X, wr.alloc (.cells #[.string p, .string v, .int .i64 m] 49) = X := ⟨_, rfl⟩
   have hbx : Below wr.heap.size wr X := by rw [← hX]; exact (Below.refl _ _).alloc (Nat.le_refl _) _
   have hzx : wr.heap.size < X.heap.size := by rw [← hX]; simp
   have u0 : X.cell? ⟨wr.heap.size, 0, none⟩ = some (.string p) := by rw [← hX]; simp [go_sem]
   have u1 : X.cell? ⟨wr.heap.size, 1, none⟩ = some (.string v) := by rw [← hX]; simp [go_sem]
   have u2 : X.cell? ⟨wr.heap.size, 2, none⟩ = some (.int .i64 m) := by rw [← hX]; simp [go_sem]
   obtain ⟨g6, hg6⟩ : ∃ g6, wr.heap.size = g6 := ⟨_, rfl⟩
   rw [hg6] at u0 u1 u2 hzx
   have HBX := Lib.hid (below_self hB.out hbx)
   have HDX := Lib.hid (hD.out.below hbx)
   have HMX := Lib.hid (HM.out.below HBX.out)
   have hmem : (p, v, m) ∈ l := by rw [← hE2]; exact List.getElem_mem hkl
   have hps : p.size ≤ 1000 := HZl.out _ hmem
   obtain ⟨ft, hft⟩ : ∃ q, fitD (l.take k) (p, v, m) = q := ⟨_, rfl⟩
   have HFT : Hid (∀ W, Below X.heap.size X W → Calls Tryz.prog 30 #[dP (w.heap.size + 1), .agg #[.string p, .string v, .int .i64 m]] W fun e w' => e = .returned (.bool ft) ∧ Below W.heap.size W w') := Lib.hid (fun W hW => by
    have := fits_any (w.heap.size + 1) w.heap.size k (l.take k) p v m W (HDX.out.below hW) hps (HMX.out.below hW)
    rw [hft] at this
    exact this)
   have HPS := Lib.hid hps
   have HKL := Lib.hid hkl
   have HOF : Hid ((∀ i, i < k + 1 → fitK l i = true) → ∀ w7 (D : DataW Unit) (mm : Nat), mm ≤ k → DirIs D (l.take k) → w7.ownsMap (H := Unit) Tryz.prog 9 heldElem w.heap.size (mm + 1) (D.put (kS p) (Go.Proofs.YtodcmhmankmaoaaGreat.hD (v, m))) → w7.cell? ⟨w.heap.size + 1, 0, none⟩ = some (.map (some w.heap.size)) → DirAt w7 (w.heap.size + 1) w.heap.size (k + 1) (l.take (k + 1))) := Lib.hid (fun hgo w7 D mm h1 h2 h3 h4 => by
    have hR1 := good_right (show k + 1 ≤ l.length by omega) hgo
    have hR0 := good_right (show k ≤ l.length by omega) (fun i hi => hgo i (by omega))
    have hk1 : k < (l.take (k + 1)).length := by rw [List.length_take]; omega
    have eg : (l.take (k + 1))[k] = (p, v, m) := by rw [List.getElem_take]; exact HE.out
    have ho := hR1.keys _ (List.getElem_mem hk1)
    rw [eg] at ho
    have h5 := h2.put hR0.rise hR0.keys ho v m
    have h6 := put_take hR1.rise hR1.keys hk1
    rw [eg] at h6
    simp only at h6 h5
    rw [List.take_take, List.take_take, Nat.min_self, Nat.min_eq_left (Nat.le_succ k)] at h6
    rw [h6] at h5
    exact ⟨h4, ⟨_, mm + 1, by omega, h3, h5⟩, hR1.rise, hR1.keys⟩)
   have U0 := Lib.hid u0
   have U1 := Lib.hid u1
   have U2 := Lib.hid u2
   have HZX := Lib.hid hzx
   have HFt := Lib.hid hft
   by_cases k0 : k = 0
   ·subst k0
    have HFK0 : Hid (ft = true → fitK l 0 = true) := Lib.hid (fun q => by unfold fitK; rw [HEg.out, HFt.out, q]; rfl)
    have HKP : Hid (∀ w' : World, Below X.heap.size X w' → (w'.cell? ⟨g6, 0, none⟩ = some (.string p) ∧ w'.cell? ⟨g6, 1, none⟩ = some (.string v) ∧ w'.cell? ⟨g6, 2, none⟩ = some (.int .i64 m) ∧ Below X.heap.size X w')) := Lib.hid (fun w' hb => ⟨(hb.cell (p := ⟨g6, 0, none⟩) HZX.out).trans U0.out, (hb.cell (p := ⟨g6, 1, none⟩) HZX.out).trans U1.out, (hb.cell (p := ⟨g6, 2, none⟩) HZX.out).trans U2.out, hb⟩)
    simp only [Nat.zero_mul, Nat.add_zero] at t0 t1 t2
    clear hD hbx hzx hmem hps hE hE2 hft
    go_wp2_with fail
    cases ft with
    | false =>
     refine wp_region_held_drew (S := (fun w' => w'.cell? ⟨g6, 0, none⟩ = some (.string p) ∧ w'.cell? ⟨g6, 1, none⟩ = some (.string v) ∧ w'.cell? ⟨g6, 2, none⟩ = some (.int .i64 m) ∧ Below X.heap.size X w')) (by kernel_rfl) ?_ (fun hHeld => ?_)
     ·((first
        | exact HKP.out _ (Below.refl _ _)
        | exact HKP.out _ (Below.refl _ _).drew
        | (go_split_ands; exact HKP.out _ (below_self (by assumption) (by assumption)))
        | (go_split_ands; exact HKP.out _ (Below.drew (by assumption)))
        | (go_split_ands; exact HKP.out _ (by assumption))))
     (refine tkA 0 (v := ?_) ?_ ?_; rotate_left; focus (intro w hSw; (try dsimp only at hSw); go_simp; try rfl)); try simp only [Act.put, gA1, gA2, gA3, gA4, gA5, gA6]
     (refine tkA 1 (v := ?_) ?_ ?_; rotate_left; focus (intro w hSw; (try dsimp only at hSw); go_simp; try rfl)); try simp only [Act.put, gA1, gA2, gA3, gA4, gA5, gA6]
     (refine tkA 2 (v := ?_) ?_ ?_; rotate_left; focus (intro w hSw; (try dsimp only at hSw); go_simp; try rfl)); try simp only [Act.put, gA1, gA2, gA3, gA4, gA5, gA6]
     refine utA 3 ?_; try simp only [Act.put, gA1, gA2, gA3, gA4, gA5, gA6]
     refine utA 4 ?_; try simp only [Act.put, gA1, gA2, gA3, gA4, gA5, gA6]
     refine utA 5 ?_; try simp only [Act.put, gA1, gA2, gA3, gA4, gA5, gA6]
     refine utA 6 ?_; try simp only [Act.put, gA1, gA2, gA3, gA4, gA5, gA6]
     refine utA 7 ?_; try simp only [Act.put, gA1, gA2, gA3, gA4, gA5, gA6]
     refine utA 8 ?_; try simp only [Act.put, gA1, gA2, gA3, gA4, gA5, gA6]
     refine utA 9 ?_; try simp only [Act.put, gA1, gA2, gA3, gA4, gA5, gA6]
     refine utA 10 ?_; try simp only [Act.put, gA1, gA2, gA3, gA4, gA5, gA6]
     refine utA 11 ?_; try simp only [Act.put, gA1, gA2, gA3, gA4, gA5, gA6]
     refine utA 12 ?_; try simp only [Act.put, gA1, gA2, gA3, gA4, gA5, gA6]
     (refine tkA 13 (v := ?_) ?_ ?_; rotate_left; focus (intro w hSw; (try dsimp only at hSw); go_simp; try rfl)); try simp only [Act.put, gA1, gA2, gA3, gA4, gA5, gA6]
     (refine tkA 14 (v := ?_) ?_ ?_; rotate_left; focus (intro w hSw; (try dsimp only at hSw); go_simp; try rfl)); try simp only [Act.put, gA1, gA2, gA3, gA4, gA5, gA6]
     (refine tkA 15 (v := ?_) ?_ ?_; rotate_left; focus (intro w hSw; (try dsimp only at hSw); go_simp; try rfl)); try simp only [Act.put, gA1, gA2, gA3, gA4, gA5, gA6]
     (refine tkA 16 (v := ?_) ?_ ?_; rotate_left; focus (intro w hSw; (try dsimp only at hSw); go_simp; try rfl)); try simp only [Act.put, gA1, gA2, gA3, gA4, gA5, gA6]
     refine wpAnyH_ready (rs := [17]) (by kernel_rfl) (by simp) ?_
     refine (AllReadyH.cons rfl (fun K hK => ?_) AllReadyH.nil)
     go_simp
     (go_at_call 30; go_split_ands; refine (HFT.out _ (by assumption)).mono ?_; rintro e w6 ⟨rfl, hbw6⟩)
     refine hK.out _ _ ?_ (fun hHeld => ?_)
     ·((first
        | exact HKP.out _ (Below.refl _ _)
        | exact HKP.out _ (Below.refl _ _).drew
        | (go_split_ands; exact HKP.out _ (below_self (by assumption) (by assumption)))
        | (go_split_ands; exact HKP.out _ (Below.drew (by assumption)))
        | (go_split_ands; exact HKP.out _ (by assumption))))
     clear hK K
     try simp only [Act.put, gA1, gA2, gA3, gA4, gA5, gA6]
     (refine tkA 18 (v := ?_) ?_ ?_; rotate_left; focus (intro w hSw; (try dsimp only at hSw); go_simp; try rfl)); try simp only [Act.put, gA1, gA2, gA3, gA4, gA5, gA6]
     (refine tkA 19 (v := ?_) ?_ ?_; rotate_left; focus (intro w hSw; (try dsimp only at hSw); go_simp; try rfl)); try simp only [Act.put, gA1, gA2, gA3, gA4, gA5, gA6]
     refine wpAnyH_done (by kernel_rfl) ?_ _
     go_split_ands
     have hbn : Below X.heap.size X w6 := by assumption
     have HBn := Lib.hid hbn
     clear hbn HKP
     have HB6 := Lib.hid (below_self HBX.out HBn.out)
     clear HBn
     go_wp2
     go_ret2
     exact ⟨rfl, HB6.out⟩
    | true =>
     have HGo : Hid (∀ i, i < 0 + 1 → fitK l i = true) := Lib.hid (good_succ HGd.out (HFK0.out rfl))
     refine wp_region_held_drew (S := (fun w' => w'.cell? ⟨g6, 0, none⟩ = some (.string p) ∧ w'.cell? ⟨g6, 1, none⟩ = some (.string v) ∧ w'.cell? ⟨g6, 2, none⟩ = some (.int .i64 m) ∧ Below X.heap.size X w')) (by kernel_rfl) ?_ (fun hHeld => ?_)
     ·((first
        | exact HKP.out _ (Below.refl _ _)
        | exact HKP.out _ (Below.refl _ _).drew
        | (go_split_ands; exact HKP.out _ (below_self (by assumption) (by assumption)))
        | (go_split_ands; exact HKP.out _ (Below.drew (by assumption)))
        | (go_split_ands; exact HKP.out _ (by assumption))))
     (refine tkA 0 (v := ?_) ?_ ?_; rotate_left; focus (intro w hSw; (try dsimp only at hSw); go_simp; try rfl)); try simp only [Act.put, gA1, gA2, gA3, gA4, gA5, gA6]
     (refine tkA 1 (v := ?_) ?_ ?_; rotate_left; focus (intro w hSw; (try dsimp only at hSw); go_simp; try rfl)); try simp only [Act.put, gA1, gA2, gA3, gA4, gA5, gA6]
     (refine tkA 2 (v := ?_) ?_ ?_; rotate_left; focus (intro w hSw; (try dsimp only at hSw); go_simp; try rfl)); try simp only [Act.put, gA1, gA2, gA3, gA4, gA5, gA6]
     refine utA 3 ?_; try simp only [Act.put, gA1, gA2, gA3, gA4, gA5, gA6]
     refine utA 4 ?_; try simp only [Act.put, gA1, gA2, gA3, gA4, gA5, gA6]
     refine utA 5 ?_; try simp only [Act.put, gA1, gA2, gA3, gA4, gA5, gA6]
     refine utA 6 ?_; try simp only [Act.put, gA1, gA2, gA3, gA4, gA5, gA6]
     refine utA 7 ?_; try simp only [Act.put, gA1, gA2, gA3, gA4, gA5, gA6]
     refine utA 8 ?_; try simp only [Act.put, gA1, gA2, gA3, gA4, gA5, gA6]
     refine utA 9 ?_; try simp only [Act.put, gA1, gA2, gA3, gA4, gA5, gA6]
     refine utA 10 ?_; try simp only [Act.put, gA1, gA2, gA3, gA4, gA5, gA6]
     refine utA 11 ?_; try simp only [Act.put, gA1, gA2, gA3, gA4, gA5, gA6]
     refine utA 12 ?_; try simp only [Act.put, gA1, gA2, gA3, gA4, gA5, gA6]
     (refine tkA 13 (v := ?_) ?_ ?_; rotate_left; focus (intro w hSw; (try dsimp only at hSw); go_simp; try rfl)); try simp only [Act.put, gA1, gA2, gA3, gA4, gA5, gA6]
     (refine tkA 14 (v := ?_) ?_ ?_; rotate_left; focus (intro w hSw; (try dsimp only at hSw); go_simp; try rfl)); try simp only [Act.put, gA1, gA2, gA3, gA4, gA5, gA6]
     (refine tkA 15 (v := ?_) ?_ ?_; rotate_left; focus (intro w hSw; (try dsimp only at hSw); go_simp; try rfl)); try simp only [Act.put, gA1, gA2, gA3, gA4, gA5, gA6]
     (refine tkA 16 (v := ?_) ?_ ?_; rotate_left; focus (intro w hSw; (try dsimp only at hSw); go_simp; try rfl)); try simp only [Act.put, gA1, gA2, gA3, gA4, gA5, gA6]
     refine wpAnyH_ready (rs := [17]) (by kernel_rfl) (by simp) ?_
     refine (AllReadyH.cons rfl (fun K hK => ?_) AllReadyH.nil)
     go_simp
     (go_at_call 30; go_split_ands; refine (HFT.out _ (by assumption)).mono ?_; rintro e w6 ⟨rfl, hbw6⟩)
     refine hK.out _ _ ?_ (fun hHeld => ?_)
     ·((first
        | exact HKP.out _ (Below.refl _ _)
        | exact HKP.out _ (Below.refl _ _).drew
        | (go_split_ands; exact HKP.out _ (below_self (by assumption) (by assumption)))
        | (go_split_ands; exact HKP.out _ (Below.drew (by assumption)))
        | (go_split_ands; exact HKP.out _ (by assumption))))
     clear hK K
     try simp only [Act.put, gA1, gA2, gA3, gA4, gA5, gA6]
     (refine tkA 18 (v := ?_) ?_ ?_; rotate_left; focus (intro w hSw; (try dsimp only at hSw); go_simp; try rfl)); try simp only [Act.put, gA1, gA2, gA3, gA4, gA5, gA6]
     (refine tkA 19 (v := ?_) ?_ ?_; rotate_left; focus (intro w hSw; (try dsimp only at hSw); go_simp; try rfl)); try simp only [Act.put, gA1, gA2, gA3, gA4, gA5, gA6]
     refine wpAnyH_done (by kernel_rfl) ?_ _
     go_split_ands
     have hbn : Below X.heap.size X w6 := by assumption
     have HBn := Lib.hid hbn
     clear hbn HKP
     have hb6 := HBn.out
     have HB6 := Lib.hid (below_self HBX.out hb6)
     have HD6 := Lib.hid (HDX.out.below hb6)
     have v0 := (hb6.cell (p := ⟨g6, 0, none⟩) HZX.out).trans U0.out
     have v1 := (hb6.cell (p := ⟨g6, 1, none⟩) HZX.out).trans U1.out
     have v2 := (hb6.cell (p := ⟨g6, 2, none⟩) HZX.out).trans U2.out
     obtain ⟨D, mm, hm6, hM6, hI6⟩ := HD6.out.map
     have HMX6 := Lib.hid hM6
     have HI6 := Lib.hid hI6
     have HMM6 := Lib.hid hm6
     have dc := HD6.out.cell
     have HKEY := Lib.hid (kS_key HPS.out)
     have hmx : mm < maxLen := by unfold maxLen; omega
     have HMAX := Lib.hid hmx
     clear hb6 hm6 hM6 hI6 hmx HBn
     go_wp2_with fail
     go_still_tail 11, (by kernel_rfl)
     refine wpList_mapUpdate_own _ rfl _ _ _ 69 rfl 9 68 strK Tryz.underlying69 heldElem w.heap.size mm D rfl HMX6.out.drew HMAX.out (.string p) (hV v m) (kS p) rfl rfl HKEY.out (hD (v, m)) [] (heldElem_mk _ _) ?_
     intro w7 hown hg7
     have hg8 : w6.grownBy w7 (some w.heap.size) := ⟨hg7.os, hg7.tape, hg7.output, hg7.size, hg7.block⟩
     have HB7 : Hid (Below w.heap.size w w7) := Lib.hid (HB6.out.grown hg8 HB6.out.size (fun i hi => by cases hi; exact Nat.le_refl _))
     have HD7 := Lib.hid (HOF.out HGo.out w7 D mm HMM6.out HI6.out hown (hg8.cell dc (by simp)))
     clear hown hg7 hg8 dc v0 v1 v2
     go_wp2
     go_roundw
     case rel => exact ⟨_, by omega, by go_num, HD7, HB7, HGo⟩
     case measure => simp [intOf]; omega
   ·obtain ⟨j, hkj⟩ : ∃ j, k = j + 1 := ⟨k - 1, by omega⟩
    obtain ⟨-, g9, off9, ha9, hg9, s0, _, _, hjl⟩ := entCell (HR.out.below hB.out) j (by omega)
    simp only [Option.some.injEq, Addr.mk.injEq, and_true] at ha9
    obtain ⟨rfl, rfl⟩ := ha9
    obtain ⟨⟨pp, pv, pm⟩, hPP⟩ : ∃ E, l.getD j EK.d = E := ⟨_, rfl⟩
    rw [hPP] at s0
    have hE3 : l[j] = (pp, pv, pm) := by rw [← hPP]; simp [List.getD, hjl]
    obtain ⟨ls, hls⟩ : ∃ q, lsr pp p = q := ⟨_, rfl⟩
    have hpps : pp.size ≤ 1000 := HZl.out (pp, pv, pm) (by rw [← hE3]; exact List.getElem_mem hjl)
    have HLS : Hid (∀ W, Below X.heap.size X W → Calls Tryz.prog 29 #[.string pp, .string p] W fun e w' => e = .returned (.bool ls) ∧ Below W.heap.size W w') := Lib.hid (fun W hW => by
     have := less_any pp p W hpps hps (HMX.out.below hW)
     rw [hls] at this
     exact this)
    have HFK1 : Hid (ls = true → ft = true → fitK l k = true) := Lib.hid (fun q1 q2 => by
     unfold fitK
     rw [HEg.out, HFt.out, q2, show k - 1 = j by omega, hPP]
     simp only
     rw [hls, q1]
     simp)
    have HS0 : Hid (X.cell? ⟨g, off + j * 3, none⟩ = some (.string pp)) := Lib.hid ((hbx.cell (p := ⟨g, off + j * 3, none⟩) hg).trans s0)
    have HGX : Hid (g < X.heap.size) := Lib.hid (Nat.lt_of_lt_of_le hg hbx.size)
    have HKP : Hid (∀ w' : World, Below X.heap.size X w' → (w'.cell? ⟨g6, 0, none⟩ = some (.string p) ∧ w'.cell? ⟨g6, 1, none⟩ = some (.string v) ∧ w'.cell? ⟨g6, 2, none⟩ = some (.int .i64 m) ∧ w'.cell? ⟨g, off + j * 3, none⟩ = some (.string pp) ∧ Below X.heap.size X w')) := Lib.hid (fun w' hb => ⟨(hb.cell (p := ⟨g6, 0, none⟩) HZX.out).trans U0.out, (hb.cell (p := ⟨g6, 1, none⟩) HZX.out).trans U1.out, (hb.cell (p := ⟨g6, 2, none⟩) HZX.out).trans U2.out, (hb.cell (p := ⟨g, off + j * 3, none⟩) HGX.out).trans HS0.out, hb⟩)
    have i1 : IntKind.i64.wrap ((k : Int) - 1) = (j : Int) := by simp [IntKind.wrap, IntKind.bits, IntKind.signed]; omega
    have i2 : (0 : Int) < (k : Int) := by omega
    have i3 : (j : Int) < (n : Int) := by omega
    have i4 : (0 : Int) ≤ (j : Int) := by omega
    have i5 : decide (0 < k) = true := decide_eq_true (by omega)
    have HKJ := Lib.hid hkj
    clear hD hbx hzx hmem hps hE hE2 hg9 hPP hE3 hls hpps hjl k0 hkj s0 hft
    go_wp2_with fail
    cases ls with
    | false =>
     refine wp_region_held_drew (S := (fun w' => w'.cell? ⟨g6, 0, none⟩ = some (.string p) ∧ w'.cell? ⟨g6, 1, none⟩ = some (.string v) ∧ w'.cell? ⟨g6, 2, none⟩ = some (.int .i64 m) ∧ w'.cell? ⟨g, off + j * 3, none⟩ = some (.string pp) ∧ Below X.heap.size X w')) (by kernel_rfl) ?_ (fun hHeld => ?_)
     ·((first
        | exact HKP.out _ (Below.refl _ _)
        | exact HKP.out _ (Below.refl _ _).drew
        | (go_split_ands; exact HKP.out _ (below_self (by assumption) (by assumption)))
        | (go_split_ands; exact HKP.out _ (Below.drew (by assumption)))
        | (go_split_ands; exact HKP.out _ (by assumption))))
     (refine tkA 0 (v := ?_) ?_ ?_; rotate_left; focus (intro w hSw; (try dsimp only at hSw); go_simp; try rfl)); try simp only [Act.put, gA1, gA2, gA3, gA4, gA5, gA6]
     (refine tkA 1 (v := ?_) ?_ ?_; rotate_left; focus (intro w hSw; (try dsimp only at hSw); go_simp; try rfl)); try simp only [Act.put, gA1, gA2, gA3, gA4, gA5, gA6]
     (refine tkA 2 (v := ?_) ?_ ?_; rotate_left; focus (intro w hSw; (try dsimp only at hSw); go_simp; try rfl)); try simp only [Act.put, gA1, gA2, gA3, gA4, gA5, gA6]
     (refine tkA 3 (v := ?_) ?_ ?_; rotate_left; focus (intro w hSw; (try dsimp only at hSw); go_simp; try rfl)); try simp only [Act.put, gA1, gA2, gA3, gA4, gA5, gA6]
     (refine tkA 4 (v := ?_) ?_ ?_; rotate_left; focus (intro w hSw; (try dsimp only at hSw); go_simp; try rfl)); try simp only [Act.put, gA1, gA2, gA3, gA4, gA5, gA6]
     (refine tkA 5 (v := ?_) ?_ ?_; rotate_left; focus (intro w hSw; (try dsimp only at hSw); go_simp; try rfl)); try simp only [Act.put, gA1, gA2, gA3, gA4, gA5, gA6]
     (refine tkA 6 (v := ?_) ?_ ?_; rotate_left; focus (intro w hSw; (try dsimp only at hSw); go_simp; try rfl)); try simp only [Act.put, gA1, gA2, gA3, gA4, gA5, gA6]
     (refine tkA 7 (v := ?_) ?_ ?_; rotate_left; focus (intro w hSw; (try dsimp only at hSw); go_simp; try rfl)); try simp only [Act.put, gA1, gA2, gA3, gA4, gA5, gA6]
     (refine tkA 8 (v := ?_) ?_ ?_; rotate_left; focus (intro w hSw; (try dsimp only at hSw); go_simp; try rfl)); try simp only [Act.put, gA1, gA2, gA3, gA4, gA5, gA6]
     (refine tkA 9 (v := ?_) ?_ ?_; rotate_left; focus (intro w hSw; (try dsimp only at hSw); go_simp; try rfl)); try simp only [Act.put, gA1, gA2, gA3, gA4, gA5, gA6]
     (refine tkA 10 (v := ?_) ?_ ?_; rotate_left; focus (intro w hSw; (try dsimp only at hSw); go_simp; try rfl)); try simp only [Act.put, gA1, gA2, gA3, gA4, gA5, gA6]
     refine wpAnyH_ready (rs := [11]) (by kernel_rfl) (by simp) ?_
     refine (AllReadyH.cons rfl (fun K hK => ?_) AllReadyH.nil)
     go_simp
     (go_at_call 29; go_split_ands; refine (HLS.out _ (by assumption)).mono ?_; rintro e w5 ⟨rfl, hbw5⟩)
     refine hK.out _ _ ?_ (fun hHeld => ?_)
     ·((first
        | exact HKP.out _ (Below.refl _ _)
        | exact HKP.out _ (Below.refl _ _).drew
        | (go_split_ands; exact HKP.out _ (below_self (by assumption) (by assumption)))
        | (go_split_ands; exact HKP.out _ (Below.drew (by assumption)))
        | (go_split_ands; exact HKP.out _ (by assumption))))
     clear hK K
     try simp only [Act.put, gA1, gA2, gA3, gA4, gA5, gA6]
     (refine tkA 12 (v := ?_) ?_ ?_; rotate_left; focus (intro w hSw; (try dsimp only at hSw); go_simp; try rfl)); try simp only [Act.put, gA1, gA2, gA3, gA4, gA5, gA6]
     (refine tkA 13 (v := ?_) ?_ ?_; rotate_left; focus (intro w hSw; (try dsimp only at hSw); go_simp; try rfl)); try simp only [Act.put, gA1, gA2, gA3, gA4, gA5, gA6]
     (refine tkA 14 (v := ?_) ?_ ?_; rotate_left; focus (intro w hSw; (try dsimp only at hSw); go_simp; try rfl)); try simp only [Act.put, gA1, gA2, gA3, gA4, gA5, gA6]
     refine utA 15 ?_; try simp only [Act.put, gA1, gA2, gA3, gA4, gA5, gA6]
     refine utA 16 ?_; try simp only [Act.put, gA1, gA2, gA3, gA4, gA5, gA6]
     refine utA 17 ?_; try simp only [Act.put, gA1, gA2, gA3, gA4, gA5, gA6]
     refine utA 18 ?_; try simp only [Act.put, gA1, gA2, gA3, gA4, gA5, gA6]
     (refine tkA 19 (v := ?_) ?_ ?_; rotate_left; focus (intro w hSw; (try dsimp only at hSw); go_simp; try rfl)); try simp only [Act.put, gA1, gA2, gA3, gA4, gA5, gA6]
     refine wpAnyH_done (by kernel_rfl) ?_ _
     go_split_ands
     have hbn : Below X.heap.size X w5 := by assumption
     have HBn := Lib.hid hbn
     clear hbn HKP
     have HB6 := Lib.hid (below_self HBX.out HBn.out)
     clear HBn
     go_wp2
     go_ret2
     exact ⟨rfl, HB6.out⟩
    | true =>
     cases ft with
     | false =>
      refine wp_region_held_drew (S := (fun w' => w'.cell? ⟨g6, 0, none⟩ = some (.string p) ∧ w'.cell? ⟨g6, 1, none⟩ = some (.string v) ∧ w'.cell? ⟨g6, 2, none⟩ = some (.int .i64 m) ∧ w'.cell? ⟨g, off + j * 3, none⟩ = some (.string pp) ∧ Below X.heap.size X w')) (by kernel_rfl) ?_ (fun hHeld => ?_)
      ·((first
         | exact HKP.out _ (Below.refl _ _)
         | exact HKP.out _ (Below.refl _ _).drew
         | (go_split_ands; exact HKP.out _ (below_self (by assumption) (by assumption)))
         | (go_split_ands; exact HKP.out _ (Below.drew (by assumption)))
         | (go_split_ands; exact HKP.out _ (by assumption))))
      (refine tkA 0 (v := ?_) ?_ ?_; rotate_left; focus (intro w hSw; (try dsimp only at hSw); go_simp; try rfl)); try simp only [Act.put, gA1, gA2, gA3, gA4, gA5, gA6]
      (refine tkA 1 (v := ?_) ?_ ?_; rotate_left; focus (intro w hSw; (try dsimp only at hSw); go_simp; try rfl)); try simp only [Act.put, gA1, gA2, gA3, gA4, gA5, gA6]
      (refine tkA 2 (v := ?_) ?_ ?_; rotate_left; focus (intro w hSw; (try dsimp only at hSw); go_simp; try rfl)); try simp only [Act.put, gA1, gA2, gA3, gA4, gA5, gA6]
      (refine tkA 3 (v := ?_) ?_ ?_; rotate_left; focus (intro w hSw; (try dsimp only at hSw); go_simp; try rfl)); try simp only [Act.put, gA1, gA2, gA3, gA4, gA5, gA6]
      (refine tkA 4 (v := ?_) ?_ ?_; rotate_left; focus (intro w hSw; (try dsimp only at hSw); go_simp; try rfl)); try simp only [Act.put, gA1, gA2, gA3, gA4, gA5, gA6]
      (refine tkA 5 (v := ?_) ?_ ?_; rotate_left; focus (intro w hSw; (try dsimp only at hSw); go_simp; try rfl)); try simp only [Act.put, gA1, gA2, gA3, gA4, gA5, gA6]
      (refine tkA 6 (v := ?_) ?_ ?_; rotate_left; focus (intro w hSw; (try dsimp only at hSw); go_simp; try rfl)); try simp only [Act.put, gA1, gA2, gA3, gA4, gA5, gA6]
      (refine tkA 7 (v := ?_) ?_ ?_; rotate_left; focus (intro w hSw; (try dsimp only at hSw); go_simp; try rfl)); try simp only [Act.put, gA1, gA2, gA3, gA4, gA5, gA6]
      (refine tkA 8 (v := ?_) ?_ ?_; rotate_left; focus (intro w hSw; (try dsimp only at hSw); go_simp; try rfl)); try simp only [Act.put, gA1, gA2, gA3, gA4, gA5, gA6]
      (refine tkA 9 (v := ?_) ?_ ?_; rotate_left; focus (intro w hSw; (try dsimp only at hSw); go_simp; try rfl)); try simp only [Act.put, gA1, gA2, gA3, gA4, gA5, gA6]
      (refine tkA 10 (v := ?_) ?_ ?_; rotate_left; focus (intro w hSw; (try dsimp only at hSw); go_simp; try rfl)); try simp only [Act.put, gA1, gA2, gA3, gA4, gA5, gA6]
      refine wpAnyH_ready (rs := [11]) (by kernel_rfl) (by simp) ?_
      refine (AllReadyH.cons rfl (fun K hK => ?_) AllReadyH.nil)
      go_simp
      (go_at_call 29; go_split_ands; refine (HLS.out _ (by assumption)).mono ?_; rintro e w5 ⟨rfl, hbw5⟩)
      refine hK.out _ _ ?_ (fun hHeld => ?_)
      ·((first
         | exact HKP.out _ (Below.refl _ _)
         | exact HKP.out _ (Below.refl _ _).drew
         | (go_split_ands; exact HKP.out _ (below_self (by assumption) (by assumption)))
         | (go_split_ands; exact HKP.out _ (Below.drew (by assumption)))
         | (go_split_ands; exact HKP.out _ (by assumption))))
      clear hK K
      try simp only [Act.put, gA1, gA2, gA3, gA4, gA5, gA6]
      (refine tkA 12 (v := ?_) ?_ ?_; rotate_left; focus (intro w hSw; (try dsimp only at hSw); go_simp; try rfl)); try simp only [Act.put, gA1, gA2, gA3, gA4, gA5, gA6]
      (refine tkA 13 (v := ?_) ?_ ?_; rotate_left; focus (intro w hSw; (try dsimp only at hSw); go_simp; try rfl)); try simp only [Act.put, gA1, gA2, gA3, gA4, gA5, gA6]
      (refine tkA 14 (v := ?_) ?_ ?_; rotate_left; focus (intro w hSw; (try dsimp only at hSw); go_simp; try rfl)); try simp only [Act.put, gA1, gA2, gA3, gA4, gA5, gA6]
      (refine tkA 15 (v := ?_) ?_ ?_; rotate_left; focus (intro w hSw; (try dsimp only at hSw); go_simp; try rfl)); try simp only [Act.put, gA1, gA2, gA3, gA4, gA5, gA6]
      (refine tkA 16 (v := ?_) ?_ ?_; rotate_left; focus (intro w hSw; (try dsimp only at hSw); go_simp; try rfl)); try simp only [Act.put, gA1, gA2, gA3, gA4, gA5, gA6]
      refine wpAnyH_ready (rs := [17]) (by kernel_rfl) (by simp) ?_
      refine (AllReadyH.cons rfl (fun K hK => ?_) AllReadyH.nil)
      go_simp
      (go_at_call 30; go_split_ands; refine (HFT.out _ (by assumption)).mono ?_; rintro e w6 ⟨rfl, hbw6⟩)
      refine hK.out _ _ ?_ (fun hHeld => ?_)
      ·((first
         | exact HKP.out _ (Below.refl _ _)
         | exact HKP.out _ (Below.refl _ _).drew
         | (go_split_ands; exact HKP.out _ (below_self (by assumption) (by assumption)))
         | (go_split_ands; exact HKP.out _ (Below.drew (by assumption)))
         | (go_split_ands; exact HKP.out _ (by assumption))))
      clear hK K
      try simp only [Act.put, gA1, gA2, gA3, gA4, gA5, gA6]
      (refine tkA 18 (v := ?_) ?_ ?_; rotate_left; focus (intro w hSw; (try dsimp only at hSw); go_simp; try rfl)); try simp only [Act.put, gA1, gA2, gA3, gA4, gA5, gA6]
      (refine tkA 19 (v := ?_) ?_ ?_; rotate_left; focus (intro w hSw; (try dsimp only at hSw); go_simp; try rfl)); try simp only [Act.put, gA1, gA2, gA3, gA4, gA5, gA6]
      refine wpAnyH_done (by kernel_rfl) ?_ _
      go_split_ands
      have hbn : Below X.heap.size X w6 := by assumption
      have HBn := Lib.hid hbn
      clear hbn HKP
      have HB6 := Lib.hid (below_self HBX.out HBn.out)
      clear HBn
      go_wp2
      go_ret2
      exact ⟨rfl, HB6.out⟩
     | true =>
      have HGo : Hid (∀ i, i < k + 1 → fitK l i = true) := Lib.hid (good_succ HGd.out (HFK1.out rfl rfl))
      refine wp_region_held_drew (S := (fun w' => w'.cell? ⟨g6, 0, none⟩ = some (.string p) ∧ w'.cell? ⟨g6, 1, none⟩ = some (.string v) ∧ w'.cell? ⟨g6, 2, none⟩ = some (.int .i64 m) ∧ w'.cell? ⟨g, off + j * 3, none⟩ = some (.string pp) ∧ Below X.heap.size X w')) (by kernel_rfl) ?_ (fun hHeld => ?_)
      ·((first
         | exact HKP.out _ (Below.refl _ _)
         | exact HKP.out _ (Below.refl _ _).drew
         | (go_split_ands; exact HKP.out _ (below_self (by assumption) (by assumption)))
         | (go_split_ands; exact HKP.out _ (Below.drew (by assumption)))
         | (go_split_ands; exact HKP.out _ (by assumption))))
      (refine tkA 0 (v := ?_) ?_ ?_; rotate_left; focus (intro w hSw; (try dsimp only at hSw); go_simp; try rfl)); try simp only [Act.put, gA1, gA2, gA3, gA4, gA5, gA6]
      (refine tkA 1 (v := ?_) ?_ ?_; rotate_left; focus (intro w hSw; (try dsimp only at hSw); go_simp; try rfl)); try simp only [Act.put, gA1, gA2, gA3, gA4, gA5, gA6]
      (refine tkA 2 (v := ?_) ?_ ?_; rotate_left; focus (intro w hSw; (try dsimp only at hSw); go_simp; try rfl)); try simp only [Act.put, gA1, gA2, gA3, gA4, gA5, gA6]
      (refine tkA 3 (v := ?_) ?_ ?_; rotate_left; focus (intro w hSw; (try dsimp only at hSw); go_simp; try rfl)); try simp only [Act.put, gA1, gA2, gA3, gA4, gA5, gA6]
      (refine tkA 4 (v := ?_) ?_ ?_; rotate_left; focus (intro w hSw; (try dsimp only at hSw); go_simp; try rfl)); try simp only [Act.put, gA1, gA2, gA3, gA4, gA5, gA6]
      (refine tkA 5 (v := ?_) ?_ ?_; rotate_left; focus (intro w hSw; (try dsimp only at hSw); go_simp; try rfl)); try simp only [Act.put, gA1, gA2, gA3, gA4, gA5, gA6]
      (refine tkA 6 (v := ?_) ?_ ?_; rotate_left; focus (intro w hSw; (try dsimp only at hSw); go_simp; try rfl)); try simp only [Act.put, gA1, gA2, gA3, gA4, gA5, gA6]
      (refine tkA 7 (v := ?_) ?_ ?_; rotate_left; focus (intro w hSw; (try dsimp only at hSw); go_simp; try rfl)); try simp only [Act.put, gA1, gA2, gA3, gA4, gA5, gA6]
      (refine tkA 8 (v := ?_) ?_ ?_; rotate_left; focus (intro w hSw; (try dsimp only at hSw); go_simp; try rfl)); try simp only [Act.put, gA1, gA2, gA3, gA4, gA5, gA6]
      (refine tkA 9 (v := ?_) ?_ ?_; rotate_left; focus (intro w hSw; (try dsimp only at hSw); go_simp; try rfl)); try simp only [Act.put, gA1, gA2, gA3, gA4, gA5, gA6]
      (refine tkA 10 (v := ?_) ?_ ?_; rotate_left; focus (intro w hSw; (try dsimp only at hSw); go_simp; try rfl)); try simp only [Act.put, gA1, gA2, gA3, gA4, gA5, gA6]
      refine wpAnyH_ready (rs := [11]) (by kernel_rfl) (by simp) ?_
      refine (AllReadyH.cons rfl (fun K hK => ?_) AllReadyH.nil)
      go_simp
      (go_at_call 29; go_split_ands; refine (HLS.out _ (by assumption)).mono ?_; rintro e w5 ⟨rfl, hbw5⟩)
      refine hK.out _ _ ?_ (fun hHeld => ?_)
      ·((first
         | exact HKP.out _ (Below.refl _ _)
         | exact HKP.out _ (Below.refl _ _).drew
         | (go_split_ands; exact HKP.out _ (below_self (by assumption) (by assumption)))
         | (go_split_ands; exact HKP.out _ (Below.drew (by assumption)))
         | (go_split_ands; exact HKP.out _ (by assumption))))
      clear hK K
      try simp only [Act.put, gA1, gA2, gA3, gA4, gA5, gA6]
      (refine tkA 12 (v := ?_) ?_ ?_; rotate_left; focus (intro w hSw; (try dsimp only at hSw); go_simp; try rfl)); try simp only [Act.put, gA1, gA2, gA3, gA4, gA5, gA6]
      (refine tkA 13 (v := ?_) ?_ ?_; rotate_left; focus (intro w hSw; (try dsimp only at hSw); go_simp; try rfl)); try simp only [Act.put, gA1, gA2, gA3, gA4, gA5, gA6]
      (refine tkA 14 (v := ?_) ?_ ?_; rotate_left; focus (intro w hSw; (try dsimp only at hSw); go_simp; try rfl)); try simp only [Act.put, gA1, gA2, gA3, gA4, gA5, gA6]
      (refine tkA 15 (v := ?_) ?_ ?_; rotate_left; focus (intro w hSw; (try dsimp only at hSw); go_simp; try rfl)); try simp only [Act.put, gA1, gA2, gA3, gA4, gA5, gA6]
      (refine tkA 16 (v := ?_) ?_ ?_; rotate_left; focus (intro w hSw; (try dsimp only at hSw); go_simp; try rfl)); try simp only [Act.put, gA1, gA2, gA3, gA4, gA5, gA6]
      refine wpAnyH_ready (rs := [17]) (by kernel_rfl) (by simp) ?_
      refine (AllReadyH.cons rfl (fun K hK => ?_) AllReadyH.nil)
      go_simp
      (go_at_call 30; go_split_ands; refine (HFT.out _ (by assumption)).mono ?_; rintro e w6 ⟨rfl, hbw6⟩)
      refine hK.out _ _ ?_ (fun hHeld => ?_)
      ·((first
         | exact HKP.out _ (Below.refl _ _)
         | exact HKP.out _ (Below.refl _ _).drew
         | (go_split_ands; exact HKP.out _ (below_self (by assumption) (by assumption)))
         | (go_split_ands; exact HKP.out _ (Below.drew (by assumption)))
         | (go_split_ands; exact HKP.out _ (by assumption))))
      clear hK K
      try simp only [Act.put, gA1, gA2, gA3, gA4, gA5, gA6]
      (refine tkA 18 (v := ?_) ?_ ?_; rotate_left; focus (intro w hSw; (try dsimp only at hSw); go_simp; try rfl)); try simp only [Act.put, gA1, gA2, gA3, gA4, gA5, gA6]
      (refine tkA 19 (v := ?_) ?_ ?_; rotate_left; focus (intro w hSw; (try dsimp only at hSw); go_simp; try rfl)); try simp only [Act.put, gA1, gA2, gA3, gA4, gA5, gA6]
      refine wpAnyH_done (by kernel_rfl) ?_ _
      go_split_ands
      have hbn : Below X.heap.size X w6 := by assumption
      have HBn := Lib.hid hbn
      clear hbn HKP
      have hb6 := HBn.out
      have HB6 := Lib.hid (below_self HBX.out hb6)
      have HD6 := Lib.hid (HDX.out.below hb6)
      have v0 := (hb6.cell (p := ⟨g6, 0, none⟩) HZX.out).trans U0.out
      have v1 := (hb6.cell (p := ⟨g6, 1, none⟩) HZX.out).trans U1.out
      have v2 := (hb6.cell (p := ⟨g6, 2, none⟩) HZX.out).trans U2.out
      obtain ⟨D, mm, hm6, hM6, hI6⟩ := HD6.out.map
      have HMX6 := Lib.hid hM6
      have HI6 := Lib.hid hI6
      have HMM6 := Lib.hid hm6
      have dc := HD6.out.cell
      have HKEY := Lib.hid (kS_key HPS.out)
      have hmx : mm < maxLen := by unfold maxLen; omega
      have HMAX := Lib.hid hmx
      clear hb6 hm6 hM6 hI6 hmx HBn
      go_wp2_with fail
      go_still_tail 11, (by kernel_rfl)
      refine wpList_mapUpdate_own _ rfl _ _ _ 69 rfl 9 68 strK Tryz.underlying69 heldElem w.heap.size mm D rfl HMX6.out.drew HMAX.out (.string p) (hV v m) (kS p) rfl rfl HKEY.out (hD (v, m)) [] (heldElem_mk _ _) ?_
      intro w7 hown hg7
      have hg8 : w6.grownBy w7 (some w.heap.size) := ⟨hg7.os, hg7.tape, hg7.output, hg7.size, hg7.block⟩
      have HB7 : Hid (Below w.heap.size w w7) := Lib.hid (HB6.out.grown hg8 HB6.out.size (fun i hi => by cases hi; exact Nat.le_refl _))
      have HD7 := Lib.hid (HOF.out HGo.out w7 D mm HMM6.out HI6.out hown (hg8.cell dc (by simp)))
      clear hown hg7 hg8 dc v0 v1 v2
      go_wp2
      go_roundw
      case rel => exact ⟨_, by omega, by go_num, HD7, HB7, HGo⟩
      case measure => simp [intOf]; omega
  ·obtain rfl : k = n := by omega
   exfalso
   have q := good_right (show k ≤ l.length by have := HL.out; omega) HGd.out
   rw [HL.out, List.take_length] at q
   exact HH.out q
end Go.Proofs.YtodcmhmankmaoaaGreat
