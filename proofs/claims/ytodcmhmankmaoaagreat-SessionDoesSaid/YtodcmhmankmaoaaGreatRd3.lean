/-
 The document's own directory: which entries may be one.
-/
import Derived.IntWalk
import Derived.Test.YtodcmhmankmaoaaGreatSht
import Derived.Test.YtodcmhmankmaoaaGreatRd2
namespace Go.Proofs.YtodcmhmankmaoaaGreat
open Go.RowKit
set_option linter.unusedSimpArgs false
set_option linter.unusedVariables false

/-- May this entry stand where it does? -/
noncomputable def rghtK (l : List E3) (k : Nat) : Bool := !(decide (dpt (l.getD k EK.d).1 < 1)) && !(decide (64 < (l.getD k EK.d).2.1.size)) && !(decide ((l.getD k EK.d).2.2 < 1)) && (k == 0 || lsr (l.getD (k - 1) EK.d).1 (l.getD k EK.d).1) && (decide (par (l.getD k EK.d).1 = pth []) || decide (0 ≤ fixI l (par (l.getD k EK.d).1)))
noncomputable def rghtB (l : List E3) : Bool := (List.range l.length).all (rghtK l)
theorem rghtK_eq {l : List E3} {k : Nat} {ep ev : ByteArray} {en : Int} (h : l.getD k EK.d = (ep, ev, en)) : rghtK l k = (!(decide (dpt ep < 1)) && !(decide (64 < ev.size)) && !(decide (en < 1)) && (k == 0 || lsr (l.getD (k - 1) EK.d).1 ep) && (decide (par ep = pth []) || decide (0 ≤ fixI l (par ep)))) := by
 unfold rghtK
 rw [h]
theorem rghtB_no {l : List E3} {k : Nat} (hk : k < l.length) (h : rghtK l k = false) : rghtB l = false := by
 unfold rghtB
 rw [List.all_eq_false]
 exact ⟨k, List.mem_range.2 hk, by simp [h]⟩
set_option maxRecDepth 100000 in
set_option maxHeartbeats 8000000 in
theorem rright_any (a : Option Addr) (n c : Nat) (l : List E3) (w : World) (hR : EK.Rd w (.slice a n c) l) (hln : n = l.length) (hn : n ≤ 10000) (hz : ∀ j, j < l.length → (l.getD j EK.d).1.size ≤ 1000) :
  Calls Tryz.prog 9 #[.slice a n c] w fun e w' => e = .returned (.bool (rghtB l)) ∧ Below w.heap.size w w' := by
 have HR := Lib.hid hR
 have HLN := Lib.hid hln
 have HN := Lib.hid hn
 have HZ := Lib.hid hz
 have hni : (n : Int) ≤ 10000 := by omega
 clear hR hln hz
 go_enter Tryz.func9, Tryz.ntmps9
 go_wp2_with fail
 go_loopw [3] (fun i wr => ∃ k : Nat, k ≤ n ∧ i = .int .i64 k ∧ Hid (∀ i, i < k → rghtK l i = true) ∧ Hid (Below w.heap.size w wr)) (fun i _ => n - (intOf i).toNat)
 case atStart => exact ⟨0, Nat.zero_le _, rfl, Lib.hid (fun i hi => by omega), Lib.hid (Below.refl _ _)⟩
 case round =>
  obtain ⟨k, hk, rfl, hF, hB⟩ := hrel
  by_cases hlt : k < n
  ·have hlt' : (k : Int) < (n : Int) := by omega
   obtain ⟨e00, g, off, ha, hg, u0, u1, u2, hkl⟩ := entCell (HR.out.below hB.out) k hlt
   have hsz := HZ.out k hkl
   have HKL := Lib.hid hkl
   obtain ⟨⟨ep, ev, en⟩, hE⟩ : ∃ E, l.getD k EK.d = E := ⟨_, rfl⟩
   have hrk := rghtK_eq hE
   rw [hE] at u0 u1 u2 hsz
   simp only at u0 u1 u2 hsz
   have HSZ := Lib.hid hsz
   have U0 := Lib.hid u0
   have U1 := Lib.hid u1
   have U2 := Lib.hid u2
   have HG := Lib.hid hg
   subst ha
   obtain ⟨D, hD⟩ : ∃ D, dpt ep = D := ⟨_, rfl⟩
   rw [hD] at hrk
   have HDP : Hid (∀ W, Calls Tryz.prog 31 #[.string ep] W fun e w' => e = .returned (.int .i64 D) ∧ Below W.heap.size W w') := Lib.hid (fun W => by rw [← hD]; exact rdepth_any ep W HSZ.out)
   clear hD hE u0 u1 u2 hg hkl hsz e00
   go_wp2_with fail
   by_cases a1 : D < 1
   ·have HRB : Hid (rghtB l = false) := Lib.hid (rghtB_no HKL.out (by rw [hrk]; simp [a1]))
    clear hrk
    have HKP : Hid (∀ w', Below wr.heap.size wr w' → w'.cell? ⟨g, off + k * 3, none⟩ = some (.string ep) ∧ w'.cell? ⟨g, off + k * 3 + 1, none⟩ = some (.string ev) ∧ w'.cell? ⟨g, off + k * 3 + 2, none⟩ = some (.int .i64 en) ∧ Below wr.heap.size wr w') := Lib.hid (fun w' hb => ⟨(hb.cell (p := ⟨g, off + k * 3, none⟩) HG.out).trans U0.out, (hb.cell (p := ⟨g, off + k * 3 + 1, none⟩) HG.out).trans U1.out, (hb.cell (p := ⟨g, off + k * 3 + 2, none⟩) HG.out).trans U2.out, hb⟩)
    refine wp_region_held_drew (S := (fun w' => w'.cell? ⟨g, off + k * 3, none⟩ = some (.string ep) ∧ w'.cell? ⟨g, off + k * 3 + 1, none⟩ = some (.string ev) ∧ w'.cell? ⟨g, off + k * 3 + 2, none⟩ = some (.int .i64 en) ∧ Below wr.heap.size wr w')) (by kernel_rfl) ?_ (fun hHeld => ?_)
    ·((first
     | exact HKP.out _ hs8
     | exact HKP.out _ hs7
     | exact HKP.out _ (Below.refl _ _).drew
     | exact HKP.out _ (Below.refl _ _)
     | fail))
    (refine tkA 0 (v := ?_) ?_ ?_; rotate_left; focus (intro w hSw; (try dsimp only at hSw); go_simp; try rfl)); try simp only [Act.put, gA1, gA2, gA3, gA4, gA5, gA6]
    (refine tkA 1 (v := ?_) ?_ ?_; rotate_left; focus (intro w hSw; (try dsimp only at hSw); go_simp; try rfl)); try simp only [Act.put, gA1, gA2, gA3, gA4, gA5, gA6]
    (refine tkA 2 (v := ?_) ?_ ?_; rotate_left; focus (intro w hSw; (try dsimp only at hSw); go_simp; try rfl)); try simp only [Act.put, gA1, gA2, gA3, gA4, gA5, gA6]
    (refine tkA 3 (v := ?_) ?_ ?_; rotate_left; focus (intro w hSw; (try dsimp only at hSw); go_simp; try rfl)); try simp only [Act.put, gA1, gA2, gA3, gA4, gA5, gA6]
    (refine tkA 4 (v := ?_) ?_ ?_; rotate_left; focus (intro w hSw; (try dsimp only at hSw); go_simp; try rfl)); try simp only [Act.put, gA1, gA2, gA3, gA4, gA5, gA6]
    refine wpAnyH_ready (rs := [5]) (by kernel_rfl) (by simp) ?_
    refine (AllReadyH.cons rfl (fun K hK => ?_) AllReadyH.nil)
    go_simp
    (go_at_call 31; refine (HDP.out _).mono ?_; rintro e w7 ⟨rfl, hb7⟩; have hs7 : Below wr.heap.size wr w7 := below_self (Below.refl _ _).drew hb7)
    refine hK.out _ _ ?_ (fun hHeld => ?_)
    ·((first
     | exact HKP.out _ hs8
     | exact HKP.out _ hs7
     | exact HKP.out _ (Below.refl _ _).drew
     | exact HKP.out _ (Below.refl _ _)
     | fail))
    clear hK K
    try simp only [Act.put, gA1, gA2, gA3, gA4, gA5, gA6]
    (refine tkA 6 (v := ?_) ?_ ?_; rotate_left; focus (intro w hSw; (try dsimp only at hSw); go_simp; try rfl)); try simp only [Act.put, gA1, gA2, gA3, gA4, gA5, gA6]
    (refine tkA 7 (v := ?_) ?_ ?_; rotate_left; focus (intro w hSw; (try dsimp only at hSw); go_simp; try rfl)); try simp only [Act.put, gA1, gA2, gA3, gA4, gA5, gA6]
    refine utA 8 ?_; try simp only [Act.put, gA1, gA2, gA3, gA4, gA5, gA6]
    refine utA 9 ?_; try simp only [Act.put, gA1, gA2, gA3, gA4, gA5, gA6]
    refine utA 10 ?_; try simp only [Act.put, gA1, gA2, gA3, gA4, gA5, gA6]
    refine utA 11 ?_; try simp only [Act.put, gA1, gA2, gA3, gA4, gA5, gA6]
    refine utA 12 ?_; try simp only [Act.put, gA1, gA2, gA3, gA4, gA5, gA6]
    refine utA 13 ?_; try simp only [Act.put, gA1, gA2, gA3, gA4, gA5, gA6]
    refine utA 14 ?_; try simp only [Act.put, gA1, gA2, gA3, gA4, gA5, gA6]
    (refine tkA 15 (v := ?_) ?_ ?_; rotate_left; focus (intro w hSw; (try dsimp only at hSw); go_simp; try rfl)); try simp only [Act.put, gA1, gA2, gA3, gA4, gA5, gA6]
    (refine tkA 16 (v := ?_) ?_ ?_; rotate_left; focus (intro w hSw; (try dsimp only at hSw); go_simp; try rfl)); try simp only [Act.put, gA1, gA2, gA3, gA4, gA5, gA6]
    refine utA 17 ?_; try simp only [Act.put, gA1, gA2, gA3, gA4, gA5, gA6]
    refine utA 18 ?_; try simp only [Act.put, gA1, gA2, gA3, gA4, gA5, gA6]
    refine utA 19 ?_; try simp only [Act.put, gA1, gA2, gA3, gA4, gA5, gA6]
    refine utA 20 ?_; try simp only [Act.put, gA1, gA2, gA3, gA4, gA5, gA6]
    refine utA 21 ?_; try simp only [Act.put, gA1, gA2, gA3, gA4, gA5, gA6]
    refine utA 22 ?_; try simp only [Act.put, gA1, gA2, gA3, gA4, gA5, gA6]
    (refine tkA 23 (v := ?_) ?_ ?_; rotate_left; focus (intro w hSw; (try dsimp only at hSw); go_simp; try rfl)); try simp only [Act.put, gA1, gA2, gA3, gA4, gA5, gA6]
    (refine tkA 24 (v := ?_) ?_ ?_; rotate_left; focus (intro w hSw; (try dsimp only at hSw); go_simp; try rfl)); try simp only [Act.put, gA1, gA2, gA3, gA4, gA5, gA6]
    refine utA 25 ?_; try simp only [Act.put, gA1, gA2, gA3, gA4, gA5, gA6]
    refine utA 26 ?_; try simp only [Act.put, gA1, gA2, gA3, gA4, gA5, gA6]
    refine utA 27 ?_; try simp only [Act.put, gA1, gA2, gA3, gA4, gA5, gA6]
    refine utA 28 ?_; try simp only [Act.put, gA1, gA2, gA3, gA4, gA5, gA6]
    refine utA 29 ?_; try simp only [Act.put, gA1, gA2, gA3, gA4, gA5, gA6]
    refine utA 30 ?_; try simp only [Act.put, gA1, gA2, gA3, gA4, gA5, gA6]
    refine utA 31 ?_; try simp only [Act.put, gA1, gA2, gA3, gA4, gA5, gA6]
    refine utA 32 ?_; try simp only [Act.put, gA1, gA2, gA3, gA4, gA5, gA6]
    refine utA 33 ?_; try simp only [Act.put, gA1, gA2, gA3, gA4, gA5, gA6]
    refine utA 34 ?_; try simp only [Act.put, gA1, gA2, gA3, gA4, gA5, gA6]
    refine utA 35 ?_; try simp only [Act.put, gA1, gA2, gA3, gA4, gA5, gA6]
    refine utA 36 ?_; try simp only [Act.put, gA1, gA2, gA3, gA4, gA5, gA6]
    refine utA 37 ?_; try simp only [Act.put, gA1, gA2, gA3, gA4, gA5, gA6]
    refine utA 38 ?_; try simp only [Act.put, gA1, gA2, gA3, gA4, gA5, gA6]
    refine utA 39 ?_; try simp only [Act.put, gA1, gA2, gA3, gA4, gA5, gA6]
    refine utA 40 ?_; try simp only [Act.put, gA1, gA2, gA3, gA4, gA5, gA6]
    refine utA 41 ?_; try simp only [Act.put, gA1, gA2, gA3, gA4, gA5, gA6]
    (refine tkA 42 (v := ?_) ?_ ?_; rotate_left; focus (intro w hSw; (try dsimp only at hSw); go_simp; try rfl)); try simp only [Act.put, gA1, gA2, gA3, gA4, gA5, gA6]
    refine wpAnyH_done (by kernel_rfl) ?_ _
    go_split_ands
    have hq := hB.out.trans (hs7.mono hB.out.size)
    have HQ := Lib.hid hq
    clear HKP hq
    go_wp2
    go_ret
    exact ⟨(by rw [HRB.out]; first | done | rfl), HQ.out⟩
   ·by_cases b1 : 64 < ev.size
    ·have b2 : (64 : Int) < (ev.size : Int) := by omega
     have HRB : Hid (rghtB l = false) := Lib.hid (rghtB_no HKL.out (by rw [hrk]; simp [b1]))
     clear hrk
     have HKP : Hid (∀ w', Below wr.heap.size wr w' → w'.cell? ⟨g, off + k * 3, none⟩ = some (.string ep) ∧ w'.cell? ⟨g, off + k * 3 + 1, none⟩ = some (.string ev) ∧ w'.cell? ⟨g, off + k * 3 + 2, none⟩ = some (.int .i64 en) ∧ Below wr.heap.size wr w') := Lib.hid (fun w' hb => ⟨(hb.cell (p := ⟨g, off + k * 3, none⟩) HG.out).trans U0.out, (hb.cell (p := ⟨g, off + k * 3 + 1, none⟩) HG.out).trans U1.out, (hb.cell (p := ⟨g, off + k * 3 + 2, none⟩) HG.out).trans U2.out, hb⟩)
     refine wp_region_held_drew (S := (fun w' => w'.cell? ⟨g, off + k * 3, none⟩ = some (.string ep) ∧ w'.cell? ⟨g, off + k * 3 + 1, none⟩ = some (.string ev) ∧ w'.cell? ⟨g, off + k * 3 + 2, none⟩ = some (.int .i64 en) ∧ Below wr.heap.size wr w')) (by kernel_rfl) ?_ (fun hHeld => ?_)
     ·((first
      | exact HKP.out _ hs8
      | exact HKP.out _ hs7
      | exact HKP.out _ (Below.refl _ _).drew
      | exact HKP.out _ (Below.refl _ _)
      | fail))
     (refine tkA 0 (v := ?_) ?_ ?_; rotate_left; focus (intro w hSw; (try dsimp only at hSw); go_simp; try rfl)); try simp only [Act.put, gA1, gA2, gA3, gA4, gA5, gA6]
     (refine tkA 1 (v := ?_) ?_ ?_; rotate_left; focus (intro w hSw; (try dsimp only at hSw); go_simp; try rfl)); try simp only [Act.put, gA1, gA2, gA3, gA4, gA5, gA6]
     (refine tkA 2 (v := ?_) ?_ ?_; rotate_left; focus (intro w hSw; (try dsimp only at hSw); go_simp; try rfl)); try simp only [Act.put, gA1, gA2, gA3, gA4, gA5, gA6]
     (refine tkA 3 (v := ?_) ?_ ?_; rotate_left; focus (intro w hSw; (try dsimp only at hSw); go_simp; try rfl)); try simp only [Act.put, gA1, gA2, gA3, gA4, gA5, gA6]
     (refine tkA 4 (v := ?_) ?_ ?_; rotate_left; focus (intro w hSw; (try dsimp only at hSw); go_simp; try rfl)); try simp only [Act.put, gA1, gA2, gA3, gA4, gA5, gA6]
     refine wpAnyH_ready (rs := [5]) (by kernel_rfl) (by simp) ?_
     refine (AllReadyH.cons rfl (fun K hK => ?_) AllReadyH.nil)
     go_simp
     (go_at_call 31; refine (HDP.out _).mono ?_; rintro e w7 ⟨rfl, hb7⟩; have hs7 : Below wr.heap.size wr w7 := below_self (Below.refl _ _).drew hb7)
     refine hK.out _ _ ?_ (fun hHeld => ?_)
     ·((first
      | exact HKP.out _ hs8
      | exact HKP.out _ hs7
      | exact HKP.out _ (Below.refl _ _).drew
      | exact HKP.out _ (Below.refl _ _)
      | fail))
     clear hK K
     try simp only [Act.put, gA1, gA2, gA3, gA4, gA5, gA6]
     (refine tkA 6 (v := ?_) ?_ ?_; rotate_left; focus (intro w hSw; (try dsimp only at hSw); go_simp; try rfl)); try simp only [Act.put, gA1, gA2, gA3, gA4, gA5, gA6]
     (refine tkA 7 (v := ?_) ?_ ?_; rotate_left; focus (intro w hSw; (try dsimp only at hSw); go_simp; try rfl)); try simp only [Act.put, gA1, gA2, gA3, gA4, gA5, gA6]
     (refine tkA 8 (v := ?_) ?_ ?_; rotate_left; focus (intro w hSw; (try dsimp only at hSw); go_simp; try rfl)); try simp only [Act.put, gA1, gA2, gA3, gA4, gA5, gA6]
     (refine tkA 9 (v := ?_) ?_ ?_; rotate_left; focus (intro w hSw; (try dsimp only at hSw); go_simp; try rfl)); try simp only [Act.put, gA1, gA2, gA3, gA4, gA5, gA6]
     (refine tkA 10 (v := ?_) ?_ ?_; rotate_left; focus (intro w hSw; (try dsimp only at hSw); go_simp; try rfl)); try simp only [Act.put, gA1, gA2, gA3, gA4, gA5, gA6]
     (refine tkA 11 (v := ?_) ?_ ?_; rotate_left; focus (intro w hSw; (try dsimp only at hSw); go_simp; try rfl)); try simp only [Act.put, gA1, gA2, gA3, gA4, gA5, gA6]
     (refine tkA 12 (v := ?_) ?_ ?_; rotate_left; focus (intro w hSw; (try dsimp only at hSw); go_simp; try rfl)); try simp only [Act.put, gA1, gA2, gA3, gA4, gA5, gA6]
     refine wpAnyH_ready (rs := [13]) (by kernel_rfl) (by simp) ?_
     refine (AllReadyH.cons rfl (fun K hK => ?_) AllReadyH.nil)
     go_simp
     refine hK.out _ _ ?_ (fun hHeld => ?_)
     ·((first
      | exact HKP.out _ hs8
      | exact HKP.out _ hs7
      | exact HKP.out _ (Below.refl _ _).drew
      | exact HKP.out _ (Below.refl _ _)
      | fail))
     clear hK K
     try simp only [Act.put, gA1, gA2, gA3, gA4, gA5, gA6]
     (refine tkA 14 (v := ?_) ?_ ?_; rotate_left; focus (intro w hSw; (try dsimp only at hSw); go_simp; try rfl)); try simp only [Act.put, gA1, gA2, gA3, gA4, gA5, gA6]
     (refine tkA 15 (v := ?_) ?_ ?_; rotate_left; focus (intro w hSw; (try dsimp only at hSw); go_simp; try rfl)); try simp only [Act.put, gA1, gA2, gA3, gA4, gA5, gA6]
     (refine tkA 16 (v := ?_) ?_ ?_; rotate_left; focus (intro w hSw; (try dsimp only at hSw); go_simp; try rfl)); try simp only [Act.put, gA1, gA2, gA3, gA4, gA5, gA6]
     refine utA 17 ?_; try simp only [Act.put, gA1, gA2, gA3, gA4, gA5, gA6]
     refine utA 18 ?_; try simp only [Act.put, gA1, gA2, gA3, gA4, gA5, gA6]
     refine utA 19 ?_; try simp only [Act.put, gA1, gA2, gA3, gA4, gA5, gA6]
     refine utA 20 ?_; try simp only [Act.put, gA1, gA2, gA3, gA4, gA5, gA6]
     refine utA 21 ?_; try simp only [Act.put, gA1, gA2, gA3, gA4, gA5, gA6]
     refine utA 22 ?_; try simp only [Act.put, gA1, gA2, gA3, gA4, gA5, gA6]
     (refine tkA 23 (v := ?_) ?_ ?_; rotate_left; focus (intro w hSw; (try dsimp only at hSw); go_simp; try rfl)); try simp only [Act.put, gA1, gA2, gA3, gA4, gA5, gA6]
     (refine tkA 24 (v := ?_) ?_ ?_; rotate_left; focus (intro w hSw; (try dsimp only at hSw); go_simp; try rfl)); try simp only [Act.put, gA1, gA2, gA3, gA4, gA5, gA6]
     refine utA 25 ?_; try simp only [Act.put, gA1, gA2, gA3, gA4, gA5, gA6]
     refine utA 26 ?_; try simp only [Act.put, gA1, gA2, gA3, gA4, gA5, gA6]
     refine utA 27 ?_; try simp only [Act.put, gA1, gA2, gA3, gA4, gA5, gA6]
     refine utA 28 ?_; try simp only [Act.put, gA1, gA2, gA3, gA4, gA5, gA6]
     refine utA 29 ?_; try simp only [Act.put, gA1, gA2, gA3, gA4, gA5, gA6]
     refine utA 30 ?_; try simp only [Act.put, gA1, gA2, gA3, gA4, gA5, gA6]
     refine utA 31 ?_; try simp only [Act.put, gA1, gA2, gA3, gA4, gA5, gA6]
     refine utA 32 ?_; try simp only [Act.put, gA1, gA2, gA3, gA4, gA5, gA6]
     refine utA 33 ?_; try simp only [Act.put, gA1, gA2, gA3, gA4, gA5, gA6]
     refine utA 34 ?_; try simp only [Act.put, gA1, gA2, gA3, gA4, gA5, gA6]
     refine utA 35 ?_; try simp only [Act.put, gA1, gA2, gA3, gA4, gA5, gA6]
     refine utA 36 ?_; try simp only [Act.put, gA1, gA2, gA3, gA4, gA5, gA6]
     refine utA 37 ?_; try simp only [Act.put, gA1, gA2, gA3, gA4, gA5, gA6]
     refine utA 38 ?_; try simp only [Act.put, gA1, gA2, gA3, gA4, gA5, gA6]
     refine utA 39 ?_; try simp only [Act.put, gA1, gA2, gA3, gA4, gA5, gA6]
     refine utA 40 ?_; try simp only [Act.put, gA1, gA2, gA3, gA4, gA5, gA6]
     refine utA 41 ?_; try simp only [Act.put, gA1, gA2, gA3, gA4, gA5, gA6]
     (refine tkA 42 (v := ?_) ?_ ?_; rotate_left; focus (intro w hSw; (try dsimp only at hSw); go_simp; try rfl)); try simp only [Act.put, gA1, gA2, gA3, gA4, gA5, gA6]
     refine wpAnyH_done (by kernel_rfl) ?_ _
     go_split_ands
     have hq := hB.out.trans (hs7.mono hB.out.size)
     have HQ := Lib.hid hq
     clear HKP hq
     go_wp2
     go_ret
     exact ⟨(by rw [HRB.out]; first | done | rfl), HQ.out⟩
    ·have b2 : ¬ (64 : Int) < (ev.size : Int) := by omega
     by_cases c1 : en < 1
     ·have HRB : Hid (rghtB l = false) := Lib.hid (rghtB_no HKL.out (by rw [hrk]; simp [c1]))
      clear hrk
      have HKP : Hid (∀ w', Below wr.heap.size wr w' → w'.cell? ⟨g, off + k * 3, none⟩ = some (.string ep) ∧ w'.cell? ⟨g, off + k * 3 + 1, none⟩ = some (.string ev) ∧ w'.cell? ⟨g, off + k * 3 + 2, none⟩ = some (.int .i64 en) ∧ Below wr.heap.size wr w') := Lib.hid (fun w' hb => ⟨(hb.cell (p := ⟨g, off + k * 3, none⟩) HG.out).trans U0.out, (hb.cell (p := ⟨g, off + k * 3 + 1, none⟩) HG.out).trans U1.out, (hb.cell (p := ⟨g, off + k * 3 + 2, none⟩) HG.out).trans U2.out, hb⟩)
      refine wp_region_held_drew (S := (fun w' => w'.cell? ⟨g, off + k * 3, none⟩ = some (.string ep) ∧ w'.cell? ⟨g, off + k * 3 + 1, none⟩ = some (.string ev) ∧ w'.cell? ⟨g, off + k * 3 + 2, none⟩ = some (.int .i64 en) ∧ Below wr.heap.size wr w')) (by kernel_rfl) ?_ (fun hHeld => ?_)
      ·((first
       | exact HKP.out _ hs8
       | exact HKP.out _ hs7
       | exact HKP.out _ (Below.refl _ _).drew
       | exact HKP.out _ (Below.refl _ _)
       | fail))
      (refine tkA 0 (v := ?_) ?_ ?_; rotate_left; focus (intro w hSw; (try dsimp only at hSw); go_simp; try rfl)); try simp only [Act.put, gA1, gA2, gA3, gA4, gA5, gA6]
      (refine tkA 1 (v := ?_) ?_ ?_; rotate_left; focus (intro w hSw; (try dsimp only at hSw); go_simp; try rfl)); try simp only [Act.put, gA1, gA2, gA3, gA4, gA5, gA6]
      (refine tkA 2 (v := ?_) ?_ ?_; rotate_left; focus (intro w hSw; (try dsimp only at hSw); go_simp; try rfl)); try simp only [Act.put, gA1, gA2, gA3, gA4, gA5, gA6]
      (refine tkA 3 (v := ?_) ?_ ?_; rotate_left; focus (intro w hSw; (try dsimp only at hSw); go_simp; try rfl)); try simp only [Act.put, gA1, gA2, gA3, gA4, gA5, gA6]
      (refine tkA 4 (v := ?_) ?_ ?_; rotate_left; focus (intro w hSw; (try dsimp only at hSw); go_simp; try rfl)); try simp only [Act.put, gA1, gA2, gA3, gA4, gA5, gA6]
      refine wpAnyH_ready (rs := [5]) (by kernel_rfl) (by simp) ?_
      refine (AllReadyH.cons rfl (fun K hK => ?_) AllReadyH.nil)
      go_simp
      (go_at_call 31; refine (HDP.out _).mono ?_; rintro e w7 ⟨rfl, hb7⟩; have hs7 : Below wr.heap.size wr w7 := below_self (Below.refl _ _).drew hb7)
      refine hK.out _ _ ?_ (fun hHeld => ?_)
      ·((first
       | exact HKP.out _ hs8
       | exact HKP.out _ hs7
       | exact HKP.out _ (Below.refl _ _).drew
       | exact HKP.out _ (Below.refl _ _)
       | fail))
      clear hK K
      try simp only [Act.put, gA1, gA2, gA3, gA4, gA5, gA6]
      (refine tkA 6 (v := ?_) ?_ ?_; rotate_left; focus (intro w hSw; (try dsimp only at hSw); go_simp; try rfl)); try simp only [Act.put, gA1, gA2, gA3, gA4, gA5, gA6]
      (refine tkA 7 (v := ?_) ?_ ?_; rotate_left; focus (intro w hSw; (try dsimp only at hSw); go_simp; try rfl)); try simp only [Act.put, gA1, gA2, gA3, gA4, gA5, gA6]
      (refine tkA 8 (v := ?_) ?_ ?_; rotate_left; focus (intro w hSw; (try dsimp only at hSw); go_simp; try rfl)); try simp only [Act.put, gA1, gA2, gA3, gA4, gA5, gA6]
      (refine tkA 9 (v := ?_) ?_ ?_; rotate_left; focus (intro w hSw; (try dsimp only at hSw); go_simp; try rfl)); try simp only [Act.put, gA1, gA2, gA3, gA4, gA5, gA6]
      (refine tkA 10 (v := ?_) ?_ ?_; rotate_left; focus (intro w hSw; (try dsimp only at hSw); go_simp; try rfl)); try simp only [Act.put, gA1, gA2, gA3, gA4, gA5, gA6]
      (refine tkA 11 (v := ?_) ?_ ?_; rotate_left; focus (intro w hSw; (try dsimp only at hSw); go_simp; try rfl)); try simp only [Act.put, gA1, gA2, gA3, gA4, gA5, gA6]
      (refine tkA 12 (v := ?_) ?_ ?_; rotate_left; focus (intro w hSw; (try dsimp only at hSw); go_simp; try rfl)); try simp only [Act.put, gA1, gA2, gA3, gA4, gA5, gA6]
      refine wpAnyH_ready (rs := [13]) (by kernel_rfl) (by simp) ?_
      refine (AllReadyH.cons rfl (fun K hK => ?_) AllReadyH.nil)
      go_simp
      refine hK.out _ _ ?_ (fun hHeld => ?_)
      ·((first
       | exact HKP.out _ hs8
       | exact HKP.out _ hs7
       | exact HKP.out _ (Below.refl _ _).drew
       | exact HKP.out _ (Below.refl _ _)
       | fail))
      clear hK K
      try simp only [Act.put, gA1, gA2, gA3, gA4, gA5, gA6]
      (refine tkA 14 (v := ?_) ?_ ?_; rotate_left; focus (intro w hSw; (try dsimp only at hSw); go_simp; try rfl)); try simp only [Act.put, gA1, gA2, gA3, gA4, gA5, gA6]
      (refine tkA 15 (v := ?_) ?_ ?_; rotate_left; focus (intro w hSw; (try dsimp only at hSw); go_simp; try rfl)); try simp only [Act.put, gA1, gA2, gA3, gA4, gA5, gA6]
      (refine tkA 16 (v := ?_) ?_ ?_; rotate_left; focus (intro w hSw; (try dsimp only at hSw); go_simp; try rfl)); try simp only [Act.put, gA1, gA2, gA3, gA4, gA5, gA6]
      (refine tkA 17 (v := ?_) ?_ ?_; rotate_left; focus (intro w hSw; (try dsimp only at hSw); go_simp; try rfl)); try simp only [Act.put, gA1, gA2, gA3, gA4, gA5, gA6]
      (refine tkA 18 (v := ?_) ?_ ?_; rotate_left; focus (intro w hSw; (try dsimp only at hSw); go_simp; try rfl)); try simp only [Act.put, gA1, gA2, gA3, gA4, gA5, gA6]
      (refine tkA 19 (v := ?_) ?_ ?_; rotate_left; focus (intro w hSw; (try dsimp only at hSw); go_simp; try rfl)); try simp only [Act.put, gA1, gA2, gA3, gA4, gA5, gA6]
      (refine tkA 20 (v := ?_) ?_ ?_; rotate_left; focus (intro w hSw; (try dsimp only at hSw); go_simp; try rfl)); try simp only [Act.put, gA1, gA2, gA3, gA4, gA5, gA6]
      (refine tkA 21 (v := ?_) ?_ ?_; rotate_left; focus (intro w hSw; (try dsimp only at hSw); go_simp; try rfl)); try simp only [Act.put, gA1, gA2, gA3, gA4, gA5, gA6]
      (refine tkA 22 (v := ?_) ?_ ?_; rotate_left; focus (intro w hSw; (try dsimp only at hSw); go_simp; try rfl)); try simp only [Act.put, gA1, gA2, gA3, gA4, gA5, gA6]
      (refine tkA 23 (v := ?_) ?_ ?_; rotate_left; focus (intro w hSw; (try dsimp only at hSw); go_simp; try rfl)); try simp only [Act.put, gA1, gA2, gA3, gA4, gA5, gA6]
      (refine tkA 24 (v := ?_) ?_ ?_; rotate_left; focus (intro w hSw; (try dsimp only at hSw); go_simp; try rfl)); try simp only [Act.put, gA1, gA2, gA3, gA4, gA5, gA6]
      refine utA 25 ?_; try simp only [Act.put, gA1, gA2, gA3, gA4, gA5, gA6]
      refine utA 26 ?_; try simp only [Act.put, gA1, gA2, gA3, gA4, gA5, gA6]
      refine utA 27 ?_; try simp only [Act.put, gA1, gA2, gA3, gA4, gA5, gA6]
      refine utA 28 ?_; try simp only [Act.put, gA1, gA2, gA3, gA4, gA5, gA6]
      refine utA 29 ?_; try simp only [Act.put, gA1, gA2, gA3, gA4, gA5, gA6]
      refine utA 30 ?_; try simp only [Act.put, gA1, gA2, gA3, gA4, gA5, gA6]
      refine utA 31 ?_; try simp only [Act.put, gA1, gA2, gA3, gA4, gA5, gA6]
      refine utA 32 ?_; try simp only [Act.put, gA1, gA2, gA3, gA4, gA5, gA6]
      refine utA 33 ?_; try simp only [Act.put, gA1, gA2, gA3, gA4, gA5, gA6]
      refine utA 34 ?_; try simp only [Act.put, gA1, gA2, gA3, gA4, gA5, gA6]
      refine utA 35 ?_; try simp only [Act.put, gA1, gA2, gA3, gA4, gA5, gA6]
      refine utA 36 ?_; try simp only [Act.put, gA1, gA2, gA3, gA4, gA5, gA6]
      refine utA 37 ?_; try simp only [Act.put, gA1, gA2, gA3, gA4, gA5, gA6]
      refine utA 38 ?_; try simp only [Act.put, gA1, gA2, gA3, gA4, gA5, gA6]
      refine utA 39 ?_; try simp only [Act.put, gA1, gA2, gA3, gA4, gA5, gA6]
      refine utA 40 ?_; try simp only [Act.put, gA1, gA2, gA3, gA4, gA5, gA6]
      refine utA 41 ?_; try simp only [Act.put, gA1, gA2, gA3, gA4, gA5, gA6]
      (refine tkA 42 (v := ?_) ?_ ?_; rotate_left; focus (intro w hSw; (try dsimp only at hSw); go_simp; try rfl)); try simp only [Act.put, gA1, gA2, gA3, gA4, gA5, gA6]
      refine wpAnyH_done (by kernel_rfl) ?_ _
      go_split_ands
      have hq := hB.out.trans (hs7.mono hB.out.size)
      have HQ := Lib.hid hq
      clear HKP hq
      go_wp2
      go_ret
      exact ⟨(by rw [HRB.out]; first | done | rfl), HQ.out⟩
     ·by_cases k0 : k = 0
      ·have HRK : Hid (rghtK l k = (decide (par ep = pth []) || decide (0 ≤ fixI l (par ep)))) := Lib.hid (by rw [hrk]; simp [a1, b1, c1, k0])
       have i1 : ¬ (0 : Int) < (k : Int) := by omega
       have i2 : decide (0 < k) = false := by simp [k0]
       clear hrk k0
       have HKP : Hid (∀ w', Below wr.heap.size wr w' → w'.cell? ⟨g, off + k * 3, none⟩ = some (.string ep) ∧ w'.cell? ⟨g, off + k * 3 + 1, none⟩ = some (.string ev) ∧ w'.cell? ⟨g, off + k * 3 + 2, none⟩ = some (.int .i64 en) ∧ Below wr.heap.size wr w') := Lib.hid (fun w' hb => ⟨(hb.cell (p := ⟨g, off + k * 3, none⟩) HG.out).trans U0.out, (hb.cell (p := ⟨g, off + k * 3 + 1, none⟩) HG.out).trans U1.out, (hb.cell (p := ⟨g, off + k * 3 + 2, none⟩) HG.out).trans U2.out, hb⟩)
       refine wp_region_held_drew (S := (fun w' => w'.cell? ⟨g, off + k * 3, none⟩ = some (.string ep) ∧ w'.cell? ⟨g, off + k * 3 + 1, none⟩ = some (.string ev) ∧ w'.cell? ⟨g, off + k * 3 + 2, none⟩ = some (.int .i64 en) ∧ Below wr.heap.size wr w')) (by kernel_rfl) ?_ (fun hHeld => ?_)
       ·((first
        | exact HKP.out _ hs8
        | exact HKP.out _ hs7
        | exact HKP.out _ (Below.refl _ _).drew
        | exact HKP.out _ (Below.refl _ _)
        | fail))
       (refine tkA 0 (v := ?_) ?_ ?_; rotate_left; focus (intro w hSw; (try dsimp only at hSw); go_simp; try rfl)); try simp only [Act.put, gA1, gA2, gA3, gA4, gA5, gA6]
       (refine tkA 1 (v := ?_) ?_ ?_; rotate_left; focus (intro w hSw; (try dsimp only at hSw); go_simp; try rfl)); try simp only [Act.put, gA1, gA2, gA3, gA4, gA5, gA6]
       (refine tkA 2 (v := ?_) ?_ ?_; rotate_left; focus (intro w hSw; (try dsimp only at hSw); go_simp; try rfl)); try simp only [Act.put, gA1, gA2, gA3, gA4, gA5, gA6]
       (refine tkA 3 (v := ?_) ?_ ?_; rotate_left; focus (intro w hSw; (try dsimp only at hSw); go_simp; try rfl)); try simp only [Act.put, gA1, gA2, gA3, gA4, gA5, gA6]
       (refine tkA 4 (v := ?_) ?_ ?_; rotate_left; focus (intro w hSw; (try dsimp only at hSw); go_simp; try rfl)); try simp only [Act.put, gA1, gA2, gA3, gA4, gA5, gA6]
       refine wpAnyH_ready (rs := [5]) (by kernel_rfl) (by simp) ?_
       refine (AllReadyH.cons rfl (fun K hK => ?_) AllReadyH.nil)
       go_simp
       (go_at_call 31; refine (HDP.out _).mono ?_; rintro e w7 ⟨rfl, hb7⟩; have hs7 : Below wr.heap.size wr w7 := below_self (Below.refl _ _).drew hb7)
       refine hK.out _ _ ?_ (fun hHeld => ?_)
       ·((first
        | exact HKP.out _ hs8
        | exact HKP.out _ hs7
        | exact HKP.out _ (Below.refl _ _).drew
        | exact HKP.out _ (Below.refl _ _)
        | fail))
       clear hK K
       try simp only [Act.put, gA1, gA2, gA3, gA4, gA5, gA6]
       (refine tkA 6 (v := ?_) ?_ ?_; rotate_left; focus (intro w hSw; (try dsimp only at hSw); go_simp; try rfl)); try simp only [Act.put, gA1, gA2, gA3, gA4, gA5, gA6]
       (refine tkA 7 (v := ?_) ?_ ?_; rotate_left; focus (intro w hSw; (try dsimp only at hSw); go_simp; try rfl)); try simp only [Act.put, gA1, gA2, gA3, gA4, gA5, gA6]
       (refine tkA 8 (v := ?_) ?_ ?_; rotate_left; focus (intro w hSw; (try dsimp only at hSw); go_simp; try rfl)); try simp only [Act.put, gA1, gA2, gA3, gA4, gA5, gA6]
       (refine tkA 9 (v := ?_) ?_ ?_; rotate_left; focus (intro w hSw; (try dsimp only at hSw); go_simp; try rfl)); try simp only [Act.put, gA1, gA2, gA3, gA4, gA5, gA6]
       (refine tkA 10 (v := ?_) ?_ ?_; rotate_left; focus (intro w hSw; (try dsimp only at hSw); go_simp; try rfl)); try simp only [Act.put, gA1, gA2, gA3, gA4, gA5, gA6]
       (refine tkA 11 (v := ?_) ?_ ?_; rotate_left; focus (intro w hSw; (try dsimp only at hSw); go_simp; try rfl)); try simp only [Act.put, gA1, gA2, gA3, gA4, gA5, gA6]
       (refine tkA 12 (v := ?_) ?_ ?_; rotate_left; focus (intro w hSw; (try dsimp only at hSw); go_simp; try rfl)); try simp only [Act.put, gA1, gA2, gA3, gA4, gA5, gA6]
       refine wpAnyH_ready (rs := [13]) (by kernel_rfl) (by simp) ?_
       refine (AllReadyH.cons rfl (fun K hK => ?_) AllReadyH.nil)
       go_simp
       refine hK.out _ _ ?_ (fun hHeld => ?_)
       ·((first
        | exact HKP.out _ hs8
        | exact HKP.out _ hs7
        | exact HKP.out _ (Below.refl _ _).drew
        | exact HKP.out _ (Below.refl _ _)
        | fail))
       clear hK K
       try simp only [Act.put, gA1, gA2, gA3, gA4, gA5, gA6]
       (refine tkA 14 (v := ?_) ?_ ?_; rotate_left; focus (intro w hSw; (try dsimp only at hSw); go_simp; try rfl)); try simp only [Act.put, gA1, gA2, gA3, gA4, gA5, gA6]
       (refine tkA 15 (v := ?_) ?_ ?_; rotate_left; focus (intro w hSw; (try dsimp only at hSw); go_simp; try rfl)); try simp only [Act.put, gA1, gA2, gA3, gA4, gA5, gA6]
       (refine tkA 16 (v := ?_) ?_ ?_; rotate_left; focus (intro w hSw; (try dsimp only at hSw); go_simp; try rfl)); try simp only [Act.put, gA1, gA2, gA3, gA4, gA5, gA6]
       (refine tkA 17 (v := ?_) ?_ ?_; rotate_left; focus (intro w hSw; (try dsimp only at hSw); go_simp; try rfl)); try simp only [Act.put, gA1, gA2, gA3, gA4, gA5, gA6]
       (refine tkA 18 (v := ?_) ?_ ?_; rotate_left; focus (intro w hSw; (try dsimp only at hSw); go_simp; try rfl)); try simp only [Act.put, gA1, gA2, gA3, gA4, gA5, gA6]
       (refine tkA 19 (v := ?_) ?_ ?_; rotate_left; focus (intro w hSw; (try dsimp only at hSw); go_simp; try rfl)); try simp only [Act.put, gA1, gA2, gA3, gA4, gA5, gA6]
       (refine tkA 20 (v := ?_) ?_ ?_; rotate_left; focus (intro w hSw; (try dsimp only at hSw); go_simp; try rfl)); try simp only [Act.put, gA1, gA2, gA3, gA4, gA5, gA6]
       (refine tkA 21 (v := ?_) ?_ ?_; rotate_left; focus (intro w hSw; (try dsimp only at hSw); go_simp; try rfl)); try simp only [Act.put, gA1, gA2, gA3, gA4, gA5, gA6]
       (refine tkA 22 (v := ?_) ?_ ?_; rotate_left; focus (intro w hSw; (try dsimp only at hSw); go_simp; try rfl)); try simp only [Act.put, gA1, gA2, gA3, gA4, gA5, gA6]
       (refine tkA 23 (v := ?_) ?_ ?_; rotate_left; focus (intro w hSw; (try dsimp only at hSw); go_simp; try rfl)); try simp only [Act.put, gA1, gA2, gA3, gA4, gA5, gA6]
       (refine tkA 24 (v := ?_) ?_ ?_; rotate_left; focus (intro w hSw; (try dsimp only at hSw); go_simp; try rfl)); try simp only [Act.put, gA1, gA2, gA3, gA4, gA5, gA6]
       (refine tkA 25 (v := ?_) ?_ ?_; rotate_left; focus (intro w hSw; (try dsimp only at hSw); go_simp; try rfl)); try simp only [Act.put, gA1, gA2, gA3, gA4, gA5, gA6]
       (refine tkA 26 (v := ?_) ?_ ?_; rotate_left; focus (intro w hSw; (try dsimp only at hSw); go_simp; try rfl)); try simp only [Act.put, gA1, gA2, gA3, gA4, gA5, gA6]
       (refine tkA 27 (v := ?_) ?_ ?_; rotate_left; focus (intro w hSw; (try dsimp only at hSw); go_simp; try rfl)); try simp only [Act.put, gA1, gA2, gA3, gA4, gA5, gA6]
       refine utA 28 ?_; try simp only [Act.put, gA1, gA2, gA3, gA4, gA5, gA6]
       refine utA 29 ?_; try simp only [Act.put, gA1, gA2, gA3, gA4, gA5, gA6]
       refine utA 30 ?_; try simp only [Act.put, gA1, gA2, gA3, gA4, gA5, gA6]
       refine utA 31 ?_; try simp only [Act.put, gA1, gA2, gA3, gA4, gA5, gA6]
       refine utA 32 ?_; try simp only [Act.put, gA1, gA2, gA3, gA4, gA5, gA6]
       refine utA 33 ?_; try simp only [Act.put, gA1, gA2, gA3, gA4, gA5, gA6]
       refine utA 34 ?_; try simp only [Act.put, gA1, gA2, gA3, gA4, gA5, gA6]
       refine utA 35 ?_; try simp only [Act.put, gA1, gA2, gA3, gA4, gA5, gA6]
       refine utA 36 ?_; try simp only [Act.put, gA1, gA2, gA3, gA4, gA5, gA6]
       refine utA 37 ?_; try simp only [Act.put, gA1, gA2, gA3, gA4, gA5, gA6]
       refine utA 38 ?_; try simp only [Act.put, gA1, gA2, gA3, gA4, gA5, gA6]
       refine utA 39 ?_; try simp only [Act.put, gA1, gA2, gA3, gA4, gA5, gA6]
       refine utA 40 ?_; try simp only [Act.put, gA1, gA2, gA3, gA4, gA5, gA6]
       (refine tkA 41 (v := ?_) ?_ ?_; rotate_left; focus (intro w hSw; (try dsimp only at hSw); go_simp; try rfl)); try simp only [Act.put, gA1, gA2, gA3, gA4, gA5, gA6]
       (refine tkA 42 (v := ?_) ?_ ?_; rotate_left; focus (intro w hSw; (try dsimp only at hSw); go_simp; try rfl)); try simp only [Act.put, gA1, gA2, gA3, gA4, gA5, gA6]
       refine wpAnyH_done (by kernel_rfl) ?_ _
       go_split_ands
       have hq := hB.out.trans (hs7.mono hB.out.size)
       have HQ := Lib.hid hq
       have HE1 := Lib.hid (HR.out.below hq)
       have v0' := (HKP.out _ hs7).1
       clear HKP hq
       go_wp2_with fail
       refine (rparent_any ep _ HSZ.out).mono ?_
       rintro e wa ⟨rfl, hba⟩
       have HQa := Lib.hid (below_self HQ.out hba)
       have HEa := Lib.hid (HR.out.below HQa.out)
       clear hba v0' HE1
       obtain ⟨Z, hZ⟩ : ∃ Z, wa.alloc (.cells #[.slice (some ⟨g, off, none⟩) n c] 33) = Z := ⟨_, rfl⟩
       obtain ⟨gz, hgz⟩ : ∃ q, wa.heap.size = q := ⟨_, rfl⟩
       have HZB : Hid (Below w.heap.size w Z) := Lib.hid (by rw [← hZ]; exact HQa.out.alloc HQa.out.size _)
       have HCZ : Hid (Z.cell? ⟨gz, 0, none⟩ = some (.slice (some ⟨g, off, none⟩) n c)) := Lib.hid (by rw [← hZ, ← hgz]; simp [new_cell])
       have HFI : Hid (∀ W, Z = W → Calls Tryz.prog 34 #[.pointer (some ⟨gz, 0, none⟩), .string (par ep)] W fun e w' => e = .returned (.int .i64 (fixI l (par ep))) ∧ W = w') := Lib.hid (fun W hW => by subst hW; exact rfind_any gz _ n c l (par ep) Z HCZ.out (HR.out.below HZB.out) HLN.out HN.out)
       clear HQ HQa HEa
       by_cases hroot : par ep = pth []
       ·have z0 : ((par ep).toList == [47]) = true := by rw [eqRoot]; simp [hroot]
        have z1 : ((par ep).toList != [47]) = false := by simp only [bne, z0]; rfl
        have HF2 : Hid (∀ i, i < k + 1 → rghtK l i = true) := Lib.hid (fun i hi => by
         by_cases e : i = k
         ·subst e; rw [HRK.out]; simp [hroot]
         ·exact hF.out i (by omega))
        clear hroot hF HFI HCZ
        go_wp2
        try rw [hZ]
        go_roundw
        case rel => exact ⟨k + 1, by omega, by go_num, HF2, HZB⟩
        case measure => simp [intOf]; omega
       ·have z0 : ((par ep).toList == [47]) = false := by rw [eqRoot]; simp [hroot]
        have z1 : ((par ep).toList != [47]) = true := by simp only [bne, z0]; rfl
        have z2 : ¬ (par ep).toList = [47] := by simpa using z0
        have HROOT := Lib.hid hroot
        clear hroot
        go_wp2_with fail
        try rw [hZ]
        try rw [hgz]
        refine (HFI.out _ rfl).mono ?_
        rintro e wb ⟨rfl, rfl⟩
        by_cases hf : fixI l (par ep) < 0
        ·have HRB : Hid (rghtB l = false) := Lib.hid (rghtB_no HKL.out (by rw [HRK.out]; simp [HROOT.out]; omega))
         go_wp2
         go_ret
         exact ⟨(by rw [HRB.out]; first | done | rfl), HZB.out⟩
        ·have HF2 : Hid (∀ i, i < k + 1 → rghtK l i = true) := Lib.hid (fun i hi => by
          by_cases e : i = k
          ·subst e; rw [HRK.out]; simp; exact .inr (by omega)
          ·exact hF.out i (by omega))
         go_wp2
         go_roundw
         case rel => exact ⟨k + 1, by omega, by go_num, HF2, HZB⟩
         case measure => simp [intOf]; omega
      ·obtain ⟨j, hj⟩ : ∃ j, j + 1 = k := ⟨k - 1, by omega⟩
       obtain ⟨-, g9, off9, ha9, hg9, s0, -, -, hjl⟩ := entCell (HR.out.below hB.out) j (by omega)
       simp only [Option.some.injEq, Addr.mk.injEq, and_true] at ha9
       obtain ⟨rfl, rfl⟩ := ha9
       have hsp := HZ.out j hjl
       have hj1 : k - 1 = j := by omega
       rw [hj1] at hrk
       obtain ⟨⟨pp, pv, pn⟩, hP⟩ : ∃ E, l.getD j EK.d = E := ⟨_, rfl⟩
       rw [hP] at s0 hsp hrk
       simp only at s0 hsp hrk
       have P0 := Lib.hid s0
       have i1 : (0 : Int) < (k : Int) := by omega
       have i2 : decide (0 < k) = true := decide_eq_true (by omega)
       have HI1 := Lib.hid i1
       have HI2 := Lib.hid i2
       have i3 : IntKind.i64.wrap ((k : Int) - 1) = (j : Int) := by rw [IntWalk.i64_in _ (by omega)]; omega
       have i4 : (j : Int) < (n : Int) := by omega
       have i5 : (0 : Int) ≤ (j : Int) := by omega
       have HI3 := Lib.hid i3
       have HI4 := Lib.hid i4
       have HI5 := Lib.hid i5
       clear i1 i2 i3 i4 i5
       obtain ⟨B, hBl⟩ : ∃ B, lsr pp ep = B := ⟨_, rfl⟩
       rw [hBl] at hrk
       have HLS : Hid (∀ W, Calls Tryz.prog 32 #[.string pp, .string ep] W fun e w' => e = .returned (.bool B) ∧ Below W.heap.size W w') := Lib.hid (fun W => by rw [← hBl]; exact rless_any pp ep W hsp HSZ.out)
       clear hBl hP s0 hg9 hjl hsp hj1
       have hkz : (k == 0) = false := by simp [k0]
       clear hj
       cases B with
       | false =>
        have HRB : Hid (rghtB l = false) := Lib.hid (rghtB_no HKL.out (by rw [hrk]; simp [hkz]))
        clear hrk
        clear k0 hkz
        have HKP : Hid (∀ w', Below wr.heap.size wr w' → w'.cell? ⟨g, off + k * 3, none⟩ = some (.string ep) ∧ w'.cell? ⟨g, off + k * 3 + 1, none⟩ = some (.string ev) ∧ w'.cell? ⟨g, off + k * 3 + 2, none⟩ = some (.int .i64 en) ∧ w'.cell? ⟨g, off + j * 3, none⟩ = some (.string pp) ∧ Below wr.heap.size wr w') := Lib.hid (fun w' hb => ⟨(hb.cell (p := ⟨g, off + k * 3, none⟩) HG.out).trans U0.out, (hb.cell (p := ⟨g, off + k * 3 + 1, none⟩) HG.out).trans U1.out, (hb.cell (p := ⟨g, off + k * 3 + 2, none⟩) HG.out).trans U2.out, (hb.cell (p := ⟨g, off + j * 3, none⟩) HG.out).trans P0.out, hb⟩)
        refine wp_region_held_drew (S := (fun w' => w'.cell? ⟨g, off + k * 3, none⟩ = some (.string ep) ∧ w'.cell? ⟨g, off + k * 3 + 1, none⟩ = some (.string ev) ∧ w'.cell? ⟨g, off + k * 3 + 2, none⟩ = some (.int .i64 en) ∧ w'.cell? ⟨g, off + j * 3, none⟩ = some (.string pp) ∧ Below wr.heap.size wr w')) (by kernel_rfl) ?_ (fun hHeld => ?_)
        ·((first
         | exact HKP.out _ hs8
         | exact HKP.out _ hs7
         | exact HKP.out _ (Below.refl _ _).drew
         | exact HKP.out _ (Below.refl _ _)
         | fail))
        (refine tkA 0 (v := ?_) ?_ ?_; rotate_left; focus (intro w hSw; (try dsimp only at hSw); go_simp; try rfl)); try simp only [Act.put, gA1, gA2, gA3, gA4, gA5, gA6]
        (refine tkA 1 (v := ?_) ?_ ?_; rotate_left; focus (intro w hSw; (try dsimp only at hSw); go_simp; try rfl)); try simp only [Act.put, gA1, gA2, gA3, gA4, gA5, gA6]
        (refine tkA 2 (v := ?_) ?_ ?_; rotate_left; focus (intro w hSw; (try dsimp only at hSw); go_simp; try rfl)); try simp only [Act.put, gA1, gA2, gA3, gA4, gA5, gA6]
        (refine tkA 3 (v := ?_) ?_ ?_; rotate_left; focus (intro w hSw; (try dsimp only at hSw); go_simp; try rfl)); try simp only [Act.put, gA1, gA2, gA3, gA4, gA5, gA6]
        (refine tkA 4 (v := ?_) ?_ ?_; rotate_left; focus (intro w hSw; (try dsimp only at hSw); go_simp; try rfl)); try simp only [Act.put, gA1, gA2, gA3, gA4, gA5, gA6]
        refine wpAnyH_ready (rs := [5]) (by kernel_rfl) (by simp) ?_
        refine (AllReadyH.cons rfl (fun K hK => ?_) AllReadyH.nil)
        go_simp
        (go_at_call 31; refine (HDP.out _).mono ?_; rintro e w7 ⟨rfl, hb7⟩; have hs7 : Below wr.heap.size wr w7 := below_self (Below.refl _ _).drew hb7)
        refine hK.out _ _ ?_ (fun hHeld => ?_)
        ·((first
         | exact HKP.out _ hs8
         | exact HKP.out _ hs7
         | exact HKP.out _ (Below.refl _ _).drew
         | exact HKP.out _ (Below.refl _ _)
         | fail))
        clear hK K
        try simp only [Act.put, gA1, gA2, gA3, gA4, gA5, gA6]
        (refine tkA 6 (v := ?_) ?_ ?_; rotate_left; focus (intro w hSw; (try dsimp only at hSw); go_simp; try rfl)); try simp only [Act.put, gA1, gA2, gA3, gA4, gA5, gA6]
        (refine tkA 7 (v := ?_) ?_ ?_; rotate_left; focus (intro w hSw; (try dsimp only at hSw); go_simp; try rfl)); try simp only [Act.put, gA1, gA2, gA3, gA4, gA5, gA6]
        (refine tkA 8 (v := ?_) ?_ ?_; rotate_left; focus (intro w hSw; (try dsimp only at hSw); go_simp; try rfl)); try simp only [Act.put, gA1, gA2, gA3, gA4, gA5, gA6]
        (refine tkA 9 (v := ?_) ?_ ?_; rotate_left; focus (intro w hSw; (try dsimp only at hSw); go_simp; try rfl)); try simp only [Act.put, gA1, gA2, gA3, gA4, gA5, gA6]
        (refine tkA 10 (v := ?_) ?_ ?_; rotate_left; focus (intro w hSw; (try dsimp only at hSw); go_simp; try rfl)); try simp only [Act.put, gA1, gA2, gA3, gA4, gA5, gA6]
        (refine tkA 11 (v := ?_) ?_ ?_; rotate_left; focus (intro w hSw; (try dsimp only at hSw); go_simp; try rfl)); try simp only [Act.put, gA1, gA2, gA3, gA4, gA5, gA6]
        (refine tkA 12 (v := ?_) ?_ ?_; rotate_left; focus (intro w hSw; (try dsimp only at hSw); go_simp; try rfl)); try simp only [Act.put, gA1, gA2, gA3, gA4, gA5, gA6]
        refine wpAnyH_ready (rs := [13]) (by kernel_rfl) (by simp) ?_
        refine (AllReadyH.cons rfl (fun K hK => ?_) AllReadyH.nil)
        go_simp
        refine hK.out _ _ ?_ (fun hHeld => ?_)
        ·((first
         | exact HKP.out _ hs8
         | exact HKP.out _ hs7
         | exact HKP.out _ (Below.refl _ _).drew
         | exact HKP.out _ (Below.refl _ _)
         | fail))
        clear hK K
        try simp only [Act.put, gA1, gA2, gA3, gA4, gA5, gA6]
        (refine tkA 14 (v := ?_) ?_ ?_; rotate_left; focus (intro w hSw; (try dsimp only at hSw); go_simp; try rfl)); try simp only [Act.put, gA1, gA2, gA3, gA4, gA5, gA6]
        (refine tkA 15 (v := ?_) ?_ ?_; rotate_left; focus (intro w hSw; (try dsimp only at hSw); go_simp; try rfl)); try simp only [Act.put, gA1, gA2, gA3, gA4, gA5, gA6]
        (refine tkA 16 (v := ?_) ?_ ?_; rotate_left; focus (intro w hSw; (try dsimp only at hSw); go_simp; try rfl)); try simp only [Act.put, gA1, gA2, gA3, gA4, gA5, gA6]
        (refine tkA 17 (v := ?_) ?_ ?_; rotate_left; focus (intro w hSw; (try dsimp only at hSw); go_simp; try rfl)); try simp only [Act.put, gA1, gA2, gA3, gA4, gA5, gA6]
        (refine tkA 18 (v := ?_) ?_ ?_; rotate_left; focus (intro w hSw; (try dsimp only at hSw); go_simp; try rfl)); try simp only [Act.put, gA1, gA2, gA3, gA4, gA5, gA6]
        (refine tkA 19 (v := ?_) ?_ ?_; rotate_left; focus (intro w hSw; (try dsimp only at hSw); go_simp; try rfl)); try simp only [Act.put, gA1, gA2, gA3, gA4, gA5, gA6]
        (refine tkA 20 (v := ?_) ?_ ?_; rotate_left; focus (intro w hSw; (try dsimp only at hSw); go_simp; try rfl)); try simp only [Act.put, gA1, gA2, gA3, gA4, gA5, gA6]
        (refine tkA 21 (v := ?_) ?_ ?_; rotate_left; focus (intro w hSw; (try dsimp only at hSw); go_simp; try rfl)); try simp only [Act.put, gA1, gA2, gA3, gA4, gA5, gA6]
        (refine tkA 22 (v := ?_) ?_ ?_; rotate_left; focus (intro w hSw; (try dsimp only at hSw); go_simp; try rfl)); try simp only [Act.put, gA1, gA2, gA3, gA4, gA5, gA6]
        (refine tkA 23 (v := ?_) ?_ ?_; rotate_left; focus (intro w hSw; (try dsimp only at hSw); go_simp; try rfl)); try simp only [Act.put, gA1, gA2, gA3, gA4, gA5, gA6]
        (refine tkA 24 (v := ?_) ?_ ?_; rotate_left; focus (intro w hSw; (try dsimp only at hSw); go_simp; try rfl)); try simp only [Act.put, gA1, gA2, gA3, gA4, gA5, gA6]
        refine tkA 25 (v := ?_) ?_ ?_
        rotate_left
        ·(have i1 := HI1.out; have i2 := HI2.out; intro w hSw; (try dsimp only at hSw); go_simp; try rfl)
        try simp only [Act.put, gA1, gA2, gA3, gA4, gA5, gA6]
        refine tkA 26 (v := ?_) ?_ ?_
        rotate_left
        ·(have i1 := HI1.out; have i2 := HI2.out; intro w hSw; (try dsimp only at hSw); go_simp; try rfl)
        try simp only [Act.put, gA1, gA2, gA3, gA4, gA5, gA6]
        refine tkA 27 (v := ?_) ?_ ?_
        rotate_left
        ·(have i1 := HI1.out; have i2 := HI2.out; intro w hSw; (try dsimp only at hSw); go_simp; try rfl)
        try simp only [Act.put, gA1, gA2, gA3, gA4, gA5, gA6]
        refine tkA 28 (v := ?_) ?_ ?_
        rotate_left
        ·(have i3 := HI3.out; have i4 := HI4.out; have i5 := HI5.out; intro w hSw; (try dsimp only at hSw); go_simp; try rfl)
        try simp only [Act.put, gA1, gA2, gA3, gA4, gA5, gA6]
        refine tkA 29 (v := ?_) ?_ ?_
        rotate_left
        ·(have i3 := HI3.out; have i4 := HI4.out; have i5 := HI5.out; intro w hSw; (try dsimp only at hSw); go_simp; try rfl)
        try simp only [Act.put, gA1, gA2, gA3, gA4, gA5, gA6]
        refine tkA 30 (v := ?_) ?_ ?_
        rotate_left
        ·(have i3 := HI3.out; have i4 := HI4.out; have i5 := HI5.out; intro w hSw; (try dsimp only at hSw); go_simp; try rfl)
        try simp only [Act.put, gA1, gA2, gA3, gA4, gA5, gA6]
        refine tkA 31 (v := ?_) ?_ ?_
        rotate_left
        ·(have i3 := HI3.out; have i4 := HI4.out; have i5 := HI5.out; intro w hSw; (try dsimp only at hSw); go_simp; try rfl)
        try simp only [Act.put, gA1, gA2, gA3, gA4, gA5, gA6]
        (refine tkA 32 (v := ?_) ?_ ?_; rotate_left; focus (intro w hSw; (try dsimp only at hSw); go_simp; try rfl)); try simp only [Act.put, gA1, gA2, gA3, gA4, gA5, gA6]
        (refine tkA 33 (v := ?_) ?_ ?_; rotate_left; focus (intro w hSw; (try dsimp only at hSw); go_simp; try rfl)); try simp only [Act.put, gA1, gA2, gA3, gA4, gA5, gA6]
        (refine tkA 34 (v := ?_) ?_ ?_; rotate_left; focus (intro w hSw; (try dsimp only at hSw); go_simp; try rfl)); try simp only [Act.put, gA1, gA2, gA3, gA4, gA5, gA6]
        (refine tkA 35 (v := ?_) ?_ ?_; rotate_left; focus (intro w hSw; (try dsimp only at hSw); go_simp; try rfl)); try simp only [Act.put, gA1, gA2, gA3, gA4, gA5, gA6]
        (refine tkA 36 (v := ?_) ?_ ?_; rotate_left; focus (intro w hSw; (try dsimp only at hSw); go_simp; try rfl)); try simp only [Act.put, gA1, gA2, gA3, gA4, gA5, gA6]
        (refine tkA 37 (v := ?_) ?_ ?_; rotate_left; focus (intro w hSw; (try dsimp only at hSw); go_simp; try rfl)); try simp only [Act.put, gA1, gA2, gA3, gA4, gA5, gA6]
        (refine tkA 38 (v := ?_) ?_ ?_; rotate_left; focus (intro w hSw; (try dsimp only at hSw); go_simp; try rfl)); try simp only [Act.put, gA1, gA2, gA3, gA4, gA5, gA6]
        refine wpAnyH_ready (rs := [39]) (by kernel_rfl) (by simp) ?_
        refine (AllReadyH.cons rfl (fun K hK => ?_) AllReadyH.nil)
        go_simp
        (go_at_call 32; refine (HLS.out _).mono ?_; rintro e w8 ⟨rfl, hb8⟩; have hs8 : Below wr.heap.size wr w8 := below_self hs7 hb8)
        refine hK.out _ _ ?_ (fun hHeld => ?_)
        ·((first
         | exact HKP.out _ hs8
         | exact HKP.out _ hs7
         | exact HKP.out _ (Below.refl _ _).drew
         | exact HKP.out _ (Below.refl _ _)
         | fail))
        clear hK K
        try simp only [Act.put, gA1, gA2, gA3, gA4, gA5, gA6]
        (refine tkA 40 (v := ?_) ?_ ?_; rotate_left; focus (intro w hSw; (try dsimp only at hSw); go_simp; try rfl)); try simp only [Act.put, gA1, gA2, gA3, gA4, gA5, gA6]
        (refine tkA 41 (v := ?_) ?_ ?_; rotate_left; focus (intro w hSw; (try dsimp only at hSw); go_simp; try rfl)); try simp only [Act.put, gA1, gA2, gA3, gA4, gA5, gA6]
        (refine tkA 42 (v := ?_) ?_ ?_; rotate_left; focus (intro w hSw; (try dsimp only at hSw); go_simp; try rfl)); try simp only [Act.put, gA1, gA2, gA3, gA4, gA5, gA6]
        refine wpAnyH_done (by kernel_rfl) ?_ _
        go_split_ands
        have hq := hB.out.trans (hs8.mono hB.out.size)
        have HQ := Lib.hid hq
        clear HKP hq
        go_wp2
        go_ret
        exact ⟨(by rw [HRB.out]; first | done | rfl), HQ.out⟩
       | true =>
        have HRK : Hid (rghtK l k = (decide (par ep = pth []) || decide (0 ≤ fixI l (par ep)))) := Lib.hid (by rw [hrk]; simp [a1, b1, c1])
        clear hrk k0 hkz
        have HKP : Hid (∀ w', Below wr.heap.size wr w' → w'.cell? ⟨g, off + k * 3, none⟩ = some (.string ep) ∧ w'.cell? ⟨g, off + k * 3 + 1, none⟩ = some (.string ev) ∧ w'.cell? ⟨g, off + k * 3 + 2, none⟩ = some (.int .i64 en) ∧ w'.cell? ⟨g, off + j * 3, none⟩ = some (.string pp) ∧ Below wr.heap.size wr w') := Lib.hid (fun w' hb => ⟨(hb.cell (p := ⟨g, off + k * 3, none⟩) HG.out).trans U0.out, (hb.cell (p := ⟨g, off + k * 3 + 1, none⟩) HG.out).trans U1.out, (hb.cell (p := ⟨g, off + k * 3 + 2, none⟩) HG.out).trans U2.out, (hb.cell (p := ⟨g, off + j * 3, none⟩) HG.out).trans P0.out, hb⟩)
        refine wp_region_held_drew (S := (fun w' => w'.cell? ⟨g, off + k * 3, none⟩ = some (.string ep) ∧ w'.cell? ⟨g, off + k * 3 + 1, none⟩ = some (.string ev) ∧ w'.cell? ⟨g, off + k * 3 + 2, none⟩ = some (.int .i64 en) ∧ w'.cell? ⟨g, off + j * 3, none⟩ = some (.string pp) ∧ Below wr.heap.size wr w')) (by kernel_rfl) ?_ (fun hHeld => ?_)
        ·((first
         | exact HKP.out _ hs8
         | exact HKP.out _ hs7
         | exact HKP.out _ (Below.refl _ _).drew
         | exact HKP.out _ (Below.refl _ _)
         | fail))
        (refine tkA 0 (v := ?_) ?_ ?_; rotate_left; focus (intro w hSw; (try dsimp only at hSw); go_simp; try rfl)); try simp only [Act.put, gA1, gA2, gA3, gA4, gA5, gA6]
        (refine tkA 1 (v := ?_) ?_ ?_; rotate_left; focus (intro w hSw; (try dsimp only at hSw); go_simp; try rfl)); try simp only [Act.put, gA1, gA2, gA3, gA4, gA5, gA6]
        (refine tkA 2 (v := ?_) ?_ ?_; rotate_left; focus (intro w hSw; (try dsimp only at hSw); go_simp; try rfl)); try simp only [Act.put, gA1, gA2, gA3, gA4, gA5, gA6]
        (refine tkA 3 (v := ?_) ?_ ?_; rotate_left; focus (intro w hSw; (try dsimp only at hSw); go_simp; try rfl)); try simp only [Act.put, gA1, gA2, gA3, gA4, gA5, gA6]
        (refine tkA 4 (v := ?_) ?_ ?_; rotate_left; focus (intro w hSw; (try dsimp only at hSw); go_simp; try rfl)); try simp only [Act.put, gA1, gA2, gA3, gA4, gA5, gA6]
        refine wpAnyH_ready (rs := [5]) (by kernel_rfl) (by simp) ?_
        refine (AllReadyH.cons rfl (fun K hK => ?_) AllReadyH.nil)
        go_simp
        (go_at_call 31; refine (HDP.out _).mono ?_; rintro e w7 ⟨rfl, hb7⟩; have hs7 : Below wr.heap.size wr w7 := below_self (Below.refl _ _).drew hb7)
        refine hK.out _ _ ?_ (fun hHeld => ?_)
        ·((first
         | exact HKP.out _ hs8
         | exact HKP.out _ hs7
         | exact HKP.out _ (Below.refl _ _).drew
         | exact HKP.out _ (Below.refl _ _)
         | fail))
        clear hK K
        try simp only [Act.put, gA1, gA2, gA3, gA4, gA5, gA6]
        (refine tkA 6 (v := ?_) ?_ ?_; rotate_left; focus (intro w hSw; (try dsimp only at hSw); go_simp; try rfl)); try simp only [Act.put, gA1, gA2, gA3, gA4, gA5, gA6]
        (refine tkA 7 (v := ?_) ?_ ?_; rotate_left; focus (intro w hSw; (try dsimp only at hSw); go_simp; try rfl)); try simp only [Act.put, gA1, gA2, gA3, gA4, gA5, gA6]
        (refine tkA 8 (v := ?_) ?_ ?_; rotate_left; focus (intro w hSw; (try dsimp only at hSw); go_simp; try rfl)); try simp only [Act.put, gA1, gA2, gA3, gA4, gA5, gA6]
        (refine tkA 9 (v := ?_) ?_ ?_; rotate_left; focus (intro w hSw; (try dsimp only at hSw); go_simp; try rfl)); try simp only [Act.put, gA1, gA2, gA3, gA4, gA5, gA6]
        (refine tkA 10 (v := ?_) ?_ ?_; rotate_left; focus (intro w hSw; (try dsimp only at hSw); go_simp; try rfl)); try simp only [Act.put, gA1, gA2, gA3, gA4, gA5, gA6]
        (refine tkA 11 (v := ?_) ?_ ?_; rotate_left; focus (intro w hSw; (try dsimp only at hSw); go_simp; try rfl)); try simp only [Act.put, gA1, gA2, gA3, gA4, gA5, gA6]
        (refine tkA 12 (v := ?_) ?_ ?_; rotate_left; focus (intro w hSw; (try dsimp only at hSw); go_simp; try rfl)); try simp only [Act.put, gA1, gA2, gA3, gA4, gA5, gA6]
        refine wpAnyH_ready (rs := [13]) (by kernel_rfl) (by simp) ?_
        refine (AllReadyH.cons rfl (fun K hK => ?_) AllReadyH.nil)
        go_simp
        refine hK.out _ _ ?_ (fun hHeld => ?_)
        ·((first
         | exact HKP.out _ hs8
         | exact HKP.out _ hs7
         | exact HKP.out _ (Below.refl _ _).drew
         | exact HKP.out _ (Below.refl _ _)
         | fail))
        clear hK K
        try simp only [Act.put, gA1, gA2, gA3, gA4, gA5, gA6]
        (refine tkA 14 (v := ?_) ?_ ?_; rotate_left; focus (intro w hSw; (try dsimp only at hSw); go_simp; try rfl)); try simp only [Act.put, gA1, gA2, gA3, gA4, gA5, gA6]
        (refine tkA 15 (v := ?_) ?_ ?_; rotate_left; focus (intro w hSw; (try dsimp only at hSw); go_simp; try rfl)); try simp only [Act.put, gA1, gA2, gA3, gA4, gA5, gA6]
        (refine tkA 16 (v := ?_) ?_ ?_; rotate_left; focus (intro w hSw; (try dsimp only at hSw); go_simp; try rfl)); try simp only [Act.put, gA1, gA2, gA3, gA4, gA5, gA6]
        (refine tkA 17 (v := ?_) ?_ ?_; rotate_left; focus (intro w hSw; (try dsimp only at hSw); go_simp; try rfl)); try simp only [Act.put, gA1, gA2, gA3, gA4, gA5, gA6]
        (refine tkA 18 (v := ?_) ?_ ?_; rotate_left; focus (intro w hSw; (try dsimp only at hSw); go_simp; try rfl)); try simp only [Act.put, gA1, gA2, gA3, gA4, gA5, gA6]
        (refine tkA 19 (v := ?_) ?_ ?_; rotate_left; focus (intro w hSw; (try dsimp only at hSw); go_simp; try rfl)); try simp only [Act.put, gA1, gA2, gA3, gA4, gA5, gA6]
        (refine tkA 20 (v := ?_) ?_ ?_; rotate_left; focus (intro w hSw; (try dsimp only at hSw); go_simp; try rfl)); try simp only [Act.put, gA1, gA2, gA3, gA4, gA5, gA6]
        (refine tkA 21 (v := ?_) ?_ ?_; rotate_left; focus (intro w hSw; (try dsimp only at hSw); go_simp; try rfl)); try simp only [Act.put, gA1, gA2, gA3, gA4, gA5, gA6]
        (refine tkA 22 (v := ?_) ?_ ?_; rotate_left; focus (intro w hSw; (try dsimp only at hSw); go_simp; try rfl)); try simp only [Act.put, gA1, gA2, gA3, gA4, gA5, gA6]
        (refine tkA 23 (v := ?_) ?_ ?_; rotate_left; focus (intro w hSw; (try dsimp only at hSw); go_simp; try rfl)); try simp only [Act.put, gA1, gA2, gA3, gA4, gA5, gA6]
        (refine tkA 24 (v := ?_) ?_ ?_; rotate_left; focus (intro w hSw; (try dsimp only at hSw); go_simp; try rfl)); try simp only [Act.put, gA1, gA2, gA3, gA4, gA5, gA6]
        refine tkA 25 (v := ?_) ?_ ?_
        rotate_left
        ·(have i1 := HI1.out; have i2 := HI2.out; intro w hSw; (try dsimp only at hSw); go_simp; try rfl)
        try simp only [Act.put, gA1, gA2, gA3, gA4, gA5, gA6]
        refine tkA 26 (v := ?_) ?_ ?_
        rotate_left
        ·(have i1 := HI1.out; have i2 := HI2.out; intro w hSw; (try dsimp only at hSw); go_simp; try rfl)
        try simp only [Act.put, gA1, gA2, gA3, gA4, gA5, gA6]
        refine tkA 27 (v := ?_) ?_ ?_
        rotate_left
        ·(have i1 := HI1.out; have i2 := HI2.out; intro w hSw; (try dsimp only at hSw); go_simp; try rfl)
        try simp only [Act.put, gA1, gA2, gA3, gA4, gA5, gA6]
        refine tkA 28 (v := ?_) ?_ ?_
        rotate_left
        ·(have i3 := HI3.out; have i4 := HI4.out; have i5 := HI5.out; intro w hSw; (try dsimp only at hSw); go_simp; try rfl)
        try simp only [Act.put, gA1, gA2, gA3, gA4, gA5, gA6]
        refine tkA 29 (v := ?_) ?_ ?_
        rotate_left
        ·(have i3 := HI3.out; have i4 := HI4.out; have i5 := HI5.out; intro w hSw; (try dsimp only at hSw); go_simp; try rfl)
        try simp only [Act.put, gA1, gA2, gA3, gA4, gA5, gA6]
        refine tkA 30 (v := ?_) ?_ ?_
        rotate_left
        ·(have i3 := HI3.out; have i4 := HI4.out; have i5 := HI5.out; intro w hSw; (try dsimp only at hSw); go_simp; try rfl)
        try simp only [Act.put, gA1, gA2, gA3, gA4, gA5, gA6]
        refine tkA 31 (v := ?_) ?_ ?_
        rotate_left
        ·(have i3 := HI3.out; have i4 := HI4.out; have i5 := HI5.out; intro w hSw; (try dsimp only at hSw); go_simp; try rfl)
        try simp only [Act.put, gA1, gA2, gA3, gA4, gA5, gA6]
        (refine tkA 32 (v := ?_) ?_ ?_; rotate_left; focus (intro w hSw; (try dsimp only at hSw); go_simp; try rfl)); try simp only [Act.put, gA1, gA2, gA3, gA4, gA5, gA6]
        (refine tkA 33 (v := ?_) ?_ ?_; rotate_left; focus (intro w hSw; (try dsimp only at hSw); go_simp; try rfl)); try simp only [Act.put, gA1, gA2, gA3, gA4, gA5, gA6]
        (refine tkA 34 (v := ?_) ?_ ?_; rotate_left; focus (intro w hSw; (try dsimp only at hSw); go_simp; try rfl)); try simp only [Act.put, gA1, gA2, gA3, gA4, gA5, gA6]
        (refine tkA 35 (v := ?_) ?_ ?_; rotate_left; focus (intro w hSw; (try dsimp only at hSw); go_simp; try rfl)); try simp only [Act.put, gA1, gA2, gA3, gA4, gA5, gA6]
        (refine tkA 36 (v := ?_) ?_ ?_; rotate_left; focus (intro w hSw; (try dsimp only at hSw); go_simp; try rfl)); try simp only [Act.put, gA1, gA2, gA3, gA4, gA5, gA6]
        (refine tkA 37 (v := ?_) ?_ ?_; rotate_left; focus (intro w hSw; (try dsimp only at hSw); go_simp; try rfl)); try simp only [Act.put, gA1, gA2, gA3, gA4, gA5, gA6]
        (refine tkA 38 (v := ?_) ?_ ?_; rotate_left; focus (intro w hSw; (try dsimp only at hSw); go_simp; try rfl)); try simp only [Act.put, gA1, gA2, gA3, gA4, gA5, gA6]
        refine wpAnyH_ready (rs := [39]) (by kernel_rfl) (by simp) ?_
        refine (AllReadyH.cons rfl (fun K hK => ?_) AllReadyH.nil)
        go_simp
        (go_at_call 32; refine (HLS.out _).mono ?_; rintro e w8 ⟨rfl, hb8⟩; have hs8 : Below wr.heap.size wr w8 := below_self hs7 hb8)
        refine hK.out _ _ ?_ (fun hHeld => ?_)
        ·((first
         | exact HKP.out _ hs8
         | exact HKP.out _ hs7
         | exact HKP.out _ (Below.refl _ _).drew
         | exact HKP.out _ (Below.refl _ _)
         | fail))
        clear hK K
        try simp only [Act.put, gA1, gA2, gA3, gA4, gA5, gA6]
        (refine tkA 40 (v := ?_) ?_ ?_; rotate_left; focus (intro w hSw; (try dsimp only at hSw); go_simp; try rfl)); try simp only [Act.put, gA1, gA2, gA3, gA4, gA5, gA6]
        (refine tkA 41 (v := ?_) ?_ ?_; rotate_left; focus (intro w hSw; (try dsimp only at hSw); go_simp; try rfl)); try simp only [Act.put, gA1, gA2, gA3, gA4, gA5, gA6]
        (refine tkA 42 (v := ?_) ?_ ?_; rotate_left; focus (intro w hSw; (try dsimp only at hSw); go_simp; try rfl)); try simp only [Act.put, gA1, gA2, gA3, gA4, gA5, gA6]
        refine wpAnyH_done (by kernel_rfl) ?_ _
        go_split_ands
        have hq := hB.out.trans (hs8.mono hB.out.size)
        have HQ := Lib.hid hq
        have HE1 := Lib.hid (HR.out.below hq)
        have v0' := (HKP.out _ hs8).1
        clear HKP hq
        go_wp2_with fail
        refine (rparent_any ep _ HSZ.out).mono ?_
        rintro e wa ⟨rfl, hba⟩
        have HQa := Lib.hid (below_self HQ.out hba)
        have HEa := Lib.hid (HR.out.below HQa.out)
        clear hba v0' HE1
        obtain ⟨Z, hZ⟩ : ∃ Z, wa.alloc (.cells #[.slice (some ⟨g, off, none⟩) n c] 33) = Z := ⟨_, rfl⟩
        obtain ⟨gz, hgz⟩ : ∃ q, wa.heap.size = q := ⟨_, rfl⟩
        have HZB : Hid (Below w.heap.size w Z) := Lib.hid (by rw [← hZ]; exact HQa.out.alloc HQa.out.size _)
        have HCZ : Hid (Z.cell? ⟨gz, 0, none⟩ = some (.slice (some ⟨g, off, none⟩) n c)) := Lib.hid (by rw [← hZ, ← hgz]; simp [new_cell])
        have HFI : Hid (∀ W, Z = W → Calls Tryz.prog 34 #[.pointer (some ⟨gz, 0, none⟩), .string (par ep)] W fun e w' => e = .returned (.int .i64 (fixI l (par ep))) ∧ W = w') := Lib.hid (fun W hW => by subst hW; exact rfind_any gz _ n c l (par ep) Z HCZ.out (HR.out.below HZB.out) HLN.out HN.out)
        clear HQ HQa HEa
        by_cases hroot : par ep = pth []
        ·have z0 : ((par ep).toList == [47]) = true := by rw [eqRoot]; simp [hroot]
         have z1 : ((par ep).toList != [47]) = false := by simp only [bne, z0]; rfl
         have HF2 : Hid (∀ i, i < k + 1 → rghtK l i = true) := Lib.hid (fun i hi => by
          by_cases e : i = k
          ·subst e; rw [HRK.out]; simp [hroot]
          ·exact hF.out i (by omega))
         clear hroot hF HFI HCZ
         go_wp2
         try rw [hZ]
         go_roundw
         case rel => exact ⟨k + 1, by omega, by go_num, HF2, HZB⟩
         case measure => simp [intOf]; omega
        ·have z0 : ((par ep).toList == [47]) = false := by rw [eqRoot]; simp [hroot]
         have z1 : ((par ep).toList != [47]) = true := by simp only [bne, z0]; rfl
         have z2 : ¬ (par ep).toList = [47] := by simpa using z0
         have HROOT := Lib.hid hroot
         clear hroot
         go_wp2_with fail
         try rw [hZ]
         try rw [hgz]
         refine (HFI.out _ rfl).mono ?_
         rintro e wb ⟨rfl, rfl⟩
         by_cases hf : fixI l (par ep) < 0
         ·have HRB : Hid (rghtB l = false) := Lib.hid (rghtB_no HKL.out (by rw [HRK.out]; simp [HROOT.out]; omega))
          go_wp2
          go_ret
          exact ⟨(by rw [HRB.out]; first | done | rfl), HZB.out⟩
         ·have HF2 : Hid (∀ i, i < k + 1 → rghtK l i = true) := Lib.hid (fun i hi => by
           by_cases e : i = k
           ·subst e; rw [HRK.out]; simp; exact .inr (by omega)
           ·exact hF.out i (by omega))
          go_wp2
          go_roundw
          case rel => exact ⟨k + 1, by omega, by go_num, HF2, HZB⟩
          case measure => simp [intOf]; omega
  ·obtain rfl : n = k := by omega
   have hlt' : ¬ (n : Int) < (n : Int) := by omega
   have HV : Hid (rghtB l = true) := Lib.hid (by
    unfold rghtB
    rw [List.all_eq_true]
    intro i hi
    exact hF.out i (by have := HLN.out; have := List.mem_range.1 hi; omega))
   clear hlt hF
   go_wp2
   go_ret
   exact ⟨(by rw [HV.out]; first | done | rfl), hB.out⟩
end Go.Proofs.YtodcmhmankmaoaaGreat
