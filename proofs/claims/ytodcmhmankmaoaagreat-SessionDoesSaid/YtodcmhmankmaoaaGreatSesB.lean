/-
 A machine's Apply whole; its Paths; its Clone.
-/
import Derived.Test.YtodcmhmankmaoaaGreatSht
import Derived.Test.YtodcmhmankmaoaaGreatSes7
import Derived.Test.YtodcmhmankmaoaaGreatSes8
import Derived.Test.YtodcmhmankmaoaaGreatSes9
import Derived.Test.YtodcmhmankmaoaaGreatSesA
namespace Go.Proofs.YtodcmhmankmaoaaGreat
open Go.RowKit Go.Sort Go.MapKept Go.Shelf
open Go.WideMaps
set_option linter.unusedSimpArgs false
set_option linter.unusedVariables false

shelf_lay_g SlLaysW.n5 Slmc 5 at Tryz 71 as Tryz.cloneS
/-- Lists that are not too long. -/
def SmM (m : Mac) : Prop := ∀ e ∈ m.s, e.2.2.names.length ≤ 100000
theorem SmM.empty : SmM ⟨[], []⟩ := fun e he => by cases he
theorem SmM.app {m : Mac} (h : SmM m) (hl : m.l.length ≤ 90000) (t : Cm) (c : Rep) (hc : c.names.length ≤ 100000) : SmM (appM m t c).2 := by
 have key : ∀ l q r, r.names.length ≤ 100000 → SmM ⟨l, putS m.s t.cl q r⟩ := fun l q r hr e he => by
  rcases mem_putS.1 he with rfl | ⟨h1, _⟩
  ·exact hr
  ·exact h e h1
 rcases app_rep m t c with ⟨r, _, e⟩ | ⟨_, e⟩
 ·rw [e]; exact h
 ·rw [e]
  unfold doM
  split
  ·exact key _ _ _ hc
  ·exact key _ _ _ (by have := repN_small (l := m.l) t.op t.pa t.va t.ver; omega)
theorem mapply_any {X w : World} {g d bk sb K : Nat} {m : Mac} (h : MacAt X g d bk sb K m w) (hs : SmM m) (t : Cm) (r : Rep) (vc : Value) (hrc : SK.Rd w vc r.names) (hcl : r.names.length ≤ 100000) (her : NE6 r.err) (hK : K ≤ 90000) (hp : t.pa.size ≤ 1000) :
  Calls Tryz.prog 20 #[dP g, cmV t, repV r vc] w (MApP (appM m t r) X g d bk sb K w) := by
 have hv : ∃ a n c, vc = .slice a n c := by obtain ⟨a, c, e⟩ := hrc.slice; exact ⟨a, _, c, e⟩
 by_cases ho : t.op = 0
 ·have e : appM m t r = (bad 0, m) := by unfold appM actM; rw [if_pos ho]
  rw [e]
  exact mapply_none h t r vc ho hv
 cases hval : valS t.cl t.sq with
 | false =>
  have e : appM m t r = (bad 1, m) := by unfold appM actM; rw [if_neg ho, if_pos hval]
  rw [e]
  exact mapply_bad h t r vc ho hval hv
 | true =>
  cases hf : fndS m.s t.cl with
  | none =>
   have e : appM m t r = doM m t r := by unfold appM actM; rw [if_neg ho, if_neg (by simp [hval]), hf]
   rw [e]
   cases hc : Tc.ctl t.op with
   | true => exact mapply_none_c h t r vc ho hval hv hrc hcl her hK hp hc hf
   | false => exact mapply_none_d h t r vc ho hval hv hrc hcl her hK hp hc hf
  | some y =>
   obtain ⟨q5, r5⟩ := y
   by_cases h1 : t.sq < q5
   ·have e : appM m t r = (bad 6, m) := by unfold appM actM; rw [if_neg ho, if_neg (by simp [hval]), hf]; simp [h1]
    rw [e]
    exact mapply_old h t r vc ho hval hv hf h1
   by_cases h2 : q5 = t.sq
   ·have e : appM m t r = (r5, m) := by unfold appM actM; rw [if_neg ho, if_neg (by simp [hval]), hf]; simp [h1, h2]
    rw [e]
    exact mapply_same h t r vc ho hval hv hf h2 hs
   ·have e : appM m t r = doM m t r := by unfold appM actM; rw [if_neg ho, if_neg (by simp [hval]), hf]; simp [h1, h2]
    rw [e]
    cases hc : Tc.ctl t.op with
    | true => exact mapply_somec h t r vc ho hval hv hrc hcl her hK hp hc hf (by omega)
    | false => exact mapply_somed h t r vc ho hval hv hrc hcl her hK hp hc hf (by omega)
theorem paths_any {X w : World} {g d bk sb K : Nat} {m : Mac} (h : MacAt X g d bk sb K m w) (hK : K ≤ 900000) : Calls Tryz.prog 24 #[dP g] w (EntP m.l w) := by
 have HE := Lib.hid (entries_any d bk K m.l w h.lw.dir hK h.lw.ml)
 have c0 := h.c0
 clear h
 go_enter Tryz.func24, Tryz.ntmps24
 go_wp2_with fail
 refine HE.out.mono ?_
 rintro e w1 ⟨v, he, ho, hb⟩
 have he := he.out
 subst he
 have HO := Lib.hid ho
 have HB := Lib.hid hb
 clear ho hb c0
 go_wp2
 go_ret
 exact ⟨_, rfl, HO.out, HB.out⟩
def MClP (m : Mac) (X : World) (K : Nat) (w : World) (e : Ending) (w' : World) : Prop := ∃ g2 d2 b2 s2, Hid (e = .returned (dP g2)) ∧ MacAt X g2 d2 b2 s2 K m w' ∧ (w.heap.size ≤ g2 ∧ w.heap.size ≤ d2 ∧ w.heap.size ≤ b2 ∧ w.heap.size ≤ s2) ∧ Below w.heap.size w w'
set_option maxRecDepth 100000 in
set_option maxHeartbeats 2000000 in
theorem mclone_any {X w : World} {g d bk sb K : Nat} {m : Mac} (h : MacAt X g d bk sb K m w) : Calls Tryz.prog 45 #[dP g] w (MClP m X K w) := by
 obtain ⟨D, n, hn, hM, hI⟩ := h.map
 have H := Lib.hid h
 have HM := Lib.hid hM
 have HI := Lib.hid hI
 have HN := Lib.hid hn
 have HDC : Hid (∀ W, Below w.heap.size w W → Calls Tryz.prog 28 #[dP d] W (ClP K m.l W)) := Lib.hid (fun W hW => clone_any d bk K m.l W (h.lw.dir.below hW))
 have HMC : Hid (∀ W, Below w.heap.size w W → Calls Tryz.prog 71 #[.map (some sb)] W fun e w' => e = .returned (.map (some W.heap.size)) ∧ w'.ownsMap (H := Unit) Tryz.prog 3 sesElem W.heap.size n D ∧ w'.ownsMap (H := Unit) Tryz.prog 3 sesElem sb n D ∧ Below W.heap.size W w') := Lib.hid (fun W hW => AnyW.maps_Clone_owns Tryz.cloneS 3 sesElem sb n D W (hM.kept (row := none) ⟨hW.os, hW.tape, hW.output, hW.size, fun k hk _ => hW.block k hk⟩ (by simp)))
 have HKP : Hid (∀ w', Below w.heap.size w w' → w'.cell? ⟨g, 0, none⟩ = some (dP d) ∧ w'.cell? ⟨g, 1, none⟩ = some (.map (some sb)) ∧ Below w.heap.size w w') := Lib.hid (fun w' hb => ⟨(h.on hb).c0, (h.on hb).c1, hb⟩)
 clear h hM hI hn
 go_enter Tryz.func45, Tryz.ntmps45
 go_wp2_with fail
 refine wp_region_held_drew (S := (fun w' => w'.cell? ⟨g, 0, none⟩ = some (dP d) ∧ w'.cell? ⟨g, 1, none⟩ = some (.map (some sb)) ∧ Below w.heap.size w w')) (by kernel_rfl) ?_ (fun hHeld => ?_)
 ·((first
  | exact HKP.out _ (Below.refl _ _)
  | exact HKP.out _ (Below.refl _ _).drew
  | exact HKP.out _ hw2
  | exact HKP.out _ (hw2.alloc hw2.size _)
  | exact HKP.out _ hw1
  | (go_split_ands; exact HKP.out _ (by assumption))
  | fail))
 (refine tkA 0 (v := ?_) ?_ ?_; rotate_left; focus (intro w hSw; (try dsimp only at hSw); go_simp; try rfl)); try simp only [Act.put, gA1, gA2, gA3, gA4, gA5, gA6]
 (refine tkA 1 (v := ?_) ?_ ?_; rotate_left; focus (intro w hSw; (try dsimp only at hSw); go_simp; try rfl)); try simp only [Act.put, gA1, gA2, gA3, gA4, gA5, gA6]
 (refine tkA 2 (v := ?_) ?_ ?_; rotate_left; focus (intro w hSw; (try dsimp only at hSw); go_simp; try rfl)); try simp only [Act.put, gA1, gA2, gA3, gA4, gA5, gA6]
 (refine tkA 3 (v := ?_) ?_ ?_; rotate_left; focus (intro w hSw; (try dsimp only at hSw); go_simp; try rfl)); try simp only [Act.put, gA1, gA2, gA3, gA4, gA5, gA6]
 (refine tkA 5 (v := ?_) ?_ ?_; rotate_left; focus (intro w hSw; (try dsimp only at hSw); go_simp; try rfl)); try simp only [Act.put, gA1, gA2, gA3, gA4, gA5, gA6]
 (refine tkA 6 (v := ?_) ?_ ?_; rotate_left; focus (intro w hSw; (try dsimp only at hSw); go_simp; try rfl)); try simp only [Act.put, gA1, gA2, gA3, gA4, gA5, gA6]
 (refine tkA 7 (v := ?_) ?_ ?_; rotate_left; focus (intro w hSw; (try dsimp only at hSw); go_simp; try rfl)); try simp only [Act.put, gA1, gA2, gA3, gA4, gA5, gA6]
 (refine tkA 8 (v := ?_) ?_ ?_; rotate_left; focus (intro w hSw; (try dsimp only at hSw); go_simp; try rfl)); try simp only [Act.put, gA1, gA2, gA3, gA4, gA5, gA6]
 refine wpAnyH_ready (rs := [4]) (by kernel_rfl) (by simp) ?_
 refine (AllReadyH.cons rfl (fun K hK => ?_) AllReadyH.nil)
 go_simp
 (go_at_call 28; go_split_ands; refine (HDC.out _ (by assumption)).mono ?_; rintro e w1 ⟨d2, b2, he, hd2, hdl, hbl, hb1⟩; have he := he.out; subst he; have hw1 : Below w.heap.size w w1 := below_self (by assumption) hb1)
 refine hK.out _ _ ?_ (fun hHeld => ?_)
 ·((first
  | exact HKP.out _ (Below.refl _ _)
  | exact HKP.out _ (Below.refl _ _).drew
  | exact HKP.out _ hw2
  | exact HKP.out _ (hw2.alloc hw2.size _)
  | exact HKP.out _ hw1
  | (go_split_ands; exact HKP.out _ (by assumption))
  | fail))
 clear hK K
 try simp only [Act.put, gA1, gA2, gA3, gA4, gA5, gA6]
 refine wpAnyH_ready (rs := [9]) (by kernel_rfl) (by simp) ?_
 refine (AllReadyH.cons rfl (fun K hK => ?_) AllReadyH.nil)
 go_simp
 (go_at_call 71; refine (HMC.out _ (by assumption)).mono ?_; rintro e w2 ⟨rfl, hown2, _, hb2⟩; have hw2 : Below w.heap.size w w2 := below_self (by assumption) hb2)
 refine hK.out _ _ ?_ (fun hHeld => ?_)
 ·((first
  | exact HKP.out _ (Below.refl _ _)
  | exact HKP.out _ (Below.refl _ _).drew
  | exact HKP.out _ hw2
  | exact HKP.out _ (hw2.alloc hw2.size _)
  | exact HKP.out _ hw1
  | (go_split_ands; exact HKP.out _ (by assumption))
  | fail))
 clear hK K
 try simp only [Act.put, gA1, gA2, gA3, gA4, gA5, gA6]
 (refine tkA 10 (v := ?_) ?_ ?_; rotate_left; focus (intro w hSw; (try dsimp only at hSw); go_simp; try rfl)); try simp only [Act.put, gA1, gA2, gA3, gA4, gA5, gA6]
 refine wpAnyH_ready (rs := [11]) (by kernel_rfl) (by simp) ?_
 refine (AllReadyH.cons rfl (fun K hK => ?_) AllReadyH.nil)
 go_simp
 refine hK.out _ _ ?_ (fun hHeld => ?_)
 ·((first
  | exact HKP.out _ (Below.refl _ _)
  | exact HKP.out _ (Below.refl _ _).drew
  | exact HKP.out _ hw2
  | exact HKP.out _ (hw2.alloc hw2.size _)
  | exact HKP.out _ hw1
  | (go_split_ands; exact HKP.out _ (by assumption))
  | fail))
 clear hK K
 try simp only [Act.put, gA1, gA2, gA3, gA4, gA5, gA6]
 (refine tkA 12 (v := ?_) ?_ ?_; rotate_left; focus (intro w hSw; (try dsimp only at hSw); go_simp; try rfl)); try simp only [Act.put, gA1, gA2, gA3, gA4, gA5, gA6]
 refine wpAnyH_done (by kernel_rfl) ?_ _
 go_split_ands
 have hz1 : w.heap.size ≤ w1.heap.size := hw1.size
 have hbW : Below w.heap.size w (w2.alloc (.cells #[dP d2, .map (some w1.heap.size)] 87)) := hw2.alloc hw2.size _
 have HD2 := Lib.hid ((hd2.below hb2).below ((Below.refl _ _).alloc (Nat.le_refl _) (.cells #[dP d2, .map (some w1.heap.size)] 87)))
 have HO2 := Lib.hid (hown2.alloc (.cells #[dP d2, .map (some w1.heap.size)] 87))
 have HBW := Lib.hid hbW
 have HL := Lib.hid (show w.heap.size ≤ d2 ∧ w.heap.size ≤ b2 ∧ w.heap.size ≤ w1.heap.size ∧ w.heap.size ≤ w2.heap.size ∧ b2 < w1.heap.size from ⟨hdl, hbl, hz1, hw2.size, hd2.lt.2⟩)
 clear HKP hw1 hw2 hb1 hb2 hd2 hdl hbl hown2 hz1 hbW
 go_wp2
 go_ret
 have hl := HL.out
 have hx := H.out.lw.below.size
 exact ⟨w2.heap.size, d2, b2, w1.heap.size, rfl, ⟨by simp [go_sem], by simp [go_sem], ⟨HD2.out, H.out.lw.ml.below HBW.out, H.out.lw.below.trans (HBW.out.mono hx), ⟨by omega, by omega⟩, H.out.lw.right, H.out.lw.ver⟩, ⟨D, n, HN.out, HO2.out, HI.out.on HBW.out⟩, ⟨by omega, by omega⟩, by omega, H.out.right⟩, ⟨by omega, by omega, by omega, by omega⟩, HBW.out⟩
end Go.Proofs.YtodcmhmankmaoaaGreat
