/-
  Leads: New, Take; the phase, the ballot; whether it is over, whether enough are heard; another phase.
-/
import Derived.Test.YtplplehfkfjhnaaLdB
import Derived.StillTailTactics
import Derived.Deep.RegionHeld3
import Derived.Deep.QuietTactic
import Derived.BigQuiet
namespace Go.Proofs.Ytplplehfkfjhnaa
open Go.RowKit
open Bb (quoN thN allB)
set_option linter.unusedSimpArgs false
set_option linter.unusedVariables false
set_option maxRecDepth 100000

abbrev gP (g : Nat) : Value := .pointer (some ⟨g, 0, none⟩)
theorem LdV.new {wz : World} {B : Nat} (hB : B ≤ wz.heap.size) (L : LSt) {vn vd : Value} (hn : OwnI wz B vn L.ns) (hd : IK.Own wz B vd L.at'.2) (ho : okL L.at'.2) (hw : L.who = []) (hh : L.heard = []) :
    LdAt (wz.alloc (.cells (ldE L vn vd (.slice none 0 0) (.slice none 0 0)).toArray 75)) B wz.heap.size L := by
  refine ⟨wz.heap.size + 1, vn, vd, _, _, Bk.new wz 75 _, hB, by omega, by simp, OwnI.alloc hn _, fun k hk => ?_, hd.below ((Below.refl _ _).alloc (Nat.le_refl _) _), ho, by rw [hw]; exact OwnI.nil _ _, by rw [hh]; exact HRow.nil _ _ _⟩
  have := (OwnI.blk hn k hk).1
  omega
/-- What New and Take come to. -/
def LdP (L : LSt) (w : World) (e : Ending) (w' : World) : Prop := ∃ g, Hid (e = .returned (gP g)) ∧ LdAt w' w.heap.size g L ∧ Below w.heap.size w w'
set_option maxHeartbeats 4000000 in
theorem new_any (ep : Int) (an : Option Addr) (cn : Nat) (ns : List Int) (node i1 i2 i3 : Int) (cm : CM) (s : Int) (vd : Value) (l : List I3) (w : World) (hc : It w (.slice an ns.length cn) ns) (hn : ns.length ≤ 1000) (hd : IK.Rd w vd l) (ho : okL l) (hl : l.length ≤ 100000) :
    Calls Try.prog 17 #[.agg #[.int .i64 ep, .slice an ns.length cn], .int .i64 node, .agg #[.int .i64 i1, .int .i64 i2, .int .i64 i3], .agg #[.int .i64 cm.cl, .int .i64 cm.sq, .int .i64 cm.op, .string cm.pa, .string cm.va, .int .i64 cm.ver, .int .i64 cm.a, .int .i64 cm.b], .agg #[.int .i64 s, vd]] w (LdP ⟨ep, ns, node, (i1, i2, i3), (0, i2), (0, 0), true, 0, cm, (s, l), [], []⟩ w) := by
  obtain ⟨ad, cd, hvd⟩ := hd.slice
  subst hvd
  obtain ⟨nd, hnd⟩ : ∃ nd, l.length = nd := ⟨_, rfl⟩
  rw [hnd] at hd ⊢
  have HND := Lib.hid hnd
  have HOK := Lib.hid ho
  obtain ⟨X, hX⟩ : ∃ X, (((w.alloc (.cells #[.int .i64 ep, .slice an ns.length cn] 24)).alloc (.cells #[.int .i64 i1, .int .i64 i2, .int .i64 i3] 27)).alloc (.cells #[.int .i64 cm.cl, .int .i64 cm.sq, .int .i64 cm.op, .string cm.pa, .string cm.va, .int .i64 cm.ver, .int .i64 cm.a, .int .i64 cm.b] 33)).alloc (.cells #[.int .i64 s, .slice ad nd cd] 36) = X := ⟨_, rfl⟩
  have hB : Below w.heap.size w X := by rw [← hX]; exact ((((Below.refl _ _).alloc (Nat.le_refl _) _).alloc (by simp) _).alloc (by simp; omega) _).alloc (by simp; omega) _
  have HBX := Lib.hid hB
  have b1 : Bk X w.heap.size 24 [.int .i64 ep, .slice an ns.length cn] := by rw [← hX]; exact (((Bk.new w _ _).old _).old _).old _
  have b2 : Bk X (w.heap.size + 1) 27 [.int .i64 i1, .int .i64 i2, .int .i64 i3] := by
    rw [← hX]
    have h := Bk.new (w.alloc (.cells #[.int .i64 ep, .slice an ns.length cn] 24)) 27 [.int .i64 i1, .int .i64 i2, .int .i64 i3]
    rw [World.size_alloc] at h
    exact (h.old _).old _
  have b3 : Bk X (w.heap.size + 1 + 1) 33 (cmE cm) := by
    rw [← hX]
    have h := Bk.new ((w.alloc (.cells #[.int .i64 ep, .slice an ns.length cn] 24)).alloc (.cells #[.int .i64 i1, .int .i64 i2, .int .i64 i3] 27)) 33 (cmE cm)
    rw [World.size_alloc, World.size_alloc] at h
    exact h.old _
  have b4 : Bk X (w.heap.size + 1 + 1 + 1) 36 [.int .i64 s, .slice ad nd cd] := by
    rw [← hX]
    have h := Bk.new (((w.alloc (.cells #[.int .i64 ep, .slice an ns.length cn] 24)).alloc (.cells #[.int .i64 i1, .int .i64 i2, .int .i64 i3] 27)).alloc (.cells #[.int .i64 cm.cl, .int .i64 cm.sq, .int .i64 cm.op, .string cm.pa, .string cm.va, .int .i64 cm.ver, .int .i64 cm.a, .int .i64 cm.b] 33)) 36 [.int .i64 s, .slice ad nd cd]
    rw [World.size_alloc, World.size_alloc, World.size_alloc] at h
    exact h
  have HC : Hid (∀ w' : World, Below X.heap.size X w' → w'.cell? ⟨w.heap.size, 0, none⟩ = some (.int .i64 ep) ∧ w'.cell? ⟨w.heap.size, 1, none⟩ = some (.slice an ns.length cn) ∧ w'.cell? ⟨(w.heap.size + 1), 0, none⟩ = some (.int .i64 i1) ∧ w'.cell? ⟨(w.heap.size + 1), 1, none⟩ = some (.int .i64 i2) ∧ w'.cell? ⟨(w.heap.size + 1), 2, none⟩ = some (.int .i64 i3) ∧ w'.cell? ⟨(w.heap.size + 1 + 1), 0, none⟩ = some (.int .i64 cm.cl) ∧ w'.cell? ⟨(w.heap.size + 1 + 1), 1, none⟩ = some (.int .i64 cm.sq) ∧ w'.cell? ⟨(w.heap.size + 1 + 1), 2, none⟩ = some (.int .i64 cm.op) ∧ w'.cell? ⟨(w.heap.size + 1 + 1), 3, none⟩ = some (.string cm.pa) ∧ w'.cell? ⟨(w.heap.size + 1 + 1), 4, none⟩ = some (.string cm.va) ∧ w'.cell? ⟨(w.heap.size + 1 + 1), 5, none⟩ = some (.int .i64 cm.ver) ∧ w'.cell? ⟨(w.heap.size + 1 + 1), 6, none⟩ = some (.int .i64 cm.a) ∧ w'.cell? ⟨(w.heap.size + 1 + 1), 7, none⟩ = some (.int .i64 cm.b) ∧ w'.cell? ⟨(w.heap.size + 1 + 1 + 1), 0, none⟩ = some (.int .i64 s) ∧ w'.cell? ⟨(w.heap.size + 1 + 1 + 1), 1, none⟩ = some (.slice ad nd cd) ∧ Below X.heap.size X w') := Lib.hid fun w' hb =>
    ⟨(b1.below hb).cell 0, (b1.below hb).cell 1, (b2.below hb).cell 0, (b2.below hb).cell 1, (b2.below hb).cell 2, (b3.below hb).cell 0, (b3.below hb).cell 1, (b3.below hb).cell 2, (b3.below hb).cell 3, (b3.below hb).cell 4, (b3.below hb).cell 5, (b3.below hb).cell 6, (b3.below hb).cell 7, (b4.below hb).cell 0, (b4.below hb).cell 1, hb⟩
  have HCC : Hid (∀ W, Below X.heap.size X W → Calls Try.prog 28 #[.agg #[.int .i64 ep, .slice an ns.length cn]] W (Cc.CfPost ep ns W)) := Lib.hid fun W hb => Cc.cclone_any ep an cn ns W ((hc.below hB).below hb) (by omega)
  have HFI : Hid (∀ W, Calls Try.prog 26 #[.agg #[.int .i64 i1, .int .i64 i2, .int .i64 i3]] W fun e w' => e = .returned (.agg #[.int .i64 0, .int .i64 i2]) ∧ Below W.heap.size W w') := Lib.hid fun W => Bb.first_any i1 i2 i3 W
  have HCA : Hid (∀ W, Below X.heap.size X W → Calls Try.prog 40 #[.agg #[.int .i64 s, .slice ad nd cd]] W (AtO s l W)) := Lib.hid fun W hb => cattr_any s _ l W ((hd.below hB).below hb) hl
  clear hB b1 b2 b3 b4 hc hd ho hl hnd
  go_enter Try.func17, Try.ntmps17
  go_wp2_with fail
  try rw [hX]
  clear hX
  refine wp_region_held_drew (S := (fun w' => w'.cell? ⟨w.heap.size, 0, none⟩ = some (.int .i64 ep) ∧ w'.cell? ⟨w.heap.size, 1, none⟩ = some (.slice an ns.length cn) ∧ w'.cell? ⟨(w.heap.size + 1), 0, none⟩ = some (.int .i64 i1) ∧ w'.cell? ⟨(w.heap.size + 1), 1, none⟩ = some (.int .i64 i2) ∧ w'.cell? ⟨(w.heap.size + 1), 2, none⟩ = some (.int .i64 i3) ∧ w'.cell? ⟨(w.heap.size + 1 + 1), 0, none⟩ = some (.int .i64 cm.cl) ∧ w'.cell? ⟨(w.heap.size + 1 + 1), 1, none⟩ = some (.int .i64 cm.sq) ∧ w'.cell? ⟨(w.heap.size + 1 + 1), 2, none⟩ = some (.int .i64 cm.op) ∧ w'.cell? ⟨(w.heap.size + 1 + 1), 3, none⟩ = some (.string cm.pa) ∧ w'.cell? ⟨(w.heap.size + 1 + 1), 4, none⟩ = some (.string cm.va) ∧ w'.cell? ⟨(w.heap.size + 1 + 1), 5, none⟩ = some (.int .i64 cm.ver) ∧ w'.cell? ⟨(w.heap.size + 1 + 1), 6, none⟩ = some (.int .i64 cm.a) ∧ w'.cell? ⟨(w.heap.size + 1 + 1), 7, none⟩ = some (.int .i64 cm.b) ∧ w'.cell? ⟨(w.heap.size + 1 + 1 + 1), 0, none⟩ = some (.int .i64 s) ∧ w'.cell? ⟨(w.heap.size + 1 + 1 + 1), 1, none⟩ = some (.slice ad nd cd) ∧ Below X.heap.size X w')) (by kernel_rfl) ?_ (fun hHeld => ?_)
  · ((first
  | exact HC.out _ (Below.refl _ _)
  | exact HC.out _ (Below.refl _ _).drew
  | exact HC.out _ hw3
  | exact HC.out _ (hw3.alloc hw3.size _)
  | exact HC.out _ hw2
  | exact HC.out _ hw1
  | exact HC.out _ (hw1.alloc hw1.size _)
  | (go_split_ands; exact HC.out _ (by assumption))
  | fail))
  refine wpAnyH_take (i := 0) (v := ?_) rfl (by kernel_rfl) (by kernel_rfl) (by kernel_rfl) (fun _ _ _ h => h) (Or.inl ⟨by rfl, ?_⟩) (by assumption) ?_
  rotate_left
  · (intro w hSw; (try dsimp only at hSw); go_simp; try rfl)
  try simp only [Act.put, List.setIfInBounds_toArray, List.set_cons_zero, List.set_cons_succ, List.getElem_toArray, List.getElem_cons_zero, List.getElem_cons_succ]
  refine wpAnyH_take (i := 2) (v := ?_) rfl (by kernel_rfl) (by kernel_rfl) (by kernel_rfl) (fun _ _ _ h => h) (Or.inl ⟨by rfl, ?_⟩) (by assumption) ?_
  rotate_left
  · (intro w hSw; (try dsimp only at hSw); go_simp; try rfl)
  try simp only [Act.put, List.setIfInBounds_toArray, List.set_cons_zero, List.set_cons_succ, List.getElem_toArray, List.getElem_cons_zero, List.getElem_cons_succ]
  refine wpAnyH_take (i := 3) (v := ?_) rfl (by kernel_rfl) (by kernel_rfl) (by kernel_rfl) (fun _ _ _ h => h) (Or.inl ⟨by rfl, ?_⟩) (by assumption) ?_
  rotate_left
  · (intro w hSw; (try dsimp only at hSw); go_simp; try rfl)
  try simp only [Act.put, List.setIfInBounds_toArray, List.set_cons_zero, List.set_cons_succ, List.getElem_toArray, List.getElem_cons_zero, List.getElem_cons_succ]
  refine wpAnyH_take (i := 4) (v := ?_) rfl (by kernel_rfl) (by kernel_rfl) (by kernel_rfl) (fun _ _ _ h => h) (Or.inl ⟨by rfl, ?_⟩) (by assumption) ?_
  rotate_left
  · (intro w hSw; (try dsimp only at hSw); go_simp; try rfl)
  try simp only [Act.put, List.setIfInBounds_toArray, List.set_cons_zero, List.set_cons_succ, List.getElem_toArray, List.getElem_cons_zero, List.getElem_cons_succ]
  refine wpAnyH_take (i := 6) (v := ?_) rfl (by kernel_rfl) (by kernel_rfl) (by kernel_rfl) (fun _ _ _ h => h) (Or.inl ⟨by rfl, ?_⟩) (by assumption) ?_
  rotate_left
  · (intro w hSw; (try dsimp only at hSw); go_simp; try rfl)
  try simp only [Act.put, List.setIfInBounds_toArray, List.set_cons_zero, List.set_cons_succ, List.getElem_toArray, List.getElem_cons_zero, List.getElem_cons_succ]
  refine wpAnyH_take (i := 7) (v := ?_) rfl (by kernel_rfl) (by kernel_rfl) (by kernel_rfl) (fun _ _ _ h => h) (Or.inl ⟨by rfl, ?_⟩) (by assumption) ?_
  rotate_left
  · (intro w hSw; (try dsimp only at hSw); go_simp; try rfl)
  try simp only [Act.put, List.setIfInBounds_toArray, List.set_cons_zero, List.set_cons_succ, List.getElem_toArray, List.getElem_cons_zero, List.getElem_cons_succ]
  refine wpAnyH_ready (rs := [1]) (by kernel_rfl) (by simp) ?_
  refine (AllReadyH.cons rfl (fun K hK => ?_) AllReadyH.nil)
  go_simp
  (go_at_call 28; go_split_ands; refine (HCC.out _ (by assumption)).mono ?_; rintro e w1 ⟨v1, he, ho1, hb1⟩; have he := he.out; subst he; obtain ⟨a1, k1, rfl⟩ := OwnI.slice ho1; have hw1 : Below X.heap.size X w1 := below_self (by assumption) hb1)
  refine hK.out _ _ ?_ (fun hHeld => ?_)
  · ((first
  | exact HC.out _ (Below.refl _ _)
  | exact HC.out _ (Below.refl _ _).drew
  | exact HC.out _ hw3
  | exact HC.out _ (hw3.alloc hw3.size _)
  | exact HC.out _ hw2
  | exact HC.out _ hw1
  | exact HC.out _ (hw1.alloc hw1.size _)
  | (go_split_ands; exact HC.out _ (by assumption))
  | fail))
  clear hK K
  try simp only [Act.put, List.setIfInBounds_toArray, List.set_cons_zero, List.set_cons_succ, List.getElem_toArray, List.getElem_cons_zero, List.getElem_cons_succ]
  refine wpAnyH_ready (rs := [5]) (by kernel_rfl) (by simp) ?_
  refine (AllReadyH.cons rfl (fun K hK => ?_) AllReadyH.nil)
  go_simp
  (go_at_call 26; refine (HFI.out _).mono ?_; rintro e w2 ⟨rfl, hb2⟩; have hw2 : Below X.heap.size X w2 := below_self hw1 hb2)
  refine hK.out _ _ ?_ (fun hHeld => ?_)
  · ((first
  | exact HC.out _ (Below.refl _ _)
  | exact HC.out _ (Below.refl _ _).drew
  | exact HC.out _ hw3
  | exact HC.out _ (hw3.alloc hw3.size _)
  | exact HC.out _ hw2
  | exact HC.out _ hw1
  | exact HC.out _ (hw1.alloc hw1.size _)
  | (go_split_ands; exact HC.out _ (by assumption))
  | fail))
  clear hK K
  try simp only [Act.put, List.setIfInBounds_toArray, List.set_cons_zero, List.set_cons_succ, List.getElem_toArray, List.getElem_cons_zero, List.getElem_cons_succ]
  refine wpAnyH_ready (rs := [8]) (by kernel_rfl) (by simp) ?_
  refine (AllReadyH.cons rfl (fun K hK => ?_) AllReadyH.nil)
  go_simp
  (go_at_call 40; refine (HCA.out _ hw2).mono ?_; rintro e w3 ⟨v3, he, ho3, hb3⟩; have he := he.out; subst he; obtain ⟨a3, k3, rfl⟩ := ho3.slice; have hw3 : Below X.heap.size X w3 := below_self hw2 hb3)
  refine hK.out _ _ ?_ (fun hHeld => ?_)
  · ((first
  | exact HC.out _ (Below.refl _ _)
  | exact HC.out _ (Below.refl _ _).drew
  | exact HC.out _ hw3
  | exact HC.out _ (hw3.alloc hw3.size _)
  | exact HC.out _ hw2
  | exact HC.out _ hw1
  | exact HC.out _ (hw1.alloc hw1.size _)
  | (go_split_ands; exact HC.out _ (by assumption))
  | fail))
  clear hK K
  try simp only [Act.put, List.setIfInBounds_toArray, List.set_cons_zero, List.set_cons_succ, List.getElem_toArray, List.getElem_cons_zero, List.getElem_cons_succ]
  refine wpAnyH_take (i := 9) (v := ?_) rfl (by kernel_rfl) (by kernel_rfl) (by kernel_rfl) (fun _ _ _ h => h) (Or.inl ⟨by rfl, ?_⟩) (by assumption) ?_
  rotate_left
  · (intro w hSw; (try dsimp only at hSw); go_simp; try rfl)
  try simp only [Act.put, List.setIfInBounds_toArray, List.set_cons_zero, List.set_cons_succ, List.getElem_toArray, List.getElem_cons_zero, List.getElem_cons_succ]
  refine wpAnyH_ready (rs := [10]) (by kernel_rfl) (by simp) ?_
  refine (AllReadyH.cons rfl (fun K hK => ?_) AllReadyH.nil)
  go_simp
  refine hK.out _ _ ?_ (fun hHeld => ?_)
  · ((first
  | exact HC.out _ (Below.refl _ _)
  | exact HC.out _ (Below.refl _ _).drew
  | exact HC.out _ hw3
  | exact HC.out _ (hw3.alloc hw3.size _)
  | exact HC.out _ hw2
  | exact HC.out _ hw1
  | exact HC.out _ (hw1.alloc hw1.size _)
  | (go_split_ands; exact HC.out _ (by assumption))
  | fail))
  clear hK K
  try simp only [Act.put, List.setIfInBounds_toArray, List.set_cons_zero, List.set_cons_succ, List.getElem_toArray, List.getElem_cons_zero, List.getElem_cons_succ]
  refine wpAnyH_take (i := 11) (v := ?_) rfl (by kernel_rfl) (by kernel_rfl) (by kernel_rfl) (fun _ _ _ h => h) (Or.inl ⟨by rfl, ?_⟩) (by assumption) ?_
  rotate_left
  · (intro w hSw; (try dsimp only at hSw); go_simp; try rfl)
  try simp only [Act.put, List.setIfInBounds_toArray, List.set_cons_zero, List.set_cons_succ, List.getElem_toArray, List.getElem_cons_zero, List.getElem_cons_succ]
  refine wpAnyH_done (by kernel_rfl) ?_ _
  go_split_ands
  have hbW : Below w.heap.size w w3 := HBX.out.trans (hw3.mono HBX.out.size)
  have z1 : X.heap.size ≤ w1.heap.size := hw1.size
  have z2 : X.heap.size ≤ w2.heap.size := hw2.size
  have zX := HBX.out.size
  have zd : X.drew.heap.size = X.heap.size := rfl
  have HO1 := Lib.hid (OwnI.base (OwnI.below (OwnI.below ho1 hb2) hb3) (show w.heap.size ≤ _ by omega))
  have HO3 := Lib.hid (ho3.base (show w.heap.size ≤ _ by omega))
  have HBW := Lib.hid hbW
  clear HC HCC HFI HCA hw1 hw2 hw3 hb1 hb2 hb3 ho1 ho3 hbW
  go_wp2
  go_ret
  refine ⟨_, rfl, ?_, HBW.out.alloc HBW.out.size _⟩
  exact LdV.new HBW.out.size ⟨ep, ns, node, (i1, i2, i3), (0, i2), (0, 0), true, 0, cm, (s, l), [], []⟩ HO1.out HO3.out HOK.out rfl rfl
set_option maxHeartbeats 4000000 in
theorem take_any (ep : Int) (an : Option Addr) (cn : Nat) (ns : List Int) (node i1 i2 i3 b1 b2 : Int) (w : World) (hc : It w (.slice an ns.length cn) ns) (hn : ns.length ≤ 1000) :
    Calls Try.prog 10 #[.agg #[.int .i64 ep, .slice an ns.length cn], .int .i64 node, .agg #[.int .i64 i1, .int .i64 i2, .int .i64 i3], .agg #[.int .i64 b1, .int .i64 b2]] w (LdP ⟨ep, ns, node, (i1, i2, i3), (b1, b2), (0, 0), false, 2, ⟨0, 0, 0, ⟨#[]⟩, ⟨#[]⟩, 0, 0, 0⟩, (0, []), [], []⟩ w) := by
  obtain ⟨X, hX⟩ : ∃ X, ((w.alloc (.cells #[.int .i64 ep, .slice an ns.length cn] 24)).alloc (.cells #[.int .i64 i1, .int .i64 i2, .int .i64 i3] 27)).alloc (.cells #[.int .i64 b1, .int .i64 b2] 29) = X := ⟨_, rfl⟩
  have hB : Below w.heap.size w X := by rw [← hX]; exact (((Below.refl _ _).alloc (Nat.le_refl _) _).alloc (by simp) _).alloc (by simp; omega) _
  have HBX := Lib.hid hB
  have c1 : Bk X w.heap.size 24 [.int .i64 ep, .slice an ns.length cn] := by rw [← hX]; exact ((Bk.new w _ _).old _).old _
  have c2 : Bk X (w.heap.size + 1) 27 [.int .i64 i1, .int .i64 i2, .int .i64 i3] := by
    rw [← hX]
    have h := Bk.new (w.alloc (.cells #[.int .i64 ep, .slice an ns.length cn] 24)) 27 [.int .i64 i1, .int .i64 i2, .int .i64 i3]
    rw [World.size_alloc] at h
    exact h.old _
  have c3 : Bk X (w.heap.size + 1 + 1) 29 [.int .i64 b1, .int .i64 b2] := by
    rw [← hX]
    have h := Bk.new ((w.alloc (.cells #[.int .i64 ep, .slice an ns.length cn] 24)).alloc (.cells #[.int .i64 i1, .int .i64 i2, .int .i64 i3] 27)) 29 [.int .i64 b1, .int .i64 b2]
    rw [World.size_alloc, World.size_alloc] at h
    exact h
  have HC : Hid (∀ w' : World, Below X.heap.size X w' → w'.cell? ⟨w.heap.size, 0, none⟩ = some (.int .i64 ep) ∧ w'.cell? ⟨w.heap.size, 1, none⟩ = some (.slice an ns.length cn) ∧ w'.cell? ⟨(w.heap.size + 1), 0, none⟩ = some (.int .i64 i1) ∧ w'.cell? ⟨(w.heap.size + 1), 1, none⟩ = some (.int .i64 i2) ∧ w'.cell? ⟨(w.heap.size + 1), 2, none⟩ = some (.int .i64 i3) ∧ w'.cell? ⟨(w.heap.size + 1 + 1), 0, none⟩ = some (.int .i64 b1) ∧ w'.cell? ⟨(w.heap.size + 1 + 1), 1, none⟩ = some (.int .i64 b2) ∧ Below X.heap.size X w') := Lib.hid fun w' hb =>
    ⟨(c1.below hb).cell 0, (c1.below hb).cell 1, (c2.below hb).cell 0, (c2.below hb).cell 1, (c2.below hb).cell 2, (c3.below hb).cell 0, (c3.below hb).cell 1, hb⟩
  have HCC : Hid (∀ W, Below X.heap.size X W → Calls Try.prog 28 #[.agg #[.int .i64 ep, .slice an ns.length cn]] W (Cc.CfPost ep ns W)) := Lib.hid fun W hb => Cc.cclone_any ep an cn ns W ((hc.below hB).below hb) (by omega)
  clear hB c1 c2 c3 hc
  go_enter Try.func10, Try.ntmps10
  go_wp2_with fail
  try rw [hX]
  clear hX
  refine wp_region_held_drew (S := (fun w' => w'.cell? ⟨w.heap.size, 0, none⟩ = some (.int .i64 ep) ∧ w'.cell? ⟨w.heap.size, 1, none⟩ = some (.slice an ns.length cn) ∧ w'.cell? ⟨(w.heap.size + 1), 0, none⟩ = some (.int .i64 i1) ∧ w'.cell? ⟨(w.heap.size + 1), 1, none⟩ = some (.int .i64 i2) ∧ w'.cell? ⟨(w.heap.size + 1), 2, none⟩ = some (.int .i64 i3) ∧ w'.cell? ⟨(w.heap.size + 1 + 1), 0, none⟩ = some (.int .i64 b1) ∧ w'.cell? ⟨(w.heap.size + 1 + 1), 1, none⟩ = some (.int .i64 b2) ∧ Below X.heap.size X w')) (by kernel_rfl) ?_ (fun hHeld => ?_)
  · ((first
  | exact HC.out _ (Below.refl _ _)
  | exact HC.out _ (Below.refl _ _).drew
  | exact HC.out _ hw1
  | exact HC.out _ (hw1.alloc hw1.size _)
  | (go_split_ands; exact HC.out _ (by assumption))
  | fail))
  refine wpAnyH_take (i := 0) (v := ?_) rfl (by kernel_rfl) (by kernel_rfl) (by kernel_rfl) (fun _ _ _ h => h) (Or.inl ⟨by rfl, ?_⟩) (by assumption) ?_
  rotate_left
  · (intro w hSw; (try dsimp only at hSw); go_simp; try rfl)
  try simp only [Act.put, List.setIfInBounds_toArray, List.set_cons_zero, List.set_cons_succ, List.getElem_toArray, List.getElem_cons_zero, List.getElem_cons_succ]
  refine wpAnyH_take (i := 2) (v := ?_) rfl (by kernel_rfl) (by kernel_rfl) (by kernel_rfl) (fun _ _ _ h => h) (Or.inl ⟨by rfl, ?_⟩) (by assumption) ?_
  rotate_left
  · (intro w hSw; (try dsimp only at hSw); go_simp; try rfl)
  try simp only [Act.put, List.setIfInBounds_toArray, List.set_cons_zero, List.set_cons_succ, List.getElem_toArray, List.getElem_cons_zero, List.getElem_cons_succ]
  refine wpAnyH_take (i := 3) (v := ?_) rfl (by kernel_rfl) (by kernel_rfl) (by kernel_rfl) (fun _ _ _ h => h) (Or.inl ⟨by rfl, ?_⟩) (by assumption) ?_
  rotate_left
  · (intro w hSw; (try dsimp only at hSw); go_simp; try rfl)
  try simp only [Act.put, List.setIfInBounds_toArray, List.set_cons_zero, List.set_cons_succ, List.getElem_toArray, List.getElem_cons_zero, List.getElem_cons_succ]
  refine wpAnyH_take (i := 4) (v := ?_) rfl (by kernel_rfl) (by kernel_rfl) (by kernel_rfl) (fun _ _ _ h => h) (Or.inl ⟨by rfl, ?_⟩) (by assumption) ?_
  rotate_left
  · (intro w hSw; (try dsimp only at hSw); go_simp; try rfl)
  try simp only [Act.put, List.setIfInBounds_toArray, List.set_cons_zero, List.set_cons_succ, List.getElem_toArray, List.getElem_cons_zero, List.getElem_cons_succ]
  refine wpAnyH_ready (rs := [1]) (by kernel_rfl) (by simp) ?_
  refine (AllReadyH.cons rfl (fun K hK => ?_) AllReadyH.nil)
  go_simp
  (go_at_call 28; go_split_ands; refine (HCC.out _ (by assumption)).mono ?_; rintro e w1 ⟨v1, he, ho1, hb1⟩; have he := he.out; subst he; obtain ⟨a1, k1, rfl⟩ := OwnI.slice ho1; have hw1 : Below X.heap.size X w1 := below_self (by assumption) hb1)
  refine hK.out _ _ ?_ (fun hHeld => ?_)
  · ((first
  | exact HC.out _ (Below.refl _ _)
  | exact HC.out _ (Below.refl _ _).drew
  | exact HC.out _ hw1
  | exact HC.out _ (hw1.alloc hw1.size _)
  | (go_split_ands; exact HC.out _ (by assumption))
  | fail))
  clear hK K
  try simp only [Act.put, List.setIfInBounds_toArray, List.set_cons_zero, List.set_cons_succ, List.getElem_toArray, List.getElem_cons_zero, List.getElem_cons_succ]
  refine wpAnyH_take (i := 5) (v := ?_) rfl (by kernel_rfl) (by kernel_rfl) (by kernel_rfl) (fun _ _ _ h => h) (Or.inl ⟨by rfl, ?_⟩) (by assumption) ?_
  rotate_left
  · (intro w hSw; (try dsimp only at hSw); go_simp; try rfl)
  try simp only [Act.put, List.setIfInBounds_toArray, List.set_cons_zero, List.set_cons_succ, List.getElem_toArray, List.getElem_cons_zero, List.getElem_cons_succ]
  refine wpAnyH_ready (rs := [6]) (by kernel_rfl) (by simp) ?_
  refine (AllReadyH.cons rfl (fun K hK => ?_) AllReadyH.nil)
  go_simp
  refine hK.out _ _ ?_ (fun hHeld => ?_)
  · ((first
  | exact HC.out _ (Below.refl _ _)
  | exact HC.out _ (Below.refl _ _).drew
  | exact HC.out _ hw1
  | exact HC.out _ (hw1.alloc hw1.size _)
  | (go_split_ands; exact HC.out _ (by assumption))
  | fail))
  clear hK K
  try simp only [Act.put, List.setIfInBounds_toArray, List.set_cons_zero, List.set_cons_succ, List.getElem_toArray, List.getElem_cons_zero, List.getElem_cons_succ]
  refine wpAnyH_take (i := 7) (v := ?_) rfl (by kernel_rfl) (by kernel_rfl) (by kernel_rfl) (fun _ _ _ h => h) (Or.inl ⟨by rfl, ?_⟩) (by assumption) ?_
  rotate_left
  · (intro w hSw; (try dsimp only at hSw); go_simp; try rfl)
  try simp only [Act.put, List.setIfInBounds_toArray, List.set_cons_zero, List.set_cons_succ, List.getElem_toArray, List.getElem_cons_zero, List.getElem_cons_succ]
  refine wpAnyH_done (by kernel_rfl) ?_ _
  go_split_ands
  have hbW : Below w.heap.size w w1 := HBX.out.trans (hw1.mono HBX.out.size)
  have zX := HBX.out.size
  have zd : X.drew.heap.size = X.heap.size := rfl
  have HO1 := Lib.hid (OwnI.base ho1 (show w.heap.size ≤ _ by omega))
  have HBW := Lib.hid hbW
  clear HC HCC hw1 hb1 ho1 hbW
  go_wp2
  go_ret
  refine ⟨_, rfl, ?_, HBW.out.alloc HBW.out.size _⟩
  exact LdV.new HBW.out.size ⟨ep, ns, node, (i1, i2, i3), (b1, b2), (0, 0), false, 2, ⟨0, 0, 0, ⟨#[]⟩, ⟨#[]⟩, 0, 0, 0⟩, (0, []), [], []⟩ HO1.out (Knd.Own.nil _ _) (fun x hx => by cases hx) rfl rfl
end Go.Proofs.Ytplplehfkfjhnaa
