/-
  Leads: another phase.
-/
import Derived.Test.YtplplehfkfjhnaaLdD
namespace Go.Proofs.Ytplplehfkfjhnaa
open Go.RowKit
open Bb (quoN thN allB)
set_option linter.unusedSimpArgs false
set_option linter.unusedVariables false
set_option maxRecDepth 100000

/-- All that was there but the lead's own block is. -/
structure Bs (X : World) (g : Nat) (w' : World) : Prop where
  size : X.heap.size ≤ w'.heap.size
  block : ∀ k, k < X.heap.size → k ≠ g → w'.heap[k]? = X.heap[k]?
theorem Bs.refl (X : World) (g : Nat) : Bs X g X := ⟨Nat.le_refl _, fun _ _ _ => rfl⟩
theorem Bs.drew {X w' : World} {g : Nat} (h : Bs X g w') : Bs X g w'.drew := ⟨h.size, h.block⟩
theorem Bs.below {X w' : World} {g : Nat} (h : Below X.heap.size X w') : Bs X g w' := ⟨h.size, fun k hk _ => h.block k hk⟩
theorem Bs.set {X w' : World} {g : Nat} (h : Bs X g w') (o : Nat) (u : Value) : Bs X g (w'.setCell ⟨g, o, none⟩ u) := ⟨by simpa using h.size, fun k hk hn => (Below.heap_setCell _ _ _ k hn).trans (h.block k hk hn)⟩
theorem Bs.cell {X w' : World} {g : Nat} (h : Bs X g w') {b j : Nat} (hb : b < X.heap.size) (hn : b ≠ g) : w'.cell? ⟨b, j, none⟩ = X.cell? ⟨b, j, none⟩ := World.cell?_of_block (h.block b hb hn)
/-- Blocks of other types than a lead, numbers, and instances stay. -/
structure Kt (w w' : World) : Prop where
  size : w.heap.size ≤ w'.heap.size
  keep : ∀ (k : Nat) (cs : Array Value) (T : TypeId) (fr : Nat × Nat), w.heap[k]? = some (Obj.cells cs T fr) → T ≠ 75 → T ≠ 3 → T ≠ 38 → w'.heap[k]? = some (Obj.cells cs T fr)
theorem Kt.below {w w' : World} (h : Below w.heap.size w w') : Kt w w' := ⟨h.size, fun k cs T fr q _ _ _ => (h.block k (Array.getElem?_eq_some_iff.1 q).1).trans q⟩
theorem Kt.trans {w w1 w2 : World} (h : Kt w w1) (k : Kt w1 w2) : Kt w w2 := ⟨Nat.le_trans h.size k.size, fun j cs T fr q a b c => k.keep j cs T fr (h.keep j cs T fr q a b c) a b c⟩
theorem Kt.bs {w w' : World} {g : Nat} {ds : Array Value} {f2 : Nat × Nat} (h : Bs w g w') (hg : w.heap[g]? = some (Obj.cells ds 75 f2)) : Kt w w' := ⟨h.size, fun k cs T fr q a _ _ => (h.block k (Array.getElem?_eq_some_iff.1 q).1 (ty_ne q hg a)).trans q⟩
/-- Another phase. -/
def entL (L : LSt) (p : Int) (cm : CM) (a : At) : LSt := ⟨L.ep, L.ns, L.node, L.id, L.bal, L.by', L.first, p, cm, a, [], []⟩
def EntP (L : LSt) (B g : Nat) (w : World) (e : Ending) (w' : World) : Prop := Hid (e = .returned (.tuple #[])) ∧ LdAt w' B g L ∧ Below B w w' ∧ Bs w g w'
theorem LdAt.cellsG {w : World} {B g : Nat} {L : LSt} (h : LdAt w B g L) : ∃ ds f2, w.heap[g]? = some (Obj.cells ds 75 f2) := by
  obtain ⟨Bw, vn, vd, vw, vh, h⟩ := h
  exact ⟨_, _, h.bk⟩
theorem Kt.ent {w w' : World} {B g : Nat} {L : LSt} (h : Bs w g w') (hl : LdAt w B g L) : Kt w w' := by
  obtain ⟨ds, f2, q⟩ := hl.cellsG
  exact Kt.bs h q
set_option maxHeartbeats 8000000 in
theorem enter_any {w : World} {B g : Nat} {L : LSt} (h : LdAt w B g L) (p : Int) (cm : CM) (s : Int) (va : Value) (l : List I3) (hd : IK.Rd w va l) (hok : okL l) (hl : l.length ≤ 100000) :
    Calls Try.prog 32 #[gP g, .int .i64 p, .agg #[.int .i64 cm.cl, .int .i64 cm.sq, .int .i64 cm.op, .string cm.pa, .string cm.va, .int .i64 cm.ver, .int .i64 cm.a, .int .i64 cm.b], .agg #[.int .i64 s, va]] w (EntP (entL L p cm (s, l)) B g w) := by
  obtain ⟨Bw, vn, vd, vw, vh, h⟩ := h
  obtain ⟨ad, cd, hvd⟩ := hd.slice
  subst hvd
  obtain ⟨nd, hnd⟩ : ∃ nd, l.length = nd := ⟨_, rfl⟩
  rw [hnd] at hd ⊢
  have HND := Lib.hid hnd
  have HOK := Lib.hid hok
  have hg := h.bk.lt
  obtain ⟨X, hX⟩ : ∃ X, (w.alloc (.cells #[.int .i64 cm.cl, .int .i64 cm.sq, .int .i64 cm.op, .string cm.pa, .string cm.va, .int .i64 cm.ver, .int .i64 cm.a, .int .i64 cm.b] 33)).alloc (.cells #[.int .i64 s, .slice ad nd cd] 36) = X := ⟨_, rfl⟩
  have hB : Below w.heap.size w X := by rw [← hX]; exact ((Below.refl _ _).alloc (Nat.le_refl _) _).alloc (by simp) _
  have b1 : Bk X w.heap.size 33 (cmE cm) := by rw [← hX]; exact (Bk.new w _ _).old _
  have b2 : Bk X (w.heap.size + 1) 36 [.int .i64 s, .slice ad nd cd] := by
    rw [← hX]
    have h := Bk.new (w.alloc (.cells #[.int .i64 cm.cl, .int .i64 cm.sq, .int .i64 cm.op, .string cm.pa, .string cm.va, .int .i64 cm.ver, .int .i64 cm.a, .int .i64 cm.b] 33)) 36 [.int .i64 s, .slice ad nd cd]
    rw [World.size_alloc] at h
    exact h
  have l1 := b1.lt
  have l2 := b2.lt
  have HBX := Lib.hid hB
  have HV0 := Lib.hid (h.below hB)
  have HC : Hid (∀ w' : World, Bs X g w' → w'.cell? ⟨w.heap.size, 0, none⟩ = some (.int .i64 cm.cl) ∧ w'.cell? ⟨w.heap.size, 1, none⟩ = some (.int .i64 cm.sq) ∧ w'.cell? ⟨w.heap.size, 2, none⟩ = some (.int .i64 cm.op) ∧ w'.cell? ⟨w.heap.size, 3, none⟩ = some (.string cm.pa) ∧ w'.cell? ⟨w.heap.size, 4, none⟩ = some (.string cm.va) ∧ w'.cell? ⟨w.heap.size, 5, none⟩ = some (.int .i64 cm.ver) ∧ w'.cell? ⟨w.heap.size, 6, none⟩ = some (.int .i64 cm.a) ∧ w'.cell? ⟨w.heap.size, 7, none⟩ = some (.int .i64 cm.b) ∧ w'.cell? ⟨w.heap.size + 1, 0, none⟩ = some (.int .i64 s) ∧ w'.cell? ⟨w.heap.size + 1, 1, none⟩ = some (.slice ad nd cd) ∧ Bs X g w') := Lib.hid fun w' hb =>
    ⟨(hb.cell l1 (by omega)).trans (b1.cell 0), (hb.cell l1 (by omega)).trans (b1.cell 1), (hb.cell l1 (by omega)).trans (b1.cell 2), (hb.cell l1 (by omega)).trans (b1.cell 3), (hb.cell l1 (by omega)).trans (b1.cell 4), (hb.cell l1 (by omega)).trans (b1.cell 5), (hb.cell l1 (by omega)).trans (b1.cell 6), (hb.cell l1 (by omega)).trans (b1.cell 7), (hb.cell l2 (by omega)).trans (b2.cell 0), (hb.cell l2 (by omega)).trans (b2.cell 1), hb⟩
  have HCA : Hid (Calls Try.prog 40 #[.agg #[.int .i64 s, .slice ad nd cd]] X.drew (AtO s l X.drew)) := Lib.hid (cattr_any s _ l X.drew ((hd.below hB).below (Below.refl _ _).drew) hl)
  clear hB b1 b2 hd hok hl hnd h l1 l2
  go_enter Try.func32, Try.ntmps32
  go_wp2_with fail
  try rw [hX]
  clear hX
  refine wp_region_held_drew (S := (fun w' => w'.cell? ⟨w.heap.size, 0, none⟩ = some (.int .i64 cm.cl) ∧ w'.cell? ⟨w.heap.size, 1, none⟩ = some (.int .i64 cm.sq) ∧ w'.cell? ⟨w.heap.size, 2, none⟩ = some (.int .i64 cm.op) ∧ w'.cell? ⟨w.heap.size, 3, none⟩ = some (.string cm.pa) ∧ w'.cell? ⟨w.heap.size, 4, none⟩ = some (.string cm.va) ∧ w'.cell? ⟨w.heap.size, 5, none⟩ = some (.int .i64 cm.ver) ∧ w'.cell? ⟨w.heap.size, 6, none⟩ = some (.int .i64 cm.a) ∧ w'.cell? ⟨w.heap.size, 7, none⟩ = some (.int .i64 cm.b) ∧ w'.cell? ⟨w.heap.size + 1, 0, none⟩ = some (.int .i64 s) ∧ w'.cell? ⟨w.heap.size + 1, 1, none⟩ = some (.slice ad nd cd) ∧ Bs X g w')) (by kernel_rfl) ?_ (fun hHeld => ?_)
  · ((first
  | (refine HC.out _ ?_; (repeat' (first | with_reducible refine Bs.set ?_ _ _ | with_reducible exact hs1)); done)
  | exact HC.out _ (Bs.refl _ _)
  | exact HC.out _ (Bs.refl _ _).drew
  | fail))
  refine wpAnyH_take (i := 0) (v := ?_) rfl (by kernel_rfl) (by kernel_rfl) (by kernel_rfl) (fun _ _ _ h => h) (Or.inl ⟨by rfl, ?_⟩) (by assumption) ?_
  rotate_left
  · (intro w hSw; (try dsimp only at hSw); go_simp; try rfl)
  try simp only [Act.put, List.setIfInBounds_toArray, List.set_cons_zero, List.set_cons_succ, List.getElem_toArray, List.getElem_cons_zero, List.getElem_cons_succ]
  refine wpAnyH_take (i := 1) (v := ?_) rfl (by kernel_rfl) (by kernel_rfl) (by kernel_rfl) (fun _ _ _ h => h) (Or.inl ⟨by rfl, ?_⟩) (by assumption) ?_
  rotate_left
  · (intro w hSw; (try dsimp only at hSw); go_simp; try rfl)
  try simp only [Act.put, List.setIfInBounds_toArray, List.set_cons_zero, List.set_cons_succ, List.getElem_toArray, List.getElem_cons_zero, List.getElem_cons_succ]
  refine wpAnyH_take (i := 2) (v := ?_) rfl (by kernel_rfl) (by kernel_rfl) (by kernel_rfl) (fun _ _ _ h => h) (Or.inl ⟨by rfl, ?_⟩) (by assumption) ?_
  rotate_left
  · (intro w hSw; (try dsimp only at hSw); go_simp; try rfl)
  try simp only [Act.put, List.setIfInBounds_toArray, List.set_cons_zero, List.set_cons_succ, List.getElem_toArray, List.getElem_cons_zero, List.getElem_cons_succ]
  refine wpAnyH_take (i := 3) (v := ?_) rfl (by kernel_rfl) (by kernel_rfl) (by kernel_rfl) (fun _ _ _ h => h) (Or.inl ⟨by rfl, ?_⟩) (by assumption) ?_
  rotate_left
  · (intro w hSw; (try dsimp only at hSw); go_simp; try rfl)
  try simp only [Act.put, List.setIfInBounds_toArray, List.set_cons_zero, List.set_cons_succ, List.getElem_toArray, List.getElem_cons_zero, List.getElem_cons_succ]
  refine wpAnyH_take (i := 4) (v := ?_) rfl (by kernel_rfl) (by kernel_rfl) (by kernel_rfl) (fun _ _ _ h => h) (Or.inl ⟨by rfl, ?_⟩) (by assumption) ?_
  rotate_left
  · (intro w hSw; (try dsimp only at hSw); go_simp; try rfl)
  try simp only [Act.put, List.setIfInBounds_toArray, List.set_cons_zero, List.set_cons_succ, List.getElem_toArray, List.getElem_cons_zero, List.getElem_cons_succ]
  refine wpAnyH_take (i := 5) (v := ?_) rfl (by kernel_rfl) (by kernel_rfl) (by kernel_rfl) (fun _ _ _ h => h) (Or.inl ⟨by rfl, ?_⟩) (by assumption) ?_
  rotate_left
  · (intro w hSw; (try dsimp only at hSw); go_simp; try rfl)
  try simp only [Act.put, List.setIfInBounds_toArray, List.set_cons_zero, List.set_cons_succ, List.getElem_toArray, List.getElem_cons_zero, List.getElem_cons_succ]
  refine wpAnyH_ready (rs := [6]) (by kernel_rfl) (by simp) ?_
  refine (AllReadyH.cons rfl (fun K hK => ?_) AllReadyH.nil)
  go_simp
  (go_at_call 40; refine HCA.out.mono ?_; rintro e w1 ⟨v1, he, ho1, hb1⟩; have he := he.out; subst he; obtain ⟨a1, k1, hv1⟩ := ho1.slice; rw [HND.out] at hv1; subst hv1; have hw1 : Below X.heap.size X w1 := below_self (Below.refl _ _).drew hb1; have hs1 : Bs X g w1 := Bs.below hw1; have HV := Lib.hid (HV0.out.below hw1); have f : ∀ o, w1.frozen? ⟨g, o, none⟩ = false := fun o => HV.out.bk.fz o; have c11 := HV.out.cell 11; have c12 := HV.out.cell 12; have c13 := HV.out.cell 13; have c14 := HV.out.cell 14; have c15 := HV.out.cell 15; have c16 := HV.out.cell 16; have c17 := HV.out.cell 17; have c18 := HV.out.cell 18; have c19 := HV.out.cell 19; have c20 := HV.out.cell 20; have c21 := HV.out.cell 21; have c22 := HV.out.cell 22; have c23 := HV.out.cell 23; simp only [ldE, List.getElem?_cons_zero, List.getElem?_cons_succ] at c11 c12 c13 c14 c15 c16 c17 c18 c19 c20 c21 c22 c23; have hg1 := HV.out.bk.lt)
  refine hK.out _ _ ?_ (fun hHeld => ?_)
  · ((first
  | (refine HC.out _ ?_; (repeat' (first | with_reducible refine Bs.set ?_ _ _ | with_reducible exact hs1)); done)
  | exact HC.out _ (Bs.refl _ _)
  | exact HC.out _ (Bs.refl _ _).drew
  | fail))
  clear hK K
  try simp only [Act.put, List.setIfInBounds_toArray, List.set_cons_zero, List.set_cons_succ, List.getElem_toArray, List.getElem_cons_zero, List.getElem_cons_succ]
  refine wpAnyH_take (i := 7) (v := ?_) rfl (by kernel_rfl) (by kernel_rfl) (by kernel_rfl) (fun _ _ _ h => h) (Or.inl ⟨by rfl, ?_⟩) (by assumption) ?_
  rotate_left
  · (intro w hSw; (try dsimp only at hSw); go_simp; try rfl)
  try simp only [Act.put, List.setIfInBounds_toArray, List.set_cons_zero, List.set_cons_succ, List.getElem_toArray, List.getElem_cons_zero, List.getElem_cons_succ]
  refine wpAnyH_take (i := 8) (v := ?_) rfl (by kernel_rfl) (by kernel_rfl) (by kernel_rfl) (fun _ _ _ h => h) (Or.inl ⟨by rfl, ?_⟩) (by assumption) ?_
  rotate_left
  · (intro w hSw; (try dsimp only at hSw); go_simp; try rfl)
  try simp only [Act.put, List.setIfInBounds_toArray, List.set_cons_zero, List.set_cons_succ, List.getElem_toArray, List.getElem_cons_zero, List.getElem_cons_succ]
  refine wpAnyH_ready (rs := [9]) (by kernel_rfl) (by simp) ?_
  refine (AllReadyH.cons rfl (fun K hK => ?_) AllReadyH.nil)
  go_simp
  refine hK.out _ _ ?_ (fun hHeld => ?_)
  · ((first
  | (refine HC.out _ ?_; (repeat' (first | with_reducible refine Bs.set ?_ _ _ | with_reducible exact hs1)); done)
  | exact HC.out _ (Bs.refl _ _)
  | exact HC.out _ (Bs.refl _ _).drew
  | fail))
  clear hK K
  try simp only [Act.put, List.setIfInBounds_toArray, List.set_cons_zero, List.set_cons_succ, List.getElem_toArray, List.getElem_cons_zero, List.getElem_cons_succ]
  refine wpAnyH_take (i := 10) (v := ?_) rfl (by kernel_rfl) (by kernel_rfl) (by kernel_rfl) (fun _ _ _ h => h) (Or.inl ⟨by rfl, ?_⟩) (by assumption) ?_
  rotate_left
  · (intro w hSw; (try dsimp only at hSw); go_simp; try rfl)
  try simp only [Act.put, List.setIfInBounds_toArray, List.set_cons_zero, List.set_cons_succ, List.getElem_toArray, List.getElem_cons_zero, List.getElem_cons_succ]
  refine wpAnyH_take (i := 11) (v := ?_) rfl (by kernel_rfl) (by kernel_rfl) (by kernel_rfl) (fun _ _ _ h => h) (Or.inl ⟨by rfl, ?_⟩) (by assumption) ?_
  rotate_left
  · (intro w hSw; (try dsimp only at hSw); go_simp; try rfl)
  try simp only [Act.put, List.setIfInBounds_toArray, List.set_cons_zero, List.set_cons_succ, List.getElem_toArray, List.getElem_cons_zero, List.getElem_cons_succ]
  refine wpAnyH_ready (rs := [12]) (by kernel_rfl) (by simp) ?_
  refine (AllReadyH.cons rfl (fun K hK => ?_) AllReadyH.nil)
  go_simp
  refine hK.out _ _ ?_ (fun hHeld => ?_)
  · ((first
  | (refine HC.out _ ?_; (repeat' (first | with_reducible refine Bs.set ?_ _ _ | with_reducible exact hs1)); done)
  | exact HC.out _ (Bs.refl _ _)
  | exact HC.out _ (Bs.refl _ _).drew
  | fail))
  clear hK K
  try simp only [Act.put, List.setIfInBounds_toArray, List.set_cons_zero, List.set_cons_succ, List.getElem_toArray, List.getElem_cons_zero, List.getElem_cons_succ]
  refine wpAnyH_take (i := 13) (v := ?_) rfl (by kernel_rfl) (by kernel_rfl) (by kernel_rfl) (fun _ _ _ h => h) (Or.inl ⟨by rfl, ?_⟩) (by assumption) ?_
  rotate_left
  · (intro w hSw; (try dsimp only at hSw); go_simp; try rfl)
  try simp only [Act.put, List.setIfInBounds_toArray, List.set_cons_zero, List.set_cons_succ, List.getElem_toArray, List.getElem_cons_zero, List.getElem_cons_succ]
  refine wpAnyH_take (i := 14) (v := ?_) rfl (by kernel_rfl) (by kernel_rfl) (by kernel_rfl) (fun _ _ _ h => h) (Or.inl ⟨by rfl, ?_⟩) (by assumption) ?_
  rotate_left
  · (intro w hSw; (try dsimp only at hSw); go_simp; try rfl)
  try simp only [Act.put, List.setIfInBounds_toArray, List.set_cons_zero, List.set_cons_succ, List.getElem_toArray, List.getElem_cons_zero, List.getElem_cons_succ]
  refine wpAnyH_ready (rs := [15]) (by kernel_rfl) (by simp) ?_
  refine (AllReadyH.cons rfl (fun K hK => ?_) AllReadyH.nil)
  go_simp
  refine hK.out _ _ ?_ (fun hHeld => ?_)
  · ((first
  | (refine HC.out _ ?_; (repeat' (first | with_reducible refine Bs.set ?_ _ _ | with_reducible exact hs1)); done)
  | exact HC.out _ (Bs.refl _ _)
  | exact HC.out _ (Bs.refl _ _).drew
  | fail))
  clear hK K
  try simp only [Act.put, List.setIfInBounds_toArray, List.set_cons_zero, List.set_cons_succ, List.getElem_toArray, List.getElem_cons_zero, List.getElem_cons_succ]
  refine wpAnyH_done (by kernel_rfl) ?_ _
  have HO1 := Lib.hid (ho1.base (show B ≤ X.drew.heap.size from Nat.le_trans HV0.out.lo (Nat.le_of_lt HV0.out.bk.lt)))
  have HW1 := Lib.hid (HBX.out.trans (hw1.mono HBX.out.size))
  clear HC HCA hw1 hs1 hb1 ho1
  go_wp2_with fail
  go_end0
  have hon : OnlyG w1 (((((((((((((w1.setCell ⟨g, 11, none⟩ (.int .i64 p)).setCell ⟨g, 12, none⟩ (.int .i64 cm.cl)).setCell ⟨g, 13, none⟩ (.int .i64 cm.sq)).setCell ⟨g, 14, none⟩ (.int .i64 cm.op)).setCell ⟨g, 15, none⟩ (.string cm.pa)).setCell ⟨g, 16, none⟩ (.string cm.va)).setCell ⟨g, 17, none⟩ (.int .i64 cm.ver)).setCell ⟨g, 18, none⟩ (.int .i64 cm.a)).setCell ⟨g, 19, none⟩ (.int .i64 cm.b)).setCell ⟨g, 20, none⟩ (.int .i64 s)).setCell ⟨g, 21, none⟩ (.slice a1 nd k1)).setCell ⟨g, 22, none⟩ (.slice none 0 0)).setCell ⟨g, 23, none⟩ (.slice none 0 0)) g := ((((((((((((((OnlyG.refl w1 g).set 11 (.int .i64 p)).set 12 (.int .i64 cm.cl)).set 13 (.int .i64 cm.sq)).set 14 (.int .i64 cm.op)).set 15 (.string cm.pa)).set 16 (.string cm.va)).set 17 (.int .i64 cm.ver)).set 18 (.int .i64 cm.a)).set 19 (.int .i64 cm.b)).set 20 (.int .i64 s)).set 21 (.slice a1 nd k1)).set 22 (.slice none 0 0)).set 23 (.slice none 0 0))
  have hbk : Bk (((((((((((((w1.setCell ⟨g, 11, none⟩ (.int .i64 p)).setCell ⟨g, 12, none⟩ (.int .i64 cm.cl)).setCell ⟨g, 13, none⟩ (.int .i64 cm.sq)).setCell ⟨g, 14, none⟩ (.int .i64 cm.op)).setCell ⟨g, 15, none⟩ (.string cm.pa)).setCell ⟨g, 16, none⟩ (.string cm.va)).setCell ⟨g, 17, none⟩ (.int .i64 cm.ver)).setCell ⟨g, 18, none⟩ (.int .i64 cm.a)).setCell ⟨g, 19, none⟩ (.int .i64 cm.b)).setCell ⟨g, 20, none⟩ (.int .i64 s)).setCell ⟨g, 21, none⟩ (.slice a1 nd k1)).setCell ⟨g, 22, none⟩ (.slice none 0 0)).setCell ⟨g, 23, none⟩ (.slice none 0 0)) g 75 (ldE (entL L p cm (s, l)) vn (.slice a1 nd k1) (.slice none 0 0) (.slice none 0 0)) := (Bk.set (Bk.set (Bk.set (Bk.set (Bk.set (Bk.set (Bk.set (Bk.set (Bk.set (Bk.set (Bk.set (Bk.set (Bk.set HV.out.bk 11 (.int .i64 p)) 12 (.int .i64 cm.cl)) 13 (.int .i64 cm.sq)) 14 (.int .i64 cm.op)) 15 (.string cm.pa)) 16 (.string cm.va)) 17 (.int .i64 cm.ver)) 18 (.int .i64 cm.a)) 19 (.int .i64 cm.b)) 20 (.int .i64 s)) 21 (.slice a1 nd k1)) 22 (.slice none 0 0)) 23 (.slice none 0 0))
  refine ⟨rfl, ⟨Bw, vn, _, _, _, HV.out.turn hon hbk rfl HO1.out HOK.out (OwnI.nil _ _) (HRow.nil _ _ _)⟩, ?_, by rw [hon.size]; exact HW1.out.size, fun k hk hn => (hon.block k hn).trans (HW1.out.block k hk)⟩
  exact (HW1.out.mono (Nat.le_trans HV.out.lo (Nat.le_of_lt hg))).trans (hon.below.mono HV.out.lo)
end Go.Proofs.Ytplplehfkfjhnaa
