/-
  Graph: the finder goes on to a node.
-/
import Derived.Test.YtlckjpjcfalfnaaGf
import Derived.StillTailTactics
namespace Go.Proofs.Ytlckjpjcfalfnaa
open Go.RowKit Go.Sort
open Go.WideMaps
set_option linter.unusedSimpArgs false
set_option linter.unusedVariables false
set_option maxRecDepth 100000

theorem row_far0 {P : Program} {α : Type} {K : Knd P α} {w : World} {b1 b : Nat} {v : Value} {l : List α} {T : TypeId} {cs : List Value} (h : K.Own w b1 v l) (h2 : Bk w b T cs) (hT : K.T ≠ T) : v.ownBlock ≠ some b := by
  intro hj
  obtain ⟨_, cs', fr, e1⟩ := h.blk b hj
  have e2 : w.heap[b]? = _ := h2
  rw [e1] at e2
  injection e2 with e2
  injection e2 with _ e3 _
  exact hT e3
def enF (L : Fin) (x : I3) : Fin := { L with met := putV L.met x (L.met.length + 1), low := putV L.low x (L.met.length + 1), way := L.way ++ [(x, 0)], opn := L.opn ++ [x] }
theorem zeroInt (w : World) : (zeroValue 3).run Try.prog w = .ok (.int .i64 0) w := by kernel_rfl
def EnP (m bw : Nat) (web : List (I3 × NV)) (L : Fin) (x : I3) (vw vo vg : Value) (w : World) (e : Ending) (w' : World) : Prop :=
  ∃ vw' vo', Hid (e = .returned (.tuple #[])) ∧ FinAt w' m bw web (enF L x) vw' vo' vg ∧ Fr (fun k => k = m ∨ k = m + 1 ∨ k = m + 3 ∨ vw.ownBlock = some k ∨ vo.ownBlock = some k) w w' ∧ Next w vw vw' ∧ Next w vo vo'
set_option maxHeartbeats 8000000 in
theorem enter_any {w : World} {m bw : Nat} {web : List (I3 × NV)} {L : Fin} {vw vo vg : Value} (h : FinAt w m bw web L vw vo vg) (i1 i2 i3 : Int) (hi : okI (i1, i2, i3)) (hl : L.met.length ≤ 1000 ∧ L.low.length ≤ 1000 ∧ L.way.length ≤ 1000 ∧ L.opn.length ≤ 1000) (hsz : m + 4 ≤ w.heap.size) :
    Calls Try.prog 47 #[encG (m + 3), .agg #[.int .i64 i1, .int .i64 i2, .int .i64 i3]] w (EnP m bw web L (i1, i2, i3) vw vo vg w) := by
  obtain ⟨aw, cw, evw⟩ := h.way.slice
  obtain ⟨ao, co, evo⟩ := h.opn.slice
  subst evw
  subst evo
  obtain ⟨bx, hbx⟩ : ∃ q, w.heap.size = q := ⟨_, rfl⟩
  obtain ⟨X, hX⟩ : ∃ q, w.alloc (.cells #[.int .i64 i1, .int .i64 i2, .int .i64 i3] 25) = q := ⟨_, rfl⟩
  have hbX : Below w.heap.size w X := by rw [← hX]; exact (Below.refl _ _).alloc (Nat.le_refl _) _
  have HB1 := Lib.hid (h.below hbX)
  have HX1 : Hid (Bk X bx 25 [.int .i64 i1, .int .i64 i2, .int .i64 i3]) := Lib.hid (by rw [← hX]; exact Bk.newAg hbx _ [.int .i64 i1, .int .i64 i2, .int .i64 i3])
  have HI := Lib.hid hi
  have HL := Lib.hid hl
  have HZ : Hid (m + 4 ≤ bx) := Lib.hid (hbx ▸ hsz)
  have HVo : Hid (∀ k, (Value.slice ao L.opn.length co).ownBlock = some k → k ≠ bx) := Lib.hid fun k hk => by have := (h.opn.blk k hk).1; omega
  have HF0 : Hid (Fr (fun _ => False) w X) := Lib.hid ⟨hbX.os, hbX.tape, hbX.output, hbX.size, fun k hk _ => hbX.block k hk⟩
  obtain ⟨Nm, hNm⟩ : ∃ q, L.met.length = q := ⟨_, rfl⟩
  have HNm := Lib.hid hNm
  have c1 := Bk.cell HB1.out.bk 1
  have k0 := Bk.cell HX1.out 0
  have k1 := Bk.cell HX1.out 1
  have k2 := Bk.cell HX1.out 2
  simp only [List.getElem?_cons_zero, List.getElem?_cons_succ] at c1 k0 k1 k2
  have hln := fun ty => HB1.out.met.len (t := 58) Try.underlying58 ty
  have hlnd := fun ty => (HB1.out.met.below (Below.refl X.heap.size X).drew).len (t := 58) Try.underlying58 ty
  rw [hNm] at hln hlnd
  have hadd : IntKind.i64.wrap ((Nm : Int) + 1) = ((Nm + 1 : Nat) : Int) := by have := HL.out.1; rw [IntKind.wrap_i64]; omega
  clear h hbX hi hl hsz hNm
  go_enter Try.func47, Try.ntmps47
  go_upto_region 1 with fail
  try rw [hX]
  try rw [hbx]
  clear hX hbx
  go_still_tail 11, (by kernel_rfl)
  refine wpList_put_mv rfl _ _ _ 58 rfl 3 Try.underlying58 encN m L.met rfl (HB1.out.met.below (Below.refl X.heap.size X).drew) (by have := HL.out.1; unfold maxLen; omega) (i1, i2, i3) (Nm + 1) rfl HI.out rfl ?_
  intro w2 hm2 ht2
  have hf2 : Fr (fun k => k = m) X w2 := ⟨ht2.grown.os, ht2.grown.tape, ht2.grown.output, ht2.grown.size, fun k hk hn => ht2.grown.block k hk (by simpa using hn)⟩
  have HB2 := Lib.hid (HB1.out.setMet hf2 hm2)
  have HX2 := Lib.hid (hf2.bk HX1.out (by have := HZ.out; omega))
  have HF2 : Hid (Fr (fun k => k = m) w w2) := Lib.hid (HF0.out.trans hf2 (by simp))
  clear hm2 ht2 hf2 c1 k0 k1 k2 hln hlnd hadd HF0 HX1
  have c1 := Bk.cell HB2.out.bk 1
  have c2 := Bk.cell HB2.out.bk 2
  have k0 := Bk.cell HX2.out 0
  have k1 := Bk.cell HX2.out 1
  have k2 := Bk.cell HX2.out 2
  simp only [List.getElem?_cons_zero, List.getElem?_cons_succ] at c1 c2 k0 k1 k2
  have hlk : (Instr.lookup 58 (.map (some m)) (.agg #[.int .i64 i1, .int .i64 i2, .int .i64 i3]) false).run Try.prog w2 = .ok (encN (Nm + 1)) w2 := by
    have q := HB2.out.met.look (t := 58) Try.underlying58 (zeroInt w2) (x := (i1, i2, i3)) HI.out
    rw [getV_put HB1.out.met.nodup, if_pos rfl] at q
    exact q
  have hlkd : (Instr.lookup 58 (.map (some m)) (.agg #[.int .i64 i1, .int .i64 i2, .int .i64 i3]) false).run Try.prog w2.drew = .ok (encN (Nm + 1)) w2.drew := by
    have q := (HB2.out.met.below (Below.refl w2.heap.size w2).drew).look (t := 58) Try.underlying58 (zeroInt w2.drew) (x := (i1, i2, i3)) HI.out
    rw [getV_put HB1.out.met.nodup, if_pos rfl] at q
    exact q
  clear HB1
  go_upto_region 2 with fail
  go_still_tail 11, (by kernel_rfl)
  refine wpList_put_mv rfl _ _ _ 58 rfl 3 Try.underlying58 encN (m + 1) L.low rfl (HB2.out.low.below (Below.refl w2.heap.size w2).drew) (by have := HL.out.2.1; unfold maxLen; omega) (i1, i2, i3) (Nm + 1) rfl HI.out rfl ?_
  intro w3 hm3 ht3
  have hf3 : Fr (fun k => k = m + 1) w2 w3 := ⟨ht3.grown.os, ht3.grown.tape, ht3.grown.output, ht3.grown.size, fun k hk hn => ht3.grown.block k hk (by simpa using hn)⟩
  have HB3 := Lib.hid (HB2.out.setLow hf3 hm3)
  have HX3 := Lib.hid (hf3.bk HX2.out (by have := HZ.out; omega))
  have HF3 : Hid (Fr (fun k => k = m ∨ k = m + 1) w w3) := Lib.hid (HF2.out.trans hf3 (fun j _ q => q))
  clear hm3 ht3 hf3 c1 c2 k0 k1 k2 hlk hlkd HB2 HX2 HF2
  go_upto_region 3 with fail
  have HB4 := Lib.hid (HB3.out.below (Below.refl w3.heap.size w3).drew)
  have HX4 := Lib.hid (Bk.below HX3.out (Below.refl w3.heap.size w3).drew)
  have HF4 : Hid (Fr (fun k => k = m ∨ k = m + 1) w w3.drew) := Lib.hid (HF3.out.trans (Fr.ofBelow (Below.refl w3.heap.size w3).drew) (fun j hj q => q.elim id fun r => absurd (Nat.lt_of_lt_of_le hj HF3.out.size) (Nat.not_lt.2 r)))
  have e3 : w3.drew.cell? ⟨m + 3, 3, none⟩ = some (.slice aw L.way.length cw) := HB4.out.bk.cell 3
  have hlt4 := HB4.out.bk.lt
  have ba : Below w3.drew.heap.size w3.drew (w3.drew.alloc (.cells #[.int .i64 i1, .int .i64 i2, .int .i64 i3, .int .i64 0] 86)) := (Below.refl _ _).alloc (Nat.le_refl _) _
  have HSa : Hid (m + 4 ≤ (w3.drew.alloc (.cells #[.int .i64 i1, .int .i64 i2, .int .i64 i3, .int .i64 0] 86)).heap.size) := Lib.hid (by have := HX4.out.lt; have := HZ.out; have := ba.size; omega)
  have e3a : (w3.drew.alloc (.cells #[.int .i64 i1, .int .i64 i2, .int .i64 i3, .int .i64 0] 86)).cell? ⟨m + 3, 3, none⟩ = some (.slice aw L.way.length cw) := (old_cell _ _ _ _ hlt4).trans e3
  have e3b : (w3.alloc (.cells #[.int .i64 i1, .int .i64 i2, .int .i64 i3, .int .i64 0] 86)).drew.cell? ⟨m + 3, 3, none⟩ = some (.slice aw L.way.length cw) := e3a
  have hfa : Fr (fun k => k ≠ bx) w3.drew (w3.drew.alloc (.cells #[.int .i64 i1, .int .i64 i2, .int .i64 i3, .int .i64 0] 86)) := (Fr.ofBelow ba).mono (fun j hj q => absurd hj (Nat.not_lt.2 q))
  have HC3 : Hid (∀ w', Fr (fun k => k ≠ bx) w3.drew w' → w'.cell? ⟨bx, 0, none⟩ = some (.int .i64 i1) ∧ w'.cell? ⟨bx, 1, none⟩ = some (.int .i64 i2) ∧ w'.cell? ⟨bx, 2, none⟩ = some (.int .i64 i3)) := Lib.hid fun w' hf => by
    have q := hf.bk HX4.out (by simp)
    exact ⟨q.cell 0, q.cell 1, q.cell 2⟩
  clear HB3 HX3 HF3
  refine wp_region_held_drew (S := (fun w' => w'.cell? ⟨bx, 0, none⟩ = some (.int .i64 i1) ∧ w'.cell? ⟨bx, 1, none⟩ = some (.int .i64 i2) ∧ w'.cell? ⟨bx, 2, none⟩ = some (.int .i64 i3))) (by kernel_rfl) ?_ (fun hHeld => ?_)
  · ((first
  | exact HC3.out _ hf5s
  | exact HC3.out _ hf5
  | exact HC3.out _ hfa
  | exact HC3.out _ (Fr.refl _ _)
  | fail))
  refine wpAnyH_take (i := 0) (v := ?_) rfl (by kernel_rfl) (by kernel_rfl) (by kernel_rfl) (fun _ _ _ h => h) (Or.inl ⟨by rfl, ?_⟩) (by assumption) ?_
  rotate_left
  · (intro w hSw; (try dsimp only at hSw); go_simp; try rfl)
  try simp only [Act.put, List.setIfInBounds_toArray, List.set_cons_zero, List.set_cons_succ, List.getElem_toArray, List.getElem_cons_zero, List.getElem_cons_succ]
  refine wpAnyH_take (i := 1) (v := ?_) rfl (by kernel_rfl) (by kernel_rfl) (by kernel_rfl) (fun _ _ _ h => h) (Or.inl ⟨by rfl, ?_⟩) (by assumption) ?_
  rotate_left
  · (intro w hSw; (try dsimp only at hSw); go_simp; try rfl)
  try simp only [Act.put, List.setIfInBounds_toArray, List.set_cons_zero, List.set_cons_succ, List.getElem_toArray, List.getElem_cons_zero, List.getElem_cons_succ]
  refine wpAnyH_take (i := 2) (v := ?_) rfl (by kernel_rfl) (by kernel_rfl) (by kernel_rfl) (fun _ _ _ h => h) (Or.inl ⟨by rfl, ?_⟩) (by assumption) ?_
  rotate_left
  · (intro w hSw; (try dsimp only at hSw); go_simp; try rfl)
  try simp only [Act.put, List.setIfInBounds_toArray, List.set_cons_zero, List.set_cons_succ, List.getElem_toArray, List.getElem_cons_zero, List.getElem_cons_succ]
  refine wpAnyH_take (i := 3) (v := ?_) rfl (by kernel_rfl) (by kernel_rfl) (by kernel_rfl) (fun _ _ _ h => h) (Or.inl ⟨by rfl, ?_⟩) (by assumption) ?_
  rotate_left
  · (intro w hSw; (try dsimp only at hSw); go_simp; try rfl)
  try simp only [Act.put, List.setIfInBounds_toArray, List.set_cons_zero, List.set_cons_succ, List.getElem_toArray, List.getElem_cons_zero, List.getElem_cons_succ]
  refine wpAnyH_take (i := 5) (v := ?_) rfl (by kernel_rfl) (by kernel_rfl) (by kernel_rfl) (fun _ _ _ h => h) (Or.inl ⟨by rfl, ?_⟩) (by assumption) ?_
  rotate_left
  · (intro w hSw; (try dsimp only at hSw); go_simp; try rfl)
  try simp only [Act.put, List.setIfInBounds_toArray, List.set_cons_zero, List.set_cons_succ, List.getElem_toArray, List.getElem_cons_zero, List.getElem_cons_succ]
  refine wpAnyH_take (i := 6) (v := ?_) rfl (by kernel_rfl) (by kernel_rfl) (by kernel_rfl) (fun _ _ _ h => h) (Or.inl ⟨by rfl, ?_⟩) (by assumption) ?_
  rotate_left
  · (intro w hSw; (try dsimp only at hSw); go_simp; try rfl)
  try simp only [Act.put, List.setIfInBounds_toArray, List.set_cons_zero, List.set_cons_succ, List.getElem_toArray, List.getElem_cons_zero, List.getElem_cons_succ]
  refine wpAnyH_ready (rs := [4, 7]) (by kernel_rfl) (by simp) ?_
  refine (AllReadyH.cons rfl (fun K hK => ?_) (AllReadyH.cons rfl (fun K hK => ?_) AllReadyH.nil))
  ·
    go_simp
    refine hK.out _ _ ?_ (fun hHeld => ?_)
    · ((first
  | exact HC3.out _ hf5s
  | exact HC3.out _ hf5
  | exact HC3.out _ hfa
  | exact HC3.out _ (Fr.refl _ _)
  | fail))
    clear hK K
    try simp only [Act.put, List.setIfInBounds_toArray, List.set_cons_zero, List.set_cons_succ, List.getElem_toArray, List.getElem_cons_zero, List.getElem_cons_succ]
    refine wpAnyH_ready (rs := [7]) (by kernel_rfl) (by simp) ?_
    refine (AllReadyH.cons rfl (fun K hK => ?_) AllReadyH.nil)
    go_simp
    refine hK.out _ _ ?_ (fun hHeld => ?_)
    · ((first
  | exact HC3.out _ hf5s
  | exact HC3.out _ hf5
  | exact HC3.out _ hfa
  | exact HC3.out _ (Fr.refl _ _)
  | fail))
    clear hK K
    try simp only [Act.put, List.setIfInBounds_toArray, List.set_cons_zero, List.set_cons_succ, List.getElem_toArray, List.getElem_cons_zero, List.getElem_cons_succ]
    refine wpAnyH_ready (rs := [8]) (by kernel_rfl) (by simp) ?_
    refine (AllReadyH.cons rfl (fun K hK => ?_) AllReadyH.nil)
    refine WK.step_app2 rfl _ _ rfl (m + 4) _ L.way rfl (HB4.out.way.below ba) w3.drew.heap.size 1 ((i1, i2, i3), 0) rfl (WK.rd_boxAt _ _ 1 _ _ rfl) (by have := HL.out.2.2.1; omega) HSa.out ?_
    intro v5 w5 ho5 hb5 hg5 hn5
    obtain ⟨a5, c5, ev5⟩ := ho5.slice
    simp only [List.length_append, List.length_singleton] at ev5
    subst ev5
    have hf5 : Fr (fun k => k ≠ bx) w3.drew w5 := hfa.trans (Fr.grown hg5) (fun j hj q => q.elim id fun r => fun e => row_far0 HB4.out.way HX4.out (by decide) (r.symm.trans (congrArg some e)))
    have hf5s := hf5.trans (Fr.set w5 ⟨m + 3, 3, none⟩ (.slice a5 (L.way.length + 1) c5)) (U := fun k => k ≠ bx) (fun j hj q => q.elim id fun r => by have := HZ.out; simp at r; omega)
    have hw5 : Fr (fun k => (Value.slice aw L.way.length cw).ownBlock = some k) w3.drew w5 := (Fr.ofBelow ba).trans (Fr.grown hg5) (fun j hj q => q.elim (fun r => absurd hj (Nat.not_lt.2 r)) (fun r => r.symm))
    have hbk5 := hw5.bk HB4.out.bk (fun q => by have := HB4.out.way.from _ q; omega)
    have e5 : w5.cell? ⟨m + 3, 3, none⟩ = some (.slice aw L.way.length cw) := hbk5.cell 3
    have f5 := hbk5.fz 3
    have l5 := hbk5.lt
    refine hK.out _ _ ?_ (fun hHeld => ?_)
    · ((first
  | exact HC3.out _ hf5s
  | exact HC3.out _ hf5
  | exact HC3.out _ hfa
  | exact HC3.out _ (Fr.refl _ _)
  | fail))
    clear hK K
    try simp only [Act.put, List.setIfInBounds_toArray, List.set_cons_zero, List.set_cons_succ, List.getElem_toArray, List.getElem_cons_zero, List.getElem_cons_succ]
    refine wpAnyH_take (i := 9) (v := ?_) rfl (by kernel_rfl) (by kernel_rfl) (by kernel_rfl) (fun _ _ _ h => h) (Or.inl ⟨by rfl, ?_⟩) (by assumption) ?_
    rotate_left
    · (intro w hSw; (try dsimp only at hSw); go_simp; try rfl)
    try simp only [Act.put, List.setIfInBounds_toArray, List.set_cons_zero, List.set_cons_succ, List.getElem_toArray, List.getElem_cons_zero, List.getElem_cons_succ]
    refine wpAnyH_take (i := 10) (v := ?_) rfl (by kernel_rfl) (by kernel_rfl) (by kernel_rfl) (fun _ _ _ h => h) (Or.inl ⟨by rfl, ?_⟩) (by assumption) ?_
    rotate_left
    · (intro w hSw; (try dsimp only at hSw); go_simp; try rfl)
    try simp only [Act.put, List.setIfInBounds_toArray, List.set_cons_zero, List.set_cons_succ, List.getElem_toArray, List.getElem_cons_zero, List.getElem_cons_succ]
    refine wpAnyH_ready (rs := [11]) (by kernel_rfl) (by simp) ?_
    refine (AllReadyH.cons rfl (fun K hK => ?_) AllReadyH.nil)
    go_simp
    refine hK.out _ _ ?_ (fun hHeld => ?_)
    · ((first
  | exact HC3.out _ hf5s
  | exact HC3.out _ hf5
  | exact HC3.out _ hfa
  | exact HC3.out _ (Fr.refl _ _)
  | fail))
    clear hK K
    try simp only [Act.put, List.setIfInBounds_toArray, List.set_cons_zero, List.set_cons_succ, List.getElem_toArray, List.getElem_cons_zero, List.getElem_cons_succ]
    refine wpAnyH_done (by kernel_rfl) ?_ _
    have HB6 := Lib.hid (HB4.out.setWay hw5 ho5)
    have HX6 := Lib.hid (hf5s.bk HX4.out (by simp))
    have HF6 : Hid (Fr (fun k => k = m ∨ k = m + 1 ∨ k = m + 3 ∨ (Value.slice aw L.way.length cw).ownBlock = some k) w (w5.setCell ⟨m + 3, 3, none⟩ (.slice a5 (L.way.length + 1) c5))) := Lib.hid ((HF4.out.trans hw5 (U := fun k => k = m ∨ k = m + 1 ∨ k = m + 3 ∨ (Value.slice aw L.way.length cw).ownBlock = some k) (fun j _ q => by
      rcases q with (q | q) | q
      · exact .inl q
      · exact .inr (.inl q)
      · exact .inr (.inr (.inr q)))).trans (Fr.set w5 ⟨m + 3, 3, none⟩ (.slice a5 (L.way.length + 1) c5)) (fun j _ q => q.elim id fun r => .inr (.inr (.inl r))))
    have HN6 : Hid (Next w (.slice aw L.way.length cw) (.slice a5 (L.way.length + 1) c5)) := Lib.hid fun k hk => (hn5 k hk).imp id (fun q => Nat.le_trans HF4.out.size (Nat.le_trans ba.size q))
    clear HC3 hf5 hf5s hw5 hbk5 e5 f5 l5 ho5 hb5 hg5 hn5 HB4 HX4 HF4 e3 e3a e3b hfa ba HSa hlt4
    go_upto_region 4 with fail
    generalize hw6 : w5.setCell ⟨m + 3, 3, none⟩ (.slice a5 (L.way.length + 1) c5) = w6 at *
    clear hw6
    have HB7 := Lib.hid (HB6.out.below (Below.refl w6.heap.size w6).drew)
    have HX7 := Lib.hid (Bk.below HX6.out (Below.refl w6.heap.size w6).drew)
    have HF7 : Hid (Fr (fun k => k = m ∨ k = m + 1 ∨ k = m + 3 ∨ (Value.slice aw L.way.length cw).ownBlock = some k) w w6.drew) := Lib.hid (HF6.out.trans (Fr.ofBelow (Below.refl w6.heap.size w6).drew) (fun j hj q => q.elim id fun r => absurd (Nat.lt_of_lt_of_le hj HF6.out.size) (Nat.not_lt.2 r)))
    have e4 : w6.drew.cell? ⟨m + 3, 4, none⟩ = some (.slice ao L.opn.length co) := HB7.out.bk.cell 4
    have hlt7 := HB7.out.bk.lt
    have bb : Below w6.drew.heap.size w6.drew (w6.drew.alloc (.cells #[.int .i64 i1, .int .i64 i2, .int .i64 i3] 25)) := (Below.refl _ _).alloc (Nat.le_refl _) _
    have HSb : Hid (m + 4 ≤ (w6.drew.alloc (.cells #[.int .i64 i1, .int .i64 i2, .int .i64 i3] 25)).heap.size) := Lib.hid (by have := HX7.out.lt; have := HZ.out; have := bb.size; omega)
    have e4a : (w6.drew.alloc (.cells #[.int .i64 i1, .int .i64 i2, .int .i64 i3] 25)).cell? ⟨m + 3, 4, none⟩ = some (.slice ao L.opn.length co) := (old_cell _ _ _ _ hlt7).trans e4
    have e4b : (w6.alloc (.cells #[.int .i64 i1, .int .i64 i2, .int .i64 i3] 25)).drew.cell? ⟨m + 3, 4, none⟩ = some (.slice ao L.opn.length co) := e4a
    have hfb : Fr (fun k => k ≠ bx) w6.drew (w6.drew.alloc (.cells #[.int .i64 i1, .int .i64 i2, .int .i64 i3] 25)) := (Fr.ofBelow bb).mono (fun j hj q => absurd hj (Nat.not_lt.2 q))
    have HC4 : Hid (∀ w', Fr (fun k => k ≠ bx) w6.drew w' → w'.cell? ⟨bx, 0, none⟩ = some (.int .i64 i1) ∧ w'.cell? ⟨bx, 1, none⟩ = some (.int .i64 i2) ∧ w'.cell? ⟨bx, 2, none⟩ = some (.int .i64 i3)) := Lib.hid fun w' hf => by
      have q := hf.bk HX7.out (by simp)
      exact ⟨q.cell 0, q.cell 1, q.cell 2⟩
    clear HB6 HX6 HF6
    refine wp_region_held_drew (S := (fun w' => w'.cell? ⟨bx, 0, none⟩ = some (.int .i64 i1) ∧ w'.cell? ⟨bx, 1, none⟩ = some (.int .i64 i2) ∧ w'.cell? ⟨bx, 2, none⟩ = some (.int .i64 i3))) (by kernel_rfl) ?_ (fun hHeld => ?_)
    · ((first
      | exact HC4.out _ hf8s
      | exact HC4.out _ hf8
      | exact HC4.out _ hfb
      | exact HC4.out _ (Fr.refl _ _)
      | fail))
    refine wpAnyH_take (i := 0) (v := ?_) rfl (by kernel_rfl) (by kernel_rfl) (by kernel_rfl) (fun _ _ _ h => h) (Or.inl ⟨by rfl, ?_⟩) (by assumption) ?_
    rotate_left
    · (intro w hSw; (try dsimp only at hSw); go_simp; try rfl)
    try simp only [Act.put, List.setIfInBounds_toArray, List.set_cons_zero, List.set_cons_succ, List.getElem_toArray, List.getElem_cons_zero, List.getElem_cons_succ]
    refine wpAnyH_take (i := 1) (v := ?_) rfl (by kernel_rfl) (by kernel_rfl) (by kernel_rfl) (fun _ _ _ h => h) (Or.inl ⟨by rfl, ?_⟩) (by assumption) ?_
    rotate_left
    · (intro w hSw; (try dsimp only at hSw); go_simp; try rfl)
    try simp only [Act.put, List.setIfInBounds_toArray, List.set_cons_zero, List.set_cons_succ, List.getElem_toArray, List.getElem_cons_zero, List.getElem_cons_succ]
    refine wpAnyH_take (i := 2) (v := ?_) rfl (by kernel_rfl) (by kernel_rfl) (by kernel_rfl) (fun _ _ _ h => h) (Or.inl ⟨by rfl, ?_⟩) (by assumption) ?_
    rotate_left
    · (intro w hSw; (try dsimp only at hSw); go_simp; try rfl)
    try simp only [Act.put, List.setIfInBounds_toArray, List.set_cons_zero, List.set_cons_succ, List.getElem_toArray, List.getElem_cons_zero, List.getElem_cons_succ]
    refine wpAnyH_take (i := 3) (v := ?_) rfl (by kernel_rfl) (by kernel_rfl) (by kernel_rfl) (fun _ _ _ h => h) (Or.inl ⟨by rfl, ?_⟩) (by assumption) ?_
    rotate_left
    · (intro w hSw; (try dsimp only at hSw); go_simp; try rfl)
    try simp only [Act.put, List.setIfInBounds_toArray, List.set_cons_zero, List.set_cons_succ, List.getElem_toArray, List.getElem_cons_zero, List.getElem_cons_succ]
    refine wpAnyH_take (i := 5) (v := ?_) rfl (by kernel_rfl) (by kernel_rfl) (by kernel_rfl) (fun _ _ _ h => h) (Or.inl ⟨by rfl, ?_⟩) (by assumption) ?_
    rotate_left
    · (intro w hSw; (try dsimp only at hSw); go_simp; try rfl)
    try simp only [Act.put, List.setIfInBounds_toArray, List.set_cons_zero, List.set_cons_succ, List.getElem_toArray, List.getElem_cons_zero, List.getElem_cons_succ]
    refine wpAnyH_ready (rs := [4, 6]) (by kernel_rfl) (by simp) ?_
    refine (AllReadyH.cons rfl (fun K hK => ?_) (AllReadyH.cons rfl (fun K hK => ?_) AllReadyH.nil))
    ·
      go_simp
      refine hK.out _ _ ?_ (fun hHeld => ?_)
      · ((first
      | exact HC4.out _ hf8s
      | exact HC4.out _ hf8
      | exact HC4.out _ hfb
      | exact HC4.out _ (Fr.refl _ _)
      | fail))
      clear hK K
      try simp only [Act.put, List.setIfInBounds_toArray, List.set_cons_zero, List.set_cons_succ, List.getElem_toArray, List.getElem_cons_zero, List.getElem_cons_succ]
      refine wpAnyH_ready (rs := [6]) (by kernel_rfl) (by simp) ?_
      refine (AllReadyH.cons rfl (fun K hK => ?_) AllReadyH.nil)
      go_simp
      refine hK.out _ _ ?_ (fun hHeld => ?_)
      · ((first
      | exact HC4.out _ hf8s
      | exact HC4.out _ hf8
      | exact HC4.out _ hfb
      | exact HC4.out _ (Fr.refl _ _)
      | fail))
      clear hK K
      try simp only [Act.put, List.setIfInBounds_toArray, List.set_cons_zero, List.set_cons_succ, List.getElem_toArray, List.getElem_cons_zero, List.getElem_cons_succ]
      refine wpAnyH_ready (rs := [7]) (by kernel_rfl) (by simp) ?_
      refine (AllReadyH.cons rfl (fun K hK => ?_) AllReadyH.nil)
      refine IK.step_app2 rfl _ _ rfl (m + 4) _ L.opn rfl (HB7.out.opn.below bb) w6.drew.heap.size 1 (i1, i2, i3) rfl (IK.rd_boxAt _ _ 1 _ _ rfl) (by have := HL.out.2.2.2; omega) HSb.out ?_
      intro v8 w8 ho8 hb8 hg8 hn8
      obtain ⟨a8, c8, ev8⟩ := ho8.slice
      simp only [List.length_append, List.length_singleton] at ev8
      subst ev8
      have hf8 : Fr (fun k => k ≠ bx) w6.drew w8 := hfb.trans (Fr.grown hg8) (fun j hj q => q.elim id fun r => HVo.out j r.symm)
      have hf8s := hf8.trans (Fr.set w8 ⟨m + 3, 4, none⟩ (.slice a8 (L.opn.length + 1) c8)) (U := fun k => k ≠ bx) (fun j hj q => q.elim id fun r => by have := HZ.out; simp at r; omega)
      have hw8 : Fr (fun k => (Value.slice ao L.opn.length co).ownBlock = some k) w6.drew w8 := (Fr.ofBelow bb).trans (Fr.grown hg8) (fun j hj q => q.elim (fun r => absurd hj (Nat.not_lt.2 r)) (fun r => r.symm))
      have hbk8 := hw8.bk HB7.out.bk (fun q => by have := HB7.out.opn.from _ q; omega)
      have e8 : w8.cell? ⟨m + 3, 4, none⟩ = some (.slice ao L.opn.length co) := hbk8.cell 4
      have f8 := hbk8.fz 4
      have l8 := hbk8.lt
      refine hK.out _ _ ?_ (fun hHeld => ?_)
      · ((first
      | exact HC4.out _ hf8s
      | exact HC4.out _ hf8
      | exact HC4.out _ hfb
      | exact HC4.out _ (Fr.refl _ _)
      | fail))
      clear hK K
      try simp only [Act.put, List.setIfInBounds_toArray, List.set_cons_zero, List.set_cons_succ, List.getElem_toArray, List.getElem_cons_zero, List.getElem_cons_succ]
      refine wpAnyH_take (i := 8) (v := ?_) rfl (by kernel_rfl) (by kernel_rfl) (by kernel_rfl) (fun _ _ _ h => h) (Or.inl ⟨by rfl, ?_⟩) (by assumption) ?_
      rotate_left
      · (intro w hSw; (try dsimp only at hSw); go_simp; try rfl)
      try simp only [Act.put, List.setIfInBounds_toArray, List.set_cons_zero, List.set_cons_succ, List.getElem_toArray, List.getElem_cons_zero, List.getElem_cons_succ]
      refine wpAnyH_take (i := 9) (v := ?_) rfl (by kernel_rfl) (by kernel_rfl) (by kernel_rfl) (fun _ _ _ h => h) (Or.inl ⟨by rfl, ?_⟩) (by assumption) ?_
      rotate_left
      · (intro w hSw; (try dsimp only at hSw); go_simp; try rfl)
      try simp only [Act.put, List.setIfInBounds_toArray, List.set_cons_zero, List.set_cons_succ, List.getElem_toArray, List.getElem_cons_zero, List.getElem_cons_succ]
      refine wpAnyH_ready (rs := [10]) (by kernel_rfl) (by simp) ?_
      refine (AllReadyH.cons rfl (fun K hK => ?_) AllReadyH.nil)
      go_simp
      refine hK.out _ _ ?_ (fun hHeld => ?_)
      · ((first
      | exact HC4.out _ hf8s
      | exact HC4.out _ hf8
      | exact HC4.out _ hfb
      | exact HC4.out _ (Fr.refl _ _)
      | fail))
      clear hK K
      try simp only [Act.put, List.setIfInBounds_toArray, List.set_cons_zero, List.set_cons_succ, List.getElem_toArray, List.getElem_cons_zero, List.getElem_cons_succ]
      refine wpAnyH_done (by kernel_rfl) ?_ _
      have HB9 := Lib.hid (HB7.out.setOpn hw8 ho8)
      have HF9 : Hid (Fr (fun k => k = m ∨ k = m + 1 ∨ k = m + 3 ∨ (Value.slice aw L.way.length cw).ownBlock = some k ∨ (Value.slice ao L.opn.length co).ownBlock = some k) w (w8.setCell ⟨m + 3, 4, none⟩ (.slice a8 (L.opn.length + 1) c8))) := Lib.hid ((HF7.out.trans hw8 (U := fun k => k = m ∨ k = m + 1 ∨ k = m + 3 ∨ (Value.slice aw L.way.length cw).ownBlock = some k ∨ (Value.slice ao L.opn.length co).ownBlock = some k) (fun j _ q => by
        rcases q with (q | q | q | q) | q
        · exact .inl q
        · exact .inr (.inl q)
        · exact .inr (.inr (.inl q))
        · exact .inr (.inr (.inr (.inl q)))
        · exact .inr (.inr (.inr (.inr q))))).trans (Fr.set w8 ⟨m + 3, 4, none⟩ (.slice a8 (L.opn.length + 1) c8)) (fun j _ q => q.elim id fun r => .inr (.inr (.inl r))))
      have HN9 : Hid (Next w (.slice ao L.opn.length co) (.slice a8 (L.opn.length + 1) c8)) := Lib.hid fun k hk => (hn8 k hk).imp id (fun q => Nat.le_trans HF7.out.size (Nat.le_trans bb.size q))
      clear HC4 hf8 hf8s hw8 hbk8 e8 f8 l8 ho8 hb8 hg8 hn8 HB7 HX7 HF7 e4 e4a e4b hfb bb HSb hlt7
      go_wp2
      go_end0
      obtain rfl := HNm.out
      exact ⟨_, _, Lib.hid rfl, HB9.out, HF9.out, HN6.out, HN9.out⟩
    ·
      go_simp
      refine hK.out _ _ ?_ (fun hHeld => ?_)
      · ((first
      | exact HC4.out _ hf8s
      | exact HC4.out _ hf8
      | exact HC4.out _ hfb
      | exact HC4.out _ (Fr.refl _ _)
      | fail))
      clear hK K
      try simp only [Act.put, List.setIfInBounds_toArray, List.set_cons_zero, List.set_cons_succ, List.getElem_toArray, List.getElem_cons_zero, List.getElem_cons_succ]
      refine wpAnyH_ready (rs := [4]) (by kernel_rfl) (by simp) ?_
      refine (AllReadyH.cons rfl (fun K hK => ?_) AllReadyH.nil)
      go_simp
      refine hK.out _ _ ?_ (fun hHeld => ?_)
      · ((first
      | exact HC4.out _ hf8s
      | exact HC4.out _ hf8
      | exact HC4.out _ hfb
      | exact HC4.out _ (Fr.refl _ _)
      | fail))
      clear hK K
      try simp only [Act.put, List.setIfInBounds_toArray, List.set_cons_zero, List.set_cons_succ, List.getElem_toArray, List.getElem_cons_zero, List.getElem_cons_succ]
      refine wpAnyH_ready (rs := [7]) (by kernel_rfl) (by simp) ?_
      refine (AllReadyH.cons rfl (fun K hK => ?_) AllReadyH.nil)
      refine IK.step_app2 rfl _ _ rfl (m + 4) _ L.opn rfl (HB7.out.opn.below bb) w6.drew.heap.size 1 (i1, i2, i3) rfl (IK.rd_boxAt _ _ 1 _ _ rfl) (by have := HL.out.2.2.2; omega) HSb.out ?_
      intro v8 w8 ho8 hb8 hg8 hn8
      obtain ⟨a8, c8, ev8⟩ := ho8.slice
      simp only [List.length_append, List.length_singleton] at ev8
      subst ev8
      have hf8 : Fr (fun k => k ≠ bx) w6.drew w8 := hfb.trans (Fr.grown hg8) (fun j hj q => q.elim id fun r => HVo.out j r.symm)
      have hf8s := hf8.trans (Fr.set w8 ⟨m + 3, 4, none⟩ (.slice a8 (L.opn.length + 1) c8)) (U := fun k => k ≠ bx) (fun j hj q => q.elim id fun r => by have := HZ.out; simp at r; omega)
      have hw8 : Fr (fun k => (Value.slice ao L.opn.length co).ownBlock = some k) w6.drew w8 := (Fr.ofBelow bb).trans (Fr.grown hg8) (fun j hj q => q.elim (fun r => absurd hj (Nat.not_lt.2 r)) (fun r => r.symm))
      have hbk8 := hw8.bk HB7.out.bk (fun q => by have := HB7.out.opn.from _ q; omega)
      have e8 : w8.cell? ⟨m + 3, 4, none⟩ = some (.slice ao L.opn.length co) := hbk8.cell 4
      have f8 := hbk8.fz 4
      have l8 := hbk8.lt
      refine hK.out _ _ ?_ (fun hHeld => ?_)
      · ((first
      | exact HC4.out _ hf8s
      | exact HC4.out _ hf8
      | exact HC4.out _ hfb
      | exact HC4.out _ (Fr.refl _ _)
      | fail))
      clear hK K
      try simp only [Act.put, List.setIfInBounds_toArray, List.set_cons_zero, List.set_cons_succ, List.getElem_toArray, List.getElem_cons_zero, List.getElem_cons_succ]
      refine wpAnyH_take (i := 8) (v := ?_) rfl (by kernel_rfl) (by kernel_rfl) (by kernel_rfl) (fun _ _ _ h => h) (Or.inl ⟨by rfl, ?_⟩) (by assumption) ?_
      rotate_left
      · (intro w hSw; (try dsimp only at hSw); go_simp; try rfl)
      try simp only [Act.put, List.setIfInBounds_toArray, List.set_cons_zero, List.set_cons_succ, List.getElem_toArray, List.getElem_cons_zero, List.getElem_cons_succ]
      refine wpAnyH_take (i := 9) (v := ?_) rfl (by kernel_rfl) (by kernel_rfl) (by kernel_rfl) (fun _ _ _ h => h) (Or.inl ⟨by rfl, ?_⟩) (by assumption) ?_
      rotate_left
      · (intro w hSw; (try dsimp only at hSw); go_simp; try rfl)
      try simp only [Act.put, List.setIfInBounds_toArray, List.set_cons_zero, List.set_cons_succ, List.getElem_toArray, List.getElem_cons_zero, List.getElem_cons_succ]
      refine wpAnyH_ready (rs := [10]) (by kernel_rfl) (by simp) ?_
      refine (AllReadyH.cons rfl (fun K hK => ?_) AllReadyH.nil)
      go_simp
      refine hK.out _ _ ?_ (fun hHeld => ?_)
      · ((first
      | exact HC4.out _ hf8s
      | exact HC4.out _ hf8
      | exact HC4.out _ hfb
      | exact HC4.out _ (Fr.refl _ _)
      | fail))
      clear hK K
      try simp only [Act.put, List.setIfInBounds_toArray, List.set_cons_zero, List.set_cons_succ, List.getElem_toArray, List.getElem_cons_zero, List.getElem_cons_succ]
      refine wpAnyH_done (by kernel_rfl) ?_ _
      have HB9 := Lib.hid (HB7.out.setOpn hw8 ho8)
      have HF9 : Hid (Fr (fun k => k = m ∨ k = m + 1 ∨ k = m + 3 ∨ (Value.slice aw L.way.length cw).ownBlock = some k ∨ (Value.slice ao L.opn.length co).ownBlock = some k) w (w8.setCell ⟨m + 3, 4, none⟩ (.slice a8 (L.opn.length + 1) c8))) := Lib.hid ((HF7.out.trans hw8 (U := fun k => k = m ∨ k = m + 1 ∨ k = m + 3 ∨ (Value.slice aw L.way.length cw).ownBlock = some k ∨ (Value.slice ao L.opn.length co).ownBlock = some k) (fun j _ q => by
        rcases q with (q | q | q | q) | q
        · exact .inl q
        · exact .inr (.inl q)
        · exact .inr (.inr (.inl q))
        · exact .inr (.inr (.inr (.inl q)))
        · exact .inr (.inr (.inr (.inr q))))).trans (Fr.set w8 ⟨m + 3, 4, none⟩ (.slice a8 (L.opn.length + 1) c8)) (fun j _ q => q.elim id fun r => .inr (.inr (.inl r))))
      have HN9 : Hid (Next w (.slice ao L.opn.length co) (.slice a8 (L.opn.length + 1) c8)) := Lib.hid fun k hk => (hn8 k hk).imp id (fun q => Nat.le_trans HF7.out.size (Nat.le_trans bb.size q))
      clear HC4 hf8 hf8s hw8 hbk8 e8 f8 l8 ho8 hb8 hg8 hn8 HB7 HX7 HF7 e4 e4a e4b hfb bb HSb hlt7
      go_wp2
      go_end0
      obtain rfl := HNm.out
      exact ⟨_, _, Lib.hid rfl, HB9.out, HF9.out, HN6.out, HN9.out⟩
  ·
    go_simp
    refine hK.out _ _ ?_ (fun hHeld => ?_)
    · ((first
  | exact HC3.out _ hf5s
  | exact HC3.out _ hf5
  | exact HC3.out _ hfa
  | exact HC3.out _ (Fr.refl _ _)
  | fail))
    clear hK K
    try simp only [Act.put, List.setIfInBounds_toArray, List.set_cons_zero, List.set_cons_succ, List.getElem_toArray, List.getElem_cons_zero, List.getElem_cons_succ]
    refine wpAnyH_ready (rs := [4]) (by kernel_rfl) (by simp) ?_
    refine (AllReadyH.cons rfl (fun K hK => ?_) AllReadyH.nil)
    go_simp
    refine hK.out _ _ ?_ (fun hHeld => ?_)
    · ((first
  | exact HC3.out _ hf5s
  | exact HC3.out _ hf5
  | exact HC3.out _ hfa
  | exact HC3.out _ (Fr.refl _ _)
  | fail))
    clear hK K
    try simp only [Act.put, List.setIfInBounds_toArray, List.set_cons_zero, List.set_cons_succ, List.getElem_toArray, List.getElem_cons_zero, List.getElem_cons_succ]
    refine wpAnyH_ready (rs := [8]) (by kernel_rfl) (by simp) ?_
    refine (AllReadyH.cons rfl (fun K hK => ?_) AllReadyH.nil)
    refine WK.step_app2 rfl _ _ rfl (m + 4) _ L.way rfl (HB4.out.way.below ba) w3.drew.heap.size 1 ((i1, i2, i3), 0) rfl (WK.rd_boxAt _ _ 1 _ _ rfl) (by have := HL.out.2.2.1; omega) HSa.out ?_
    intro v5 w5 ho5 hb5 hg5 hn5
    obtain ⟨a5, c5, ev5⟩ := ho5.slice
    simp only [List.length_append, List.length_singleton] at ev5
    subst ev5
    have hf5 : Fr (fun k => k ≠ bx) w3.drew w5 := hfa.trans (Fr.grown hg5) (fun j hj q => q.elim id fun r => fun e => row_far0 HB4.out.way HX4.out (by decide) (r.symm.trans (congrArg some e)))
    have hf5s := hf5.trans (Fr.set w5 ⟨m + 3, 3, none⟩ (.slice a5 (L.way.length + 1) c5)) (U := fun k => k ≠ bx) (fun j hj q => q.elim id fun r => by have := HZ.out; simp at r; omega)
    have hw5 : Fr (fun k => (Value.slice aw L.way.length cw).ownBlock = some k) w3.drew w5 := (Fr.ofBelow ba).trans (Fr.grown hg5) (fun j hj q => q.elim (fun r => absurd hj (Nat.not_lt.2 r)) (fun r => r.symm))
    have hbk5 := hw5.bk HB4.out.bk (fun q => by have := HB4.out.way.from _ q; omega)
    have e5 : w5.cell? ⟨m + 3, 3, none⟩ = some (.slice aw L.way.length cw) := hbk5.cell 3
    have f5 := hbk5.fz 3
    have l5 := hbk5.lt
    refine hK.out _ _ ?_ (fun hHeld => ?_)
    · ((first
  | exact HC3.out _ hf5s
  | exact HC3.out _ hf5
  | exact HC3.out _ hfa
  | exact HC3.out _ (Fr.refl _ _)
  | fail))
    clear hK K
    try simp only [Act.put, List.setIfInBounds_toArray, List.set_cons_zero, List.set_cons_succ, List.getElem_toArray, List.getElem_cons_zero, List.getElem_cons_succ]
    refine wpAnyH_take (i := 9) (v := ?_) rfl (by kernel_rfl) (by kernel_rfl) (by kernel_rfl) (fun _ _ _ h => h) (Or.inl ⟨by rfl, ?_⟩) (by assumption) ?_
    rotate_left
    · (intro w hSw; (try dsimp only at hSw); go_simp; try rfl)
    try simp only [Act.put, List.setIfInBounds_toArray, List.set_cons_zero, List.set_cons_succ, List.getElem_toArray, List.getElem_cons_zero, List.getElem_cons_succ]
    refine wpAnyH_take (i := 10) (v := ?_) rfl (by kernel_rfl) (by kernel_rfl) (by kernel_rfl) (fun _ _ _ h => h) (Or.inl ⟨by rfl, ?_⟩) (by assumption) ?_
    rotate_left
    · (intro w hSw; (try dsimp only at hSw); go_simp; try rfl)
    try simp only [Act.put, List.setIfInBounds_toArray, List.set_cons_zero, List.set_cons_succ, List.getElem_toArray, List.getElem_cons_zero, List.getElem_cons_succ]
    refine wpAnyH_ready (rs := [11]) (by kernel_rfl) (by simp) ?_
    refine (AllReadyH.cons rfl (fun K hK => ?_) AllReadyH.nil)
    go_simp
    refine hK.out _ _ ?_ (fun hHeld => ?_)
    · ((first
  | exact HC3.out _ hf5s
  | exact HC3.out _ hf5
  | exact HC3.out _ hfa
  | exact HC3.out _ (Fr.refl _ _)
  | fail))
    clear hK K
    try simp only [Act.put, List.setIfInBounds_toArray, List.set_cons_zero, List.set_cons_succ, List.getElem_toArray, List.getElem_cons_zero, List.getElem_cons_succ]
    refine wpAnyH_done (by kernel_rfl) ?_ _
    have HB6 := Lib.hid (HB4.out.setWay hw5 ho5)
    have HX6 := Lib.hid (hf5s.bk HX4.out (by simp))
    have HF6 : Hid (Fr (fun k => k = m ∨ k = m + 1 ∨ k = m + 3 ∨ (Value.slice aw L.way.length cw).ownBlock = some k) w (w5.setCell ⟨m + 3, 3, none⟩ (.slice a5 (L.way.length + 1) c5))) := Lib.hid ((HF4.out.trans hw5 (U := fun k => k = m ∨ k = m + 1 ∨ k = m + 3 ∨ (Value.slice aw L.way.length cw).ownBlock = some k) (fun j _ q => by
      rcases q with (q | q) | q
      · exact .inl q
      · exact .inr (.inl q)
      · exact .inr (.inr (.inr q)))).trans (Fr.set w5 ⟨m + 3, 3, none⟩ (.slice a5 (L.way.length + 1) c5)) (fun j _ q => q.elim id fun r => .inr (.inr (.inl r))))
    have HN6 : Hid (Next w (.slice aw L.way.length cw) (.slice a5 (L.way.length + 1) c5)) := Lib.hid fun k hk => (hn5 k hk).imp id (fun q => Nat.le_trans HF4.out.size (Nat.le_trans ba.size q))
    clear HC3 hf5 hf5s hw5 hbk5 e5 f5 l5 ho5 hb5 hg5 hn5 HB4 HX4 HF4 e3 e3a e3b hfa ba HSa hlt4
    go_upto_region 4 with fail
    generalize hw6 : w5.setCell ⟨m + 3, 3, none⟩ (.slice a5 (L.way.length + 1) c5) = w6 at *
    clear hw6
    have HB7 := Lib.hid (HB6.out.below (Below.refl w6.heap.size w6).drew)
    have HX7 := Lib.hid (Bk.below HX6.out (Below.refl w6.heap.size w6).drew)
    have HF7 : Hid (Fr (fun k => k = m ∨ k = m + 1 ∨ k = m + 3 ∨ (Value.slice aw L.way.length cw).ownBlock = some k) w w6.drew) := Lib.hid (HF6.out.trans (Fr.ofBelow (Below.refl w6.heap.size w6).drew) (fun j hj q => q.elim id fun r => absurd (Nat.lt_of_lt_of_le hj HF6.out.size) (Nat.not_lt.2 r)))
    have e4 : w6.drew.cell? ⟨m + 3, 4, none⟩ = some (.slice ao L.opn.length co) := HB7.out.bk.cell 4
    have hlt7 := HB7.out.bk.lt
    have bb : Below w6.drew.heap.size w6.drew (w6.drew.alloc (.cells #[.int .i64 i1, .int .i64 i2, .int .i64 i3] 25)) := (Below.refl _ _).alloc (Nat.le_refl _) _
    have HSb : Hid (m + 4 ≤ (w6.drew.alloc (.cells #[.int .i64 i1, .int .i64 i2, .int .i64 i3] 25)).heap.size) := Lib.hid (by have := HX7.out.lt; have := HZ.out; have := bb.size; omega)
    have e4a : (w6.drew.alloc (.cells #[.int .i64 i1, .int .i64 i2, .int .i64 i3] 25)).cell? ⟨m + 3, 4, none⟩ = some (.slice ao L.opn.length co) := (old_cell _ _ _ _ hlt7).trans e4
    have e4b : (w6.alloc (.cells #[.int .i64 i1, .int .i64 i2, .int .i64 i3] 25)).drew.cell? ⟨m + 3, 4, none⟩ = some (.slice ao L.opn.length co) := e4a
    have hfb : Fr (fun k => k ≠ bx) w6.drew (w6.drew.alloc (.cells #[.int .i64 i1, .int .i64 i2, .int .i64 i3] 25)) := (Fr.ofBelow bb).mono (fun j hj q => absurd hj (Nat.not_lt.2 q))
    have HC4 : Hid (∀ w', Fr (fun k => k ≠ bx) w6.drew w' → w'.cell? ⟨bx, 0, none⟩ = some (.int .i64 i1) ∧ w'.cell? ⟨bx, 1, none⟩ = some (.int .i64 i2) ∧ w'.cell? ⟨bx, 2, none⟩ = some (.int .i64 i3)) := Lib.hid fun w' hf => by
      have q := hf.bk HX7.out (by simp)
      exact ⟨q.cell 0, q.cell 1, q.cell 2⟩
    clear HB6 HX6 HF6
    refine wp_region_held_drew (S := (fun w' => w'.cell? ⟨bx, 0, none⟩ = some (.int .i64 i1) ∧ w'.cell? ⟨bx, 1, none⟩ = some (.int .i64 i2) ∧ w'.cell? ⟨bx, 2, none⟩ = some (.int .i64 i3))) (by kernel_rfl) ?_ (fun hHeld => ?_)
    · ((first
      | exact HC4.out _ hf8s
      | exact HC4.out _ hf8
      | exact HC4.out _ hfb
      | exact HC4.out _ (Fr.refl _ _)
      | fail))
    refine wpAnyH_take (i := 0) (v := ?_) rfl (by kernel_rfl) (by kernel_rfl) (by kernel_rfl) (fun _ _ _ h => h) (Or.inl ⟨by rfl, ?_⟩) (by assumption) ?_
    rotate_left
    · (intro w hSw; (try dsimp only at hSw); go_simp; try rfl)
    try simp only [Act.put, List.setIfInBounds_toArray, List.set_cons_zero, List.set_cons_succ, List.getElem_toArray, List.getElem_cons_zero, List.getElem_cons_succ]
    refine wpAnyH_take (i := 1) (v := ?_) rfl (by kernel_rfl) (by kernel_rfl) (by kernel_rfl) (fun _ _ _ h => h) (Or.inl ⟨by rfl, ?_⟩) (by assumption) ?_
    rotate_left
    · (intro w hSw; (try dsimp only at hSw); go_simp; try rfl)
    try simp only [Act.put, List.setIfInBounds_toArray, List.set_cons_zero, List.set_cons_succ, List.getElem_toArray, List.getElem_cons_zero, List.getElem_cons_succ]
    refine wpAnyH_take (i := 2) (v := ?_) rfl (by kernel_rfl) (by kernel_rfl) (by kernel_rfl) (fun _ _ _ h => h) (Or.inl ⟨by rfl, ?_⟩) (by assumption) ?_
    rotate_left
    · (intro w hSw; (try dsimp only at hSw); go_simp; try rfl)
    try simp only [Act.put, List.setIfInBounds_toArray, List.set_cons_zero, List.set_cons_succ, List.getElem_toArray, List.getElem_cons_zero, List.getElem_cons_succ]
    refine wpAnyH_take (i := 3) (v := ?_) rfl (by kernel_rfl) (by kernel_rfl) (by kernel_rfl) (fun _ _ _ h => h) (Or.inl ⟨by rfl, ?_⟩) (by assumption) ?_
    rotate_left
    · (intro w hSw; (try dsimp only at hSw); go_simp; try rfl)
    try simp only [Act.put, List.setIfInBounds_toArray, List.set_cons_zero, List.set_cons_succ, List.getElem_toArray, List.getElem_cons_zero, List.getElem_cons_succ]
    refine wpAnyH_take (i := 5) (v := ?_) rfl (by kernel_rfl) (by kernel_rfl) (by kernel_rfl) (fun _ _ _ h => h) (Or.inl ⟨by rfl, ?_⟩) (by assumption) ?_
    rotate_left
    · (intro w hSw; (try dsimp only at hSw); go_simp; try rfl)
    try simp only [Act.put, List.setIfInBounds_toArray, List.set_cons_zero, List.set_cons_succ, List.getElem_toArray, List.getElem_cons_zero, List.getElem_cons_succ]
    refine wpAnyH_ready (rs := [4, 6]) (by kernel_rfl) (by simp) ?_
    refine (AllReadyH.cons rfl (fun K hK => ?_) (AllReadyH.cons rfl (fun K hK => ?_) AllReadyH.nil))
    ·
      go_simp
      refine hK.out _ _ ?_ (fun hHeld => ?_)
      · ((first
      | exact HC4.out _ hf8s
      | exact HC4.out _ hf8
      | exact HC4.out _ hfb
      | exact HC4.out _ (Fr.refl _ _)
      | fail))
      clear hK K
      try simp only [Act.put, List.setIfInBounds_toArray, List.set_cons_zero, List.set_cons_succ, List.getElem_toArray, List.getElem_cons_zero, List.getElem_cons_succ]
      refine wpAnyH_ready (rs := [6]) (by kernel_rfl) (by simp) ?_
      refine (AllReadyH.cons rfl (fun K hK => ?_) AllReadyH.nil)
      go_simp
      refine hK.out _ _ ?_ (fun hHeld => ?_)
      · ((first
      | exact HC4.out _ hf8s
      | exact HC4.out _ hf8
      | exact HC4.out _ hfb
      | exact HC4.out _ (Fr.refl _ _)
      | fail))
      clear hK K
      try simp only [Act.put, List.setIfInBounds_toArray, List.set_cons_zero, List.set_cons_succ, List.getElem_toArray, List.getElem_cons_zero, List.getElem_cons_succ]
      refine wpAnyH_ready (rs := [7]) (by kernel_rfl) (by simp) ?_
      refine (AllReadyH.cons rfl (fun K hK => ?_) AllReadyH.nil)
      refine IK.step_app2 rfl _ _ rfl (m + 4) _ L.opn rfl (HB7.out.opn.below bb) w6.drew.heap.size 1 (i1, i2, i3) rfl (IK.rd_boxAt _ _ 1 _ _ rfl) (by have := HL.out.2.2.2; omega) HSb.out ?_
      intro v8 w8 ho8 hb8 hg8 hn8
      obtain ⟨a8, c8, ev8⟩ := ho8.slice
      simp only [List.length_append, List.length_singleton] at ev8
      subst ev8
      have hf8 : Fr (fun k => k ≠ bx) w6.drew w8 := hfb.trans (Fr.grown hg8) (fun j hj q => q.elim id fun r => HVo.out j r.symm)
      have hf8s := hf8.trans (Fr.set w8 ⟨m + 3, 4, none⟩ (.slice a8 (L.opn.length + 1) c8)) (U := fun k => k ≠ bx) (fun j hj q => q.elim id fun r => by have := HZ.out; simp at r; omega)
      have hw8 : Fr (fun k => (Value.slice ao L.opn.length co).ownBlock = some k) w6.drew w8 := (Fr.ofBelow bb).trans (Fr.grown hg8) (fun j hj q => q.elim (fun r => absurd hj (Nat.not_lt.2 r)) (fun r => r.symm))
      have hbk8 := hw8.bk HB7.out.bk (fun q => by have := HB7.out.opn.from _ q; omega)
      have e8 : w8.cell? ⟨m + 3, 4, none⟩ = some (.slice ao L.opn.length co) := hbk8.cell 4
      have f8 := hbk8.fz 4
      have l8 := hbk8.lt
      refine hK.out _ _ ?_ (fun hHeld => ?_)
      · ((first
      | exact HC4.out _ hf8s
      | exact HC4.out _ hf8
      | exact HC4.out _ hfb
      | exact HC4.out _ (Fr.refl _ _)
      | fail))
      clear hK K
      try simp only [Act.put, List.setIfInBounds_toArray, List.set_cons_zero, List.set_cons_succ, List.getElem_toArray, List.getElem_cons_zero, List.getElem_cons_succ]
      refine wpAnyH_take (i := 8) (v := ?_) rfl (by kernel_rfl) (by kernel_rfl) (by kernel_rfl) (fun _ _ _ h => h) (Or.inl ⟨by rfl, ?_⟩) (by assumption) ?_
      rotate_left
      · (intro w hSw; (try dsimp only at hSw); go_simp; try rfl)
      try simp only [Act.put, List.setIfInBounds_toArray, List.set_cons_zero, List.set_cons_succ, List.getElem_toArray, List.getElem_cons_zero, List.getElem_cons_succ]
      refine wpAnyH_take (i := 9) (v := ?_) rfl (by kernel_rfl) (by kernel_rfl) (by kernel_rfl) (fun _ _ _ h => h) (Or.inl ⟨by rfl, ?_⟩) (by assumption) ?_
      rotate_left
      · (intro w hSw; (try dsimp only at hSw); go_simp; try rfl)
      try simp only [Act.put, List.setIfInBounds_toArray, List.set_cons_zero, List.set_cons_succ, List.getElem_toArray, List.getElem_cons_zero, List.getElem_cons_succ]
      refine wpAnyH_ready (rs := [10]) (by kernel_rfl) (by simp) ?_
      refine (AllReadyH.cons rfl (fun K hK => ?_) AllReadyH.nil)
      go_simp
      refine hK.out _ _ ?_ (fun hHeld => ?_)
      · ((first
      | exact HC4.out _ hf8s
      | exact HC4.out _ hf8
      | exact HC4.out _ hfb
      | exact HC4.out _ (Fr.refl _ _)
      | fail))
      clear hK K
      try simp only [Act.put, List.setIfInBounds_toArray, List.set_cons_zero, List.set_cons_succ, List.getElem_toArray, List.getElem_cons_zero, List.getElem_cons_succ]
      refine wpAnyH_done (by kernel_rfl) ?_ _
      have HB9 := Lib.hid (HB7.out.setOpn hw8 ho8)
      have HF9 : Hid (Fr (fun k => k = m ∨ k = m + 1 ∨ k = m + 3 ∨ (Value.slice aw L.way.length cw).ownBlock = some k ∨ (Value.slice ao L.opn.length co).ownBlock = some k) w (w8.setCell ⟨m + 3, 4, none⟩ (.slice a8 (L.opn.length + 1) c8))) := Lib.hid ((HF7.out.trans hw8 (U := fun k => k = m ∨ k = m + 1 ∨ k = m + 3 ∨ (Value.slice aw L.way.length cw).ownBlock = some k ∨ (Value.slice ao L.opn.length co).ownBlock = some k) (fun j _ q => by
        rcases q with (q | q | q | q) | q
        · exact .inl q
        · exact .inr (.inl q)
        · exact .inr (.inr (.inl q))
        · exact .inr (.inr (.inr (.inl q)))
        · exact .inr (.inr (.inr (.inr q))))).trans (Fr.set w8 ⟨m + 3, 4, none⟩ (.slice a8 (L.opn.length + 1) c8)) (fun j _ q => q.elim id fun r => .inr (.inr (.inl r))))
      have HN9 : Hid (Next w (.slice ao L.opn.length co) (.slice a8 (L.opn.length + 1) c8)) := Lib.hid fun k hk => (hn8 k hk).imp id (fun q => Nat.le_trans HF7.out.size (Nat.le_trans bb.size q))
      clear HC4 hf8 hf8s hw8 hbk8 e8 f8 l8 ho8 hb8 hg8 hn8 HB7 HX7 HF7 e4 e4a e4b hfb bb HSb hlt7
      go_wp2
      go_end0
      obtain rfl := HNm.out
      exact ⟨_, _, Lib.hid rfl, HB9.out, HF9.out, HN6.out, HN9.out⟩
    ·
      go_simp
      refine hK.out _ _ ?_ (fun hHeld => ?_)
      · ((first
      | exact HC4.out _ hf8s
      | exact HC4.out _ hf8
      | exact HC4.out _ hfb
      | exact HC4.out _ (Fr.refl _ _)
      | fail))
      clear hK K
      try simp only [Act.put, List.setIfInBounds_toArray, List.set_cons_zero, List.set_cons_succ, List.getElem_toArray, List.getElem_cons_zero, List.getElem_cons_succ]
      refine wpAnyH_ready (rs := [4]) (by kernel_rfl) (by simp) ?_
      refine (AllReadyH.cons rfl (fun K hK => ?_) AllReadyH.nil)
      go_simp
      refine hK.out _ _ ?_ (fun hHeld => ?_)
      · ((first
      | exact HC4.out _ hf8s
      | exact HC4.out _ hf8
      | exact HC4.out _ hfb
      | exact HC4.out _ (Fr.refl _ _)
      | fail))
      clear hK K
      try simp only [Act.put, List.setIfInBounds_toArray, List.set_cons_zero, List.set_cons_succ, List.getElem_toArray, List.getElem_cons_zero, List.getElem_cons_succ]
      refine wpAnyH_ready (rs := [7]) (by kernel_rfl) (by simp) ?_
      refine (AllReadyH.cons rfl (fun K hK => ?_) AllReadyH.nil)
      refine IK.step_app2 rfl _ _ rfl (m + 4) _ L.opn rfl (HB7.out.opn.below bb) w6.drew.heap.size 1 (i1, i2, i3) rfl (IK.rd_boxAt _ _ 1 _ _ rfl) (by have := HL.out.2.2.2; omega) HSb.out ?_
      intro v8 w8 ho8 hb8 hg8 hn8
      obtain ⟨a8, c8, ev8⟩ := ho8.slice
      simp only [List.length_append, List.length_singleton] at ev8
      subst ev8
      have hf8 : Fr (fun k => k ≠ bx) w6.drew w8 := hfb.trans (Fr.grown hg8) (fun j hj q => q.elim id fun r => HVo.out j r.symm)
      have hf8s := hf8.trans (Fr.set w8 ⟨m + 3, 4, none⟩ (.slice a8 (L.opn.length + 1) c8)) (U := fun k => k ≠ bx) (fun j hj q => q.elim id fun r => by have := HZ.out; simp at r; omega)
      have hw8 : Fr (fun k => (Value.slice ao L.opn.length co).ownBlock = some k) w6.drew w8 := (Fr.ofBelow bb).trans (Fr.grown hg8) (fun j hj q => q.elim (fun r => absurd hj (Nat.not_lt.2 r)) (fun r => r.symm))
      have hbk8 := hw8.bk HB7.out.bk (fun q => by have := HB7.out.opn.from _ q; omega)
      have e8 : w8.cell? ⟨m + 3, 4, none⟩ = some (.slice ao L.opn.length co) := hbk8.cell 4
      have f8 := hbk8.fz 4
      have l8 := hbk8.lt
      refine hK.out _ _ ?_ (fun hHeld => ?_)
      · ((first
      | exact HC4.out _ hf8s
      | exact HC4.out _ hf8
      | exact HC4.out _ hfb
      | exact HC4.out _ (Fr.refl _ _)
      | fail))
      clear hK K
      try simp only [Act.put, List.setIfInBounds_toArray, List.set_cons_zero, List.set_cons_succ, List.getElem_toArray, List.getElem_cons_zero, List.getElem_cons_succ]
      refine wpAnyH_take (i := 8) (v := ?_) rfl (by kernel_rfl) (by kernel_rfl) (by kernel_rfl) (fun _ _ _ h => h) (Or.inl ⟨by rfl, ?_⟩) (by assumption) ?_
      rotate_left
      · (intro w hSw; (try dsimp only at hSw); go_simp; try rfl)
      try simp only [Act.put, List.setIfInBounds_toArray, List.set_cons_zero, List.set_cons_succ, List.getElem_toArray, List.getElem_cons_zero, List.getElem_cons_succ]
      refine wpAnyH_take (i := 9) (v := ?_) rfl (by kernel_rfl) (by kernel_rfl) (by kernel_rfl) (fun _ _ _ h => h) (Or.inl ⟨by rfl, ?_⟩) (by assumption) ?_
      rotate_left
      · (intro w hSw; (try dsimp only at hSw); go_simp; try rfl)
      try simp only [Act.put, List.setIfInBounds_toArray, List.set_cons_zero, List.set_cons_succ, List.getElem_toArray, List.getElem_cons_zero, List.getElem_cons_succ]
      refine wpAnyH_ready (rs := [10]) (by kernel_rfl) (by simp) ?_
      refine (AllReadyH.cons rfl (fun K hK => ?_) AllReadyH.nil)
      go_simp
      refine hK.out _ _ ?_ (fun hHeld => ?_)
      · ((first
      | exact HC4.out _ hf8s
      | exact HC4.out _ hf8
      | exact HC4.out _ hfb
      | exact HC4.out _ (Fr.refl _ _)
      | fail))
      clear hK K
      try simp only [Act.put, List.setIfInBounds_toArray, List.set_cons_zero, List.set_cons_succ, List.getElem_toArray, List.getElem_cons_zero, List.getElem_cons_succ]
      refine wpAnyH_done (by kernel_rfl) ?_ _
      have HB9 := Lib.hid (HB7.out.setOpn hw8 ho8)
      have HF9 : Hid (Fr (fun k => k = m ∨ k = m + 1 ∨ k = m + 3 ∨ (Value.slice aw L.way.length cw).ownBlock = some k ∨ (Value.slice ao L.opn.length co).ownBlock = some k) w (w8.setCell ⟨m + 3, 4, none⟩ (.slice a8 (L.opn.length + 1) c8))) := Lib.hid ((HF7.out.trans hw8 (U := fun k => k = m ∨ k = m + 1 ∨ k = m + 3 ∨ (Value.slice aw L.way.length cw).ownBlock = some k ∨ (Value.slice ao L.opn.length co).ownBlock = some k) (fun j _ q => by
        rcases q with (q | q | q | q) | q
        · exact .inl q
        · exact .inr (.inl q)
        · exact .inr (.inr (.inl q))
        · exact .inr (.inr (.inr (.inl q)))
        · exact .inr (.inr (.inr (.inr q))))).trans (Fr.set w8 ⟨m + 3, 4, none⟩ (.slice a8 (L.opn.length + 1) c8)) (fun j _ q => q.elim id fun r => .inr (.inr (.inl r))))
      have HN9 : Hid (Next w (.slice ao L.opn.length co) (.slice a8 (L.opn.length + 1) c8)) := Lib.hid fun k hk => (hn8 k hk).imp id (fun q => Nat.le_trans HF7.out.size (Nat.le_trans bb.size q))
      clear HC4 hf8 hf8s hw8 hbk8 e8 f8 l8 ho8 hb8 hg8 hn8 HB7 HX7 HF7 e4 e4a e4b hfb bb HSb hlt7
      go_wp2
      go_end0
      obtain rfl := HNm.out
      exact ⟨_, _, Lib.hid rfl, HB9.out, HF9.out, HN6.out, HN9.out⟩
end Go.Proofs.Ytlckjpjcfalfnaa
