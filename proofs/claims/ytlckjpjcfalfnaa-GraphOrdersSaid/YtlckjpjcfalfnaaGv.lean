/-
  Graph: the finder goes back.
-/
import Derived.Test.YtlckjpjcfalfnaaGu
import Derived.StillTailTactics
import Derived.Deep.CutRange
import Derived.Lib.MinMax
namespace Go.Proofs.Ytlckjpjcfalfnaa
open Go.RowKit Go.Sort
open Go.WideMaps
set_option linter.unusedSimpArgs false
set_option linter.unusedVariables false
set_option maxRecDepth 100000

/-- What it came back to is told to the one it came from. -/
def lvLow (low : List (I3 × Nat)) (wd : List (I3 × Nat)) (x : I3) : List (I3 × Nat) :=
  match wd.getLast? with
  | none => low
  | some u => putV low u.1 (min (numOf low u.1) (numOf low x))
def ofAll (o : List (I3 × Nat)) (ids : List I3) (b : Nat) : List (I3 × Nat) := ids.foldl (fun m x => putV m x b) o
theorem ofAll_snoc (o : List (I3 × Nat)) (ids : List I3) (x : I3) (b : Nat) : ofAll o (ids ++ [x]) b = putV (ofAll o ids b) x b := by unfold ofAll; rw [List.foldl_append]; rfl
theorem FinAt.setOf {w w' : World} {m bw : Nat} {web : List (I3 × NV)} {L : Fin} {vw vo vg : Value} (h : FinAt w m bw web L vw vo vg) (hf : Fr (fun k => k = m + 2) w w') {l : List (I3 × Nat)} (hm : MV encG w' (m + 2) l) : FinAt w' m bw web { L with of := l } vw vo vg :=
  ⟨hf.bk h.bk (by omega), h.lw, hf.mv h.web (by have := h.lw; omega), hf.mv h.met (by omega), hf.mv h.low (by omega), hm, hf.own h.way (own_ge h.way (by omega)), hf.own h.opn (own_ge h.opn (by omega)), hf.own h.grp (own_ge h.grp (by omega))⟩
theorem FinAt.setGrp {w w' : World} {m bw : Nat} {web : List (I3 × NV)} {L : Fin} {vw vo vg v : Value} (h : FinAt w m bw web L vw vo vg) (hf : Fr (fun k => vg.ownBlock = some k) w w') {l : List Nat} (ho : PK.Own w' (m + 4) v l) : FinAt (w'.setCell ⟨m + 3, 6, none⟩ v) m bw web { L with grp := l } vw vo v := by
  have hlo := h.grp.from
  have hs := Fr.set w' ⟨m + 3, 6, none⟩ v
  have hb := (hf.bk h.bk (fun q => by have := hlo _ q; omega)).set 6 v
  have hlw := h.lw
  refine ⟨hb, h.lw, hs.mv (hf.mv h.web (fun q => by have := hlo _ q; omega)) (by simp; omega), hs.mv (hf.mv h.met (fun q => by have := hlo _ q; omega)) (by simp), hs.mv (hf.mv h.low (fun q => by have := hlo _ q; omega)) (by simp), hs.mv (hf.mv h.of (fun q => by have := hlo _ q; omega)) (by simp), (hf.own h.way (fun k e q => row_far h.grp h.way (by decide) k q e)).setA (by omega) _ _, (hf.own h.opn (fun k e q => row_far h.grp h.opn (by decide) k q e)).setA (by omega) _ _, ho.setA (by omega) _ _⟩
def lvF (L : Fin) (wd : List (I3 × Nat)) (x : I3) : Fin := { L with low := lvLow L.low wd x, way := wd }
set_option maxHeartbeats 8000000 in
theorem leave_any {w : World} {m bw : Nat} {web : List (I3 × NV)} {L : Fin} {vw vo vg : Value} (h : FinAt w m bw web L vw vo vg) (i1 i2 i3 : Int) (hi : okI (i1, i2, i3)) (wd : List (I3 × Nat)) (nx : Nat) (hway : L.way = wd ++ [((i1, i2, i3), nx)]) (hwo : ∀ e ∈ wd, okI e.1) (hl : L.met.length ≤ 1000 ∧ L.low.length ≤ 1000 ∧ L.way.length ≤ 1000 ∧ L.opn.length ≤ 1000) (hsz : m + 4 ≤ w.heap.size) (Q : Ending → World → Prop)
    (pre post : List I3) (hop : L.opn = pre ++ (i1, i2, i3) :: post) (hon : (i1, i2, i3) ∉ pre) (hok : okL L.opn) (hl2 : L.opn.length < 20 ∧ L.of.length ≤ 1000)
    (hQ1 : ∀ w' vw' vo' vg' gb g7 c7 y1 y2 y3 ys, FinAt w' m bw web { lvF L wd (i1, i2, i3) with opn := pre, of := ofAll L.of (clnI ((i1, i2, i3) :: post)) gb, grp := L.grp ++ [gb] } vw' vo' vg' → clnI ((i1, i2, i3) :: post) = (y1, y2, y3) :: ys → Bk w' gb 90 [.slice (some ⟨g7, 0, none⟩) (clnI ((i1, i2, i3) :: post)).length c7, .int .i64 y1, .int .i64 y2, .int .i64 y3, .int .i64 0, .slice none 0 0] →
      IK.Own w' w.heap.size (.slice (some ⟨g7, 0, none⟩) (clnI ((i1, i2, i3) :: post)).length c7) (sortL web (clnI ((i1, i2, i3) :: post))) → w.heap.size ≤ gb → Fr (fun k => k = m + 3 ∨ k = m + 1 ∨ k = m + 2 ∨ vg.ownBlock = some k) w w' → Next w vg vg' → (∀ k, vw'.ownBlock = some k → vw.ownBlock = some k) → (∀ k, vo'.ownBlock = some k → vo.ownBlock = some k) → numOf (lvF L wd (i1, i2, i3)).low (i1, i2, i3) = numOf (lvF L wd (i1, i2, i3)).met (i1, i2, i3) → Q (.returned (.tuple #[])) w')
    (hgl : L.grp.length ≤ 1000)
    (hQ0 : ∀ w' vw', FinAt w' m bw web (lvF L wd (i1, i2, i3)) vw' vo vg → Fr (fun k => k = m + 3 ∨ k = m + 1) w w' → (∀ k, vw'.ownBlock = some k → vw.ownBlock = some k) → numOf (lvF L wd (i1, i2, i3)).low (i1, i2, i3) ≠ numOf (lvF L wd (i1, i2, i3)).met (i1, i2, i3) → Q (.returned (.tuple #[])) w') :
    Calls Try.prog 48 #[encG (m + 3), .agg #[.int .i64 i1, .int .i64 i2, .int .i64 i3]] w Q := by
  obtain ⟨aw, cw, evw⟩ := h.way.slice
  obtain ⟨ag, cg, evg⟩ := h.grp.slice
  obtain ⟨Ng, hNg⟩ : ∃ q, L.grp.length = q := ⟨_, rfl⟩
  rw [hNg] at evg
  have HNg := Lib.hid hNg
  have HVg := Lib.hid evg
  clear hNg evg
  obtain ⟨T, hT⟩ : ∃ q, L.way.length = q := ⟨_, rfl⟩
  obtain ⟨T1, hT1⟩ : ∃ q, wd.length = q := ⟨_, rfl⟩
  rw [hT] at evw
  subst evw
  have hTT : T = T1 + 1 := by rw [hway] at hT; simp at hT; omega
  obtain ⟨g, hg⟩ : ∃ q, w.heap.size = q := ⟨_, rfl⟩
  have HGw := Lib.hid hg
  obtain ⟨X, hX⟩ : ∃ q, (w.alloc (.cells #[.pointer (some ⟨m + 3, 0, none⟩)] 83)).alloc (.cells #[.int .i64 i1, .int .i64 i2, .int .i64 i3] 25) = q := ⟨_, rfl⟩
  have hbX : Below w.heap.size w X := by rw [← hX]; exact ((Below.refl _ _).alloc (Nat.le_refl _) _).alloc (by simp) _
  have HB1 := Lib.hid (h.below hbX)
  have HP1 : Hid (Bk X g 83 [.pointer (some ⟨m + 3, 0, none⟩)]) := Lib.hid (by rw [← hX]; exact (Bk.newAg hg _ [.pointer (some ⟨m + 3, 0, none⟩)]).old _)
  have HX1 : Hid (Bk X (g + 1) 25 [.int .i64 i1, .int .i64 i2, .int .i64 i3]) := Lib.hid (by rw [← hX]; exact Bk.newAg (by simp [hg]) _ [.int .i64 i1, .int .i64 i2, .int .i64 i3])
  have HI := Lib.hid hi
  have HL := Lib.hid hl
  have HZ : Hid (m + 4 ≤ g) := Lib.hid (hg ▸ hsz)
  have HF1 : Hid (Fr (fun _ => False) w X) := Lib.hid ⟨hbX.os, hbX.tape, hbX.output, hbX.size, fun k hk _ => hbX.block k hk⟩
  have HWo := Lib.hid hwo
  have HQ0 := Lib.hid hQ0
  have HQ1 := Lib.hid hQ1
  have HGl := Lib.hid hgl
  have HOp := Lib.hid hop
  have HOn := Lib.hid hon
  have HOk := Lib.hid hok
  have HL2 := Lib.hid hl2
  have HWy := Lib.hid hway
  have HT1 := Lib.hid hT1
  have hT9 : T ≤ 1000 := by rw [← hT]; exact hl.2.2.1
  have hOw := (HB1.out.below (Below.refl X.heap.size X).drew).way
  have hcap := (own_cap hOw).1
  rw [hway] at hOw
  have hpop := (own_pop hOw).2
  rw [hT1] at hpop
  have HPop := Lib.hid hpop
  have hTi : (0 : Int) < (T : Int) := by omega
  have hsub : IntKind.i64.wrap ((T : Int) - 1) = (T1 : Int) := by rw [show (T : Int) - 1 = (T1 : Int) by omega, IntKind.wrap_i64]; omega
  have hlt : (T1 : Int) < (T : Int) := by omega
  have hle : (T1 : Int) ≤ (cw : Int) := by omega
  have hltd : decide ((T1 : Int) < (T : Int)) = true := decide_eq_true hlt
  have d0 := Bk.cell HP1.out 0
  have c3 := Bk.cell HB1.out.bk 3
  have f3 := HB1.out.bk.fz 3
  have l3 := HB1.out.bk.lt
  simp only [List.getElem?_cons_zero, List.getElem?_cons_succ] at d0 c3
  have HTT := Lib.hid hTT
  clear h hbX hi hl hsz hwo hQ0 hQ1 hgl hop hon hok hl2 hT hT1 hOw hpop hway hTT
  go_enter Try.func48, Try.ntmps48
  go_upto_region 1 with fail
  try rw [hX]
  try rw [hg]
  clear hX hg
  go_still_tail 14, (by kernel_rfl)
  go_upto_region 2 with fail
  obtain ⟨Y, hY⟩ : ∃ q, (X.setCell ⟨m + 3, 3, none⟩ (.slice aw T1 cw)).drew = q := ⟨_, rfl⟩
  have hYe : X.drew.setCell ⟨m + 3, 3, none⟩ (.slice aw T1 cw) = Y := hY
  have HB2 : Hid (FinAt Y m bw web { L with way := wd } (.slice aw T1 cw) vo vg) := Lib.hid (by rw [← hYe]; exact (HB1.out.below (Below.refl X.heap.size X).drew).setWay (Fr.refl _ _) HPop.out)
  have hXd : Below X.heap.size X X.drew := (Below.refl X.heap.size X).drew
  have hfY : Fr (fun k => k = m + 3) X Y := by rw [← hYe]; exact (Fr.ofBelow hXd).trans (Fr.set X.drew ⟨m + 3, 3, none⟩ _) (fun j hj q => q.elim (fun r => absurd hj (Nat.not_lt.2 r)) id)
  have HP2 := Lib.hid (hfY.bk HP1.out (by have := HZ.out; omega))
  have HX2 := Lib.hid (hfY.bk HX1.out (by have := HZ.out; omega))
  have HF2 : Hid (Fr (fun k => k = m + 3) w Y) := Lib.hid (HF1.out.trans hfY (by simp))
  try rw [hY]
  try rw [hYe]
  clear hY hYe hXd hfY HB1 HP1 HX1 HF1 HPop hcap hTi hsub hlt hle hltd d0 c3 f3 l3
  have d0 := Bk.cell HP2.out 0
  have c3 := Bk.cell HB2.out.bk 3
  simp only [List.getElem?_cons_zero, List.getElem?_cons_succ] at d0 c3
  go_upto_if 28 with fail
  go_cut [4] from 28 to 59 (fun _ wx => Hid (FinAt wx m bw web (lvF L wd (i1, i2, i3)) (.slice aw T1 cw) vo vg) ∧ Hid (Bk wx g 83 [.pointer (some ⟨m + 3, 0, none⟩)]) ∧ Hid (Bk wx (g + 1) 25 [.int .i64 i1, .int .i64 i2, .int .i64 i3]) ∧ Hid (Fr (fun k => k = m + 3 ∨ k = m + 1) w wx))
  case first =>
    by_cases hz : T1 = 0
    · subst hz
      obtain rfl : wd = [] := List.eq_nil_of_length_eq_zero HT1.out
      have HB3 : Hid (FinAt Y m bw web (lvF L [] (i1, i2, i3)) (.slice aw 0 cw) vo vg) := Lib.hid HB2.out
      have HF3 : Hid (Fr (fun k => k = m + 3 ∨ k = m + 1) w Y) := Lib.hid (HF2.out.mono (fun j _ q => .inl q))
      clear HB2 HF2 d0 c3
      go_wp2_with fail
      go_meet
      exact ⟨HB3, HP2, HX2, HF3⟩
    · obtain ⟨T2, hT2⟩ : ∃ q, T1 = q + 1 := ⟨T1 - 1, by omega⟩
      have hne : wd ≠ [] := fun e => by have := HT1.out; rw [e] at this; exact hz (by simpa using this.symm)
      obtain ⟨we, u, hwe⟩ : ∃ a b, wd = a ++ [b] := ⟨wd.dropLast, wd.getLast hne, (List.dropLast_concat_getLast hne).symm⟩
      obtain ⟨⟨u1, u2, u3⟩, uk⟩ := u
      have hwl : we.length = T2 := by have := HT1.out; rw [hwe] at this; simp at this; omega
      have hlow : lvF L wd (i1, i2, i3) = { L with low := putV L.low (u1, u2, u3) (min (numOf L.low (u1, u2, u3)) (numOf L.low (i1, i2, i3))), way := wd } := by
        unfold lvF lvLow
        rw [hwe]
        simp
      have huo : okI (u1, u2, u3) := HWo.out ((u1, u2, u3), uk) (by rw [hwe]; simp)
      have hOw := HB2.out.way
      obtain ⟨-, gt, ot, hta, hgt, hct⟩ := hOw.rd.at hne
      subst hta
      have eK : WK.k = 4 := rfl
      have hc := hct T2 (by omega)
      have eg : wd.getD T2 WK.d = ((u1, u2, u3), uk) := by rw [hwe, ← hwl]; simp [List.getD]
      rw [eg, eK] at hc
      have q0 : Y.cell? ⟨gt, ot + T2 * 4, none⟩ = some (.int .i64 u1) := hc 0 _ rfl
      have q1 : Y.cell? ⟨gt, ot + T2 * 4 + 1, none⟩ = some (.int .i64 u2) := hc 1 _ rfl
      have q2 : Y.cell? ⟨gt, ot + T2 * 4 + 2, none⟩ = some (.int .i64 u3) := hc 2 _ rfl
      have hTi : (0 : Int) < (T1 : Int) := by omega
      have hTd : decide ((0 : Int) < (T1 : Int)) = true := decide_eq_true hTi
      have hTn : decide (0 < T1) = true := decide_eq_true (by omega)
      have hT19 : T1 ≤ 1000 := by have := HTT.out; omega
      have hsub : IntKind.i64.wrap ((T1 : Int) - 1) = (T2 : Int) := by rw [show (T1 : Int) - 1 = (T2 : Int) by omega, IntKind.wrap_i64]; omega
      have hlt : (T2 : Int) < (T1 : Int) := by omega
      have hltd : decide ((T2 : Int) < (T1 : Int)) = true := decide_eq_true hlt
      obtain ⟨b4, hb4⟩ : ∃ q, Y.heap.size = q := ⟨_, rfl⟩
      have HC3 : Hid (∀ w', Below Y.drew.heap.size Y.drew w' → w'.cell? ⟨g, 0, none⟩ = some (.pointer (some ⟨m + 3, 0, none⟩)) ∧ w'.cell? ⟨m + 3, 3, none⟩ = some (.slice (some ⟨gt, ot, none⟩) T1 cw) ∧ w'.cell? ⟨gt, ot + T2 * 4, none⟩ = some (.int .i64 u1) ∧ w'.cell? ⟨gt, ot + T2 * 4 + 1, none⟩ = some (.int .i64 u2) ∧ w'.cell? ⟨gt, ot + T2 * 4 + 2, none⟩ = some (.int .i64 u3)) := Lib.hid fun w' hb => ⟨(hb.cell (p := ⟨g, 0, none⟩) HP2.out.lt).trans d0, (hb.cell (p := ⟨m + 3, 3, none⟩) HB2.out.bk.lt).trans c3, (hb.cell (p := ⟨gt, ot + T2 * 4, none⟩) hgt).trans q0, (hb.cell (p := ⟨gt, ot + T2 * 4 + 1, none⟩) hgt).trans q1, (hb.cell (p := ⟨gt, ot + T2 * 4 + 2, none⟩) hgt).trans q2⟩
      obtain ⟨Z, hZ⟩ : ∃ q, (Y.alloc (.cells #[.int .i64 u1, .int .i64 u2, .int .i64 u3] 25)).drew = q := ⟨_, rfl⟩
      have hZe : Y.drew.alloc (.cells #[.int .i64 u1, .int .i64 u2, .int .i64 u3] 25) = Z := hZ
      have hZb : Below Y.drew.heap.size Y.drew Z := by rw [← hZe]; exact (Below.refl _ _).alloc (Nat.le_refl _) _
      have hYd : Below Y.drew.heap.size Y Y.drew := (Below.refl Y.heap.size Y).drew
      have hbZ : Below Y.heap.size Y Z := hYd.trans hZb
      have HBZ := Lib.hid (HB2.out.below hbZ)
      have HPZ := Lib.hid (Bk.below HP2.out hbZ)
      have HXZ := Lib.hid (Bk.below HX2.out hbZ)
      have HUZ : Hid (Bk Z b4 25 [.int .i64 u1, .int .i64 u2, .int .i64 u3]) := Lib.hid (by rw [← hZe]; exact Bk.newAg (by show Y.heap.size = b4; exact hb4) _ [.int .i64 u1, .int .i64 u2, .int .i64 u3])
      have HFZ : Hid (Fr (fun k => k = m + 3) w Z) := Lib.hid (HF2.out.trans (Fr.ofBelow hbZ) (fun j hj q => q.elim id fun r => absurd (Nat.lt_of_lt_of_le hj HF2.out.size) (Nat.not_lt.2 r)))
      have HUo := Lib.hid huo
      have HLow := Lib.hid hlow
      have HT2 := Lib.hid hT2
      clear hct hc eK eg hOw hne hwe hwl huo hlow hT2 hbZ HB2 HP2 HX2 HF2 hz q0 q1 q2 d0 c3 hgt
      go_upto_region 3 with fail
      refine wp_region_held_drew (S := (fun w' => w'.cell? ⟨g, 0, none⟩ = some (.pointer (some ⟨m + 3, 0, none⟩)) ∧ w'.cell? ⟨m + 3, 3, none⟩ = some (.slice (some ⟨gt, ot, none⟩) T1 cw) ∧ w'.cell? ⟨gt, ot + T2 * 4, none⟩ = some (.int .i64 u1) ∧ w'.cell? ⟨gt, ot + T2 * 4 + 1, none⟩ = some (.int .i64 u2) ∧ w'.cell? ⟨gt, ot + T2 * 4 + 2, none⟩ = some (.int .i64 u3))) (by kernel_rfl) ?_ (fun hHeld => ?_)
      · ((first
  | exact HC3.out _ hZb
  | exact HC3.out _ (Below.refl _ _)
  | exact HC3.out _ ((Below.refl _ _).alloc (Nat.le_refl _) _)
  | fail))
      refine wpAnyH_take (i := 0) (v := ?_) rfl (by kernel_rfl) (by kernel_rfl) (by kernel_rfl) (fun _ _ _ h => h) (Or.inl ⟨by rfl, ?_⟩) (by assumption) ?_
      rotate_left
      · (intro w hSw; (try dsimp only at hSw); go_simp; try rfl)
      try simp only [Act.put, List.setIfInBounds_toArray, List.set_cons_zero, List.set_cons_succ, List.getElem_toArray, List.getElem_cons_zero, List.getElem_cons_succ]
      refine wpAnyH_take (i := 1) (v := ?_) rfl (by kernel_rfl) (by kernel_rfl) (by kernel_rfl) (fun _ _ _ h => h) (Or.inl ⟨by rfl, ?_⟩) (by assumption) ?_
      rotate_left
      · (intro w hSw; (try dsimp only at hSw); go_simp; try rfl)
      try simp only [Act.put, List.setIfInBounds_toArray, List.set_cons_zero, List.set_cons_succ, List.getElem_toArray, List.getElem_cons_zero, List.getElem_cons_succ]
      refine wpAnyH_take (i := 2) (v := ?_) rfl (by kernel_rfl) (by kernel_rfl) (by kernel_rfl) (fun _ _ _ h => h) (Or.inl ⟨by rfl, ?_⟩) (by assumption) ?_
      rotate_left
      · (intro w hSw; (try dsimp only at hSw); go_simp; try rfl)
      try simp only [Act.put, List.setIfInBounds_toArray, List.set_cons_zero, List.set_cons_succ, List.getElem_toArray, List.getElem_cons_zero, List.getElem_cons_succ]
      refine wpAnyH_take (i := 3) (v := ?_) rfl (by kernel_rfl) (by kernel_rfl) (by kernel_rfl) (fun _ _ _ h => h) (Or.inl ⟨by rfl, ?_⟩) (by assumption) ?_
      rotate_left
      · (intro w hSw; (try dsimp only at hSw); go_simp; try rfl)
      try simp only [Act.put, List.setIfInBounds_toArray, List.set_cons_zero, List.set_cons_succ, List.getElem_toArray, List.getElem_cons_zero, List.getElem_cons_succ]
      refine wpAnyH_take (i := 4) (v := ?_) rfl (by kernel_rfl) (by kernel_rfl) (by kernel_rfl) (fun _ _ _ h => h) (Or.inl ⟨by rfl, ?_⟩) (by assumption) ?_
      rotate_left
      · (intro w hSw; (try dsimp only at hSw); go_simp; try rfl)
      try simp only [Act.put, List.setIfInBounds_toArray, List.set_cons_zero, List.set_cons_succ, List.getElem_toArray, List.getElem_cons_zero, List.getElem_cons_succ]
      refine wpAnyH_take (i := 5) (v := ?_) rfl (by kernel_rfl) (by kernel_rfl) (by kernel_rfl) (fun _ _ _ h => h) (Or.inl ⟨by rfl, ?_⟩) (by assumption) ?_
      rotate_left
      · (intro w hSw; (try dsimp only at hSw); go_simp; try rfl)
      try simp only [Act.put, List.setIfInBounds_toArray, List.set_cons_zero, List.set_cons_succ, List.getElem_toArray, List.getElem_cons_zero, List.getElem_cons_succ]
      refine wpAnyH_take (i := 6) (v := ?_) rfl (by kernel_rfl) (by kernel_rfl) (by kernel_rfl) (fun _ _ _ h => h) (Or.inl ⟨by rfl, ?_⟩) (by assumption) ?_
      rotate_left
      · (intro w hSw; (try dsimp only at hSw); go_simp; try rfl)
      try simp only [Act.put, List.setIfInBounds_toArray, List.set_cons_zero, List.set_cons_succ, List.getElem_toArray, List.getElem_cons_zero, List.getElem_cons_succ]
      refine wpAnyH_take (i := 7) (v := ?_) rfl (by kernel_rfl) (by kernel_rfl) (by kernel_rfl) (fun _ _ _ h => h) (Or.inl ⟨by rfl, ?_⟩) (by assumption) ?_
      rotate_left
      · (intro w hSw; (try dsimp only at hSw); go_simp; try rfl)
      try simp only [Act.put, List.setIfInBounds_toArray, List.set_cons_zero, List.set_cons_succ, List.getElem_toArray, List.getElem_cons_zero, List.getElem_cons_succ]
      refine wpAnyH_ready (rs := [8, 13]) (by kernel_rfl) (by simp) ?_
      refine (AllReadyH.cons rfl (fun K hK => ?_) (AllReadyH.cons rfl (fun K hK => ?_) AllReadyH.nil))
      ·
        go_simp
        refine hK.out _ _ ?_ (fun hHeld => ?_)
        · ((first
  | exact HC3.out _ hZb
  | exact HC3.out _ (Below.refl _ _)
  | exact HC3.out _ ((Below.refl _ _).alloc (Nat.le_refl _) _)
  | fail))
        clear hK K
        try simp only [Act.put, List.setIfInBounds_toArray, List.set_cons_zero, List.set_cons_succ, List.getElem_toArray, List.getElem_cons_zero, List.getElem_cons_succ]
        refine wpAnyH_take (i := 9) (v := ?_) rfl (by kernel_rfl) (by kernel_rfl) (by kernel_rfl) (fun _ _ _ h => h) (Or.inl ⟨by rfl, ?_⟩) (by assumption) ?_
        rotate_left
        · (intro w hSw; (try dsimp only at hSw); go_simp; try rfl)
        try simp only [Act.put, List.setIfInBounds_toArray, List.set_cons_zero, List.set_cons_succ, List.getElem_toArray, List.getElem_cons_zero, List.getElem_cons_succ]
        refine wpAnyH_take (i := 10) (v := ?_) rfl (by kernel_rfl) (by kernel_rfl) (by kernel_rfl) (fun _ _ _ h => h) (Or.inl ⟨by rfl, ?_⟩) (by assumption) ?_
        rotate_left
        · (intro w hSw; (try dsimp only at hSw); go_simp; try rfl)
        try simp only [Act.put, List.setIfInBounds_toArray, List.set_cons_zero, List.set_cons_succ, List.getElem_toArray, List.getElem_cons_zero, List.getElem_cons_succ]
        refine wpAnyH_take (i := 11) (v := ?_) rfl (by kernel_rfl) (by kernel_rfl) (by kernel_rfl) (fun _ _ _ h => h) (Or.inl ⟨by rfl, ?_⟩) (by assumption) ?_
        rotate_left
        · (intro w hSw; (try dsimp only at hSw); go_simp; try rfl)
        try simp only [Act.put, List.setIfInBounds_toArray, List.set_cons_zero, List.set_cons_succ, List.getElem_toArray, List.getElem_cons_zero, List.getElem_cons_succ]
        refine wpAnyH_take (i := 12) (v := ?_) rfl (by kernel_rfl) (by kernel_rfl) (by kernel_rfl) (fun _ _ _ h => h) (Or.inl ⟨by rfl, ?_⟩) (by assumption) ?_
        rotate_left
        · (intro w hSw; (try dsimp only at hSw); go_simp; try rfl)
        try simp only [Act.put, List.setIfInBounds_toArray, List.set_cons_zero, List.set_cons_succ, List.getElem_toArray, List.getElem_cons_zero, List.getElem_cons_succ]
        refine wpAnyH_ready (rs := [13]) (by kernel_rfl) (by simp) ?_
        refine (AllReadyH.cons rfl (fun K hK => ?_) AllReadyH.nil)
        go_simp
        refine hK.out _ _ ?_ (fun hHeld => ?_)
        · ((first
  | exact HC3.out _ hZb
  | exact HC3.out _ (Below.refl _ _)
  | exact HC3.out _ ((Below.refl _ _).alloc (Nat.le_refl _) _)
  | fail))
        clear hK K
        try simp only [Act.put, List.setIfInBounds_toArray, List.set_cons_zero, List.set_cons_succ, List.getElem_toArray, List.getElem_cons_zero, List.getElem_cons_succ]
        refine wpAnyH_ready (rs := [14]) (by kernel_rfl) (by simp) ?_
        refine (AllReadyH.cons rfl (fun K hK => ?_) AllReadyH.nil)
        go_simp
        refine hK.out _ _ ?_ (fun hHeld => ?_)
        · ((first
  | exact HC3.out _ hZb
  | exact HC3.out _ (Below.refl _ _)
  | exact HC3.out _ ((Below.refl _ _).alloc (Nat.le_refl _) _)
  | fail))
        clear hK K
        try simp only [Act.put, List.setIfInBounds_toArray, List.set_cons_zero, List.set_cons_succ, List.getElem_toArray, List.getElem_cons_zero, List.getElem_cons_succ]
        refine wpAnyH_done (by kernel_rfl) ?_ _
        clear hZ hZe hZb hYd HC3 hTi hTd hTn hsub hlt hltd hb4 hT19
        have d0 := Bk.cell HPZ.out 0
        have c2 := Bk.cell HBZ.out.bk 2
        have k0 := Bk.cell HXZ.out 0
        have k1 := Bk.cell HXZ.out 1
        have k2 := Bk.cell HXZ.out 2
        have j0 := Bk.cell HUZ.out 0
        have j1 := Bk.cell HUZ.out 1
        have j2 := Bk.cell HUZ.out 2
        simp only [List.getElem?_cons_zero, List.getElem?_cons_succ] at d0 c2 k0 k1 k2 j0 j1 j2
        obtain ⟨A, hA⟩ : ∃ q, numOf L.low (u1, u2, u3) = q := ⟨_, rfl⟩
        obtain ⟨Bn, hBn⟩ : ∃ q, numOf L.low (i1, i2, i3) = q := ⟨_, rfl⟩
        have hmin : min (A : Int) (Bn : Int) = ((min A Bn : Nat) : Int) := by omega
        have hZd : Below Z.heap.size Z Z.drew := (Below.refl Z.heap.size Z).drew
        have lk1 := HBZ.out.low.num u1 u2 u3 HUo.out hA
        have lk1d := (HBZ.out.low.below hZd).num u1 u2 u3 HUo.out hA
        have lk2 := HBZ.out.low.num i1 i2 i3 HI.out hBn
        have lk2d := (HBZ.out.low.below hZd).num i1 i2 i3 HI.out hBn
        have HAB := Lib.hid (And.intro hA hBn)
        clear hA hBn
        go_upto_region 4 with fail
        go_still_tail 18, (by kernel_rfl)
        refine wpList_put_mv rfl _ _ _ 58 rfl 3 Try.underlying58 encN (m + 1) L.low rfl (HBZ.out.low.below hZd) (by have := HL.out.2.1; unfold maxLen; omega) (u1, u2, u3) (min A Bn) rfl HUo.out rfl ?_
        intro w5 hm5 ht5
        have hf5 : Fr (fun k => k = m + 1) Z w5 := ⟨ht5.grown.os, ht5.grown.tape, ht5.grown.output, ht5.grown.size, fun k hk hn => ht5.grown.block k hk (by simpa using hn)⟩
        have HB5 : Hid (FinAt w5 m bw web (lvF L wd (i1, i2, i3)) (.slice (some ⟨gt, ot, none⟩) T1 cw) vo vg) := Lib.hid (by rw [HLow.out, HAB.out.1, HAB.out.2]; exact HBZ.out.setLow hf5 hm5)
        have HP5 := Lib.hid (hf5.bk HPZ.out (by have := HZ.out; omega))
        have HX5 := Lib.hid (hf5.bk HXZ.out (by have := HZ.out; omega))
        have HF5 : Hid (Fr (fun k => k = m + 3 ∨ k = m + 1) w w5) := Lib.hid (HFZ.out.trans hf5 (fun j _ q => q))
        clear hm5 ht5 hf5 HBZ HPZ HXZ HUZ HFZ d0 c2 k0 k1 k2 j0 j1 j2 lk1 lk1d lk2 lk2d hmin hZd
        go_wp2_with fail
        go_meet
        exact ⟨HB5, HP5, HX5, HF5⟩
      ·
        go_simp
        refine hK.out _ _ ?_ (fun hHeld => ?_)
        · ((first
  | exact HC3.out _ hZb
  | exact HC3.out _ (Below.refl _ _)
  | exact HC3.out _ ((Below.refl _ _).alloc (Nat.le_refl _) _)
  | fail))
        clear hK K
        try simp only [Act.put, List.setIfInBounds_toArray, List.set_cons_zero, List.set_cons_succ, List.getElem_toArray, List.getElem_cons_zero, List.getElem_cons_succ]
        refine wpAnyH_ready (rs := [8]) (by kernel_rfl) (by simp) ?_
        refine (AllReadyH.cons rfl (fun K hK => ?_) AllReadyH.nil)
        go_simp
        refine hK.out _ _ ?_ (fun hHeld => ?_)
        · ((first
  | exact HC3.out _ hZb
  | exact HC3.out _ (Below.refl _ _)
  | exact HC3.out _ ((Below.refl _ _).alloc (Nat.le_refl _) _)
  | fail))
        clear hK K
        try simp only [Act.put, List.setIfInBounds_toArray, List.set_cons_zero, List.set_cons_succ, List.getElem_toArray, List.getElem_cons_zero, List.getElem_cons_succ]
        refine wpAnyH_take (i := 9) (v := ?_) rfl (by kernel_rfl) (by kernel_rfl) (by kernel_rfl) (fun _ _ _ h => h) (Or.inl ⟨by rfl, ?_⟩) (by assumption) ?_
        rotate_left
        · (intro w hSw; (try dsimp only at hSw); go_simp; try rfl)
        try simp only [Act.put, List.setIfInBounds_toArray, List.set_cons_zero, List.set_cons_succ, List.getElem_toArray, List.getElem_cons_zero, List.getElem_cons_succ]
        refine wpAnyH_take (i := 10) (v := ?_) rfl (by kernel_rfl) (by kernel_rfl) (by kernel_rfl) (fun _ _ _ h => h) (Or.inl ⟨by rfl, ?_⟩) (by assumption) ?_
        rotate_left
        · (intro w hSw; (try dsimp only at hSw); go_simp; try rfl)
        try simp only [Act.put, List.setIfInBounds_toArray, List.set_cons_zero, List.set_cons_succ, List.getElem_toArray, List.getElem_cons_zero, List.getElem_cons_succ]
        refine wpAnyH_take (i := 11) (v := ?_) rfl (by kernel_rfl) (by kernel_rfl) (by kernel_rfl) (fun _ _ _ h => h) (Or.inl ⟨by rfl, ?_⟩) (by assumption) ?_
        rotate_left
        · (intro w hSw; (try dsimp only at hSw); go_simp; try rfl)
        try simp only [Act.put, List.setIfInBounds_toArray, List.set_cons_zero, List.set_cons_succ, List.getElem_toArray, List.getElem_cons_zero, List.getElem_cons_succ]
        refine wpAnyH_take (i := 12) (v := ?_) rfl (by kernel_rfl) (by kernel_rfl) (by kernel_rfl) (fun _ _ _ h => h) (Or.inl ⟨by rfl, ?_⟩) (by assumption) ?_
        rotate_left
        · (intro w hSw; (try dsimp only at hSw); go_simp; try rfl)
        try simp only [Act.put, List.setIfInBounds_toArray, List.set_cons_zero, List.set_cons_succ, List.getElem_toArray, List.getElem_cons_zero, List.getElem_cons_succ]
        refine wpAnyH_ready (rs := [14]) (by kernel_rfl) (by simp) ?_
        refine (AllReadyH.cons rfl (fun K hK => ?_) AllReadyH.nil)
        go_simp
        refine hK.out _ _ ?_ (fun hHeld => ?_)
        · ((first
  | exact HC3.out _ hZb
  | exact HC3.out _ (Below.refl _ _)
  | exact HC3.out _ ((Below.refl _ _).alloc (Nat.le_refl _) _)
  | fail))
        clear hK K
        try simp only [Act.put, List.setIfInBounds_toArray, List.set_cons_zero, List.set_cons_succ, List.getElem_toArray, List.getElem_cons_zero, List.getElem_cons_succ]
        refine wpAnyH_done (by kernel_rfl) ?_ _
        clear hZ hZe hZb hYd HC3 hTi hTd hTn hsub hlt hltd hb4 hT19
        have d0 := Bk.cell HPZ.out 0
        have c2 := Bk.cell HBZ.out.bk 2
        have k0 := Bk.cell HXZ.out 0
        have k1 := Bk.cell HXZ.out 1
        have k2 := Bk.cell HXZ.out 2
        have j0 := Bk.cell HUZ.out 0
        have j1 := Bk.cell HUZ.out 1
        have j2 := Bk.cell HUZ.out 2
        simp only [List.getElem?_cons_zero, List.getElem?_cons_succ] at d0 c2 k0 k1 k2 j0 j1 j2
        obtain ⟨A, hA⟩ : ∃ q, numOf L.low (u1, u2, u3) = q := ⟨_, rfl⟩
        obtain ⟨Bn, hBn⟩ : ∃ q, numOf L.low (i1, i2, i3) = q := ⟨_, rfl⟩
        have hmin : min (A : Int) (Bn : Int) = ((min A Bn : Nat) : Int) := by omega
        have hZd : Below Z.heap.size Z Z.drew := (Below.refl Z.heap.size Z).drew
        have lk1 := HBZ.out.low.num u1 u2 u3 HUo.out hA
        have lk1d := (HBZ.out.low.below hZd).num u1 u2 u3 HUo.out hA
        have lk2 := HBZ.out.low.num i1 i2 i3 HI.out hBn
        have lk2d := (HBZ.out.low.below hZd).num i1 i2 i3 HI.out hBn
        have HAB := Lib.hid (And.intro hA hBn)
        clear hA hBn
        go_upto_region 4 with fail
        go_still_tail 18, (by kernel_rfl)
        refine wpList_put_mv rfl _ _ _ 58 rfl 3 Try.underlying58 encN (m + 1) L.low rfl (HBZ.out.low.below hZd) (by have := HL.out.2.1; unfold maxLen; omega) (u1, u2, u3) (min A Bn) rfl HUo.out rfl ?_
        intro w5 hm5 ht5
        have hf5 : Fr (fun k => k = m + 1) Z w5 := ⟨ht5.grown.os, ht5.grown.tape, ht5.grown.output, ht5.grown.size, fun k hk hn => ht5.grown.block k hk (by simpa using hn)⟩
        have HB5 : Hid (FinAt w5 m bw web (lvF L wd (i1, i2, i3)) (.slice (some ⟨gt, ot, none⟩) T1 cw) vo vg) := Lib.hid (by rw [HLow.out, HAB.out.1, HAB.out.2]; exact HBZ.out.setLow hf5 hm5)
        have HP5 := Lib.hid (hf5.bk HPZ.out (by have := HZ.out; omega))
        have HX5 := Lib.hid (hf5.bk HXZ.out (by have := HZ.out; omega))
        have HF5 : Hid (Fr (fun k => k = m + 3 ∨ k = m + 1) w w5) := Lib.hid (HFZ.out.trans hf5 (fun j _ q => q))
        clear hm5 ht5 hf5 HBZ HPZ HXZ HUZ HFZ d0 c2 k0 k1 k2 j0 j1 j2 lk1 lk1d lk2 lk2d hmin hZd
        go_wp2_with fail
        go_meet
        exact ⟨HB5, HP5, HX5, HF5⟩
  case rest =>
  obtain ⟨HB, HP, HX, HF⟩ := hcut
  clear HB2 HP2 HX2 HF2 d0 c3
  have d0 := Bk.cell HP.out 0
  have c1 := Bk.cell HB.out.bk 1
  have c2 := Bk.cell HB.out.bk 2
  have k0 := Bk.cell HX.out 0
  have k1 := Bk.cell HX.out 1
  have k2 := Bk.cell HX.out 2
  simp only [List.getElem?_cons_zero, List.getElem?_cons_succ] at d0 c1 c2 k0 k1 k2
  obtain ⟨A, hA⟩ : ∃ q, numOf (lvF L wd (i1, i2, i3)).low (i1, i2, i3) = q := ⟨_, rfl⟩
  obtain ⟨Bn, hBn⟩ : ∃ q, numOf (lvF L wd (i1, i2, i3)).met (i1, i2, i3) = q := ⟨_, rfl⟩
  have lk1 := HB.out.low.num i1 i2 i3 HI.out hA
  have lk2 := HB.out.met.num i1 i2 i3 HI.out hBn
  have lk1n := fun n => (HB.out.low.below (below_drewNA (Below.refl _ _) n)).num i1 i2 i3 HI.out hA
  have lk2n := fun n => (HB.out.met.below (below_drewNA (Below.refl _ _) n)).num i1 i2 i3 HI.out hBn
  have HAB := Lib.hid (And.intro hA hBn)
  clear hA hBn
  go_upto_region 5 with fail
  go_quiet (fail)
  generalize hwz : World.drewN _ _ = wz
  have hbz : Below wc.heap.size wc wz := by rw [← hwz]; exact below_drewNA (Below.refl _ _) _
  have HBz := Lib.hid (HB.out.below hbz)
  have HPz := Lib.hid (Bk.below HP.out hbz)
  have HXz := Lib.hid (Bk.below HX.out hbz)
  have HFz : Hid (Fr (fun k => k = m + 3 ∨ k = m + 1) w wz) := Lib.hid (HF.out.trans (Fr.ofBelow hbz) (fun j hj q => q.elim id fun r => absurd (Nat.lt_of_lt_of_le hj HF.out.size) (Nat.not_lt.2 r)))
  clear hwz hbz HB HP HX HF d0 c1 c2 k0 k1 k2 lk1 lk2 lk1n lk2n
  by_cases hAB : A = Bn
  · subst hAB
    obtain ⟨ao, co, evo⟩ := HBz.out.opn.slice
    obtain ⟨No, hNo⟩ : ∃ q, (lvF L wd (i1, i2, i3)).opn.length = q := ⟨_, rfl⟩
    rw [hNo] at evo
    subst evo
    have hopn : (lvF L wd (i1, i2, i3)).opn = pre ++ (i1, i2, i3) :: post := HOp.out
    obtain ⟨Np, hNp⟩ : ∃ q, pre.length = q := ⟨_, rfl⟩
    have hNN : No = Np + 1 + post.length := by rw [← hNo, hopn, ← hNp]; simp; omega
    have hgl : g + 1 < wz.heap.size := HXz.out.lt
    have d0 := Bk.cell HPz.out 0
    have c4 := Bk.cell HBz.out.bk 4
    have k0 := Bk.cell HXz.out 0
    have k1 := Bk.cell HXz.out 1
    have k2 := Bk.cell HXz.out 2
    simp only [List.getElem?_cons_zero, List.getElem?_cons_succ] at d0 c4 k0 k1 k2
    have hwd : Below wz.heap.size wz wz.drew := (Below.refl wz.heap.size wz).drew
    have hopo := HBz.out.opn
    rw [hopn] at hopo
    have HIx := Lib.hid (fun W (hb : Below wz.heap.size wz W) => index_any (w := W) ((hopo.below hb).rd) i1 i2 i3 Np (by rw [← hNp]; simp) (by simp [← hNp]) (fun j hj => by
      have hj2 : j < pre.length := by omega
      rw [List.getElem_append_left hj2]
      intro r
      exact HOn.out (r ▸ List.getElem_mem hj2)))
    have HC6 : Hid (∀ w', Below wz.heap.size wz w' → w'.cell? ⟨g, 0, none⟩ = some (.pointer (some ⟨m + 3, 0, none⟩)) ∧ w'.cell? ⟨m + 3, 4, none⟩ = some (.slice ao No co) ∧ w'.cell? ⟨g + 1, 0, none⟩ = some (.int .i64 i1) ∧ w'.cell? ⟨g + 1, 1, none⟩ = some (.int .i64 i2) ∧ w'.cell? ⟨g + 1, 2, none⟩ = some (.int .i64 i3)) := Lib.hid fun w' hb => ⟨(hb.cell (p := ⟨g, 0, none⟩) HPz.out.lt).trans d0, (hb.cell (p := ⟨m + 3, 4, none⟩) HBz.out.bk.lt).trans c4, (hb.cell (p := ⟨g + 1, 0, none⟩) hgl).trans k0, (hb.cell (p := ⟨g + 1, 1, none⟩) hgl).trans k1, (hb.cell (p := ⟨g + 1, 2, none⟩) hgl).trans k2⟩
    have HNN := Lib.hid hNN
    have HNp := Lib.hid hNp
    have HNo := Lib.hid hNo
    clear hNN hNp hNo hopn hopo d0 c4 k0 k1 k2 hgl
    go_upto_region 6 with fail
    refine wp_region_held_drew (S := (fun w' => w'.cell? ⟨g, 0, none⟩ = some (.pointer (some ⟨m + 3, 0, none⟩)) ∧ w'.cell? ⟨m + 3, 4, none⟩ = some (.slice ao No co) ∧ w'.cell? ⟨g + 1, 0, none⟩ = some (.int .i64 i1) ∧ w'.cell? ⟨g + 1, 1, none⟩ = some (.int .i64 i2) ∧ w'.cell? ⟨g + 1, 2, none⟩ = some (.int .i64 i3))) (by kernel_rfl) ?_ (fun hHeld => ?_)
    · ((first
  | exact HC6.out _ hb6
  | exact HC6.out _ hwd
  | fail))
    refine wpAnyH_take (i := 0) (v := ?_) rfl (by kernel_rfl) (by kernel_rfl) (by kernel_rfl) (fun _ _ _ h => h) (Or.inl ⟨by rfl, ?_⟩) (by assumption) ?_
    rotate_left
    · (intro w hSw; (try dsimp only at hSw); go_simp; try rfl)
    try simp only [Act.put, List.setIfInBounds_toArray, List.set_cons_zero, List.set_cons_succ, List.getElem_toArray, List.getElem_cons_zero, List.getElem_cons_succ]
    refine wpAnyH_take (i := 1) (v := ?_) rfl (by kernel_rfl) (by kernel_rfl) (by kernel_rfl) (fun _ _ _ h => h) (Or.inl ⟨by rfl, ?_⟩) (by assumption) ?_
    rotate_left
    · (intro w hSw; (try dsimp only at hSw); go_simp; try rfl)
    try simp only [Act.put, List.setIfInBounds_toArray, List.set_cons_zero, List.set_cons_succ, List.getElem_toArray, List.getElem_cons_zero, List.getElem_cons_succ]
    refine wpAnyH_take (i := 2) (v := ?_) rfl (by kernel_rfl) (by kernel_rfl) (by kernel_rfl) (fun _ _ _ h => h) (Or.inl ⟨by rfl, ?_⟩) (by assumption) ?_
    rotate_left
    · (intro w hSw; (try dsimp only at hSw); go_simp; try rfl)
    try simp only [Act.put, List.setIfInBounds_toArray, List.set_cons_zero, List.set_cons_succ, List.getElem_toArray, List.getElem_cons_zero, List.getElem_cons_succ]
    refine wpAnyH_take (i := 3) (v := ?_) rfl (by kernel_rfl) (by kernel_rfl) (by kernel_rfl) (fun _ _ _ h => h) (Or.inl ⟨by rfl, ?_⟩) (by assumption) ?_
    rotate_left
    · (intro w hSw; (try dsimp only at hSw); go_simp; try rfl)
    try simp only [Act.put, List.setIfInBounds_toArray, List.set_cons_zero, List.set_cons_succ, List.getElem_toArray, List.getElem_cons_zero, List.getElem_cons_succ]
    refine wpAnyH_take (i := 4) (v := ?_) rfl (by kernel_rfl) (by kernel_rfl) (by kernel_rfl) (fun _ _ _ h => h) (Or.inl ⟨by rfl, ?_⟩) (by assumption) ?_
    rotate_left
    · (intro w hSw; (try dsimp only at hSw); go_simp; try rfl)
    try simp only [Act.put, List.setIfInBounds_toArray, List.set_cons_zero, List.set_cons_succ, List.getElem_toArray, List.getElem_cons_zero, List.getElem_cons_succ]
    refine wpAnyH_ready (rs := [5]) (by kernel_rfl) (by simp) ?_
    refine (AllReadyH.cons rfl (fun K hK => ?_) AllReadyH.nil)
    go_simp
    (go_at_call 60; refine (HIx.out _ hwd).mono ?_; rintro e w6 ⟨rfl, hb⟩; have hb6 : Below wz.heap.size wz w6 := hwd.trans (hb.mono (Nat.le_refl _)))
    refine hK.out _ _ ?_ (fun hHeld => ?_)
    · ((first
  | exact HC6.out _ hb6
  | exact HC6.out _ hwd
  | fail))
    clear hK K
    try simp only [Act.put, List.setIfInBounds_toArray, List.set_cons_zero, List.set_cons_succ, List.getElem_toArray, List.getElem_cons_zero, List.getElem_cons_succ]
    refine wpAnyH_take (i := 6) (v := ?_) rfl (by kernel_rfl) (by kernel_rfl) (by kernel_rfl) (fun _ _ _ h => h) (Or.inl ⟨by rfl, ?_⟩) (by assumption) ?_
    rotate_left
    · (intro w hSw; (try dsimp only at hSw); go_simp; try rfl)
    try simp only [Act.put, List.setIfInBounds_toArray, List.set_cons_zero, List.set_cons_succ, List.getElem_toArray, List.getElem_cons_zero, List.getElem_cons_succ]
    refine wpAnyH_done (by kernel_rfl) ?_ _
    clear HC6 HIx
    have HB6 := Lib.hid (HBz.out.below hb6)
    have HP6 := Lib.hid (Bk.below HPz.out hb6)
    have HX6 := Lib.hid (Bk.below HXz.out hb6)
    have HF6 : Hid (Fr (fun k => k = m + 3 ∨ k = m + 1) w w6) := Lib.hid (HFz.out.trans (Fr.ofBelow hb6) (fun j hj q => q.elim id fun r => absurd (Nat.lt_of_lt_of_le hj HFz.out.size) (Nat.not_lt.2 r)))
    clear hb6 hwd HBz HPz HXz HFz hb
    have hopo := HB6.out.opn
    rw [show (lvF L wd (i1, i2, i3)).opn = pre ++ (i1, i2, i3) :: post from HOp.out] at hopo
    obtain ⟨go, hao⟩ : ∃ go, ao = some ⟨go, 0, none⟩ := by
      rcases hopo.2 with ⟨_, h0⟩ | ⟨go, _, _, hv, _⟩
      · simp at h0
      · simp only [Value.slice.injEq] at hv
        exact ⟨go, hv.1⟩
    subst hao
    have hcapo := (own_cap hopo).1
    have hrd : IK.Rd w6 (.slice (some ⟨go, Np * 3, none⟩) (No - Np) (co - Np)) ((i1, i2, i3) :: post) := by
      have q := rd_drop hopo.rd (List.cons_ne_nil _ _)
      rw [HNp.out] at q
      exact q
    have htk := own_take hopo (.inr (by simp))
    rw [HNp.out] at htk
    have HTk := Lib.hid htk
    have hN7 : No - Np ≤ 1000 := by have := HL.out.2.2.2; have := HNo.out; have e : (lvF L wd (i1, i2, i3)).opn = L.opn := rfl; rw [e] at this; omega
    have HCl := Lib.hid (clean_any _ ((i1, i2, i3) :: post) w6 hrd (fun y hy => HOk.out y (by rw [HOp.out]; exact List.mem_append_right _ hy)) (by have := HNN.out; simp; omega))
    have d0 := Bk.cell HP6.out 0
    have c4 := Bk.cell HB6.out.bk 4
    simp only [List.getElem?_cons_zero, List.getElem?_cons_succ] at d0 c4
    have s1 : (Np : Int) ≤ (No : Int) := by have := HNN.out; omega
    have s2 : (No : Int) ≤ (co : Int) := by omega
    have s3 : decide ((Np : Int) ≤ (No : Int)) = true := decide_eq_true s1
    have s4 : Np ≤ No := by omega
    have s5 : (0 : Int) ≤ (Np : Int) := by omega
    have s6 : ¬ co = Np := by have := HNN.out; omega
    have s7 : (Np : Int) ≤ (co : Int) := by omega
    clear hopo hrd htk
    go_upto_region 7 with fail
    go_wp2_with fail
    refine HCl.out.mono ?_
    rintro e w7 ⟨v7, he, ho7, hb7⟩
    rw [he.out]
    obtain ⟨a7, c7, hv7⟩ := ho7.slice
    obtain ⟨N7, hN7⟩ : ∃ q, (clnI ((i1, i2, i3) :: post)).length = q := ⟨_, rfl⟩
    rw [hN7] at hv7
    subst hv7
    obtain ⟨gb, hgb⟩ : ∃ q, w7.heap.size = q := ⟨_, rfl⟩
    obtain ⟨w8, hw8⟩ : ∃ q, w7.alloc (.cells #[.slice a7 N7 c7, .int .i64 0, .int .i64 0, .int .i64 0, .int .i64 0, .slice none 0 0] 90) = q := ⟨_, rfl⟩
    have hb8 : Below w6.heap.size w6 w8 := hb7.trans (by rw [← hw8]; exact (Below.refl _ _).alloc hb7.size _)
    have hb78 : Below w7.heap.size w7 w8 := by rw [← hw8]; exact (Below.refl _ _).alloc (Nat.le_refl _) _
    have HB8 := Lib.hid (HB6.out.below hb8)
    have HP8 := Lib.hid (Bk.below HP6.out hb8)
    have HX8 := Lib.hid (Bk.below HX6.out hb8)
    have HF8 : Hid (Fr (fun k => k = m + 3 ∨ k = m + 1) w w8) := Lib.hid (HF6.out.trans (Fr.ofBelow hb8) (fun j hj q => q.elim id fun r => absurd (Nat.lt_of_lt_of_le hj HF6.out.size) (Nat.not_lt.2 r)))
    have HTk8 := Lib.hid (HTk.out.below hb8)
    have HO8 := Lib.hid ((ho7.below hb78).base HF6.out.size)
    have HG8 : Hid (Bk w8 gb 90 [.slice a7 N7 c7, .int .i64 0, .int .i64 0, .int .i64 0, .int .i64 0, .slice none 0 0]) := Lib.hid (by rw [← hw8]; exact Bk.newAg hgb _ [.slice a7 N7 c7, .int .i64 0, .int .i64 0, .int .i64 0, .int .i64 0, .slice none 0 0])
    have HGb : Hid (g + 1 < gb ∧ w.heap.size ≤ gb) := Lib.hid (by have h1 := HX6.out.lt; have h2 := hb7.size; have h3 := HF6.out.size; omega)
    have HSz : Hid (∀ k, (Value.slice a7 N7 c7).ownBlock = some k → g + 1 < k ∧ k ≠ gb ∧ go < k) := Lib.hid fun k hk => by
      have h1 := ho7.from k hk
      have h2 := (ho7.blk k hk).1
      have h3 := HX6.out.lt
      have h4 := (HTk.out.blk go rfl).1
      omega
    have HN7 := Lib.hid hN7
    clear hb7 hb8 hb78 ho7 he hN7 HB6 HP6 HX6 HF6 HCl d0 c4 HTk
    have d0 := Bk.cell HP8.out 0
    have c4 := Bk.cell HB8.out.bk 4
    have f4 := HB8.out.bk.fz 4
    have l4 := HB8.out.bk.lt
    simp only [List.getElem?_cons_zero, List.getElem?_cons_succ] at d0 c4
    go_upto_region 8 with fail
    try rw [hw8]
    try rw [hgb]
    clear hw8 hgb
    go_still_tail 9, (by kernel_rfl)
    obtain ⟨Y9, hY9⟩ : ∃ q, (w8.setCell ⟨m + 3, 4, none⟩ (.slice (some ⟨go, 0, none⟩) Np co)).drew = q := ⟨_, rfl⟩
    have hYe9 : w8.drew.setCell ⟨m + 3, 4, none⟩ (.slice (some ⟨go, 0, none⟩) Np co) = Y9 := hY9
    go_upto_region 9 with fail
    have hw8d : Below w8.heap.size w8 w8.drew := (Below.refl w8.heap.size w8).drew
    have HB9 : Hid (FinAt Y9 m bw web { lvF L wd (i1, i2, i3) with opn := pre } (.slice aw T1 cw) (.slice (some ⟨go, 0, none⟩) Np co) vg) := Lib.hid (by rw [← hYe9]; exact (HB8.out.below hw8d).setOpn (Fr.refl _ _) (HTk8.out.below hw8d))
    have hfY : Fr (fun k => k = m + 3) w8 Y9 := by rw [← hYe9]; exact (Fr.ofBelow hw8d).trans (Fr.set w8.drew ⟨m + 3, 4, none⟩ _) (fun j hj q => q.elim (fun r => absurd hj (Nat.not_lt.2 r)) id)
    have HP9 := Lib.hid (hfY.bk HP8.out (by have := HZ.out; omega))
    have HX9 := Lib.hid (hfY.bk HX8.out (by have := HZ.out; omega))
    have HG9 := Lib.hid (hfY.bk HG8.out (by have := HZ.out; have := HGb.out; omega))
    have HO9 := Lib.hid (hfY.own HO8.out (fun k hk q => by have := HSz.out k hk; have := HZ.out; omega))
    have HF9 : Hid (Fr (fun k => k = m + 3 ∨ k = m + 1) w Y9) := Lib.hid (HF8.out.trans hfY (fun j _ q => q.elim id .inl))
    clear hYe9 hY9 hw8d hfY HB8 HP8 HX8 HG8 HO8 HF8 HTk8 d0 c4 f4 l4 s1 s2 s3 s4 s5 s6 s7 hN7 hcapo
    obtain ⟨y, ys, hys⟩ : ∃ y ys, clnI ((i1, i2, i3) :: post) = y :: ys := by
      cases q : clnI ((i1, i2, i3) :: post) with
      | nil =>
        have : (i1, i2, i3) ∈ clnI ((i1, i2, i3) :: post) := (mem_clnI _ _).2 (List.mem_cons_self ..)
        rw [q] at this
        cases this
      | cons y ys => exact ⟨y, ys, rfl⟩
    obtain ⟨y1, y2, y3⟩ := y
    have HYs := Lib.hid hys
    obtain ⟨g7, hg7⟩ : ∃ g7, a7 = some ⟨g7, 0, none⟩ := by
      rcases HO9.out.2 with ⟨_, h0⟩ | ⟨g7, _, _, hv, _⟩
      · rw [hys] at h0; simp at h0
      · simp only [Value.slice.injEq] at hv
        exact ⟨g7, hv.1⟩
    subst hg7
    obtain ⟨-, g7', o7, h7, hgl7, hc7⟩ := HO9.out.rd.at (by rw [hys]; simp)
    simp only [Option.some.injEq, Addr.mk.injEq, and_true] at h7
    obtain ⟨rfl, rfl⟩ := h7
    have hN7p : 0 < N7 := by have := HN7.out; rw [hys] at this; simp at this; omega
    have hN7d : (0 : Int) < (N7 : Int) := by omega
    have hN7e : decide ((0 : Int) < (N7 : Int)) = true := decide_eq_true hN7d
    have eK : IK.k = 3 := rfl
    have hc := hc7 0 hN7p
    rw [hys, eK] at hc
    have q0 : Y9.cell? ⟨g7, 0, none⟩ = some (.int .i64 y1) := hc 0 _ rfl
    have q1 : Y9.cell? ⟨g7, 1, none⟩ = some (.int .i64 y2) := hc 1 _ rfl
    have q2 : Y9.cell? ⟨g7, 2, none⟩ = some (.int .i64 y3) := hc 2 _ rfl
    have r0 := Bk.cell HG9.out 0
    have r1 := Bk.cell HG9.out 1
    have r2 := Bk.cell HG9.out 2
    have r3 := Bk.cell HG9.out 3
    have z1 := HG9.out.fz 1
    have z2 := HG9.out.fz 2
    have z3 := HG9.out.fz 3
    have zl := HG9.out.lt
    simp only [List.getElem?_cons_zero, List.getElem?_cons_succ] at r0 r1 r2 r3
    clear hc hc7 eK hgl7 hys
    go_upto_region 10 with fail
    obtain ⟨Y10, hY10⟩ : ∃ q, ((Y9.setCell ⟨gb, 1, none⟩ (.int .i64 y1)).setCell ⟨gb, 2, none⟩ (.int .i64 y2)).setCell ⟨gb, 3, none⟩ (.int .i64 y3) = q := ⟨_, rfl⟩
    have hfz : Fr (fun k => k = gb) Y9 Y10 := by
      rw [← hY10]
      exact ((Fr.set Y9 ⟨gb, 1, none⟩ _).trans (Fr.set _ ⟨gb, 2, none⟩ _) (fun j _ q => q.elim id id)).trans (Fr.set _ ⟨gb, 3, none⟩ _) (fun j _ q => q.elim id id)
    have HG10 : Hid (Bk Y10 gb 90 [.slice (some ⟨g7, 0, none⟩) N7 c7, .int .i64 y1, .int .i64 y2, .int .i64 y3, .int .i64 0, .slice none 0 0]) := Lib.hid (by rw [← hY10]; exact ((HG9.out.set 1 _).set 2 _).set 3 _)
    have HP10 := Lib.hid (hfz.bk HP9.out (by have := HGb.out; omega))
    have HO10 := Lib.hid (hfz.own HO9.out (fun k hk q => by have := HSz.out k hk; omega))
    have hgm : m + 4 ≤ gb := by have := HZ.out; have := HGb.out; omega
    have hrows : ∀ k, k = gb → (Value.slice aw T1 cw).ownBlock ≠ some k ∧ (Value.slice (some ⟨go, 0, none⟩) Np co).ownBlock ≠ some k ∧ vg.ownBlock ≠ some k := fun k hk => by
      subst hk
      exact ⟨row_far0 HB9.out.way HG9.out (by decide), row_far0 HB9.out.opn HG9.out (by decide), row_far0 HB9.out.grp HG9.out (by decide)⟩
    have HB10 := Lib.hid (hfz.fin HB9.out (fun k hk => by omega) hrows)
    have HF10 : Hid (Fr (fun k => k = m + 3 ∨ k = m + 1 ∨ k = m + 2) w Y10) := Lib.hid (HF9.out.trans hfz (fun j hj q => q.elim (fun r => r.elim .inl fun r => .inr (.inl r)) fun r => by have := HGb.out; omega))
    try rw [hY10]
    clear hY10 hfz hrows HB9 HP9 HX9 HG9 HO9 HF9 q0 q1 q2 r0 r1 r2 r3 z1 z2 z3 zl hN7p hN7d hN7e
    have r0 := Bk.cell HG10.out 0
    simp only [List.getElem?_cons_zero, List.getElem?_cons_succ] at r0
    have HLs : Hid (N7 ≤ 1000) := Lib.hid (by
      have h1 := HO10.out.rd.len
      have h2 := HN7.out
      have h3 := len_clnI ((i1, i2, i3) :: post)
      have h4 := HL2.out.1
      rw [HOp.out] at h4
      simp at h3 h4
      omega)
    have hN763 : N7 ≤ 9223372036854775807 := by have := HLs.out; omega
    go_wp2_with fail
    clear r0
    go_loopw [111] (fun i wr => ∃ (k : Nat) (of2 : List (I3 × Nat)), k ≤ N7 ∧ i = .int .i64 k ∧ Hid (of2 = ofAll L.of ((clnI ((i1, i2, i3) :: post)).take k) gb) ∧ Hid (of2.length ≤ L.of.length + k) ∧ Hid (FinAt wr m bw web { lvF L wd (i1, i2, i3) with opn := pre, of := of2 } (.slice aw T1 cw) (.slice (some ⟨go, 0, none⟩) Np co) vg) ∧ Hid (Bk wr g 83 [.pointer (some ⟨m + 3, 0, none⟩)]) ∧ Hid (Bk wr gb 90 [.slice (some ⟨g7, 0, none⟩) N7 c7, .int .i64 y1, .int .i64 y2, .int .i64 y3, .int .i64 0, .slice none 0 0]) ∧ Hid (IK.Own wr w.heap.size (.slice (some ⟨g7, 0, none⟩) N7 c7) (clnI ((i1, i2, i3) :: post))) ∧ Hid (Fr (fun k => k = m + 3 ∨ k = m + 1 ∨ k = m + 2) w wr)) (fun i _ => N7 - (intOf i).toNat)
    case atStart => exact ⟨0, L.of, Nat.zero_le _, rfl, Lib.hid rfl, Lib.hid (Nat.le_refl _), HB10, HP10, HG10, HO10, HF10⟩
    case round =>
      clear HB10 HP10 HG10 HO10 HF10
      obtain ⟨k, of2, hk, rfl, HOf, HOl, HB, HP, HG, HO, HF⟩ := hrel
      by_cases hkN : k < N7
      · have hk1 : (k : Int) < (N7 : Int) := by omega
        have hk2 : decide ((k : Int) < (N7 : Int)) = true := decide_eq_true hk1
        have hk3 : decide (k < N7) = true := decide_eq_true hkN
        obtain ⟨ids, hids⟩ : ∃ q, clnI ((i1, i2, i3) :: post) = q := ⟨_, rfl⟩
        have hN := HN7.out
        have hoo := HO.out.rd
        have hof := HOf.out
        rw [hids] at hN hoo hof
        have hkl : k < ids.length := by rw [hN]; exact hkN
        obtain ⟨-, g7', o7, h7, hgl7, hc7⟩ := hoo.at (by intro e; rw [e] at hkl; simp at hkl)
        simp only [Option.some.injEq, Addr.mk.injEq, and_true] at h7
        obtain ⟨rfl, rfl⟩ := h7
        have eK : IK.k = 3 := rfl
        have hc := hc7 k hkN
        have eg : ids.getD k IK.d = ids[k] := by simp [List.getD, hkl]
        rw [eg, eK] at hc
        have hoe : okI ids[k] := okL_cln (a := (i1, i2, i3) :: post) (fun y hy => HOk.out y (by rw [HOp.out]; exact List.mem_append_right _ hy)) _ (by rw [hids]; exact List.getElem_mem hkl)
        have htk : ids.take (k + 1) = ids.take k ++ [ids[k]] := List.take_succ_eq_append_getElem hkl
        obtain ⟨ee, hee⟩ : ∃ x, ids[k] = x := ⟨_, rfl⟩
        rw [hee] at hc hoe htk
        obtain ⟨e1, e2, e3⟩ := ee
        have q0 : wr.cell? ⟨g7, k * 3, none⟩ = some (.int .i64 e1) := by have q := hc 0 _ rfl; simpa using q
        have q1 : wr.cell? ⟨g7, k * 3 + 1, none⟩ = some (.int .i64 e2) := by have q := hc 1 _ rfl; simpa using q
        have q2 : wr.cell? ⟨g7, k * 3 + 2, none⟩ = some (.int .i64 e3) := by have q := hc 2 _ rfl; simpa using q
        have HOe := Lib.hid hoe
        have HOf2 : Hid (putV of2 (e1, e2, e3) gb = ofAll L.of ((clnI ((i1, i2, i3) :: post)).take (k + 1)) gb) := Lib.hid (by rw [hids, htk, ofAll_snoc, ← hof])
        obtain ⟨bd, hbd⟩ : ∃ q, wr.heap.size = q := ⟨_, rfl⟩
        obtain ⟨wf, hwf⟩ : ∃ q, wr.alloc (.cells #[.int .i64 e1, .int .i64 e2, .int .i64 e3] 25) = q := ⟨_, rfl⟩
        have hb : Below wr.heap.size wr wf := by rw [← hwf]; exact (Below.refl _ _).alloc (Nat.le_refl _) _
        have HBd : Hid (Bk wf bd 25 [.int .i64 e1, .int .i64 e2, .int .i64 e3]) := Lib.hid (by rw [← hwf]; exact Bk.newAg hbd _ [.int .i64 e1, .int .i64 e2, .int .i64 e3])
        have HB' := Lib.hid (HB.out.below hb)
        have HP' := Lib.hid (Bk.below HP.out hb)
        have HG' := Lib.hid (Bk.below HG.out hb)
        have HO' := Lib.hid (HO.out.below hb)
        have HF' : Hid (Fr (fun k => k = m + 3 ∨ k = m + 1 ∨ k = m + 2) w wf) := Lib.hid (HF.out.trans (Fr.ofBelow hb) (fun j hj q => q.elim id fun r => absurd (Nat.lt_of_lt_of_le hj HF.out.size) (Nat.not_lt.2 r)))
        clear hids hN hoo hof hkl hgl7 hc7 hc eK eg hoe htk hee hb HB HP HG HO HF HOf
        go_upto_region 13 with fail
        try rw [hwf]
        try rw [hbd]
        clear hwf hbd q0 q1 q2
        have d0 := Bk.cell HP'.out 0
        have c5 := Bk.cell HB'.out.bk 5
        have j0 := Bk.cell HBd.out 0
        have j1 := Bk.cell HBd.out 1
        have j2 := Bk.cell HBd.out 2
        simp only [List.getElem?_cons_zero, List.getElem?_cons_succ] at d0 c5 j0 j1 j2
        go_still_tail 6, (by kernel_rfl)
        refine wpList_put_mv rfl _ _ _ 59 rfl 88 Try.underlying59 encG (m + 2) of2 rfl (HB'.out.of.below (Below.refl wf.heap.size wf).drew) (by have h1 := HOl.out; have h2 := HL2.out.2; have h3 := HLs.out; unfold maxLen; omega) (e1, e2, e3) gb rfl HOe.out rfl ?_
        intro w5 hm5 ht5
        have hf5 : Fr (fun k => k = m + 2) wf w5 := ⟨ht5.grown.os, ht5.grown.tape, ht5.grown.output, ht5.grown.size, fun k hk hn => ht5.grown.block k hk (by simpa using hn)⟩
        have HB5 := Lib.hid (HB'.out.setOf hf5 hm5)
        have HP5 := Lib.hid (hf5.bk HP'.out (by have := HZ.out; omega))
        have HG5 := Lib.hid (hf5.bk HG'.out (by omega))
        have HO5 := Lib.hid (hf5.own HO'.out (fun k hk q => by have := HSz.out k hk; have := HZ.out; omega))
        have HF5 : Hid (Fr (fun k => k = m + 3 ∨ k = m + 1 ∨ k = m + 2) w w5) := Lib.hid (HF'.out.trans hf5 (fun j _ q => q.elim id fun r => .inr (.inr r)))
        have HOl5 : Hid ((putV of2 (e1, e2, e3) gb).length ≤ L.of.length + (k + 1)) := Lib.hid (by have h := len_putV (l := of2) HB'.out.of.nodup (e1, e2, e3) gb; have h2 := HOl.out; rw [h]; split <;> omega)
        clear hm5 ht5 hf5 HB' HP' HG' HO' HF' HOl d0 c5 j0 j1 j2 HBd
        go_wp2_with fail
        go_roundw
        case rel => exact ⟨k + 1, _, by omega, by go_num, HOf2, HOl5, HB5, HP5, HG5, HO5, HF5⟩
        case measure => simp [intOf]; omega
      · have evg := HVg.out
        subst evg
        obtain rfl : k = N7 := by omega
        have hk2 : decide ((k : Int) < (k : Int)) = false := decide_eq_false (by omega)
        have hk3 : decide (k < k) = false := decide_eq_false (by omega)
        have h7o : ∀ j, (Value.slice (some ⟨g7, 0, none⟩) k c7).ownBlock = some j → j = g7 := fun j hj => by
          simp [Value.ownBlock] at hj; omega
        have hsz7 := HSz.out g7 rfl
        have HSo := Lib.hid (sortG_any HP.out HB.out.bk HB.out.web HO.out (okL_cln (a := (i1, i2, i3) :: post) (fun y hy => HOk.out y (by rw [HOp.out]; exact List.mem_append_right _ hy))) (clnI_rises _) (by
          have h3 := len_clnI ((i1, i2, i3) :: post)
          have h4 := HL2.out.1
          rw [HOp.out] at h4
          simp at h3 h4
          omega) (by omega) (by have := HZ.out; omega) (by have := HZ.out; have := HB.out.lw; omega))
        have r0 := Bk.cell HG.out 0
        simp only [List.getElem?_cons_zero, List.getElem?_cons_succ] at r0
        go_upto_region 15 with fail
        go_wp2_with fail
        refine HSo.out.mono ?_
        rintro e ws ⟨rfl, ho8, hg8⟩
        have hf8 : Fr (fun k => k = g7) wr ws := (Fr.grown hg8).mono (fun j _ q => by simpa using q)
        have hrows : ∀ j, j = g7 → (Value.slice aw T1 cw).ownBlock ≠ some j ∧ (Value.slice (some ⟨go, 0, none⟩) Np co).ownBlock ≠ some j ∧ (Value.slice ag Ng cg).ownBlock ≠ some j := fun j hj => ⟨fun e => row_far HB.out.way HO.out (by decide) j e (by rw [hj]; rfl), (by simp [Value.ownBlock]; omega), fun e => row_far HB.out.grp HO.out (by decide) j e (by rw [hj]; rfl)⟩
        have HBs := Lib.hid (hf8.fin HB.out (fun j hj => by have := HZ.out; omega) hrows)
        have HPs := Lib.hid (hf8.bk HP.out (by omega))
        have HGs := Lib.hid (hf8.bk HG.out (by omega))
        have HOs := Lib.hid ho8
        have HFs : Hid (Fr (fun k => k = m + 3 ∨ k = m + 1 ∨ k = m + 2) w ws) := Lib.hid (HF.out.trans hf8 (fun j hj q => q.elim id fun r => by have := HGw.out; omega))
        have HOe : Hid (of2 = ofAll L.of (clnI ((i1, i2, i3) :: post)) gb) := Lib.hid (by rw [HOf.out, List.take_of_length_le (by rw [HN7.out]; exact Nat.le_refl _)])
        have H7 := Lib.hid hsz7
        clear ho8 hg8 hf8 hrows HB HP HG HO HF HOf HSo r0 h7o hsz7 HOl
        go_upto_region 16 with fail
        have hds : Below ws.heap.size ws ws.drew := (Below.refl ws.heap.size ws).drew
        have HBt := Lib.hid (HBs.out.below hds)
        have HPt := Lib.hid (Bk.below HPs.out hds)
        have HGt := Lib.hid (Bk.below HGs.out hds)
        have HOt := Lib.hid (HOs.out.below hds)
        have HFt : Hid (Fr (fun k => k = m + 3 ∨ k = m + 1 ∨ k = m + 2) w ws.drew) := Lib.hid (HFs.out.trans (Fr.ofBelow hds) (fun j hj q => q.elim id fun r => absurd (Nat.lt_of_lt_of_le hj HFs.out.size) (Nat.not_lt.2 r)))
        have e6 : ws.drew.cell? ⟨m + 3, 6, none⟩ = some (.slice ag Ng cg) := HBt.out.bk.cell 6
        have hlt6 := HBt.out.bk.lt
        have ba : Below ws.drew.heap.size ws.drew (ws.drew.alloc (.cells #[.pointer (some ⟨gb, 0, none⟩)] 88)) := (Below.refl _ _).alloc (Nat.le_refl _) _
        have HSa : Hid (m + 4 ≤ (ws.drew.alloc (.cells #[.pointer (some ⟨gb, 0, none⟩)] 88)).heap.size) := Lib.hid (by have := HPt.out.lt; have := HZ.out; have := ba.size; omega)
        have e6a : (ws.drew.alloc (.cells #[.pointer (some ⟨gb, 0, none⟩)] 88)).cell? ⟨m + 3, 6, none⟩ = some (.slice ag Ng cg) := (old_cell _ _ _ _ hlt6).trans e6
        have e6b : (ws.alloc (.cells #[.pointer (some ⟨gb, 0, none⟩)] 88)).drew.cell? ⟨m + 3, 6, none⟩ = some (.slice ag Ng cg) := e6a
        have hfa : Fr (fun k => k ≠ g) ws.drew (ws.drew.alloc (.cells #[.pointer (some ⟨gb, 0, none⟩)] 88)) := (Fr.ofBelow ba).mono (fun j hj q => absurd hj (Nat.not_lt.2 q))
        have HC16 : Hid (∀ w', Fr (fun k => k ≠ g) ws.drew w' → w'.cell? ⟨g, 0, none⟩ = some (.pointer (some ⟨m + 3, 0, none⟩))) := Lib.hid fun w' hf => (hf.bk HPt.out (by simp)).cell 0
        clear HBs HPs HGs HOs HFs
        refine wp_region_held_drew (S := (fun w' => w'.cell? ⟨g, 0, none⟩ = some (.pointer (some ⟨m + 3, 0, none⟩)))) (by kernel_rfl) ?_ (fun hHeld => ?_)
        · ((first
      | exact HC16.out _ hf5s
      | exact HC16.out _ hf5
      | exact HC16.out _ hfa
      | exact HC16.out _ (Fr.refl _ _)
      | fail))
        refine wpAnyH_take (i := 0) (v := ?_) rfl (by kernel_rfl) (by kernel_rfl) (by kernel_rfl) (fun _ _ _ h => h) (Or.inl ⟨by rfl, ?_⟩) (by assumption) ?_
        rotate_left
        · (intro w hSw; (try dsimp only at hSw); go_simp; try rfl)
        try simp only [Act.put, List.setIfInBounds_toArray, List.set_cons_zero, List.set_cons_succ, List.getElem_toArray, List.getElem_cons_zero, List.getElem_cons_succ]
        refine wpAnyH_take (i := 1) (v := ?_) rfl (by kernel_rfl) (by kernel_rfl) (by kernel_rfl) (fun _ _ _ h => h) (Or.inl ⟨by rfl, ?_⟩) (by assumption) ?_
        rotate_left
        · (intro w hSw; (try dsimp only at hSw); go_simp; try rfl)
        try simp only [Act.put, List.setIfInBounds_toArray, List.set_cons_zero, List.set_cons_succ, List.getElem_toArray, List.getElem_cons_zero, List.getElem_cons_succ]
        refine wpAnyH_take (i := 2) (v := ?_) rfl (by kernel_rfl) (by kernel_rfl) (by kernel_rfl) (fun _ _ _ h => h) (Or.inl ⟨by rfl, ?_⟩) (by assumption) ?_
        rotate_left
        · (intro w hSw; (try dsimp only at hSw); go_simp; try rfl)
        try simp only [Act.put, List.setIfInBounds_toArray, List.set_cons_zero, List.set_cons_succ, List.getElem_toArray, List.getElem_cons_zero, List.getElem_cons_succ]
        refine wpAnyH_take (i := 3) (v := ?_) rfl (by kernel_rfl) (by kernel_rfl) (by kernel_rfl) (fun _ _ _ h => h) (Or.inl ⟨by rfl, ?_⟩) (by assumption) ?_
        rotate_left
        · (intro w hSw; (try dsimp only at hSw); go_simp; try rfl)
        try simp only [Act.put, List.setIfInBounds_toArray, List.set_cons_zero, List.set_cons_succ, List.getElem_toArray, List.getElem_cons_zero, List.getElem_cons_succ]
        refine wpAnyH_take (i := 5) (v := ?_) rfl (by kernel_rfl) (by kernel_rfl) (by kernel_rfl) (fun _ _ _ h => h) (Or.inl ⟨by rfl, ?_⟩) (by assumption) ?_
        rotate_left
        · (intro w hSw; (try dsimp only at hSw); go_simp; try rfl)
        try simp only [Act.put, List.setIfInBounds_toArray, List.set_cons_zero, List.set_cons_succ, List.getElem_toArray, List.getElem_cons_zero, List.getElem_cons_succ]
        refine wpAnyH_ready (rs := [4, 6]) (by kernel_rfl) (by simp) ?_
        refine (AllReadyH.cons rfl (fun K hK => ?_) (AllReadyH.cons rfl (fun K hK => ?_) AllReadyH.nil))
        ·
          go_simp
          refine hK.out _ _ ?_ (fun hHeld => ?_)
          · ((first
      | exact HC16.out _ hf5s
      | exact HC16.out _ hf5
      | exact HC16.out _ hfa
      | exact HC16.out _ (Fr.refl _ _)
      | fail))
          clear hK K
          try simp only [Act.put, List.setIfInBounds_toArray, List.set_cons_zero, List.set_cons_succ, List.getElem_toArray, List.getElem_cons_zero, List.getElem_cons_succ]
          refine wpAnyH_ready (rs := [6]) (by kernel_rfl) (by simp) ?_
          refine (AllReadyH.cons rfl (fun K hK => ?_) AllReadyH.nil)
          go_simp
          refine hK.out _ _ ?_ (fun hHeld => ?_)
          · ((first
      | exact HC16.out _ hf5s
      | exact HC16.out _ hf5
      | exact HC16.out _ hfa
      | exact HC16.out _ (Fr.refl _ _)
      | fail))
          clear hK K
          try simp only [Act.put, List.setIfInBounds_toArray, List.set_cons_zero, List.set_cons_succ, List.getElem_toArray, List.getElem_cons_zero, List.getElem_cons_succ]
          refine wpAnyH_ready (rs := [7]) (by kernel_rfl) (by simp) ?_
          refine (AllReadyH.cons rfl (fun K hK => ?_) AllReadyH.nil)
          refine PK.step_app2 rfl _ _ rfl (m + 4) _ L.grp rfl (HBt.out.grp.below ba) ws.drew.heap.size 1 gb rfl (PK.rd_boxAt _ _ 1 _ _ rfl) (by have := HGl.out; omega) HSa.out ?_
          intro v5 w5 ho5 hb5 hg5 hn5
          obtain ⟨a5, c5, ev5⟩ := ho5.slice
          simp only [List.length_append, List.length_singleton] at ev5
          rw [HNg.out] at ev5
          subst ev5
          have hf5 : Fr (fun k => k ≠ g) ws.drew w5 := hfa.trans (Fr.grown hg5) (fun j hj q => q.elim id fun r => fun e => row_far0 HBt.out.grp HPt.out (by decide) (r.symm.trans (congrArg some e)))
          have hf5s := hf5.trans (Fr.set w5 ⟨m + 3, 6, none⟩ (.slice a5 (Ng + 1) c5)) (U := fun k => k ≠ g) (fun j hj q => q.elim id fun r => by have := HZ.out; simp at r; omega)
          have hw5 : Fr (fun k => (Value.slice ag Ng cg).ownBlock = some k) ws.drew w5 := (Fr.ofBelow ba).trans (Fr.grown hg5) (fun j hj q => q.elim (fun r => absurd hj (Nat.not_lt.2 r)) (fun r => r.symm))
          have hbk5 := hw5.bk HBt.out.bk (fun q => by have := HBt.out.grp.from _ q; omega)
          have e7 : w5.cell? ⟨m + 3, 6, none⟩ = some (.slice ag Ng cg) := hbk5.cell 6
          have f7 := hbk5.fz 6
          have l7 := hbk5.lt
          refine hK.out _ _ ?_ (fun hHeld => ?_)
          · ((first
      | exact HC16.out _ hf5s
      | exact HC16.out _ hf5
      | exact HC16.out _ hfa
      | exact HC16.out _ (Fr.refl _ _)
      | fail))
          clear hK K
          try simp only [Act.put, List.setIfInBounds_toArray, List.set_cons_zero, List.set_cons_succ, List.getElem_toArray, List.getElem_cons_zero, List.getElem_cons_succ]
          refine wpAnyH_take (i := 8) (v := ?_) rfl (by kernel_rfl) (by kernel_rfl) (by kernel_rfl) (fun _ _ _ h => h) (Or.inl ⟨by rfl, ?_⟩) (by assumption) ?_
          rotate_left
          · (intro w hSw; (try dsimp only at hSw); go_simp; try rfl)
          try simp only [Act.put, List.setIfInBounds_toArray, List.set_cons_zero, List.set_cons_succ, List.getElem_toArray, List.getElem_cons_zero, List.getElem_cons_succ]
          refine wpAnyH_take (i := 9) (v := ?_) rfl (by kernel_rfl) (by kernel_rfl) (by kernel_rfl) (fun _ _ _ h => h) (Or.inl ⟨by rfl, ?_⟩) (by assumption) ?_
          rotate_left
          · (intro w hSw; (try dsimp only at hSw); go_simp; try rfl)
          try simp only [Act.put, List.setIfInBounds_toArray, List.set_cons_zero, List.set_cons_succ, List.getElem_toArray, List.getElem_cons_zero, List.getElem_cons_succ]
          refine wpAnyH_ready (rs := [10]) (by kernel_rfl) (by simp) ?_
          refine (AllReadyH.cons rfl (fun K hK => ?_) AllReadyH.nil)
          go_simp
          refine hK.out _ _ ?_ (fun hHeld => ?_)
          · ((first
      | exact HC16.out _ hf5s
      | exact HC16.out _ hf5
      | exact HC16.out _ hfa
      | exact HC16.out _ (Fr.refl _ _)
      | fail))
          clear hK K
          try simp only [Act.put, List.setIfInBounds_toArray, List.set_cons_zero, List.set_cons_succ, List.getElem_toArray, List.getElem_cons_zero, List.getElem_cons_succ]
          refine wpAnyH_done (by kernel_rfl) ?_ _
          have HB6 := Lib.hid (HBt.out.setGrp hw5 ho5)
          have hset : Fr (fun k => k = m + 3) w5 (w5.setCell ⟨m + 3, 6, none⟩ (.slice a5 (Ng + 1) c5)) := Fr.set w5 ⟨m + 3, 6, none⟩ _
          have HG6 := Lib.hid (hset.bk (hw5.bk HGt.out (fun q => row_far0 HBt.out.grp HGt.out (by decide) q)) (by have := HZ.out; have := HGb.out; omega))
          have HO6 := Lib.hid (hset.own (hw5.own HOt.out (fun j hj q => row_far HOt.out HBt.out.grp (by decide) j hj q)) (fun j hj q => by have := HSz.out j hj; have := HZ.out; omega))
          have HF6 : Hid (Fr (fun k => k = m + 3 ∨ k = m + 1 ∨ k = m + 2 ∨ (Value.slice ag Ng cg).ownBlock = some k) w (w5.setCell ⟨m + 3, 6, none⟩ (.slice a5 (Ng + 1) c5))) := Lib.hid ((HFt.out.trans hw5 (U := fun k => k = m + 3 ∨ k = m + 1 ∨ k = m + 2 ∨ (Value.slice ag Ng cg).ownBlock = some k) (fun j _ q => by
            rcases q with (q | q | q) | q
            · exact .inl q
            · exact .inr (.inl q)
            · exact .inr (.inr (.inl q))
            · exact .inr (.inr (.inr q)))).trans hset (fun j _ q => q.elim id .inl))
          have HN6 : Hid (Next w (.slice ag Ng cg) (.slice a5 (Ng + 1) c5)) := Lib.hid fun j hj => (hn5 j hj).imp id (fun q => Nat.le_trans HFt.out.size (Nat.le_trans ba.size q))
          clear HC16 hf5 hf5s hw5 hbk5 e7 f7 l7 ho5 hb5 hg5 hn5 HBt HPt HGt HOt HFt e6 e6a e6b hfa ba HSa hlt6 hset
          go_wp2
          go_end0
          have hoe := HOe.out
          subst hoe
          have hn7 := HN7.out
          subst hn7
          exact HQ1.out _ _ _ _ gb g7 c7 y1 y2 y3 ys HB6.out HYs.out HG6.out HO6.out HGb.out.2 HF6.out HN6.out (fun k hk => by revert hk; cases aw <;> exact id) (fun k hk => hk) (HAB.out.1.trans HAB.out.2.symm)
        ·
          go_simp
          refine hK.out _ _ ?_ (fun hHeld => ?_)
          · ((first
      | exact HC16.out _ hf5s
      | exact HC16.out _ hf5
      | exact HC16.out _ hfa
      | exact HC16.out _ (Fr.refl _ _)
      | fail))
          clear hK K
          try simp only [Act.put, List.setIfInBounds_toArray, List.set_cons_zero, List.set_cons_succ, List.getElem_toArray, List.getElem_cons_zero, List.getElem_cons_succ]
          refine wpAnyH_ready (rs := [4]) (by kernel_rfl) (by simp) ?_
          refine (AllReadyH.cons rfl (fun K hK => ?_) AllReadyH.nil)
          go_simp
          refine hK.out _ _ ?_ (fun hHeld => ?_)
          · ((first
      | exact HC16.out _ hf5s
      | exact HC16.out _ hf5
      | exact HC16.out _ hfa
      | exact HC16.out _ (Fr.refl _ _)
      | fail))
          clear hK K
          try simp only [Act.put, List.setIfInBounds_toArray, List.set_cons_zero, List.set_cons_succ, List.getElem_toArray, List.getElem_cons_zero, List.getElem_cons_succ]
          refine wpAnyH_ready (rs := [7]) (by kernel_rfl) (by simp) ?_
          refine (AllReadyH.cons rfl (fun K hK => ?_) AllReadyH.nil)
          refine PK.step_app2 rfl _ _ rfl (m + 4) _ L.grp rfl (HBt.out.grp.below ba) ws.drew.heap.size 1 gb rfl (PK.rd_boxAt _ _ 1 _ _ rfl) (by have := HGl.out; omega) HSa.out ?_
          intro v5 w5 ho5 hb5 hg5 hn5
          obtain ⟨a5, c5, ev5⟩ := ho5.slice
          simp only [List.length_append, List.length_singleton] at ev5
          rw [HNg.out] at ev5
          subst ev5
          have hf5 : Fr (fun k => k ≠ g) ws.drew w5 := hfa.trans (Fr.grown hg5) (fun j hj q => q.elim id fun r => fun e => row_far0 HBt.out.grp HPt.out (by decide) (r.symm.trans (congrArg some e)))
          have hf5s := hf5.trans (Fr.set w5 ⟨m + 3, 6, none⟩ (.slice a5 (Ng + 1) c5)) (U := fun k => k ≠ g) (fun j hj q => q.elim id fun r => by have := HZ.out; simp at r; omega)
          have hw5 : Fr (fun k => (Value.slice ag Ng cg).ownBlock = some k) ws.drew w5 := (Fr.ofBelow ba).trans (Fr.grown hg5) (fun j hj q => q.elim (fun r => absurd hj (Nat.not_lt.2 r)) (fun r => r.symm))
          have hbk5 := hw5.bk HBt.out.bk (fun q => by have := HBt.out.grp.from _ q; omega)
          have e7 : w5.cell? ⟨m + 3, 6, none⟩ = some (.slice ag Ng cg) := hbk5.cell 6
          have f7 := hbk5.fz 6
          have l7 := hbk5.lt
          refine hK.out _ _ ?_ (fun hHeld => ?_)
          · ((first
      | exact HC16.out _ hf5s
      | exact HC16.out _ hf5
      | exact HC16.out _ hfa
      | exact HC16.out _ (Fr.refl _ _)
      | fail))
          clear hK K
          try simp only [Act.put, List.setIfInBounds_toArray, List.set_cons_zero, List.set_cons_succ, List.getElem_toArray, List.getElem_cons_zero, List.getElem_cons_succ]
          refine wpAnyH_take (i := 8) (v := ?_) rfl (by kernel_rfl) (by kernel_rfl) (by kernel_rfl) (fun _ _ _ h => h) (Or.inl ⟨by rfl, ?_⟩) (by assumption) ?_
          rotate_left
          · (intro w hSw; (try dsimp only at hSw); go_simp; try rfl)
          try simp only [Act.put, List.setIfInBounds_toArray, List.set_cons_zero, List.set_cons_succ, List.getElem_toArray, List.getElem_cons_zero, List.getElem_cons_succ]
          refine wpAnyH_take (i := 9) (v := ?_) rfl (by kernel_rfl) (by kernel_rfl) (by kernel_rfl) (fun _ _ _ h => h) (Or.inl ⟨by rfl, ?_⟩) (by assumption) ?_
          rotate_left
          · (intro w hSw; (try dsimp only at hSw); go_simp; try rfl)
          try simp only [Act.put, List.setIfInBounds_toArray, List.set_cons_zero, List.set_cons_succ, List.getElem_toArray, List.getElem_cons_zero, List.getElem_cons_succ]
          refine wpAnyH_ready (rs := [10]) (by kernel_rfl) (by simp) ?_
          refine (AllReadyH.cons rfl (fun K hK => ?_) AllReadyH.nil)
          go_simp
          refine hK.out _ _ ?_ (fun hHeld => ?_)
          · ((first
      | exact HC16.out _ hf5s
      | exact HC16.out _ hf5
      | exact HC16.out _ hfa
      | exact HC16.out _ (Fr.refl _ _)
      | fail))
          clear hK K
          try simp only [Act.put, List.setIfInBounds_toArray, List.set_cons_zero, List.set_cons_succ, List.getElem_toArray, List.getElem_cons_zero, List.getElem_cons_succ]
          refine wpAnyH_done (by kernel_rfl) ?_ _
          have HB6 := Lib.hid (HBt.out.setGrp hw5 ho5)
          have hset : Fr (fun k => k = m + 3) w5 (w5.setCell ⟨m + 3, 6, none⟩ (.slice a5 (Ng + 1) c5)) := Fr.set w5 ⟨m + 3, 6, none⟩ _
          have HG6 := Lib.hid (hset.bk (hw5.bk HGt.out (fun q => row_far0 HBt.out.grp HGt.out (by decide) q)) (by have := HZ.out; have := HGb.out; omega))
          have HO6 := Lib.hid (hset.own (hw5.own HOt.out (fun j hj q => row_far HOt.out HBt.out.grp (by decide) j hj q)) (fun j hj q => by have := HSz.out j hj; have := HZ.out; omega))
          have HF6 : Hid (Fr (fun k => k = m + 3 ∨ k = m + 1 ∨ k = m + 2 ∨ (Value.slice ag Ng cg).ownBlock = some k) w (w5.setCell ⟨m + 3, 6, none⟩ (.slice a5 (Ng + 1) c5))) := Lib.hid ((HFt.out.trans hw5 (U := fun k => k = m + 3 ∨ k = m + 1 ∨ k = m + 2 ∨ (Value.slice ag Ng cg).ownBlock = some k) (fun j _ q => by
            rcases q with (q | q | q) | q
            · exact .inl q
            · exact .inr (.inl q)
            · exact .inr (.inr (.inl q))
            · exact .inr (.inr (.inr q)))).trans hset (fun j _ q => q.elim id .inl))
          have HN6 : Hid (Next w (.slice ag Ng cg) (.slice a5 (Ng + 1) c5)) := Lib.hid fun j hj => (hn5 j hj).imp id (fun q => Nat.le_trans HFt.out.size (Nat.le_trans ba.size q))
          clear HC16 hf5 hf5s hw5 hbk5 e7 f7 l7 ho5 hb5 hg5 hn5 HBt HPt HGt HOt HFt e6 e6a e6b hfa ba HSa hlt6 hset
          go_wp2
          go_end0
          have hoe := HOe.out
          subst hoe
          have hn7 := HN7.out
          subst hn7
          exact HQ1.out _ _ _ _ gb g7 c7 y1 y2 y3 ys HB6.out HYs.out HG6.out HO6.out HGb.out.2 HF6.out HN6.out (fun k hk => by revert hk; cases aw <;> exact id) (fun k hk => hk) (HAB.out.1.trans HAB.out.2.symm)
  · have hABi : ¬ ((A : Int) = (Bn : Int)) := by omega
    have hABd : decide ((A : Int) = (Bn : Int)) = false := decide_eq_false hABi
    go_wp2_with fail
    go_end0
    exact HQ0.out _ _ HBz.out HFz.out (fun k hk => by revert hk; cases aw <;> exact id) (by rw [HAB.out.1, HAB.out.2]; exact hAB)
end Go.Proofs.Ytlckjpjcfalfnaa
