/-
  Texts put together: DirC, DirD, DirE, DirF, DirG, DirS, DirT, DirU, DirV, DirW, DirX, DirY, DirZ.
-/
import Derived.Test.YtodcmhmankmaoaaGreatJ2
import Derived.Shelf.SlMaps.Clone
import Derived.Shelf.Lay
import Derived.Ground.SlmcProg
import Derived.Test.YtodcmhmankmaoaaGreatJ3
import Derived.Test.YtodcmhmankmaoaaGreatRowS
import Derived.Ground.SlsfProg
namespace Go.Proofs.YtodcmhmankmaoaaGreat
open Go.RowKit
open Go.MapKept Go.Shelf
set_option linter.unusedSimpArgs false
set_option linter.unusedVariables false

shelf_lay_g SlLaysW.n5 Slmc 5 at Tryz 53 as Tryz.cloneD
theorem new_any (w : World) : Calls Tryz.prog 27 #[] w fun e w' => e = .returned (dP (w.heap.size + 1)) ∧ DirAt w' (w.heap.size + 1) w.heap.size 0 [] ∧ Below w.heap.size w w' := by
  have hmm := @run_makeMap Tryz.prog
  go_enter Tryz.func27, Tryz.ntmps27
  go_wp2
  go_ret
  refine ⟨rfl, ⟨by simp [go_sem], ⟨.map [], 0, Nat.le_refl _, ?_, DirIs.empty⟩, List.Pairwise.nil, (fun e he => by cases he)⟩, ((Below.refl _ _).alloc (Nat.le_refl _) _).alloc (by simp) _⟩
  exact (World.ownsMap_made (H := Unit) w Tryz.prog 9 heldElem).alloc _
def ClP (K : Nat) (l : List E3) (w : World) (e : Ending) (w' : World) : Prop := ∃ d2 b2, Hid (e = .returned (dP d2)) ∧ DirAt w' d2 b2 K l ∧ w.heap.size ≤ d2 ∧ w.heap.size ≤ b2 ∧ Below w.heap.size w w'
theorem clone_any (d bk K : Nat) (l : List E3) (w : World) (hd : DirAt w d bk K l) : Calls Tryz.prog 28 #[dP d] w (ClP K l w) := by
  obtain ⟨D, m, hm, hM, hI⟩ := hd.map
  have c0 := hd.cell
  have HC := Lib.hid (AnyW.maps_Clone_owns Tryz.cloneD 9 heldElem bk m D w hM)
  have HI := Lib.hid hI
  have HMM := Lib.hid hm
  have HD := Lib.hid hd
  clear hM hI hd hm
  go_enter Tryz.func28, Tryz.ntmps28
  go_wp2_with (go_at_call 53; refine HC.out.mono ?_; rintro e w1 ⟨rfl, ho, _, hb⟩; have HO := Lib.hid ho; have HB := Lib.hid hb; clear ho hb)
  go_ret
  refine ⟨w1.heap.size, w.heap.size, rfl, ⟨by simp [go_sem], ⟨D, m, HMM.out, HO.out.alloc _, HI.out⟩, HD.out.rise, HD.out.keys⟩, HB.out.size, Nat.le_refl _, HB.out.alloc HB.out.size _⟩
end Go.Proofs.YtodcmhmankmaoaaGreat
namespace Go.Proofs.YtodcmhmankmaoaaGreat
open Go.RowKit Go.Sort Go.Shelf
set_option linter.unusedSimpArgs false
set_option linter.unusedVariables false

theorem Bel.grew {w w' : World} (h : Bel w w') : ∃ q os, w' = grow (w.drewN q) os := by
  obtain ⟨hb, hd⟩ := h
  refine ⟨w'.drawn - w.drawn, w'.heap.extract w.heap.size w'.heap.size, ?_⟩
  have e : w'.heap = w.heap ++ w'.heap.extract w.heap.size w'.heap.size := by
    apply Array.ext_getElem?
    intro k
    by_cases hk : k < w.heap.size
    · rw [Array.getElem?_append_left hk, hb.block k hk]
    · rw [Array.getElem?_append_right (by omega), Array.getElem?_extract]
      have := hb.size
      by_cases h2 : k < w'.heap.size
      · rw [if_pos (by omega)]
        congr 1
        omega
      · rw [if_neg (by omega), Array.getElem?_eq_none (by omega)]
  obtain ⟨hp, tp, dr, os, ou⟩ := w'
  have h1 := hb.os
  have h2 := hb.tape
  have h3 := hb.output
  simp only at e h1 h2 h3 hd
  unfold grow
  simp only [World.drewN]
  rw [← e, h1, h2, h3, Nat.add_sub_cancel' hd]
def ordD (a b : E3) : Int := if lsr a.1 b.1 then -1 else if lsr b.1 a.1 then 1 else 0
abbrev enV (e : E3) : Value := .agg #[.string e.1, .string e.2.1, .int .i64 e.2.2]
set_option maxHeartbeats 1000000 in
theorem order_any (p1 v1 : ByteArray) (n1 : Int) (p2 v2 : ByteArray) (n2 : Int) (w : World) (h1 : p1.size ≤ 1000) (h2 : p2.size ≤ 1000) (hm : ML w) :
    Calls Tryz.prog 43 #[.agg #[.string p1, .string v1, .int .i64 n1], .agg #[.string p2, .string v2, .int .i64 n2]] w fun e w' => e = .returned (.int .i64 (ordD (p1, v1, n1) (p2, v2, n2))) ∧ Bel w w' := by
  obtain ⟨X, hX⟩ : ∃ X, (w.alloc (.cells #[.string p1, .string v1, .int .i64 n1] 49)).alloc (.cells #[.string p2, .string v2, .int .i64 n2] 49) = X := ⟨_, rfl⟩
  have hB : Bel w X := by rw [← hX]; exact ((Bel.refl w).alloc _).alloc _
  have k1 : X.cell? ⟨w.heap.size, 0, none⟩ = some (.string p1) := by rw [← hX]; simp [go_sem]
  have k2 : X.cell? ⟨w.heap.size + 1, 0, none⟩ = some (.string p2) := by rw [← hX]; simp [go_sem]
  have hz : w.heap.size + 1 < X.heap.size := by rw [← hX]; simp
  have HL1 := Lib.hid (less_drw p1 p2 X h1 h2 (hm.below hB.1))
  have HL2 : Hid (∀ W, Bel w W → Calls Tryz.prog 29 #[.string p2, .string p1] W fun e w' => e = .returned (.bool (lsr p2 p1)) ∧ Bel W w') := Lib.hid (fun W hW => less_drw p2 p1 W h2 h1 (hm.below hW.1))
  have HB := Lib.hid hB
  have K1 := Lib.hid k1
  have K2 := Lib.hid k2
  have HZ := Lib.hid hz
  obtain ⟨A, hA⟩ : ∃ A, lsr p1 p2 = A := ⟨_, rfl⟩
  obtain ⟨B, hBB⟩ : ∃ B, lsr p2 p1 = B := ⟨_, rfl⟩
  rw [hA] at HL1
  rw [hBB] at HL2
  have HO : Hid (ordD (p1, v1, n1) (p2, v2, n2) = if A then -1 else if B then 1 else 0) := Lib.hid (by simp [ordD, hA, hBB])
  clear hA hBB hB hz h1 h2 hm
  go_enter Tryz.func43, Tryz.ntmps43
  go_wp2_with fail
  refine HL1.out.mono ?_
  rintro e w1 ⟨rfl, hb⟩
  have HB1 := Lib.hid (Bel.trans HB.out hb)
  have k1 := (hb.1.cell (p := ⟨w.heap.size, 0, none⟩) (by have := HZ.out; show w.heap.size < _; omega)).trans K1.out
  have k2 := (hb.1.cell (p := ⟨w.heap.size + 1, 0, none⟩) HZ.out).trans K2.out
  clear hb hX
  cases A with
  | true =>
    go_wp2
    go_ret
    exact ⟨by rw [HO.out]; rfl, HB1.out⟩
  | false =>
    go_wp2_with fail
    refine (HL2.out w1 HB1.out).mono ?_
    rintro e w2 ⟨rfl, hb⟩
    have HB2 := Lib.hid (Bel.trans HB1.out hb)
    clear hb
    cases B
    all_goals
      go_wp2
      go_ret
      exact ⟨by rw [HO.out]; rfl, HB2.out⟩
end Go.Proofs.YtodcmhmankmaoaaGreat
namespace Go.Proofs.YtodcmhmankmaoaaGreat
open Go.RowKit Go.Sort Go.Shelf
set_option linter.unusedSimpArgs false
set_option linter.unusedVariables false

shelf_lay_g SlLaysF0.n6 Slsf 6 at Tryz 42 as Tryz.sortEnts
def enE (x : E3) : List Value := [.string x.1, .string x.2.1, .int .i64 x.2.2]
/-- Entries as elements of rows. -/
noncomputable def EK : Knd Tryz.prog E3 where
  T := 49
  S := 22
  k := 3
  enc := enE
  z := .agg #[.string ByteArray.empty, .string ByteArray.empty, .int .i64 0]
  B := 40
  len := fun _ => rfl
  one := fun x v h => by simp [enE] at h; rcases h with rfl | rfl | rfl <;> rfl
  und := Tryz.underlying22
  info := by kernel_rfl
  zc := rfl
  pos := by omega
  small := by omega
  d := (ByteArray.empty, ByteArray.empty, 0)
/-- .. those of one row. -/
noncomputable def EK4 (l : List E3) (d : {e : E3 // e ∈ l}) : Knd Tryz.prog {e : E3 // e ∈ l} where
  T := 49
  S := 22
  k := 3
  enc := fun x => enE x.1
  z := .agg #[.string ByteArray.empty, .string ByteArray.empty, .int .i64 0]
  B := 40
  len := fun _ => rfl
  one := fun x v h => by simp [enE] at h; rcases h with rfl | rfl | rfl <;> rfl
  und := Tryz.underlying22
  info := by kernel_rfl
  zc := rfl
  pos := by omega
  small := by omega
  d := d
theorem own4 {l : List E3} {d : {e : E3 // e ∈ l}} {w : World} {base : Nat} {v : Value} {k : List {e : E3 // e ∈ l}} : (EK4 l d).Own w base v k ↔ EK.Own w base v (k.map (·.1)) := by
  have e : (EK4 l d).row k = EK.row (k.map (·.1)) := by
    unfold Knd.row
    rw [List.flatMap_map]
    rfl
  unfold Knd.Own
  rw [e, List.length_map]
  exact Iff.rfl
def ordS {l : List E3} (a b : {e : E3 // e ∈ l}) : Int := ordD a.1 b.1
theorem ordS_lt {l : List E3} (a b : {e : E3 // e ∈ l}) : ltOf ordS a b = lsr a.1.1 b.1.1 := by
  unfold ltOf ordS ordD
  cases h1 : lsr a.1.1 b.1.1
  · cases h2 : lsr b.1.1 a.1.1 <;> simp
  · simp
theorem ordS_swo {l : List E3} (hk : okKeys l) : SWO (ltOf (ordS (l := l))) where
  irrefl x := by rw [ordS_lt]; exact lsr_irr _
  trans x y z h k := by rw [ordS_lt] at *; exact lsr_trans h k
  ntrans x y z h k := by
    rw [ordS_lt] at *
    by_cases e : x.1.1 = y.1.1
    · rw [e]; exact k
    · by_cases e2 : y.1.1 = z.1.1
      · rw [← e2]; exact h
      · have h1 := lsr_tot (hk y.1 y.2) (hk x.1 x.2) (fun q => e q.symm)
        have k1 := lsr_tot (hk z.1 z.2) (hk y.1 y.2) (fun q => e2 q.symm)
        rw [h] at h1
        rw [k] at k1
        exact lsr_asym (lsr_trans (by simpa using k1) (by simpa using h1))
theorem ordS_tot {l : List E3} (hr : RisesD l) (hk : okKeys l) (x y : {e : E3 // e ∈ l}) (h : ltOf ordS x y = false) (k : ltOf ordS y x = false) : x = y := by
  rw [ordS_lt] at h k
  by_cases e : x.1.1 = y.1.1
  · exact Subtype.ext (hr.one x.2 y.2 e)
  · have := lsr_tot (hk x.1 x.2) (hk y.1 y.2) e
    rw [h, k] at this
    cases this
theorem mem_all {D : DataW Unit} {l : List E3} {left : Lit → Bool} {es : List E3} (hI : DirIs D l) (hr : RisesD l) (h : Collected D left (es.map (·.1.data.toList))) (hm : ∀ e ∈ es, e ∈ l) (hl : ∀ kl, left kl = false) : ∀ e, e ∈ es ↔ e ∈ l := by
  intro e
  refine ⟨hm e, fun he => ?_⟩
  have h1 := keys_perm hI hr h hl
  have h2 : e.1 ∈ (es.map (·.1.data.toList)).map ofL := h1.mem_iff.2 (List.mem_map.2 ⟨e, he, rfl⟩)
  rw [List.map_map, List.mem_map] at h2
  obtain ⟨e2, he2, hq⟩ := h2
  have hq : e2.1 = e.1 := by simpa [ofL_of] using hq
  rw [← hr.one (hm e2 he2) he hq]
  exact he2
theorem sorted_all {D : DataW Unit} {l : List E3} {left : Lit → Bool} {es : List {e : E3 // e ∈ l}} (hI : DirIs D l) (hr : RisesD l) (hk : okKeys l) (h : Collected D left ((es.map (·.1)).map (·.1.data.toList))) (hl : ∀ kl, left kl = false) :
    (es.mergeSort fun x y => !(ltOf ordS) y x).map (·.1) = l := by
  have hp := List.mergeSort_perm es (fun x y => !(ltOf ordS) y x)
  have hmem := mem_all hI hr h (fun e he => by obtain ⟨x, _, rfl⟩ := List.mem_map.1 he; exact x.2) hl
  have hnd : es.Nodup := by
    have := h.1
    rw [List.map_map, List.nodup_iff_pairwise_ne, List.pairwise_map] at this
    exact List.nodup_iff_pairwise_ne.2 (this.imp fun q e => q (by rw [e]))
  refine RisesD.ext ?_ hr fun e => ?_
  · unfold RisesD
    rw [List.pairwise_map]
    have s := ordS_swo hk
    have h1 := List.pairwise_mergeSort (le := fun x y : {e : E3 // e ∈ l} => !(ltOf ordS) y x) (fun a b c q k => by
      simp only [Bool.not_eq_true'] at *
      exact s.ntrans _ _ _ k q) (fun a b => by
      cases q : ltOf ordS b a
      · simp
      · rw [ordS_lt] at q
        simp [ordS_lt, lsr_asym q]) es
    have h2 := hp.nodup_iff.2 hnd
    exact (List.Pairwise.and h1 h2).imp (fun {a b} q => by
      have q1 : lsr b.1.1 a.1.1 = false := by have := q.1; rw [ordS_lt] at this; simpa using this
      cases k : lsr a.1.1 b.1.1
      · exact absurd (ordS_tot hr hk a b (by rw [ordS_lt]; exact k) (by rw [ordS_lt]; exact q1)) q.2
      · rfl)
  · rw [← hmem e, List.mem_map, List.mem_map]
    constructor
    · rintro ⟨x, hx, rfl⟩; exact ⟨x, hp.mem_iff.1 hx, rfl⟩
    · rintro ⟨x, hx, rfl⟩; exact ⟨x, hp.mem_iff.2 hx, rfl⟩
theorem lift_all {l : List E3} : ∀ (es : List E3), (∀ e ∈ es, e ∈ l) → ∃ k : List {e : E3 // e ∈ l}, k.map (·.1) = es
  | [], _ => ⟨[], rfl⟩
  | a :: es, h => by
    obtain ⟨k, hk⟩ := lift_all es fun e he => h e (.tail _ he)
    exact ⟨⟨a, h a (.head _)⟩ :: k, by simp [hk]⟩
def EntP (l : List E3) (w : World) (e : Ending) (w' : World) : Prop := ∃ v, Hid (e = .returned v) ∧ EK.Own w' w.heap.size v l ∧ Below w.heap.size w w'
end Go.Proofs.YtodcmhmankmaoaaGreat
namespace Go.Proofs.YtodcmhmankmaoaaGreat
open Go.RowKit Go.Sort Go.Shelf
set_option linter.unusedSimpArgs false
set_option linter.unusedVariables false

theorem cmpEnts {l : List E3} [Inhabited {e : E3 // e ∈ l}] (hk : okKeys l) (g size : Nat) (w : World) (hm : ∀ (m : Nat) (os : Array Obj) (dk : Array {e : E3 // e ∈ l}), ML (sortWorldK (fun x : {e : E3 // e ∈ l} => enE x.1) 3 w g 0 m dk os)) :
    CmpLays Tryz.prog 43 #[] (fun x : {e : E3 // e ∈ l} => enE x.1) 3 ordS g 0 size w :=
  fun m os dk _ x y => (order_any x.1.1 x.1.2.1 x.1.2.2 y.1.1 y.1.2.1 y.1.2.2 _ (okP_size (hk x.1 x.2)) (okP_size (hk y.1 y.2)) (hm m os dk)).mono fun e w' ⟨he, hb⟩ => ⟨he, hb.grew⟩
theorem ML.out {w wr w' : World} {g : Nat} (h : ML w) (hb : Below w.heap.size w wr) (hg : wr.grownBy w' (some g)) (hl : w.heap.size ≤ g) : ML w' := by
  obtain ⟨m, hm⟩ := h
  have hlt := block_lt_of_cell2 hm rfl
  exact ⟨m, hg.cell ((hb.cell (p := ⟨0, 0, none⟩) hlt).trans hm) (by simp; omega)⟩
set_option maxRecDepth 100000 in
set_option maxHeartbeats 4000000 in
theorem entries_any (d bk K : Nat) (l : List E3) (w : World) (hd : DirAt w d bk K l) (hK : K ≤ 900000) (hm : ML w) :
    Calls Tryz.prog 15 #[dP d] w (EntP l w) := by
  obtain ⟨D, m, hmK, hM, hI⟩ := hd.map
  have HD := Lib.hid hd
  have HML := Lib.hid hm
  have HM := Lib.hid hM
  have HI := Lib.hid hI
  have HBL := Lib.hid hM.lt
  have dc := hd.cell
  have dl := hd.lt.1
  have hsz : Maps.size D ≤ 900000 := Nat.le_trans hM.size_le (by omega)
  obtain ⟨C, hC⟩ : ∃ C, Maps.size D = C := ⟨_, rfl⟩
  have HC := Lib.hid hC
  rw [hC] at hsz
  clear hd hm hM hI hC hmK
  go_enter Tryz.func15, Tryz.ntmps15
  go_wp2_with (first
    | (at_len; refine wpList_len_own _ rfl _ 69 rfl 9 68 Tryz.underlying69 heldElem bk m D rfl HM.out ?_; rw [HC.out])
    | refine EK.make rfl _ _ rfl rfl C rfl (by omega) w.heap.size (Nat.le_refl _) ?_)
  intro v1 w1 hO1 hb1 hne1 hg1
  have HO1 := Lib.hid hO1
  have HB1 := Lib.hid hb1
  have hM1 := HM.out.kept (row := none) hg1 (by simp)
  have HM1 := Lib.hid hM1
  have HNE1 := Lib.hid hne1
  have dc1 := (hb1.cell (p := ⟨d, 0, none⟩) dl).trans dc
  clear hO1 hb1 hne1 hg1 hM1 dc
  go_wp2_with (at_range; refine wpList_range_own _ rfl _ 69 rfl 9 68 strK Tryz.underlying69 heldElem bk m D rfl HM1.out ?_)
  intro w2 hr2 hg2 hz2
  have HR2 : Hid (w2.ranges (H := Unit) Tryz.prog 9 heldElem bk w1.heap.size m D (Maps.has D) C) := Lib.hid (by have h := hr2; rw [HC.out] at h; exact h)
  have hb2 : Below w1.heap.size w1 w2 := (Below.refl _ _).grown hg2 (Nat.le_refl _) (fun k e => by cases e)
  have HB2 : Hid (Below w.heap.size w w2) := Lib.hid (HB1.out.trans (hb2.mono HB1.out.size))
  have HO2 := Lib.hid (HO1.out.below hb2)
  have HZ : Hid (w.heap.size ≤ w1.heap.size) := Lib.hid HB1.out.size
  clear hr2 hg2 hz2 hb2 HM1 HB1 HO1 dc1
  go_wp2_with fail
  go_loopw [3] (fun sl wr => ∃ (v : Value) (left : Lit → Bool) (cnt : Nat) (es : List E3), v = sl ∧ Hid (wr.ranges (H := Unit) Tryz.prog 9 heldElem bk w1.heap.size m D left cnt) ∧ Hid (EK.Own wr w.heap.size v es) ∧ Hid (v ≠ .slice none 0 0) ∧ Hid (Collected D left (es.map (·.1.data.toList))) ∧ Hid (∀ e ∈ es, e ∈ l) ∧ Hid (es.length + cnt ≤ C) ∧ Hid (Below w.heap.size w wr)) (fun _ wr => wr.rangeLeft bk w1.heap.size)
  case atStart => exact ⟨_, _, C, [], rfl, HR2, HO2, HNE1, Lib.hid (Collected.start D), Lib.hid (fun e he => by cases he), Lib.hid (by simp), HB2⟩
  case round =>
    clear HR2 HB2 HO2 HNE1
    obtain ⟨v, left, cnt, es, rfl, hR, hO, hNE, hCol, hSub, hcnt, hB⟩ := hrel
    go_wp2_with (at_next; refine wpList_next_ranges _ rfl _ rfl 9 strK heldElem Value.string (fun c : ByteArray × Int => .agg #[.string c.1, .int .i64 c.2]) (fun key kl hk => by obtain ⟨x, hx, _⟩ := kS_inv hk; exact ⟨x, hx⟩) (fun v y hv => by obtain ⟨a, b, hx, _⟩ := heldElem_inv hv; exact ⟨(a, b), hx⟩) bk w1.heap.size m _ _ _ rfl hR.out ?_ ?_)
    · intro hc0 hl0
      obtain ⟨ad, cc, hve⟩ := hO.out.slice
      have hO2 := hO.out
      rw [hve] at hO2
      have hnn := hNE.out
      obtain ⟨g, rfl⟩ : ∃ g, ad = some ⟨g, 0, none⟩ := by
        rcases hO2.2 with ⟨h0, _⟩ | ⟨g, cap, cur, h0, _⟩
        · exact absurd (hve.trans h0) hnn
        · simp only [Value.slice.injEq] at h0
          exact ⟨g, h0.1⟩
      have HGB : Hid (w.heap.size ≤ g) := Lib.hid (hO2.from g (by simp [Value.ownBlock]))
      by_cases hl : l = []
      · subst hl
        have he0 : es = [] := by
          cases es with
          | nil => rfl
          | cons e es => exact absurd (hSub.out e (.head _)) (by simp)
        subst he0
        have hcon := AnyF.slices_SortFunc_none Tryz.sortEnts (some ⟨g, 0, none⟩) cc (.func (.func 43) #[] #[]) wr
        change Calls Tryz.prog 42 #[.slice (some ⟨g, 0, none⟩) 0 cc, .func (.func 43) #[] #[]] wr _ at hcon
        have HCON := Lib.hid hcon
        have HO := Lib.hid hO2
        have hve2 : v = .slice (some ⟨g, 0, none⟩) 0 cc := hve
        subst hve2
        clear hcon hO2 hnn hO hR hCol hSub hcnt hNE hl0 hc0 HM HI
        go_wp2_with (go_at_call 42; refine HCON.out.mono ?_; rintro e w' ⟨rfl, rfl⟩)
        go_ret
        exact ⟨_, Lib.hid rfl, HO.out, hB.out⟩
      · obtain ⟨e0, he0⟩ := List.exists_mem_of_ne_nil l hl
        let inst : Inhabited {e : E3 // e ∈ l} := ⟨⟨e0, he0⟩⟩
        obtain ⟨k4, hk4⟩ := lift_all es hSub.out
        have hO4 : (EK4 l ⟨e0, he0⟩).Own wr w.heap.size (.slice (some ⟨g, 0, none⟩) es.length cc) k4 := own4.2 (by rw [hk4]; exact hO2)
        obtain ⟨hH, hgl, _⟩ := hO4.holds
        have hsr := sorted_all (es := k4) HI.out HD.out.rise HD.out.keys (by rw [hk4]; exact hCol.out) hl0
        have hk4l : k4.length = es.length := by rw [← hk4]; simp
        have eg : ∀ args w, (callFunc 43 args).run Tryz.prog w = .ok (.enter 43 args) w := enters_of Tryz.func43 (by kernel_rfl) rfl
        have hcon := AnyQ.slices_SortFunc_total Tryz.sortEnts 3 Tryz.isAgg49 Tryz.sizeOf49 (fun x : {e : E3 // e ∈ l} => enE x.1) (fun _ => rfl) (fun x v h => EK.one x.1 v h) ordS (ordS_swo HD.out.keys) 43 #[] g 0 cc k4.toArray wr eg (cmpEnts HD.out.keys g _ wr (fun m os dk => HML.out.out hB.out (grownBy_sortedK _) HGB.out)) hH hgl (by have := hcnt.out; simp; omega) (ordS_tot HD.out.rise HD.out.keys)
        rw [show k4.toArray.toList = k4 from rfl] at hcon
        obtain ⟨q4, hq4⟩ : ∃ q4, (k4.mergeSort fun x y => !(ltOf ordS) y x) = q4 := ⟨_, rfl⟩
        have hql : q4.length = k4.length := by rw [← hq4]; simp
        rw [hq4] at hcon hsr
        obtain ⟨M, hM⟩ : ∃ M, es.length = M := ⟨_, rfl⟩
        change Calls Tryz.prog 42 #[.slice (some ⟨g, 0, none⟩) k4.length cc, .func (.func 43) #[] #[]] wr _ at hcon
        rw [hk4l, hM] at hcon
        rw [hM] at hve hO4
        have HCON := Lib.hid hcon
        have HS : Hid (∀ mm os, EK.Own (sortWorldK (fun x : {e : E3 // e ∈ l} => enE x.1) 3 wr g 0 mm q4.toArray os) w.heap.size (.slice (some ⟨g, 0, none⟩) M cc) l ∧ wr.grownBy (sortWorldK (fun x : {e : E3 // e ∈ l} => enE x.1) 3 wr g 0 mm q4.toArray os) (some g)) := Lib.hid (fun mm os => by
          have h := hO4.sorted hql mm os
          refine ⟨?_, h.2⟩
          have h1 := own4.1 h.1
          rw [hsr] at h1
          exact h1)
        subst hve
        clear hcon hO2 hO4 hnn hH hgl hsr hk4l hM hO hR hCol hSub hcnt hNE hl0 hc0 HM HI hq4 hql hk4
        go_wp2_with (go_at_call 42; refine HCON.out.mono ?_; rintro e w' ⟨rfl, nn, os, rfl⟩)
        go_ret
        exact ⟨_, Lib.hid rfl, (HS.out nn os).1, hB.out.grown (HS.out nn os).2 hB.out.size (fun j hj => by cases hj; exact HGB.out)⟩
    · intro x u n kl yd yp w3 cnt3 hkey hlk hv hat hrg3 hlt hg3 hs3 hen
      obtain ⟨x', ex, hkl⟩ := kS_inv hkey
      obtain rfl : x = x' := by simpa using ex
      subst hkl
      have hin : (x, u, n) ∈ l := by
        have h1 : Maps.has D (kS x) = true := Maps.has_true_of_atKey hat
        rw [HI.out.has] at h1
        obtain ⟨y, hy⟩ := Option.isSome_iff_exists.1 h1
        have h2 := HI.out.val x y hy
        rw [hat] at h2
        obtain ⟨u', n', e1, e2⟩ := heldElem_inv hv
        have e3 := congrArg Prod.fst e2
        change yd = hD (u', n') at e3
        rw [e3] at h2
        have h3 := hD_inj h2
        simp only [Value.agg.injEq, Array.mk.injEq, List.cons.injEq, Value.string.injEq, Value.int.injEq, true_and, and_true] at e1
        rw [← e1.1, ← e1.2] at h3
        rw [← h3] at hy
        exact (fndD_some HD.out.rise).1 hy
      have hC3 : Hid (Collected D (fun z => left z && !z.sameKey (kS x)) ((es ++ [(x, u, n)]).map (·.1.data.toList))) := Lib.hid (by rw [List.map_append]; exact hCol.out.step hlk hat)
      have hS3 : Hid (∀ e ∈ es ++ [(x, u, n)], e ∈ l) := Lib.hid (fun e he => by
        rcases List.mem_append.1 he with q | q
        · exact hSub.out e q
        · rw [List.mem_singleton.1 q]; exact hin)
      have hO3 : Hid (EK.Own w3 w.heap.size v es) := Lib.hid (hO.out.keepB fun k hk => hg3.block k (hO.out.blk k hk).1 (by
        have := row_ne_iter hO.out hR.out
        rw [hk] at this
        exact fun e => this e.symm))
      have hB3 : Hid (Below w.heap.size w w3) := Lib.hid (hB.out.grown hg3 hB.out.size (fun j hj => by cases hj; exact HZ.out))
      have hR3 := Lib.hid hrg3
      have hLT : Hid (cnt3 < cnt) := Lib.hid hlt
      have hLE := Lib.hid hR.out.left_eq
      have hln : es.length + 1 ≤ 1000000 := by have := hcnt.out; omega
      have hz3 : w.heap.size ≤ w3.heap.size := hB3.out.size
      have hnv := hNE
      clear hkey hlk hv hat hrg3 hlt hg3 hs3 hR hO hCol hSub hB hNE ex hin
      go_wp2_with (refine EK.app rfl _ _ rfl w.heap.size v es rfl ?own _ [(x, u, n)] rfl ?rd hln ?bs ?_)
      case own => exact hO3.out.below (((Below.refl _ _).alloc (Nat.le_refl _) _).alloc (by simp) _)
      case rd => exact EK.rd_boxAt (x, u, n) _ 1 _ _ (by simp)
      case bs => simp; omega
      intro v4 w4 ho4 hb4 hg4 hn4
      have hO4 := Lib.hid ho4
      have hr3 := (hR3.out.alloc (.cells #[.string u, .int .i64 n] 68)).alloc (.cells #[.string x, .string u, .int .i64 n] 49)
      have ho3' := hO3.out.below (((Below.refl _ _).alloc (Nat.le_refl _) (.cells #[.string u, .int .i64 n] 68)).alloc (by simp) (.cells #[.string x, .string u, .int .i64 n] 49))
      have hR4 := Lib.hid (hr3.kept hg4 (row_ne_low ho3' HBL.out) (row_ne_iter ho3' hr3))
      have hN4 : Hid (v4 ≠ .slice none 0 0) := Lib.hid hn4
      have hB4 : Hid (Below w.heap.size w w4) := Lib.hid (((hB3.out.alloc hz3 _).alloc (by simp; omega) _).trans hb4)
      have hC4 : Hid ((es ++ [(x, u, n)]).length + cnt3 ≤ C) := Lib.hid (by have := hcnt.out; have := hLT.out; simp; omega)
      clear ho4 hb4 hg4 hn4 hr3 ho3' hO3 hB3 hR3 hcnt hln hz3 hnv
      go_wp2
      go_roundw
      case rel => exact ⟨v4, _, cnt3, _, rfl, hR4, hO4, hN4, hC3, hS3, hC4, hB4⟩
      case measure => rw [hR4.out.left_eq, hLE.out]; exact hLT.out
end Go.Proofs.YtodcmhmankmaoaaGreat
namespace Go.Proofs.YtodcmhmankmaoaaGreat
open Go.RowKit
set_option linter.unusedSimpArgs false
set_option linter.unusedVariables false

def fitD (l : List E3) (x : E3) : Bool := decide (0 < dpt x.1) && thrD l (par x.1) && decide (x.2.1.size ≤ 64) && decide (1 ≤ x.2.2)
theorem entCell {w : World} {a : Option Addr} {n c : Nat} {l : List E3} (h : EK.Rd w (.slice a n c) l) (k : Nat) (hk : k < n) : n = l.length ∧ ∃ g off, a = some ⟨g, off, none⟩ ∧ g < w.heap.size ∧
    w.cell? ⟨g, off + k * 3, none⟩ = some (.string (l.getD k EK.d).1) ∧ w.cell? ⟨g, off + k * 3 + 1, none⟩ = some (.string (l.getD k EK.d).2.1) ∧ w.cell? ⟨g, off + k * 3 + 2, none⟩ = some (.int .i64 (l.getD k EK.d).2.2) ∧ k < l.length := by
  have hl : l ≠ [] := by
    intro e
    obtain ⟨a', c', e', _⟩ := h
    subst e
    simp at e'
    omega
  obtain ⟨hn, g, off, rfl, hg, hc⟩ := h.at hl
  exact ⟨hn, g, off, rfl, hg, hc k hk 0 _ rfl, hc k hk 1 _ rfl, hc k hk 2 _ rfl, by omega⟩
end Go.Proofs.YtodcmhmankmaoaaGreat
namespace Go.Proofs.YtodcmhmankmaoaaGreat
open Go.RowKit
set_option linter.unusedSimpArgs false
set_option linter.unusedVariables false

set_option maxHeartbeats 2000000 in
theorem same_none (a : Int) (v : ByteArray) (n : Int) (w : World) :
    Calls Tryz.prog 12 #[.agg #[.int .i64 a, .string v, .int .i64 n, .slice none 0 0], .agg #[.int .i64 a, .string v, .int .i64 n, .slice none 0 0]] w fun e w' => e = .returned (.bool true) ∧ Below w.heap.size w w' := by
  have q1 : (v.toList == v.toList) = true := by simp
  have g1 : (a == a) = true := by simp
  have g2 : (a != a) = false := by simp
  have g3 : (n == n) = true := by simp
  have g4 : (n != n) = false := by simp
  have q2 : (v.toList != v.toList) = false := by simp
  go_enter Tryz.func12, Tryz.ntmps12
  go_wp2
  go_loopw [5] (fun i wr => i = .int .i64 0 ∧ wr = ((w.alloc (.cells #[.int .i64 a, .string v, .int .i64 n, .slice none 0 0] 36)).alloc (.cells #[.int .i64 a, .string v, .int .i64 n, .slice none 0 0] 36))) (fun _ _ => 0)
  case atStart => exact ⟨rfl, rfl⟩
  case round =>
    obtain ⟨rfl, rfl⟩ := hrel
    go_wp2
    go_ret
    exact ⟨rfl, ((Below.refl _ _).alloc (Nat.le_refl _) _).alloc (by simp) _⟩
end Go.Proofs.YtodcmhmankmaoaaGreat
namespace Go.Proofs.YtodcmhmankmaoaaGreat
set_option linter.unusedSimpArgs false
set_option linter.unusedVariables false

/-- Nothing, or an entry put, or one gone. -/
theorem app_way (l : List E3) (op : Int) (q v : ByteArray) (ver : Int) : (appD l op q v ver).2 = l ∨ (∃ n, okP q ∧ (appD l op q v ver).2 = putD l q v n ∧ (n = 1 ∨ ∃ x, fndD l q = some x ∧ n = x.2 + 1)) ∨ (appD l op q v ver).2 = delD l q := by
  have hset : okP q → ((setD l q v).2 = l ∨ (∃ n, okP q ∧ (setD l q v).2 = putD l q v n ∧ (n = 1 ∨ ∃ x, fndD l q = some x ∧ n = x.2 + 1))) := by
    intro ho
    unfold setD
    cases h : fndD l q with
    | none => exact .inl rfl
    | some x => exact .inr ⟨x.2 + 1, ho, rfl, .inr ⟨x, rfl, rfl⟩⟩
  unfold appD
  cases hr : rgt op q v with
  | false => exact .inl rfl
  | true =>
    have hv : vld q = true := by have h := hr; simp only [rgt, Bool.and_eq_true] at h; exact h.1
    simp only [Bool.not_true, Bool.false_eq_true, if_false]
    split
    · unfold crD
      split
      · exact .inl rfl
      · rename_i h1
        split
        · refine .inr (.inl ⟨1, okP_ne hv (fun e => h1 (by rw [e]; simp [thrD])), rfl, .inl rfl⟩)
        · exact .inl rfl
    · split
      · unfold rmD
        split
        · split
          · exact .inl rfl
          · exact .inr (.inr rfl)
        · exact .inl rfl
      · split
        · rename_i h3
          have hne : q ≠ pth [] := by rintro rfl; subst h3; simp [rgt] at hr
          rcases hset (okP_ne hv hne) with h | h
          · exact .inl h
          · exact .inr (.inl h)
        · split
          · unfold gtD; split <;> exact .inl rfl
          · split
            · unfold lsD; split <;> exact .inl rfl
            · split
              · rename_i h6
                have hne : q ≠ pth [] := by rintro rfl; subst h6; simp [rgt] at hr
                unfold casD
                split
                · exact .inl rfl
                · rcases hset (okP_ne hv hne) with h | h
                  · exact .inl h
                  · exact .inr (.inl h)
              · exact .inl rfl
def verB (K : Nat) (l : List E3) : Prop := ∀ e ∈ l, 0 ≤ e.2.2 ∧ e.2.2 ≤ (K : Int)
theorem app_ver {l : List E3} {K : Nat} (hr : RisesD l) (hk : okKeys l) (hv : verB K l) (op : Int) (q v : ByteArray) (ver : Int) : verB (K + 1) (appD l op q v ver).2 := by
  have h0 : verB (K + 1) l := fun e he => by have := hv e he; exact ⟨this.1, by push_cast; omega⟩
  rcases app_way l op q v ver with h | ⟨n, ho, h, hn⟩ | h
  · rw [h]; exact h0
  · rw [h]
    intro e he
    rcases (mem_putD hk ho).1 he with rfl | ⟨h1, _⟩
    · rcases hn with rfl | ⟨x, hx, rfl⟩
      · exact ⟨by simp, by simp; omega⟩
      · have := hv _ ((fndD_some (v := x.1) (n := x.2) hr).1 hx)
        simp only at this ⊢
        exact ⟨by omega, by push_cast; omega⟩
    · exact h0 e h1
  · rw [h]
    exact fun e he => h0 e (mem_delD.1 he).1
theorem app_fnd {l : List E3} (hr : RisesD l) (hk : okKeys l) (op : Int) (q v : ByteArray) (ver : Int) {p : ByteArray} (hp : p ≠ q) : fndD (appD l op q v ver).2 p = fndD l p := by
  rcases app_way l op q v ver with h | ⟨n, ho, h, _⟩ | h
  · rw [h]
  · rw [h, fndD_put hr hk ho, if_neg hp]
  · rw [h, fndD_del hr, if_neg hp]
theorem gt_other {l l2 : List E3} {p : ByteArray} (h : fndD l2 p = fndD l p) (ver : Int) (v : ByteArray) : (appD l2 4 p v ver).1 = (appD l 4 p v ver).1 := by
  unfold appD
  cases rgt 4 p v with
  | false => rfl
  | true => simp [gtD, thrD, h]; split <;> rfl
theorem gt_names (l : List E3) (p v : ByteArray) (ver : Int) : (appD l 4 p v ver).1.names = [] ∧ (appD l 4 p v ver).2 = l := by
  unfold appD
  cases rgt 4 p v with
  | false => exact ⟨rfl, rfl⟩
  | true =>
    simp [gtD]
    split <;> exact ⟨rfl, rfl⟩
end Go.Proofs.YtodcmhmankmaoaaGreat
namespace Go.Proofs.YtodcmhmankmaoaaGreat
set_option linter.unusedSimpArgs false
set_option linter.unusedVariables false

theorem take_succ' {l : List E3} {k : Nat} (h : k < l.length) : l.take (k + 1) = l.take k ++ [l[k]] := List.take_succ_eq_append_getElem h
theorem put_take {l : List E3} (hr : RisesD l) (hk : okKeys l) {k : Nat} (h : k < l.length) : putD (l.take k) l[k].1 l[k].2.1 l[k].2.2 = l.take (k + 1) := by
  have hrk : RisesD (l.take k) := List.Pairwise.sublist (List.take_sublist _ _) hr
  have hrk1 : RisesD (l.take (k + 1)) := List.Pairwise.sublist (List.take_sublist _ _) hr
  have hkk : okKeys (l.take k) := fun e he => hk e (List.mem_of_mem_take he)
  refine RisesD.ext (hrk.put _ _ _) hrk1 fun e => ?_
  rw [mem_putD hkk (hk _ (List.getElem_mem h)), take_succ' h, List.mem_append, List.mem_singleton]
  constructor
  · rintro (rfl | ⟨q, _⟩)
    · exact .inr rfl
    · exact .inl q
  · rintro (q | rfl)
    · refine .inr ⟨q, ?_⟩
      rw [take_succ' h] at hrk1
      exact lsr_ne ((List.pairwise_append.1 hrk1).2.2 e q _ (List.mem_singleton.2 rfl))
    · exact .inl rfl
theorem par_lsr {p : ByteArray} (h : okP p) : lsr (par p) p = true := by
  have hd := okN_dropLast (nm_ok p)
  rw [par_eq h.2]
  have h1 := pth_vld hd
  have hl : (nmL p).dropLast.length < (nmL p).length := by
    have : 0 < (nmL p).length := List.length_pos_iff.2 h.2
    simp; omega
  simp only [lsr, h1.1, h1.2, h.1, Bool.true_and]
  exact ltN_pre _ _ hl (by rw [List.length_dropLast, ← List.dropLast_eq_take])
/-- What a directory holds. -/
structure RightD (l : List E3) : Prop where
  rise : RisesD l
  keys : okKeys l
  vals : ∀ e ∈ l, e.2.1.size ≤ 64
  vers : ∀ e ∈ l, 1 ≤ e.2.2
  up : ∀ e ∈ l, thrD l (par e.1) = true
theorem RightD.empty : RightD [] := ⟨List.Pairwise.nil, (fun e he => by cases he), (fun e he => by cases he), (fun e he => by cases he), (fun e he => by cases he)⟩
theorem thrD_iff {l : List E3} {p : ByteArray} : thrD l p = true ↔ p = pth [] ∨ ∃ e ∈ l, e.1 = p := by
  unfold thrD
  rw [Bool.or_eq_true, fndD_mem, decide_eq_true_eq]
  exact Or.comm
theorem RightD.fit {l : List E3} (h : RightD l) {k : Nat} (hk : k < l.length) : fitD (l.take k) l[k] = true := by
  have hm := List.getElem_mem hk
  have ho := h.keys _ hm
  have hd : dpt l[k].1 = ((nmL l[k].1).length : Int) := by unfold dpt; rw [ho.1]; rfl
  have hl : 0 < (nmL l[k].1).length := List.length_pos_iff.2 ho.2
  have h1 : thrD (l.take k) (par l[k].1) = true := by
    rw [thrD_iff]
    rcases thrD_iff.1 (h.up _ hm) with q | ⟨e, he, q⟩
    · exact .inl q
    · refine .inr ⟨e, ?_, q⟩
      have hls : lsr e.1 l[k].1 = true := by rw [q]; exact par_lsr ho
      have hsplit : l = l.take k ++ l[k] :: l.drop (k + 1) := by rw [← List.drop_eq_getElem_cons hk, List.take_append_drop]
      have hr := h.rise
      unfold RisesD at hr
      rw [hsplit, List.pairwise_append, List.pairwise_cons] at hr
      rw [hsplit] at he
      rcases List.mem_append.1 he with q1 | q1
      · exact q1
      · rcases List.mem_cons.1 q1 with q2 | q2
        · rw [q2] at hls
          rw [lsr_irr] at hls
          cases hls
        · have := hr.2.1.1 e q2
          rw [lsr_asym this] at hls
          cases hls
  unfold fitD
  rw [h1, hd]
  have h2 := h.vals _ hm
  have h3 := h.vers _ hm
  simp only [Bool.and_eq_true, decide_eq_true_eq]
  exact ⟨⟨⟨by omega, trivial⟩, h2⟩, h3⟩
end Go.Proofs.YtodcmhmankmaoaaGreat
namespace Go.Proofs.YtodcmhmankmaoaaGreat
set_option linter.unusedSimpArgs false
set_option linter.unusedVariables false

theorem RightD.put {l : List E3} (h : RightD l) {q v : ByteArray} {n : Int} (ho : okP q) (hv : v.size ≤ 64) (hn : 1 ≤ n) (hup : thrD l (par q) = true) : RightD (putD l q v n) := by
  have mp := fun e => mem_putD (v := v) (n := n) h.keys ho (e := e)
  have lift : ∀ p, thrD l p = true → thrD (putD l q v n) p = true := by
    intro p hp
    rw [thrD_iff] at hp ⊢
    rcases hp with hp | ⟨e, he, hq⟩
    · exact .inl hp
    · by_cases e1 : e.1 = q
      · exact .inr ⟨(q, v, n), (mp _).2 (.inl rfl), by rw [← hq, e1]⟩
      · exact .inr ⟨e, (mp _).2 (.inr ⟨he, e1⟩), hq⟩
  refine ⟨h.rise.put q v n, h.keys.put ho v n, fun e he => ?_, fun e he => ?_, fun e he => ?_⟩
  all_goals rcases (mp e).1 he with rfl | ⟨h1, _⟩
  · exact hv
  · exact h.vals e h1
  · exact hn
  · exact h.vers e h1
  · exact lift _ hup
  · exact lift _ (h.up e h1)
theorem RightD.del {l : List E3} (h : RightD l) {q : ByteArray} (hk : ∀ e ∈ l, par e.1 ≠ q) : RightD (delD l q) := by
  refine ⟨h.rise.del q, h.keys.del q, fun e he => h.vals e (mem_delD.1 he).1, fun e he => h.vers e (mem_delD.1 he).1, fun e he => ?_⟩
  have h1 := (mem_delD.1 he).1
  rw [thrD_iff]
  rcases thrD_iff.1 (h.up e h1) with q1 | ⟨y, hy, q1⟩
  · exact .inl q1
  · exact .inr ⟨y, mem_delD.2 ⟨hy, fun e2 => hk e h1 (by rw [← q1, e2])⟩, q1⟩
theorem RightD.set {l : List E3} (h : RightD l) {q v : ByteArray} (ho : okP q) (hv : v.size ≤ 64) : RightD (setD l q v).2 := by
  unfold setD
  cases hf : fndD l q with
  | none => exact h
  | some x =>
    have hm := (fndD_some (v := x.1) (n := x.2) h.rise).1 hf
    have h1 := h.vers _ hm
    have h2 := h.up _ hm
    exact h.put ho hv (by simp only at h1 ⊢; omega) h2
theorem RightD.app {l : List E3} (h : RightD l) (op : Int) (q v : ByteArray) (ver : Int) : RightD (appD l op q v ver).2 := by
  unfold appD
  cases hr : rgt op q v with
  | false => exact h
  | true =>
    have hv : vld q = true := by have h := hr; simp only [rgt, Bool.and_eq_true] at h; exact h.1
    simp only [Bool.not_true, Bool.false_eq_true, if_false]
    split
    · rename_i h1
      subst h1
      have hs : v.size ≤ 64 := by simpa [rgt, hv] using hr
      unfold crD
      split
      · exact h
      · rename_i h2
        split
        · rename_i h3
          exact h.put (okP_ne hv (fun e => h2 (by rw [e]; simp [thrD]))) hs (by omega) h3
        · exact h
    · split
      · unfold rmD
        split
        · split
          · exact h
          · rename_i h3
            refine h.del fun e he hq => h3 ?_
            have : lst e.1 ∈ kidD l q := by
              unfold kidD
              exact List.mem_map.2 ⟨e, List.mem_filter.2 ⟨he, by simpa using hq⟩, rfl⟩
            exact List.length_pos_of_mem this
        · exact h
      · split
        · rename_i h3
          subst h3
          have hh : v.size ≤ 64 ∧ q ≠ pth [] := by simpa [rgt, hv] using hr
          exact h.set (okP_ne hv hh.2) hh.1
        · split
          · unfold gtD; split <;> exact h
          · split
            · unfold lsD; split <;> exact h
            · split
              · rename_i h6
                subst h6
                have hh : v.size ≤ 64 ∧ q ≠ pth [] := by simpa [rgt, hv] using hr
                unfold casD
                split
                · exact h
                · exact h.set (okP_ne hv hh.2) hh.1
              · exact h
end Go.Proofs.YtodcmhmankmaoaaGreat
namespace Go.Proofs.YtodcmhmankmaoaaGreat
set_option linter.unusedSimpArgs false
set_option linter.unusedVariables false

abbrev pA : ByteArray := { data := #[47, 97] }
abbrev vX : ByteArray := { data := #[120] }
abbrev vY : ByteArray := { data := #[121] }
abbrev pR : ByteArray := { data := #[47] }
abbrev v0 : ByteArray := { data := #[] }
theorem w1_is : appD [] 1 pA vX 0 = (⟨0, v0, 1, []⟩, [(pA, vX, 1)]) := by rfl
theorem w2_is : appD [(pA, vX, 1)] 3 pA vY 0 = (⟨0, v0, 2, []⟩, [(pA, vY, 2)]) := by rfl
theorem w3_is : appD [(pA, vY, 2)] 5 pR v0 0 = (⟨0, v0, 0, [{ data := #[97] }]⟩, [(pA, vY, 2)]) := by rfl
theorem app4 {l : List E3} {p : ByteArray} (hv : vld p = true) (v : ByteArray) (ver : Int) : appD l 4 p v ver = gtD l p := by
  have : rgt 4 p v = true := by simp [rgt, hv]
  simp [appD, this]
theorem app6 {l : List E3} {p v : ByteArray} (hv : vld p = true) (hr : p ≠ pth []) (hs : v.size ≤ 64) (ver : Int) : appD l 6 p v ver = casD l p v ver := by
  have : rgt 6 p v = true := by simp [rgt, hv, hr, hs]
  simp [appD, this]
theorem app_novld {l : List E3} {p : ByteArray} (hv : vld p = false) (op : Int) (v : ByteArray) (ver : Int) : appD l op p v ver = (bad 1, l) := by
  have : rgt op p v = false := by simp [rgt, hv]
  simp [appD, this]
theorem app6_root (l : List E3) (v : ByteArray) (ver : Int) : appD l 6 (pth []) v ver = (bad 1, l) := by
  have : rgt 6 (pth []) v = false := by simp [rgt]
  simp [appD, this]
/-- Compare and set. -/
theorem cas_law {l : List E3} (h : RightD l) (p a b : ByteArray) (ha : a.size ≤ 64) (hb : b.size ≤ 64) (u : ByteArray) (z ver : Int) :
    (if ((appD l 4 p u z).1.err ≠ 0 ∨ p = pth []) then ((appD l 6 p a ver).1.err ≠ 0 ∧ (appD (appD l 6 p a ver).2 6 p b ver).1.err ≠ 0)
     else if (appD l 4 p u z).1.ver ≠ ver then ((appD l 6 p a ver).1.err = 5 ∧ (appD l 6 p a ver).1.ver = (appD l 4 p u z).1.ver ∧ (appD (appD l 6 p a ver).2 6 p b ver).1.err = 5)
     else ((appD l 6 p a ver).1.err = 0 ∧ (appD l 6 p a ver).1.ver = ver + 1 ∧ (appD (appD l 6 p a ver).2 6 p b ver).1.err = 5)) := by
  by_cases hr : p = pth []
  · subst hr
    rw [if_pos (.inr rfl), app6_root, app6_root]
    simp [bad]
  cases hv : vld p with
  | false =>
    rw [app_novld hv, app_novld hv, app_novld hv]
    simp [bad]
  | true =>
    rw [app4 hv, app6 hv hr ha, app6 hv hr hb]
    have ht : thrD l p = (fndD l p).isSome := thrD_no hr
    cases hf : fndD l p with
    | none =>
      have e1 : gtD l p = (bad 2, l) := by simp [gtD, ht, hf]
      have e2 : ∀ x, casD l p x ver = (bad 2, l) := fun x => by simp [casD, ht, hf, setD]
      rw [e1, e2 a, e2 b]
      simp [bad]
    | some x =>
      obtain ⟨w, n⟩ := x
      have e1 : gtD l p = (⟨0, w, n, []⟩, l) := by simp [gtD, ht, hf]
      rw [e1]
      rw [if_neg (by simp [hr])]
      by_cases hn : n = ver
      · subst hn
        have e2 : casD l p a n = (⟨0, { data := #[] }, n + 1, []⟩, putD l p a (n + 1)) := by simp [casD, ht, hf, setD]
        rw [e2]
        have ho : okP p := okP_ne hv hr
        have hf2 : fndD (putD l p a (n + 1)) p = some (a, n + 1) := by rw [fndD_put h.rise h.keys ho, if_pos rfl]
        have e3 : casD (putD l p a (n + 1)) p b n = (⟨5, { data := #[] }, n + 1, []⟩, putD l p a (n + 1)) := by
          simp only [casD, thrD_no hr, hf2]
          rw [if_pos (by simp <;> omega)]
          rfl
        simp only [e3]
        simp
      · have e2 : ∀ x, casD l p x ver = (⟨5, { data := #[] }, n, []⟩, l) := fun x => by
          simp only [casD, ht, hf]
          rw [if_pos (by simpa using hn)]
          rfl
        rw [e2 a, e2 b]
        simp [hn]
theorem app5 {l : List E3} {p : ByteArray} (hv : vld p = true) (v : ByteArray) (ver : Int) : appD l 5 p v ver = lsD l p := by
  have : rgt 5 p v = true := by simp [rgt, hv]
  simp [appD, this]
theorem app2 {l : List E3} {p : ByteArray} (hv : vld p = true) (hr : p ≠ pth []) (v : ByteArray) (ver : Int) : appD l 2 p v ver = rmD l p := by
  have : rgt 2 p v = true := by simp [rgt, hv, hr]
  simp [appD, this]
theorem app1 {l : List E3} {p v : ByteArray} (hv : vld p = true) (hs : v.size ≤ 64) (ver : Int) : appD l 1 p v ver = crD l p v := by
  have : rgt 1 p v = true := by simp [rgt, hv, hs]
  simp [appD, this]
theorem app2_root (l : List E3) (v : ByteArray) (ver : Int) : appD l 2 (pth []) v ver = (bad 1, l) := by
  have : rgt 2 (pth []) v = false := by simp [rgt]
  simp [appD, this]
/-- Deleted, and made again. -/
theorem deletes_law {l : List E3} (h : RightD l) (p v : ByteArray) (hs : v.size ≤ 64) (u1 u2 u4 : ByteArray) (z1 z2 z3 z4 : Int) :
    (if ((appD l 5 p u1 z1).1.err ≠ 0 ∨ p = pth []) then (appD l 2 p u2 z2).1.err ≠ 0
     else if 0 < (appD l 5 p u1 z1).1.names.length then (appD l 2 p u2 z2).1.err = 4
     else ((appD l 2 p u2 z2).1.err = 0 ∧ (appD (appD l 2 p u2 z2).2 1 p v z3).1.err = 0 ∧ (appD (appD l 2 p u2 z2).2 1 p v z3).1.ver = 1 ∧
       (appD (appD (appD l 2 p u2 z2).2 1 p v z3).2 4 p u4 z4).1.val = v ∧ (appD (appD (appD l 2 p u2 z2).2 1 p v z3).2 4 p u4 z4).1.ver = 1)) := by
  by_cases hr : p = pth []
  · subst hr
    rw [if_pos (.inr rfl), app2_root]
    simp [bad]
  cases hv : vld p with
  | false =>
    rw [app_novld hv, app_novld hv]
    simp [bad]
  | true =>
    rw [app5 hv, app2 hv hr]
    have ht : thrD l p = (fndD l p).isSome := thrD_no hr
    cases hf : fndD l p with
    | none =>
      have e1 : lsD l p = (bad 2, l) := by simp [lsD, ht, hf]
      have e2 : rmD l p = (bad 2, l) := by simp [rmD, ht, hf]
      rw [e1, e2]
      simp [bad]
    | some x =>
      have e1 : lsD l p = (⟨0, { data := #[] }, 0, kidD l p⟩, l) := by simp [lsD, ht, hf]
      rw [e1, if_neg (by simp [hr])]
      by_cases hk : 0 < (kidD l p).length
      · have e2 : rmD l p = (bad 4, l) := by simp only [rmD, ht, hf]; rw [if_pos (by simp), if_pos hk]
        rw [if_pos hk, e2]
        rfl
      · have e2 : rmD l p = (bad 0, delD l p) := by simp only [rmD, ht, hf]; rw [if_pos (by simp), if_neg hk]
        rw [if_neg hk, e2]
        have ho : okP p := okP_ne hv hr
        have h3 : fndD (delD l p) p = none := by rw [fndD_del h.rise, if_pos rfl]
        have h4 : thrD (delD l p) p = false := by rw [thrD_no hr, h3]; rfl
        have hm := (fndD_some (v := x.1) (n := x.2) h.rise).1 hf
        have h5 : thrD (delD l p) (par p) = true := by
          rw [thrD_iff]
          rcases thrD_iff.1 (h.up _ hm) with q | ⟨e, he, q⟩
          · exact .inl q
          · exact .inr ⟨e, mem_delD.2 ⟨he, fun e2 => lsr_ne (par_lsr ho) (q.symm.trans e2)⟩, q⟩
        rw [app1 hv hs]
        have e3 : crD (delD l p) p v = (⟨0, { data := #[] }, 1, []⟩, putD (delD l p) p v 1) := by simp [crD, h4, h5]
        rw [e3, app4 hv]
        have h6 : fndD (putD (delD l p) p v 1) p = some (v, 1) := by rw [fndD_put (h.rise.del p) (h.keys.del p) ho, if_pos rfl]
        have e4 : gtD (putD (delD l p) p v 1) p = (⟨0, v, 1, []⟩, putD (delD l p) p v 1) := by simp [gtD, thrD_no hr, h6]
        simp only [e4]
        simp [bad]
end Go.Proofs.YtodcmhmankmaoaaGreat
namespace Go.Proofs.YtodcmhmankmaoaaGreat
set_option linter.unusedSimpArgs false
set_option linter.unusedVariables false

theorem reads_quiet {l : List E3} (op : Int) (p v : ByteArray) (ver : Int) (h : (appD l op p v ver).1.err ≠ 0 ∨ op = 4 ∨ op = 5) : (appD l op p v ver).2 = l := by
  unfold appD at *
  cases hr : rgt op p v with
  | false => rfl
  | true =>
    rw [hr] at h
    simp only [Bool.not_true, Bool.false_eq_true, if_false] at h ⊢
    split
    · rename_i h1
      subst h1
      simp only [if_true] at h
      unfold crD at *
      split
      · rfl
      · split
        · rename_i h2 h3
          rw [if_neg h2, if_pos h3] at h
          simp at h
        · rfl
    · rename_i h1
      rw [if_neg h1] at h
      split
      · rename_i h2
        subst h2
        simp only [if_true] at h
        unfold rmD at *
        split
        · rename_i h3
          rw [if_pos h3] at h
          split
          · rfl
          · rename_i h4
            rw [if_neg h4] at h
            simp [bad] at h
        · rfl
      · rename_i h2
        rw [if_neg h2] at h
        have hset : ((setD l p v).1.err ≠ 0) → (setD l p v).2 = l := by
          unfold setD
          cases fndD l p with
          | none => intro _; rfl
          | some x => intro q; simp at q
        split
        · rename_i h3
          subst h3
          simp only [if_true] at h
          exact hset (by simpa using h)
        · rename_i h3
          rw [if_neg h3] at h
          split
          · unfold gtD; split <;> rfl
          · rename_i h4
            rw [if_neg h4] at h
            split
            · unfold lsD; split <;> rfl
            · rename_i h5
              rw [if_neg h5] at h
              split
              · rename_i h6
                subst h6
                simp only [if_true] at h
                unfold casD at *
                split
                · rfl
                · rename_i h7
                  rw [if_neg h7] at h
                  exact hset (by simpa using h)
              · rfl
end Go.Proofs.YtodcmhmankmaoaaGreat
namespace Go.Proofs.YtodcmhmankmaoaaGreat
set_option linter.unusedSimpArgs false
set_option linter.unusedVariables false

theorem gt_some {l : List E3} {p : ByteArray} {x : ByteArray × Int} (h : fndD l p = some x) : gtD l p = (⟨0, x.1, x.2, []⟩, l) := by
  simp [gtD, thrD, h]
theorem gt_none {l : List E3} {p : ByteArray} (hr : p ≠ pth []) (h : fndD l p = none) : gtD l p = (bad 2, l) := by
  simp [gtD, thrD, h, hr]
theorem set_writes {l : List E3} (h : RightD l) {p v : ByteArray} (ho : okP p) (he : (setD l p v).1.err = 0) :
    (gtD (setD l p v).2 p).1.val = v ∧ (gtD (setD l p v).2 p).1.ver = (gtD l p).1.ver + 1 ∧ (setD l p v).1.ver = (gtD (setD l p v).2 p).1.ver ∧ (setD l p v).2.length = l.length := by
  unfold setD at *
  cases hf : fndD l p with
  | none => rw [hf] at he; simp [bad] at he
  | some x =>
    have h1 : fndD (putD l p v (x.2 + 1)) p = some (v, x.2 + 1) := by rw [fndD_put h.rise h.keys ho, if_pos rfl]
    have h2 := len_putD h.rise h.keys ho v (x.2 + 1)
    rw [hf] at h2
    simp only [gt_some h1, gt_some hf]
    exact ⟨trivial, trivial, trivial, by simpa using h2⟩
/-- What a write that goes through leaves. -/
theorem writes_law {l : List E3} (h : RightD l) (op : Int) (p v : ByteArray) (ver : Int) (u1 u2 : ByteArray) (z1 z2 : Int) (he : (appD l op p v ver).1.err = 0) (h4 : op ≠ 4) (h5 : op ≠ 5) :
    (if op = 1 then ((appD l 4 p u1 z1).1.err = 2 ∧ (appD (appD l op p v ver).2 4 p u2 z2).1.val = v ∧ (appD (appD l op p v ver).2 4 p u2 z2).1.ver = 1 ∧ (appD l op p v ver).2.length = l.length + 1)
     else if op = 2 then ((appD l 4 p u1 z1).1.err = 0 ∧ (appD (appD l op p v ver).2 4 p u2 z2).1.err = 2 ∧ (appD l op p v ver).2.length + 1 = l.length)
     else ((appD (appD l op p v ver).2 4 p u2 z2).1.val = v ∧ (appD (appD l op p v ver).2 4 p u2 z2).1.ver = (appD l 4 p u1 z1).1.ver + 1 ∧ (appD l op p v ver).1.ver = (appD (appD l op p v ver).2 4 p u2 z2).1.ver ∧ (appD l op p v ver).2.length = l.length)) := by
  cases hr : rgt op p v with
  | false => simp [appD, hr, bad] at he
  | true =>
    have hv : vld p = true := by have h := hr; simp only [rgt, Bool.and_eq_true] at h; exact h.1
    rw [app4 hv, app4 hv]
    by_cases h1 : op = 1
    · subst h1
      have e : appD l 1 p v ver = crD l p v := by simp [appD, hr]
      rw [e] at he ⊢
      rw [if_pos rfl]
      unfold crD at *
      cases ht : thrD l p with
      | true => rw [ht] at he; simp [bad] at he
      | false =>
        have hne : p ≠ pth [] := fun e => by rw [e] at ht; simp [thrD] at ht
        have ho := okP_ne hv hne
        have hf : fndD l p = none := by rw [thrD_no hne] at ht; simpa using ht
        cases hu : thrD l (par p) with
        | false => rw [ht, hu] at he; simp [bad] at he
        | true =>
          have h2 : fndD (putD l p v 1) p = some (v, 1) := by rw [fndD_put h.rise h.keys ho, if_pos rfl]
          have h3 := len_putD h.rise h.keys ho v 1
          rw [hf] at h3
          simp only [Bool.false_eq_true, if_false, if_true, gt_none hne hf, gt_some h2]
          exact ⟨rfl, trivial, trivial, by simpa using h3⟩
    · rw [if_neg h1]
      by_cases h2 : op = 2
      · subst h2
        have e : appD l 2 p v ver = rmD l p := by simp [appD, hr]
        rw [e] at he ⊢
        rw [if_pos rfl]
        have hne : p ≠ pth [] := by rintro rfl; simp [rgt] at hr
        unfold rmD at *
        cases ht : thrD l p with
        | false => rw [ht] at he; simp [bad] at he
        | true =>
          rw [ht] at he
          have hf : (fndD l p).isSome = true := by rw [← thrD_no hne]; exact ht
          obtain ⟨x, hx⟩ := Option.isSome_iff_exists.1 hf
          by_cases hk : 0 < (kidD l p).length
          · simp [hk, bad] at he
          · have h3 : fndD (delD l p) p = none := by rw [fndD_del h.rise, if_pos rfl]
            have h4 := len_delD h.rise p
            rw [hf] at h4
            simp only [if_true, hk, if_false, gt_some hx, gt_none hne h3]
            exact ⟨trivial, rfl, by simpa using h4⟩
      · rw [if_neg h2]
        by_cases h3 : op = 3
        · subst h3
          have hne : p ≠ pth [] := by rintro rfl; simp [rgt] at hr
          have e : appD l 3 p v ver = setD l p v := by simp [appD, hr]
          rw [e] at he ⊢
          exact set_writes h (okP_ne hv hne) he
        · by_cases h6 : op = 6
          · subst h6
            have hne : p ≠ pth [] := by rintro rfl; simp [rgt] at hr
            have e : appD l 6 p v ver = casD l p v ver := by simp [appD, hr]
            rw [e] at he ⊢
            unfold casD at *
            split
            · rename_i h7
              rw [if_pos h7] at he
              simp at he
            · rename_i h7
              rw [if_neg h7] at he
              exact set_writes h (okP_ne hv hne) he
          · simp [appD, hr, h1, h2, h3, h4, h5, h6, bad] at he
end Go.Proofs.YtodcmhmankmaoaaGreat
namespace Go.Proofs.YtodcmhmankmaoaaGreat
set_option linter.unusedSimpArgs false
set_option linter.unusedVariables false

/-- A name is listed just where the path below it is there. -/
theorem lists_law {l : List E3} (h : RightD l) {p : ByteArray} (hv : vld p = true) (name u : ByteArray) (z : Int) :
    (ofE (tx (nmL p) ++ [name]) = 0 ∧ (appD l 4 (ofP (tx (nmL p) ++ [name])) u z).1.err = 0) ↔ name ∈ kidD l p := by
  have e0 : (tx (nmL p) ++ [name]).map (·.data.toList) = nmL p ++ [name.data.toList] := by rw [List.map_append, tx_data]; rfl
  unfold ofE ofP
  rw [e0]
  have hk : name ∈ kidD l p ↔ ∃ e ∈ l, par e.1 = p ∧ lst e.1 = name := by
    unfold kidD
    rw [List.mem_map]
    constructor
    · rintro ⟨e, he, hq⟩
      have := List.mem_filter.1 he
      exact ⟨e, this.1, by simpa using this.2, hq⟩
    · rintro ⟨e, he, h1, h2⟩
      exact ⟨e, List.mem_filter.2 ⟨he, by simpa using h1⟩, h2⟩
  rw [hk]
  cases ho : okN (nmL p ++ [name.data.toList]) with
  | false =>
    simp only [Bool.false_eq_true, if_false]
    constructor
    · rintro ⟨h1, _⟩; exact absurd h1 (by simp)
    · rintro ⟨e, he, h1, h2⟩
      have hp := h.keys e he
      rw [par_eq hp.2] at h1
      have hd : (nmL e.1).dropLast = nmL p := by rw [← h1, (pth_vld (okN_dropLast (nm_ok e.1))).2]
      have hl : (nmL e.1).getLastD [] = name.data.toList := by rw [← h2, lst_eq hp.2]
      have := nm_ok e.1
      rw [okN_last hp.2, hd, hl, ho] at this
      cases this
  | true =>
    simp only [if_true]
    have hq := pth_vld ho
    have hne : pth (nmL p ++ [name.data.toList]) ≠ pth [] := fun e => by
      have := pth_inj ho rfl e
      simp at this
    rw [app4 hq.1]
    have hg : (gtD l (pth (nmL p ++ [name.data.toList]))).1.err = 0 ↔ ∃ e ∈ l, e.1 = pth (nmL p ++ [name.data.toList]) := by
      rw [← fndD_mem]
      cases hf : fndD l (pth (nmL p ++ [name.data.toList])) with
      | none => rw [gt_none hne hf]; simp [bad]
      | some x => rw [gt_some hf]; simp
    rw [hg]
    constructor
    · rintro ⟨_, e, he, h1⟩
      have hp := h.keys e he
      have hn : nmL e.1 = nmL p ++ [name.data.toList] := by rw [h1, hq.2]
      refine ⟨e, he, ?_, ?_⟩
      · rw [par_eq hp.2, hn, List.dropLast_concat, ← vld_pth hv]
      · refine data_inj ?_
        rw [lst_eq hp.2, hn]
        simp
    · rintro ⟨e, he, h1, h2⟩
      have hp := h.keys e he
      rw [par_eq hp.2] at h1
      have hd : (nmL e.1).dropLast = nmL p := by rw [← h1, (pth_vld (okN_dropLast (nm_ok e.1))).2]
      have hl : (nmL e.1).getLastD [] = name.data.toList := by rw [← h2, lst_eq hp.2]
      refine ⟨trivial, e, he, ?_⟩
      rw [vld_pth hp.1, okN_last hp.2, hd, hl]
end Go.Proofs.YtodcmhmankmaoaaGreat
