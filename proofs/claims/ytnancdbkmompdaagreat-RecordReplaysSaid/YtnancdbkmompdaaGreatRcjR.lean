/-
 Package record: a copy of a state.
-/
import Derived.Test.YtnancdbkmompdaaGreatRY
import Derived.Test.YtnancdbkmompdaaGreatRZ
import Derived.Test.YtnancdbkmompdaaGreatRciR
namespace Go.Proofs.YtnancdbkmompdaaGreat
open Go.RowKit Go.Sort
open Go.WideMaps
set_option linter.unusedSimpArgs false
set_option linter.unusedVariables false
set_option maxRecDepth 100000
set_option maxHeartbeats 40000000
/-- An instance's cells. -/
def idCl (x : I3) : Cls 3 := ⟨idE x, rfl, fun v h => IK.one x v h⟩
theorem ki_row (L : List I3) : KI.row (L.map idCl) = IK.row L := by
 unfold Knd.row
 rw [List.flatMap_map]
 rfl
theorem ki_rd {w : World} {v : Value} {L : List I3} (h : IK.Rd w v L) : KI.Rd w v (L.map idCl) := by
 obtain ⟨a, c, e, h1, h2, h3⟩ := h
 refine ⟨a, c, by rw [List.length_map]; exact e, by rw [List.length_map]; exact h1, h2, ?_⟩
 rcases h3 with h3 | ⟨g, off, ha, hg, hc⟩
 ·exact .inl (by rw [h3]; rfl)
 ·exact .inr ⟨g, off, ha, hg, fun t u q => hc t u (by rw [← ki_row]; exact q)⟩
theorem ik_own {w : World} {B : Nat} {v : Value} {L : List I3} (h : KI.Own w B v (L.map idCl)) : IK.Own w B v L := by
 unfold Knd.Own at h
 rw [ki_row, List.length_map] at h
 exact h
theorem clIK (v : Value) (L : List I3) (w : World) (h : IK.Rd w v L) (hl : L.length ≤ 1000000) : Calls Tryz.prog 26 #[v] w fun e w' => ∃ (a : Option Addr) (c : Nat), Hid (e = .returned (.slice a L.length c)) ∧ IK.Own w' w.heap.size (.slice a L.length c) L ∧ Below w.heap.size w w' := by
 refine (clI v (L.map idCl) w (ki_rd h) (by rw [List.length_map]; exact hl)).mono ?_
 rintro e w' ⟨a, c, he, ho, hb⟩
 rw [List.length_map] at he ho
 exact ⟨a, c, he, ik_own ho, hb⟩
theorem met_mv {α : Type} {l : List (I3 × α)} {D : DataW Value} (h : ∀ x, okI x → Maps.has D (kf x) = (getV l x).isSome) : Met (keysV l) (Maps.has D) [] :=
 ⟨List.nodup_nil, (fun x h => by cases h), (fun x h => by cases h), (fun x hx => by rw [h x hx, getV_isSome]; simp [hasI])⟩
theorem MV.same_look {α : Type} {enc : α → Value} {w : World} {b : Nat} {l l' : List (I3 × α)} (h : MV enc w b l) (hl : l'.length = l.length) (hn : (keysV l').Nodup) (hk : ∀ e ∈ l', okI e.1) (hg : ∀ x, getV l' x = getV l x) : MV enc w b l' :=
 ⟨by obtain ⟨D, h1, h2, h3, h4, h5⟩ := h.own; exact ⟨D, by rw [hl]; exact h1, h2, by rw [hl]; exact h3, fun x hx => by rw [hg]; exact h4 x hx, fun x a hx => by rw [hg]; exact h5 x a hx⟩, hk, hn⟩
theorem getV_map {α β : Type} (l : List (I3 × α)) (f : I3 → β) (x : I3) : getV (l.map fun e => (e.1, f e.1)) x = (getV l x).map fun _ => f x := by
 induction l with
 | nil => rfl
 | cons e r ih =>
  unfold getV at *
  rw [List.map_cons, List.find?_cons, List.find?_cons]
  by_cases q : e.1 = x
  ·simp [q]
  ·simp only [q, decide_false]
   exact ih
theorem below_sx {B g : Nat} {a w w' : World} (h : Below B a w) (hg : B ≤ g) (s : Sx g w w') : Below B a w' := ⟨s.os.trans h.os, s.tape.trans h.tape, s.output.trans h.output, by rw [s.size]; exact h.size, fun k hk => (s.block k (by omega)).trans (h.block k hk)⟩
theorem KeepT.sx {w w' : World} {g : Nat} {T : TypeId} {cs : List Value} (h : Bk w g T cs) (hT : ¬ StT T) (s : Sx g w w') : KeepT w w' := fun k cs2 T2 fr q hT2 => s.block k (by
 rintro rfl
 have h' : w.heap[k]? = _ := h
 rw [h'] at q
 simp only [Option.some.injEq, Obj.cells.injEq] at q
 exact hT (q.2.1 ▸ hT2))
/-- What was copied so far, in any order, is as it was. -/
structure CoI (w : World) (b : Nat) (M : List (I3 × Ins)) (ss : List I3) (E : List (I3 × Value)) : Prop where
 mv : MV (fun v => v) w b E
 keys : keysV E = ss
 at' : ∀ id v, getV E id = some v → ∃ y, getV M id = some y ∧ InO w v y
theorem CoI.keepT {w w' : World} {b : Nat} {M : List (I3 × Ins)} {ss : List I3} {E : List (I3 × Value)} (h : CoI w b M ss E) (hk : KeepT w w') (hb : w'.heap[b]? = w.heap[b]?) : CoI w' b M ss E :=
 ⟨h.mv.same hb, h.keys, fun id v e => by obtain ⟨y, h1, h2⟩ := h.at' id v e; exact ⟨y, h1, h2.keepT hk⟩⟩
theorem CoI.put {w w' : World} {b : Nat} {M : List (I3 × Ins)} {ss : List I3} {E : List (I3 × Value)} (h : CoI w b M ss E) (hk : KeepT w w') {id : I3} {v : Value} {y : Ins} (hm : MV (fun v => v) w' b (putV E id v)) (hn : id ∉ ss) (hy : getV M id = some y) (hv : InO w v y) : CoI w' b M (ss ++ [id]) (putV E id v) := by
 refine ⟨hm, ?_, fun i u e => ?_⟩
 ·rw [keys_putV, h.keys, List.filter_eq_self.2 (fun z hz => by simp; rintro rfl; exact hn hz)]
 ·rw [getV_put h.mv.nodup] at e
  by_cases q : i = id
  ·rw [if_pos q] at e
   cases e
   subst q
   exact ⟨y, hy, hv.keepT hk⟩
  ·rw [if_neg q] at e
   obtain ⟨y', h1, h2⟩ := h.at' i u e
   exact ⟨y', h1, h2.keepT hk⟩
theorem CoI.done {w : World} {b : Nat} {M : List (I3 × Ins)} {ss : List I3} {E : List (I3 × Value)} (h : CoI w b M ss E) (hn : (keysV M).Nodup) (hs : ∀ x, x ∈ ss ↔ x ∈ keysV M) (hss : ss.Nodup) : ∃ E', MV (fun v => v) w b E' ∧ OfIs w E' M := by
 have hI : ∀ x, (getV E x).isSome = (getV M x).isSome := fun x => by
  rw [getV_isSome, getV_isSome, h.keys, Bool.eq_iff_iff, hasI_iff, hasI_iff]
  exact hs x
 have hk : keysV (M.map fun e => (e.1, (getV E e.1).getD undef)) = keysV M := by
  show (M.map fun e => (e.1, (getV E e.1).getD undef)).map (·.1) = M.map (·.1)
  rw [List.map_map]
  rfl
 have hg : ∀ x, getV (M.map fun e => (e.1, (getV E e.1).getD undef)) x = getV E x := fun x => by
  rw [getV_map M (fun i => (getV E i).getD undef)]
  have := hI x
  cases q : getV M x with
  | none => rw [q] at this; cases r : getV E x with
   | none => rfl
   | some v => rw [r] at this; cases this
  | some y => rw [q] at this; cases r : getV E x with
   | none => rw [r] at this; cases this
   | some v => rfl
 have hl : M.length = E.length := by
  have e1 : (keysV M).length = M.length := List.length_map _
  have e2 : (keysV E).length = E.length := List.length_map _
  have hp : ss.Perm (keysV M) := (List.perm_ext_iff_of_nodup hss hn).2 hs
  have := hp.length_eq
  rw [← h.keys] at this
  omega
 refine ⟨M.map fun e => (e.1, (getV E e.1).getD undef), h.mv.same_look (by rw [List.length_map]; exact hl) (by rw [hk]; exact hn) (fun e he => ?_) hg, hk, by rw [hk]; exact hn, fun id v e => h.at' id v (by rw [← hg]; exact e)⟩
 have hm : e.1 ∈ keysV M := by rw [← hk]; exact List.mem_map.2 ⟨e, he, rfl⟩
 have hm2 : e.1 ∈ keysV E := by rw [h.keys]; exact (hs _).2 hm
 obtain ⟨e2, h2, h3⟩ := List.mem_map.1 hm2
 rw [← h3]
 exact h.mv.keys e2 h2
theorem wpList_store_rnm {ops : Array Oper} {rest : List Oper} {o : Oper} {a : Act} {w w2 : World} {Q : Exit → Act → World → Prop} (hw : Region.wanted o (yielded ops a.tmps) = true) (ty : TypeId) (x y : Operand) (ho : o.op = .store ty x y)
  (g : Nat) (cells : Array Value) (hx : a.eval x = .pointer (some ⟨g, 0, none⟩)) (hy : a.eval y = .agg cells)
  (old : List Value) (t : TypeId) (hg : Bk w g t old) (hi : (Tryz.prog.info? ty).map (·.size) = some cells.size)
  (hold : old.length = cells.size) (h1 : cells.all (·.oneCell') = true) (hv : w.setRow g cells = w2)
  (h : wpList Tryz.prog ops Q rest (a.put o.dst undef) w2) : wpList Tryz.prog ops Q (o :: rest) a w :=
 wpList_store_row hw ty x y ho g hx cells hy old.toArray t hg hi (by simpa using hold) h1 (by rw [hv]; exact h)
def CopP (x : Snp) (L : List I3) (M : List (I3 × Ins)) (w : World) (e : Ending) (w' : World) : Prop := ∃ (cs : Array Value) (b : Nat), Hid (e = .returned (.agg cs)) ∧ StIs w' cs b x L M ∧ w.heap.size ≤ b ∧ Below w.heap.size w w'
theorem copied_any (x : Snp) (L : List I3) (M : List (I3 × Ins)) (cs : Array Value) (b : Nat) (w : World) (h : StIs w cs b x L M) (hN : Sn6 x) (hL : L.length ≤ 1000000) (hM : M.length ≤ 1000000) (hD : ∀ id y, getV M id = some y → y.2.2.2.2.2.length ≤ 1000000) : Calls Tryz.prog 36 #[.agg cs] w (CopP x L M w) := by
 obtain ⟨v1, v2, v3, v4, hcs, hsn, hik⟩ := h.cells
 obtain ⟨a1, c1, a2, c2, a3, c3, e1, e2, e3⟩ := hsn.slices
 obtain ⟨a4, c4, e4⟩ := hik.slice
 obtain ⟨⟨x0, q1⟩, q2, q3⟩ := x
 obtain ⟨k1, hk1⟩ : ∃ q, q1.length = q := ⟨_, rfl⟩
 obtain ⟨k2, hk2⟩ : ∃ q, q2.length = q := ⟨_, rfl⟩
 obtain ⟨k3, hk3⟩ : ∃ q, q3.length = q := ⟨_, rfl⟩
 obtain ⟨k4, hk4⟩ : ∃ q, L.length = q := ⟨_, rfl⟩
 simp only [hk1] at e1
 simp only [hk2] at e2
 simp only [hk3] at e3
 rw [hk4] at e4
 subst e1 e2 e3 e4 hcs
 obtain ⟨X, hX⟩ : ∃ X, (w.alloc (.cells #[.int .i64 x0, .slice a1 k1 c1, .slice a2 k2 c2, .slice a3 k3 c3, .slice a4 k4 c4, .map (some b)] 37)).alloc (.cells #[.int .i64 0, .slice none 0 0, .slice none 0 0, .slice none 0 0, .slice none 0 0, .map none] 37) = X := ⟨_, rfl⟩
 have hB : Below w.heap.size w X := by rw [← hX]; exact ((Below.refl _ _).alloc (Nat.le_refl _) _).alloc (by simp) _
 have hb1 : Bk X w.heap.size 37 [.int .i64 x0, .slice a1 k1 c1, .slice a2 k2 c2, .slice a3 k3 c3, .slice a4 k4 c4, .map (some b)] := by rw [← hX]; exact (Bk.new w _ _).old _
 have hb2 : Bk X (w.heap.size + 1) 37 [.int .i64 0, .slice none 0 0, .slice none 0 0, .slice none 0 0, .slice none 0 0, .map none] := by rw [← hX]; have := Bk.new (w.alloc (.cells #[.int .i64 x0, .slice a1 k1 c1, .slice a2 k2 c2, .slice a3 k3 c3, .slice a4 k4 c4, .map (some b)] 37)) 37 [.int .i64 0, .slice none 0 0, .slice none 0 0, .slice none 0 0, .slice none 0 0, .map none]; simpa using this
 have HSt := Hd (h.on hB)
 have HB := Hd hB
 have H1 := Hd hb1
 have H2 := Hd hb2
 have HXt : Hid ((Tryz.prog.info? 37).map (·.size) = some 6) := Hd (by kernel_rfl)
 have HXn : Hid ((Tryz.prog.info? 59).map (·.size) = some 15) := Hd (by kernel_rfl)
 have HBs := Hd (show b < w.heap.size from h.lt)
 have HL := Hd (show k4 ≤ 1000000 by omega)
 have HMl := Hd hM
 have HDp := Hd hD
 have HLk := Hd hk4
 have HC := Hd (begun_any ((x0, q1), q2, q3) #[.int .i64 x0, .slice a1 k1 c1, .slice a2 k2 c2, .slice a3 k3 c3] X (snS.keep (by have := hsn.sn; exact this) hB) hN)
 have HIK := Hd (hik.below hB)
 have y0 := hb1.cell 0
 have y1 := hb1.cell 1
 have y2 := hb1.cell 2
 have y3 := hb1.cell 3
 have y4 := hb1.cell 4
 have y5 := hb1.cell 5
 simp only [gB] at y0 y1 y2 y3 y4 y5
 clear h hN hL hM hD hsn hik hk1 hk2 hk3 hk4 hB hb1 hb2
 go_enter Tryz.func36, Tryz.ntmps36
 go_wp2_with fail
 refine HC.out.mono ?_
 rintro e w1 ⟨csb, b2, he, hs, hbb, hb⟩
 rw [he.out]
 obtain ⟨u1, u2, u3, u4, hcsb, hsn, hik⟩ := (hs w1 (fun _ _ _ => rfl)).cells
 obtain ⟨g1, h1, g2, h2, g3, h3, e1, e2, e3⟩ := hsn.slices
 obtain ⟨g4, h4, e4⟩ := hik.slice
 obtain ⟨j1, hj1⟩ : ∃ q, q1.length = q := ⟨_, rfl⟩
 obtain ⟨j2, hj2⟩ : ∃ q, q2.length = q := ⟨_, rfl⟩
 obtain ⟨j3, hj3⟩ : ∃ q, q3.length = q := ⟨_, rfl⟩
 simp only [hj1] at e1
 simp only [hj2] at e2
 simp only [hj3] at e3
 simp only [List.length_nil] at e4
 subst e1 e2 e3 e4 hcsb
 have HSn := Hd (hs w1 (fun _ _ _ => rfl))
 have HB1 := Hd (HB.out.trans (hb.mono HB.out.size))
 have hH1 := H1.out.below hb
 have HH2 := Hd (H2.out.below hb)
 have HSt1 := Hd (HSt.out.on hb)
 have HIK1 := Hd (HIK.out.below hb)
 have HXb := Hd (show w.heap.size + 1 < b2 by have := H2.out.lt; omega)
 have HH1 := Hd hH1
 have HAz : Hid (Bk (w1.alloc (.cells #[.int .i64 0, .slice none 0 0, .slice none 0 0, .slice none 0 0, .slice none 0 0, .map none] 37)) w1.heap.size 37 [.int .i64 0, .slice none 0 0, .slice none 0 0, .slice none 0 0, .slice none 0 0, .map none]) := Hd (Bk.new w1 _ _)
 have HAb : Hid (Below w1.heap.size w1 (w1.alloc (.cells #[.int .i64 0, .slice none 0 0, .slice none 0 0, .slice none 0 0, .slice none 0 0, .map none] 37))) := Hd ((Below.refl _ _).alloc (Nat.le_refl _) _)
 clear he hs hbb hb hsn hik hj1 hj2 hj3 y0 y1 y2 y3 y4 y5 hX H1 H2 HSt HC HIK hH1
 obtain ⟨X2, hX2⟩ : ∃ q, (w1.alloc (.cells #[.int .i64 0, .slice none 0 0, .slice none 0 0, .slice none 0 0, .slice none 0 0, .map none] 37)).setRow w1.heap.size #[.int .i64 x0, .slice g1 j1 h1, .slice g2 j2 h2, .slice g3 j3 h3, .slice g4 0 h4, .map (some b2)] = q := ⟨_, rfl⟩
 have hbA : Below w1.heap.size w1 X2 := by rw [← hX2]; exact below_setRow HAb.out (Nat.le_refl _) _
 have hbk3 : Bk X2 w1.heap.size 37 [.int .i64 x0, .slice g1 j1 h1, .slice g2 j2 h2, .slice g3 j3 h3, .slice g4 0 h4, .map (some b2)] := by rw [← hX2]; exact heap_setRow_same _ _ #[.int .i64 0, .slice none 0 0, .slice none 0 0, .slice none 0 0, .slice none 0 0, .map none] #[.int .i64 x0, .slice g1 j1 h1, .slice g2 j2 h2, .slice g3 j3 h3, .slice g4 0 h4, .map (some b2)] _ HAz.out
 have hh1 := HH1.out.below hbA
 have y4 := hh1.cell 4
 have y5 := hh1.cell 5
 simp only [gB] at y4 y5
 have HBA := Hd hbA
 have HB3 := Hd hbk3
 have HX2 := Hd hX2
 have HCl := Hd (clIK (.slice a4 k4 c4) L X2 (HIK1.out.rd.below (by simpa using hbA)) (by rw [HLk.out]; exact HL.out))
 rw [HLk.out] at HCl
 clear hX2 hbA hbk3 hh1
 go_wp2_with (refine wpList_store_rnm rfl 37 _ _ rfl w1.heap.size #[.int .i64 x0, .slice g1 j1 h1, .slice g2 j2 h2, .slice g3 j3 h3, .slice g4 0 h4, .map (some b2)] rfl rfl [.int .i64 0, .slice none 0 0, .slice none 0 0, .slice none 0 0, .slice none 0 0, .map none] 37 HAz.out HXt.out rfl (by rw [← Array.all_toList]; rfl) HX2.out ?_)
 refine HCl.out.mono ?_
 rintro e w3 ⟨a5, c5, he, ho, hb3⟩
 rw [he.out]
 have hb13 : Below w1.heap.size w1 w3 := HBA.out.trans (hb3.mono HBA.out.size)
 have H1m := Hd (HH1.out.below hb13)
 have H2m := Hd (HH2.out.below hb13)
 have H3m := Hd (HB3.out.below hb3)
 have HO3 := Hd (ho.base (Nat.zero_le _))
 have HB13 := Hd hb13
 clear he ho hb3 hb13 y4 y5 HCl HAz HAb HBA HB3 HX2
 go_wp2_with (refine wpList_store_bk (by rfl) 34 _ _ rfl w1.heap.size 4 rfl (.slice a5 k4 c5) [.slice a5 k4 c5] rfl rfl (by kernel_rfl) 37 [.int .i64 x0, .slice g1 j1 h1, .slice g2 j2 h2, .slice g3 j3 h3, .slice g4 0 h4, .map (some b2)] [.int .i64 x0, .slice g1 j1 h1, .slice g2 j2 h2, .slice g3 j3 h3, .slice a5 k4 c5, .map (some b2)] H3m.out (by simp) (by rfl) rfl ?_)
 intro W4 hs4 hk4
 have HB14 : Hid (Below w1.heap.size w1 W4) := Hd (below_sx HB13.out (Nat.le_refl _) hs4)
 have HSc := Hd (stis_ids HSn.out HB13.out HB14.out (KeepT.sx H3m.out stT_state hs4) HO3.out HSt1.out.okl)
 have HSt4 := Hd (HSt1.out.on HB14.out)
 have HB4 := Hd (HB1.out.trans (HB14.out.mono HB1.out.size))
 have HH2s := Hd (HH2.out.below HB14.out)
 have HH3s := Hd hk4
 have hh1 := HH1.out.below HB14.out
 have y5 := hh1.cell 5
 simp only [gB] at y5
 obtain ⟨E, hmE, hoE⟩ := HSt4.out.mv
 have HOf := Hd hoE
 have HEk := Hd hmE.keys
 have HNd := Hd hmE.nodup
 have hel : E.length = M.length := by have e := congrArg List.length hoE.keys; simpa only [List.length_map] using e
 obtain ⟨D, hD, _, hDs, hhas, hval⟩ := hmE.own
 have HMet := Hd (met_mv hhas)
 have HVal := Hd hval
 obtain ⟨m, hm⟩ : ∃ m, E.length = m := ⟨_, rfl⟩
 rw [hm] at hD hDs
 have HD := Hd hD
 have HDs := Hd hDs
 have HMm : Hid (m ≤ 1000000) := Hd (by have := HMl.out; omega)
 have HG := Hd (show w1.heap.size < W4.heap.size from hk4.lt)
 have HB2l := Hd (show b2 < w1.heap.size from HSn.out.lt)
 have HBs4 := Hd (show w.heap.size + 1 < w1.heap.size from HH2.out.lt)
 clear hs4 hk4 hh1 hmE hoE hel hD hDs hhas hval hm HSn HSt1 HIK1 HH1 HH2 HB1 H1m H2m H3m HO3 HB13 HB14 HSt4
 go_wp2_with (at_range; refine wpList_range_own _ rfl _ 35 rfl 49 59 idLaw Tryz.underlying35 vR b m D rfl HD.out ?_)
 intro w5 hr5 hg5 hz5
 obtain ⟨it, hit⟩ : ∃ n, W4.heap.size = n := ⟨_, rfl⟩
 rw [hit] at hr5 hz5
 rw [HDs.out] at hr5
 have hb5 : Below W4.heap.size W4 w5 := ⟨hg5.os, hg5.tape, hg5.output, hg5.size, fun k hk => hg5.block k hk (by simp)⟩
 have HIt := Hd hit
 have HR5 := Hd hr5
 have HB5 := Hd (HB4.out.trans (hb5.mono HB4.out.size))
 have HK5 := Hd (KeepT.of_below hb5)
 have HH25 := Hd (HH2s.out.below hb5)
 have HH35 := Hd (HH3s.out.below hb5)
 obtain ⟨E0, hm0, ho0⟩ := HSc.out.mv
 obtain rfl : E0 = [] := List.map_eq_nil_iff.1 ho0.keys
 have HCo : Hid (CoI w5 b2 M [] []) := Hd ⟨hm0.below hb5, rfl, fun id v e => by cases e⟩
 rw [hit]
 clear hr5 hg5 hz5 hb5 hit hm0 ho0 y5 HH2s HH3s HD HDs
 go_wp2_with fail
 go_loopw [] (fun wr => ∃ (left : Lit → Bool) (cnt : Nat) (ss : List I3) (E2 : List (I3 × Value)), Hid (wr.ranges (H := Value) Tryz.prog 49 vR b it m D left cnt) ∧ Hid (CoI wr b2 M ss E2) ∧ Hid (KeepT W4 wr) ∧ Hid (Below w.heap.size w wr) ∧ Hid (Bk wr (w.heap.size + 1) 37 [.int .i64 0, .slice none 0 0, .slice none 0 0, .slice none 0 0, .slice none 0 0, .map none]) ∧ Hid (Bk wr w1.heap.size 37 [.int .i64 x0, .slice g1 j1 h1, .slice g2 j2 h2, .slice g3 j3 h3, .slice a5 k4 c5, .map (some b2)]) ∧ Hid (Met (keysV E) left ss) ∧ Hid (ss.length + cnt ≤ m)) (fun wr => wr.rangeLeft b it)
 case atStart => exact ⟨_, m, [], [], HR5, HCo, HK5, HB5, HH25, HH35, HMet, Hd (by simp)⟩
 case round =>
  clear HR5 HCo HK5 HB5 HH25 HH35 HMet
  obtain ⟨left, cnt, ss, E2, HR, HCo, HK, HB, HH2, HH3, HMt, HC⟩ := hrel
  go_wp2_with (first
   | (at_next; refine wpList_next_ranges _ rfl _ rfl 49 idLaw vR idW (fun v : Value => v) (fun key kl hk => by obtain ⟨x, hx, _⟩ := idKey_inv key kl hk; exact ⟨x, hx⟩) (fun v y hv => ⟨v, rfl⟩) b it m _ _ _ rfl HR.out ?_ ?_)
   | fail)
  ·intro hc0 hl0
   have hss := HMt.out.done hl0 (fun x hx => by obtain ⟨e, he, rfl⟩ := List.mem_map.1 hx; exact HEk.out e he)
   have hnM : (keysV M).Nodup := by rw [← HOf.out.keys]; exact HNd.out
   obtain ⟨E', hm', ho'⟩ := HCo.out.done hnM (fun x => by rw [hss x, HOf.out.keys]) HMt.out.nodup
   have HFs : Hid (StIs wr #[.int .i64 x0, .slice g1 j1 h1, .slice g2 j2 h2, .slice g3 j3 h3, .slice a5 k4 c5, .map (some b2)] b2 ((x0, q1), q2, q3) L M) := Hd (by
    obtain ⟨u1, u2, u3, u4, e, t1, t2⟩ := HSc.out.cells
    exact ⟨⟨u1, u2, u3, u4, e, t1.keepT HK.out, ik_keepT t2 HK.out⟩, HSc.out.okl, E', hm', ho'⟩)
   clear hc0 hl0 HMt HR HCo HK HC hss hnM hm' ho' HSc
   go_wp2_with (first | (refine wpList_load_row rfl _ _ rfl w1.heap.size rfl 37 #[.int .i64 x0, .slice g1 j1 h1, .slice g2 j2 h2, .slice g3 j3 h3, .slice a5 k4 c5, .map (some b2)] (0, 0) _ HH3.out Tryz.underlying37 rfl HXt.out ?_) | (refine wpList_store_row rfl 37 _ _ rfl (w.heap.size + 1) rfl #[.int .i64 x0, .slice g1 j1 h1, .slice g2 j2 h2, .slice g3 j3 h3, .slice a5 k4 c5, .map (some b2)] rfl #[.int .i64 0, .slice none 0 0, .slice none 0 0, .slice none 0 0, .slice none 0 0, .map none] 37 HH2.out HXt.out rfl (by rw [← Array.all_toList]; rfl) ?_))
   have hlv := run_loadVar_row (wr.setRow (w.heap.size + 1) #[.int .i64 x0, .slice g1 j1 h1, .slice g2 j2 h2, .slice g3 j3 h3, .slice a5 k4 c5, .map (some b2)]) _ _ _ #[.int .i64 x0, .slice g1 j1 h1, .slice g2 j2 h2, .slice g3 j3 h3, .slice a5 k4 c5, .map (some b2)] (0, 0) _ (heap_setRow_same _ _ #[.int .i64 0, .slice none 0 0, .slice none 0 0, .slice none 0 0, .slice none 0 0, .map none] #[.int .i64 x0, .slice g1 j1 h1, .slice g2 j2 h2, .slice g3 j3 h3, .slice a5 k4 c5, .map (some b2)] _ HH2.out) Tryz.underlying37 rfl HXt.out
   have hBf := below_setRow HB.out (show w.heap.size ≤ w.heap.size + 1 by omega) #[.int .i64 x0, .slice g1 j1 h1, .slice g2 j2 h2, .slice g3 j3 h3, .slice a5 k4 c5, .map (some b2)]
   have hStF := HFs.out.keepT (KeepT.setRow HH2.out stT_state #[.int .i64 x0, .slice g1 j1 h1, .slice g2 j2 h2, .slice g3 j3 h3, .slice a5 k4 c5, .map (some b2)]) ((sx_setRow _ (w.heap.size + 1) #[.int .i64 x0, .slice g1 j1 h1, .slice g2 j2 h2, .slice g3 j3 h3, .slice a5 k4 c5, .map (some b2)]).block b2 (by have := HXb.out; omega))
   exact bodyPost_ret (v := .agg #[.int .i64 x0, .slice g1 j1 h1, .slice g2 j2 h2, .slice g3 j3 h3, .slice a5 k4 c5, .map (some b2)]) (by simp [results, Tryz.results36, asAddr, Act.put, hlv]) rfl ⟨#[.int .i64 x0, .slice g1 j1 h1, .slice g2 j2 h2, .slice g3 j3 h3, .slice a5 k4 c5, .map (some b2)], b2, rfl, hStF, by have := HXb.out; omega, hBf⟩
  ·intro x1 x2 x3 c kl yd yp w6 cnt3 hkey hlk hv hat hrg3 hlt hg3 hs3 hen
   have hxo : okI (x1, x2, x3) := by
    obtain ⟨x', ex, hxo⟩ := idKey_inv _ _ hkey
    simp only [idW, Value.agg.injEq, Array.mk.injEq, List.cons.injEq, Value.int.injEq, true_and, and_true] at ex
    have e : ((x1, x2, x3) : I3) = x' := i3_ext ex.1 ex.2.1 ex.2.2
    rw [e]
    exact hxo
   obtain rfl : kl = kf (x1, x2, x3) := Option.some.inj (hkey.symm.trans (kf_key hxo))
   have hMet3 := Hd (HMt.out.step hxo hlk)
   have hl1 := HMt.out.left _ hxo
   rw [hlk] at hl1
   have hl2 : hasI (keysV E) (x1, x2, x3) = true ∧ (!hasI ss (x1, x2, x3)) = true := by simpa using hl1.symm
   have HNi : Hid ((x1, x2, x3) ∉ ss) := Hd ((hasI_false _ _).1 (by simpa using hl2.2))
   obtain ⟨c', hc'⟩ : ∃ c', getV E (x1, x2, x3) = some c' := Option.isSome_iff_exists.1 (by rw [getV_isSome]; exact hl2.1)
   obtain rfl : c' = c := by
    have e1 := HVal.out _ _ hxo hc' (.held undef)
    have e2 := hat (.held undef)
    rw [e1] at e2
    unfold vR at hv
    simp only [Option.some.injEq, Prod.mk.injEq] at hv
    rw [← hv.1] at e2
    cases e2
    rfl
   obtain ⟨y, hy, hI⟩ := HOf.out.at' _ _ hc'
   have hit4 : ∀ k cs T fr, wr.heap[k]? = some (.cells cs T fr) → k ≠ it := by
    rintro k cs T fr q rfl
    obtain ⟨_, _, _, _, _, _, _, _, _, hr, _⟩ := HR.out
    rw [q] at hr
    cases hr
   have hk6 : KeepT wr w6 := fun k cs T fr q _ => hg3.block k (Array.getElem?_eq_some_iff.1 q).1 (by have := hit4 k cs T fr q; simp; exact this)
   have HK6 := Hd (HK.out.trans hk6)
   have HI6 := hI.keepT HK6.out
   have hIt := HIt.out
   have hb26 : w6.heap[b2]? = wr.heap[b2]? := hg3.block b2 (HCo.out.mv.lt) (by have := HB2l.out; have := HG.out; simp; omega)
   have HCo6 := Hd (HCo.out.keepT hk6 hb26)
   have HB6 : Hid (Below w.heap.size w w6) := Hd (HB.out.grown hg3 HB.out.size (fun j hj => by cases hj; have := HG.out; have := HBs4.out; omega))
   have HH26 : Hid (Bk w6 (w.heap.size + 1) 37 [.int .i64 0, .slice none 0 0, .slice none 0 0, .slice none 0 0, .slice none 0 0, .map none]) := Hd ((hg3.block _ HH2.out.lt (by have := HG.out; have := HBs4.out; simp; omega)).trans HH2.out)
   have HH36 : Hid (Bk w6 w1.heap.size 37 [.int .i64 x0, .slice g1 j1 h1, .slice g2 j2 h2, .slice g3 j3 h3, .slice a5 k4 c5, .map (some b2)]) := Hd ((hg3.block _ HH3.out.lt (by have := HG.out; simp; omega)).trans HH3.out)
   have HR6 := Hd hrg3
   have HLT : Hid (cnt3 < cnt) := Hd hlt
   have HLE := Hd HR.out.left_eq
   have HY := Hd hy
   have HXo := Hd hxo
   obtain ⟨u, rfl, s12, s13, ro⟩ := HI6
   obtain ⟨rs, hro, hrr⟩ := ro
   obtain ⟨a6, m6, rfl⟩ := hro.slice
   obtain ⟨m5, hm5⟩ : ∃ q, rs.length = q := ⟨_, rfl⟩
   rw [hm5] at hro hrr hen
   obtain ⟨n0, ⟨n1, n2⟩, ⟨n3, n4⟩, ⟨n5, n6, n7, n8, n9, n10, n11, n12⟩, n13, l14⟩ := y
   have eI : Value.agg (inV (n0, (n1, n2), (n3, n4), (n5, n6, n7, n8, n9, n10, n11, n12), n13, l14) (.slice a6 m5 m6)).toArray = .agg #[.int .i64 n0, .int .i64 n1, .int .i64 n2, .int .i64 n3, .int .i64 n4, .int .i64 n5, .int .i64 n6, .int .i64 n7, .string n8, .string n9, .int .i64 n10, .int .i64 n11, .int .i64 n12, .int .i64 n13, .slice a6 m5 m6] := rfl
   have eW : idW (x1, x2, x3) = .agg #[.int .i64 x1, .int .i64 x2, .int .i64 x3] := rfl
   rw [hm5, eI, eW]
   rw [eI, eW] at hen
   have HRo := Hd hro
   have HRr := Hd hrr
   have HM5 := Hd hm5
   have HS12 := Hd (And.intro s12 s13)
   clear hkey hlk hv hat hrg3 hlt hg3 hs3 hl1 hl2 hc' hI hy hit4 hk6 hIt hb26 hxo s12 s13 hro hrr hm5 eI eW HR HCo HK HB HH2 HH3 HMt
   go_wp2_with fail
   obtain ⟨W7, hW7⟩ : ∃ q, (w6.alloc (.cells #[.int .i64 x1, .int .i64 x2, .int .i64 x3] 49)).alloc (.cells #[.int .i64 n0, .int .i64 n1, .int .i64 n2, .int .i64 n3, .int .i64 n4, .int .i64 n5, .int .i64 n6, .int .i64 n7, .string n8, .string n9, .int .i64 n10, .int .i64 n11, .int .i64 n12, .int .i64 n13, .slice a6 m5 m6] 59) = q := ⟨_, rfl⟩
   try rw [hW7]
   have hb7 : Below w6.heap.size w6 W7 := by rw [← hW7]; exact ((Below.refl _ _).alloc (Nat.le_refl _) _).alloc (by simp) _
   have HB7 := Hd hb7
   have HR7 : Hid (W7.ranges (H := Value) Tryz.prog 49 vR b it m D (fun z => left z && !z.sameKey (kf (x1, x2, x3))) cnt3) := Hd (by rw [← hW7]; exact (HR6.out.alloc _).alloc _)
   have HP1 : Hid (Bk W7 w6.heap.size 49 [.int .i64 x1, .int .i64 x2, .int .i64 x3]) := Hd (by rw [← hW7]; exact (Bk.new w6 _ [.int .i64 x1, .int .i64 x2, .int .i64 x3]).old _)
   have HP2 : Hid (Bk W7 (w6.heap.size + 1) 59 [.int .i64 n0, .int .i64 n1, .int .i64 n2, .int .i64 n3, .int .i64 n4, .int .i64 n5, .int .i64 n6, .int .i64 n7, .string n8, .string n9, .int .i64 n10, .int .i64 n11, .int .i64 n12, .int .i64 n13, .slice a6 m5 m6]) := Hd (by rw [← hW7]; have := Bk.new (w6.alloc (.cells #[.int .i64 x1, .int .i64 x2, .int .i64 x3] 49)) 59 [.int .i64 n0, .int .i64 n1, .int .i64 n2, .int .i64 n3, .int .i64 n4, .int .i64 n5, .int .i64 n6, .int .i64 n7, .string n8, .string n9, .int .i64 n10, .int .i64 n11, .int .i64 n12, .int .i64 n13, .slice a6 m5 m6]; simpa using this)
   have HP3 : Hid (Bk W7 w1.heap.size 37 [.int .i64 x0, .slice g1 j1 h1, .slice g2 j2 h2, .slice g3 j3 h3, .slice a5 k4 c5, .map (some b2)]) := Hd (HH36.out.below hb7)
   have HCi := Hd (fun (W : World) (hW : Below W7.heap.size W7 W) => cinst n0 n1 n2 n3 n4 n5 n6 n7 n8 n9 n10 n11 n12 n13 (.slice a6 m5 m6) rs W (HRo.out.rd.below (hb7.trans (hW.mono hb7.size))) (by rw [HRr.out.len]; exact HDp.out _ _ HY.out))
   clear hb7 hW7
   refine wp_region_held_drew (S := (fun w' => Bk w' w1.heap.size 37 [.int .i64 x0, .slice g1 j1 h1, .slice g2 j2 h2, .slice g3 j3 h3, .slice a5 k4 c5, .map (some b2)] ∧ Bk w' w6.heap.size 49 [.int .i64 x1, .int .i64 x2, .int .i64 x3] ∧ Bk w' (w6.heap.size + 1) 59 [.int .i64 n0, .int .i64 n1, .int .i64 n2, .int .i64 n3, .int .i64 n4, .int .i64 n5, .int .i64 n6, .int .i64 n7, .string n8, .string n9, .int .i64 n10, .int .i64 n11, .int .i64 n12, .int .i64 n13, .slice a6 m5 m6])) (by kernel_rfl) ?_ (fun hHeld => ?_)
   ·(first | exact ⟨HP19.out, HP29.out, HP39.out⟩ | exact ⟨HP18.out, HP28.out, HP38.out⟩ | exact ⟨HP3.out.below (below_dr _ _), HP1.out.below (below_dr _ _), HP2.out.below (below_dr _ _)⟩ | exact ⟨HP3.out, HP1.out, HP2.out⟩)
   refine tkA 0 (v := ?_) ?_ ?_
   rotate_left
   ·(intro w hSw; (try dsimp only at hSw); go_simp; try rfl)
   try simp only [Act.put, gA]
   refine tkA 1 (v := ?_) ?_ ?_
   rotate_left
   ·(intro w hSw; have t5 := hSw.1.cell 5; simp only [gB] at t5; (try dsimp only at hSw); go_simp; try rfl)
   try simp only [Act.put, gA]
   refine tkA 2 (v := ?_) ?_ ?_
   rotate_left
   ·(intro w hSw; have t0 := hSw.2.1.cell 0; have t1 := hSw.2.1.cell 1; have t2 := hSw.2.1.cell 2; simp only [gB] at t0 t1 t2; (try dsimp only at hSw); go_simp; try rfl)
   try simp only [Act.put, gA]
   refine tkA 3 (v := ?_) ?_ ?_
   rotate_left
   ·(intro w hSw; have t0 := hSw.2.2.cell 0; have t1 := hSw.2.2.cell 1; have t2 := hSw.2.2.cell 2; have t3 := hSw.2.2.cell 3; have t4 := hSw.2.2.cell 4; have t5 := hSw.2.2.cell 5; have t6 := hSw.2.2.cell 6; have t7 := hSw.2.2.cell 7; have t8 := hSw.2.2.cell 8; have t9 := hSw.2.2.cell 9; have t10 := hSw.2.2.cell 10; have t11 := hSw.2.2.cell 11; have t12 := hSw.2.2.cell 12; have t13 := hSw.2.2.cell 13; have t14 := hSw.2.2.cell 14; simp only [gB] at t0 t1 t2 t3 t4 t5 t6 t7 t8 t9 t10 t11 t12 t13 t14; (try dsimp only at hSw); go_simp; try rfl)
   try simp only [Act.put, gA]
   refine wpAnyH_ready (rs := [4]) (by kernel_rfl) (by simp) ?_
   refine (AllReadyH.cons rfl (fun K hK => ?_) AllReadyH.nil)
   go_simp
   (refine (HCi.out _ (below_dr W7 W7.heap.size)).mono ?_; rintro e w8 ⟨a7, c7, he, ho, hb⟩; rw [HM5.out] at he ho; rw [he.out]; have hb : Below W7.heap.size W7 w8 := (below_dr W7 W7.heap.size).trans hb; have HB8 := Hd hb; have HP18 := Hd (HP3.out.below hb); have HP28 := Hd (HP1.out.below hb); have HP38 := Hd (HP2.out.below hb); have HIn := Hd (show InO w8 (.agg #[.int .i64 n0, .int .i64 n1, .int .i64 n2, .int .i64 n3, .int .i64 n4, .int .i64 n5, .int .i64 n6, .int .i64 n7, .string n8, .string n9, .int .i64 n10, .int .i64 n11, .int .i64 n12, .int .i64 n13, .slice a7 m5 c7]) (n0, (n1, n2), (n3, n4), (n5, n6, n7, n8, n9, n10, n11, n12), n13, l14) from ⟨.slice a7 m5 c7, rfl, HS12.out.1, HS12.out.2, rs, ho.base (Nat.zero_le _), ho.rd, HRr.out.len, fun j p q => HRr.out.at' j p q⟩); clear he ho hb)
   refine hK.out _ _ ?_ (fun hHeld => ?_)
   ·(first | exact ⟨HP19.out, HP29.out, HP39.out⟩ | exact ⟨HP18.out, HP28.out, HP38.out⟩ | exact ⟨HP3.out.below (below_dr _ _), HP1.out.below (below_dr _ _), HP2.out.below (below_dr _ _)⟩ | exact ⟨HP3.out, HP1.out, HP2.out⟩)
   clear hK K
   try simp only [Act.put, gA]
   refine wpAnyH_ready (rs := [5]) (by kernel_rfl) (by simp) ?_
   refine (AllReadyH.cons rfl (fun K hK => ?_) AllReadyH.nil)
   have hb68 : Below w6.heap.size w6 w8 := HB7.out.trans (HB8.out.mono HB7.out.size)
   have hk68 := KeepT.of_below hb68
   have hCo8 := HCo6.out.keepT hk68 (hb68.block b2 HCo6.out.mv.lt)
   have hE2 : E2.length < maxLen := by have e := congrArg List.length hCo8.keys; simp only [List.length_map] at e; have := HC.out; have := HMm.out; unfold maxLen; omega
   refine step_put_mv (by rfl) _ _ _ 35 rfl 59 Tryz.underlying35 (fun v => v) b2 E2 rfl hCo8.mv hE2 (x1, x2, x3) (.agg #[.int .i64 n0, .int .i64 n1, .int .i64 n2, .int .i64 n3, .int .i64 n4, .int .i64 n5, .int .i64 n6, .int .i64 n7, .string n8, .string n9, .int .i64 n10, .int .i64 n11, .int .i64 n12, .int .i64 n13, .slice a7 m5 c7]) rfl HXo.out rfl ?_
   intro w9 hm9 ht9
   obtain ⟨hf9, hs9, hk9⟩ := turned_fb ht9
   have hlt8 := hb68.size
   have HCo9 := Hd (hCo8.put hk9 hm9 HNi.out HY.out HIn.out)
   have HK9 := Hd ((HK6.out.trans hk68).trans hk9)
   have hB8 := HB6.out.trans (hb68.mono HB6.out.size)
   have HB9 : Hid (Below w.heap.size w w9) := Hd ⟨hf9.os.trans hB8.os, hf9.tape.trans hB8.tape, hf9.output.trans hB8.output, Nat.le_trans hB8.size hf9.size, fun k hk => (hf9.block k (by have := hB8.size; omega) (by have := HXb.out; omega)).trans (hB8.block k hk)⟩
   have hbk : ∀ k, k ≠ b2 → k < w8.heap.size → w9.heap[k]? = w8.heap[k]? := fun k h1 h2 => hf9.block k h2 h1
   have HH29 : Hid (Bk w9 (w.heap.size + 1) 37 [.int .i64 0, .slice none 0 0, .slice none 0 0, .slice none 0 0, .slice none 0 0, .map none]) := Hd ((hbk _ (by have := HXb.out; omega) (by have := HH26.out.lt; omega)).trans (HH26.out.below hb68))
   have HP19 : Hid (Bk w9 w1.heap.size 37 [.int .i64 x0, .slice g1 j1 h1, .slice g2 j2 h2, .slice g3 j3 h3, .slice a5 k4 c5, .map (some b2)]) := Hd ((hbk _ (by have := HB2l.out; omega) (by have := HP18.out.lt; omega)).trans HP18.out)
   have HP29 : Hid (Bk w9 w6.heap.size 49 [.int .i64 x1, .int .i64 x2, .int .i64 x3]) := Hd ((hbk _ (by have := HCo6.out.mv.lt; omega) (by have := HP28.out.lt; omega)).trans HP28.out)
   have HP39 : Hid (Bk w9 (w6.heap.size + 1) 59 [.int .i64 n0, .int .i64 n1, .int .i64 n2, .int .i64 n3, .int .i64 n4, .int .i64 n5, .int .i64 n6, .int .i64 n7, .string n8, .string n9, .int .i64 n10, .int .i64 n11, .int .i64 n12, .int .i64 n13, .slice a6 m5 m6]) := Hd ((hbk _ (by have := HCo6.out.mv.lt; omega) (by have := HP38.out.lt; omega)).trans HP38.out)
   have hR8 := HR7.out.kept (w' := w8) (row := none) ⟨HB8.out.os, HB8.out.tape, HB8.out.output, HB8.out.size, fun k hk _ => HB8.out.block k hk⟩ (by simp) (by simp)
   have HR9 := Hd (hR8.kept (w' := w9) (row := some b2) ⟨hf9.os, hf9.tape, hf9.output, hf9.size, fun k h1 h2 => hf9.block k h1 (fun e => h2 (by rw [e]))⟩ (by have := HXb.out; have := HBs.out; simp; omega) (by have := HB2l.out; have := HG.out; have := HIt.out; simp; omega))
   clear hb68 hk68 hCo8 hE2 hm9 ht9 hf9 hs9 hk9 hlt8 hB8 hbk hR8
   refine hK.out _ _ ?_ (fun hHeld => ?_)
   ·(first | exact ⟨HP19.out, HP29.out, HP39.out⟩ | exact ⟨HP18.out, HP28.out, HP38.out⟩ | exact ⟨HP3.out.below (below_dr _ _), HP1.out.below (below_dr _ _), HP2.out.below (below_dr _ _)⟩ | exact ⟨HP3.out, HP1.out, HP2.out⟩)
   clear hK K
   try simp only [Act.put, gA]
   refine wpAnyH_done (by kernel_rfl) ?_ _
   clear hHeld
   go_wp2
   go_roundw
   case rel => exact ⟨_, cnt3, _, _, HR9, HCo9, HK9, HB9, HH29, HP19, hMet3, Hd (by have := HC.out; have := HLT.out; simp; omega)⟩
   case measure => rw [HR9.out.left_eq, HLE.out]; exact HLT.out
end Go.Proofs.YtnancdbkmompdaaGreat
