/-
  Graph: the document's example.
-/
import Derived.Test.YtlckjpjcfalfnaaGrD
import Derived.Test.YtlckjpjcfalfnaaOr
import Derived.Test.YtlckjpjcfalfnaaIds7
namespace Go.Proofs.Ytlckjpjcfalfnaa
open Go.RowKit Go.Sort
open Go.WideMaps
set_option linter.unusedSimpArgs false
set_option linter.unusedVariables false
set_option maxRecDepth 100000

theorem ok3 (a b c : Int) (ha : 0 ≤ a ∧ a ≤ 9) (hb : 0 ≤ b ∧ b ≤ 9) (hc : 0 ≤ c ∧ c ≤ 9) : okI (a, b, c) := by
  refine ⟨?_, ?_, ?_⟩ <;> (simp [Lit.wf, IntKind.min, IntKind.max, IntKind.bits, IntKind.signed]; omega)
set_option maxHeartbeats 8000000 in
theorem works_any (w : World) : Calls Try.prog 10 #[] w fun e w' => e = .returned (.bool true) ∧ Below w.heap.size w w' := by
  obtain ⟨g, hg⟩ : ∃ q, w.heap.size = q := ⟨_, rfl⟩
  obtain ⟨w3, hw3⟩ : ∃ q, ((w.alloc (.cells #[.int .i64 0, .int .i64 1, .int .i64 0] 25)).alloc (.cells #[.int .i64 0, .int .i64 2, .int .i64 0] 25)).alloc (.cells #[.int .i64 0, .int .i64 3, .int .i64 0] 25) = q := ⟨_, rfl⟩
  obtain ⟨Y, hY⟩ : ∃ q, (((w3.alloc (.cells #[.int .i64 0, .int .i64 2, .int .i64 0] 25)).alloc (.cells #[.int .i64 0, .int .i64 1, .int .i64 0] 25)).alloc (.cells #[.int .i64 0, .int .i64 1, .int .i64 0] 25)).alloc (.cells #[.int .i64 0, .int .i64 1, .int .i64 0, .int .i64 2, .slice (some ⟨g + 1 + 1 + 1, 0, none⟩) 1 1, .int .i64 0, .int .i64 2, .int .i64 0, .int .i64 1, .slice (some ⟨g + 1 + 1 + 1 + 1, 0, none⟩) 1 1, .int .i64 0, .int .i64 3, .int .i64 0, .int .i64 0, .slice (some ⟨g + 1 + 1 + 1 + 1 + 1, 0, none⟩) 1 1] 46) = q := ⟨_, rfl⟩
  have al : ∀ (W : World) (o : Obj), Below W.heap.size W (W.alloc o) := fun W o => (Below.refl _ _).alloc (Nat.le_refl _) _
  have hs3 : w3.heap.size = g + 1 + 1 + 1 := by rw [← hw3]; simp [hg]
  have hb3 : Below w.heap.size w w3 := by rw [← hw3]; exact (((al _ _).alloc (by simp) _).alloc (by simp <;> omega) _)
  have hbY : Below w3.heap.size w3 Y := by rw [← hY]; exact ((((al _ _).alloc (by simp) _).alloc (by simp <;> omega) _).alloc (by simp <;> omega) _)
  have HBY : Hid (Below w.heap.size w Y) := Lib.hid (hb3.trans (hbY.mono hb3.size))
  have HXb : Hid (Bk Y (g + 1) 25 [.int .i64 0, .int .i64 2, .int .i64 0]) := Lib.hid (Bk.below (by rw [← hw3]; exact (Bk.newAg (by simp [hg]) _ [.int .i64 0, .int .i64 2, .int .i64 0]).old _) hbY)
  have HXc : Hid (Bk Y (g + 1 + 1) 25 [.int .i64 0, .int .i64 3, .int .i64 0]) := Lib.hid (Bk.below (by rw [← hw3]; exact Bk.newAg (by simp [hg]) _ [.int .i64 0, .int .i64 3, .int .i64 0]) hbY)
  have hr3 : IK.Rd Y (.slice (some ⟨g + 1 + 1 + 1, 0, none⟩) 1 1) [xB] := by rw [← hY]; exact (((IK.rd_boxAt xB 25 1 w3 _ hs3).below (al _ _)).below (al _ _)).below (al _ _)
  have hr4 : IK.Rd Y (.slice (some ⟨g + 1 + 1 + 1 + 1, 0, none⟩) 1 1) [xA] := by rw [← hY]; exact ((IK.rd_boxAt xA 25 1 (w3.alloc (.cells #[.int .i64 0, .int .i64 2, .int .i64 0] 25)) _ (by simp [hs3])).below (al _ _)).below (al _ _)
  have hr5 : IK.Rd Y (.slice (some ⟨g + 1 + 1 + 1 + 1 + 1, 0, none⟩) 1 1) [xA] := by rw [← hY]; exact (IK.rd_boxAt xA 25 1 ((w3.alloc (.cells #[.int .i64 0, .int .i64 2, .int .i64 0] 25)).alloc (.cells #[.int .i64 0, .int .i64 1, .int .i64 0] 25)) _ (by simp [hs3])).below (al _ _)
  have hbk : Bk Y (g + 1 + 1 + 1 + 1 + 1 + 1) 46 [.int .i64 0, .int .i64 1, .int .i64 0, .int .i64 2, .slice (some ⟨g + 1 + 1 + 1, 0, none⟩) 1 1, .int .i64 0, .int .i64 2, .int .i64 0, .int .i64 1, .slice (some ⟨g + 1 + 1 + 1 + 1, 0, none⟩) 1 1, .int .i64 0, .int .i64 3, .int .i64 0, .int .i64 0, .slice (some ⟨g + 1 + 1 + 1 + 1 + 1, 0, none⟩) 1 1] := by rw [← hY]; exact Bk.newAg (by simp [hs3]) _ [.int .i64 0, .int .i64 1, .int .i64 0, .int .i64 2, .slice (some ⟨g + 1 + 1 + 1, 0, none⟩) 1 1, .int .i64 0, .int .i64 2, .int .i64 0, .int .i64 1, .slice (some ⟨g + 1 + 1 + 1 + 1, 0, none⟩) 1 1, .int .i64 0, .int .i64 3, .int .i64 0, .int .i64 0, .slice (some ⟨g + 1 + 1 + 1 + 1 + 1, 0, none⟩) 1 1]
  have oA : okI xA := ok3 _ _ _ (by omega) (by omega) (by omega)
  have oB : okI xB := ok3 _ _ _ (by omega) (by omega) (by omega)
  have oC : okI xC := ok3 _ _ _ (by omega) (by omega) (by omega)
  have hoA : okL [xA] := fun x hx => by simp at hx; subst hx; exact oA
  have hoB : okL [xB] := fun x hx => by simp at hx; subst hx; exact oB
  obtain ⟨nv, hnv⟩ : ∃ q : List NV, [⟨⟨xA, 2, [xB]⟩, some ⟨g + 1 + 1 + 1, 0, none⟩, 1⟩, ⟨⟨xB, 1, [xA]⟩, some ⟨g + 1 + 1 + 1 + 1, 0, none⟩, 1⟩, ⟨⟨xC, 0, [xA]⟩, some ⟨g + 1 + 1 + 1 + 1 + 1, 0, none⟩, 1⟩] = q := ⟨_, rfl⟩
  have hrow : NRow Y (.slice (some ⟨g + 1 + 1 + 1 + 1 + 1 + 1, 0, none⟩) 3 3) nv := by
    rw [← hnv]
    refine ⟨⟨_, _, rfl, by simp [maxLen], fun j hj => ⟨_, 0, rfl, hbk.lt, fun i u hu => ?_⟩⟩, fun n hn => ?_⟩
    · rw [hbk.cell]
      have hj3 : j = 0 ∨ j = 1 ∨ j = 2 := by simp at hj; omega
      have hi : i < 5 := by have q := (List.getElem?_eq_some_iff.1 hu).1; simpa [ndC, ndE, idE] using q
      have hi5 : i = 0 ∨ i = 1 ∨ i = 2 ∨ i = 3 ∨ i = 4 := by omega
      rcases hj3 with rfl | rfl | rfl <;> rcases hi5 with rfl | rfl | rfl | rfl | rfl <;> exact hu
    · simp at hn
      rcases hn with rfl | rfl | rfl
      · exact ⟨oA, hoB, hr3⟩
      · exact ⟨oB, hoA, hr4⟩
      · exact ⟨oC, hoA, hr5⟩
  have hrow1 : NRow Y (.slice (some ⟨g + 1 + 1 + 1 + 1 + 1 + 1, 0, none⟩) 1 3) [⟨⟨xA, 2, [xB]⟩, some ⟨g + 1 + 1 + 1, 0, none⟩, 1⟩] := by
    refine ⟨⟨_, _, rfl, by simp [maxLen], fun j hj => ⟨_, 0, rfl, hbk.lt, fun i u hu => ?_⟩⟩, fun n hn => ?_⟩
    · rw [hbk.cell]
      have hj3 : j = 0 := by simp at hj; omega
      have hi : i < 5 := by have q := (List.getElem?_eq_some_iff.1 hu).1; simpa [ndC, ndE, idE] using q
      have hi5 : i = 0 ∨ i = 1 ∨ i = 2 ∨ i = 3 ∨ i = 4 := by omega
      subst hj3
      rcases hi5 with rfl | rfl | rfl | rfl | rfl <;> exact hu
    · simp at hn
      subst hn
      exact ⟨oA, hoB, hr3⟩
  have hdn : ∀ W, IK.Rd W (.slice none 0 0) [] := fun W => Knd.Rd.nil W
  have hl3 : nv.length = 3 := by rw [← hnv]; rfl
  have hnd : (nv.map (·.d.id)).Nodup := by rw [← hnv]; show ([xA, xB, xC] : List I3).Nodup; decide
  have hU : ∀ n ∈ nv, (∀ y ∈ n.d.dl, y ∈ [xA, xB]) ∧ n.d.dl.length ≤ 20 := fun n hn => by
    rw [← hnv] at hn
    simp at hn
    rcases hn with rfl | rfl | rfl <;> simp
  have hU1 : ∀ n ∈ ([⟨⟨xA, 2, [xB]⟩, some ⟨g + 1 + 1 + 1, 0, none⟩, 1⟩] : List NV), (∀ y ∈ n.d.dl, y ∈ [xA, xB]) ∧ n.d.dl.length ≤ 900 := fun n hn => by
    simp at hn
    subst hn
    simp
  have hoU : okL [xA, xB] := fun x hx => by
    simp at hx
    rcases hx with rfl | rfl
    · exact oA
    · exact oB
  have hweb : webL nv = [(xA, ⟨⟨xA, 2, [xB]⟩, some ⟨g + 1 + 1 + 1, 0, none⟩, 1⟩), (xB, ⟨⟨xB, 1, [xA]⟩, some ⟨g + 1 + 1 + 1 + 1, 0, none⟩, 1⟩), (xC, ⟨⟨xC, 0, [xA]⟩, some ⟨g + 1 + 1 + 1 + 1 + 1, 0, none⟩, 1⟩)] := by rw [← hnv]; rfl
  have hweb1 : webL [⟨⟨xA, 2, [xB]⟩, some ⟨g + 1 + 1 + 1, 0, none⟩, 1⟩] = [(xA, ⟨⟨xA, 2, [xB]⟩, some ⟨g + 1 + 1 + 1, 0, none⟩, 1⟩)] := rfl
  have HOr := Lib.hid (gorder_any hrow (by omega) hnd (hdn Y) (fun x hx => by cases hx) (by simp) [xA, xB] hU (by simp))
  have HVa := Lib.hid (fun W (hb : Below Y.heap.size Y W) => by
    have q := gvalid_any (hrow.below hb) (by omega)
    rwa [decide_eq_true (⟨by omega, hnd⟩ : nv.length ≤ 1024 ∧ (nv.map (·.d.id)).Nodup)] at q)
  have HRe := Lib.hid (fun W (hb : Below Y.heap.size Y W) => reach_any (hrow.below hb) (by omega) ⟨by omega, hnd⟩ 0 3 0 oC [xA, xB] (fun n hn => (hU n hn).1) (by simp) hoU)
  have HRy := Lib.hid (fun W (hb : Below Y.heap.size Y W) => readyR_any (hrow.below hb) (by omega) hnd (hdn W) (fun x hx => by cases hx) (by simp) [xA, xB] (fun n hn => ⟨(hU n hn).1, Nat.le_trans (hU n hn).2 (by omega)⟩) (by simp))
  have HR1 := Lib.hid (fun W (hb : Below Y.heap.size Y W) => readyR_any (hrow1.below hb) (by simp) (by simp) (hdn W) (fun x hx => by cases hx) (by simp) [xA, xB] hU1 (by simp))
  have HWb := Lib.hid hweb
  have HWb1 := Lib.hid hweb1
  clear hweb hweb1 hrow hrow1 hbk hU hU1 hoU oA oB oC hoA hoB hr3 hr4 hr5 hb3 hbY hdn hnd hl3 hnv al
  have HW3 := Lib.hid hw3
  have HYe := Lib.hid hY
  clear hw3 hY hs3
  go_enter Try.func10, Try.ntmps10
  go_upto_region 5 with fail
  rw [HW3.out, HYe.out]
  clear HW3 HYe
  go_wp2_with fail
  refine HOr.out.mono ?_
  rintro e w1 ⟨v1, cur, os, he, hri, -, hos, hrw, hb⟩
  rw [he.out]
  rw [HWb.out] at hri
  have hos2 := ex_order rfl rfl rfl hri hos
  subst hos2
  have HB1 := Lib.hid (HBY.out.trans (hb.mono HBY.out.size))
  have HX1 := Lib.hid hb
  have HRw := Lib.hid hrw
  have HFl := Lib.hid (flat_any hrw (by simp))
  clear he hri hos hrw hb HOr
  go_wp2_with fail
  refine HFl.out.mono ?_
  rintro e w2 ⟨v2, he, ho2, hb⟩
  rw [he.out]
  have HB2 := Lib.hid (HB1.out.trans (hb.mono HB1.out.size))
  have hbY2 : Below Y.heap.size Y w2 := HX1.out.trans (hb.mono HX1.out.size)
  obtain ⟨a1, c1, ev1, _, hel⟩ := HRw.out.below hb
  obtain ⟨go, oo, bb, n', cb, rfl, hgo, hcell, hrd⟩ := hel 0 (by simp)
  simp only [Nat.add_zero, List.getElem_cons_zero] at hcell hrd
  obtain ⟨hn2, gb, ob, rfl, hgb, hcs⟩ := hrd.at (by simp)
  have eK : IK.k = 3 := rfl
  have q0 := hcs 0 (by rw [hn2]; simp) 
  rw [eK] at q0
  have p0 : w2.cell? ⟨gb, ob, none⟩ = some (.int .i64 0) := by have r := q0 0 _ rfl; simpa using r
  have p1 : w2.cell? ⟨gb, ob + 1, none⟩ = some (.int .i64 2) := by have r := q0 1 _ rfl; simpa using r
  have p2 : w2.cell? ⟨gb, ob + 2, none⟩ = some (.int .i64 0) := by have r := q0 2 _ rfl; simpa using r
  obtain ⟨af, cf, ev2⟩ := ho2.slice
  subst ev2
  obtain ⟨gf, rfl, hgf, -, f0, f1, f2⟩ := ik_cell ho2 2 (by simp) (x1 := 0) (x2 := 3) (x3 := 0) rfl
  have hn2' : n' = 2 := by rw [hn2]; rfl
  subst hn2'
  subst ev1
  simp only [List.length_cons, List.length_nil, List.flatten_cons, List.flatten_nil, List.append_nil, List.cons_append, List.nil_append, Nat.zero_add, Nat.reduceAdd, Nat.reduceMul] at f0 f1 f2 ⊢
  have HC7 : Hid (∀ w', Below w2.heap.size w2 w' → w'.cell? ⟨go, oo, none⟩ = some (.slice (some ⟨gb, ob, none⟩) 2 cb) ∧ w'.cell? ⟨gb, ob, none⟩ = some (.int .i64 0) ∧ w'.cell? ⟨gb, ob + 1, none⟩ = some (.int .i64 2) ∧ w'.cell? ⟨gb, ob + 2, none⟩ = some (.int .i64 0) ∧ w'.cell? ⟨g + 1, 0, none⟩ = some (.int .i64 0) ∧ w'.cell? ⟨g + 1, 1, none⟩ = some (.int .i64 2) ∧ w'.cell? ⟨g + 1, 2, none⟩ = some (.int .i64 0) ∧ w'.cell? ⟨g + 1 + 1, 0, none⟩ = some (.int .i64 0) ∧ w'.cell? ⟨g + 1 + 1, 1, none⟩ = some (.int .i64 3) ∧ w'.cell? ⟨g + 1 + 1, 2, none⟩ = some (.int .i64 0) ∧ w'.cell? ⟨gf, 6, none⟩ = some (.int .i64 0) ∧ w'.cell? ⟨gf, 7, none⟩ = some (.int .i64 3) ∧ w'.cell? ⟨gf, 8, none⟩ = some (.int .i64 0)) := Lib.hid fun w' h => ⟨(h.cell (p := ⟨go, oo, none⟩) hgo).trans hcell, (h.cell (p := ⟨gb, ob, none⟩) hgb).trans p0, (h.cell (p := ⟨gb, ob + 1, none⟩) hgb).trans p1, (h.cell (p := ⟨gb, ob + 2, none⟩) hgb).trans p2, (Bk.below (Bk.below HXb.out hbY2) h).cell 0, (Bk.below (Bk.below HXb.out hbY2) h).cell 1, (Bk.below (Bk.below HXb.out hbY2) h).cell 2, (Bk.below (Bk.below HXc.out hbY2) h).cell 0, (Bk.below (Bk.below HXc.out hbY2) h).cell 1, (Bk.below (Bk.below HXc.out hbY2) h).cell 2, (h.cell (p := ⟨gf, 6, none⟩) hgf).trans f0, (h.cell (p := ⟨gf, 7, none⟩) hgf).trans f1, (h.cell (p := ⟨gf, 8, none⟩) hgf).trans f2⟩
  have HYd := Lib.hid hbY2
  clear he ho2 hb hbY2 hel hgo hcell hrd hgb hcs q0 p0 p1 p2 hgf f0 f1 f2 eK HFl HRw HX1 HXb HXc hn2
  have he1 : ∀ w, Sem.run Try.prog (binOp .eql 25 (.agg #[.int .i64 0, .int .i64 2, .int .i64 0]) (.agg #[.int .i64 0, .int .i64 2, .int .i64 0])) w = .ok (.bool true) w := fun w => ((eqI_run 0 2 0 0 2 0).1 w).trans rfl
  have he2 : ∀ w, Sem.run Try.prog (binOp .eql 25 (.agg #[.int .i64 0, .int .i64 3, .int .i64 0]) (.agg #[.int .i64 0, .int .i64 3, .int .i64 0])) w = .ok (.bool true) w := fun w => ((eqI_run 0 3 0 0 3 0).1 w).trans rfl
  have hq1 := (eqI_run 0 2 0 0 2 0).2
  have hq2 := (eqI_run 0 3 0 0 3 0).2
  go_upto_region 7 with fail
  have hd0 : Below w2.heap.size w2 w2.drew := (Below.refl _ _).drew
  refine wp_region_held_drew (S := (fun w' => w'.cell? ⟨go, oo, none⟩ = some (.slice (some ⟨gb, ob, none⟩) 2 cb) ∧ w'.cell? ⟨gb, ob, none⟩ = some (.int .i64 0) ∧ w'.cell? ⟨gb, ob + 1, none⟩ = some (.int .i64 2) ∧ w'.cell? ⟨gb, ob + 2, none⟩ = some (.int .i64 0) ∧ w'.cell? ⟨g + 1, 0, none⟩ = some (.int .i64 0) ∧ w'.cell? ⟨g + 1, 1, none⟩ = some (.int .i64 2) ∧ w'.cell? ⟨g + 1, 2, none⟩ = some (.int .i64 0) ∧ w'.cell? ⟨g + 1 + 1, 0, none⟩ = some (.int .i64 0) ∧ w'.cell? ⟨g + 1 + 1, 1, none⟩ = some (.int .i64 3) ∧ w'.cell? ⟨g + 1 + 1, 2, none⟩ = some (.int .i64 0) ∧ w'.cell? ⟨gf, 6, none⟩ = some (.int .i64 0) ∧ w'.cell? ⟨gf, 7, none⟩ = some (.int .i64 3) ∧ w'.cell? ⟨gf, 8, none⟩ = some (.int .i64 0))) (by kernel_rfl) ?_ (fun hHeld => ?_)
  · ((first
  | exact HC7.out _ hb4
  | exact HC7.out _ hb3
  | exact HC7.out _ hb2
  | exact HC7.out _ hb1
  | exact HC7.out _ hd0
  | fail))
  refine wpAnyH_take (i := 0) (v := ?_) rfl (by kernel_rfl) (by kernel_rfl) (by kernel_rfl) (fun _ _ _ h => h) (Or.inl ⟨by rfl, ?_⟩) (by assumption) ?_
  rotate_left
  · (intro w hSw; (try dsimp only at hSw); go_simp; try rfl)
  try simp only [Act.put, List.setIfInBounds_toArray, List.set_cons_zero, List.set_cons_succ, List.getElem_toArray, List.getElem_cons_zero, List.getElem_cons_succ]
  refine wpAnyH_ready (rs := [1]) (by kernel_rfl) (by simp) ?_
  refine (AllReadyH.cons rfl (fun K hK => ?_) AllReadyH.nil)
  go_simp
  (go_at_call 16; refine (HVa.out _ (HYd.out.trans (hd0.mono HYd.out.size))).mono ?_; rintro e w8 ⟨rfl, hb⟩; have hb1 := hd0.trans (hb.mono hd0.size); clear hb)
  refine hK.out _ _ ?_ (fun hHeld => ?_)
  · ((first
  | exact HC7.out _ hb4
  | exact HC7.out _ hb3
  | exact HC7.out _ hb2
  | exact HC7.out _ hb1
  | exact HC7.out _ hd0
  | fail))
  clear hK K
  try simp only [Act.put, List.setIfInBounds_toArray, List.set_cons_zero, List.set_cons_succ, List.getElem_toArray, List.getElem_cons_zero, List.getElem_cons_succ]
  refine wpAnyH_take (i := 2) (v := ?_) rfl (by kernel_rfl) (by kernel_rfl) (by kernel_rfl) (fun _ _ _ h => h) (Or.inl ⟨by rfl, ?_⟩) (by assumption) ?_
  rotate_left
  · (intro w hSw; (try dsimp only at hSw); go_simp; try rfl)
  try simp only [Act.put, List.setIfInBounds_toArray, List.set_cons_zero, List.set_cons_succ, List.getElem_toArray, List.getElem_cons_zero, List.getElem_cons_succ]
  refine wpAnyH_take (i := 3) (v := ?_) rfl (by kernel_rfl) (by kernel_rfl) (by kernel_rfl) (fun _ _ _ h => h) (Or.inl ⟨by rfl, ?_⟩) (by assumption) ?_
  rotate_left
  · (intro w hSw; (try dsimp only at hSw); go_simp; try rfl)
  try simp only [Act.put, List.setIfInBounds_toArray, List.set_cons_zero, List.set_cons_succ, List.getElem_toArray, List.getElem_cons_zero, List.getElem_cons_succ]
  refine wpAnyH_ready (rs := [4]) (by kernel_rfl) (by simp) ?_
  refine (AllReadyH.cons rfl (fun K hK => ?_) AllReadyH.nil)
  go_simp
  refine hK.out _ _ ?_ (fun hHeld => ?_)
  · ((first
  | exact HC7.out _ hb4
  | exact HC7.out _ hb3
  | exact HC7.out _ hb2
  | exact HC7.out _ hb1
  | exact HC7.out _ hd0
  | fail))
  clear hK K
  try simp only [Act.put, List.setIfInBounds_toArray, List.set_cons_zero, List.set_cons_succ, List.getElem_toArray, List.getElem_cons_zero, List.getElem_cons_succ]
  refine wpAnyH_take (i := 5) (v := ?_) rfl (by kernel_rfl) (by kernel_rfl) (by kernel_rfl) (fun _ _ _ h => h) (Or.inl ⟨by rfl, ?_⟩) (by assumption) ?_
  rotate_left
  · (intro w hSw; (try dsimp only at hSw); go_simp; try rfl)
  try simp only [Act.put, List.setIfInBounds_toArray, List.set_cons_zero, List.set_cons_succ, List.getElem_toArray, List.getElem_cons_zero, List.getElem_cons_succ]
  refine wpAnyH_take (i := 6) (v := ?_) rfl (by kernel_rfl) (by kernel_rfl) (by kernel_rfl) (fun _ _ _ h => h) (Or.inl ⟨by rfl, ?_⟩) (by assumption) ?_
  rotate_left
  · (intro w hSw; (try dsimp only at hSw); go_simp; try rfl)
  try simp only [Act.put, List.setIfInBounds_toArray, List.set_cons_zero, List.set_cons_succ, List.getElem_toArray, List.getElem_cons_zero, List.getElem_cons_succ]
  refine wpAnyH_take (i := 7) (v := ?_) rfl (by kernel_rfl) (by kernel_rfl) (by kernel_rfl) (fun _ _ _ h => h) (Or.inl ⟨by rfl, ?_⟩) (by assumption) ?_
  rotate_left
  · (intro w hSw; (try dsimp only at hSw); go_simp; try rfl)
  try simp only [Act.put, List.setIfInBounds_toArray, List.set_cons_zero, List.set_cons_succ, List.getElem_toArray, List.getElem_cons_zero, List.getElem_cons_succ]
  refine wpAnyH_take (i := 8) (v := ?_) rfl (by kernel_rfl) (by kernel_rfl) (by kernel_rfl) (fun _ _ _ h => h) (Or.inl ⟨by rfl, ?_⟩) (by assumption) ?_
  rotate_left
  · (intro w hSw; (try dsimp only at hSw); go_simp; try rfl)
  try simp only [Act.put, List.setIfInBounds_toArray, List.set_cons_zero, List.set_cons_succ, List.getElem_toArray, List.getElem_cons_zero, List.getElem_cons_succ]
  refine wpAnyH_take (i := 9) (v := ?_) rfl (by kernel_rfl) (by kernel_rfl) (by kernel_rfl) (fun _ _ _ h => h) (Or.inl ⟨by rfl, ?_⟩) (by assumption) ?_
  rotate_left
  · (intro w hSw; (try dsimp only at hSw); go_simp; try rfl)
  try simp only [Act.put, List.setIfInBounds_toArray, List.set_cons_zero, List.set_cons_succ, List.getElem_toArray, List.getElem_cons_zero, List.getElem_cons_succ]
  refine wpAnyH_take (i := 10) (v := ?_) rfl (by kernel_rfl) (by kernel_rfl) (by kernel_rfl) (fun _ _ _ h => h) (Or.inl ⟨by rfl, ?_⟩) (by assumption) ?_
  rotate_left
  · (intro w hSw; (try dsimp only at hSw); go_simp; try rfl)
  try simp only [Act.put, List.setIfInBounds_toArray, List.set_cons_zero, List.set_cons_succ, List.getElem_toArray, List.getElem_cons_zero, List.getElem_cons_succ]
  refine wpAnyH_ready (rs := [11]) (by kernel_rfl) (by simp) ?_
  refine (AllReadyH.cons rfl (fun K hK => ?_) AllReadyH.nil)
  go_simp
  refine hK.out _ _ ?_ (fun hHeld => ?_)
  · ((first
  | exact HC7.out _ hb4
  | exact HC7.out _ hb3
  | exact HC7.out _ hb2
  | exact HC7.out _ hb1
  | exact HC7.out _ hd0
  | fail))
  clear hK K
  try simp only [Act.put, List.setIfInBounds_toArray, List.set_cons_zero, List.set_cons_succ, List.getElem_toArray, List.getElem_cons_zero, List.getElem_cons_succ]
  refine wpAnyH_take (i := 12) (v := ?_) rfl (by kernel_rfl) (by kernel_rfl) (by kernel_rfl) (fun _ _ _ h => h) (Or.inl ⟨by rfl, ?_⟩) (by assumption) ?_
  rotate_left
  · (intro w hSw; (try dsimp only at hSw); go_simp; try rfl)
  try simp only [Act.put, List.setIfInBounds_toArray, List.set_cons_zero, List.set_cons_succ, List.getElem_toArray, List.getElem_cons_zero, List.getElem_cons_succ]
  refine wpAnyH_take (i := 13) (v := ?_) rfl (by kernel_rfl) (by kernel_rfl) (by kernel_rfl) (fun _ _ _ h => h) (Or.inl ⟨by rfl, ?_⟩) (by assumption) ?_
  rotate_left
  · (intro w hSw; (try dsimp only at hSw); go_simp; try rfl)
  try simp only [Act.put, List.setIfInBounds_toArray, List.set_cons_zero, List.set_cons_succ, List.getElem_toArray, List.getElem_cons_zero, List.getElem_cons_succ]
  refine wpAnyH_take (i := 14) (v := ?_) rfl (by kernel_rfl) (by kernel_rfl) (by kernel_rfl) (fun _ _ _ h => h) (Or.inl ⟨by rfl, ?_⟩) (by assumption) ?_
  rotate_left
  · (intro w hSw; (try dsimp only at hSw); go_simp; try rfl)
  try simp only [Act.put, List.setIfInBounds_toArray, List.set_cons_zero, List.set_cons_succ, List.getElem_toArray, List.getElem_cons_zero, List.getElem_cons_succ]
  refine wpAnyH_take (i := 15) (v := ?_) rfl (by kernel_rfl) (by kernel_rfl) (by kernel_rfl) (fun _ _ _ h => h) (Or.inl ⟨by rfl, ?_⟩) (by assumption) ?_
  rotate_left
  · (intro w hSw; (try dsimp only at hSw); go_simp; try rfl)
  try simp only [Act.put, List.setIfInBounds_toArray, List.set_cons_zero, List.set_cons_succ, List.getElem_toArray, List.getElem_cons_zero, List.getElem_cons_succ]
  refine wpAnyH_take (i := 16) (v := ?_) rfl (by kernel_rfl) (by kernel_rfl) (by kernel_rfl) (fun _ _ _ h => h) (Or.inl ⟨by rfl, ?_⟩) (by assumption) ?_
  rotate_left
  · (intro w hSw; (try dsimp only at hSw); go_simp; try rfl)
  try simp only [Act.put, List.setIfInBounds_toArray, List.set_cons_zero, List.set_cons_succ, List.getElem_toArray, List.getElem_cons_zero, List.getElem_cons_succ]
  refine wpAnyH_take (i := 17) (v := ?_) rfl (by kernel_rfl) (by kernel_rfl) (by kernel_rfl) (fun _ _ _ h => h) (Or.inl ⟨by rfl, ?_⟩) (by assumption) ?_
  rotate_left
  · (intro w hSw; (try dsimp only at hSw); go_simp; try rfl)
  try simp only [Act.put, List.setIfInBounds_toArray, List.set_cons_zero, List.set_cons_succ, List.getElem_toArray, List.getElem_cons_zero, List.getElem_cons_succ]
  refine wpAnyH_take (i := 18) (v := ?_) rfl (by kernel_rfl) (by kernel_rfl) (by kernel_rfl) (fun _ _ _ h => h) (Or.inl ⟨by rfl, ?_⟩) (by assumption) ?_
  rotate_left
  · (intro w hSw; (try dsimp only at hSw); go_simp; try rfl)
  try simp only [Act.put, List.setIfInBounds_toArray, List.set_cons_zero, List.set_cons_succ, List.getElem_toArray, List.getElem_cons_zero, List.getElem_cons_succ]
  refine wpAnyH_take (i := 19) (v := ?_) rfl (by kernel_rfl) (by kernel_rfl) (by kernel_rfl) (fun _ _ _ h => h) (Or.inl ⟨by rfl, ?_⟩) (by assumption) ?_
  rotate_left
  · (intro w hSw; (try dsimp only at hSw); go_simp; try rfl)
  try simp only [Act.put, List.setIfInBounds_toArray, List.set_cons_zero, List.set_cons_succ, List.getElem_toArray, List.getElem_cons_zero, List.getElem_cons_succ]
  refine wpAnyH_take (i := 20) (v := ?_) rfl (by kernel_rfl) (by kernel_rfl) (by kernel_rfl) (fun _ _ _ h => h) (Or.inl ⟨by rfl, ?_⟩) (by assumption) ?_
  rotate_left
  · (intro w hSw; (try dsimp only at hSw); go_simp; try rfl)
  try simp only [Act.put, List.setIfInBounds_toArray, List.set_cons_zero, List.set_cons_succ, List.getElem_toArray, List.getElem_cons_zero, List.getElem_cons_succ]
  refine wpAnyH_take (i := 21) (v := ?_) rfl (by kernel_rfl) (by kernel_rfl) (by kernel_rfl) (fun _ _ _ h => h) (Or.inl ⟨by rfl, ?_⟩) (by assumption) ?_
  rotate_left
  · (intro w hSw; (try dsimp only at hSw); go_simp; try rfl)
  try simp only [Act.put, List.setIfInBounds_toArray, List.set_cons_zero, List.set_cons_succ, List.getElem_toArray, List.getElem_cons_zero, List.getElem_cons_succ]
  refine wpAnyH_take (i := 22) (v := ?_) rfl (by kernel_rfl) (by kernel_rfl) (by kernel_rfl) (fun _ _ _ h => h) (Or.inl ⟨by rfl, ?_⟩) (by assumption) ?_
  rotate_left
  · (intro w hSw; (try dsimp only at hSw); go_simp; try rfl)
  try simp only [Act.put, List.setIfInBounds_toArray, List.set_cons_zero, List.set_cons_succ, List.getElem_toArray, List.getElem_cons_zero, List.getElem_cons_succ]
  refine wpAnyH_take (i := 23) (v := ?_) rfl (by kernel_rfl) (by kernel_rfl) (by kernel_rfl) (fun _ _ _ h => h) (Or.inl ⟨by rfl, ?_⟩) (by assumption) ?_
  rotate_left
  · (intro w hSw; (try dsimp only at hSw); go_simp; try rfl)
  try simp only [Act.put, List.setIfInBounds_toArray, List.set_cons_zero, List.set_cons_succ, List.getElem_toArray, List.getElem_cons_zero, List.getElem_cons_succ]
  refine wpAnyH_take (i := 24) (v := ?_) rfl (by kernel_rfl) (by kernel_rfl) (by kernel_rfl) (fun _ _ _ h => h) (Or.inl ⟨by rfl, ?_⟩) (by assumption) ?_
  rotate_left
  · (intro w hSw; (try dsimp only at hSw); go_simp; try rfl)
  try simp only [Act.put, List.setIfInBounds_toArray, List.set_cons_zero, List.set_cons_succ, List.getElem_toArray, List.getElem_cons_zero, List.getElem_cons_succ]
  refine wpAnyH_ready (rs := [25]) (by kernel_rfl) (by simp) ?_
  refine (AllReadyH.cons rfl (fun K hK => ?_) AllReadyH.nil)
  go_simp
  refine hK.out _ _ ?_ (fun hHeld => ?_)
  · ((first
  | exact HC7.out _ hb4
  | exact HC7.out _ hb3
  | exact HC7.out _ hb2
  | exact HC7.out _ hb1
  | exact HC7.out _ hd0
  | fail))
  clear hK K
  try simp only [Act.put, List.setIfInBounds_toArray, List.set_cons_zero, List.set_cons_succ, List.getElem_toArray, List.getElem_cons_zero, List.getElem_cons_succ]
  refine wpAnyH_take (i := 26) (v := ?_) rfl (by kernel_rfl) (by kernel_rfl) (by kernel_rfl) (fun _ _ _ h => h) (Or.inl ⟨by rfl, ?_⟩) (by assumption) ?_
  rotate_left
  · (intro w hSw; (try dsimp only at hSw); go_simp; try rfl)
  try simp only [Act.put, List.setIfInBounds_toArray, List.set_cons_zero, List.set_cons_succ, List.getElem_toArray, List.getElem_cons_zero, List.getElem_cons_succ]
  refine wpAnyH_take (i := 27) (v := ?_) rfl (by kernel_rfl) (by kernel_rfl) (by kernel_rfl) (fun _ _ _ h => h) (Or.inl ⟨by rfl, ?_⟩) (by assumption) ?_
  rotate_left
  · (intro w hSw; (try dsimp only at hSw); go_simp; try rfl)
  try simp only [Act.put, List.setIfInBounds_toArray, List.set_cons_zero, List.set_cons_succ, List.getElem_toArray, List.getElem_cons_zero, List.getElem_cons_succ]
  refine wpAnyH_take (i := 28) (v := ?_) rfl (by kernel_rfl) (by kernel_rfl) (by kernel_rfl) (fun _ _ _ h => h) (Or.inl ⟨by rfl, ?_⟩) (by assumption) ?_
  rotate_left
  · (intro w hSw; (try dsimp only at hSw); go_simp; try rfl)
  try simp only [Act.put, List.setIfInBounds_toArray, List.set_cons_zero, List.set_cons_succ, List.getElem_toArray, List.getElem_cons_zero, List.getElem_cons_succ]
  refine wpAnyH_take (i := 29) (v := ?_) rfl (by kernel_rfl) (by kernel_rfl) (by kernel_rfl) (fun _ _ _ h => h) (Or.inl ⟨by rfl, ?_⟩) (by assumption) ?_
  rotate_left
  · (intro w hSw; (try dsimp only at hSw); go_simp; try rfl)
  try simp only [Act.put, List.setIfInBounds_toArray, List.set_cons_zero, List.set_cons_succ, List.getElem_toArray, List.getElem_cons_zero, List.getElem_cons_succ]
  refine wpAnyH_take (i := 30) (v := ?_) rfl (by kernel_rfl) (by kernel_rfl) (by kernel_rfl) (fun _ _ _ h => h) (Or.inl ⟨by rfl, ?_⟩) (by assumption) ?_
  rotate_left
  · (intro w hSw; (try dsimp only at hSw); go_simp; try rfl)
  try simp only [Act.put, List.setIfInBounds_toArray, List.set_cons_zero, List.set_cons_succ, List.getElem_toArray, List.getElem_cons_zero, List.getElem_cons_succ]
  refine wpAnyH_take (i := 31) (v := ?_) rfl (by kernel_rfl) (by kernel_rfl) (by kernel_rfl) (fun _ _ _ h => h) (Or.inl ⟨by rfl, ?_⟩) (by assumption) ?_
  rotate_left
  · (intro w hSw; (try dsimp only at hSw); go_simp; try rfl)
  try simp only [Act.put, List.setIfInBounds_toArray, List.set_cons_zero, List.set_cons_succ, List.getElem_toArray, List.getElem_cons_zero, List.getElem_cons_succ]
  refine wpAnyH_take (i := 32) (v := ?_) rfl (by kernel_rfl) (by kernel_rfl) (by kernel_rfl) (fun _ _ _ h => h) (Or.inl ⟨by rfl, ?_⟩) (by assumption) ?_
  rotate_left
  · (intro w hSw; (try dsimp only at hSw); go_simp; try rfl)
  try simp only [Act.put, List.setIfInBounds_toArray, List.set_cons_zero, List.set_cons_succ, List.getElem_toArray, List.getElem_cons_zero, List.getElem_cons_succ]
  refine wpAnyH_take (i := 33) (v := ?_) rfl (by kernel_rfl) (by kernel_rfl) (by kernel_rfl) (fun _ _ _ h => h) (Or.inl ⟨by rfl, ?_⟩) (by assumption) ?_
  rotate_left
  · (intro w hSw; (try dsimp only at hSw); go_simp; try rfl)
  try simp only [Act.put, List.setIfInBounds_toArray, List.set_cons_zero, List.set_cons_succ, List.getElem_toArray, List.getElem_cons_zero, List.getElem_cons_succ]
  refine wpAnyH_take (i := 34) (v := ?_) rfl (by kernel_rfl) (by kernel_rfl) (by kernel_rfl) (fun _ _ _ h => h) (Or.inl ⟨by rfl, ?_⟩) (by assumption) ?_
  rotate_left
  · (intro w hSw; (try dsimp only at hSw); go_simp; try rfl)
  try simp only [Act.put, List.setIfInBounds_toArray, List.set_cons_zero, List.set_cons_succ, List.getElem_toArray, List.getElem_cons_zero, List.getElem_cons_succ]
  refine wpAnyH_take (i := 35) (v := ?_) rfl (by kernel_rfl) (by kernel_rfl) (by kernel_rfl) (fun _ _ _ h => h) (Or.inl ⟨by rfl, ?_⟩) (by assumption) ?_
  rotate_left
  · (intro w hSw; (try dsimp only at hSw); go_simp; try rfl)
  try simp only [Act.put, List.setIfInBounds_toArray, List.set_cons_zero, List.set_cons_succ, List.getElem_toArray, List.getElem_cons_zero, List.getElem_cons_succ]
  refine wpAnyH_take (i := 36) (v := ?_) rfl (by kernel_rfl) (by kernel_rfl) (by kernel_rfl) (fun _ _ _ h => h) (Or.inl ⟨by rfl, ?_⟩) (by assumption) ?_
  rotate_left
  · (intro w hSw; (try dsimp only at hSw); go_simp; try rfl)
  try simp only [Act.put, List.setIfInBounds_toArray, List.set_cons_zero, List.set_cons_succ, List.getElem_toArray, List.getElem_cons_zero, List.getElem_cons_succ]
  refine wpAnyH_take (i := 37) (v := ?_) rfl (by kernel_rfl) (by kernel_rfl) (by kernel_rfl) (fun _ _ _ h => h) (Or.inl ⟨by rfl, ?_⟩) (by assumption) ?_
  rotate_left
  · (intro w hSw; (try dsimp only at hSw); go_simp; try rfl)
  try simp only [Act.put, List.setIfInBounds_toArray, List.set_cons_zero, List.set_cons_succ, List.getElem_toArray, List.getElem_cons_zero, List.getElem_cons_succ]
  refine wpAnyH_ready (rs := [38]) (by kernel_rfl) (by simp) ?_
  refine (AllReadyH.cons rfl (fun K hK => ?_) AllReadyH.nil)
  go_simp
  (go_at_call 18; refine (HRe.out _ (HYd.out.trans (hb1.mono HYd.out.size))).mono ?_; rintro e w9 ⟨M9, hM, _, v9, rfl, ho, hb⟩; rw [HWb.out] at hM; have hn9 := ex_reach rfl rfl rfl hM; obtain ⟨a9, c9, ev9⟩ := ho.slice; rw [hn9] at ev9; subst ev9; have hb2 := hb1.trans (hb.mono hb1.size); clear hb hM hn9 ho)
  refine hK.out _ _ ?_ (fun hHeld => ?_)
  · ((first
  | exact HC7.out _ hb4
  | exact HC7.out _ hb3
  | exact HC7.out _ hb2
  | exact HC7.out _ hb1
  | exact HC7.out _ hd0
  | fail))
  clear hK K
  try simp only [Act.put, List.setIfInBounds_toArray, List.set_cons_zero, List.set_cons_succ, List.getElem_toArray, List.getElem_cons_zero, List.getElem_cons_succ]
  refine wpAnyH_ready (rs := [39]) (by kernel_rfl) (by simp) ?_
  refine (AllReadyH.cons rfl (fun K hK => ?_) AllReadyH.nil)
  go_simp
  refine hK.out _ _ ?_ (fun hHeld => ?_)
  · ((first
  | exact HC7.out _ hb4
  | exact HC7.out _ hb3
  | exact HC7.out _ hb2
  | exact HC7.out _ hb1
  | exact HC7.out _ hd0
  | fail))
  clear hK K
  try simp only [Act.put, List.setIfInBounds_toArray, List.set_cons_zero, List.set_cons_succ, List.getElem_toArray, List.getElem_cons_zero, List.getElem_cons_succ]
  refine wpAnyH_take (i := 40) (v := ?_) rfl (by kernel_rfl) (by kernel_rfl) (by kernel_rfl) (fun _ _ _ h => h) (Or.inl ⟨by rfl, ?_⟩) (by assumption) ?_
  rotate_left
  · (intro w hSw; (try dsimp only at hSw); go_simp; try rfl)
  try simp only [Act.put, List.setIfInBounds_toArray, List.set_cons_zero, List.set_cons_succ, List.getElem_toArray, List.getElem_cons_zero, List.getElem_cons_succ]
  refine wpAnyH_take (i := 41) (v := ?_) rfl (by kernel_rfl) (by kernel_rfl) (by kernel_rfl) (fun _ _ _ h => h) (Or.inl ⟨by rfl, ?_⟩) (by assumption) ?_
  rotate_left
  · (intro w hSw; (try dsimp only at hSw); go_simp; try rfl)
  try simp only [Act.put, List.setIfInBounds_toArray, List.set_cons_zero, List.set_cons_succ, List.getElem_toArray, List.getElem_cons_zero, List.getElem_cons_succ]
  refine wpAnyH_take (i := 42) (v := ?_) rfl (by kernel_rfl) (by kernel_rfl) (by kernel_rfl) (fun _ _ _ h => h) (Or.inl ⟨by rfl, ?_⟩) (by assumption) ?_
  rotate_left
  · (intro w hSw; (try dsimp only at hSw); go_simp; try rfl)
  try simp only [Act.put, List.setIfInBounds_toArray, List.set_cons_zero, List.set_cons_succ, List.getElem_toArray, List.getElem_cons_zero, List.getElem_cons_succ]
  refine wpAnyH_take (i := 43) (v := ?_) rfl (by kernel_rfl) (by kernel_rfl) (by kernel_rfl) (fun _ _ _ h => h) (Or.inl ⟨by rfl, ?_⟩) (by assumption) ?_
  rotate_left
  · (intro w hSw; (try dsimp only at hSw); go_simp; try rfl)
  try simp only [Act.put, List.setIfInBounds_toArray, List.set_cons_zero, List.set_cons_succ, List.getElem_toArray, List.getElem_cons_zero, List.getElem_cons_succ]
  refine wpAnyH_ready (rs := [44]) (by kernel_rfl) (by simp) ?_
  refine (AllReadyH.cons rfl (fun K hK => ?_) AllReadyH.nil)
  go_simp
  (go_at_call 20; refine (HRy.out _ (HYd.out.trans (hb2.mono HYd.out.size))).mono ?_; rintro e w10 ⟨cur10, hri, _, v10, rfl, ho, hb⟩; rw [HWb.out] at hri; have hn10 := ex_ready rfl rfl rfl hri; obtain ⟨a10, c10, ev10⟩ := ho.slice; rw [hn10] at ev10; subst ev10; have hb3 := hb2.trans (hb.mono hb2.size); clear hb hri hn10 ho)
  refine hK.out _ _ ?_ (fun hHeld => ?_)
  · ((first
  | exact HC7.out _ hb4
  | exact HC7.out _ hb3
  | exact HC7.out _ hb2
  | exact HC7.out _ hb1
  | exact HC7.out _ hd0
  | fail))
  clear hK K
  try simp only [Act.put, List.setIfInBounds_toArray, List.set_cons_zero, List.set_cons_succ, List.getElem_toArray, List.getElem_cons_zero, List.getElem_cons_succ]
  refine wpAnyH_ready (rs := [45]) (by kernel_rfl) (by simp) ?_
  refine (AllReadyH.cons rfl (fun K hK => ?_) AllReadyH.nil)
  go_simp
  refine hK.out _ _ ?_ (fun hHeld => ?_)
  · ((first
  | exact HC7.out _ hb4
  | exact HC7.out _ hb3
  | exact HC7.out _ hb2
  | exact HC7.out _ hb1
  | exact HC7.out _ hd0
  | fail))
  clear hK K
  try simp only [Act.put, List.setIfInBounds_toArray, List.set_cons_zero, List.set_cons_succ, List.getElem_toArray, List.getElem_cons_zero, List.getElem_cons_succ]
  refine wpAnyH_take (i := 46) (v := ?_) rfl (by kernel_rfl) (by kernel_rfl) (by kernel_rfl) (fun _ _ _ h => h) (Or.inl ⟨by rfl, ?_⟩) (by assumption) ?_
  rotate_left
  · (intro w hSw; (try dsimp only at hSw); go_simp; try rfl)
  try simp only [Act.put, List.setIfInBounds_toArray, List.set_cons_zero, List.set_cons_succ, List.getElem_toArray, List.getElem_cons_zero, List.getElem_cons_succ]
  refine wpAnyH_take (i := 47) (v := ?_) rfl (by kernel_rfl) (by kernel_rfl) (by kernel_rfl) (fun _ _ _ h => h) (Or.inl ⟨by rfl, ?_⟩) (by assumption) ?_
  rotate_left
  · (intro w hSw; (try dsimp only at hSw); go_simp; try rfl)
  try simp only [Act.put, List.setIfInBounds_toArray, List.set_cons_zero, List.set_cons_succ, List.getElem_toArray, List.getElem_cons_zero, List.getElem_cons_succ]
  refine wpAnyH_take (i := 48) (v := ?_) rfl (by kernel_rfl) (by kernel_rfl) (by kernel_rfl) (fun _ _ _ h => h) (Or.inl ⟨by rfl, ?_⟩) (by assumption) ?_
  rotate_left
  · (intro w hSw; (try dsimp only at hSw); go_simp; try rfl)
  try simp only [Act.put, List.setIfInBounds_toArray, List.set_cons_zero, List.set_cons_succ, List.getElem_toArray, List.getElem_cons_zero, List.getElem_cons_succ]
  refine wpAnyH_take (i := 49) (v := ?_) rfl (by kernel_rfl) (by kernel_rfl) (by kernel_rfl) (fun _ _ _ h => h) (Or.inl ⟨by rfl, ?_⟩) (by assumption) ?_
  rotate_left
  · (intro w hSw; (try dsimp only at hSw); go_simp; try rfl)
  try simp only [Act.put, List.setIfInBounds_toArray, List.set_cons_zero, List.set_cons_succ, List.getElem_toArray, List.getElem_cons_zero, List.getElem_cons_succ]
  refine wpAnyH_take (i := 50) (v := ?_) rfl (by kernel_rfl) (by kernel_rfl) (by kernel_rfl) (fun _ _ _ h => h) (Or.inl ⟨by rfl, ?_⟩) (by assumption) ?_
  rotate_left
  · (intro w hSw; (try dsimp only at hSw); go_simp; try rfl)
  try simp only [Act.put, List.setIfInBounds_toArray, List.set_cons_zero, List.set_cons_succ, List.getElem_toArray, List.getElem_cons_zero, List.getElem_cons_succ]
  refine wpAnyH_ready (rs := [51]) (by kernel_rfl) (by simp) ?_
  refine (AllReadyH.cons rfl (fun K hK => ?_) AllReadyH.nil)
  go_simp
  (go_at_call 20; refine (HR1.out _ (HYd.out.trans (hb3.mono HYd.out.size))).mono ?_; rintro e w11 ⟨cur11, hri, _, v11, rfl, ho, hb⟩; rw [HWb1.out] at hri; have hn11 := ex_one rfl hri; obtain ⟨a11, c11, ev11⟩ := ho.slice; rw [hn11] at ev11; subst ev11; have hb4 := hb3.trans (hb.mono hb3.size); clear hb hri hn11 ho)
  refine hK.out _ _ ?_ (fun hHeld => ?_)
  · ((first
  | exact HC7.out _ hb4
  | exact HC7.out _ hb3
  | exact HC7.out _ hb2
  | exact HC7.out _ hb1
  | exact HC7.out _ hd0
  | fail))
  clear hK K
  try simp only [Act.put, List.setIfInBounds_toArray, List.set_cons_zero, List.set_cons_succ, List.getElem_toArray, List.getElem_cons_zero, List.getElem_cons_succ]
  refine wpAnyH_ready (rs := [52]) (by kernel_rfl) (by simp) ?_
  refine (AllReadyH.cons rfl (fun K hK => ?_) AllReadyH.nil)
  go_simp
  refine hK.out _ _ ?_ (fun hHeld => ?_)
  · ((first
  | exact HC7.out _ hb4
  | exact HC7.out _ hb3
  | exact HC7.out _ hb2
  | exact HC7.out _ hb1
  | exact HC7.out _ hd0
  | fail))
  clear hK K
  try simp only [Act.put, List.setIfInBounds_toArray, List.set_cons_zero, List.set_cons_succ, List.getElem_toArray, List.getElem_cons_zero, List.getElem_cons_succ]
  refine wpAnyH_take (i := 53) (v := ?_) rfl (by kernel_rfl) (by kernel_rfl) (by kernel_rfl) (fun _ _ _ h => h) (Or.inl ⟨by rfl, ?_⟩) (by assumption) ?_
  rotate_left
  · (intro w hSw; (try dsimp only at hSw); go_simp; try rfl)
  try simp only [Act.put, List.setIfInBounds_toArray, List.set_cons_zero, List.set_cons_succ, List.getElem_toArray, List.getElem_cons_zero, List.getElem_cons_succ]
  refine wpAnyH_take (i := 54) (v := ?_) rfl (by kernel_rfl) (by kernel_rfl) (by kernel_rfl) (fun _ _ _ h => h) (Or.inl ⟨by rfl, ?_⟩) (by assumption) ?_
  rotate_left
  · (intro w hSw; (try dsimp only at hSw); go_simp; try rfl)
  try simp only [Act.put, List.setIfInBounds_toArray, List.set_cons_zero, List.set_cons_succ, List.getElem_toArray, List.getElem_cons_zero, List.getElem_cons_succ]
  refine wpAnyH_take (i := 55) (v := ?_) rfl (by kernel_rfl) (by kernel_rfl) (by kernel_rfl) (fun _ _ _ h => h) (Or.inl ⟨by rfl, ?_⟩) (by assumption) ?_
  rotate_left
  · (intro w hSw; (try dsimp only at hSw); go_simp; try rfl)
  try simp only [Act.put, List.setIfInBounds_toArray, List.set_cons_zero, List.set_cons_succ, List.getElem_toArray, List.getElem_cons_zero, List.getElem_cons_succ]
  refine wpAnyH_done (by kernel_rfl) ?_ _
  have HBf := Lib.hid (HB2.out.trans (hb4.mono HB2.out.size))
  clear HC7 hb1 hb2 hb3 hb4 hd0
  go_wp2
  go_ret
  exact ⟨rfl, HBf.out⟩
end Go.Proofs.Ytlckjpjcfalfnaa
