/-
  The walk of AttrLinks.
-/
import Derived.Test.YtfngjdcagopapaaAtA
namespace Go.Proofs.Ytfngjdcagopapaa
open Tc (ML)
open Go.RowKit
set_option linter.unusedSimpArgs false
set_option linter.unusedVariables false
set_option maxRecDepth 100000

theorem rowIs_lit2 {P : Program} {k : Nat} {K : Knd P (Cls k)} (hE : K.enc = Cls.cs) {α : Type} {S : Shp α} (w : World) (cs : List Value) (x : α) (hk : cs.length = k) (hs : S.is w cs x) (T : TypeId) (c : Nat) (g : Nat) (hg : w.heap.size = g) :
    ∃ r : Cls k, r.cs = cs ∧ RowIs K S (w.alloc (.cells cs.toArray T)) (.slice (some ⟨g, 0, none⟩) 1 c) [r] [x] := by
  refine ⟨⟨cs, hk, S.one hs⟩, rfl, ?_, rfl, fun j h1 h2 => ?_⟩
  · have e : K.row [(⟨cs, hk, S.one hs⟩ : Cls k)] = cs := by unfold Knd.row; rw [hE]; simp
    have := K.rd_lit [(⟨cs, hk, S.one hs⟩ : Cls k)] T 1 c rfl (by simp [maxLen]) w g hg
    rwa [e] at this
  · obtain rfl : j = 0 := by simp at h1; omega
    exact S.keep hs ((Below.refl _ _).alloc (Nat.le_refl _) _)
theorem mxS_ge (l : List Int) (x : Int) (h : x ∈ l) : x ≤ mxS l := by
  unfold mxS
  have key : ∀ (l : List Int) (a : Int), a ≤ l.foldl max a ∧ ∀ x ∈ l, x ≤ l.foldl max a := by
    intro l
    induction l with
    | nil => intro a; exact ⟨Int.le_refl _, fun x hx => by cases hx⟩
    | cons y l ih =>
      intro a
      have h1 := ih (max a y)
      refine ⟨by simp only [List.foldl_cons]; omega, fun x hx => ?_⟩
      rcases List.mem_cons.1 hx with rfl | q
      · simp only [List.foldl_cons]; omega
      · exact h1.2 x q
  exact (key l 0).2 x h
theorem lcl_sees (l : List Kn) (k : Kn) (id : I3) (c : CM) (h : matK id c k = true) (hk : k ∈ l) : hasI (lclA l id c).2 k.id = true ∧ k.a.1 < (lclA l id c).1 := by
  have hm : k ∈ l.filter (matK id c) := List.mem_filter.2 ⟨hk, h⟩
  refine ⟨?_, ?_⟩
  · rw [hasI_iff]
    unfold lclA
    simp only [mem_clnI]
    exact List.mem_map.2 ⟨k, hm, rfl⟩
  · have := mxS_ge _ _ (List.mem_map.2 ⟨k, hm, rfl⟩ : k.a.1 ∈ (l.filter (matK id c)).map (·.a.1))
    unfold lclA
    simp only
    omega
theorem lcl_skips (l : List Kn) (k : Kn) (id : I3) (c : CM) (h : matK id c k = false) : lclA (l ++ [k]) id c = lclA l id c := by
  unfold lclA
  rw [List.filter_append]
  simp [h]
theorem lcl_len (l : List Kn) (id : I3) (c : CM) : (lclA l id c).2.length ≤ l.length := by
  unfold lclA
  simp only
  have h1 := len_clnI ((l.filter (matK id c)).map (·.id))
  rw [List.length_map] at h1
  exact Nat.le_trans h1 (List.length_filter_le _ _)
theorem lcl_ok (l : List Kn) (id : I3) (c : CM) (h : ∀ k ∈ l, okI k.id) : okL (lclA l id c).2 := by
  unfold lclA
  refine okL_cln fun x hx => ?_
  obtain ⟨y, hy, rfl⟩ := List.mem_map.1 hx
  exact h y (List.mem_filter.1 hy).1
theorem rowIs_ok {w : World} {v : Value} {rs : List (Cls 13)} {l : List Kn} (h : RowIs KnK knS w v rs l) : ∀ k ∈ l, okI k.id := fun x hx => by
  obtain ⟨j, hj, rfl⟩ := List.mem_iff_getElem.1 hx
  obtain ⟨_, _, h0, _⟩ := h.at' j (by rw [h.len]; exact hj) hj
  exact h0
set_option maxHeartbeats 16000000 in
theorem links_law (v0 : Value) (rs : List (Cls 13)) (l : List Kn) (k : Kn) (u : Value) (id : I3) (c : CM) (w : World) (hm : ML w) (h : RowIs KnK knS w v0 rs l) (hi : okI k.id) (hu : IK.Rd w u k.a.2) (hou : okL k.a.2) (hid : okI id) :
    Calls Try.prog 4 #[v0, knV k u, .agg #[.int .i64 id.1, .int .i64 id.2.1, .int .i64 id.2.2], cmV c] w fun e w' => e = .returned (.bool true) ∧ Below w.heap.size w w' := by
  obtain ⟨a0, c0, e0⟩ := h.rd.slice
  have hmx := h.rd.len
  subst e0
  obtain ⟨N, hN⟩ : ∃ N, rs.length = N := ⟨_, rfl⟩
  rw [hN] at h hmx ⊢
  have HN := Lib.hid hN
  have HLN : Hid (l.length = N) := Lib.hid (by rw [← h.len]; exact hN)
  have H := Lib.hid h
  have HM := Lib.hid hm
  have hnm : (N : Int) ≤ 9223372036854775807 := by unfold maxLen at hmx; omega
  obtain ⟨⟨x1, x2, x3⟩, ⟨d1, d2, d3, d4, d5, d6, d7, d8⟩, s2, lx⟩ := k
  obtain ⟨i1, i2, i3⟩ := id
  obtain ⟨c1, c2, c3, c4, c5, c6, c7, c8⟩ := c
  simp only [knV, cmV] at hu hou hi ⊢
  obtain ⟨av, cv, eu⟩ := hu.slice
  have hmxv := hu.len
  obtain ⟨nv, hnv⟩ : ∃ n, lx.length = n := ⟨_, rfl⟩
  rw [hnv] at eu hmxv
  subst eu
  have HNV := Lib.hid hnv
  have HU := Lib.hid hu
  have hnmv : (nv : Int) ≤ 9223372036854775807 := by unfold maxLen at hmxv; omega
  have HBo := Lib.hid (al3 w (.cells #[.int .i64 x1, .int .i64 x2, .int .i64 x3, .int .i64 d1, .int .i64 d2, .int .i64 d3, .string d4, .string d5, .int .i64 d6, .int .i64 d7, .int .i64 d8, .int .i64 s2, .slice av nv cv] 40) (.cells #[.int .i64 i1, .int .i64 i2, .int .i64 i3] 26) (.cells #[.int .i64 c1, .int .i64 c2, .int .i64 c3, .string c4, .string c5, .int .i64 c6, .int .i64 c7, .int .i64 c8] 38))
  have HW := Lib.hid (works_any _ (hm.below HBo.out))
  have HBX : Hid (Bk (((w.alloc (.cells #[.int .i64 x1, .int .i64 x2, .int .i64 x3, .int .i64 d1, .int .i64 d2, .int .i64 d3, .string d4, .string d5, .int .i64 d6, .int .i64 d7, .int .i64 d8, .int .i64 s2, .slice av nv cv] 40)).alloc (.cells #[.int .i64 i1, .int .i64 i2, .int .i64 i3] 26)).alloc (.cells #[.int .i64 c1, .int .i64 c2, .int .i64 c3, .string c4, .string c5, .int .i64 c6, .int .i64 c7, .int .i64 c8] 38)) w.heap.size 40 [.int .i64 x1, .int .i64 x2, .int .i64 x3, .int .i64 d1, .int .i64 d2, .int .i64 d3, .string d4, .string d5, .int .i64 d6, .int .i64 d7, .int .i64 d8, .int .i64 s2, .slice av nv cv]) := Lib.hid (((Bk.newAt rfl _ _).old _).old _)
  have HBI : Hid (Bk (((w.alloc (.cells #[.int .i64 x1, .int .i64 x2, .int .i64 x3, .int .i64 d1, .int .i64 d2, .int .i64 d3, .string d4, .string d5, .int .i64 d6, .int .i64 d7, .int .i64 d8, .int .i64 s2, .slice av nv cv] 40)).alloc (.cells #[.int .i64 i1, .int .i64 i2, .int .i64 i3] 26)).alloc (.cells #[.int .i64 c1, .int .i64 c2, .int .i64 c3, .string c4, .string c5, .int .i64 c6, .int .i64 c7, .int .i64 c8] 38)) (w.heap.size + 1) 26 [.int .i64 i1, .int .i64 i2, .int .i64 i3]) := Lib.hid ((Bk.newAt (by simp) _ _).old _)
  have HBC : Hid (Bk (((w.alloc (.cells #[.int .i64 x1, .int .i64 x2, .int .i64 x3, .int .i64 d1, .int .i64 d2, .int .i64 d3, .string d4, .string d5, .int .i64 d6, .int .i64 d7, .int .i64 d8, .int .i64 s2, .slice av nv cv] 40)).alloc (.cells #[.int .i64 i1, .int .i64 i2, .int .i64 i3] 26)).alloc (.cells #[.int .i64 c1, .int .i64 c2, .int .i64 c3, .string c4, .string c5, .int .i64 c6, .int .i64 c7, .int .i64 c8] 38)) (w.heap.size + 1 + 1) 38 [.int .i64 c1, .int .i64 c2, .int .i64 c3, .string c4, .string c5, .int .i64 c6, .int .i64 c7, .int .i64 c8]) := Lib.hid (Bk.newAt (by simp) _ _)
  clear h hN hm hu hnv hmx hmxv
  go_enter Try.func4, Try.ntmps4
  go_wp2_with fail
  refine HW.out.mono ?_
  rintro e w1 ⟨rfl, hb⟩
  replace HBX := Lib.hid (HBX.out.below hb)
  replace HBI := Lib.hid (HBI.out.below hb)
  replace HBC := Lib.hid (HBC.out.below hb)
  have HB1 := Lib.hid (HBo.out.trans (hb.mono (by simp; omega)))
  clear hb HBo HW
  have bX := HBX.out
  have yX0 := bX.cell 0
  have yX1 := bX.cell 1
  have yX2 := bX.cell 2
  have yX3 := bX.cell 3
  have yX4 := bX.cell 4
  have yX5 := bX.cell 5
  have yX6 := bX.cell 6
  have yX7 := bX.cell 7
  have yX8 := bX.cell 8
  have yX9 := bX.cell 9
  have yX10 := bX.cell 10
  have yX11 := bX.cell 11
  have yX12 := bX.cell 12
  have bI := HBI.out
  have yI0 := bI.cell 0
  have yI1 := bI.cell 1
  have yI2 := bI.cell 2
  have bC := HBC.out
  have yC0 := bC.cell 0
  have yC1 := bC.cell 1
  have yC2 := bC.cell 2
  have yC3 := bC.cell 3
  have yC4 := bC.cell 4
  have yC5 := bC.cell 5
  have yC6 := bC.cell 6
  have yC7 := bC.cell 7
  simp only [List.getElem?_cons_zero, List.getElem?_cons_succ] at yX0 yX1 yX2 yX3 yX4 yX5 yX6 yX7 yX8 yX9 yX10 yX11 yX12 yI0 yI1 yI2 yC0 yC1 yC2 yC3 yC4 yC5 yC6 yC7
  have zX := bX.lt
  have zI := bI.lt
  have zC := bC.lt
  clear bX bI bC
  go_wp2_with fail
  refine (few_any _ rs l w1 (H.out.on HB1.out)).mono ?_
  rintro e w2 ⟨R1, he, hR1, hb⟩
  have he := he.out
  subst he
  have HR1 := Lib.hid hR1
  replace HBX := Lib.hid (HBX.out.below hb)
  replace HBI := Lib.hid (HBI.out.below hb)
  replace HBC := Lib.hid (HBC.out.below hb)
  have HB2 := Lib.hid (below_self2 HB1.out hb)
  clear yX0 yX1 yX2 yX3 yX4 yX5 yX6 yX7 yX8 yX9 yX10 yX11 yX12 yI0 yI1 yI2 yC0 yC1 yC2 yC3 yC4 yC5 yC6 yC7 zX zI zC hb HB1 hR1
  have bX := HBX.out
  have yX0 := bX.cell 0
  have yX1 := bX.cell 1
  have yX2 := bX.cell 2
  have yX3 := bX.cell 3
  have yX4 := bX.cell 4
  have yX5 := bX.cell 5
  have yX6 := bX.cell 6
  have yX7 := bX.cell 7
  have yX8 := bX.cell 8
  have yX9 := bX.cell 9
  have yX10 := bX.cell 10
  have yX11 := bX.cell 11
  have yX12 := bX.cell 12
  have bI := HBI.out
  have yI0 := bI.cell 0
  have yI1 := bI.cell 1
  have yI2 := bI.cell 2
  have bC := HBC.out
  have yC0 := bC.cell 0
  have yC1 := bC.cell 1
  have yC2 := bC.cell 2
  have yC3 := bC.cell 3
  have yC4 := bC.cell 4
  have yC5 := bC.cell 5
  have yC6 := bC.cell 6
  have yC7 := bC.cell 7
  simp only [List.getElem?_cons_zero, List.getElem?_cons_succ] at yX0 yX1 yX2 yX3 yX4 yX5 yX6 yX7 yX8 yX9 yX10 yX11 yX12 yI0 yI1 yI2 yC0 yC1 yC2 yC3 yC4 yC5 yC6 yC7
  have zX := bX.lt
  have zI := bI.lt
  have zC := bC.lt
  clear bX bI bC
  cases R1 with
  | false =>
    go_wp2
    go_ret
    exact ⟨rfl, HB2.out⟩
  | true =>
  go_wp2_with fail
  obtain ⟨rx, hrx⟩ := rowIs_lit (K := KnK) (S := knS) rfl w2 [[.int .i64 x1, .int .i64 x2, .int .i64 x3, .int .i64 d1, .int .i64 d2, .int .i64 d3, .string d4, .string d5, .int .i64 d6, .int .i64 d7, .int .i64 d8, .int .i64 s2, .slice av nv cv]] [(⟨(x1, x2, x3), ⟨d1, d2, d3, d4, d5, d6, d7, d8⟩, s2, lx⟩ : Kn)] rfl (by simp) (fun j q1 q2 => by
      obtain rfl : j = 0 := by simp at q2; omega
      exact ⟨.slice av nv cv, rfl, hi, HU.out.below HB2.out, hou⟩) 40 1 1 rfl (by simp [maxLen]) _ rfl
  refine (few_any _ rx [(⟨(x1, x2, x3), ⟨d1, d2, d3, d4, d5, d6, d7, d8⟩, s2, lx⟩ : Kn)] _ hrx).mono ?_
  rintro e w3 ⟨R2, he, hR2, hb⟩
  have he := he.out
  subst he
  have HR2 := Lib.hid hR2
  have hbx : Below w2.heap.size w2 w3 := (al1 _ _).trans (hb.mono (by simp))
  replace HBX := Lib.hid (HBX.out.below hbx)
  replace HBI := Lib.hid (HBI.out.below hbx)
  replace HBC := Lib.hid (HBC.out.below hbx)
  have HB3 := Lib.hid (below_self2 HB2.out hbx)
  clear yX0 yX1 yX2 yX3 yX4 yX5 yX6 yX7 yX8 yX9 yX10 yX11 yX12 yI0 yI1 yI2 yC0 yC1 yC2 yC3 yC4 yC5 yC6 yC7 zX zI zC hb hbx HB2 hR2 hrx
  have bX := HBX.out
  have yX0 := bX.cell 0
  have yX1 := bX.cell 1
  have yX2 := bX.cell 2
  have yX3 := bX.cell 3
  have yX4 := bX.cell 4
  have yX5 := bX.cell 5
  have yX6 := bX.cell 6
  have yX7 := bX.cell 7
  have yX8 := bX.cell 8
  have yX9 := bX.cell 9
  have yX10 := bX.cell 10
  have yX11 := bX.cell 11
  have yX12 := bX.cell 12
  have bI := HBI.out
  have yI0 := bI.cell 0
  have yI1 := bI.cell 1
  have yI2 := bI.cell 2
  have bC := HBC.out
  have yC0 := bC.cell 0
  have yC1 := bC.cell 1
  have yC2 := bC.cell 2
  have yC3 := bC.cell 3
  have yC4 := bC.cell 4
  have yC5 := bC.cell 5
  have yC6 := bC.cell 6
  have yC7 := bC.cell 7
  simp only [List.getElem?_cons_zero, List.getElem?_cons_succ] at yX0 yX1 yX2 yX3 yX4 yX5 yX6 yX7 yX8 yX9 yX10 yX11 yX12 yI0 yI1 yI2 yC0 yC1 yC2 yC3 yC4 yC5 yC6 yC7
  have zX := bX.lt
  have zI := bI.lt
  have zC := bC.lt
  clear bX bI bC
  cases R2 with
  | false =>
    go_wp2
    go_ret
    exact ⟨rfl, HB3.out⟩
  | true =>
  obtain ⟨Ro, hRo⟩ : ∃ R, ovr1 c4 c5 = R := ⟨_, rfl⟩
  have HRo := Lib.hid hRo
  go_wp2_with fail
  have B1 := Bk.newAt (w := w3) rfl 38 [.int .i64 c1, .int .i64 c2, .int .i64 c3, .string c4, .string c5, .int .i64 c6, .int .i64 c7, .int .i64 c8]
  have hov := over1_any w3.heap.size c4 c5 (w3.alloc (.cells #[.int .i64 c1, .int .i64 c2, .int .i64 c3, .string c4, .string c5, .int .i64 c6, .int .i64 c7, .int .i64 c8] 38)) (B1.cell 3) (B1.cell 4)
  rw [hRo] at hov
  refine hov.mono ?_
  clear hov B1 hRo
  rintro e w4 ⟨rfl, hw4⟩
  have HX4 : Hid (Below w3.heap.size w3 w4) := Lib.hid (by rw [← hw4]; exact al1 _ _)
  clear hw4
  replace HBX := Lib.hid (HBX.out.below HX4.out)
  replace HBI := Lib.hid (HBI.out.below HX4.out)
  replace HBC := Lib.hid (HBC.out.below HX4.out)
  have HB4 := Lib.hid (below_self2 HB3.out HX4.out)
  clear yX0 yX1 yX2 yX3 yX4 yX5 yX6 yX7 yX8 yX9 yX10 yX11 yX12 yI0 yI1 yI2 yC0 yC1 yC2 yC3 yC4 yC5 yC6 yC7 zX zI zC HX4 HB3
  have bX := HBX.out
  have yX0 := bX.cell 0
  have yX1 := bX.cell 1
  have yX2 := bX.cell 2
  have yX3 := bX.cell 3
  have yX4 := bX.cell 4
  have yX5 := bX.cell 5
  have yX6 := bX.cell 6
  have yX7 := bX.cell 7
  have yX8 := bX.cell 8
  have yX9 := bX.cell 9
  have yX10 := bX.cell 10
  have yX11 := bX.cell 11
  have yX12 := bX.cell 12
  have bI := HBI.out
  have yI0 := bI.cell 0
  have yI1 := bI.cell 1
  have yI2 := bI.cell 2
  have bC := HBC.out
  have yC0 := bC.cell 0
  have yC1 := bC.cell 1
  have yC2 := bC.cell 2
  have yC3 := bC.cell 3
  have yC4 := bC.cell 4
  have yC5 := bC.cell 5
  have yC6 := bC.cell 6
  have yC7 := bC.cell 7
  simp only [List.getElem?_cons_zero, List.getElem?_cons_succ] at yX0 yX1 yX2 yX3 yX4 yX5 yX6 yX7 yX8 yX9 yX10 yX11 yX12 yI0 yI1 yI2 yC0 yC1 yC2 yC3 yC4 yC5 yC6 yC7
  have zX := bX.lt
  have zI := bI.lt
  have zC := bC.lt
  clear bX bI bC
  cases Ro with
  | true =>
    go_wp2
    go_ret
    exact ⟨rfl, HB4.out⟩
  | false =>
  by_cases y1 : s2 < 0
  · have f1 : decide (s2 < 0) = true := decide_eq_true y1
    go_wp2
    go_ret
    exact ⟨rfl, HB4.out⟩
  have f1 : decide (s2 < 0) = false := decide_eq_false y1
  obtain ⟨he, hgd⟩ := eqI_run x1 x2 x3 i1 i2 i3
  cases hD1 : decide (((x1, x2, x3) : I3) = (i1, i2, i3)) with
  | true =>
    rw [hD1] at he
    go_wp2
    go_ret
    exact ⟨rfl, HB4.out⟩
  | false =>
  rw [hD1] at he
  have HD1 := Lib.hid hD1
  clear hD1
  cases g1 : (x1 == i1) with
  | false =>
    have g2 : (x1 != i1) = true := by simpa using g1
    go_wp2
    go_ret
    exact ⟨rfl, HB4.out⟩
  | true =>
  have g2 : (x1 != i1) = false := by simp at g1; simp [g1]
  have HG1 := Lib.hid g1
  have HF1 := Lib.hid (HR1.out (by first | rfl | trivial))
  have HF2 := Lib.hid (HR2.out (by first | rfl | trivial))
  have HNl : Hid (N ≤ 40) := Lib.hid (by rw [← HLN.out]; exact HF1.out.1)
  have HPc : Hid (c4.size ≤ 300) := Lib.hid (by have h := HRo.out; unfold ovr1 at h; simp at h; omega)
  clear HR1 HR2 HRo
  have HOn := Lib.hid (Knd.Own.nil (K := KnK) w4 w4.heap.size)
  have HRl := Lib.hid ((H.out.on HB4.out).rd)
  have hz44 : w4.heap.size ≤ w4.heap.size := Nat.le_refl _
  go_wp2_with (at_builtin; go_must (refine KnK.app rfl _ _ rfl w4.heap.size (.slice none 0 0) [] rfl HOn.out (.slice a0 N c0) rs rfl HRl.out (by have := HNl.out; have := HN.out; simp only [List.length_nil]; omega) hz44 ?_))
  intro v5 w5 ho hb hg _
  obtain ⟨a5, cc5, hv5⟩ := ho.slice
  try rw [List.nil_append] at ho
  try rw [List.nil_append] at hv5
  rw [HN.out] at hv5
  subst hv5
  have HO5 := Lib.hid ho
  have HK4X := HBX
  have HK4I := HBI
  have HK4C := HBC
  replace HBX := Lib.hid (HBX.out.below hb)
  replace HBI := Lib.hid (HBI.out.below hb)
  replace HBC := Lib.hid (HBC.out.below hb)
  have HX5 := Lib.hid hb
  have HB5 := Lib.hid (below_self2 HB4.out hb)
  clear yX0 yX1 yX2 yX3 yX4 yX5 yX6 yX7 yX8 yX9 yX10 yX11 yX12 yI0 yI1 yI2 yC0 yC1 yC2 yC3 yC4 yC5 yC6 yC7 zX zI zC ho hb hg HOn HRl
  have bX := HBX.out
  have yX0 := bX.cell 0
  have yX1 := bX.cell 1
  have yX2 := bX.cell 2
  have yX3 := bX.cell 3
  have yX4 := bX.cell 4
  have yX5 := bX.cell 5
  have yX6 := bX.cell 6
  have yX7 := bX.cell 7
  have yX8 := bX.cell 8
  have yX9 := bX.cell 9
  have yX10 := bX.cell 10
  have yX11 := bX.cell 11
  have yX12 := bX.cell 12
  have bI := HBI.out
  have yI0 := bI.cell 0
  have yI1 := bI.cell 1
  have yI2 := bI.cell 2
  have bC := HBC.out
  have yC0 := bC.cell 0
  have yC1 := bC.cell 1
  have yC2 := bC.cell 2
  have yC3 := bC.cell 3
  have yC4 := bC.cell 4
  have yC5 := bC.cell 5
  have yC6 := bC.cell 6
  have yC7 := bC.cell 7
  simp only [List.getElem?_cons_zero, List.getElem?_cons_succ] at yX0 yX1 yX2 yX3 yX4 yX5 yX6 yX7 yX8 yX9 yX10 yX11 yX12 yI0 yI1 yI2 yC0 yC1 yC2 yC3 yC4 yC5 yC6 yC7
  have zX := bX.lt
  have zI := bI.lt
  have zC := bC.lt
  clear bX bI bC
  have HO5b := Lib.hid (HO5.out.below (al1 w5 (.cells #[.int .i64 x1, .int .i64 x2, .int .i64 x3, .int .i64 d1, .int .i64 d2, .int .i64 d3, .string d4, .string d5, .int .i64 d6, .int .i64 d7, .int .i64 d8, .int .i64 s2, .slice av nv cv] 40)))
  obtain ⟨r1, hr1, hrx⟩ := rowIs_lit2 (K := KnK) (S := knS) rfl w5 [.int .i64 x1, .int .i64 x2, .int .i64 x3, .int .i64 d1, .int .i64 d2, .int .i64 d3, .string d4, .string d5, .int .i64 d6, .int .i64 d7, .int .i64 d8, .int .i64 s2, .slice av nv cv] (⟨(x1, x2, x3), ⟨d1, d2, d3, d4, d5, d6, d7, d8⟩, s2, lx⟩ : Kn) rfl ⟨.slice av nv cv, rfl, hi, HU.out.below HB5.out, hou⟩ 40 1 _ rfl
  have HR1c := Lib.hid hr1
  clear hr1
  have HRX := Lib.hid hrx
  have hz5 : w4.heap.size ≤ (w5.alloc (.cells #[.int .i64 x1, .int .i64 x2, .int .i64 x3, .int .i64 d1, .int .i64 d2, .int .i64 d3, .string d4, .string d5, .int .i64 d6, .int .i64 d7, .int .i64 d8, .int .i64 s2, .slice av nv cv] 40)).heap.size := by have := HX5.out.size; simp; omega
  clear hrx
  go_wp2_with (at_builtin; go_must (refine KnK.app rfl _ _ rfl w4.heap.size (.slice a5 N cc5) rs rfl HO5b.out (.slice (some ⟨w5.heap.size, 0, none⟩) 1 1) [r1] rfl HRX.out.rd (by have := HNl.out; have := HN.out; simp only [List.length_cons, List.length_nil]; omega) hz5 ?_))
  intro v6 w6 ho hb hg _
  obtain ⟨a6, cc6, hv6⟩ := ho.slice
  have hl6 : (rs ++ [r1]).length = N + 1 := by rw [List.length_append, HN.out]; rfl
  rw [hl6] at hv6
  subst hv6
  have hX6 : Below w5.heap.size w5 (w5.alloc (.cells #[.int .i64 x1, .int .i64 x2, .int .i64 x3, .int .i64 d1, .int .i64 d2, .int .i64 d3, .string d4, .string d5, .int .i64 d6, .int .i64 d7, .int .i64 d8, .int .i64 s2, .slice av nv cv] 40)) := al1 _ _
  have hb46 : Below w4.heap.size w4 w6 := (HX5.out.trans (hX6.mono HX5.out.size)).trans hb
  have HRW : Hid (RowIs KnK knS w6 (.slice a6 (N + 1) cc6) (rs ++ [r1]) (l ++ [(⟨(x1, x2, x3), ⟨d1, d2, d3, d4, d5, d6, d7, d8⟩, s2, lx⟩ : Kn)])) := Lib.hid ⟨ho.rd, by rw [hl6, List.length_append, HLN.out]; rfl, fun j q1 q2 => by
    by_cases hj : j < rs.length
    · have hjl : j < l.length := by rw [HLN.out, ← HN.out]; exact hj
      have e1 : (rs ++ [r1])[j] = rs[j] := List.getElem_append_left hj
      have e2 : (l ++ [(⟨(x1, x2, x3), ⟨d1, d2, d3, d4, d5, d6, d7, d8⟩, s2, lx⟩ : Kn)])[j] = l[j] := List.getElem_append_left hjl
      rw [e1, e2]
      exact knS.keep (H.out.at' j hj hjl) (below_self2 HB4.out hb46)
    · have hj2 : j = N := by rw [HN.out] at hj; rw [hl6] at q1; omega
      subst hj2
      have e1 : (rs ++ [r1])[j] = r1 := by rw [List.getElem_append_right (by omega)]; simp [HN.out]
      have e2 : (l ++ [(⟨(x1, x2, x3), ⟨d1, d2, d3, d4, d5, d6, d7, d8⟩, s2, lx⟩ : Kn)])[j] = (⟨(x1, x2, x3), ⟨d1, d2, d3, d4, d5, d6, d7, d8⟩, s2, lx⟩ : Kn) := by rw [List.getElem_append_right (by rw [HLN.out]; omega)]; simp [HLN.out]
      rw [e1, e2]
      exact ⟨.slice av nv cv, HR1c.out, hi, HU.out.below (below_self2 HB4.out hb46), hou⟩⟩
  replace HBX := Lib.hid (HK4X.out.below hb46)
  replace HBI := Lib.hid (HK4I.out.below hb46)
  replace HBC := Lib.hid (HK4C.out.below hb46)
  clear HK4X HK4I HK4C
  have HB6 := Lib.hid (below_self2 HB4.out hb46)
  clear yX0 yX1 yX2 yX3 yX4 yX5 yX6 yX7 yX8 yX9 yX10 yX11 yX12 yI0 yI1 yI2 yC0 yC1 yC2 yC3 yC4 yC5 yC6 yC7 zX zI zC ho hb hg HO5 HO5b HRX
  have bX := HBX.out
  have yX0 := bX.cell 0
  have yX1 := bX.cell 1
  have yX2 := bX.cell 2
  have yX3 := bX.cell 3
  have yX4 := bX.cell 4
  have yX5 := bX.cell 5
  have yX6 := bX.cell 6
  have yX7 := bX.cell 7
  have yX8 := bX.cell 8
  have yX9 := bX.cell 9
  have yX10 := bX.cell 10
  have yX11 := bX.cell 11
  have yX12 := bX.cell 12
  have bI := HBI.out
  have yI0 := bI.cell 0
  have yI1 := bI.cell 1
  have yI2 := bI.cell 2
  have bC := HBC.out
  have yC0 := bC.cell 0
  have yC1 := bC.cell 1
  have yC2 := bC.cell 2
  have yC3 := bC.cell 3
  have yC4 := bC.cell 4
  have yC5 := bC.cell 5
  have yC6 := bC.cell 6
  have yC7 := bC.cell 7
  simp only [List.getElem?_cons_zero, List.getElem?_cons_succ] at yX0 yX1 yX2 yX3 yX4 yX5 yX6 yX7 yX8 yX9 yX10 yX11 yX12 yI0 yI1 yI2 yC0 yC1 yC2 yC3 yC4 yC5 yC6 yC7
  have zX := bX.lt
  have zI := bI.lt
  have zC := bC.lt
  clear bX bI bC
  have HSZ : Hid (∀ q ∈ l ++ [(⟨(x1, x2, x3), ⟨d1, d2, d3, d4, d5, d6, d7, d8⟩, s2, lx⟩ : Kn)], q.cm.pa.size ≤ 1000 ∧ q.a.1 ≤ 1125899906842624) := Lib.hid (fun q hq => by
    rcases List.mem_append.1 hq with q1 | q1
    · have h1 := HF1.out.2 q q1; exact ⟨by omega, h1.2.2.2⟩
    · have h1 := HF2.out.2 q q1; exact ⟨by omega, h1.2.2.2⟩)
  have HLL : Hid ((l ++ [(⟨(x1, x2, x3), ⟨d1, d2, d3, d4, d5, d6, d7, d8⟩, s2, lx⟩ : Kn)]).length ≤ 41) := Lib.hid (by rw [List.length_append, HLN.out]; have := HNl.out; simp; omega)
  go_wp2_with fail
  refine (local_any _ (rs ++ [r1]) (l ++ [(⟨(x1, x2, x3), ⟨d1, d2, d3, d4, d5, d6, d7, d8⟩, s2, lx⟩ : Kn)]) (i1, i2, i3) (⟨c1, c2, c3, c4, c5, c6, c7, c8⟩ : CM) w6 HRW.out (by have := HLL.out; omega) (HM.out.below HB6.out) HSZ.out (by have := HPc.out; simp only; omega)).mono ?_
  rintro e w7 ⟨va, he, ho, hb⟩
  have he := he.out
  subst he
  obtain ⟨aa, ca, hva⟩ := ho.slice
  obtain ⟨la, hla⟩ : ∃ x, (lclA (l ++ [(⟨(x1, x2, x3), ⟨d1, d2, d3, d4, d5, d6, d7, d8⟩, s2, lx⟩ : Kn)]) (i1, i2, i3) (⟨c1, c2, c3, c4, c5, c6, c7, c8⟩ : CM)).2 = x := ⟨_, rfl⟩
  obtain ⟨sa, hsa⟩ : ∃ x, (lclA (l ++ [(⟨(x1, x2, x3), ⟨d1, d2, d3, d4, d5, d6, d7, d8⟩, s2, lx⟩ : Kn)]) (i1, i2, i3) (⟨c1, c2, c3, c4, c5, c6, c7, c8⟩ : CM)).1 = x := ⟨_, rfl⟩
  have HLC : Hid (lclA (l ++ [(⟨(x1, x2, x3), ⟨d1, d2, d3, d4, d5, d6, d7, d8⟩, s2, lx⟩ : Kn)]) (i1, i2, i3) (⟨c1, c2, c3, c4, c5, c6, c7, c8⟩ : CM) = (sa, la)) := Lib.hid (Prod.ext hsa hla)
  rw [hla] at ho hva
  obtain ⟨na, hna⟩ : ∃ N, la.length = N := ⟨_, rfl⟩
  rw [hna] at hva
  subst hva
  rw [hsa]
  have HRa := Lib.hid ho.rd
  have HLa : Hid (la.length ≤ 1000) := Lib.hid (by
    have h1 := lcl_len (l ++ [(⟨(x1, x2, x3), ⟨d1, d2, d3, d4, d5, d6, d7, d8⟩, s2, lx⟩ : Kn)]) (i1, i2, i3) (⟨c1, c2, c3, c4, c5, c6, c7, c8⟩ : CM)
    rw [HLC.out] at h1
    have := HLL.out
    simp only at h1
    omega)
  have HOa : Hid (okL la) := Lib.hid (by
    have h1 := lcl_ok (l ++ [(⟨(x1, x2, x3), ⟨d1, d2, d3, d4, d5, d6, d7, d8⟩, s2, lx⟩ : Kn)]) (i1, i2, i3) (⟨c1, c2, c3, c4, c5, c6, c7, c8⟩ : CM) (rowIs_ok HRW.out)
    rw [HLC.out] at h1
    exact h1)
  replace HBX := Lib.hid (HBX.out.below hb)
  replace HBI := Lib.hid (HBI.out.below hb)
  replace HBC := Lib.hid (HBC.out.below hb)
  have HB7 := Lib.hid (below_self2 HB6.out hb)
  clear yX0 yX1 yX2 yX3 yX4 yX5 yX6 yX7 yX8 yX9 yX10 yX11 yX12 yI0 yI1 yI2 yC0 yC1 yC2 yC3 yC4 yC5 yC6 yC7 zX zI zC ho hb hla hsa hna HB6
  have bX := HBX.out
  have yX0 := bX.cell 0
  have yX1 := bX.cell 1
  have yX2 := bX.cell 2
  have yX3 := bX.cell 3
  have yX4 := bX.cell 4
  have yX5 := bX.cell 5
  have yX6 := bX.cell 6
  have yX7 := bX.cell 7
  have yX8 := bX.cell 8
  have yX9 := bX.cell 9
  have yX10 := bX.cell 10
  have yX11 := bX.cell 11
  have yX12 := bX.cell 12
  have bI := HBI.out
  have yI0 := bI.cell 0
  have yI1 := bI.cell 1
  have yI2 := bI.cell 2
  have bC := HBC.out
  have yC0 := bC.cell 0
  have yC1 := bC.cell 1
  have yC2 := bC.cell 2
  have yC3 := bC.cell 3
  have yC4 := bC.cell 4
  have yC5 := bC.cell 5
  have yC6 := bC.cell 6
  have yC7 := bC.cell 7
  simp only [List.getElem?_cons_zero, List.getElem?_cons_succ] at yX0 yX1 yX2 yX3 yX4 yX5 yX6 yX7 yX8 yX9 yX10 yX11 yX12 yI0 yI1 yI2 yC0 yC1 yC2 yC3 yC4 yC5 yC6 yC7
  have zX := bX.lt
  have zI := bI.lt
  have zC := bC.lt
  clear bX bI bC
  go_wp2_with fail
  have HX7 := Lib.hid (al2 w7 (.cells #[.int .i64 sa, .slice aa na ca] aT) (.cells #[.int .i64 i1, .int .i64 i2, .int .i64 i3, .int .i64 c1, .int .i64 c2, .int .i64 c3, .string c4, .string c5, .int .i64 c6, .int .i64 c7, .int .i64 c8, .int .i64 sa, .slice aa na ca] 40))
  have HBA : Hid (Bk ((w7.alloc (.cells #[.int .i64 sa, .slice aa na ca] aT)).alloc (.cells #[.int .i64 i1, .int .i64 i2, .int .i64 i3, .int .i64 c1, .int .i64 c2, .int .i64 c3, .string c4, .string c5, .int .i64 c6, .int .i64 c7, .int .i64 c8, .int .i64 sa, .slice aa na ca] 40)) w7.heap.size aT [.int .i64 sa, .slice aa na ca]) := Lib.hid ((Bk.newAt rfl _ _).old _)
  have HBY : Hid (Bk ((w7.alloc (.cells #[.int .i64 sa, .slice aa na ca] aT)).alloc (.cells #[.int .i64 i1, .int .i64 i2, .int .i64 i3, .int .i64 c1, .int .i64 c2, .int .i64 c3, .string c4, .string c5, .int .i64 c6, .int .i64 c7, .int .i64 c8, .int .i64 sa, .slice aa na ca] 40)) (w7.heap.size + 1) 40 [.int .i64 i1, .int .i64 i2, .int .i64 i3, .int .i64 c1, .int .i64 c2, .int .i64 c3, .string c4, .string c5, .int .i64 c6, .int .i64 c7, .int .i64 c8, .int .i64 sa, .slice aa na ca]) := Lib.hid (Bk.newAt (by simp) _ _)
  generalize (w7.alloc (.cells #[.int .i64 sa, .slice aa na ca] aT)).alloc (.cells #[.int .i64 i1, .int .i64 i2, .int .i64 i3, .int .i64 c1, .int .i64 c2, .int .i64 c3, .string c4, .string c5, .int .i64 c6, .int .i64 c7, .int .i64 c8, .int .i64 sa, .slice aa na ca] 40) = X7 at *
  have HB7x := Lib.hid (below_self2 HB7.out HX7.out)
  obtain ⟨D, hD⟩ : ∃ D, Tc.bth d1 d3 d4 c1 c3 c4 = D := ⟨_, rfl⟩
  have HD := Lib.hid hD
  have hbo := Tc.both_any d1 d2 d3 d4 d5 d6 d7 d8 c1 c2 c3 c4 c5 c6 c7 c8 X7 (by have h1 := HF2.out.2 (⟨(x1, x2, x3), ⟨d1, d2, d3, d4, d5, d6, d7, d8⟩, s2, lx⟩ : Kn) (List.mem_singleton.2 rfl); simp only at h1; omega) (by have := HPc.out; omega) (HM.out.below HB7x.out)
  rw [hD] at hbo
  refine hbo.mono ?_
  clear hbo hD
  rintro e w8 ⟨rfl, hb⟩
  have hbx : Below w7.heap.size w7 w8 := HX7.out.trans (hb.mono HX7.out.size)
  replace HBA := Lib.hid (HBA.out.below hb)
  replace HBY := Lib.hid (HBY.out.below hb)
  replace HRa := Lib.hid (HRa.out.below hbx)
  replace HBX := Lib.hid (HBX.out.below hbx)
  replace HBI := Lib.hid (HBI.out.below hbx)
  replace HBC := Lib.hid (HBC.out.below hbx)
  have HB8 := Lib.hid (below_self2 HB7.out hbx)
  have HMT : Hid (matK (i1, i2, i3) (⟨c1, c2, c3, c4, c5, c6, c7, c8⟩ : CM) (⟨(x1, x2, x3), ⟨d1, d2, d3, d4, d5, d6, d7, d8⟩, s2, lx⟩ : Kn) = D) := Lib.hid (by
    unfold matK
    simp only
    rw [HD1.out, HD.out]
    have := HG1.out
    simp at this
    simp [this])
  clear yX0 yX1 yX2 yX3 yX4 yX5 yX6 yX7 yX8 yX9 yX10 yX11 yX12 yI0 yI1 yI2 yC0 yC1 yC2 yC3 yC4 yC5 yC6 yC7 zX zI zC hb hbx HX7 HB7 HB7x
  have bX := HBX.out
  have yX0 := bX.cell 0
  have yX1 := bX.cell 1
  have yX2 := bX.cell 2
  have yX3 := bX.cell 3
  have yX4 := bX.cell 4
  have yX5 := bX.cell 5
  have yX6 := bX.cell 6
  have yX7 := bX.cell 7
  have yX8 := bX.cell 8
  have yX9 := bX.cell 9
  have yX10 := bX.cell 10
  have yX11 := bX.cell 11
  have yX12 := bX.cell 12
  have bI := HBI.out
  have yI0 := bI.cell 0
  have yI1 := bI.cell 1
  have yI2 := bI.cell 2
  have bC := HBC.out
  have yC0 := bC.cell 0
  have yC1 := bC.cell 1
  have yC2 := bC.cell 2
  have yC3 := bC.cell 3
  have yC4 := bC.cell 4
  have yC5 := bC.cell 5
  have yC6 := bC.cell 6
  have yC7 := bC.cell 7
  have bA := HBA.out
  have yA0 := bA.cell 0
  have yA1 := bA.cell 1
  have bY := HBY.out
  have yY0 := bY.cell 0
  have yY1 := bY.cell 1
  have yY2 := bY.cell 2
  have yY3 := bY.cell 3
  have yY4 := bY.cell 4
  have yY5 := bY.cell 5
  have yY6 := bY.cell 6
  have yY7 := bY.cell 7
  have yY8 := bY.cell 8
  have yY9 := bY.cell 9
  have yY10 := bY.cell 10
  have yY11 := bY.cell 11
  have yY12 := bY.cell 12
  simp only [List.getElem?_cons_zero, List.getElem?_cons_succ] at yX0 yX1 yX2 yX3 yX4 yX5 yX6 yX7 yX8 yX9 yX10 yX11 yX12 yI0 yI1 yI2 yC0 yC1 yC2 yC3 yC4 yC5 yC6 yC7 yA0 yA1 yY0 yY1 yY2 yY3 yY4 yY5 yY6 yY7 yY8 yY9 yY10 yY11 yY12
  have zX := bX.lt
  have zI := bI.lt
  have zC := bC.lt
  have zA := bA.lt
  have zY := bY.lt
  clear bX bI bC bA bY
  cases D with
  | true =>
    have HSEE := Lib.hid (lcl_sees (l ++ [(⟨(x1, x2, x3), ⟨d1, d2, d3, d4, d5, d6, d7, d8⟩, s2, lx⟩ : Kn)]) (⟨(x1, x2, x3), ⟨d1, d2, d3, d4, d5, d6, d7, d8⟩, s2, lx⟩ : Kn) (i1, i2, i3) (⟨c1, c2, c3, c4, c5, c6, c7, c8⟩ : CM) HMT.out (by simp))
    rw [HLC.out] at HSEE
    simp only at HSEE
    have q1 : decide (s2 < sa) = true := decide_eq_true HSEE.out.2
    go_wp2_with fail
    have hh := has_any (.slice aa na ca) la x1 x2 x3 w8 HRa.out HLa.out
    rw [HSEE.out.1] at hh
    refine hh.mono ?_
    clear hh
    rintro e w9 ⟨rfl, hb⟩
    replace HRa := Lib.hid (HRa.out.below hb)
    replace HBX := Lib.hid (HBX.out.below hb)
    replace HBI := Lib.hid (HBI.out.below hb)
    replace HBC := Lib.hid (HBC.out.below hb)
    replace HBA := Lib.hid (HBA.out.below hb)
    replace HBY := Lib.hid (HBY.out.below hb)
    have HB9 := Lib.hid (below_self2 HB8.out hb)
    clear yX0 yX1 yX2 yX3 yX4 yX5 yX6 yX7 yX8 yX9 yX10 yX11 yX12 yI0 yI1 yI2 yC0 yC1 yC2 yC3 yC4 yC5 yC6 yC7 yA0 yA1 yY0 yY1 yY2 yY3 yY4 yY5 yY6 yY7 yY8 yY9 yY10 yY11 yY12 zX zI zC zA zY hb HB8
    have bX := HBX.out
    have yX0 := bX.cell 0
    have yX1 := bX.cell 1
    have yX2 := bX.cell 2
    have yX3 := bX.cell 3
    have yX4 := bX.cell 4
    have yX5 := bX.cell 5
    have yX6 := bX.cell 6
    have yX7 := bX.cell 7
    have yX8 := bX.cell 8
    have yX9 := bX.cell 9
    have yX10 := bX.cell 10
    have yX11 := bX.cell 11
    have yX12 := bX.cell 12
    have bI := HBI.out
    have yI0 := bI.cell 0
    have yI1 := bI.cell 1
    have yI2 := bI.cell 2
    have bC := HBC.out
    have yC0 := bC.cell 0
    have yC1 := bC.cell 1
    have yC2 := bC.cell 2
    have yC3 := bC.cell 3
    have yC4 := bC.cell 4
    have yC5 := bC.cell 5
    have yC6 := bC.cell 6
    have yC7 := bC.cell 7
    have bA := HBA.out
    have yA0 := bA.cell 0
    have yA1 := bA.cell 1
    have bY := HBY.out
    have yY0 := bY.cell 0
    have yY1 := bY.cell 1
    have yY2 := bY.cell 2
    have yY3 := bY.cell 3
    have yY4 := bY.cell 4
    have yY5 := bY.cell 5
    have yY6 := bY.cell 6
    have yY7 := bY.cell 7
    have yY8 := bY.cell 8
    have yY9 := bY.cell 9
    have yY10 := bY.cell 10
    have yY11 := bY.cell 11
    have yY12 := bY.cell 12
    simp only [List.getElem?_cons_zero, List.getElem?_cons_succ] at yX0 yX1 yX2 yX3 yX4 yX5 yX6 yX7 yX8 yX9 yX10 yX11 yX12 yI0 yI1 yI2 yC0 yC1 yC2 yC3 yC4 yC5 yC6 yC7 yA0 yA1 yY0 yY1 yY2 yY3 yY4 yY5 yY6 yY7 yY8 yY9 yY10 yY11 yY12
    have zX := bX.lt
    have zI := bI.lt
    have zC := bC.lt
    have zA := bA.lt
    have zY := bY.lt
    clear bX bI bC bA bY
    go_wp2_with fail
    have hl1 := linked_any (⟨(x1, x2, x3), ⟨d1, d2, d3, d4, d5, d6, d7, d8⟩, s2, lx⟩ : Kn) (⟨(i1, i2, i3), (⟨c1, c2, c3, c4, c5, c6, c7, c8⟩ : CM), (sa, la)⟩ : Kn) (.slice av nv cv) (.slice aa na ca) w9 (HU.out.below HB9.out) (by have h1 := HF2.out.2 (⟨(x1, x2, x3), ⟨d1, d2, d3, d4, d5, d6, d7, d8⟩, s2, lx⟩ : Kn) (List.mem_singleton.2 rfl); simp only at h1 ⊢; omega) HRa.out HLa.out
    rw [show lnkA (⟨(x1, x2, x3), ⟨d1, d2, d3, d4, d5, d6, d7, d8⟩, s2, lx⟩ : Kn) (⟨(i1, i2, i3), (⟨c1, c2, c3, c4, c5, c6, c7, c8⟩ : CM), (sa, la)⟩ : Kn) = true from by unfold lnkA; simp only; rw [HSEE.out.1]; rfl] at hl1
    refine hl1.mono ?_
    clear hl1
    rintro e w10 ⟨rfl, hb⟩
    replace HRa := Lib.hid (HRa.out.below hb)
    replace HBX := Lib.hid (HBX.out.below hb)
    replace HBI := Lib.hid (HBI.out.below hb)
    replace HBC := Lib.hid (HBC.out.below hb)
    replace HBA := Lib.hid (HBA.out.below hb)
    replace HBY := Lib.hid (HBY.out.below hb)
    have HB10 := Lib.hid (below_self2 HB9.out hb)
    clear yX0 yX1 yX2 yX3 yX4 yX5 yX6 yX7 yX8 yX9 yX10 yX11 yX12 yI0 yI1 yI2 yC0 yC1 yC2 yC3 yC4 yC5 yC6 yC7 yA0 yA1 yY0 yY1 yY2 yY3 yY4 yY5 yY6 yY7 yY8 yY9 yY10 yY11 yY12 zX zI zC zA zY hb HB9
    have bX := HBX.out
    have yX0 := bX.cell 0
    have yX1 := bX.cell 1
    have yX2 := bX.cell 2
    have yX3 := bX.cell 3
    have yX4 := bX.cell 4
    have yX5 := bX.cell 5
    have yX6 := bX.cell 6
    have yX7 := bX.cell 7
    have yX8 := bX.cell 8
    have yX9 := bX.cell 9
    have yX10 := bX.cell 10
    have yX11 := bX.cell 11
    have yX12 := bX.cell 12
    have bI := HBI.out
    have yI0 := bI.cell 0
    have yI1 := bI.cell 1
    have yI2 := bI.cell 2
    have bC := HBC.out
    have yC0 := bC.cell 0
    have yC1 := bC.cell 1
    have yC2 := bC.cell 2
    have yC3 := bC.cell 3
    have yC4 := bC.cell 4
    have yC5 := bC.cell 5
    have yC6 := bC.cell 6
    have yC7 := bC.cell 7
    have bA := HBA.out
    have yA0 := bA.cell 0
    have yA1 := bA.cell 1
    have bY := HBY.out
    have yY0 := bY.cell 0
    have yY1 := bY.cell 1
    have yY2 := bY.cell 2
    have yY3 := bY.cell 3
    have yY4 := bY.cell 4
    have yY5 := bY.cell 5
    have yY6 := bY.cell 6
    have yY7 := bY.cell 7
    have yY8 := bY.cell 8
    have yY9 := bY.cell 9
    have yY10 := bY.cell 10
    have yY11 := bY.cell 11
    have yY12 := bY.cell 12
    simp only [List.getElem?_cons_zero, List.getElem?_cons_succ] at yX0 yX1 yX2 yX3 yX4 yX5 yX6 yX7 yX8 yX9 yX10 yX11 yX12 yI0 yI1 yI2 yC0 yC1 yC2 yC3 yC4 yC5 yC6 yC7 yA0 yA1 yY0 yY1 yY2 yY3 yY4 yY5 yY6 yY7 yY8 yY9 yY10 yY11 yY12
    have zX := bX.lt
    have zI := bI.lt
    have zC := bC.lt
    have zA := bA.lt
    have zY := bY.lt
    clear bX bI bC bA bY
    go_wp2_with fail
    have hl1 := linked_any (⟨(i1, i2, i3), (⟨c1, c2, c3, c4, c5, c6, c7, c8⟩ : CM), (sa, la)⟩ : Kn) (⟨(x1, x2, x3), ⟨d1, d2, d3, d4, d5, d6, d7, d8⟩, s2, lx⟩ : Kn) (.slice aa na ca) (.slice av nv cv) w10 HRa.out HLa.out (HU.out.below HB10.out) (by have h1 := HF2.out.2 (⟨(x1, x2, x3), ⟨d1, d2, d3, d4, d5, d6, d7, d8⟩, s2, lx⟩ : Kn) (List.mem_singleton.2 rfl); simp only at h1 ⊢; omega)
    rw [show lnkA (⟨(i1, i2, i3), (⟨c1, c2, c3, c4, c5, c6, c7, c8⟩ : CM), (sa, la)⟩ : Kn) (⟨(x1, x2, x3), ⟨d1, d2, d3, d4, d5, d6, d7, d8⟩, s2, lx⟩ : Kn) = true from by unfold lnkA; simp only; rw [HSEE.out.1]; simp] at hl1
    refine hl1.mono ?_
    clear hl1
    rintro e w11 ⟨rfl, hb⟩
    have HB11 := Lib.hid (below_self2 HB10.out hb)
    clear yX0 yX1 yX2 yX3 yX4 yX5 yX6 yX7 yX8 yX9 yX10 yX11 yX12 yI0 yI1 yI2 yC0 yC1 yC2 yC3 yC4 yC5 yC6 yC7 yA0 yA1 yY0 yY1 yY2 yY3 yY4 yY5 yY6 yY7 yY8 yY9 yY10 yY11 yY12 zX zI zC zA zY hb
    go_wp2
    go_ret
    exact ⟨by first | rfl | simp, HB11.out⟩
  | false =>
    have hskip := lcl_skips l (⟨(x1, x2, x3), ⟨d1, d2, d3, d4, d5, d6, d7, d8⟩, s2, lx⟩ : Kn) (i1, i2, i3) (⟨c1, c2, c3, c4, c5, c6, c7, c8⟩ : CM) HMT.out
    rw [HLC.out] at hskip
    have HSK := Lib.hid hskip.symm
    clear hskip
    go_wp2_with fail
    refine (local_any _ rs l (i1, i2, i3) (⟨c1, c2, c3, c4, c5, c6, c7, c8⟩ : CM) w8 (H.out.on HB8.out) (by rw [HLN.out]; have := HNl.out; omega) (HM.out.below HB8.out) (fun q hq => HSZ.out q (List.mem_append_left _ hq)) (by have := HPc.out; simp only; omega)).mono ?_
    rw [HSK.out]
    rintro e w9 ⟨vb, he, ho, hb⟩
    have he := he.out
    subst he
    obtain ⟨ab, cb, hvb⟩ := ho.slice
    obtain ⟨nb, hnb⟩ : ∃ N, la.length = N := ⟨_, rfl⟩
    simp only at hvb ho
    rw [hnb] at hvb
    subst hvb
    have HRb := Lib.hid ho.rd
    replace HRa := Lib.hid (HRa.out.below hb)
    replace HBX := Lib.hid (HBX.out.below hb)
    replace HBI := Lib.hid (HBI.out.below hb)
    replace HBC := Lib.hid (HBC.out.below hb)
    replace HBA := Lib.hid (HBA.out.below hb)
    replace HBY := Lib.hid (HBY.out.below hb)
    have HB9 := Lib.hid (below_self2 HB8.out hb)
    clear yX0 yX1 yX2 yX3 yX4 yX5 yX6 yX7 yX8 yX9 yX10 yX11 yX12 yI0 yI1 yI2 yC0 yC1 yC2 yC3 yC4 yC5 yC6 yC7 yA0 yA1 yY0 yY1 yY2 yY3 yY4 yY5 yY6 yY7 yY8 yY9 yY10 yY11 yY12 zX zI zC zA zY hb HB8 ho hnb
    have bX := HBX.out
    have yX0 := bX.cell 0
    have yX1 := bX.cell 1
    have yX2 := bX.cell 2
    have yX3 := bX.cell 3
    have yX4 := bX.cell 4
    have yX5 := bX.cell 5
    have yX6 := bX.cell 6
    have yX7 := bX.cell 7
    have yX8 := bX.cell 8
    have yX9 := bX.cell 9
    have yX10 := bX.cell 10
    have yX11 := bX.cell 11
    have yX12 := bX.cell 12
    have bI := HBI.out
    have yI0 := bI.cell 0
    have yI1 := bI.cell 1
    have yI2 := bI.cell 2
    have bC := HBC.out
    have yC0 := bC.cell 0
    have yC1 := bC.cell 1
    have yC2 := bC.cell 2
    have yC3 := bC.cell 3
    have yC4 := bC.cell 4
    have yC5 := bC.cell 5
    have yC6 := bC.cell 6
    have yC7 := bC.cell 7
    have bA := HBA.out
    have yA0 := bA.cell 0
    have yA1 := bA.cell 1
    have bY := HBY.out
    have yY0 := bY.cell 0
    have yY1 := bY.cell 1
    have yY2 := bY.cell 2
    have yY3 := bY.cell 3
    have yY4 := bY.cell 4
    have yY5 := bY.cell 5
    have yY6 := bY.cell 6
    have yY7 := bY.cell 7
    have yY8 := bY.cell 8
    have yY9 := bY.cell 9
    have yY10 := bY.cell 10
    have yY11 := bY.cell 11
    have yY12 := bY.cell 12
    simp only [List.getElem?_cons_zero, List.getElem?_cons_succ] at yX0 yX1 yX2 yX3 yX4 yX5 yX6 yX7 yX8 yX9 yX10 yX11 yX12 yI0 yI1 yI2 yC0 yC1 yC2 yC3 yC4 yC5 yC6 yC7 yA0 yA1 yY0 yY1 yY2 yY3 yY4 yY5 yY6 yY7 yY8 yY9 yY10 yY11 yY12
    have zX := bX.lt
    have zI := bI.lt
    have zC := bC.lt
    have zA := bA.lt
    have zY := bY.lt
    clear bX bI bC bA bY
    go_wp2_with fail
    have hs := asame_any sa sa _ _ la la (w9.alloc (.cells #[.int .i64 sa, .slice ab nb cb] aT)) (HRa.out.below (al1 _ _)) HOa.out HLa.out (HRb.out.below (al1 _ _)) HOa.out HLa.out
    rw [sameA_self] at hs
    refine hs.mono ?_
    clear hs
    rintro e w10 ⟨rfl, hb⟩
    have HB10 := Lib.hid (HB9.out.trans (((al1 _ _).trans (hb.mono (by simp))).mono HB9.out.size))
    clear yX0 yX1 yX2 yX3 yX4 yX5 yX6 yX7 yX8 yX9 yX10 yX11 yX12 yI0 yI1 yI2 yC0 yC1 yC2 yC3 yC4 yC5 yC6 yC7 yA0 yA1 yY0 yY1 yY2 yY3 yY4 yY5 yY6 yY7 yY8 yY9 yY10 yY11 yY12 zX zI zC zA zY hb
    go_wp2
    go_ret
    exact ⟨by first | rfl | simp, HB10.out⟩
end Go.Proofs.Ytfngjdcagopapaa
