/-
 Package record: a state with a record more.
-/
import Derived.Test.YtnancdbkmompdaaGreatPQN
import Derived.Test.YtnancdbkmompdaaGreatCqP
namespace Go.Proofs.YtnancdbkmompdaaGreat
open Go.RowKit Go.Sort
open Go.WideMaps
set_option linter.unusedSimpArgs false
set_option linter.unusedVariables false

/-- What a record makes of what is known. -/
def wth (x : Snp) (L : List I3) (M : List (I3 × Ins)) (r : Bool × Id3 × Ins × Snp) : Snp × List I3 × List (I3 × Ins) :=
 if r.1 = true ∧ Cv.valB r.2.2.2.1.1 r.2.2.2.1.2 = true ∧ x.1.1 < r.2.2.2.1.1 then (r.2.2.2, [], [])
 else if r.1 = true ∨ r.2.1.1 ≠ x.1.1 then (x, L, M)
 else (x, if hasI L r.2.1 then L else uniI L [r.2.1], putV M r.2.1 r.2.2.1)
/-- Nothing but the map's block has turned. -/
structure Fb (b : Nat) (w w' : World) : Prop where
 os : w'.os = w.os
 tape : w'.tape = w.tape
 output : w'.output = w.output
 size : w.heap.size ≤ w'.heap.size
 block : ∀ k, k < w.heap.size → k ≠ b → w'.heap[k]? = w.heap[k]?
theorem Fb.of_below {b : Nat} {w w' : World} (h : Below w.heap.size w w') : Fb b w w' := ⟨h.os, h.tape, h.output, h.size, fun k hk _ => h.block k hk⟩
def WiP (y : Snp × List I3 × List (I3 × Ins)) (b : Nat) (w : World) (e : Ending) (w' : World) : Prop := ∃ (cs : Array Value) (b' : Nat), Hid (e = .returned (.agg cs)) ∧ StIs w' cs b' y.1 y.2.1 y.2.2 ∧ (b' = b ∨ w.heap.size ≤ b') ∧ Fb b w w'
theorem stT_state : ¬ StT 37 := by unfold StT; decide
set_option maxRecDepth 100000 in
set_option maxHeartbeats 8000000 in
theorem with_b (x : Snp) (L : List I3) (M : List (I3 × Ins)) (cs : Array Value) (b : Nat) (vr : Value) (r : Bool × Id3 × Ins × Snp) (w : World) (h : StIs w cs b x L M) (hR : RecIs w vr r) (h0 : r.1 = false) (h1 : r.2.1.1 ≠ x.1.1) : Calls Tryz.prog 21 #[.agg cs, vr] w (WiP (x, L, M) b w) := by
 obtain ⟨v1, v2, v3, v4, hcs, hsn, hik⟩ := h.cells
 obtain ⟨a1, c1, a2, c2, a3, c3, e1, e2, e3⟩ := hsn.slices
 obtain ⟨a4, c4, e4⟩ := hik.slice
 obtain ⟨cr, rfl, hr⟩ := hR
 obtain ⟨a18, m18, p18, rs18, a20, m20, p20, rs20, a21, m21, p21, rs21, a22, m22, p22, rs22, hcr, hs12, hs13, hr18, hr20, hr21, hr22⟩ := rc_is hr
 obtain ⟨n0, ⟨n1, n2, n3⟩, ⟨n4, ⟨n5, n6⟩, ⟨n7, n8⟩, ⟨n9, n10, n11, n12, n13, n14, n15, n16⟩, n17, l18⟩, ⟨n19, l20⟩, l21, l22⟩ := r
 obtain ⟨⟨x0, q1⟩, q2, q3⟩ := x
 obtain rfl : cr = #[.bool n0, .int .i64 n1, .int .i64 n2, .int .i64 n3, .int .i64 n4, .int .i64 n5, .int .i64 n6, .int .i64 n7, .int .i64 n8, .int .i64 n9, .int .i64 n10, .int .i64 n11, .string n12, .string n13, .int .i64 n14, .int .i64 n15, .int .i64 n16, .int .i64 n17, .slice a18 m18 p18, .int .i64 n19, .slice a20 m20 p20, .slice a21 m21 p21, .slice a22 m22 p22] := by
  cases cr
  simpa [idE, inV, snV] using hcr
 obtain ⟨k1, hk1⟩ : ∃ q, q1.length = q := ⟨_, rfl⟩
 obtain ⟨k2, hk2⟩ : ∃ q, q2.length = q := ⟨_, rfl⟩
 obtain ⟨k3, hk3⟩ : ∃ q, q3.length = q := ⟨_, rfl⟩
 obtain ⟨k4, hk4⟩ : ∃ q, L.length = q := ⟨_, rfl⟩
 simp only [hk1] at e1
 simp only [hk2] at e2
 simp only [hk3] at e3
 rw [hk4] at e4
 subst e1 e2 e3 e4 hcs
 obtain ⟨X, hX⟩ : ∃ X, ((w.alloc (.cells #[.int .i64 x0, .slice a1 k1 c1, .slice a2 k2 c2, .slice a3 k3 c3, .slice a4 k4 c4, .map (some b)] 37)).alloc (.cells #[.bool n0, .int .i64 n1, .int .i64 n2, .int .i64 n3, .int .i64 n4, .int .i64 n5, .int .i64 n6, .int .i64 n7, .int .i64 n8, .int .i64 n9, .int .i64 n10, .int .i64 n11, .string n12, .string n13, .int .i64 n14, .int .i64 n15, .int .i64 n16, .int .i64 n17, .slice a18 m18 p18, .int .i64 n19, .slice a20 m20 p20, .slice a21 m21 p21, .slice a22 m22 p22] 61)).alloc (.cells #[.int .i64 0, .slice none 0 0, .slice none 0 0, .slice none 0 0, .slice none 0 0, .map none] 37) = X := ⟨_, rfl⟩
 have hB : Below w.heap.size w X := by rw [← hX]; exact (((Below.refl _ _).alloc (Nat.le_refl _) _).alloc (by simp) _).alloc (by simp; omega) _
 have hb1 : Bk X w.heap.size 37 [.int .i64 x0, .slice a1 k1 c1, .slice a2 k2 c2, .slice a3 k3 c3, .slice a4 k4 c4, .map (some b)] := by rw [← hX]; exact ((Bk.new w _ _).old _).old _
 have hb2 : Bk X (w.heap.size + 1) 61 [.bool n0, .int .i64 n1, .int .i64 n2, .int .i64 n3, .int .i64 n4, .int .i64 n5, .int .i64 n6, .int .i64 n7, .int .i64 n8, .int .i64 n9, .int .i64 n10, .int .i64 n11, .string n12, .string n13, .int .i64 n14, .int .i64 n15, .int .i64 n16, .int .i64 n17, .slice a18 m18 p18, .int .i64 n19, .slice a20 m20 p20, .slice a21 m21 p21, .slice a22 m22 p22] := by rw [← hX]; have := (Bk.new (w.alloc (.cells #[.int .i64 x0, .slice a1 k1 c1, .slice a2 k2 c2, .slice a3 k3 c3, .slice a4 k4 c4, .map (some b)] 37)) 61 [.bool n0, .int .i64 n1, .int .i64 n2, .int .i64 n3, .int .i64 n4, .int .i64 n5, .int .i64 n6, .int .i64 n7, .int .i64 n8, .int .i64 n9, .int .i64 n10, .int .i64 n11, .string n12, .string n13, .int .i64 n14, .int .i64 n15, .int .i64 n16, .int .i64 n17, .slice a18 m18 p18, .int .i64 n19, .slice a20 m20 p20, .slice a21 m21 p21, .slice a22 m22 p22]).old (.cells #[.int .i64 0, .slice none 0 0, .slice none 0 0, .slice none 0 0, .slice none 0 0, .map none] 37); rwa [World.size_alloc] at this
 have hb3 : Bk X (w.heap.size + 1 + 1) 37 [.int .i64 0, .slice none 0 0, .slice none 0 0, .slice none 0 0, .slice none 0 0, .map none] := by rw [← hX]; have := Bk.new ((w.alloc (.cells #[.int .i64 x0, .slice a1 k1 c1, .slice a2 k2 c2, .slice a3 k3 c3, .slice a4 k4 c4, .map (some b)] 37)).alloc (.cells #[.bool n0, .int .i64 n1, .int .i64 n2, .int .i64 n3, .int .i64 n4, .int .i64 n5, .int .i64 n6, .int .i64 n7, .int .i64 n8, .int .i64 n9, .int .i64 n10, .int .i64 n11, .string n12, .string n13, .int .i64 n14, .int .i64 n15, .int .i64 n16, .int .i64 n17, .slice a18 m18 p18, .int .i64 n19, .slice a20 m20 p20, .slice a21 m21 p21, .slice a22 m22 p22] 61)) 37 [.int .i64 0, .slice none 0 0, .slice none 0 0, .slice none 0 0, .slice none 0 0, .map none]; simpa using this
 have HSt := Lib.hid (h.on hB)
 have HB := Lib.hid hB
 have H1 := Lib.hid hb1
 have H2 := Lib.hid hb2
 have H3 := Lib.hid hb3
 have HXt : Hid ((Tryz.prog.info? 37).map (·.size) = some 6) := Lib.hid (by kernel_rfl)
 have HSz := Lib.hid (show w.heap.size + 1 + 1 < X.heap.size from hb3.lt)
 have HBs := Lib.hid (show b < w.heap.size from h.lt)
 have h0 : n0 = false := h0
 subst h0
 have h1 : n1 ≠ x0 := h1
 have d1 : (n1 != x0) = true := by simpa using h1
 have d2 : (n1 == x0) = false := by simpa using h1
 have y0 := hb1.cell 0
 simp only [List.getElem?_cons_zero, List.getElem?_cons_succ] at y0
 have z0 := hb2.cell 0
 have z1 := hb2.cell 1
 simp only [List.getElem?_cons_zero, List.getElem?_cons_succ] at z0 z1
 have H1b := H1
 have H3b := H3
 clear h hr hsn hik hcr hs12 hs13 hr18 hr20 hr21 hr22 hk1 hk2 hk3 hk4 hB hb1 hb2 hb3 h1
 go_enter Tryz.func21, Tryz.ntmps21
 go_wp2_with (first | (refine wpList_load_row rfl _ _ rfl w.heap.size rfl 37 #[.int .i64 x0, .slice a1 k1 c1, .slice a2 k2 c2, .slice a3 k3 c3, .slice a4 k4 c4, .map (some b)] (0, 0) _ H1b.out Tryz.underlying37 rfl HXt.out ?_) | (refine wpList_store_row rfl 37 _ _ rfl (w.heap.size + 1 + 1) rfl #[.int .i64 x0, .slice a1 k1 c1, .slice a2 k2 c2, .slice a3 k3 c3, .slice a4 k4 c4, .map (some b)] rfl #[.int .i64 0, .slice none 0 0, .slice none 0 0, .slice none 0 0, .slice none 0 0, .map none] 37 H3b.out HXt.out rfl (by rw [← Array.all_toList]; rfl) ?_))
 have hlv := run_loadVar_row (X.setRow (w.heap.size + 1 + 1) #[.int .i64 x0, .slice a1 k1 c1, .slice a2 k2 c2, .slice a3 k3 c3, .slice a4 k4 c4, .map (some b)]) _ _ _ #[.int .i64 x0, .slice a1 k1 c1, .slice a2 k2 c2, .slice a3 k3 c3, .slice a4 k4 c4, .map (some b)] (0, 0) _ (heap_setRow_same _ _ #[.int .i64 0, .slice none 0 0, .slice none 0 0, .slice none 0 0, .slice none 0 0, .map none] #[.int .i64 x0, .slice a1 k1 c1, .slice a2 k2 c2, .slice a3 k3 c3, .slice a4 k4 c4, .map (some b)] _ H3b.out) Tryz.underlying37 rfl HXt.out
 have hBf := below_setRow HB.out (show w.heap.size ≤ w.heap.size + 1 + 1 by omega) #[.int .i64 x0, .slice a1 k1 c1, .slice a2 k2 c2, .slice a3 k3 c3, .slice a4 k4 c4, .map (some b)]
 have hStF := HSt.out.keepT (KeepT.setRow H3b.out stT_state #[.int .i64 x0, .slice a1 k1 c1, .slice a2 k2 c2, .slice a3 k3 c3, .slice a4 k4 c4, .map (some b)]) ((sx_setRow _ (w.heap.size + 1 + 1) #[.int .i64 x0, .slice a1 k1 c1, .slice a2 k2 c2, .slice a3 k3 c3, .slice a4 k4 c4, .map (some b)]).block b (by have := HBs.out; omega))
 exact bodyPost_ret (v := .agg #[.int .i64 x0, .slice a1 k1 c1, .slice a2 k2 c2, .slice a3 k3 c3, .slice a4 k4 c4, .map (some b)]) (by simp [results, Tryz.results21, asAddr, Act.put, hlv]) rfl ⟨#[.int .i64 x0, .slice a1 k1 c1, .slice a2 k2 c2, .slice a3 k3 c3, .slice a4 k4 c4, .map (some b)], b, rfl, hStF, .inl rfl, Fb.of_below hBf⟩
set_option maxRecDepth 100000 in
set_option maxHeartbeats 8000000 in
theorem with_c (x : Snp) (L : List I3) (M : List (I3 × Ins)) (cs : Array Value) (b : Nat) (vr : Value) (r : Bool × Id3 × Ins × Snp) (w : World) (h : StIs w cs b x L M) (hR : RecIs w vr r) (h0 : r.1 = true) (h1 : ¬ (Cv.valB r.2.2.2.1.1 r.2.2.2.1.2 = true ∧ x.1.1 < r.2.2.2.1.1)) (hN : r.2.2.2.1.2.length ≤ 1000000) : Calls Tryz.prog 21 #[.agg cs, vr] w (WiP (x, L, M) b w) := by
 obtain ⟨v1, v2, v3, v4, hcs, hsn, hik⟩ := h.cells
 obtain ⟨a1, c1, a2, c2, a3, c3, e1, e2, e3⟩ := hsn.slices
 obtain ⟨a4, c4, e4⟩ := hik.slice
 obtain ⟨cr, rfl, hr⟩ := hR
 obtain ⟨a18, m18, p18, rs18, a20, m20, p20, rs20, a21, m21, p21, rs21, a22, m22, p22, rs22, hcr, hs12, hs13, hr18, hr20, hr21, hr22⟩ := rc_is hr
 obtain ⟨n0, ⟨n1, n2, n3⟩, ⟨n4, ⟨n5, n6⟩, ⟨n7, n8⟩, ⟨n9, n10, n11, n12, n13, n14, n15, n16⟩, n17, l18⟩, ⟨n19, l20⟩, l21, l22⟩ := r
 obtain ⟨⟨x0, q1⟩, q2, q3⟩ := x
 obtain rfl : cr = #[.bool n0, .int .i64 n1, .int .i64 n2, .int .i64 n3, .int .i64 n4, .int .i64 n5, .int .i64 n6, .int .i64 n7, .int .i64 n8, .int .i64 n9, .int .i64 n10, .int .i64 n11, .string n12, .string n13, .int .i64 n14, .int .i64 n15, .int .i64 n16, .int .i64 n17, .slice a18 m18 p18, .int .i64 n19, .slice a20 m20 p20, .slice a21 m21 p21, .slice a22 m22 p22] := by
  cases cr
  simpa [idE, inV, snV] using hcr
 obtain ⟨k1, hk1⟩ : ∃ q, q1.length = q := ⟨_, rfl⟩
 obtain ⟨k2, hk2⟩ : ∃ q, q2.length = q := ⟨_, rfl⟩
 obtain ⟨k3, hk3⟩ : ∃ q, q3.length = q := ⟨_, rfl⟩
 obtain ⟨k4, hk4⟩ : ∃ q, L.length = q := ⟨_, rfl⟩
 simp only [hk1] at e1
 simp only [hk2] at e2
 simp only [hk3] at e3
 rw [hk4] at e4
 subst e1 e2 e3 e4 hcs
 obtain ⟨X, hX⟩ : ∃ X, ((w.alloc (.cells #[.int .i64 x0, .slice a1 k1 c1, .slice a2 k2 c2, .slice a3 k3 c3, .slice a4 k4 c4, .map (some b)] 37)).alloc (.cells #[.bool n0, .int .i64 n1, .int .i64 n2, .int .i64 n3, .int .i64 n4, .int .i64 n5, .int .i64 n6, .int .i64 n7, .int .i64 n8, .int .i64 n9, .int .i64 n10, .int .i64 n11, .string n12, .string n13, .int .i64 n14, .int .i64 n15, .int .i64 n16, .int .i64 n17, .slice a18 m18 p18, .int .i64 n19, .slice a20 m20 p20, .slice a21 m21 p21, .slice a22 m22 p22] 61)).alloc (.cells #[.int .i64 0, .slice none 0 0, .slice none 0 0, .slice none 0 0, .slice none 0 0, .map none] 37) = X := ⟨_, rfl⟩
 have hB : Below w.heap.size w X := by rw [← hX]; exact (((Below.refl _ _).alloc (Nat.le_refl _) _).alloc (by simp) _).alloc (by simp; omega) _
 have hb1 : Bk X w.heap.size 37 [.int .i64 x0, .slice a1 k1 c1, .slice a2 k2 c2, .slice a3 k3 c3, .slice a4 k4 c4, .map (some b)] := by rw [← hX]; exact ((Bk.new w _ _).old _).old _
 have hb2 : Bk X (w.heap.size + 1) 61 [.bool n0, .int .i64 n1, .int .i64 n2, .int .i64 n3, .int .i64 n4, .int .i64 n5, .int .i64 n6, .int .i64 n7, .int .i64 n8, .int .i64 n9, .int .i64 n10, .int .i64 n11, .string n12, .string n13, .int .i64 n14, .int .i64 n15, .int .i64 n16, .int .i64 n17, .slice a18 m18 p18, .int .i64 n19, .slice a20 m20 p20, .slice a21 m21 p21, .slice a22 m22 p22] := by rw [← hX]; have := (Bk.new (w.alloc (.cells #[.int .i64 x0, .slice a1 k1 c1, .slice a2 k2 c2, .slice a3 k3 c3, .slice a4 k4 c4, .map (some b)] 37)) 61 [.bool n0, .int .i64 n1, .int .i64 n2, .int .i64 n3, .int .i64 n4, .int .i64 n5, .int .i64 n6, .int .i64 n7, .int .i64 n8, .int .i64 n9, .int .i64 n10, .int .i64 n11, .string n12, .string n13, .int .i64 n14, .int .i64 n15, .int .i64 n16, .int .i64 n17, .slice a18 m18 p18, .int .i64 n19, .slice a20 m20 p20, .slice a21 m21 p21, .slice a22 m22 p22]).old (.cells #[.int .i64 0, .slice none 0 0, .slice none 0 0, .slice none 0 0, .slice none 0 0, .map none] 37); rwa [World.size_alloc] at this
 have hb3 : Bk X (w.heap.size + 1 + 1) 37 [.int .i64 0, .slice none 0 0, .slice none 0 0, .slice none 0 0, .slice none 0 0, .map none] := by rw [← hX]; have := Bk.new ((w.alloc (.cells #[.int .i64 x0, .slice a1 k1 c1, .slice a2 k2 c2, .slice a3 k3 c3, .slice a4 k4 c4, .map (some b)] 37)).alloc (.cells #[.bool n0, .int .i64 n1, .int .i64 n2, .int .i64 n3, .int .i64 n4, .int .i64 n5, .int .i64 n6, .int .i64 n7, .int .i64 n8, .int .i64 n9, .int .i64 n10, .int .i64 n11, .string n12, .string n13, .int .i64 n14, .int .i64 n15, .int .i64 n16, .int .i64 n17, .slice a18 m18 p18, .int .i64 n19, .slice a20 m20 p20, .slice a21 m21 p21, .slice a22 m22 p22] 61)) 37 [.int .i64 0, .slice none 0 0, .slice none 0 0, .slice none 0 0, .slice none 0 0, .map none]; simpa using this
 have HSt := Lib.hid (h.on hB)
 have HB := Lib.hid hB
 have H1 := Lib.hid hb1
 have H2 := Lib.hid hb2
 have H3 := Lib.hid hb3
 have HXt : Hid ((Tryz.prog.info? 37).map (·.size) = some 6) := Lib.hid (by kernel_rfl)
 have HSz := Lib.hid (show w.heap.size + 1 + 1 < X.heap.size from hb3.lt)
 have HBs := Lib.hid (show b < w.heap.size from h.lt)
 have h0 : n0 = true := h0
 subst h0
 have h1 : ¬ (Cv.valB n19 l20 = true ∧ x0 < n19) := h1
 have H1n := Lib.hid h1
 have HV := Lib.hid (cvalid n19 a20 m20 p20 rs20 l20 X (hr20.on hB) hN)
 have y0 := hb1.cell 0
 simp only [List.getElem?_cons_zero, List.getElem?_cons_succ] at y0
 have z0 := hb2.cell 0
 have z19 := hb2.cell 19
 have z20 := hb2.cell 20
 simp only [List.getElem?_cons_zero, List.getElem?_cons_succ] at z0 z19 z20
 clear h1 hN
 clear h hr hsn hik hcr hs12 hs13 hr18 hr20 hr21 hr22 hk1 hk2 hk3 hk4 hB hb1 hb2 hb3
 go_enter Tryz.func21, Tryz.ntmps21
 go_wp2_with fail
 refine HV.out.mono ?_
 rintro e w1 ⟨rfl, hb⟩
 have HB1 := Lib.hid (HB.out.trans (hb.mono HB.out.size))
 have HSt1 := Lib.hid (HSt.out.on hb)
 have H1b := Lib.hid (H1.out.below hb)
 have H2b := Lib.hid (H2.out.below hb)
 have H3b := Lib.hid (H3.out.below hb)
 have hy := (H1.out.below hb)
 have hz := (H2.out.below hb)
 clear hX y0 z0 z19 z20 hb
 have y0 := hy.cell 0
 simp only [List.getElem?_cons_zero, List.getElem?_cons_succ] at y0
 have z0 := hz.cell 0
 have z19 := hz.cell 19
 simp only [List.getElem?_cons_zero, List.getElem?_cons_succ] at z0 z19
 clear hy hz
 by_cases q : Cv.valB n19 l20 = true
 ·have q2 : ¬ x0 < n19 := fun z => H1n.out ⟨q, z⟩
  have d1 : decide (x0 < n19) = false := decide_eq_false q2
  rw [q]
  clear q
  go_wp2_with (first | (refine wpList_load_row rfl _ _ rfl w.heap.size rfl 37 #[.int .i64 x0, .slice a1 k1 c1, .slice a2 k2 c2, .slice a3 k3 c3, .slice a4 k4 c4, .map (some b)] (0, 0) _ H1b.out Tryz.underlying37 rfl HXt.out ?_) | (refine wpList_store_row rfl 37 _ _ rfl (w.heap.size + 1 + 1) rfl #[.int .i64 x0, .slice a1 k1 c1, .slice a2 k2 c2, .slice a3 k3 c3, .slice a4 k4 c4, .map (some b)] rfl #[.int .i64 0, .slice none 0 0, .slice none 0 0, .slice none 0 0, .slice none 0 0, .map none] 37 H3b.out HXt.out rfl (by rw [← Array.all_toList]; rfl) ?_))
  have hlv := run_loadVar_row (w1.setRow (w.heap.size + 1 + 1) #[.int .i64 x0, .slice a1 k1 c1, .slice a2 k2 c2, .slice a3 k3 c3, .slice a4 k4 c4, .map (some b)]) _ _ _ #[.int .i64 x0, .slice a1 k1 c1, .slice a2 k2 c2, .slice a3 k3 c3, .slice a4 k4 c4, .map (some b)] (0, 0) _ (heap_setRow_same _ _ #[.int .i64 0, .slice none 0 0, .slice none 0 0, .slice none 0 0, .slice none 0 0, .map none] #[.int .i64 x0, .slice a1 k1 c1, .slice a2 k2 c2, .slice a3 k3 c3, .slice a4 k4 c4, .map (some b)] _ H3b.out) Tryz.underlying37 rfl HXt.out
  have hBf := below_setRow HB1.out (show w.heap.size ≤ w.heap.size + 1 + 1 by omega) #[.int .i64 x0, .slice a1 k1 c1, .slice a2 k2 c2, .slice a3 k3 c3, .slice a4 k4 c4, .map (some b)]
  have hStF := HSt1.out.keepT (KeepT.setRow H3b.out stT_state #[.int .i64 x0, .slice a1 k1 c1, .slice a2 k2 c2, .slice a3 k3 c3, .slice a4 k4 c4, .map (some b)]) ((sx_setRow _ (w.heap.size + 1 + 1) #[.int .i64 x0, .slice a1 k1 c1, .slice a2 k2 c2, .slice a3 k3 c3, .slice a4 k4 c4, .map (some b)]).block b (by have := HBs.out; omega))
  exact bodyPost_ret (v := .agg #[.int .i64 x0, .slice a1 k1 c1, .slice a2 k2 c2, .slice a3 k3 c3, .slice a4 k4 c4, .map (some b)]) (by simp [results, Tryz.results21, asAddr, Act.put, hlv]) rfl ⟨#[.int .i64 x0, .slice a1 k1 c1, .slice a2 k2 c2, .slice a3 k3 c3, .slice a4 k4 c4, .map (some b)], b, rfl, hStF, .inl rfl, Fb.of_below hBf⟩
 ·have q1 : Cv.valB n19 l20 = false := by simpa using q
  rw [q1]
  clear q q1
  go_wp2_with (first | (refine wpList_load_row rfl _ _ rfl w.heap.size rfl 37 #[.int .i64 x0, .slice a1 k1 c1, .slice a2 k2 c2, .slice a3 k3 c3, .slice a4 k4 c4, .map (some b)] (0, 0) _ H1b.out Tryz.underlying37 rfl HXt.out ?_) | (refine wpList_store_row rfl 37 _ _ rfl (w.heap.size + 1 + 1) rfl #[.int .i64 x0, .slice a1 k1 c1, .slice a2 k2 c2, .slice a3 k3 c3, .slice a4 k4 c4, .map (some b)] rfl #[.int .i64 0, .slice none 0 0, .slice none 0 0, .slice none 0 0, .slice none 0 0, .map none] 37 H3b.out HXt.out rfl (by rw [← Array.all_toList]; rfl) ?_))
  have hlv := run_loadVar_row (w1.setRow (w.heap.size + 1 + 1) #[.int .i64 x0, .slice a1 k1 c1, .slice a2 k2 c2, .slice a3 k3 c3, .slice a4 k4 c4, .map (some b)]) _ _ _ #[.int .i64 x0, .slice a1 k1 c1, .slice a2 k2 c2, .slice a3 k3 c3, .slice a4 k4 c4, .map (some b)] (0, 0) _ (heap_setRow_same _ _ #[.int .i64 0, .slice none 0 0, .slice none 0 0, .slice none 0 0, .slice none 0 0, .map none] #[.int .i64 x0, .slice a1 k1 c1, .slice a2 k2 c2, .slice a3 k3 c3, .slice a4 k4 c4, .map (some b)] _ H3b.out) Tryz.underlying37 rfl HXt.out
  have hBf := below_setRow HB1.out (show w.heap.size ≤ w.heap.size + 1 + 1 by omega) #[.int .i64 x0, .slice a1 k1 c1, .slice a2 k2 c2, .slice a3 k3 c3, .slice a4 k4 c4, .map (some b)]
  have hStF := HSt1.out.keepT (KeepT.setRow H3b.out stT_state #[.int .i64 x0, .slice a1 k1 c1, .slice a2 k2 c2, .slice a3 k3 c3, .slice a4 k4 c4, .map (some b)]) ((sx_setRow _ (w.heap.size + 1 + 1) #[.int .i64 x0, .slice a1 k1 c1, .slice a2 k2 c2, .slice a3 k3 c3, .slice a4 k4 c4, .map (some b)]).block b (by have := HBs.out; omega))
  exact bodyPost_ret (v := .agg #[.int .i64 x0, .slice a1 k1 c1, .slice a2 k2 c2, .slice a3 k3 c3, .slice a4 k4 c4, .map (some b)]) (by simp [results, Tryz.results21, asAddr, Act.put, hlv]) rfl ⟨#[.int .i64 x0, .slice a1 k1 c1, .slice a2 k2 c2, .slice a3 k3 c3, .slice a4 k4 c4, .map (some b)], b, rfl, hStF, .inl rfl, Fb.of_below hBf⟩
set_option maxRecDepth 100000 in
set_option maxHeartbeats 8000000 in
theorem with_a (x : Snp) (L : List I3) (M : List (I3 × Ins)) (cs : Array Value) (b : Nat) (vr : Value) (r : Bool × Id3 × Ins × Snp) (w : World) (h : StIs w cs b x L M) (hR : RecIs w vr r) (h0 : r.1 = true) (h1 : Cv.valB r.2.2.2.1.1 r.2.2.2.1.2 = true) (h2 : x.1.1 < r.2.2.2.1.1) (hN : Sn6 r.2.2.2) : Calls Tryz.prog 21 #[.agg cs, vr] w (WiP (r.2.2.2, [], []) b w) := by
 obtain ⟨v1, v2, v3, v4, hcs, hsn, hik⟩ := h.cells
 obtain ⟨a1, c1, a2, c2, a3, c3, e1, e2, e3⟩ := hsn.slices
 obtain ⟨a4, c4, e4⟩ := hik.slice
 obtain ⟨cr, rfl, hr⟩ := hR
 obtain ⟨a18, m18, p18, rs18, a20, m20, p20, rs20, a21, m21, p21, rs21, a22, m22, p22, rs22, hcr, hs12, hs13, hr18, hr20, hr21, hr22⟩ := rc_is hr
 obtain ⟨n0, ⟨n1, n2, n3⟩, ⟨n4, ⟨n5, n6⟩, ⟨n7, n8⟩, ⟨n9, n10, n11, n12, n13, n14, n15, n16⟩, n17, l18⟩, ⟨n19, l20⟩, l21, l22⟩ := r
 obtain ⟨⟨x0, q1⟩, q2, q3⟩ := x
 obtain rfl : cr = #[.bool n0, .int .i64 n1, .int .i64 n2, .int .i64 n3, .int .i64 n4, .int .i64 n5, .int .i64 n6, .int .i64 n7, .int .i64 n8, .int .i64 n9, .int .i64 n10, .int .i64 n11, .string n12, .string n13, .int .i64 n14, .int .i64 n15, .int .i64 n16, .int .i64 n17, .slice a18 m18 p18, .int .i64 n19, .slice a20 m20 p20, .slice a21 m21 p21, .slice a22 m22 p22] := by
  cases cr
  simpa [idE, inV, snV] using hcr
 obtain ⟨k1, hk1⟩ : ∃ q, q1.length = q := ⟨_, rfl⟩
 obtain ⟨k2, hk2⟩ : ∃ q, q2.length = q := ⟨_, rfl⟩
 obtain ⟨k3, hk3⟩ : ∃ q, q3.length = q := ⟨_, rfl⟩
 obtain ⟨k4, hk4⟩ : ∃ q, L.length = q := ⟨_, rfl⟩
 simp only [hk1] at e1
 simp only [hk2] at e2
 simp only [hk3] at e3
 rw [hk4] at e4
 subst e1 e2 e3 e4 hcs
 obtain ⟨X, hX⟩ : ∃ X, ((w.alloc (.cells #[.int .i64 x0, .slice a1 k1 c1, .slice a2 k2 c2, .slice a3 k3 c3, .slice a4 k4 c4, .map (some b)] 37)).alloc (.cells #[.bool n0, .int .i64 n1, .int .i64 n2, .int .i64 n3, .int .i64 n4, .int .i64 n5, .int .i64 n6, .int .i64 n7, .int .i64 n8, .int .i64 n9, .int .i64 n10, .int .i64 n11, .string n12, .string n13, .int .i64 n14, .int .i64 n15, .int .i64 n16, .int .i64 n17, .slice a18 m18 p18, .int .i64 n19, .slice a20 m20 p20, .slice a21 m21 p21, .slice a22 m22 p22] 61)).alloc (.cells #[.int .i64 0, .slice none 0 0, .slice none 0 0, .slice none 0 0, .slice none 0 0, .map none] 37) = X := ⟨_, rfl⟩
 have hB : Below w.heap.size w X := by rw [← hX]; exact (((Below.refl _ _).alloc (Nat.le_refl _) _).alloc (by simp) _).alloc (by simp; omega) _
 have hb1 : Bk X w.heap.size 37 [.int .i64 x0, .slice a1 k1 c1, .slice a2 k2 c2, .slice a3 k3 c3, .slice a4 k4 c4, .map (some b)] := by rw [← hX]; exact ((Bk.new w _ _).old _).old _
 have hb2 : Bk X (w.heap.size + 1) 61 [.bool n0, .int .i64 n1, .int .i64 n2, .int .i64 n3, .int .i64 n4, .int .i64 n5, .int .i64 n6, .int .i64 n7, .int .i64 n8, .int .i64 n9, .int .i64 n10, .int .i64 n11, .string n12, .string n13, .int .i64 n14, .int .i64 n15, .int .i64 n16, .int .i64 n17, .slice a18 m18 p18, .int .i64 n19, .slice a20 m20 p20, .slice a21 m21 p21, .slice a22 m22 p22] := by rw [← hX]; have := (Bk.new (w.alloc (.cells #[.int .i64 x0, .slice a1 k1 c1, .slice a2 k2 c2, .slice a3 k3 c3, .slice a4 k4 c4, .map (some b)] 37)) 61 [.bool n0, .int .i64 n1, .int .i64 n2, .int .i64 n3, .int .i64 n4, .int .i64 n5, .int .i64 n6, .int .i64 n7, .int .i64 n8, .int .i64 n9, .int .i64 n10, .int .i64 n11, .string n12, .string n13, .int .i64 n14, .int .i64 n15, .int .i64 n16, .int .i64 n17, .slice a18 m18 p18, .int .i64 n19, .slice a20 m20 p20, .slice a21 m21 p21, .slice a22 m22 p22]).old (.cells #[.int .i64 0, .slice none 0 0, .slice none 0 0, .slice none 0 0, .slice none 0 0, .map none] 37); rwa [World.size_alloc] at this
 have hb3 : Bk X (w.heap.size + 1 + 1) 37 [.int .i64 0, .slice none 0 0, .slice none 0 0, .slice none 0 0, .slice none 0 0, .map none] := by rw [← hX]; have := Bk.new ((w.alloc (.cells #[.int .i64 x0, .slice a1 k1 c1, .slice a2 k2 c2, .slice a3 k3 c3, .slice a4 k4 c4, .map (some b)] 37)).alloc (.cells #[.bool n0, .int .i64 n1, .int .i64 n2, .int .i64 n3, .int .i64 n4, .int .i64 n5, .int .i64 n6, .int .i64 n7, .int .i64 n8, .int .i64 n9, .int .i64 n10, .int .i64 n11, .string n12, .string n13, .int .i64 n14, .int .i64 n15, .int .i64 n16, .int .i64 n17, .slice a18 m18 p18, .int .i64 n19, .slice a20 m20 p20, .slice a21 m21 p21, .slice a22 m22 p22] 61)) 37 [.int .i64 0, .slice none 0 0, .slice none 0 0, .slice none 0 0, .slice none 0 0, .map none]; simpa using this
 have HSt := Lib.hid (h.on hB)
 have HB := Lib.hid hB
 have H1 := Lib.hid hb1
 have H2 := Lib.hid hb2
 have H3 := Lib.hid hb3
 have HXt : Hid ((Tryz.prog.info? 37).map (·.size) = some 6) := Lib.hid (by kernel_rfl)
 have HSz := Lib.hid (show w.heap.size + 1 + 1 < X.heap.size from hb3.lt)
 have HBs := Lib.hid (show b < w.heap.size from h.lt)
 have h0 : n0 = true := h0
 subst h0
 have h1 : Cv.valB n19 l20 = true := h1
 have h2 : x0 < n19 := h2
 have d1 : decide (x0 < n19) = true := decide_eq_true h2
 have HVb := Lib.hid h1
 have HV := Lib.hid (cvalid n19 a20 m20 p20 rs20 l20 X (hr20.on hB) hN.a)
 have HBg := Lib.hid (fun (W : World) (hW : Below X.heap.size X W) => begun_any ((n19, l20), l21, l22) #[.int .i64 n19, .slice a20 m20 p20, .slice a21 m21 p21, .slice a22 m22 p22] W (sn_mk (x := ((n19, l20), l21, l22)) (hr20.on (hB.trans (hW.mono hB.size))) (hr21.on (hB.trans (hW.mono hB.size))) (hr22.on (hB.trans (hW.mono hB.size)))) hN)
 have y0 := hb1.cell 0
 simp only [List.getElem?_cons_zero, List.getElem?_cons_succ] at y0
 have z0 := hb2.cell 0
 have z19 := hb2.cell 19
 have z20 := hb2.cell 20
 simp only [List.getElem?_cons_zero, List.getElem?_cons_succ] at z0 z19 z20
 clear h1 h2 hN
 clear h hr hsn hik hcr hs12 hs13 hr18 hr20 hr21 hr22 hk1 hk2 hk3 hk4 hB hb1 hb2 hb3
 go_enter Tryz.func21, Tryz.ntmps21
 go_wp2_with fail
 refine HV.out.mono ?_
 rintro e w1 ⟨rfl, hb⟩
 have HB1 := Lib.hid (HB.out.trans (hb.mono HB.out.size))
 have HSt1 := Lib.hid (HSt.out.on hb)
 have H1b := Lib.hid (H1.out.below hb)
 have H2b := Lib.hid (H2.out.below hb)
 have H3b := Lib.hid (H3.out.below hb)
 have HbX := Lib.hid hb
 have hy := (H1.out.below hb)
 have hz := (H2.out.below hb)
 clear hX y0 z0 z19 z20 hb
 have y0 := hy.cell 0
 simp only [List.getElem?_cons_zero, List.getElem?_cons_succ] at y0
 have z0 := hz.cell 0
 have z19 := hz.cell 19
 have z20 := hz.cell 20
 have z21 := hz.cell 21
 have z22 := hz.cell 22
 simp only [List.getElem?_cons_zero, List.getElem?_cons_succ] at z0 z19 z20 z21 z22
 clear hy hz
 rw [HVb.out]
 go_wp2_with fail
 refine (HBg.out w1 HbX.out).mono ?_
 rintro e w2 ⟨csb, b2, he, hs, hbb, hb⟩
 rw [he.out]
 obtain ⟨u1, u2, u3, u4, hcsb, hsn, hik⟩ := (hs w2 (fun _ _ _ => rfl)).cells
 obtain ⟨g1, d1', g2, d2', g3, d3', e1, e2, e3⟩ := hsn.slices
 obtain ⟨g4, d4, e4⟩ := hik.slice
 obtain ⟨j1, hj1⟩ : ∃ q, l20.length = q := ⟨_, rfl⟩
 obtain ⟨j2, hj2⟩ : ∃ q, l21.length = q := ⟨_, rfl⟩
 obtain ⟨j3, hj3⟩ : ∃ q, l22.length = q := ⟨_, rfl⟩
 simp only [hj1] at e1
 simp only [hj2] at e2
 simp only [hj3] at e3
 simp only [List.length_nil] at e4
 subst e1 e2 e3 e4 hcsb
 have HSn := Lib.hid (hs w2 (fun _ _ _ => rfl))
 have HB2 := Lib.hid (HB1.out.trans (hb.mono HB1.out.size))
 have H3c := Lib.hid (H3b.out.below hb)
 have Hb2 := Lib.hid (show w.heap.size + 1 + 1 < b2 by have := H3b.out.lt; omega)
 clear he hs hbb hb hsn hik hj1 hj2 hj3 y0 z0 z19 z20 z21 z22
 go_wp2_with (refine wpList_store_row rfl 37 _ _ rfl (w.heap.size + 1 + 1) rfl #[.int .i64 n19, .slice g1 j1 d1', .slice g2 j2 d2', .slice g3 j3 d3', .slice g4 0 d4, .map (some b2)] rfl #[.int .i64 0, .slice none 0 0, .slice none 0 0, .slice none 0 0, .slice none 0 0, .map none] 37 H3c.out HXt.out rfl (by rw [← Array.all_toList]; rfl) ?_)
 have hlv := run_loadVar_row (w2.setRow (w.heap.size + 1 + 1) #[.int .i64 n19, .slice g1 j1 d1', .slice g2 j2 d2', .slice g3 j3 d3', .slice g4 0 d4, .map (some b2)]) _ _ _ #[.int .i64 n19, .slice g1 j1 d1', .slice g2 j2 d2', .slice g3 j3 d3', .slice g4 0 d4, .map (some b2)] (0, 0) _ (heap_setRow_same _ _ #[.int .i64 0, .slice none 0 0, .slice none 0 0, .slice none 0 0, .slice none 0 0, .map none] #[.int .i64 n19, .slice g1 j1 d1', .slice g2 j2 d2', .slice g3 j3 d3', .slice g4 0 d4, .map (some b2)] _ H3c.out) Tryz.underlying37 rfl HXt.out
 have hBf := below_setRow HB2.out (show w.heap.size ≤ w.heap.size + 1 + 1 by omega) #[.int .i64 n19, .slice g1 j1 d1', .slice g2 j2 d2', .slice g3 j3 d3', .slice g4 0 d4, .map (some b2)]
 have hStF := HSn.out.keepT (KeepT.setRow H3c.out stT_state #[.int .i64 n19, .slice g1 j1 d1', .slice g2 j2 d2', .slice g3 j3 d3', .slice g4 0 d4, .map (some b2)]) ((sx_setRow _ (w.heap.size + 1 + 1) #[.int .i64 n19, .slice g1 j1 d1', .slice g2 j2 d2', .slice g3 j3 d3', .slice g4 0 d4, .map (some b2)]).block b2 (by have := Hb2.out; omega))
 exact bodyPost_ret (v := .agg #[.int .i64 n19, .slice g1 j1 d1', .slice g2 j2 d2', .slice g3 j3 d3', .slice g4 0 d4, .map (some b2)]) (by simp [results, Tryz.results21, asAddr, Act.put, hlv]) rfl ⟨#[.int .i64 n19, .slice g1 j1 d1', .slice g2 j2 d2', .slice g3 j3 d3', .slice g4 0 d4, .map (some b2)], b2, rfl, hStF, .inr (by have := Hb2.out; omega), Fb.of_below hBf⟩
end Go.Proofs.YtnancdbkmompdaaGreat
