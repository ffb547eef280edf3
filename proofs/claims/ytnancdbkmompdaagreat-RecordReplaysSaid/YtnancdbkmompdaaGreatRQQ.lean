/-
  Texts put together: Rcw, Rcx.
-/
import Derived.Test.YtnancdbkmompdaaGreatRY
import Derived.Test.YtnancdbkmompdaaGreatRQJ
import Derived.Test.YtnancdbkmompdaaGreatRQP
namespace Go.Proofs.YtnancdbkmompdaaGreat
open Go.RowKit Go.Sort Go.Shelf
open Go.WideMaps
set_option linter.unusedSimpArgs false
set_option linter.unusedVariables false
set_option maxRecDepth 100000
set_option maxHeartbeats 40000000
attribute [local go_sem] Oper.semAt_some
/-- What some records tell, one by one. -/
def rplG (s : Snp) (gs : List (List Int)) : Knw := gs.foldl (fun y xs => wth y.1 y.2.1 y.2.2 (rcRd (xs, 0)).1) (s, [], [])
theorem rplG_good (s : Snp) (bs : List (List Int)) : rplG s (goodB bs) = rplR s bs := by
 unfold rplG rplR goodB
 generalize (s, ([] : List I3), ([] : List (I3 × Ins))) = y
 induction bs generalizing y with
 | nil => rfl
 | cons b r ih =>
  rw [List.foldl_cons, List.filter_cons]
  by_cases q : endE (rcRd (b, 0)).2 = 0
  ·rw [if_pos (by simp [q]), List.foldl_cons, ih]
   unfold stpR
   rw [if_pos q]
  ·rw [if_neg (by simp [q]), ih]
   unfold stpR
   rw [if_neg q]
theorem rplG_snoc (s : Snp) (gs : List (List Int)) (xs : List Int) : rplG s (gs ++ [xs]) = wth (rplG s gs).1 (rplG s gs).2.1 (rplG s gs).2.2 (rcRd (xs, 0)).1 := by
 unfold rplG
 rw [List.foldl_append]
 rfl
theorem put_alike2 {W : World} {l : Nat} {o o' : Obj} (h : W.heap[l]? = some o) (ho : o.isCells = false) (k : Nat) (cs : Array Value) (t : TypeId) (fr : Nat × Nat) (hk : W.heap[k]? = some (Obj.cells cs t fr)) : (W.putObj l o').heap[k]? = W.heap[k]? := by
 refine World.putObj_heap_other ?_
 rintro rfl
 rw [h] at hk
 cases hk
 cases ho
theorem put_below2 {W : World} {n₀ l : Nat} (o' : Obj) (h : n₀ ≤ l) : Below n₀ W (W.putObj l o') :=
 ⟨rfl, rfl, rfl, by simp, fun k hk => World.putObj_heap_other (by omega)⟩
abbrev Z6 : Array Value := #[.int .i64 0, .slice none 0 0, .slice none 0 0, .slice none 0 0, .slice none 0 0, .map none]
/-- Between two rounds of Replay's. -/
structure RpI (w : World) (z b5 : Nat) (s : Snp) (pre : List Rc1) (W : World) : Prop where
 out : W.heap[w.heap.size + 1]? = some (.cells Z6 37 (0, 0))
 st : ∃ (cs : Array Value) (b : Nat), W.heap[b5]? = some (.cells cs 37 (0, 0)) ∧ StIs W cs b (rplG s (pre.map (·.2))).1 (rplG s (pre.map (·.2))).2.1 (rplG s (pre.map (·.2))).2.2 ∧ w.heap.size + 2 ≤ b ∧ b ≠ b5 ∧ b ≠ z ∧ b ≠ z + 1
 low : Below w.heap.size w W
 bnd : KnB pre.length (rplG s (pre.map (·.2)))
 big : w.heap.size + 2 ≤ b5 ∧ b5 < z ∧ z ≤ W.heap.size
theorem RpI.under {w : World} {z b5 : Nat} {s : Snp} {pre : List Rc1} {W W' : World} (h : RpI w z b5 s pre W) (hb : Below W.heap.size W W') : RpI w z b5 s pre W' := by
 obtain ⟨cs, b, h1, h2, h3⟩ := h.st
 exact ⟨(hb.block _ (Array.getElem?_eq_some_iff.1 h.out).1).trans h.out, ⟨cs, b, (hb.block _ (Array.getElem?_eq_some_iff.1 h1).1).trans h1, h2.on hb, h3⟩, h.low.trans (hb.mono h.low.size), h.bnd, h.big.1, h.big.2.1, Nat.le_trans h.big.2.2 hb.size⟩
theorem RpI.put {w : World} {z b5 : Nat} {s : Snp} {pre : List Rc1} {W : World} (h : RpI w z b5 s pre W) {o : Obj} (o' : Obj) (ho : W.heap[z + 1]? = some o) (hc : o.isCells = false) : RpI w z b5 s pre (W.putObj (z + 1) o') := by
 obtain ⟨cs, b, h1, h2, h3, h4, h5, h6⟩ := h.st
 have hbig := h.big
 refine ⟨(put_alike2 ho hc _ _ _ _ h.out).trans h.out, ⟨cs, b, (put_alike2 ho hc _ _ _ _ h1).trans h1, h2.keepT (fun k cs T fr q _ => put_alike2 ho hc k cs T fr q) (World.putObj_heap_other h6), h3, h4, h5, h6⟩, h.low.trans (put_below2 o' (by omega)), h.bnd, hbig.1, hbig.2.1, by simpa using hbig.2.2⟩
theorem rcPv.under {bs : List (List Int)} {l : Nat} {pre : List Rc1} {x : Rc1} {W W' : World} (h : rcPv bs l pre x W) (hb : Below W.heap.size W W') : rcPv bs l pre x W' := by
 obtain ⟨h0, h1, h2, h3, h4, N, cs, h5, h6, h7⟩ := h
 exact ⟨Nat.lt_of_lt_of_le h0 hb.size, h1, h2, h3, h4, N, cs, h5, h6, fun w'' hw => h7 w'' (fun k hk1 hk2 => (hw k hk1 (Nat.lt_of_lt_of_le hk2 hb.size)).trans (hb.block k hk2))⟩
theorem rcPv.put {bs : List (List Int)} {l : Nat} {pre : List Rc1} {x : Rc1} {W : World} (h : rcPv bs l pre x W) (o' : Obj) : rcPv bs l pre x (W.putObj l o') := by
 obtain ⟨h0, h1, h2, h3, h4, N, cs, h5, h6, h7⟩ := h
 exact ⟨by simpa using h0, h1, h2, h3, h4, N, cs, h5, h6, fun w'' hw => h7 w'' (fun k hk1 hk2 => (hw k hk1 (by simpa using hk2)).trans (World.putObj_heap_other (by omega)))⟩
/-- A round's frame. -/
def RpA (w : World) (z b5 : Nat) (s : Snp) (bs : List (List Int)) (pre : List Rc1) (x : Rc1) (a' : Act) (W : World) : Prop :=
 RpI w z b5 s pre W ∧ rcPv bs (z + 1) pre x W ∧ ∃ (g : Nat) (csr : Array Value) (v0 v1 v2 v3 v4 v7 v8 v9 v10 v11 v12 v13 v14 v15 : Value), x.1 = .agg csr ∧ z + 1 < g ∧ W.heap[g]? = some (.cells csr 61 (0, 0)) ∧ csr.size = 23 ∧ a' = { tmps := #[v0, v1, v2, v3, v4, .pointer (some ⟨b5, 0, none⟩), .pointer (some ⟨g, 0, none⟩), v7, v8, v9, v10, v11, v12, v13, v14, v15], defers := [] }
theorem replay_any (s : Snp) (ca : Array Value) (vb : Value) (bs : List (List Int)) (w : World) (hs : snS.is w ca.toList s) (hN : Sn6 s) (ha : BodR w vb bs) (hx : ∀ b ∈ bs, BytL b) (hl : ∀ b ∈ bs, b.length ≤ 1000000000) (hlen : bs.length ≤ 800) : Calls Tryz.prog 8 #[.agg ca, vb] w (AdP (rplR s bs) w) := by
  obtain ⟨a1, m1, c1, rs1, a2, m2, c2, rs2, a3, m3, c3, rs3, hcs, -, -, -⟩ := sn_is hs
  obtain ⟨n0, hn0⟩ : ∃ q, s.1.1 = q := ⟨_, rfl⟩
  obtain rfl : ca = #[.int .i64 n0, .slice a1 m1 c1, .slice a2 m2 c2, .slice a3 m3 c3] := by
    cases ca
    rw [← hn0]
    simpa [snV] using hcs
  refine (callsIn_wide (n := 6)).1 ?_
  obtain ⟨X, hX⟩ : ∃ X, (w.alloc (.cells #[.int .i64 n0, .slice a1 m1 c1, .slice a2 m2 c2, .slice a3 m3 c3] 28)).alloc (.cells Z6 37) = X := ⟨_, rfl⟩
  have hB : Below w.heap.size w X := by rw [← hX]; exact ((Below.refl _ _).alloc (Nat.le_refl _) _).alloc (by simp) _
  have hXz : X.heap.size = w.heap.size + 2 := by rw [← hX]; simp
  have H1 : Hid (X.heap[w.heap.size]? = some (.cells #[.int .i64 n0, .slice a1 m1 c1, .slice a2 m2 c2, .slice a3 m3 c3] 28 (0, 0))) := Hd (by rw [← hX]; exact (Bk.new w _ [.int .i64 n0, .slice a1 m1 c1, .slice a2 m2 c2, .slice a3 m3 c3]).old _)
  have H2 : Hid (X.heap[w.heap.size + 1]? = some (.cells Z6 37 (0, 0))) := Hd (by rw [← hX]; have := heap_alloc_new (w.alloc (.cells #[.int .i64 n0, .slice a1 m1 c1, .slice a2 m2 c2, .slice a3 m3 c3] 28)) (.cells Z6 37); simpa using this)
  have HB := Hd hB
  have HC := Hd (begun_any s #[.int .i64 n0, .slice a1 m1 c1, .slice a2 m2 c2, .slice a3 m3 c3] X (snS.keep hs hB) hN)
  have HA := Hd ha
  have HX := Hd hx
  have HL := Hd hl
  have HN6 := Hd hN
  have HXz := Hd hXz
  have HXX := Hd hX
  have HI4 : Hid ((Tryz.prog.info? 28).map (·.size) = some 4) := Hd (by kernel_rfl)
  have HI6 : Hid ((Tryz.prog.info? 37).map (·.size) = some 6) := Hd (by kernel_rfl)
  have HI23 : Hid ((Tryz.prog.info? 61).map (·.size) = some 23) := Hd (by kernel_rfl)
  obtain ⟨va, vc, rfl⟩ := ha.row
  obtain ⟨N, hNN⟩ : ∃ q, bs.length = q := ⟨_, rfl⟩
  have HNN := Hd hNN
  have HA2 : Hid (BodR w (.slice va N vc) bs) := Hd (by rw [← hNN]; exact ha)
  have hlenN : N ≤ 800 := by omega
  rw [hNN]
  clear hs hN ha hx hl hlen hcs hB hXz hX hn0 hNN HA
  refine callsIn_of_wp_marks Tryz.func8 rfl trivial ?_ rfl
  simp only [Tryz.ntmps8, List.size_toArray, List.length_cons, List.length_nil, Nat.reduceAdd, Nat.reduceSub, Array.replicate_succ, Array.replicate_zero, List.push_toArray, List.append_toArray, List.nil_append, List.cons_append]
  gi_wp2_with (refine wpListIn_load_row rfl _ _ rfl w.heap.size rfl 28 #[.int .i64 n0, .slice a1 m1 c1, .slice a2 m2 c2, .slice a3 m3 c3] (0, 0) _ H1.out Tryz.underlying28 rfl HI4.out ?_)
  first | refine ⟨trivial, (fun h => (by cases h)), ?_⟩ | refine ⟨trivial, ?_⟩
  rw [HXX.out]
  refine (callsIn_wide.2 HC.out).mono ?_
  rintro e w1 ⟨cs0, b0, he, hst0, hb0, hb1⟩
  rw [he.out]
  obtain ⟨w2, hw2⟩ : ∃ q, (w1.alloc (.cells Z6 37)).setRow w1.heap.size cs0 = q := ⟨_, rfl⟩
  have hst1 := hst0 w1 (fun _ _ _ => rfl)
  have hlit := hst1.lit
  have HZ1 := Hd (show w.heap.size + 2 ≤ w1.heap.size by have := hb1.size; have := HXz.out; omega)
  have hb12 : Below w1.heap.size w1 w2 := by rw [← hw2]; exact below_setRow ((Below.refl _ _).alloc (Nat.le_refl _) _) (Nat.le_refl _) cs0
  have HB2 := Hd ((HB.out.trans (hb1.mono HB.out.size)).trans (hb12.mono (by have := HB.out.size; have := hb1.size; omega)))
  have H2b : Hid (w2.heap[w.heap.size + 1]? = some (.cells Z6 37 (0, 0))) := Hd ((hb12.block _ (by have := HZ1.out; omega)).trans ((hb1.block _ (by have := HXz.out; omega)).trans H2.out))
  have HNew := Hd (bka_new w1 37 Z6)
  have HRw : Hid (w2.heap[w1.heap.size]? = some (.cells cs0 37 (0, 0))) := Hd (by rw [← hw2]; exact heap_setRow_same _ _ Z6 cs0 _ (bka_new w1 _ _))
  have HSt2 := Hd (hst1.on hb12)
  have HZ2 : Hid (w2.heap.size = w1.heap.size + 1) := Hd (by rw [← hw2, (sx_setRow _ _ _).size]; simp)
  have HBb : Hid (w.heap.size + 2 ≤ b0 ∧ b0 < w1.heap.size) := Hd ⟨by have := HXz.out; omega, hst1.lt⟩
  obtain ⟨e1, n1, d1, e2, n2, d2, e3, n3, d3, e4, n4, d4, hlit⟩ := hlit
  have HSz : Hid ((Tryz.prog.info? 37).map (·.size) = some cs0.size) := Hd (by rw [hlit]; exact HI6.out)
  have HS2 : Hid (Z6.size = cs0.size) := Hd (by rw [hlit]; rfl)
  have HOne : Hid (cs0.all (·.oneCell') = true) := Hd (by rw [hlit, ← Array.all_toList]; rfl)
  have HW2 := Hd hw2
  clear he hst0 hb0 hb1 hb12 hst1 hlit hw2 H1 H2 HC HXX
  gi_wp2_with (refine wpListIn_store_rnm rfl 37 _ _ rfl w1.heap.size rfl cs0 rfl Z6 37 HNew.out HSz.out HS2.out HOne.out w2 HW2.out ?_)
  first | refine ⟨trivial, (fun h => (by cases h)), ?_⟩ | refine ⟨trivial, ?_⟩
  refine (callsIn_wide.2 (records_any va N vc w2)).mono ?_
  rintro e w3 ⟨rfl, hw3⟩
  have hz3 : w3.heap.size = w2.heap.size + 1 := by rw [← hw3]; simp
  have hb23 : Below w2.heap.size w2 w3 := by rw [← hw3]; exact (Below.refl _ _).alloc (Nat.le_refl _) _
  have hbox : w3.cell? ⟨w2.heap.size, 0, none⟩ = some (.slice va N vc) := by rw [← hw3]; simp [go_sem]
  have HB3 := Hd (HB2.out.trans (hb23.mono HB2.out.size))
  have HI0 : Hid (RpI w w3.heap.size w1.heap.size s [] w3) := by
    refine Hd ⟨(hb23.block _ (by have := HZ1.out; have := HZ2.out; omega)).trans H2b.out, ⟨cs0, b0, (hb23.block _ (by have := HZ2.out; omega)).trans HRw.out, HSt2.out.on hb23, HBb.out.1, ?_, ?_, ?_⟩, HB3.out, KnB.start HN6.out, HZ1.out, ?_, Nat.le_refl _⟩
    · have := HBb.out.2; omega
    · have := HBb.out.2; have := HZ2.out; omega
    · have := HBb.out.2; have := HZ2.out; omega
    · have := HZ2.out; omega
  have HZ3 : Hid (w3.heap.size = w1.heap.size + 2) := Hd (by have := HZ2.out; omega)
  have HSeq := Hd (records1_seq 5 w2.heap.size (by omega) (.slice va N vc) bs w w3 HA2.out HX.out HL.out (by have := HNN.out; omega) HB3.out hbox (by omega))
  clear hw3 hz3 hb23 hbox HB2 H2b HNew HRw HSt2 HSz HS2 HOne HW2
  gi_wp2
  refine wpIn_range_fin2 (F := Fence.wide) (P := Tryz.prog) rfl (by omega) (gf := 42) (lb := #[.pointer (some ⟨w2.heap.size, 0, none⟩)]) rfl trivial (enters_of Tryz.func42 (by kernel_rfl) rfl) HSeq.out
    (fun h k => h.trans k) (fun W o' => put_below2 o' (by have := HZ3.out; have := HZ1.out; omega)) (fun W W' hz hb => hb.mono (by have := HZ3.out; have := HZ1.out; omega))
    (Below.refl _ _) (fun _ => rfl) (RpI w w3.heap.size w1.heap.size s)
    (fun _ _ _ h hb => h.under hb) (fun _ _ _ o' h1 h2 h => h.put o' h1 h2) HI0.out
    (RpA w w3.heap.size w1.heap.size s bs) (fun pre x a' W o o' h1 h2 h => ?ap)
    ?assign ?body ?done
  case ap =>
    obtain ⟨q1, q2, g, csr, v0, v1, v2, v3, v4, v7, v8, v9, v10, v11, v12, v13, v14, v15, q3, q4, q5, q6, q7⟩ := h
    exact ⟨q1.put o' h1 h2, q2.put o', g, csr, _, _, _, _, _, _, _, _, _, _, _, _, _, _, q3, q4, (put_alike2 h1 h2 _ _ _ _ q5).trans q5, q6, q7⟩
  case assign =>
    rintro pre ⟨xv, xs⟩ W K hI hp hlw hK
    have HI := Hd hI
    have HP := Hd hp
    have HK := Hd hK
    obtain ⟨_, _, _, _, _, M, csr, _, hxv, hrec⟩ := hp
    simp only at hxv
    subst hxv
    have hm := hrec W (fun _ _ _ => rfl)
    have HS23 : Hid (csr.size = 23) := Hd (rc_size hm)
    have HOne : Hid (csr.all (·.oneCell') = true) := Hd (by rw [← Array.all_toList]; exact List.all_eq_true.2 (fun v hv => rcS.one hm v hv))
    obtain ⟨W2, hW2⟩ : ∃ q, (W.alloc (.cells z23 61)).setRow W.heap.size csr = q := ⟨_, rfl⟩
    have HBn : Hid (Below W.heap.size W W2) := Hd (by rw [← hW2]; exact below_setRow ((Below.refl _ _).alloc (Nat.le_refl _) _) (Nat.le_refl _) csr)
    have HRow : Hid (W2.heap[W.heap.size]? = some (.cells csr 61 (0, 0))) := Hd (by rw [← hW2]; exact heap_setRow_same _ _ z23 csr _ (bka_new W _ _))
    have HNew := Hd (bka_new W 61 z23)
    have HW2 := Hd hW2
    clear hI hK hrec hm hW2 HI0 HSeq
    simp only [rcArgs, List.zip_toArray, List.zip_cons_cons, List.zip_nil_right, List.foldl_toArray, List.foldl_cons, List.foldl_nil, List.setIfInBounds_toArray, List.set_cons_succ, List.set_cons_zero, List.size_toArray, List.length_cons, List.length_nil]
    gi_wp2_with (refine wpListIn_store_rnm rfl 61 _ _ rfl W.heap.size rfl csr rfl z23 61 HNew.out (by rw [HS23.out]; exact HI23.out) (by rw [HS23.out]; rfl) HOne.out W2 HW2.out ?_)
    refine HK.out _ _ HBn.out ⟨HI.out.under HBn.out, HP.out.under HBn.out, W.heap.size, csr, _, _, _, _, _, _, _, _, _, _, _, _, _, _, rfl, hlw, HRow.out, HS23.out, rfl⟩
  case body =>
    rintro pre ⟨xv, xs⟩ a' W ⟨hI, hp, g, csr, v0, v1, v2, v3, v4, v7, v8, v9, v10, v11, v12, v13, v14, v15, hxv, hg, hrow, hsz, rfl⟩ hlw
    simp only at hxv
    subst hxv
    obtain ⟨cs, b, h5, hst, hb2, hb5, hbz, hbz1⟩ := hI.st
    obtain ⟨_, hpl, _, hbt, hgood, M, csr', _, e, hrec⟩ := hp
    simp only [Value.agg.injEq] at e
    subst e
    simp only at hbt hgood hrec
    have hR : RecIs W (.agg csr) (rcRd (xs, 0)).1 := ⟨csr, rfl, hrec W (fun _ _ _ => rfl)⟩
    obtain ⟨hs6, hd6, _⟩ := rec_little xs hbt hgood
    have hpl2 : pre.length ≤ 800 := by have := HNN.out; omega
    have HW := Hd (with_any _ _ _ cs b (.agg csr) _ W hst hR (by have := hI.bnd.l; omega) (by have := hI.bnd.m; omega) (rec_okI xs hbt hgood) hd6 hs6)
    have HBd := Hd (hI.bnd.wth hs6 hd6)
    have H5 := Hd h5
    have HRow := Hd hrow
    have HS23 := Hd hsz
    have HI := Hd hI
    have HBs := Hd (show w.heap.size + 2 ≤ b ∧ b ≠ w1.heap.size ∧ b ≠ w3.heap.size ∧ b ≠ w3.heap.size + 1 from ⟨hb2, hb5, hbz, hbz1⟩)
    have HSz : Hid ((Tryz.prog.info? 37).map (·.size) = some cs.size) := Hd (by obtain ⟨_, _, _, _, _, _, _, _, _, _, _, _, q⟩ := hst.lit; rw [q]; exact HI6.out)
    have HSz6 : Hid (cs.size = 6) := Hd (by obtain ⟨_, _, _, _, _, _, _, _, _, _, _, _, q⟩ := hst.lit; rw [q]; rfl)
    clear hI h5 hst hb2 hb5 hbz hbz1 hrec hR hs6 hd6 hrow hsz hbt hgood HI0 HSeq
    gi_wp2_with (first | refine wpListIn_load_row rfl _ _ rfl w1.heap.size rfl 37 cs (0, 0) _ H5.out Tryz.underlying37 rfl HSz.out ?_ | refine wpListIn_load_row rfl _ _ rfl g rfl 61 csr (0, 0) _ HRow.out Tryz.underlying61 rfl (by rw [HS23.out]; exact HI23.out) ?_)
    first | refine ⟨trivial, (fun h => (by cases h)), ?_⟩ | refine ⟨trivial, ?_⟩
    refine ((callsIn_wide.2 HW.out).inRound _).mono ?_
    rintro e w4 ⟨cs2, b2, he, hs2, hbo, hf⟩
    rw [he.out]
    obtain ⟨w5, hw5⟩ : ∃ q, w4.setRow w1.heap.size cs2 = q := ⟨_, rfl⟩
    obtain ⟨q1, q2, q3, q4, q5, q6, q7, q8, q9, q10, q11, q12, hlit⟩ := hs2.lit
    have HS6 : Hid (cs2.size = 6) := Hd (by rw [hlit]; rfl)
    have HOne : Hid (cs2.all (·.oneCell') = true) := Hd (by rw [hlit, ← Array.all_toList]; rfl)
    have hWz := HI.out.big
    have h5b : w4.heap[w1.heap.size]? = some (.cells cs 37 (0, 0)) := (hf.block _ (by omega) (Ne.symm HBs.out.2.1)).trans H5.out
    have H5b := Hd h5b
    have HW5 := Hd hw5
    have hsx : Sx w1.heap.size w4 w5 := by rw [← hw5]; exact sx_setRow _ _ _
    have hk5 : KeepT w4 w5 := by rw [← hw5]; exact KeepT.setRow (cs := cs.toList) h5b stT_state cs2
    have hfin : RndR w3.heap.size (Below w.heap.size) (RpI w w3.heap.size w1.heap.size s) (pre ++ [(.agg csr, xs)]) W .normal { tmps := #[], defers := [] } w5 := by
      have hne : ∀ k, k < W.heap.size → k ≠ b → k ≠ w1.heap.size → w5.heap[k]? = W.heap[k]? := fun k h1 h2 h3 => (hsx.block k h3).trans (hf.block k h1 h2)
      have hb25 : b2 ≠ w1.heap.size := by rcases hbo with q | q; · rw [q]; exact HBs.out.2.1
                                          · omega
      have hz3 := HZ3.out
      have hz1 := HZ1.out
      have hbw : Below w.heap.size W w5 := ⟨hsx.os.trans hf.os, hsx.tape.trans hf.tape, hsx.output.trans hf.output, by rw [hsx.size]; exact hf.size, fun k hk => hne k (by omega) (by have := HBs.out.1; omega) (by omega)⟩
      refine ⟨⟨hne _ (by omega) (Ne.symm HBs.out.2.2.1) (by omega), hne _ hlw (Ne.symm HBs.out.2.2.2) (by omega)⟩, hbw, ⟨?_, ⟨cs2, b2, ?_, ?_, ?_, hb25, ?_, ?_⟩, HI.out.low.trans hbw, ?_, hWz.1, hWz.2.1, ?_⟩⟩
      · exact (hne _ (by omega) (by have := HBs.out.1; omega) (by omega)).trans HI.out.out
      · rw [← hw5]; exact heap_setRow_same _ _ cs cs2 _ h5b
      · rw [List.map_append, List.map_cons, List.map_nil, rplG_snoc]
        exact hs2.keepT hk5 (hsx.block _ hb25)
      · rcases hbo with q | q
        · rw [q]; exact HBs.out.1
        · omega
      · rcases hbo with q | q
        · rw [q]; exact HBs.out.2.2.1
        · omega
      · rcases hbo with q | q
        · rw [q]; exact HBs.out.2.2.2
        · omega
      · rw [List.map_append, List.map_cons, List.map_nil, rplG_snoc, List.length_append]
        exact HBd.out
      · rw [hsx.size]; have := hf.size; omega
    have HFin := Hd hfin
    clear he hs2 hbo hf hlit h5b hw5 hsx hk5 hfin hWz
    gi_wp2_with (refine wpListIn_store_rnm rfl 37 _ _ rfl w1.heap.size rfl cs2 rfl cs 37 H5b.out (by rw [HS6.out]; exact HI6.out) (by rw [HS6.out]; exact HSz6.out) HOne.out w5 HW5.out ?_)
    exact HFin.out
  case done =>
    rintro xs W hf hI hK
    obtain ⟨cs, b, h5, hst, hb2, hb5, hbz, hbz1⟩ := hI.st
    have hbig := hI.big
    rw [hf, rplG_good] at hst
    have hlt := hst.lt
    obtain ⟨e1, n1, d1, e2, n2, d2, e3, n3, d3, e4, n4, d4, hlit⟩ := hst.lit
    have HOne : Hid (cs.all (·.oneCell') = true) := Hd (by rw [hlit, ← Array.all_toList]; rfl)
    have HS6 : Hid (cs.size = 6) := Hd (by rw [hlit]; rfl)
    obtain ⟨w5, hw5⟩ : ∃ q, W.setRow (w.heap.size + 1) cs = q := ⟨_, rfl⟩
    have H5 := Hd h5
    have HOut := Hd hI.out
    have HW5 := Hd hw5
    have hsx : Sx (w.heap.size + 1) W w5 := by rw [← hw5]; exact sx_setRow _ _ _
    have hK5 : w5.heap[w3.heap.size]? = some (.deferred (some [])) := (hsx.block _ (by omega)).trans hK
    have hrow5 : w5.heap[w.heap.size + 1]? = some (.cells cs 37 (0, 0)) := by rw [← hw5]; exact heap_setRow_same _ _ Z6 cs _ hI.out
    have hk5 : KeepT W w5 := by rw [← hw5]; exact KeepT.setRow (cs := Z6.toList) hI.out stT_state cs
    have hst5 := hst.keepT hk5 (hsx.block _ (by omega))
    have hbw : Below w.heap.size w w5 := hI.low.trans ⟨hsx.os, hsx.tape, hsx.output, by rw [hsx.size]; exact Nat.le_refl _, fun k hk => hsx.block k (by omega)⟩
    have hst6 := hst5.keepT (fun k cs T fr q _ => put_alike2 (o' := .deferred none) hK5 rfl k cs T fr q) (World.putObj_heap_other hbz)
    have hrow6 := (put_alike2 (o' := .deferred none) hK5 rfl _ _ _ _ hrow5).trans hrow5
    have hbw6 := hbw.trans (put_below2 (W := w5) (n₀ := w.heap.size) (l := w3.heap.size) (.deferred none) (by omega))
    have HK5 := Hd hK5
    have HFin : Hid (StIs (w5.putObj w3.heap.size (.deferred none)) cs b (rplR s bs).1 (rplR s bs).2.1 (rplR s bs).2.2 ∧ w.heap.size ≤ b ∧ Below w.heap.size w (w5.putObj w3.heap.size (.deferred none))) := Hd ⟨hst6, by omega, hbw6⟩
    have HR6 := Hd hrow6
    clear hst hst5 hst6 hrow6 hbw hbw6 hrow5 hk5 hsx hw5 hlit hb5 hbz hbz1 hK5 hK h5 hI hf HI0 HSeq hlt
    gi_wp2_with (first | refine wpListIn_load_row rfl _ _ rfl w1.heap.size rfl 37 cs (0, 0) _ H5.out Tryz.underlying37 rfl (by rw [HS6.out]; exact HI6.out) ?_ | refine wpListIn_store_rnm rfl 37 _ _ rfl (w.heap.size + 1) rfl cs rfl Z6 37 HOut.out (by rw [HS6.out]; exact HI6.out) (by rw [HS6.out]; rfl) HOne.out w5 HW5.out ?_)
    refine ⟨(by simp), .inl ⟨_, _, rfl, run_takeDeferred HK5.out, ?_⟩⟩
    exact ⟨.agg cs, results_cell_row (p := 4) (ty := 37) rfl _ _ (w.heap.size + 1) 37 cs (0, 0) _ rfl HR6.out Tryz.underlying37 rfl (by rw [HS6.out]; exact HI6.out), cs, b, Hd rfl, HFin.out⟩
def insA : Ins := (1, (0, 0), (0, 0), (0, 0, 0, ⟨#[]⟩, ⟨#[]⟩, 0, 0, 0), 0, [])
def insZ : Ins := (0, (0, 0), (0, 0), (0, 0, 0, ⟨#[]⟩, ⟨#[]⟩, 0, 0, 0), 0, [])
def snpZ : Snp := ((0, []), [], [])
def snpA : Snp := ((0, [1]), [], [])
def snpB : Snp := ((1, [2]), [], [])
def recA : Rec4 := (false, (0, 1, 4), insA, snpZ)
def recB : Rec4 := (true, (0, 0, 0), insZ, snpB)
abbrev RA : Array Value := #[.bool false, .int .i64 0, .int .i64 1, .int .i64 4, .int .i64 1, .int .i64 0, .int .i64 0, .int .i64 0, .int .i64 0, .int .i64 0, .int .i64 0, .int .i64 0, .string ⟨#[]⟩, .string ⟨#[]⟩, .int .i64 0, .int .i64 0, .int .i64 0, .int .i64 0, .slice none 0 0, .int .i64 0, .slice none 0 0, .slice none 0 0, .slice none 0 0]
theorem recA_is (W : World) : RecIs W (.agg RA) recA :=
 ⟨RA, rfl, rc_mk (x := recA) (in_mk (x := insA) (u := .slice none 0 0) (by decide) (by decide) row_nil) (sn_mk (x := snpZ) row_nil row_nil row_nil)⟩
theorem recA_good : rcGood recA := by decide +kernel
theorem recA_few : (eF (rcFs recA)).length ≤ 1000 := by decide +kernel
theorem recA_rd : rplR snpA [eF (rcFs recA)] = (snpA, [(0, 1, 4)], [((0, 1, 4), insA)]) := by
 have h := rcRd_back recA_good
 unfold rplR stpR
 simp only [List.foldl_cons, List.foldl_nil, h]
 rw [if_pos (by decide)]
 unfold wth
 rw [if_neg (by decide), if_neg (by decide)]
 have h1 : hasI [] recA.2.1 = false := by decide +kernel
 have h2 : uniI [] [recA.2.1] = [(0, 1, 4)] := by decide +kernel
 simp only [h1, h2, Bool.false_eq_true, if_false]
 rfl
theorem recB_wth : wth snpA [(0, 1, 4)] [((0, 1, 4), insA)] recB = (snpB, [], []) := by
 unfold wth
 rw [if_pos (by decide +kernel)]
 rfl
theorem nx1 : nxtN 1 [(0, 1, 4)] = 5 := by decide +kernel
theorem nx2 : nxtN 2 [(0, 1, 4)] = 0 := by decide +kernel
theorem row_one1 (n : Int) (w : World) (g : Nat) (hg : w.heap.size = g) : RowIs KN numS (w.alloc (.cells #[.int .i64 n] 3)) (.slice (some ⟨g, 0, none⟩) 1 1) [⟨[.int .i64 n], rfl, by simp [Value.oneCell']⟩] [n] := by
 refine ⟨KN.rd_lit [⟨[.int .i64 n], rfl, by simp [Value.oneCell']⟩] 3 1 1 rfl (by simp [maxLen]) w g hg, rfl, fun j h1 h2 => ?_⟩
 match j, h1 with
 | 0, _ => rfl
theorem sn_one (e n : Int) (w : World) (g : Nat) (hg : w.heap.size = g) : snS.is (w.alloc (.cells #[.int .i64 n] 3)) [.int .i64 e, .slice (some ⟨g, 0, none⟩) 1 1, .slice none 0 0, .slice none 0 0] ((e, [n]), [], []) :=
 sn_mk (x := ((e, [n]), [], [])) (row_one1 n w g hg) row_nil row_nil
theorem bod_one (u : Value) (xs : List Int) (w : World) (g : Nat) (hg : w.heap.size = g) (hb : Bt w u xs) : BodR (w.alloc (.cells #[u] 33)) (.slice (some ⟨g, 0, none⟩) 1 1) [xs] := by
 subst hg
 refine ⟨⟨_, _, rfl⟩, fun k hk => ?_⟩
 match k, hk with
 | 0, _ =>
  refine ⟨w.heap.size, 0, 1, u, rfl, by simp, ?_, hb.below ((Below.refl _ _).alloc (Nat.le_refl _) _)⟩
  rw [cell_of_row _ _ 0 _ _ _ (heap_alloc_new w (.cells #[u] 33))]
  rfl
/-- A state's cells, its lists by their lengths. -/
theorem StIs.lit2 {w : World} {cs : Array Value} {b : Nat} {x : Snp} {L : List I3} {M : List (I3 × Ins)} (h : StIs w cs b x L M) : ∃ (a1 : Option Addr) (c1 : Nat) (a2 : Option Addr) (c2 : Nat) (a3 : Option Addr) (c3 : Nat) (a4 : Option Addr) (c4 : Nat), cs = #[.int .i64 x.1.1, .slice a1 x.1.2.length c1, .slice a2 x.2.1.length c2, .slice a3 x.2.2.length c3, .slice a4 L.length c4, .map (some b)] ∧ snS.is w [.int .i64 x.1.1, .slice a1 x.1.2.length c1, .slice a2 x.2.1.length c2, .slice a3 x.2.2.length c3] x := by
 obtain ⟨v1, v2, v3, v4, hcs, hsn, hik⟩ := h.cells
 have hs := hsn.sn
 obtain ⟨a1, c1, a2, c2, a3, c3, e1, e2, e3⟩ := hsn.slices
 obtain ⟨a4, c4, e4⟩ := hik.slice
 subst e1 e2 e3 e4
 exact ⟨_, _, _, _, _, _, _, _, hcs, hs⟩
theorem lookA {w : World} {cs : Array Value} {b : Nat} {x : Snp} {L : List I3} (h : StIs w cs b x L [((0, 1, 4), insA)]) : ∃ u : Value, (Instr.lookup 35 (.map (some b)) (idW (0, 1, 4)) false).run Tryz.prog w = .ok (.agg #[.int .i64 1, .int .i64 0, .int .i64 0, .int .i64 0, .int .i64 0, .int .i64 0, .int .i64 0, .int .i64 0, .string ⟨#[]⟩, .string ⟨#[]⟩, .int .i64 0, .int .i64 0, .int .i64 0, .int .i64 0, u]) w := by
 obtain ⟨E, k1, k2⟩ := h.mv
 have hrun := k1.look (t := 35) Tryz.underlying35 (z := .agg #[.int .i64 0, .int .i64 0, .int .i64 0, .int .i64 0, .int .i64 0, .int .i64 0, .int .i64 0, .int .i64 0, .string ⟨#[]⟩, .string ⟨#[]⟩, .int .i64 0, .int .i64 0, .int .i64 0, .int .i64 0, .slice none 0 0]) (by kernel_rfl) (x := (0, 1, 4)) ⟨rfl, rfl, rfl⟩
 have hsome : (getV E (0, 1, 4)).isSome = true := by
  rw [getV_isSome, k2.keys]
  decide +kernel
 obtain ⟨v, hv⟩ := Option.isSome_iff_exists.1 hsome
 obtain ⟨y, h1, u, h2, _⟩ := k2.at' _ _ hv
 have hy : y = insA := by
  have : getV [(((0, 1, 4) : I3), insA)] (0, 1, 4) = some insA := by simp [getV]
  rw [this] at h1
  cases h1; rfl
 subst hy
 subst h2
 rw [hv] at hrun
 exact ⟨u, hrun⟩
theorem wpList_lookG {P : Program} {ops : Array Oper} {rest : List Oper} {o : Oper} {a : Act} {w : World} {Q : Exit → Act → World → Prop} (hw : Region.wanted o (yielded ops a.tmps) = true) (m x : Operand) (t : TypeId) (ho : o.op = .lookup t m x false) (vm vx : Value) (hm : a.eval m = vm) (hx : a.eval x = vx) (v : Value) (hrun : (Instr.lookup t vm vx false).run P w = .ok v w) (h : wpList P ops Q rest (a.put o.dst v) w) : wpList P ops Q (o :: rest) a w := by
 refine wpList_value hw v w ?_ h
 simp [execOp, ho, hm, hx, hrun, Result.andThen]
theorem works18_any (w : World) : Calls Tryz.prog 6 #[] w fun e w' => e = .returned (.bool true) ∧ Below w.heap.size w w' := by
 have HI6 : Hid ((Tryz.prog.info? 37).map (·.size) = some 6) := Hd (by kernel_rfl)
 go_enter Tryz.func6, Tryz.ntmps6
 go_wp2_with fail
 refine (putG _ recA _ (recA_is _)).mono ?_
 rintro e w1 (⟨-, u, he, ho, hb⟩ | ⟨hn, -⟩)
 rotate_left
 ·exact absurd recA_good hn
 rw [he.out]
 have HB1 := Hd (((Below.refl w.heap.size w).alloc (Nat.le_refl _) (.cells #[.int .i64 0, .int .i64 1, .int .i64 4] 49)).trans (hb.mono (by simp)))
 have HP := Hd ((Bk.new w 49 [.int .i64 0, .int .i64 1, .int .i64 4]).below hb)
 have hbt := ho.bt (by have := recA_few; omega)
 obtain ⟨ua, uc, hu⟩ := ho.slice
 obtain ⟨un, hun⟩ : ∃ q, (eF (rcFs recA)).length = q := ⟨_, rfl⟩
 rw [hun] at hu
 subst hu
 obtain ⟨xs, hxs⟩ : ∃ q, eF (rcFs recA) = q := ⟨_, rfl⟩
 have HXs := Hd hxs
 rw [hxs] at hbt
 have hxl : xs.length ≤ 1000 := by rw [← hxs]; exact recA_few
 have hbyt : BytL xs := by rw [← hxs]; exact eF_byte recA_good.2
 obtain ⟨w2, hw2⟩ : ∃ q, (w1.alloc (.cells #[.int .i64 1] 3)).alloc (.cells #[.slice ua un uc] 33) = q := ⟨_, rfl⟩
 have hz2 : w2.heap.size = w1.heap.size + 2 := by rw [← hw2]; simp
 have hb12 : Below w1.heap.size w1 w2 := by rw [← hw2]; exact ((Below.refl _ _).alloc (Nat.le_refl _) _).alloc (by simp) _
 have HR := Hd (replay_any snpA #[.int .i64 0, .slice (some ⟨w1.heap.size, 0, none⟩) 1 1, .slice none 0 0, .slice none 0 0] (.slice (some ⟨w1.heap.size + 1, 0, none⟩) 1 1) [xs] w2
  (by rw [← hw2]; exact snS.keep (sn_one 0 1 w1 _ rfl) ((Below.refl _ _).alloc (Nat.le_refl _) _)) ⟨by decide, by decide, by decide, fun z hz => by cases hz⟩
  (by rw [← hw2]; exact bod_one _ xs (w1.alloc (.cells #[.int .i64 1] 3)) _ (by simp) (hbt.below ((Below.refl _ _).alloc (Nat.le_refl _) _)))
  (fun b hb => by rw [List.mem_singleton.1 hb]; exact hbyt) (fun b hb => by rw [List.mem_singleton.1 hb]; omega) (by simp))
 have HB2 := Hd (HB1.out.trans (hb12.mono HB1.out.size))
 have HP2 := Hd (HP.out.below hb12)
 have HW2 := Hd hw2
 clear he ho hb hbt hun hxs hbyt hb12 hw2 hxl HB1 HP
 go_wp2_with fail
 rw [HW2.out]
 refine HR.out.mono ?_
 rintro e w3 ⟨cs0, b0, he, hst, hb0, hb⟩
 rw [he.out]
 rw [← HXs.out, recA_rd] at hst
 obtain ⟨a1, c1, a2, c2, a3, c3, a4, c4, hcs, _⟩ := hst.lit2
 replace hcs : cs0 = #[.int .i64 0, .slice a1 1 c1, .slice a2 0 c2, .slice a3 0 c3, .slice a4 1 c4, .map (some b0)] := hcs
 subst hcs
 obtain ⟨w4, hw4⟩ : ∃ q, w3.alloc (.cells #[.int .i64 0, .slice a1 1 c1, .slice a2 0 c2, .slice a3 0 c3, .slice a4 1 c4, .map (some b0)] 37) = q := ⟨_, rfl⟩
 have hb34 : Below w3.heap.size w3 w4 := by rw [← hw4]; exact (Below.refl _ _).alloc (Nat.le_refl _) _
 have HSt := Hd (hst.on hb34)
 have HP4 : Hid (Bk w4 w3.heap.size 37 [.int .i64 0, .slice a1 1 c1, .slice a2 0 c2, .slice a3 0 c3, .slice a4 1 c4, .map (some b0)]) := Hd (by rw [← hw4]; exact Bk.new w3 _ [.int .i64 0, .slice a1 1 c1, .slice a2 0 c2, .slice a3 0 c3, .slice a4 1 c4, .map (some b0)])
 have hb24 : Below w2.heap.size w2 w4 := hb.trans (hb34.mono hb.size)
 have HB4 := Hd (HB2.out.trans (hb24.mono HB2.out.size))
 have HP1 := Hd (HP2.out.below hb24)
 have HW4 := Hd hw4
 have HZ4 : Hid (w4.heap.size = w3.heap.size + 1) := Hd (by rw [← hw4]; simp)
 clear he hst hb0 hb hb34 hb24 hw4 HB2 HP2 HR HW2 hz2 HXs
 go_wp2_with fail
 obtain ⟨w5, hw5⟩ : ∃ q, w4.alloc (.cells #[.int .i64 2] 3) = q := ⟨_, rfl⟩
 have hb45 : Below w4.heap.size w4 w5 := by rw [← hw5]; exact (Below.refl _ _).alloc (Nat.le_refl _) _
 have HAd := Hd (add_any snpA [(0, 1, 4)] [((0, 1, 4), insA)] #[.int .i64 0, .slice a1 1 c1, .slice a2 0 c2, .slice a3 0 c3, .slice a4 1 c4, .map (some b0)] b0 (.agg #[.bool true, .int .i64 0, .int .i64 0, .int .i64 0, .int .i64 0, .int .i64 0, .int .i64 0, .int .i64 0, .int .i64 0, .int .i64 0, .int .i64 0, .int .i64 0, .string ⟨#[]⟩, .string ⟨#[]⟩, .int .i64 0, .int .i64 0, .int .i64 0, .int .i64 0, .slice none 0 0, .int .i64 1, .slice (some ⟨w3.heap.size + 1, 0, none⟩) 1 1, .slice none 0 0, .slice none 0 0]) recB w5 (HSt.out.on hb45)
  ⟨#[.bool true, .int .i64 0, .int .i64 0, .int .i64 0, .int .i64 0, .int .i64 0, .int .i64 0, .int .i64 0, .int .i64 0, .int .i64 0, .int .i64 0, .int .i64 0, .string ⟨#[]⟩, .string ⟨#[]⟩, .int .i64 0, .int .i64 0, .int .i64 0, .int .i64 0, .slice none 0 0, .int .i64 1, .slice (some ⟨w3.heap.size + 1, 0, none⟩) 1 1, .slice none 0 0, .slice none 0 0], rfl, by rw [← hw5]; exact rc_mk (x := recB) (in_mk (x := insZ) (u := .slice none 0 0) (by decide) (by decide) row_nil) (sn_one 1 2 w4 _ HZ4.out)⟩
  ⟨by decide, by decide, by decide, fun z hz => by cases hz⟩ (by decide) (by decide) (fun id y e => by
   have e2 : id = (0, 1, 4) ∧ y = insA := by
    unfold getV at e
    by_cases q : ((0, 1, 4) : I3) = id
    ·subst q; simp at e; exact ⟨rfl, e.symm⟩
    ·simp [q] at e
   rw [e2.2]; decide) ⟨rfl, rfl, rfl⟩ (by decide) ⟨by decide, by decide, by decide, fun z hz => by cases hz⟩)
 have HB5 := Hd (HB4.out.trans (hb45.mono HB4.out.size))
 have HP15 := Hd (HP1.out.below hb45)
 have HP45 := Hd (HP4.out.below hb45)
 have HSt5 := Hd (HSt.out.on hb45)
 have HW5 := Hd hw5
 clear hb45 hw5 HSt HP4 HB4 HP1
 rw [HW4.out, HW5.out]
 refine HAd.out.mono ?_
 rintro e w6 ⟨cs1, b1, he, hst, hb0, hb⟩
 rw [he.out]
 rw [recB_wth] at hst
 obtain ⟨d1, f1, d2, f2, d3, f3, d4, f4, hcs, _⟩ := hst.lit2
 replace hcs : cs1 = #[.int .i64 1, .slice d1 1 f1, .slice d2 0 f2, .slice d3 0 f3, .slice d4 0 f4, .map (some b1)] := hcs
 subst hcs
 obtain ⟨w7, hw7⟩ : ∃ q, w6.alloc (.cells #[.int .i64 1, .slice d1 1 f1, .slice d2 0 f2, .slice d3 0 f3, .slice d4 0 f4, .map (some b1)] 37) = q := ⟨_, rfl⟩
 have hb67 : Below w6.heap.size w6 w7 := by rw [← hw7]; exact (Below.refl _ _).alloc (Nat.le_refl _) _
 have hst7 := hst.on hb67
 have HP5 : Hid (Bk w7 w6.heap.size 37 [.int .i64 1, .slice d1 1 f1, .slice d2 0 f2, .slice d3 0 f3, .slice d4 0 f4, .map (some b1)]) := Hd (by rw [← hw7]; exact Bk.new w6 _ [.int .i64 1, .slice d1 1 f1, .slice d2 0 f2, .slice d3 0 f3, .slice d4 0 f4, .map (some b1)])
 have hb57 : Below w5.heap.size w5 w7 := hb.trans (hb67.mono hb.size)
 have HB7 := Hd (HB5.out.trans (hb57.mono HB5.out.size))
 have HP1 := Hd (HP15.out.below hb57)
 have HP4 := Hd (HP45.out.below hb57)
 have hst4 := HSt5.out.on hb57
 have HW7 := Hd hw7
 have HX := Hd (Below.refl w7.heap.size w7)
 have HLk := Hd (fun (W : World) (hW : Below w7.heap.size w7 W) => lookA (hst4.on hW))
 have HN1 := Hd (fun (W : World) (hW : Below w7.heap.size w7 W) => next_any snpA [(0, 1, 4)] [((0, 1, 4), insA)] #[.int .i64 0, .slice a1 1 c1, .slice a2 0 c2, .slice a3 0 c3, .slice a4 1 c4, .map (some b0)] b0 1 W (hst4.on hW) (by decide))
 rw [nx1] at HN1
 have HN2 := Hd (fun (W : World) (hW : Below w7.heap.size w7 W) => next_any snpA [(0, 1, 4)] [((0, 1, 4), insA)] #[.int .i64 0, .slice a1 1 c1, .slice a2 0 c2, .slice a3 0 c3, .slice a4 1 c4, .map (some b0)] b0 2 W (hst4.on hW) (by decide))
 rw [nx2] at HN2
 obtain ⟨_, _, _, _, _, _, _, _, q4, hs4⟩ := hst4.lit2
 obtain ⟨_, _, _, _, _, _, _, _, q5, hs5⟩ := hst7.lit2
 simp only [Array.mk.injEq, List.cons.injEq, and_true, true_and, Value.slice.injEq, Value.map.injEq, Option.some.injEq] at q4 q5
 obtain ⟨-, ⟨rfl, -, rfl⟩, ⟨rfl, -, rfl⟩, ⟨rfl, -, rfl⟩, -⟩ := q4
 obtain ⟨-, ⟨rfl, -, rfl⟩, ⟨rfl, -, rfl⟩, ⟨rfl, -, rfl⟩, -⟩ := q5
 have HS55 := Hd (fun (W : World) (hW : Below w7.heap.size w7 W) => by
  have h := recSame snpB snpB #[.int .i64 1, .slice d1 1 f1, .slice d2 0 f2, .slice d3 0 f3] #[.int .i64 1, .slice d1 1 f1, .slice d2 0 f2, .slice d3 0 f3] w7 W hs5 hs5 hW ⟨by decide, by decide, by decide, fun z hz => by cases hz⟩
  rw [decide_eq_true (rfl : snpB = snpB)] at h
  exact h)
 have HS45 := Hd (fun (W : World) (hW : Below w7.heap.size w7 W) => by
  have h := recSame snpA snpB #[.int .i64 0, .slice a1 1 c1, .slice a2 0 c2, .slice a3 0 c3] #[.int .i64 1, .slice d1 1 f1, .slice d2 0 f2, .slice d3 0 f3] w7 W hs4 hs5 hW ⟨by decide, by decide, by decide, fun z hz => by cases hz⟩
  rw [decide_eq_false (show ¬ snpA = snpB from fun e => absurd (congrArg (fun z => z.1.1) e) (by decide))] at h
  exact h)
 clear he hst hb0 hb hb67 hb57 hw7 hst4 hst7 HB5 HP15 HP45 HSt5 HAd HW5 hs4 hs5
 go_upto_region 5 with fail
 rw [HW7.out]
 have p0 := ((HP4.out.below HX.out).cell 0)
 have p1 := ((HP4.out.below HX.out).cell 1)
 have p2 := ((HP4.out.below HX.out).cell 2)
 have p3 := ((HP4.out.below HX.out).cell 3)
 have p4 := ((HP4.out.below HX.out).cell 4)
 have p5 := ((HP4.out.below HX.out).cell 5)
 simp only [gB] at p0 p1 p2 p3 p4 p5
 have q0 := ((HP5.out.below HX.out).cell 0)
 have q1 := ((HP5.out.below HX.out).cell 1)
 have q2 := ((HP5.out.below HX.out).cell 2)
 have q3 := ((HP5.out.below HX.out).cell 3)
 have q4 := ((HP5.out.below HX.out).cell 4)
 have q5 := ((HP5.out.below HX.out).cell 5)
 simp only [gB] at q0 q1 q2 q3 q4 q5
 have i0 := ((HP1.out.below HX.out).cell 0)
 have i1 := ((HP1.out.below HX.out).cell 1)
 have i2 := ((HP1.out.below HX.out).cell 2)
 simp only [gB] at i0 i1 i2
 go_wp2_with fail
 refine (HN1.out _ HX.out).mono ?_
 rintro e y1 ⟨rfl, hb⟩
 clear p0 q0 p1 q1 p2 q2 p3 q3 p4 q4 p5 q5 i0 i1 i2
 have HX1 := Hd ((HX.out).trans (hb.mono HX.out.size))
 clear HX hb
 have HX := HX1
 clear HX1
 have p0 := ((HP4.out.below HX.out).cell 0)
 have p1 := ((HP4.out.below HX.out).cell 1)
 have p2 := ((HP4.out.below HX.out).cell 2)
 have p3 := ((HP4.out.below HX.out).cell 3)
 have p4 := ((HP4.out.below HX.out).cell 4)
 have p5 := ((HP4.out.below HX.out).cell 5)
 simp only [gB] at p0 p1 p2 p3 p4 p5
 have q0 := ((HP5.out.below HX.out).cell 0)
 have q1 := ((HP5.out.below HX.out).cell 1)
 have q2 := ((HP5.out.below HX.out).cell 2)
 have q3 := ((HP5.out.below HX.out).cell 3)
 have q4 := ((HP5.out.below HX.out).cell 4)
 have q5 := ((HP5.out.below HX.out).cell 5)
 simp only [gB] at q0 q1 q2 q3 q4 q5
 have i0 := ((HP1.out.below HX.out).cell 0)
 have i1 := ((HP1.out.below HX.out).cell 1)
 have i2 := ((HP1.out.below HX.out).cell 2)
 simp only [gB] at i0 i1 i2
 go_wp2_with fail
 refine (HN2.out _ HX.out).mono ?_
 rintro e y2 ⟨rfl, hb⟩
 clear p0 q0 p1 q1 p2 q2 p3 q3 p4 q4 p5 q5 i0 i1 i2
 have HX2 := Hd ((HX.out).trans (hb.mono HX.out.size))
 clear HX hb
 have HX := HX2
 clear HX2
 have p0 := ((HP4.out.below HX.out).cell 0)
 have p1 := ((HP4.out.below HX.out).cell 1)
 have p2 := ((HP4.out.below HX.out).cell 2)
 have p3 := ((HP4.out.below HX.out).cell 3)
 have p4 := ((HP4.out.below HX.out).cell 4)
 have p5 := ((HP4.out.below HX.out).cell 5)
 simp only [gB] at p0 p1 p2 p3 p4 p5
 have q0 := ((HP5.out.below HX.out).cell 0)
 have q1 := ((HP5.out.below HX.out).cell 1)
 have q2 := ((HP5.out.below HX.out).cell 2)
 have q3 := ((HP5.out.below HX.out).cell 3)
 have q4 := ((HP5.out.below HX.out).cell 4)
 have q5 := ((HP5.out.below HX.out).cell 5)
 simp only [gB] at q0 q1 q2 q3 q4 q5
 have i0 := ((HP1.out.below HX.out).cell 0)
 have i1 := ((HP1.out.below HX.out).cell 1)
 have i2 := ((HP1.out.below HX.out).cell 2)
 simp only [gB] at i0 i1 i2
 obtain ⟨u, hlk⟩ := HLk.out _ HX.out
 have hf1 : ∀ W : World, (Instr.field 59 (.agg #[.int .i64 1, .int .i64 0, .int .i64 0, .int .i64 0, .int .i64 0, .int .i64 0, .int .i64 0, .int .i64 0, .string ⟨#[]⟩, .string ⟨#[]⟩, .int .i64 0, .int .i64 0, .int .i64 0, .int .i64 0, u]) 0).run Tryz.prog W = .ok (.int .i64 1) W := fun W => by kernel_rfl
 go_wp2_with (refine wpList_lookG rfl _ _ _ rfl (.map (some b0)) (idW (0, 1, 4)) rfl rfl _ hlk ?_)
 refine (HS55.out _ HX.out).mono ?_
 rintro e y3 ⟨he, hb⟩
 rw [he.out]
 clear he hlk hf1
 clear p0 q0 p1 q1 p2 q2 p3 q3 p4 q4 p5 q5 i0 i1 i2
 have HX3 := Hd ((HX.out).trans (hb.mono HX.out.size))
 clear HX hb
 have HX := HX3
 clear HX3
 have p0 := ((HP4.out.below HX.out).cell 0)
 have p1 := ((HP4.out.below HX.out).cell 1)
 have p2 := ((HP4.out.below HX.out).cell 2)
 have p3 := ((HP4.out.below HX.out).cell 3)
 have p4 := ((HP4.out.below HX.out).cell 4)
 have p5 := ((HP4.out.below HX.out).cell 5)
 simp only [gB] at p0 p1 p2 p3 p4 p5
 have q0 := ((HP5.out.below HX.out).cell 0)
 have q1 := ((HP5.out.below HX.out).cell 1)
 have q2 := ((HP5.out.below HX.out).cell 2)
 have q3 := ((HP5.out.below HX.out).cell 3)
 have q4 := ((HP5.out.below HX.out).cell 4)
 have q5 := ((HP5.out.below HX.out).cell 5)
 simp only [gB] at q0 q1 q2 q3 q4 q5
 have i0 := ((HP1.out.below HX.out).cell 0)
 have i1 := ((HP1.out.below HX.out).cell 1)
 have i2 := ((HP1.out.below HX.out).cell 2)
 simp only [gB] at i0 i1 i2
 go_wp2_with fail
 refine (HS45.out _ HX.out).mono ?_
 rintro e y4 ⟨he, hb⟩
 rw [he.out]
 clear he
 clear p0 q0 p1 q1 p2 q2 p3 q3 p4 q4 p5 q5 i0 i1 i2
 have HX4 := Hd ((HX.out).trans (hb.mono HX.out.size))
 clear HX hb
 have HX := HX4
 clear HX4
 go_wp2_with fail
 go_ret
 exact ⟨rfl, HB7.out.trans (HX.out.mono HB7.out.size)⟩
end Go.Proofs.YtnancdbkmompdaaGreat
