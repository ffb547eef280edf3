/-
 The walk of RecordSame.
-/
import Derived.Test.YtnancdbkmompdaaGreatRdaS
namespace Go.Proofs.YtnancdbkmompdaaGreat
open Go.RowKit Go.Sort Go.Shelf
set_option linter.unusedSimpArgs false
set_option linter.unusedVariables false

theorem take_textR {P : Program} {ρ : Operand → Value} {o : Oper} {w : World} (src dst : TypeId) (x : Operand) (ho : o.op = .convert src dst x) (e : TypeId) (hs : P.underlying src = some (.slice e)) (he : P.underlying e = some (.int .u8)) (hd : P.underlying dst = some .string) (v : Value) (xs : List Int) (hx : ρ x = v) (hb : Bt w v xs) :
  (execOp ρ o).run P w = .ok (.value (.string (txt xs))) w := by
 obtain ⟨ad, cap, rfl, h1, h2⟩ := hb.row
 unfold execOp
 simp only [ho, hx, run_text h1 h2 hs he hd, Sem.run_bind, Sem.run_pure, Result.andThen_ok]
theorem take_eqS {P : Program} {ρ : Operand → Value} {o : Oper} {w : World} (ty u : TypeId) (x y : Operand) (ho : o.op = .binOp .eql ty x y u) (hu : P.underlying ty = some .string) (s t : ByteArray) (hx : ρ x = .string s) (hy : ρ y = .string t) (E : Bool) (he : (s.toList == t.toList) = E) :
  (execOp ρ o).run P w = .ok (.value (.bool E)) w := by
 unfold execOp
 simp only [ho, hx, hy]
 go_simp
theorem own8_len {w : World} {b : Nat} {v : Value} {xs : List Int} (h : Own8 w b v xs) : xs.length ≤ 9223372036854775807 := by
 rcases h.2 with ⟨_, q⟩ | ⟨g, cap, cur, _, _, _, q1, q2, _⟩
 ·omega
 ·unfold maxLen at q2
  omega
set_option maxRecDepth 100000 in
set_option maxHeartbeats 8000000 in
theorem same_law (x y : Snp) (ca cb : Array Value) (W : World) (ha : snS.is W ca.toList x) (hb : snS.is W cb.toList y) : Calls Tryz.prog 5 #[.agg ca, .agg cb] W fun e w' => e = .returned (.bool true) ∧ Below W.heap.size W w' := by
 obtain ⟨a1, m1, c1, rs1, a2, m2, c2, rs2, a3, m3, c3, rs3, hca, -, -, -⟩ := sn_is ha
 obtain ⟨d1, k1, e1, ss1, d2, k2, e2, ss2, d3, k3, e3, ss3, hcb, -, -, -⟩ := sn_is hb
 obtain ⟨n0, hn0⟩ : ∃ q, x.1.1 = q := ⟨_, rfl⟩
 obtain ⟨j0, hj0⟩ : ∃ q, y.1.1 = q := ⟨_, rfl⟩
 obtain rfl : ca = #[.int .i64 n0, .slice a1 m1 c1, .slice a2 m2 c2, .slice a3 m3 c3] := by
  cases ca
  rw [← hn0]
  simpa [snV] using hca
 obtain rfl : cb = #[.int .i64 j0, .slice d1 k1 e1, .slice d2 k2 e2, .slice d3 k3 e3] := by
  cases cb
  rw [← hj0]
  simpa [snV] using hcb
 obtain ⟨X, hX⟩ : ∃ X, (W.alloc (.cells #[.int .i64 n0, .slice a1 m1 c1, .slice a2 m2 c2, .slice a3 m3 c3] 28)).alloc (.cells #[.int .i64 j0, .slice d1 k1 e1, .slice d2 k2 e2, .slice d3 k3 e3] 28) = X := ⟨_, rfl⟩
 have hB : Below W.heap.size W X := by rw [← hX]; exact ((Below.refl _ _).alloc (Nat.le_refl _) _).alloc (by simp) _
 have HPa : Hid (Bk X W.heap.size 28 [.int .i64 n0, .slice a1 m1 c1, .slice a2 m2 c2, .slice a3 m3 c3]) := Lib.hid (by rw [← hX]; exact (Bk.new W _ [.int .i64 n0, .slice a1 m1 c1, .slice a2 m2 c2, .slice a3 m3 c3]).old _)
 have HPb : Hid (Bk X (W.heap.size + 1) 28 [.int .i64 j0, .slice d1 k1 e1, .slice d2 k2 e2, .slice d3 k3 e3]) := Lib.hid (by rw [← hX]; have := Bk.new (W.alloc (.cells #[.int .i64 n0, .slice a1 m1 c1, .slice a2 m2 c2, .slice a3 m3 c3] 28)) 28 [.int .i64 j0, .slice d1 k1 e1, .slice d2 k2 e2, .slice d3 k3 e3]; simpa using this)
 have HBX := Lib.hid hB
 have HSa := Lib.hid (snS.keep ha hB)
 have HSb := Lib.hid (snS.keep hb hB)
 have HX := Lib.hid (Below.refl X.heap.size X)
 have HI4 : Hid ((Tryz.prog.info? 28).map (·.size) = some 4) := Lib.hid (by kernel_rfl)
 have HXX := Lib.hid hX
 clear ha hb hca hcb hn0 hj0 hB hX
 go_enter Tryz.func5, Tryz.ntmps5
 go_wp2_with fail
 rw [HXX.out]
 refine (works18_any _).mono ?_
 rintro e y1 ⟨rfl, hb⟩
 clear HXX
 have HXn := Lib.hid (HX.out.trans (hb.mono HX.out.size))
 clear HX hb
 have HX := HXn
 clear HXn
 have p0 := ((HPa.out.below HX.out).cell 0)
 have p1 := ((HPa.out.below HX.out).cell 1)
 have p2 := ((HPa.out.below HX.out).cell 2)
 have p3 := ((HPa.out.below HX.out).cell 3)
 simp only [List.getElem?_cons_zero, List.getElem?_cons_succ] at p0 p1 p2 p3
 have q0 := ((HPb.out.below HX.out).cell 0)
 have q1 := ((HPb.out.below HX.out).cell 1)
 have q2 := ((HPb.out.below HX.out).cell 2)
 have q3 := ((HPb.out.below HX.out).cell 3)
 simp only [List.getElem?_cons_zero, List.getElem?_cons_succ] at q0 q1 q2 q3
 go_wp2_with fail
 refine (little_any x #[.int .i64 n0, .slice a1 m1 c1, .slice a2 m2 c2, .slice a3 m3 c3] _ (snS.keep HSa.out HX.out)).mono ?_
 rintro e y2 ⟨r, he, hr, hb⟩
 rw [he.out]
 clear he
 have HXn := Lib.hid (HX.out.trans (hb.mono HX.out.size))
 clear HX hb
 have HX := HXn
 clear HXn
 clear p0 q0 p1 q1 p2 q2 p3 q3
 cases r with
 | false =>
  clear hr
  go_wp2_with fail
  go_ret
  exact ⟨rfl, HBX.out.trans (HX.out.mono HBX.out.size)⟩
 | true =>
 have HLx := Lib.hid (hr rfl)
 clear hr
 have p0 := ((HPa.out.below HX.out).cell 0)
 have p1 := ((HPa.out.below HX.out).cell 1)
 have p2 := ((HPa.out.below HX.out).cell 2)
 have p3 := ((HPa.out.below HX.out).cell 3)
 simp only [List.getElem?_cons_zero, List.getElem?_cons_succ] at p0 p1 p2 p3
 have q0 := ((HPb.out.below HX.out).cell 0)
 have q1 := ((HPb.out.below HX.out).cell 1)
 have q2 := ((HPb.out.below HX.out).cell 2)
 have q3 := ((HPb.out.below HX.out).cell 3)
 simp only [List.getElem?_cons_zero, List.getElem?_cons_succ] at q0 q1 q2 q3
 go_wp2_with fail
 refine (little_any y #[.int .i64 j0, .slice d1 k1 e1, .slice d2 k2 e2, .slice d3 k3 e3] _ (snS.keep HSb.out HX.out)).mono ?_
 rintro e y3 ⟨r, he, hr, hb⟩
 rw [he.out]
 clear he
 have HXn := Lib.hid (HX.out.trans (hb.mono HX.out.size))
 clear HX hb
 have HX := HXn
 clear HXn
 clear p0 q0 p1 q1 p2 q2 p3 q3
 cases r with
 | false =>
  clear hr
  go_wp2_with fail
  go_ret
  exact ⟨rfl, HBX.out.trans (HX.out.mono HBX.out.size)⟩
 | true =>
 have HLy := Lib.hid (hr rfl)
 clear hr
 have p0 := ((HPa.out.below HX.out).cell 0)
 have p1 := ((HPa.out.below HX.out).cell 1)
 have p2 := ((HPa.out.below HX.out).cell 2)
 have p3 := ((HPa.out.below HX.out).cell 3)
 simp only [List.getElem?_cons_zero, List.getElem?_cons_succ] at p0 p1 p2 p3
 have q0 := ((HPb.out.below HX.out).cell 0)
 have q1 := ((HPb.out.below HX.out).cell 1)
 have q2 := ((HPb.out.below HX.out).cell 2)
 have q3 := ((HPb.out.below HX.out).cell 3)
 simp only [List.getElem?_cons_zero, List.getElem?_cons_succ] at q0 q1 q2 q3
 go_wp2_with fail
 refine (putG _ (true, (0, 0, 0), insZ, x) _ ⟨#[.bool true, .int .i64 0, .int .i64 0, .int .i64 0, .int .i64 0, .int .i64 0, .int .i64 0, .int .i64 0, .int .i64 0, .int .i64 0, .int .i64 0, .int .i64 0, .string ⟨#[]⟩, .string ⟨#[]⟩, .int .i64 0, .int .i64 0, .int .i64 0, .int .i64 0, .slice none 0 0, .int .i64 n0, .slice a1 m1 c1, .slice a2 m2 c2, .slice a3 m3 c3], rfl, rc_mk (x := (true, (0, 0, 0), insZ, x)) (in_mk (x := insZ) (u := .slice none 0 0) (by decide) (by decide) row_nil) (snS.keep HSa.out HX.out)⟩).mono ?_
 rintro e y4 h4
 rcases h4 with ⟨hg1, u1, he, ho1, hb⟩ | ⟨-, he, hb⟩
 rotate_left
 ·rw [he.out]
  clear he
  have HXn := Lib.hid (HX.out.trans (hb.mono HX.out.size))
  clear HX hb
  have HX := HXn
  clear HXn
  clear p0 q0 p1 q1 p2 q2 p3 q3
  have p0 := ((HPa.out.below HX.out).cell 0)
  have p1 := ((HPa.out.below HX.out).cell 1)
  have p2 := ((HPa.out.below HX.out).cell 2)
  have p3 := ((HPa.out.below HX.out).cell 3)
  simp only [List.getElem?_cons_zero, List.getElem?_cons_succ] at p0 p1 p2 p3
  have q0 := ((HPb.out.below HX.out).cell 0)
  have q1 := ((HPb.out.below HX.out).cell 1)
  have q2 := ((HPb.out.below HX.out).cell 2)
  have q3 := ((HPb.out.below HX.out).cell 3)
  simp only [List.getElem?_cons_zero, List.getElem?_cons_succ] at q0 q1 q2 q3
  go_wp2_with fail
  refine (putG _ (true, (0, 0, 0), insZ, y) _ ⟨#[.bool true, .int .i64 0, .int .i64 0, .int .i64 0, .int .i64 0, .int .i64 0, .int .i64 0, .int .i64 0, .int .i64 0, .int .i64 0, .int .i64 0, .int .i64 0, .string ⟨#[]⟩, .string ⟨#[]⟩, .int .i64 0, .int .i64 0, .int .i64 0, .int .i64 0, .slice none 0 0, .int .i64 j0, .slice d1 k1 e1, .slice d2 k2 e2, .slice d3 k3 e3], rfl, rc_mk (x := (true, (0, 0, 0), insZ, y)) (in_mk (x := insZ) (u := .slice none 0 0) (by decide) (by decide) row_nil) (snS.keep HSb.out HX.out)⟩).mono ?_
  rintro e y5 h5
  rcases h5 with ⟨-, u2, he, -, hb⟩ | ⟨-, he, hb⟩
  ·rw [he.out]
   clear he
   have HXn := Lib.hid (HX.out.trans (hb.mono HX.out.size))
   clear HX hb
   have HX := HXn
   clear HXn
   clear p0 q0 p1 q1 p2 q2 p3 q3
   go_wp2_with fail
   go_ret
   exact ⟨rfl, HBX.out.trans (HX.out.mono HBX.out.size)⟩
  ·rw [he.out]
   clear he
   have HXn := Lib.hid (HX.out.trans (hb.mono HX.out.size))
   clear HX hb
   have HX := HXn
   clear HXn
   clear p0 q0 p1 q1 p2 q2 p3 q3
   go_wp2_with fail
   go_ret
   exact ⟨rfl, HBX.out.trans (HX.out.mono HBX.out.size)⟩
 rw [he.out]
 clear he
 obtain ⟨v1, w1, hu1⟩ := ho1.slice
 obtain ⟨l1, hl1⟩ : ∃ q, (eF (rcFs (true, (0, 0, 0), insZ, x))).length = q := ⟨_, rfl⟩
 rw [hl1] at hu1
 subst hu1
 have HO1 := Lib.hid ho1
 have HG1 := Lib.hid hg1
 have HY4 := Lib.hid (Below.refl y4.heap.size y4)
 clear ho1 hl1 hg1
 have HXn := Lib.hid (HX.out.trans (hb.mono HX.out.size))
 clear HX hb
 have HX := HXn
 clear HXn
 clear p0 q0 p1 q1 p2 q2 p3 q3
 have p0 := ((HPa.out.below HX.out).cell 0)
 have p1 := ((HPa.out.below HX.out).cell 1)
 have p2 := ((HPa.out.below HX.out).cell 2)
 have p3 := ((HPa.out.below HX.out).cell 3)
 simp only [List.getElem?_cons_zero, List.getElem?_cons_succ] at p0 p1 p2 p3
 have q0 := ((HPb.out.below HX.out).cell 0)
 have q1 := ((HPb.out.below HX.out).cell 1)
 have q2 := ((HPb.out.below HX.out).cell 2)
 have q3 := ((HPb.out.below HX.out).cell 3)
 simp only [List.getElem?_cons_zero, List.getElem?_cons_succ] at q0 q1 q2 q3
 go_wp2_with fail
 refine (putG _ (true, (0, 0, 0), insZ, y) _ ⟨#[.bool true, .int .i64 0, .int .i64 0, .int .i64 0, .int .i64 0, .int .i64 0, .int .i64 0, .int .i64 0, .int .i64 0, .int .i64 0, .int .i64 0, .int .i64 0, .string ⟨#[]⟩, .string ⟨#[]⟩, .int .i64 0, .int .i64 0, .int .i64 0, .int .i64 0, .slice none 0 0, .int .i64 j0, .slice d1 k1 e1, .slice d2 k2 e2, .slice d3 k3 e3], rfl, rc_mk (x := (true, (0, 0, 0), insZ, y)) (in_mk (x := insZ) (u := .slice none 0 0) (by decide) (by decide) row_nil) (snS.keep HSb.out HX.out)⟩).mono ?_
 rintro e y5 h5
 rcases h5 with ⟨hg2, u2, he, ho2, hb⟩ | ⟨-, he, hb⟩
 rotate_left
 ·rw [he.out]
  clear he
  have HXn := Lib.hid (HX.out.trans (hb.mono HX.out.size))
  clear HX hb
  have HX := HXn
  clear HXn
  clear p0 q0 p1 q1 p2 q2 p3 q3
  go_wp2_with fail
  go_ret
  exact ⟨rfl, HBX.out.trans (HX.out.mono HBX.out.size)⟩
 rw [he.out]
 clear he
 obtain ⟨v2, w2, hu2⟩ := ho2.slice
 obtain ⟨l2, hl2⟩ : ∃ q, (eF (rcFs (true, (0, 0, 0), insZ, y))).length = q := ⟨_, rfl⟩
 rw [hl2] at hu2
 subst hu2
 have HT2 := Lib.hid (ho2.bt (own8_len ho2))
 have HT1 := Lib.hid ((HO1.out.below hb).bt (own8_len HO1.out))
 have HTy : Hid (((txt (eF (rcFs (true, (0, 0, 0), insZ, x)))).toList == (txt (eF (rcFs (true, (0, 0, 0), insZ, y)))).toList) = decide (x = y)) := Lib.hid (by
  rw [txt_eqC (eF_byte HG1.out.2) (eF_byte hg2.2)]
  exact decide_eq_decide.2 (seal_bytes HG1.out hg2))
 clear ho2 hl2 hg2
 have HXn := Lib.hid (HX.out.trans (hb.mono HX.out.size))
 clear HX hb
 have HX := HXn
 clear HXn
 clear p0 q0 p1 q1 p2 q2 p3 q3
 have HPa5 : Hid (y5.heap[W.heap.size]? = some (.cells #[.int .i64 n0, .slice a1 m1 c1, .slice a2 m2 c2, .slice a3 m3 c3] 28 (0, 0))) := Lib.hid (HPa.out.below HX.out)
 have HPb5 : Hid (y5.heap[W.heap.size + 1]? = some (.cells #[.int .i64 j0, .slice d1 k1 e1, .slice d2 k2 e2, .slice d3 k3 e3] 28 (0, 0))) := Lib.hid (HPb.out.below HX.out)
 have HZ : Hid (W.heap.size + 1 < y5.heap.size) := Lib.hid (HPb.out.below HX.out).lt
 obtain ⟨E, hE⟩ : ∃ E, decide (x = y) = E := ⟨_, rfl⟩
 have hE2 : decide (y = x) = E := by rw [← hE]; exact decide_eq_decide.2 ⟨Eq.symm, Eq.symm⟩
 have HSab := Lib.hid (fun (V : World) (hV : Below y5.heap.size y5 V) => by
  have h := recSame x y #[.int .i64 n0, .slice a1 m1 c1, .slice a2 m2 c2, .slice a3 m3 c3] #[.int .i64 j0, .slice d1 k1 e1, .slice d2 k2 e2, .slice d3 k3 e3] X V HSa.out HSb.out (HX.out.trans (hV.mono HX.out.size)) HLx.out.sn6
  rw [hE] at h
  exact h)
 have HSba := Lib.hid (fun (V : World) (hV : Below y5.heap.size y5 V) => by
  have h := recSame y x #[.int .i64 j0, .slice d1 k1 e1, .slice d2 k2 e2, .slice d3 k3 e3] #[.int .i64 n0, .slice a1 m1 c1, .slice a2 m2 c2, .slice a3 m3 c3] X V HSb.out HSa.out (HX.out.trans (hV.mono HX.out.size)) HLy.out.sn6
  rw [hE2] at h
  exact h)
 have HSaa := Lib.hid (fun (V : World) (hV : Below y5.heap.size y5 V) => by
  have h := recSame x x #[.int .i64 n0, .slice a1 m1 c1, .slice a2 m2 c2, .slice a3 m3 c3] #[.int .i64 n0, .slice a1 m1 c1, .slice a2 m2 c2, .slice a3 m3 c3] X V HSa.out HSa.out (HX.out.trans (hV.mono HX.out.size)) HLx.out.sn6
  rw [decide_eq_true (rfl : x = x)] at h
  exact h)
 rw [hE] at HTy
 have HBF := Lib.hid (HBX.out.trans (HX.out.mono HBX.out.size))
 clear hE hE2 HX HPa HPb HO1 HSa HSb HLx HLy HG1 HBX HY4
 go_upto_region 11 with fail
 cases E with
 | true =>
  refine wp_region_held_drew (S := fun w' => Below y5.heap.size y5 w') (by kernel_rfl) ?_ (fun hHeld => ?_)
  ·(first | exact Below.refl _ _ | exact (Below.refl _ _).drew | assumption | exact below_self (by assumption) (by assumption))
  refine wpAnyH_take (i := 0) (v := ?_) rfl (by kernel_rfl) (by kernel_rfl) (by kernel_rfl) (fun _ _ _ h => h) (Or.inl ⟨by rfl, ?_⟩) (by assumption) ?_
  rotate_left
  ·(intro w hSw; (try dsimp only at hSw); go_simp; try rfl)
  try simp only [Act.put, List.setIfInBounds_toArray, List.set_cons_zero, List.set_cons_succ, List.getElem_toArray, List.getElem_cons_zero, List.getElem_cons_succ]
  refine wpAnyH_take (i := 1) (v := ?_) rfl (by kernel_rfl) (by kernel_rfl) (by kernel_rfl) (fun _ _ _ h => h) (Or.inl ⟨by rfl, ?_⟩) (by assumption) ?_
  rotate_left
  ·(intro w hSw; (try dsimp only at hSw); go_simp; try rfl)
  try simp only [Act.put, List.setIfInBounds_toArray, List.set_cons_zero, List.set_cons_succ, List.getElem_toArray, List.getElem_cons_zero, List.getElem_cons_succ]
  refine wpAnyH_take (i := 2) (v := ?_) rfl (by kernel_rfl) (by kernel_rfl) (by kernel_rfl) (fun _ _ _ h => h) (Or.inl ⟨by rfl, ?_⟩) (by assumption) ?_
  rotate_left
  ·(intro w' hSw; refine Eq.trans (take_load_row 28 _ rfl W.heap.size rfl 28 #[.int .i64 n0, .slice a1 m1 c1, .slice a2 m2 c2, .slice a3 m3 c3] (0, 0) _ ((hSw.block _ (by have := HZ.out; omega)).trans HPa5.out) Tryz.underlying28 rfl HI4.out) ?_; rfl)
  try simp only [Act.put, List.setIfInBounds_toArray, List.set_cons_zero, List.set_cons_succ, List.getElem_toArray, List.getElem_cons_zero, List.getElem_cons_succ]
  refine wpAnyH_take (i := 3) (v := ?_) rfl (by kernel_rfl) (by kernel_rfl) (by kernel_rfl) (fun _ _ _ h => h) (Or.inl ⟨by rfl, ?_⟩) (by assumption) ?_
  rotate_left
  ·(intro w' hSw; refine Eq.trans (take_load_row 28 _ rfl (W.heap.size + 1) rfl 28 #[.int .i64 j0, .slice d1 k1 e1, .slice d2 k2 e2, .slice d3 k3 e3] (0, 0) _ ((hSw.block _ (by have := HZ.out; omega)).trans HPb5.out) Tryz.underlying28 rfl HI4.out) ?_; rfl)
  try simp only [Act.put, List.setIfInBounds_toArray, List.set_cons_zero, List.set_cons_succ, List.getElem_toArray, List.getElem_cons_zero, List.getElem_cons_succ]
  refine wpAnyH_take (i := 5) (v := ?_) rfl (by kernel_rfl) (by kernel_rfl) (by kernel_rfl) (fun _ _ _ h => h) (Or.inl ⟨by rfl, ?_⟩) (by assumption) ?_
  rotate_left
  ·(intro w hSw; (try dsimp only at hSw); go_simp; try rfl)
  try simp only [Act.put, List.setIfInBounds_toArray, List.set_cons_zero, List.set_cons_succ, List.getElem_toArray, List.getElem_cons_zero, List.getElem_cons_succ]
  refine wpAnyH_take (i := 6) (v := ?_) rfl (by kernel_rfl) (by kernel_rfl) (by kernel_rfl) (fun _ _ _ h => h) (Or.inl ⟨by rfl, ?_⟩) (by assumption) ?_
  rotate_left
  ·(intro w' hSw; refine Eq.trans (take_textR 33 9 _ rfl 5 Tryz.underlying33 Tryz.underlying5 Tryz.underlying9 (.slice v1 l1 w1) (eF (rcFs (true, (0, 0, 0), insZ, x))) rfl (HT1.out.below hSw)) ?_; rfl)
  try simp only [Act.put, List.setIfInBounds_toArray, List.set_cons_zero, List.set_cons_succ, List.getElem_toArray, List.getElem_cons_zero, List.getElem_cons_succ]
  refine wpAnyH_take (i := 7) (v := ?_) rfl (by kernel_rfl) (by kernel_rfl) (by kernel_rfl) (fun _ _ _ h => h) (Or.inl ⟨by rfl, ?_⟩) (by assumption) ?_
  rotate_left
  ·(intro w hSw; (try dsimp only at hSw); go_simp; try rfl)
  try simp only [Act.put, List.setIfInBounds_toArray, List.set_cons_zero, List.set_cons_succ, List.getElem_toArray, List.getElem_cons_zero, List.getElem_cons_succ]
  refine wpAnyH_take (i := 8) (v := ?_) rfl (by kernel_rfl) (by kernel_rfl) (by kernel_rfl) (fun _ _ _ h => h) (Or.inl ⟨by rfl, ?_⟩) (by assumption) ?_
  rotate_left
  ·(intro w' hSw; refine Eq.trans (take_textR 33 9 _ rfl 5 Tryz.underlying33 Tryz.underlying5 Tryz.underlying9 (.slice v2 l2 w2) (eF (rcFs (true, (0, 0, 0), insZ, y))) rfl (HT2.out.below hSw)) ?_; rfl)
  try simp only [Act.put, List.setIfInBounds_toArray, List.set_cons_zero, List.set_cons_succ, List.getElem_toArray, List.getElem_cons_zero, List.getElem_cons_succ]
  refine wpAnyH_take (i := 9) (v := ?_) rfl (by kernel_rfl) (by kernel_rfl) (by kernel_rfl) (fun _ _ _ h => h) (Or.inl ⟨by rfl, ?_⟩) (by assumption) ?_
  rotate_left
  ·(intro w' hSw; refine Eq.trans (take_eqS 9 _ _ _ rfl Tryz.underlying9 _ _ rfl rfl true HTy.out) ?_; rfl)
  try simp only [Act.put, List.setIfInBounds_toArray, List.set_cons_zero, List.set_cons_succ, List.getElem_toArray, List.getElem_cons_zero, List.getElem_cons_succ]
  refine wpAnyH_ready (rs := [4]) (by kernel_rfl) (by simp) ?_
  refine (AllReadyH.cons rfl (fun K hK => ?_) AllReadyH.nil)
  go_simp
  (refine (HSab.out _ (by assumption)).mono ?_; rintro e z4 ⟨he, hb⟩; rw [he.out]; clear he; have hb := below_self (by assumption) hb)
  refine hK.out _ _ ?_ (fun hHeld => ?_)
  ·(first | exact Below.refl _ _ | exact (Below.refl _ _).drew | assumption | exact below_self (by assumption) (by assumption))
  clear hK K
  try simp only [Act.put, List.setIfInBounds_toArray, List.set_cons_zero, List.set_cons_succ, List.getElem_toArray, List.getElem_cons_zero, List.getElem_cons_succ]
  refine wpAnyH_take (i := 10) (v := ?_) rfl (by kernel_rfl) (by kernel_rfl) (by kernel_rfl) (fun _ _ _ h => h) (Or.inl ⟨by rfl, ?_⟩) (by assumption) ?_
  rotate_left
  ·(intro w hSw; (try dsimp only at hSw); go_simp; try rfl)
  try simp only [Act.put, List.setIfInBounds_toArray, List.set_cons_zero, List.set_cons_succ, List.getElem_toArray, List.getElem_cons_zero, List.getElem_cons_succ]
  refine wpAnyH_take (i := 11) (v := ?_) rfl (by kernel_rfl) (by kernel_rfl) (by kernel_rfl) (fun _ _ _ h => h) (Or.inl ⟨by rfl, ?_⟩) (by assumption) ?_
  rotate_left
  ·(intro w hSw; (try dsimp only at hSw); go_simp; try rfl)
  try simp only [Act.put, List.setIfInBounds_toArray, List.set_cons_zero, List.set_cons_succ, List.getElem_toArray, List.getElem_cons_zero, List.getElem_cons_succ]
  refine wpAnyH_take (i := 12) (v := ?_) rfl (by kernel_rfl) (by kernel_rfl) (by kernel_rfl) (fun _ _ _ h => h) (Or.inl ⟨by rfl, ?_⟩) (by assumption) ?_
  rotate_left
  ·(intro w hSw; (try dsimp only at hSw); go_simp; try rfl)
  try simp only [Act.put, List.setIfInBounds_toArray, List.set_cons_zero, List.set_cons_succ, List.getElem_toArray, List.getElem_cons_zero, List.getElem_cons_succ]
  refine wpAnyH_take (i := 13) (v := ?_) rfl (by kernel_rfl) (by kernel_rfl) (by kernel_rfl) (fun _ _ _ h => h) (Or.inl ⟨by rfl, ?_⟩) (by assumption) ?_
  rotate_left
  ·(intro w' hSw; refine Eq.trans (take_load_row 28 _ rfl W.heap.size rfl 28 #[.int .i64 n0, .slice a1 m1 c1, .slice a2 m2 c2, .slice a3 m3 c3] (0, 0) _ ((hSw.block _ (by have := HZ.out; omega)).trans HPa5.out) Tryz.underlying28 rfl HI4.out) ?_; rfl)
  try simp only [Act.put, List.setIfInBounds_toArray, List.set_cons_zero, List.set_cons_succ, List.getElem_toArray, List.getElem_cons_zero, List.getElem_cons_succ]
  refine wpAnyH_take (i := 14) (v := ?_) rfl (by kernel_rfl) (by kernel_rfl) (by kernel_rfl) (fun _ _ _ h => h) (Or.inl ⟨by rfl, ?_⟩) (by assumption) ?_
  rotate_left
  ·(intro w' hSw; refine Eq.trans (take_load_row 28 _ rfl (W.heap.size + 1) rfl 28 #[.int .i64 j0, .slice d1 k1 e1, .slice d2 k2 e2, .slice d3 k3 e3] (0, 0) _ ((hSw.block _ (by have := HZ.out; omega)).trans HPb5.out) Tryz.underlying28 rfl HI4.out) ?_; rfl)
  try simp only [Act.put, List.setIfInBounds_toArray, List.set_cons_zero, List.set_cons_succ, List.getElem_toArray, List.getElem_cons_zero, List.getElem_cons_succ]
  refine wpAnyH_take (i := 16) (v := ?_) rfl (by kernel_rfl) (by kernel_rfl) (by kernel_rfl) (fun _ _ _ h => h) (Or.inl ⟨by rfl, ?_⟩) (by assumption) ?_
  rotate_left
  ·(intro w' hSw; refine Eq.trans (take_load_row 28 _ rfl (W.heap.size + 1) rfl 28 #[.int .i64 j0, .slice d1 k1 e1, .slice d2 k2 e2, .slice d3 k3 e3] (0, 0) _ ((hSw.block _ (by have := HZ.out; omega)).trans HPb5.out) Tryz.underlying28 rfl HI4.out) ?_; rfl)
  try simp only [Act.put, List.setIfInBounds_toArray, List.set_cons_zero, List.set_cons_succ, List.getElem_toArray, List.getElem_cons_zero, List.getElem_cons_succ]
  refine wpAnyH_take (i := 17) (v := ?_) rfl (by kernel_rfl) (by kernel_rfl) (by kernel_rfl) (fun _ _ _ h => h) (Or.inl ⟨by rfl, ?_⟩) (by assumption) ?_
  rotate_left
  ·(intro w' hSw; refine Eq.trans (take_load_row 28 _ rfl W.heap.size rfl 28 #[.int .i64 n0, .slice a1 m1 c1, .slice a2 m2 c2, .slice a3 m3 c3] (0, 0) _ ((hSw.block _ (by have := HZ.out; omega)).trans HPa5.out) Tryz.underlying28 rfl HI4.out) ?_; rfl)
  try simp only [Act.put, List.setIfInBounds_toArray, List.set_cons_zero, List.set_cons_succ, List.getElem_toArray, List.getElem_cons_zero, List.getElem_cons_succ]
  refine wpAnyH_ready (rs := [15]) (by kernel_rfl) (by simp) ?_
  refine (AllReadyH.cons rfl (fun K hK => ?_) AllReadyH.nil)
  go_simp
  (refine (HSab.out _ (by assumption)).mono ?_; rintro e z15 ⟨he, hb⟩; rw [he.out]; clear he; have hb := below_self (by assumption) hb)
  refine hK.out _ _ ?_ (fun hHeld => ?_)
  ·(first | exact Below.refl _ _ | exact (Below.refl _ _).drew | assumption | exact below_self (by assumption) (by assumption))
  clear hK K
  try simp only [Act.put, List.setIfInBounds_toArray, List.set_cons_zero, List.set_cons_succ, List.getElem_toArray, List.getElem_cons_zero, List.getElem_cons_succ]
  refine wpAnyH_ready (rs := [18]) (by kernel_rfl) (by simp) ?_
  refine (AllReadyH.cons rfl (fun K hK => ?_) AllReadyH.nil)
  go_simp
  (refine (HSba.out _ (by assumption)).mono ?_; rintro e z18 ⟨he, hb⟩; rw [he.out]; clear he; have hb := below_self (by assumption) hb)
  refine hK.out _ _ ?_ (fun hHeld => ?_)
  ·(first | exact Below.refl _ _ | exact (Below.refl _ _).drew | assumption | exact below_self (by assumption) (by assumption))
  clear hK K
  try simp only [Act.put, List.setIfInBounds_toArray, List.set_cons_zero, List.set_cons_succ, List.getElem_toArray, List.getElem_cons_zero, List.getElem_cons_succ]
  refine wpAnyH_take (i := 19) (v := ?_) rfl (by kernel_rfl) (by kernel_rfl) (by kernel_rfl) (fun _ _ _ h => h) (Or.inl ⟨by rfl, ?_⟩) (by assumption) ?_
  rotate_left
  ·(intro w hSw; (try dsimp only at hSw); go_simp; try rfl)
  try simp only [Act.put, List.setIfInBounds_toArray, List.set_cons_zero, List.set_cons_succ, List.getElem_toArray, List.getElem_cons_zero, List.getElem_cons_succ]
  refine wpAnyH_take (i := 20) (v := ?_) rfl (by kernel_rfl) (by kernel_rfl) (by kernel_rfl) (fun _ _ _ h => h) (Or.inl ⟨by rfl, ?_⟩) (by assumption) ?_
  rotate_left
  ·(intro w hSw; (try dsimp only at hSw); go_simp; try rfl)
  try simp only [Act.put, List.setIfInBounds_toArray, List.set_cons_zero, List.set_cons_succ, List.getElem_toArray, List.getElem_cons_zero, List.getElem_cons_succ]
  refine wpAnyH_take (i := 21) (v := ?_) rfl (by kernel_rfl) (by kernel_rfl) (by kernel_rfl) (fun _ _ _ h => h) (Or.inl ⟨by rfl, ?_⟩) (by assumption) ?_
  rotate_left
  ·(intro w hSw; (try dsimp only at hSw); go_simp; try rfl)
  try simp only [Act.put, List.setIfInBounds_toArray, List.set_cons_zero, List.set_cons_succ, List.getElem_toArray, List.getElem_cons_zero, List.getElem_cons_succ]
  refine wpAnyH_take (i := 22) (v := ?_) rfl (by kernel_rfl) (by kernel_rfl) (by kernel_rfl) (fun _ _ _ h => h) (Or.inl ⟨by rfl, ?_⟩) (by assumption) ?_
  rotate_left
  ·(intro w' hSw; refine Eq.trans (take_load_row 28 _ rfl W.heap.size rfl 28 #[.int .i64 n0, .slice a1 m1 c1, .slice a2 m2 c2, .slice a3 m3 c3] (0, 0) _ ((hSw.block _ (by have := HZ.out; omega)).trans HPa5.out) Tryz.underlying28 rfl HI4.out) ?_; rfl)
  try simp only [Act.put, List.setIfInBounds_toArray, List.set_cons_zero, List.set_cons_succ, List.getElem_toArray, List.getElem_cons_zero, List.getElem_cons_succ]
  refine wpAnyH_take (i := 23) (v := ?_) rfl (by kernel_rfl) (by kernel_rfl) (by kernel_rfl) (fun _ _ _ h => h) (Or.inl ⟨by rfl, ?_⟩) (by assumption) ?_
  rotate_left
  ·(intro w' hSw; refine Eq.trans (take_load_row 28 _ rfl W.heap.size rfl 28 #[.int .i64 n0, .slice a1 m1 c1, .slice a2 m2 c2, .slice a3 m3 c3] (0, 0) _ ((hSw.block _ (by have := HZ.out; omega)).trans HPa5.out) Tryz.underlying28 rfl HI4.out) ?_; rfl)
  try simp only [Act.put, List.setIfInBounds_toArray, List.set_cons_zero, List.set_cons_succ, List.getElem_toArray, List.getElem_cons_zero, List.getElem_cons_succ]
  refine wpAnyH_ready (rs := [24]) (by kernel_rfl) (by simp) ?_
  refine (AllReadyH.cons rfl (fun K hK => ?_) AllReadyH.nil)
  go_simp
  (refine (HSaa.out _ (by assumption)).mono ?_; rintro e z24 ⟨he, hb⟩; rw [he.out]; clear he; have hb := below_self (by assumption) hb)
  refine hK.out _ _ ?_ (fun hHeld => ?_)
  ·(first | exact Below.refl _ _ | exact (Below.refl _ _).drew | assumption | exact below_self (by assumption) (by assumption))
  clear hK K
  try simp only [Act.put, List.setIfInBounds_toArray, List.set_cons_zero, List.set_cons_succ, List.getElem_toArray, List.getElem_cons_zero, List.getElem_cons_succ]
  refine wpAnyH_take (i := 25) (v := ?_) rfl (by kernel_rfl) (by kernel_rfl) (by kernel_rfl) (fun _ _ _ h => h) (Or.inl ⟨by rfl, ?_⟩) (by assumption) ?_
  rotate_left
  ·(intro w hSw; (try dsimp only at hSw); go_simp; try rfl)
  try simp only [Act.put, List.setIfInBounds_toArray, List.set_cons_zero, List.set_cons_succ, List.getElem_toArray, List.getElem_cons_zero, List.getElem_cons_succ]
  refine wpAnyH_take (i := 26) (v := ?_) rfl (by kernel_rfl) (by kernel_rfl) (by kernel_rfl) (fun _ _ _ h => h) (Or.inl ⟨by rfl, ?_⟩) (by assumption) ?_
  rotate_left
  ·(intro w hSw; (try dsimp only at hSw); go_simp; try rfl)
  try simp only [Act.put, List.setIfInBounds_toArray, List.set_cons_zero, List.set_cons_succ, List.getElem_toArray, List.getElem_cons_zero, List.getElem_cons_succ]
  refine wpAnyH_done (by kernel_rfl) ?_ _
  go_wp2_with fail
  go_ret
  exact ⟨rfl, HBF.out.trans ((by assumption : Below y5.heap.size y5 _).mono HBF.out.size)⟩
 | false =>
  refine wp_region_held_drew (S := fun w' => Below y5.heap.size y5 w') (by kernel_rfl) ?_ (fun hHeld => ?_)
  ·(first | exact Below.refl _ _ | exact (Below.refl _ _).drew | assumption | exact below_self (by assumption) (by assumption))
  refine wpAnyH_take (i := 0) (v := ?_) rfl (by kernel_rfl) (by kernel_rfl) (by kernel_rfl) (fun _ _ _ h => h) (Or.inl ⟨by rfl, ?_⟩) (by assumption) ?_
  rotate_left
  ·(intro w hSw; (try dsimp only at hSw); go_simp; try rfl)
  try simp only [Act.put, List.setIfInBounds_toArray, List.set_cons_zero, List.set_cons_succ, List.getElem_toArray, List.getElem_cons_zero, List.getElem_cons_succ]
  refine wpAnyH_take (i := 1) (v := ?_) rfl (by kernel_rfl) (by kernel_rfl) (by kernel_rfl) (fun _ _ _ h => h) (Or.inl ⟨by rfl, ?_⟩) (by assumption) ?_
  rotate_left
  ·(intro w hSw; (try dsimp only at hSw); go_simp; try rfl)
  try simp only [Act.put, List.setIfInBounds_toArray, List.set_cons_zero, List.set_cons_succ, List.getElem_toArray, List.getElem_cons_zero, List.getElem_cons_succ]
  refine wpAnyH_take (i := 2) (v := ?_) rfl (by kernel_rfl) (by kernel_rfl) (by kernel_rfl) (fun _ _ _ h => h) (Or.inl ⟨by rfl, ?_⟩) (by assumption) ?_
  rotate_left
  ·(intro w' hSw; refine Eq.trans (take_load_row 28 _ rfl W.heap.size rfl 28 #[.int .i64 n0, .slice a1 m1 c1, .slice a2 m2 c2, .slice a3 m3 c3] (0, 0) _ ((hSw.block _ (by have := HZ.out; omega)).trans HPa5.out) Tryz.underlying28 rfl HI4.out) ?_; rfl)
  try simp only [Act.put, List.setIfInBounds_toArray, List.set_cons_zero, List.set_cons_succ, List.getElem_toArray, List.getElem_cons_zero, List.getElem_cons_succ]
  refine wpAnyH_take (i := 3) (v := ?_) rfl (by kernel_rfl) (by kernel_rfl) (by kernel_rfl) (fun _ _ _ h => h) (Or.inl ⟨by rfl, ?_⟩) (by assumption) ?_
  rotate_left
  ·(intro w' hSw; refine Eq.trans (take_load_row 28 _ rfl (W.heap.size + 1) rfl 28 #[.int .i64 j0, .slice d1 k1 e1, .slice d2 k2 e2, .slice d3 k3 e3] (0, 0) _ ((hSw.block _ (by have := HZ.out; omega)).trans HPb5.out) Tryz.underlying28 rfl HI4.out) ?_; rfl)
  try simp only [Act.put, List.setIfInBounds_toArray, List.set_cons_zero, List.set_cons_succ, List.getElem_toArray, List.getElem_cons_zero, List.getElem_cons_succ]
  refine wpAnyH_take (i := 5) (v := ?_) rfl (by kernel_rfl) (by kernel_rfl) (by kernel_rfl) (fun _ _ _ h => h) (Or.inl ⟨by rfl, ?_⟩) (by assumption) ?_
  rotate_left
  ·(intro w hSw; (try dsimp only at hSw); go_simp; try rfl)
  try simp only [Act.put, List.setIfInBounds_toArray, List.set_cons_zero, List.set_cons_succ, List.getElem_toArray, List.getElem_cons_zero, List.getElem_cons_succ]
  refine wpAnyH_take (i := 6) (v := ?_) rfl (by kernel_rfl) (by kernel_rfl) (by kernel_rfl) (fun _ _ _ h => h) (Or.inl ⟨by rfl, ?_⟩) (by assumption) ?_
  rotate_left
  ·(intro w' hSw; refine Eq.trans (take_textR 33 9 _ rfl 5 Tryz.underlying33 Tryz.underlying5 Tryz.underlying9 (.slice v1 l1 w1) (eF (rcFs (true, (0, 0, 0), insZ, x))) rfl (HT1.out.below hSw)) ?_; rfl)
  try simp only [Act.put, List.setIfInBounds_toArray, List.set_cons_zero, List.set_cons_succ, List.getElem_toArray, List.getElem_cons_zero, List.getElem_cons_succ]
  refine wpAnyH_take (i := 7) (v := ?_) rfl (by kernel_rfl) (by kernel_rfl) (by kernel_rfl) (fun _ _ _ h => h) (Or.inl ⟨by rfl, ?_⟩) (by assumption) ?_
  rotate_left
  ·(intro w hSw; (try dsimp only at hSw); go_simp; try rfl)
  try simp only [Act.put, List.setIfInBounds_toArray, List.set_cons_zero, List.set_cons_succ, List.getElem_toArray, List.getElem_cons_zero, List.getElem_cons_succ]
  refine wpAnyH_take (i := 8) (v := ?_) rfl (by kernel_rfl) (by kernel_rfl) (by kernel_rfl) (fun _ _ _ h => h) (Or.inl ⟨by rfl, ?_⟩) (by assumption) ?_
  rotate_left
  ·(intro w' hSw; refine Eq.trans (take_textR 33 9 _ rfl 5 Tryz.underlying33 Tryz.underlying5 Tryz.underlying9 (.slice v2 l2 w2) (eF (rcFs (true, (0, 0, 0), insZ, y))) rfl (HT2.out.below hSw)) ?_; rfl)
  try simp only [Act.put, List.setIfInBounds_toArray, List.set_cons_zero, List.set_cons_succ, List.getElem_toArray, List.getElem_cons_zero, List.getElem_cons_succ]
  refine wpAnyH_take (i := 9) (v := ?_) rfl (by kernel_rfl) (by kernel_rfl) (by kernel_rfl) (fun _ _ _ h => h) (Or.inl ⟨by rfl, ?_⟩) (by assumption) ?_
  rotate_left
  ·(intro w' hSw; refine Eq.trans (take_eqS 9 _ _ _ rfl Tryz.underlying9 _ _ rfl rfl false HTy.out) ?_; rfl)
  try simp only [Act.put, List.setIfInBounds_toArray, List.set_cons_zero, List.set_cons_succ, List.getElem_toArray, List.getElem_cons_zero, List.getElem_cons_succ]
  refine wpAnyH_ready (rs := [4]) (by kernel_rfl) (by simp) ?_
  refine (AllReadyH.cons rfl (fun K hK => ?_) AllReadyH.nil)
  go_simp
  (refine (HSab.out _ (by assumption)).mono ?_; rintro e z4 ⟨he, hb⟩; rw [he.out]; clear he; have hb := below_self (by assumption) hb)
  refine hK.out _ _ ?_ (fun hHeld => ?_)
  ·(first | exact Below.refl _ _ | exact (Below.refl _ _).drew | assumption | exact below_self (by assumption) (by assumption))
  clear hK K
  try simp only [Act.put, List.setIfInBounds_toArray, List.set_cons_zero, List.set_cons_succ, List.getElem_toArray, List.getElem_cons_zero, List.getElem_cons_succ]
  refine wpAnyH_take (i := 10) (v := ?_) rfl (by kernel_rfl) (by kernel_rfl) (by kernel_rfl) (fun _ _ _ h => h) (Or.inl ⟨by rfl, ?_⟩) (by assumption) ?_
  rotate_left
  ·(intro w hSw; (try dsimp only at hSw); go_simp; try rfl)
  try simp only [Act.put, List.setIfInBounds_toArray, List.set_cons_zero, List.set_cons_succ, List.getElem_toArray, List.getElem_cons_zero, List.getElem_cons_succ]
  refine wpAnyH_take (i := 11) (v := ?_) rfl (by kernel_rfl) (by kernel_rfl) (by kernel_rfl) (fun _ _ _ h => h) (Or.inl ⟨by rfl, ?_⟩) (by assumption) ?_
  rotate_left
  ·(intro w hSw; (try dsimp only at hSw); go_simp; try rfl)
  try simp only [Act.put, List.setIfInBounds_toArray, List.set_cons_zero, List.set_cons_succ, List.getElem_toArray, List.getElem_cons_zero, List.getElem_cons_succ]
  refine wpAnyH_take (i := 12) (v := ?_) rfl (by kernel_rfl) (by kernel_rfl) (by kernel_rfl) (fun _ _ _ h => h) (Or.inl ⟨by rfl, ?_⟩) (by assumption) ?_
  rotate_left
  ·(intro w hSw; (try dsimp only at hSw); go_simp; try rfl)
  try simp only [Act.put, List.setIfInBounds_toArray, List.set_cons_zero, List.set_cons_succ, List.getElem_toArray, List.getElem_cons_zero, List.getElem_cons_succ]
  refine wpAnyH_take (i := 13) (v := ?_) rfl (by kernel_rfl) (by kernel_rfl) (by kernel_rfl) (fun _ _ _ h => h) (Or.inl ⟨by rfl, ?_⟩) (by assumption) ?_
  rotate_left
  ·(intro w' hSw; refine Eq.trans (take_load_row 28 _ rfl W.heap.size rfl 28 #[.int .i64 n0, .slice a1 m1 c1, .slice a2 m2 c2, .slice a3 m3 c3] (0, 0) _ ((hSw.block _ (by have := HZ.out; omega)).trans HPa5.out) Tryz.underlying28 rfl HI4.out) ?_; rfl)
  try simp only [Act.put, List.setIfInBounds_toArray, List.set_cons_zero, List.set_cons_succ, List.getElem_toArray, List.getElem_cons_zero, List.getElem_cons_succ]
  refine wpAnyH_take (i := 14) (v := ?_) rfl (by kernel_rfl) (by kernel_rfl) (by kernel_rfl) (fun _ _ _ h => h) (Or.inl ⟨by rfl, ?_⟩) (by assumption) ?_
  rotate_left
  ·(intro w' hSw; refine Eq.trans (take_load_row 28 _ rfl (W.heap.size + 1) rfl 28 #[.int .i64 j0, .slice d1 k1 e1, .slice d2 k2 e2, .slice d3 k3 e3] (0, 0) _ ((hSw.block _ (by have := HZ.out; omega)).trans HPb5.out) Tryz.underlying28 rfl HI4.out) ?_; rfl)
  try simp only [Act.put, List.setIfInBounds_toArray, List.set_cons_zero, List.set_cons_succ, List.getElem_toArray, List.getElem_cons_zero, List.getElem_cons_succ]
  refine wpAnyH_take (i := 16) (v := ?_) rfl (by kernel_rfl) (by kernel_rfl) (by kernel_rfl) (fun _ _ _ h => h) (Or.inl ⟨by rfl, ?_⟩) (by assumption) ?_
  rotate_left
  ·(intro w' hSw; refine Eq.trans (take_load_row 28 _ rfl (W.heap.size + 1) rfl 28 #[.int .i64 j0, .slice d1 k1 e1, .slice d2 k2 e2, .slice d3 k3 e3] (0, 0) _ ((hSw.block _ (by have := HZ.out; omega)).trans HPb5.out) Tryz.underlying28 rfl HI4.out) ?_; rfl)
  try simp only [Act.put, List.setIfInBounds_toArray, List.set_cons_zero, List.set_cons_succ, List.getElem_toArray, List.getElem_cons_zero, List.getElem_cons_succ]
  refine wpAnyH_take (i := 17) (v := ?_) rfl (by kernel_rfl) (by kernel_rfl) (by kernel_rfl) (fun _ _ _ h => h) (Or.inl ⟨by rfl, ?_⟩) (by assumption) ?_
  rotate_left
  ·(intro w' hSw; refine Eq.trans (take_load_row 28 _ rfl W.heap.size rfl 28 #[.int .i64 n0, .slice a1 m1 c1, .slice a2 m2 c2, .slice a3 m3 c3] (0, 0) _ ((hSw.block _ (by have := HZ.out; omega)).trans HPa5.out) Tryz.underlying28 rfl HI4.out) ?_; rfl)
  try simp only [Act.put, List.setIfInBounds_toArray, List.set_cons_zero, List.set_cons_succ, List.getElem_toArray, List.getElem_cons_zero, List.getElem_cons_succ]
  refine wpAnyH_ready (rs := [15]) (by kernel_rfl) (by simp) ?_
  refine (AllReadyH.cons rfl (fun K hK => ?_) AllReadyH.nil)
  go_simp
  (refine (HSab.out _ (by assumption)).mono ?_; rintro e z15 ⟨he, hb⟩; rw [he.out]; clear he; have hb := below_self (by assumption) hb)
  refine hK.out _ _ ?_ (fun hHeld => ?_)
  ·(first | exact Below.refl _ _ | exact (Below.refl _ _).drew | assumption | exact below_self (by assumption) (by assumption))
  clear hK K
  try simp only [Act.put, List.setIfInBounds_toArray, List.set_cons_zero, List.set_cons_succ, List.getElem_toArray, List.getElem_cons_zero, List.getElem_cons_succ]
  refine wpAnyH_ready (rs := [18]) (by kernel_rfl) (by simp) ?_
  refine (AllReadyH.cons rfl (fun K hK => ?_) AllReadyH.nil)
  go_simp
  (refine (HSba.out _ (by assumption)).mono ?_; rintro e z18 ⟨he, hb⟩; rw [he.out]; clear he; have hb := below_self (by assumption) hb)
  refine hK.out _ _ ?_ (fun hHeld => ?_)
  ·(first | exact Below.refl _ _ | exact (Below.refl _ _).drew | assumption | exact below_self (by assumption) (by assumption))
  clear hK K
  try simp only [Act.put, List.setIfInBounds_toArray, List.set_cons_zero, List.set_cons_succ, List.getElem_toArray, List.getElem_cons_zero, List.getElem_cons_succ]
  refine wpAnyH_take (i := 19) (v := ?_) rfl (by kernel_rfl) (by kernel_rfl) (by kernel_rfl) (fun _ _ _ h => h) (Or.inl ⟨by rfl, ?_⟩) (by assumption) ?_
  rotate_left
  ·(intro w hSw; (try dsimp only at hSw); go_simp; try rfl)
  try simp only [Act.put, List.setIfInBounds_toArray, List.set_cons_zero, List.set_cons_succ, List.getElem_toArray, List.getElem_cons_zero, List.getElem_cons_succ]
  refine wpAnyH_take (i := 20) (v := ?_) rfl (by kernel_rfl) (by kernel_rfl) (by kernel_rfl) (fun _ _ _ h => h) (Or.inl ⟨by rfl, ?_⟩) (by assumption) ?_
  rotate_left
  ·(intro w hSw; (try dsimp only at hSw); go_simp; try rfl)
  try simp only [Act.put, List.setIfInBounds_toArray, List.set_cons_zero, List.set_cons_succ, List.getElem_toArray, List.getElem_cons_zero, List.getElem_cons_succ]
  refine wpAnyH_take (i := 21) (v := ?_) rfl (by kernel_rfl) (by kernel_rfl) (by kernel_rfl) (fun _ _ _ h => h) (Or.inl ⟨by rfl, ?_⟩) (by assumption) ?_
  rotate_left
  ·(intro w hSw; (try dsimp only at hSw); go_simp; try rfl)
  try simp only [Act.put, List.setIfInBounds_toArray, List.set_cons_zero, List.set_cons_succ, List.getElem_toArray, List.getElem_cons_zero, List.getElem_cons_succ]
  refine wpAnyH_take (i := 22) (v := ?_) rfl (by kernel_rfl) (by kernel_rfl) (by kernel_rfl) (fun _ _ _ h => h) (Or.inl ⟨by rfl, ?_⟩) (by assumption) ?_
  rotate_left
  ·(intro w' hSw; refine Eq.trans (take_load_row 28 _ rfl W.heap.size rfl 28 #[.int .i64 n0, .slice a1 m1 c1, .slice a2 m2 c2, .slice a3 m3 c3] (0, 0) _ ((hSw.block _ (by have := HZ.out; omega)).trans HPa5.out) Tryz.underlying28 rfl HI4.out) ?_; rfl)
  try simp only [Act.put, List.setIfInBounds_toArray, List.set_cons_zero, List.set_cons_succ, List.getElem_toArray, List.getElem_cons_zero, List.getElem_cons_succ]
  refine wpAnyH_take (i := 23) (v := ?_) rfl (by kernel_rfl) (by kernel_rfl) (by kernel_rfl) (fun _ _ _ h => h) (Or.inl ⟨by rfl, ?_⟩) (by assumption) ?_
  rotate_left
  ·(intro w' hSw; refine Eq.trans (take_load_row 28 _ rfl W.heap.size rfl 28 #[.int .i64 n0, .slice a1 m1 c1, .slice a2 m2 c2, .slice a3 m3 c3] (0, 0) _ ((hSw.block _ (by have := HZ.out; omega)).trans HPa5.out) Tryz.underlying28 rfl HI4.out) ?_; rfl)
  try simp only [Act.put, List.setIfInBounds_toArray, List.set_cons_zero, List.set_cons_succ, List.getElem_toArray, List.getElem_cons_zero, List.getElem_cons_succ]
  refine wpAnyH_ready (rs := [24]) (by kernel_rfl) (by simp) ?_
  refine (AllReadyH.cons rfl (fun K hK => ?_) AllReadyH.nil)
  go_simp
  (refine (HSaa.out _ (by assumption)).mono ?_; rintro e z24 ⟨he, hb⟩; rw [he.out]; clear he; have hb := below_self (by assumption) hb)
  refine hK.out _ _ ?_ (fun hHeld => ?_)
  ·(first | exact Below.refl _ _ | exact (Below.refl _ _).drew | assumption | exact below_self (by assumption) (by assumption))
  clear hK K
  try simp only [Act.put, List.setIfInBounds_toArray, List.set_cons_zero, List.set_cons_succ, List.getElem_toArray, List.getElem_cons_zero, List.getElem_cons_succ]
  refine wpAnyH_take (i := 25) (v := ?_) rfl (by kernel_rfl) (by kernel_rfl) (by kernel_rfl) (fun _ _ _ h => h) (Or.inl ⟨by rfl, ?_⟩) (by assumption) ?_
  rotate_left
  ·(intro w hSw; (try dsimp only at hSw); go_simp; try rfl)
  try simp only [Act.put, List.setIfInBounds_toArray, List.set_cons_zero, List.set_cons_succ, List.getElem_toArray, List.getElem_cons_zero, List.getElem_cons_succ]
  refine wpAnyH_take (i := 26) (v := ?_) rfl (by kernel_rfl) (by kernel_rfl) (by kernel_rfl) (fun _ _ _ h => h) (Or.inl ⟨by rfl, ?_⟩) (by assumption) ?_
  rotate_left
  ·(intro w hSw; (try dsimp only at hSw); go_simp; try rfl)
  try simp only [Act.put, List.setIfInBounds_toArray, List.set_cons_zero, List.set_cons_succ, List.getElem_toArray, List.getElem_cons_zero, List.getElem_cons_succ]
  refine wpAnyH_done (by kernel_rfl) ?_ _
  go_wp2_with fail
  go_ret
  exact ⟨rfl, HBF.out.trans ((by assumption : Below y5.heap.size y5 _).mono HBF.out.size)⟩
end Go.Proofs.YtnancdbkmompdaaGreat
