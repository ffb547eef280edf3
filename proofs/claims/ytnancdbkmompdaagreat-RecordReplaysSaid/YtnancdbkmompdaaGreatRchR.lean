/-
 Package record: a state with a record more, of an instance.
-/
import Derived.Test.YtnancdbkmompdaaGreatRY
import Derived.Test.YtnancdbkmompdaaGreatRZ
import Derived.Test.YtnancdbkmompdaaGreatRQN
namespace Go.Proofs.YtnancdbkmompdaaGreat
open Go.RowKit Go.Sort
open Go.WideMaps
set_option linter.unusedSimpArgs false
set_option linter.unusedVariables false
set_option maxRecDepth 100000
set_option maxHeartbeats 40000000
theorem turned_fb {w w' : World} {b : Nat} (h : w.mapTurned w' b) : Fb b w w' ∧ w'.heap.size = w.heap.size ∧ KeepT w w' := by
 obtain ⟨es, c, es', c', h1, rfl⟩ := h
 have hne : ∀ k, k ≠ b → (ChangeMaps.setBlock w b (.map es' c')).heap[k]? = w.heap[k]? := fun k hk => by
  simp only [ChangeMaps.setBlock]
  rw [Array.getElem?_setIfInBounds, if_neg (Ne.symm hk)]
 refine ⟨⟨rfl, rfl, rfl, by simp [ChangeMaps.setBlock], fun k _ hk => hne k hk⟩, by simp [ChangeMaps.setBlock], fun k cs T fr q _ => hne k (by rintro rfl; rw [h1] at q; cases q)⟩
section
variable {ops : Array Oper} {o : Oper} {a : Act} {w : World} {K : Act → World → Prop} {Q : Exit → Act → World → Prop} {E : Prop} {α : Type}
theorem step_put_mv (hw : Region.wanted o (yielded ops a.tmps) = true) (m x v : Operand) (t : TypeId) (hop : o.op = Op.mapUpdate t m x v) (e : TypeId) (ht : Tryz.prog.underlying t = some (.map 49 e)) (enc : α → Value) (b : Nat) (l : List (I3 × α))
  (hm : a.eval m = .map (some b)) (h : MV enc w b l) (hn : l.length < maxLen) (k : I3) (c : α) (hx : a.eval x = idW k) (hk : okI k) (hv : a.eval v = enc c)
  (hK : ∀ w', MV enc w' b (putV l k c) → w.mapTurned w' b → K (a.put o.dst undef) w') : if Region.wanted o (yielded ops a.tmps) = true then Oper.wp Tryz.prog o a w K Q else E := by
 rw [if_pos hw]
 obtain ⟨w', hrun, r1, r2⟩ := h.put ht hn hk c
 unfold Oper.wp
 simp [execOp, hop, hm, hx, hv, hrun, Result.andThen]
 exact hK w' r1 r2
end
theorem keys_putV {α : Type} (l : List (I3 × α)) (x : I3) (v : α) : keysV (putV l x v) = ((keysV l).filter fun y => decide (y ≠ x)) ++ [x] := by
 unfold putV
 show ((delV l x ++ [(x, v)]).map (·.1)) = _
 rw [List.map_append]
 exact congrArg (· ++ [x]) (keys_delV l x)
theorem OfIs.put {w : World} {E : List (I3 × Value)} {M : List (I3 × Ins)} (h : OfIs w E M) (id : I3) (v : Value) (y : Ins) (hv : InO w v y) : OfIs w (putV E id v) (putV M id y) := by
 refine ⟨by rw [keys_putV, keys_putV, h.keys], nodup_putV h.nd id v, fun i u e => ?_⟩
 rw [getV_put h.nd] at e
 rw [getV_put (by rw [← h.keys]; exact h.nd)]
 by_cases q : i = id
 ·rw [if_pos q] at e ⊢
  cases e
  exact ⟨y, rfl, hv⟩
 ·rw [if_neg q] at e ⊢
  exact h.at' i u e
theorem with_d (x : Snp) (L : List I3) (M : List (I3 × Ins)) (cs : Array Value) (b : Nat) (vr : Value) (r : Bool × Id3 × Ins × Snp) (w : World) (h : StIs w cs b x L M) (hR : RecIs w vr r) (h0 : r.1 = false) (h1 : r.2.1.1 = x.1.1) (hL : L.length ≤ 900) (hMl : M.length ≤ 1000000) (hk : okI r.2.1) (hd : r.2.2.1.2.2.2.2.2.length ≤ 1000000) (hh : hasI L r.2.1 = true) : Calls Tryz.prog 21 #[.agg cs, vr] w (WiP (x, L, putV M r.2.1 r.2.2.1) b w) := by
 obtain ⟨v1, v2, v3, v4, hcs, hsn, hik⟩ := h.cells
 obtain ⟨a1, c1, a2, c2, a3, c3, e1, e2, e3⟩ := hsn.slices
 obtain ⟨a4, c4, e4⟩ := hik.slice
 obtain ⟨cr, rfl, hr⟩ := hR
 obtain ⟨a18, m18, p18, rs18, a20, m20, p20, rs20, a21, m21, p21, rs21, a22, m22, p22, rs22, hcr, hs12, hs13, hr18, hr20, hr21, hr22⟩ := rc_is hr
 obtain ⟨n0, ⟨n1, n2, n3⟩, ⟨n4, ⟨n5, n6⟩, ⟨n7, n8⟩, ⟨n9, n10, n11, n12, n13, n14, n15, n16⟩, n17, l18⟩, ⟨n19, l20⟩, l21, l22⟩ := r
 obtain ⟨⟨x0, q1⟩, q2, q3⟩ := x
 obtain rfl : cr = #[.bool n0, .int .i64 n1, .int .i64 n2, .int .i64 n3, .int .i64 n4, .int .i64 n5, .int .i64 n6, .int .i64 n7, .int .i64 n8, .int .i64 n9, .int .i64 n10, .int .i64 n11, .string n12, .string n13, .int .i64 n14, .int .i64 n15, .int .i64 n16, .int .i64 n17, .slice a18 m18 p18, .int .i64 n19, .slice a20 m20 p20, .slice a21 m21 p21, .slice a22 m22 p22] := by
  cases cr
  simpa [idE, inV, snV] using hcr
 obtain ⟨k1, hk1⟩ : ∃ q, q1.length = q := ⟨_, rfl⟩
 obtain ⟨k2, hk2⟩ : ∃ q, q2.length = q := ⟨_, rfl⟩
 obtain ⟨k3, hk3⟩ : ∃ q, q3.length = q := ⟨_, rfl⟩
 obtain ⟨k4, hk4⟩ : ∃ q, L.length = q := ⟨_, rfl⟩
 simp only [hk1] at e1
 simp only [hk2] at e2
 simp only [hk3] at e3
 rw [hk4] at e4
 have HL4 := Hd hk4
 subst e1 e2 e3 e4 hcs
 obtain ⟨X, hX⟩ : ∃ X, ((w.alloc (.cells #[.int .i64 x0, .slice a1 k1 c1, .slice a2 k2 c2, .slice a3 k3 c3, .slice a4 k4 c4, .map (some b)] 37)).alloc (.cells #[.bool n0, .int .i64 n1, .int .i64 n2, .int .i64 n3, .int .i64 n4, .int .i64 n5, .int .i64 n6, .int .i64 n7, .int .i64 n8, .int .i64 n9, .int .i64 n10, .int .i64 n11, .string n12, .string n13, .int .i64 n14, .int .i64 n15, .int .i64 n16, .int .i64 n17, .slice a18 m18 p18, .int .i64 n19, .slice a20 m20 p20, .slice a21 m21 p21, .slice a22 m22 p22] 61)).alloc (.cells #[.int .i64 0, .slice none 0 0, .slice none 0 0, .slice none 0 0, .slice none 0 0, .map none] 37) = X := ⟨_, rfl⟩
 have hB : Below w.heap.size w X := by rw [← hX]; exact (((Below.refl _ _).alloc (Nat.le_refl _) _).alloc (by simp) _).alloc (by simp; omega) _
 have hb1 : Bk X w.heap.size 37 [.int .i64 x0, .slice a1 k1 c1, .slice a2 k2 c2, .slice a3 k3 c3, .slice a4 k4 c4, .map (some b)] := by rw [← hX]; exact ((Bk.new w _ _).old _).old _
 have hb2 : Bk X (w.heap.size + 1) 61 [.bool n0, .int .i64 n1, .int .i64 n2, .int .i64 n3, .int .i64 n4, .int .i64 n5, .int .i64 n6, .int .i64 n7, .int .i64 n8, .int .i64 n9, .int .i64 n10, .int .i64 n11, .string n12, .string n13, .int .i64 n14, .int .i64 n15, .int .i64 n16, .int .i64 n17, .slice a18 m18 p18, .int .i64 n19, .slice a20 m20 p20, .slice a21 m21 p21, .slice a22 m22 p22] := by rw [← hX]; have := (Bk.new (w.alloc (.cells #[.int .i64 x0, .slice a1 k1 c1, .slice a2 k2 c2, .slice a3 k3 c3, .slice a4 k4 c4, .map (some b)] 37)) 61 [.bool n0, .int .i64 n1, .int .i64 n2, .int .i64 n3, .int .i64 n4, .int .i64 n5, .int .i64 n6, .int .i64 n7, .int .i64 n8, .int .i64 n9, .int .i64 n10, .int .i64 n11, .string n12, .string n13, .int .i64 n14, .int .i64 n15, .int .i64 n16, .int .i64 n17, .slice a18 m18 p18, .int .i64 n19, .slice a20 m20 p20, .slice a21 m21 p21, .slice a22 m22 p22]).old (.cells #[.int .i64 0, .slice none 0 0, .slice none 0 0, .slice none 0 0, .slice none 0 0, .map none] 37); rwa [World.size_alloc] at this
 have hb3 : Bk X (w.heap.size + 1 + 1) 37 [.int .i64 0, .slice none 0 0, .slice none 0 0, .slice none 0 0, .slice none 0 0, .map none] := by rw [← hX]; have := Bk.new ((w.alloc (.cells #[.int .i64 x0, .slice a1 k1 c1, .slice a2 k2 c2, .slice a3 k3 c3, .slice a4 k4 c4, .map (some b)] 37)).alloc (.cells #[.bool n0, .int .i64 n1, .int .i64 n2, .int .i64 n3, .int .i64 n4, .int .i64 n5, .int .i64 n6, .int .i64 n7, .int .i64 n8, .int .i64 n9, .int .i64 n10, .int .i64 n11, .string n12, .string n13, .int .i64 n14, .int .i64 n15, .int .i64 n16, .int .i64 n17, .slice a18 m18 p18, .int .i64 n19, .slice a20 m20 p20, .slice a21 m21 p21, .slice a22 m22 p22] 61)) 37 [.int .i64 0, .slice none 0 0, .slice none 0 0, .slice none 0 0, .slice none 0 0, .map none]; simpa using this
 have HSt := Hd (h.on hB)
 have HB := Hd hB
 have H1 := Hd hb1
 have H2 := Hd hb2
 have H3 := Hd hb3
 have HXt : Hid ((Tryz.prog.info? 37).map (·.size) = some 6) := Hd (by kernel_rfl)
 have HSz := Hd (show w.heap.size + 1 + 1 < X.heap.size from hb3.lt)
 have HBs := Hd (show b < w.heap.size from h.lt)
 have h0 : n0 = false := h0
 subst h0
 have h1 : n1 = x0 := h1
 subst h1
 have hm18 : m18 = rs18.length := by obtain ⟨_, _, e⟩ := hr18.rd.slice; simp only [Value.slice.injEq] at e; exact e.2.1
 have d1 : (n1 != n1) = false := by simp
 have d2 : (n1 == n1) = true := by simp
 have HS12 := Hd (And.intro hs12 hs13)
 have HR18 := Hd hr18
 have HM18 := Hd hm18.symm
 have HMl := Hd hMl
 have HOk := Hd hk
 have HIk := Hd (hik.below hB)
 have HCi := Hd (fun (W : World) (hW : Below X.heap.size X W) => cinst n4 n5 n6 n7 n8 n9 n10 n11 n12 n13 n14 n15 n16 n17 (.slice a18 m18 p18) rs18 W (hr18.rd.below (hB.trans (hW.mono hB.size))) (by rw [hr18.len]; exact hd))
 have HHas := Hd (has_any (.slice a4 k4 c4) L n1 n2 n3 X (hik.below hB).rd (by omega))
 have HH := Hd hh
 clear hh
 have y0 := hb1.cell 0
 have y4 := hb1.cell 4
 simp only [gB] at y0 y4
 have z0 := hb2.cell 0
 have z1 := hb2.cell 1
 have z2 := hb2.cell 2
 have z3 := hb2.cell 3
 simp only [gB] at z0 z1 z2 z3
 clear hm18 hL hMl hk hd
 clear h hr hsn hik hcr hs12 hs13 hr18 hr20 hr21 hr22 hk1 hk2 hk3 hk4 hB hb1 hb2 hb3
 go_enter Tryz.func21, Tryz.ntmps21
 go_wp2_with fail
 refine HHas.out.mono ?_
 rintro e w1 ⟨rfl, hb⟩
 have HBc := Hd (HB.out.trans (hb.mono HB.out.size))
 have HStc := Hd (HSt.out.on hb)
 have H1c := Hd (H1.out.below hb)
 have H2c := Hd (H2.out.below hb)
 have H3c := Hd (H3.out.below hb)
 have HCi2 := Hd (fun (W : World) (hW : Below w1.heap.size w1 W) => HCi.out W (hb.trans (hW.mono hb.size)))
 clear HCi
 have HCi := HCi2
 clear HCi2
 obtain ⟨W8, rfl⟩ : ∃ q, q = w1 := ⟨_, rfl⟩
 clear hX hb y0 y4 z0 z1 z2 z3
 rw [show hasI L (n1, n2, n3) = true from HH.out]
 go_upto_region 8 with fail
 refine wp_region_held_drew (S := (fun w' => Bk w' w.heap.size 37 [.int .i64 n1, .slice a1 k1 c1, .slice a2 k2 c2, .slice a3 k3 c3, .slice a4 k4 c4, .map (some b)] ∧ Bk w' (w.heap.size + 1) 61 [.bool false, .int .i64 n1, .int .i64 n2, .int .i64 n3, .int .i64 n4, .int .i64 n5, .int .i64 n6, .int .i64 n7, .int .i64 n8, .int .i64 n9, .int .i64 n10, .int .i64 n11, .string n12, .string n13, .int .i64 n14, .int .i64 n15, .int .i64 n16, .int .i64 n17, .slice a18 m18 p18, .int .i64 n19, .slice a20 m20 p20, .slice a21 m21 p21, .slice a22 m22 p22])) (by kernel_rfl) ?_ (fun hHeld => ?_)
 ·(first | exact ⟨H1e.out, H2e.out⟩ | exact ⟨H1d.out, H2d.out⟩ | exact ⟨H1c.out.below (below_dr _ _), H2c.out.below (below_dr _ _)⟩ | exact ⟨H1c.out, H2c.out⟩)
 refine tkA 0 (v := ?_) ?_ ?_
 rotate_left
 ·(intro w hSw; (try dsimp only at hSw); go_simp; try rfl)
 try simp only [Act.put, gA]
 refine tkA 1 (v := ?_) ?_ ?_
 rotate_left
 ·(intro w hSw; have t5 := hSw.1.cell 5; simp only [gB] at t5; (try dsimp only at hSw); go_simp; try rfl)
 try simp only [Act.put, gA]
 refine tkA 2 (v := ?_) ?_ ?_
 rotate_left
 ·(intro w hSw; (try dsimp only at hSw); go_simp; try rfl)
 try simp only [Act.put, gA]
 refine tkA 3 (v := ?_) ?_ ?_
 rotate_left
 ·(intro w hSw; have t1 := hSw.2.cell 1; have t2 := hSw.2.cell 2; have t3 := hSw.2.cell 3; simp only [gB] at t1 t2 t3; (try dsimp only at hSw); go_simp; try rfl)
 try simp only [Act.put, gA]
 refine tkA 4 (v := ?_) ?_ ?_
 rotate_left
 ·(intro w hSw; (try dsimp only at hSw); go_simp; try rfl)
 try simp only [Act.put, gA]
 refine tkA 5 (v := ?_) ?_ ?_
 rotate_left
 ·(intro w hSw; have t4 := hSw.2.cell 4; have t5 := hSw.2.cell 5; have t6 := hSw.2.cell 6; have t7 := hSw.2.cell 7; have t8 := hSw.2.cell 8; have t9 := hSw.2.cell 9; have t10 := hSw.2.cell 10; have t11 := hSw.2.cell 11; have t12 := hSw.2.cell 12; have t13 := hSw.2.cell 13; have t14 := hSw.2.cell 14; have t15 := hSw.2.cell 15; have t16 := hSw.2.cell 16; have t17 := hSw.2.cell 17; have t18 := hSw.2.cell 18; simp only [gB] at t4 t5 t6 t7 t8 t9 t10 t11 t12 t13 t14 t15 t16 t17 t18; (try dsimp only at hSw); go_simp; try rfl)
 try simp only [Act.put, gA]
 refine wpAnyH_ready (rs := [6]) (by kernel_rfl) (by simp) ?_
 refine (AllReadyH.cons rfl (fun K hK => ?_) AllReadyH.nil)
 go_simp
 (refine (HCi.out _ (below_dr W8 W8.heap.size)).mono ?_; rintro e w5 ⟨a6, c6, he, ho, hb⟩; rw [HM18.out] at he ho; rw [he.out]; have hb : Below W8.heap.size W8 w5 := (below_dr W8 W8.heap.size).trans hb; have H1d := Hd (H1c.out.below hb); have H2d := Hd (H2c.out.below hb); have H3d := Hd (H3c.out.below hb); have HSt5 := Hd (HStc.out.on hb); have HB5 := Hd (HBc.out.trans (hb.mono HBc.out.size)); have HIn := Hd (show InO w5 (.agg #[.int .i64 n4, .int .i64 n5, .int .i64 n6, .int .i64 n7, .int .i64 n8, .int .i64 n9, .int .i64 n10, .int .i64 n11, .string n12, .string n13, .int .i64 n14, .int .i64 n15, .int .i64 n16, .int .i64 n17, .slice a6 m18 c6]) (n4, (n5, n6), (n7, n8), (n9, n10, n11, n12, n13, n14, n15, n16), n17, l18) from ⟨.slice a6 m18 c6, rfl, HS12.out.1, HS12.out.2, rs18, ho.base (Nat.zero_le _), ho.rd, HR18.out.len, fun j p q => HR18.out.at' j p q⟩); clear he ho hb)
 refine hK.out _ _ ?_ (fun hHeld => ?_)
 ·(first | exact ⟨H1e.out, H2e.out⟩ | exact ⟨H1d.out, H2d.out⟩ | exact ⟨H1c.out.below (below_dr _ _), H2c.out.below (below_dr _ _)⟩ | exact ⟨H1c.out, H2c.out⟩)
 clear hK K
 try simp only [Act.put, gA]
 refine wpAnyH_ready (rs := [7]) (by kernel_rfl) (by simp) ?_
 refine (AllReadyH.cons rfl (fun K hK => ?_) AllReadyH.nil)
 obtain ⟨E, hmE, hoE⟩ := HSt5.out.mv
 have hlE : E.length < maxLen := by have e := congrArg List.length hoE.keys; simp only [List.length_map] at e; have := HMl.out; unfold maxLen; omega
 refine step_put_mv (by rfl) _ _ _ 35 rfl 59 Tryz.underlying35 (fun v => v) b E rfl hmE hlE (n1, n2, n3) (.agg #[.int .i64 n4, .int .i64 n5, .int .i64 n6, .int .i64 n7, .int .i64 n8, .int .i64 n9, .int .i64 n10, .int .i64 n11, .string n12, .string n13, .int .i64 n14, .int .i64 n15, .int .i64 n16, .int .i64 n17, .slice a6 m18 c6]) rfl HOk.out rfl ?_
 intro w6 hm6 ht6
 obtain ⟨hf6, hs6, hk6⟩ := turned_fb ht6
 have hbk : ∀ k, k ≠ b → k < w5.heap.size → w6.heap[k]? = w5.heap[k]? := fun k h1 h2 => hf6.block k h2 h1
 have H1e := Hd (show Bk w6 w.heap.size 37 [.int .i64 n1, .slice a1 k1 c1, .slice a2 k2 c2, .slice a3 k3 c3, .slice a4 k4 c4, .map (some b)] from (hbk _ (by have := HBs.out; omega) H1d.out.lt).trans H1d.out)
 have H2e := Hd (show Bk w6 (w.heap.size + 1) 61 [.bool false, .int .i64 n1, .int .i64 n2, .int .i64 n3, .int .i64 n4, .int .i64 n5, .int .i64 n6, .int .i64 n7, .int .i64 n8, .int .i64 n9, .int .i64 n10, .int .i64 n11, .string n12, .string n13, .int .i64 n14, .int .i64 n15, .int .i64 n16, .int .i64 n17, .slice a18 m18 p18, .int .i64 n19, .slice a20 m20 p20, .slice a21 m21 p21, .slice a22 m22 p22] from (hbk _ (by have := HBs.out; omega) H2d.out.lt).trans H2d.out)
 have H3e := Hd (show Bk w6 (w.heap.size + 1 + 1) 37 [.int .i64 0, .slice none 0 0, .slice none 0 0, .slice none 0 0, .slice none 0 0, .map none] from (hbk _ (by have := HBs.out; omega) H3d.out.lt).trans H3d.out)
 have hSt6 : StIs w6 #[.int .i64 n1, .slice a1 k1 c1, .slice a2 k2 c2, .slice a3 k3 c3, .slice a4 k4 c4, .map (some b)] b ((n1, q1), q2, q3) L (putV M (n1, n2, n3) (n4, (n5, n6), (n7, n8), (n9, n10, n11, n12, n13, n14, n15, n16), n17, l18)) := by
  obtain ⟨u1, u2, u3, u4, e, g1, g2⟩ := HSt5.out.cells
  exact ⟨⟨u1, u2, u3, u4, e, g1.keepT hk6, ik_keepT g2 hk6⟩, HSt5.out.okl, _, hm6, (hoE.keepT hk6).put _ _ _ (HIn.out.keepT hk6)⟩
 have HSt6 := Hd hSt6
 have HFb := Hd (show Fb b w w6 from ⟨hf6.os.trans HB5.out.os, hf6.tape.trans HB5.out.tape, hf6.output.trans HB5.out.output, Nat.le_trans HB5.out.size hf6.size, fun k h1 h2 => (hf6.block k (by have := HB5.out.size; omega) h2).trans (HB5.out.block k h1)⟩)
 clear hmE hoE hlE hm6 ht6 hf6 hs6 hk6 hbk hSt6
 refine hK.out _ _ ?_ (fun hHeld => ?_)
 ·(first | exact ⟨H1e.out, H2e.out⟩ | exact ⟨H1d.out, H2d.out⟩ | exact ⟨H1c.out.below (below_dr _ _), H2c.out.below (below_dr _ _)⟩ | exact ⟨H1c.out, H2c.out⟩)
 clear hK K
 try simp only [Act.put, gA]
 refine wpAnyH_done (by kernel_rfl) ?_ _
 clear hHeld
 go_wp2_with (first | (refine wpList_load_row rfl _ _ rfl w.heap.size rfl 37 #[.int .i64 n1, .slice a1 k1 c1, .slice a2 k2 c2, .slice a3 k3 c3, .slice a4 k4 c4, .map (some b)] (0, 0) _ H1e.out Tryz.underlying37 rfl HXt.out ?_) | (refine wpList_store_row rfl 37 _ _ rfl (w.heap.size + 1 + 1) rfl #[.int .i64 n1, .slice a1 k1 c1, .slice a2 k2 c2, .slice a3 k3 c3, .slice a4 k4 c4, .map (some b)] rfl #[.int .i64 0, .slice none 0 0, .slice none 0 0, .slice none 0 0, .slice none 0 0, .map none] 37 H3e.out HXt.out rfl (by rw [← Array.all_toList]; rfl) ?_))
 have hlv := run_loadVar_row (w6.setRow (w.heap.size + 1 + 1) #[.int .i64 n1, .slice a1 k1 c1, .slice a2 k2 c2, .slice a3 k3 c3, .slice a4 k4 c4, .map (some b)]) _ _ _ #[.int .i64 n1, .slice a1 k1 c1, .slice a2 k2 c2, .slice a3 k3 c3, .slice a4 k4 c4, .map (some b)] (0, 0) _ (heap_setRow_same _ _ #[.int .i64 0, .slice none 0 0, .slice none 0 0, .slice none 0 0, .slice none 0 0, .map none] #[.int .i64 n1, .slice a1 k1 c1, .slice a2 k2 c2, .slice a3 k3 c3, .slice a4 k4 c4, .map (some b)] _ H3e.out) Tryz.underlying37 rfl HXt.out
 have hsr := sx_setRow w6 (w.heap.size + 1 + 1) #[.int .i64 n1, .slice a1 k1 c1, .slice a2 k2 c2, .slice a3 k3 c3, .slice a4 k4 c4, .map (some b)]
 have hStF := HSt6.out.keepT (KeepT.setRow H3e.out stT_state #[.int .i64 n1, .slice a1 k1 c1, .slice a2 k2 c2, .slice a3 k3 c3, .slice a4 k4 c4, .map (some b)]) (hsr.block b (by have := HBs.out; omega))
 exact bodyPost_ret (v := .agg #[.int .i64 n1, .slice a1 k1 c1, .slice a2 k2 c2, .slice a3 k3 c3, .slice a4 k4 c4, .map (some b)]) (by simp [results, Tryz.results21, asAddr, Act.put, hlv]) rfl ⟨#[.int .i64 n1, .slice a1 k1 c1, .slice a2 k2 c2, .slice a3 k3 c3, .slice a4 k4 c4, .map (some b)], b, rfl, hStF, .inl rfl, ⟨hsr.os.trans HFb.out.os, hsr.tape.trans HFb.out.tape, hsr.output.trans HFb.out.output, (by rw [hsr.size]; exact HFb.out.size), fun k h1 h2 => (hsr.block k (by omega)).trans (HFb.out.block k h1 h2)⟩⟩
end Go.Proofs.YtnancdbkmompdaaGreat
