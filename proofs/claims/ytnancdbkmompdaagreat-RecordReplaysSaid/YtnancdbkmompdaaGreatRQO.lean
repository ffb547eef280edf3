/-
  Texts put together: Rck, Rcl, Rcm, Rcn.
-/
import Derived.Test.YtnancdbkmompdaaGreatRY
import Derived.Test.YtnancdbkmompdaaGreatRZ
import Derived.Test.YtnancdbkmompdaaGreatRcjR
import Derived.Lib.SliceRun
namespace Go.Proofs.YtnancdbkmompdaaGreat
open Go.RowKit Go.Sort
open Go.WideMaps
set_option linter.unusedSimpArgs false
set_option linter.unusedVariables false
set_option maxRecDepth 100000
set_option maxHeartbeats 40000000
theorem StIs.lit {w : World} {cs : Array Value} {b : Nat} {x : Snp} {L : List I3} {M : List (I3 × Ins)} (h : StIs w cs b x L M) : ∃ (a1 : Option Addr) (n1 c1 : Nat) (a2 : Option Addr) (n2 c2 : Nat) (a3 : Option Addr) (n3 c3 : Nat) (a4 : Option Addr) (n4 c4 : Nat), cs = #[.int .i64 x.1.1, .slice a1 n1 c1, .slice a2 n2 c2, .slice a3 n3 c3, .slice a4 n4 c4, .map (some b)] := by
 obtain ⟨v1, v2, v3, v4, hcs, hsn, hik⟩ := h.cells
 obtain ⟨a1, c1, a2, c2, a3, c3, e1, e2, e3⟩ := hsn.slices
 obtain ⟨a4, c4, e4⟩ := hik.slice
 subst e1 e2 e3 e4
 exact ⟨_, _, _, _, _, _, _, _, _, _, _, _, hcs⟩
theorem take_load_row {P : Program} {ρ : Operand → Value} {o : Oper} {w : World} (ty : TypeId) (x : Operand) (ho : o.op = .load ty x) (g : Nat) (hx : ρ x = .pointer (some ⟨g, 0, none⟩)) (t : TypeId) (cs : Array Value) (fr : Nat × Nat) (d : TypeDesc) (hg : w.heap[g]? = some (.cells cs t fr))
  (hu : P.underlying ty = some d) (hd : (match d with | .struct _ | .array _ _ => true | _ => false) = true) (hi : (P.info? ty).map (·.size) = some cs.size) : (execOp ρ o).run P w = .ok (.value (.agg cs)) w := by
 unfold execOp
 simp only [ho, hx, Instr.loadAt, Instr.sureAddr, Sem.run_bind, Sem.run_pure, Result.andThen_ok, run_loadVar_row w g t ty cs fr d hg hu hd hi]
def AdP (y : Snp × List I3 × List (I3 × Ins)) (w : World) (e : Ending) (w' : World) : Prop := ∃ (cs : Array Value) (b : Nat), Hid (e = .returned (.agg cs)) ∧ StIs w' cs b y.1 y.2.1 y.2.2 ∧ w.heap.size ≤ b ∧ Below w.heap.size w w'
theorem below_fb {B b : Nat} {a w w' : World} (h : Below B a w) (hb : B ≤ b) (hB : B ≤ w.heap.size) (f : Fb b w w') : Below B a w' := ⟨f.os.trans h.os, f.tape.trans h.tape, f.output.trans h.output, Nat.le_trans h.size f.size, fun k hk => (f.block k (by omega) (by omega)).trans (h.block k hk)⟩
theorem add_any (x : Snp) (L : List I3) (M : List (I3 × Ins)) (cs : Array Value) (b : Nat) (vr : Value) (r : Bool × Id3 × Ins × Snp) (w : World) (h : StIs w cs b x L M) (hR : RecIs w vr r) (hNx : Sn6 x) (hL : L.length ≤ 900) (hMl : M.length ≤ 1000000) (hDm : ∀ id y, getV M id = some y → y.2.2.2.2.2.length ≤ 1000000) (hk : okI r.2.1) (hd : r.2.2.1.2.2.2.2.2.length ≤ 1000000) (hN : Sn6 r.2.2.2) : Calls Tryz.prog 16 #[.agg cs, vr] w (AdP (wth x L M r) w) := by
 obtain ⟨a1, k1, c1, a2, k2, c2, a3, k3, c3, a4, k4, c4, hcs⟩ := h.lit
 obtain ⟨x0, hx0⟩ : ∃ q, x.1.1 = q := ⟨_, rfl⟩
 rw [hx0] at hcs
 subst hcs
 obtain ⟨cr, rfl, hr⟩ := hR
 obtain ⟨a18, m18, p18, rs18, a20, m20, p20, rs20, a21, m21, p21, rs21, a22, m22, p22, rs22, hcr, hs12, hs13, hr18, hr20, hr21, hr22⟩ := rc_is hr
 obtain ⟨r', hr'⟩ : ∃ r', r' = r := ⟨_, rfl⟩
 obtain ⟨n0, ⟨n1, n2, n3⟩, ⟨n4, ⟨n5, n6⟩, ⟨n7, n8⟩, ⟨n9, n10, n11, n12, n13, n14, n15, n16⟩, n17, l18⟩, ⟨n19, l20⟩, l21, l22⟩ := r
 obtain rfl : cr = #[.bool n0, .int .i64 n1, .int .i64 n2, .int .i64 n3, .int .i64 n4, .int .i64 n5, .int .i64 n6, .int .i64 n7, .int .i64 n8, .int .i64 n9, .int .i64 n10, .int .i64 n11, .string n12, .string n13, .int .i64 n14, .int .i64 n15, .int .i64 n16, .int .i64 n17, .slice a18 m18 p18, .int .i64 n19, .slice a20 m20 p20, .slice a21 m21 p21, .slice a22 m22 p22] := by
  cases cr
  simpa [idE, inV, snV] using hcr
 obtain ⟨X, hX⟩ : ∃ X, ((w.alloc (.cells #[.int .i64 x0, .slice a1 k1 c1, .slice a2 k2 c2, .slice a3 k3 c3, .slice a4 k4 c4, .map (some b)] 37)).alloc (.cells #[.bool n0, .int .i64 n1, .int .i64 n2, .int .i64 n3, .int .i64 n4, .int .i64 n5, .int .i64 n6, .int .i64 n7, .int .i64 n8, .int .i64 n9, .int .i64 n10, .int .i64 n11, .string n12, .string n13, .int .i64 n14, .int .i64 n15, .int .i64 n16, .int .i64 n17, .slice a18 m18 p18, .int .i64 n19, .slice a20 m20 p20, .slice a21 m21 p21, .slice a22 m22 p22] 61)).alloc (.cells #[.int .i64 0, .slice none 0 0, .slice none 0 0, .slice none 0 0, .slice none 0 0, .map none] 37) = X := ⟨_, rfl⟩
 have hB : Below w.heap.size w X := by rw [← hX]; exact (((Below.refl _ _).alloc (Nat.le_refl _) _).alloc (by simp) _).alloc (by simp; omega) _
 have hb1 : Bk X w.heap.size 37 [.int .i64 x0, .slice a1 k1 c1, .slice a2 k2 c2, .slice a3 k3 c3, .slice a4 k4 c4, .map (some b)] := by rw [← hX]; exact ((Bk.new w _ _).old _).old _
 have hb2 : Bk X (w.heap.size + 1) 61 [.bool n0, .int .i64 n1, .int .i64 n2, .int .i64 n3, .int .i64 n4, .int .i64 n5, .int .i64 n6, .int .i64 n7, .int .i64 n8, .int .i64 n9, .int .i64 n10, .int .i64 n11, .string n12, .string n13, .int .i64 n14, .int .i64 n15, .int .i64 n16, .int .i64 n17, .slice a18 m18 p18, .int .i64 n19, .slice a20 m20 p20, .slice a21 m21 p21, .slice a22 m22 p22] := by rw [← hX]; have := (Bk.new (w.alloc (.cells #[.int .i64 x0, .slice a1 k1 c1, .slice a2 k2 c2, .slice a3 k3 c3, .slice a4 k4 c4, .map (some b)] 37)) 61 [.bool n0, .int .i64 n1, .int .i64 n2, .int .i64 n3, .int .i64 n4, .int .i64 n5, .int .i64 n6, .int .i64 n7, .int .i64 n8, .int .i64 n9, .int .i64 n10, .int .i64 n11, .string n12, .string n13, .int .i64 n14, .int .i64 n15, .int .i64 n16, .int .i64 n17, .slice a18 m18 p18, .int .i64 n19, .slice a20 m20 p20, .slice a21 m21 p21, .slice a22 m22 p22]).old (.cells #[.int .i64 0, .slice none 0 0, .slice none 0 0, .slice none 0 0, .slice none 0 0, .map none] 37); rwa [World.size_alloc] at this
 have hb3 : Bk X (w.heap.size + 1 + 1) 37 [.int .i64 0, .slice none 0 0, .slice none 0 0, .slice none 0 0, .slice none 0 0, .map none] := by rw [← hX]; have := Bk.new ((w.alloc (.cells #[.int .i64 x0, .slice a1 k1 c1, .slice a2 k2 c2, .slice a3 k3 c3, .slice a4 k4 c4, .map (some b)] 37)).alloc (.cells #[.bool n0, .int .i64 n1, .int .i64 n2, .int .i64 n3, .int .i64 n4, .int .i64 n5, .int .i64 n6, .int .i64 n7, .int .i64 n8, .int .i64 n9, .int .i64 n10, .int .i64 n11, .string n12, .string n13, .int .i64 n14, .int .i64 n15, .int .i64 n16, .int .i64 n17, .slice a18 m18 p18, .int .i64 n19, .slice a20 m20 p20, .slice a21 m21 p21, .slice a22 m22 p22] 61)) 37 [.int .i64 0, .slice none 0 0, .slice none 0 0, .slice none 0 0, .slice none 0 0, .map none]; simpa using this
 have HB := Hd hB
 have H1 := Hd hb1
 have H2 := Hd hb2
 have H3 := Hd hb3
 have HXt : Hid ((Tryz.prog.info? 37).map (·.size) = some 6) := Hd (by kernel_rfl)
 have HXr : Hid ((Tryz.prog.info? 61).map (·.size) = some 23) := Hd (by kernel_rfl)
 have HCp := Hd (copied_any x L M _ b X.drew (h.on (hB.trans (below_dr X w.heap.size))) hNx (by omega) hMl hDm)
 have HWi := Hd (fun (W : World) (csb : Array Value) (b1 : Nat) (hW : Below w.heap.size w W) (hs : StIs W csb b1 x L M) => with_any x L M csb b1 (.agg #[.bool n0, .int .i64 n1, .int .i64 n2, .int .i64 n3, .int .i64 n4, .int .i64 n5, .int .i64 n6, .int .i64 n7, .int .i64 n8, .int .i64 n9, .int .i64 n10, .int .i64 n11, .string n12, .string n13, .int .i64 n14, .int .i64 n15, .int .i64 n16, .int .i64 n17, .slice a18 m18 p18, .int .i64 n19, .slice a20 m20 p20, .slice a21 m21 p21, .slice a22 m22 p22]) _ W hs ⟨_, rfl, rcS.keep hr hW⟩ hL hMl hk hd hN)
 rw [← hr'] at HWi ⊢
 clear h hr hcr hs12 hs13 hr18 hr20 hr21 hr22 hB hb1 hb2 hb3 hNx hL hMl hDm hk hd hN hr' hx0
 go_enter Tryz.func16, Tryz.ntmps16
 go_upto_region 1 with fail
 try rw [hX]
 clear hX
 refine wp_region_held_drew (S := (fun w' => Bk w' w.heap.size 37 [.int .i64 x0, .slice a1 k1 c1, .slice a2 k2 c2, .slice a3 k3 c3, .slice a4 k4 c4, .map (some b)] ∧ Bk w' (w.heap.size + 1) 61 [.bool n0, .int .i64 n1, .int .i64 n2, .int .i64 n3, .int .i64 n4, .int .i64 n5, .int .i64 n6, .int .i64 n7, .int .i64 n8, .int .i64 n9, .int .i64 n10, .int .i64 n11, .string n12, .string n13, .int .i64 n14, .int .i64 n15, .int .i64 n16, .int .i64 n17, .slice a18 m18 p18, .int .i64 n19, .slice a20 m20 p20, .slice a21 m21 p21, .slice a22 m22 p22])) (by kernel_rfl) ?_ (fun hHeld => ?_)
 ·(first | exact ⟨H1d.out, H2d.out⟩ | exact ⟨H1c.out, H2c.out⟩ | exact ⟨H1b.out, H2b.out⟩ | exact ⟨H1.out.below (below_dr _ _), H2.out.below (below_dr _ _)⟩ | exact ⟨H1.out, H2.out⟩)
 refine tkA 0 (v := ?_) ?_ ?_
 rotate_left
 ·(intro w' hSw; refine Eq.trans (take_load_row 37 _ rfl w.heap.size rfl 37 #[.int .i64 x0, .slice a1 k1 c1, .slice a2 k2 c2, .slice a3 k3 c3, .slice a4 k4 c4, .map (some b)] (0, 0) _ hSw.1 Tryz.underlying37 rfl HXt.out) ?_; rfl)
 try simp only [Act.put, gA]
 refine tkA 2 (v := ?_) ?_ ?_
 rotate_left
 ·(intro w' hSw; refine Eq.trans (take_load_row 61 _ rfl (w.heap.size + 1) rfl 61 #[.bool n0, .int .i64 n1, .int .i64 n2, .int .i64 n3, .int .i64 n4, .int .i64 n5, .int .i64 n6, .int .i64 n7, .int .i64 n8, .int .i64 n9, .int .i64 n10, .int .i64 n11, .string n12, .string n13, .int .i64 n14, .int .i64 n15, .int .i64 n16, .int .i64 n17, .slice a18 m18 p18, .int .i64 n19, .slice a20 m20 p20, .slice a21 m21 p21, .slice a22 m22 p22] (0, 0) _ hSw.2 Tryz.underlying61 rfl HXr.out) ?_; rfl)
 try simp only [Act.put, gA]
 refine wpAnyH_ready (rs := [1]) (by kernel_rfl) (by simp) ?_
 refine (AllReadyH.cons rfl (fun K hK => ?_) AllReadyH.nil)
 go_simp
 (refine HCp.out.mono ?_; rintro e w1 ⟨csb, b1, he, hs, hbb, hb⟩; rw [he.out]; have hb : Below X.heap.size X w1 := (below_dr X X.heap.size).trans hb; have hbb : X.heap.size ≤ b1 := hbb; have HS1 := Hd hs; have HXb := Hd hbb; have HB1 := Hd (HB.out.trans (hb.mono HB.out.size)); have H1b := Hd (H1.out.below hb); have H2b := Hd (H2.out.below hb); have H3b := Hd (H3.out.below hb); clear he hs hbb hb)
 refine hK.out _ _ ?_ (fun hHeld => ?_)
 ·(first | exact ⟨H1d.out, H2d.out⟩ | exact ⟨H1c.out, H2c.out⟩ | exact ⟨H1b.out, H2b.out⟩ | exact ⟨H1.out.below (below_dr _ _), H2.out.below (below_dr _ _)⟩ | exact ⟨H1.out, H2.out⟩)
 clear hK K
 try simp only [Act.put, gA]
 refine wpAnyH_ready (rs := [3]) (by kernel_rfl) (by simp) ?_
 refine (AllReadyH.cons rfl (fun K hK => ?_) AllReadyH.nil)
 go_simp
 (refine (HWi.out w1 csb b1 HB1.out HS1.out).mono ?_; rintro e w2 ⟨cs2, b2, he, hs, hbo, hf⟩; obtain ⟨g1, j1, d1, g2, j2, d2, g3, j3, d3, g4, j4, d4, hcs2⟩ := hs.lit; obtain ⟨y0, hy0⟩ : ∃ q, (wth x L M r').1.1.1 = q := ⟨_, rfl⟩; rw [hy0] at hcs2; subst hcs2; rw [he.out]; have hne : ∀ k, k < w.heap.size + 1 + 1 + 1 → w2.heap[k]? = w1.heap[k]? := fun k hk => hf.block k (by have := H3b.out.lt; omega) (by have := HXb.out; have := H3.out.lt; omega); have H1c := Hd (show Bk w2 w.heap.size 37 [.int .i64 x0, .slice a1 k1 c1, .slice a2 k2 c2, .slice a3 k3 c3, .slice a4 k4 c4, .map (some b)] from (hne _ (by omega)).trans H1b.out); have H2c := Hd (show Bk w2 (w.heap.size + 1) 61 [.bool n0, .int .i64 n1, .int .i64 n2, .int .i64 n3, .int .i64 n4, .int .i64 n5, .int .i64 n6, .int .i64 n7, .int .i64 n8, .int .i64 n9, .int .i64 n10, .int .i64 n11, .string n12, .string n13, .int .i64 n14, .int .i64 n15, .int .i64 n16, .int .i64 n17, .slice a18 m18 p18, .int .i64 n19, .slice a20 m20 p20, .slice a21 m21 p21, .slice a22 m22 p22] from (hne _ (by omega)).trans H2b.out); have H3c := Hd (show Bk w2 (w.heap.size + 1 + 1) 37 [.int .i64 0, .slice none 0 0, .slice none 0 0, .slice none 0 0, .slice none 0 0, .map none] from (hne _ (by omega)).trans H3b.out); have HS2 := Hd hs; have HB2 := Hd (below_fb HB1.out (show w.heap.size ≤ b1 by have := HXb.out; have := H3.out.lt; omega) HB1.out.size hf); have HX2 : Hid (w.heap.size + 1 + 1 < b2) := Hd (by have := H3b.out.lt; have := H3.out.lt; have := HXb.out; rcases hbo with q | q <;> omega); obtain ⟨w5, hw5⟩ : ∃ q, w2.setCells (w.heap.size + 1 + 1) 0 (#[.int .i64 y0, .slice g1 j1 d1, .slice g2 j2 d2, .slice g3 j3 d3, .slice g4 j4 d4, .map (some b2)] : Array Value).toList = q := ⟨_, rfl⟩; have HW5 := Hd hw5; have H1d := Hd (show Bk w5 w.heap.size 37 [.int .i64 x0, .slice a1 k1 c1, .slice a2 k2 c2, .slice a3 k3 c3, .slice a4 k4 c4, .map (some b)] by rw [← hw5]; exact (sets_far (by omega) _ _ _).trans H1c.out); have H2d := Hd (show Bk w5 (w.heap.size + 1) 61 [.bool n0, .int .i64 n1, .int .i64 n2, .int .i64 n3, .int .i64 n4, .int .i64 n5, .int .i64 n6, .int .i64 n7, .int .i64 n8, .int .i64 n9, .int .i64 n10, .int .i64 n11, .string n12, .string n13, .int .i64 n14, .int .i64 n15, .int .i64 n16, .int .i64 n17, .slice a18 m18 p18, .int .i64 n19, .slice a20 m20 p20, .slice a21 m21 p21, .slice a22 m22 p22] by rw [← hw5]; exact (sets_far (by omega) _ _ _).trans H2c.out); clear he hs hbo hf hne hy0 hw5)
 refine hK.out _ _ ?_ (fun hHeld => ?_)
 ·(first | exact ⟨H1d.out, H2d.out⟩ | exact ⟨H1c.out, H2c.out⟩ | exact ⟨H1b.out, H2b.out⟩ | exact ⟨H1.out.below (below_dr _ _), H2.out.below (below_dr _ _)⟩ | exact ⟨H1.out, H2.out⟩)
 clear hK K
 try simp only [Act.put, gA]
 refine wpAnyH_ready (rs := [4]) (by kernel_rfl) (by simp) ?_
 refine (AllReadyH.cons rfl (fun K hK => ?_) AllReadyH.nil)
 refine step_storeR (by rfl) 37 _ _ rfl (w.heap.size + 1 + 1) 0 #[.int .i64 y0, .slice g1 j1 d1, .slice g2 j2 d2, .slice g3 j3 d3, .slice g4 j4 d4, .map (some b2)] rfl rfl (H3c.out.there 0 6 (by simp)) HXt.out (by rw [← Array.all_toList]; rfl) w5 HW5.out ?_
 refine hK.out _ _ ?_ (fun hHeld => ?_)
 ·(first | exact ⟨H1d.out, H2d.out⟩ | exact ⟨H1c.out, H2c.out⟩ | exact ⟨H1b.out, H2b.out⟩ | exact ⟨H1.out.below (below_dr _ _), H2.out.below (below_dr _ _)⟩ | exact ⟨H1.out, H2.out⟩)
 clear hK K
 try simp only [Act.put, gA]
 refine wpAnyH_done (by kernel_rfl) ?_ _
 clear hHeld
 try go_wp2
 have hb5 : Bk w5 (w.heap.size + 1 + 1) 37 [.int .i64 y0, .slice g1 j1 d1, .slice g2 j2 d2, .slice g3 j3 d3, .slice g4 j4 d4, .map (some b2)] := by rw [← HW5.out]; exact H3c.out.sets [.int .i64 y0, .slice g1 j1 d1, .slice g2 j2 d2, .slice g3 j3 d3, .slice g4 j4 d4, .map (some b2)] 0 _ _
 have hlv := run_loadVar_row w5 _ _ _ #[.int .i64 y0, .slice g1 j1 d1, .slice g2 j2 d2, .slice g3 j3 d3, .slice g4 j4 d4, .map (some b2)] (0, 0) _ hb5 Tryz.underlying37 rfl HXt.out
 have hk5 : KeepT w2 w5 := by rw [← HW5.out]; exact KeepT.sets H3c.out stT_state 0 _
 have hStF := HS2.out.keepT hk5 (by rw [← HW5.out]; exact sets_far (by have := HX2.out; omega) _ _ _)
 exact bodyPost_ret (v := .agg #[.int .i64 y0, .slice g1 j1 d1, .slice g2 j2 d2, .slice g3 j3 d3, .slice g4 j4 d4, .map (some b2)]) (by simp [results, Tryz.results16, asAddr, Act.put, hlv]) rfl ⟨#[.int .i64 y0, .slice g1 j1 d1, .slice g2 j2 d2, .slice g3 j3 d3, .slice g4 j4 d4, .map (some b2)], b2, rfl, hStF, by have := HX2.out; omega, by rw [← HW5.out]; exact sets_below (by omega) _ _ _ HB2.out⟩
end Go.Proofs.YtnancdbkmompdaaGreat
namespace Go.Proofs.YtnancdbkmompdaaGreat
open Go.RowKit Go.Sort
set_option linter.unusedSimpArgs false
set_option linter.unusedVariables false
set_option maxRecDepth 100000
set_option maxHeartbeats 40000000
/-- Is it another node's? -/
def othN (n : Int) (x : I3) : Bool := x.2.1 != n
theorem others_any (g : Nat) (n x1 x2 x3 : Int) (w : World) (hg : Bk w g 3 [.int .i64 n]) :
  Calls Tryz.prog 24 #[.agg #[.int .i64 x1, .int .i64 x2, .int .i64 x3], .pointer (some ⟨g, 0, none⟩)] w fun e w' => e = .returned (.bool (othN n (x1, x2, x3))) ∧ Below w.heap.size w w' := by
 have H := Hd hg
 have hb := (Below.refl w.heap.size w).alloc (Nat.le_refl _) (.cells #[.int .i64 x1, .int .i64 x2, .int .i64 x3] 49)
 have HB := Hd hb
 have q0 := (hg.below hb).cell 0
 have p1 := (Bk.new w 49 [.int .i64 x1, .int .i64 x2, .int .i64 x3]).cell 1
 simp only [gB] at q0 p1
 obtain ⟨R, hR⟩ : ∃ R, (x2 != n) = R := ⟨_, rfl⟩
 unfold othN
 simp only [hR]
 clear hb hg
 go_enter Tryz.func24, Tryz.ntmps24
 go_wp2
 go_ret
 exact ⟨rfl, HB.out⟩
/-- Where the first of another node's stands. -/
def FstN (n : Int) (l : List I3) (r : Int) : Prop := (r = -1 ∧ ∀ x ∈ l, othN n x = false) ∨ ∃ k : Nat, k < l.length ∧ r = (k : Int) ∧ othN n (l.getD k (0, 0, 0)) = true ∧ ∀ j, j < k → othN n (l.getD j (0, 0, 0)) = false
theorem indexOth_any (g : Nat) (n : Int) (v : Value) (l : List I3) (w : World) (hg : Bk w g 3 [.int .i64 n]) (h : IK.Rd w v l) (hl : l.length ≤ 1000000) :
  Calls Tryz.prog 54 #[v, .func (.func 24) #[] #[.pointer (some ⟨g, 0, none⟩)]] w fun e w' => ∃ r : Int, Hid (e = .returned (.int .i64 r)) ∧ FstN n l r ∧ Below w.heap.size w w' := by
 obtain ⟨a, c, e⟩ := h.slice
 subst e
 obtain ⟨N, hN⟩ : ∃ N, l.length = N := ⟨_, rfl⟩
 rw [hN] at h hl ⊢
 have HN := Hd hN
 have HRD := Hd h
 have HG := Hd hg
 clear h hg hN
 go_enter Tryz.func54, Tryz.ntmps54
 go_wp2_with fail
 go_loopw [8] (fun i wr => ∃ k : Nat, k ≤ N ∧ i = .int .i64 k ∧ Hid (Below w.heap.size w wr) ∧ Hid (∀ j, j < k → othN n (l.getD j (0, 0, 0)) = false)) (fun i _ => N - (intOf i).toNat)
 case atStart => exact ⟨0, Nat.zero_le _, rfl, Hd (Below.refl _ _), Hd (fun j hj => by omega)⟩
 case round =>
  obtain ⟨k, hk, rfl, hB, hF⟩ := hrel
  by_cases hlt : k < N
  ·have hlt' : (k : Int) < (N : Int) := by omega
   have hkb : (k : Int) ≤ 1000000 := by omega
   obtain ⟨e0, g2, off2, hda, hg2, q1, q2, q3, hjl⟩ := idCell (HRD.out.below hB.out) k hlt
   obtain ⟨⟨y1, y2, y3⟩, hX⟩ : ∃ X, l.getD k (0, 0, 0) = X := ⟨_, rfl⟩
   rw [hX] at q1 q2 q3
   have HX := Hd hX
   have HJ := Hd hjl
   subst hda
   have HO := Hd (others_any g n y1 y2 y3 wr (HG.out.below hB.out))
   obtain ⟨R, hR⟩ : ∃ R, othN n (y1, y2, y3) = R := ⟨_, rfl⟩
   rw [hR] at HO
   have HR := Hd hR
   clear hX hjl e0 hR
   cases R with
   | true =>
    go_wp2_with fail
    refine HO.out.mono ?_
    rintro e w1 ⟨rfl, hb⟩
    have HB := Hd (show Below w.heap.size w w1 from hB.out.trans (hb.mono hB.out.size))
    clear hb hB
    go_wp2
    go_ret
    exact ⟨(k : Int), Hd rfl, .inr ⟨k, HJ.out, rfl, by rw [HX.out]; exact HR.out, hF.out⟩, HB.out⟩
   | false =>
    go_wp2_with fail
    refine HO.out.mono ?_
    rintro e w1 ⟨rfl, hb⟩
    have HB := Hd (show Below w.heap.size w w1 from hB.out.trans (hb.mono hB.out.size))
    clear hb hB
    have HF2 : Hid (∀ j, j < k + 1 → othN n (l.getD j (0, 0, 0)) = false) := Hd (fun j hj => by
     by_cases e : j = k
     ·subst e; rw [HX.out]; exact HR.out
     ·exact hF.out j (by omega))
    go_wp2
    go_roundw
    case rel => exact ⟨k + 1, by omega, by go_num, HB, HF2⟩
    case measure => simp [intOf]; omega
  ·obtain rfl : k = N := by omega
   go_wp2
   go_ret
   refine ⟨-1, Hd rfl, .inl ⟨rfl, fun x hx => ?_⟩, hB.out⟩
   obtain ⟨j, hj, e⟩ := List.getElem_of_mem hx
   have := hF.out j (by rw [← HN.out]; exact hj)
   rwa [List.getD, List.getElem?_eq_getElem hj, Option.getD_some, e] at this
/-- 'clear(s)' of n > 0 elements of any number of cells. -/
theorem run_clear_k {P : Program} (w : World) (t e ty : TypeId) (z : Value) (ht : P.underlying t = some (.slice e)) (hv : ∀ w, (zeroValue e).run P w = .ok z w) (b o n c : Nat) (hn : 0 < n) (h1 : ∀ v ∈ (Builtin.zeroCells z.cells n).toList, v.oneCell' = true)
  (hc : ∀ j, j < (Builtin.zeroCells z.cells n).toList.length → (w.cell? ⟨b, o + j, none⟩).isSome = true) (hf : ∀ j, j < (Builtin.zeroCells z.cells n).toList.length → w.frozen? ⟨b, o + j, none⟩ = false) :
  (Builtin.clear_ #[t] ty #[.slice (some ⟨b, o, none⟩) n c]).run P w = .ok (.tuple #[]) (w.setCells b o (Builtin.zeroCells z.cells n).toList) := by
 have hst := run_storeCells_cells (P := P) b o (Builtin.zeroCells z.cells n).toList 0 w (by simpa using hc) (by simpa using hf) h1
 simp only [Nat.add_zero] at hst
 obtain ⟨m, rfl⟩ : ∃ m, n = m + 1 := ⟨n - 1, by omega⟩
 simp [Builtin.clear_, run_underlying ht, hv, hst]
theorem zc_len (z : Array Value) (n : Nat) : (Builtin.zeroCells z n).toList.length = n * z.size := by simp [Builtin.zeroCells]
theorem zc_one (n : Nat) : ∀ v ∈ (Builtin.zeroCells (Value.agg #[.int .i64 0, .int .i64 0, .int .i64 0]).cells n).toList, v.oneCell' = true := by
 intro v hv
 simp only [Builtin.zeroCells, Array.mem_toList_iff, Array.mem_map] at hv
 obtain ⟨i, hi, rfl⟩ := hv
 show ((#[.int .i64 0, .int .i64 0, .int .i64 0] : Array Value)[i % 3]!).oneCell' = true
 have : i % 3 = 0 ∨ i % 3 = 1 ∨ i % 3 = 2 := by omega
 rcases this with h | h | h <;> rw [h] <;> rfl
theorem splice_take : ∀ (vs : List Value) (o k : Nat) (cs : List Value), k ≤ o → (splice cs o vs).take k = cs.take k
 | [], _, _, _, _ => rfl
 | v :: r, o, k, cs, h => (splice_take r (o + 1) k (cs.set o v) (by omega)).trans (by rw [List.take_set_of_le h])
theorem ikrow_len (l : List I3) : (IK.row l).length = l.length * 3 := IK.row_len l
theorem row_put (l : List I3) (tl : List Value) (i : Nat) (u : I3) (hi : i < l.length) : (IK.row l ++ tl).take (i * 3) ++ idE u ++ (IK.row l ++ tl).drop (i * 3 + 3) = IK.row (l.set i u) ++ tl := by
 obtain ⟨A, y, B, e, hA⟩ : ∃ A y B, l = A ++ y :: B ∧ A.length = i := ⟨l.take i, l[i], l.drop (i + 1), by simp, by simp; omega⟩
 subst hA
 subst e
 have e1 : (A ++ y :: B).set A.length u = A ++ u :: B := by simp
 have hr : ∀ z, IK.row (A ++ z :: B) = IK.row A ++ (idE z ++ IK.row B) := fun z => by rw [Knd.row_app]; rfl
 have hl : (IK.row A).length = A.length * 3 := ikrow_len A
 rw [e1, hr, hr, ← hl]
 have e2 : ∀ z : I3, (idE z).length = 3 := fun _ => rfl
 simp only [List.append_assoc]
 rw [List.take_left, ← List.drop_drop, List.drop_left]
 rfl
theorem rd_of_bk {w : World} {g c : Nat} {l : List I3} {tl : List Value} (h : Bk w g 49 (IK.row l ++ tl)) (hl : l.length ≤ maxLen) : IK.Rd w (.slice (some ⟨g, 0, none⟩) l.length c) l :=
 ⟨_, c, rfl, hl, (fun e => by cases e), .inr ⟨g, 0, rfl, h.lt, fun t u q => by
  rw [Nat.zero_add, h.cell, List.getElem?_append_left (List.getElem?_eq_some_iff.1 q).1]
  exact q⟩⟩
/-- What was kept of the first j. -/
structure Kpt (n : Int) (l dk : List I3) (i j : Nat) : Prop where
 tk : dk.take i = (l.take j).filter fun x => !othN n x
 dr : dk.drop j = l.drop j
 len : dk.length = l.length
 lt : i < j
 le : j ≤ l.length
theorem Kpt.start {n : Int} {l : List I3} {k : Nat} (hk : k < l.length) (h : othN n (l.getD k (0, 0, 0)) = true) (hb : ∀ j, j < k → othN n (l.getD j (0, 0, 0)) = false) : Kpt n l l k (k + 1) := by
 refine ⟨?_, rfl, rfl, by omega, by omega⟩
 rw [List.take_add_one, List.getElem?_eq_getElem hk, List.filter_append]
 rw [List.getD, List.getElem?_eq_getElem hk, Option.getD_some] at h
 rw [List.filter_eq_self.2 (fun x hx => by
  obtain ⟨t, ht, e⟩ := List.getElem_of_mem hx
  rw [List.length_take] at ht
  have := hb t (by omega)
  rw [List.getD, List.getElem?_eq_getElem (by omega), Option.getD_some] at this
  rw [List.getElem_take] at e
  rw [← e, this]
  rfl)]
 simp [h]
theorem Kpt.at' {n : Int} {l dk : List I3} {i j : Nat} (h : Kpt n l dk i j) (hj : j < l.length) : dk.getD j (0, 0, 0) = l.getD j (0, 0, 0) := by
 have := congrArg (fun z : List I3 => z[0]?) h.dr
 simp only [List.getElem?_drop, Nat.add_zero] at this
 simp only [List.getD, this]
theorem Kpt.skip {n : Int} {l dk : List I3} {i j : Nat} (h : Kpt n l dk i j) (hj : j < l.length) (ho : othN n (l.getD j (0, 0, 0)) = true) : Kpt n l dk i (j + 1) := by
 refine ⟨?_, ?_, h.len, by have := h.lt; omega, hj⟩
 ·rw [h.tk, List.take_add_one, List.getElem?_eq_getElem hj, List.filter_append]
  rw [List.getD, List.getElem?_eq_getElem hj, Option.getD_some] at ho
  simp [ho]
 ·rw [← List.drop_drop, h.dr, List.drop_drop]
theorem Kpt.keep {n : Int} {l dk : List I3} {i j : Nat} (h : Kpt n l dk i j) (hj : j < l.length) (ho : othN n (l.getD j (0, 0, 0)) = false) : Kpt n l (dk.set i (l.getD j (0, 0, 0))) (i + 1) (j + 1) := by
 have hi := h.lt
 have hl := h.len
 refine ⟨?_, ?_, by rw [List.length_set, hl], by omega, hj⟩
 ·rw [List.take_add_one, List.take_set_of_le (Nat.le_refl i), h.tk, List.take_add_one, List.getElem?_eq_getElem hj, List.filter_append, List.getElem?_set_self (by omega)]
  rw [List.getD, List.getElem?_eq_getElem hj, Option.getD_some] at ho ⊢
  simp [ho]
 ·rw [List.drop_set_of_lt (by omega), ← List.drop_drop, h.dr, List.drop_drop]
theorem Kpt.done {n : Int} {l dk : List I3} {i j : Nat} (h : Kpt n l dk i j) (hj : j = l.length) : dk.take i = l.filter fun x => !othN n x := by
 rw [h.tk, hj, List.take_length]
theorem own_bk {w : World} {base c n : Nat} {a : Option Addr} {l : List I3} (h : IK.Own w base (.slice a n c) l) (hl : l ≠ []) : ∃ g tl, a = some ⟨g, 0, none⟩ ∧ base ≤ g ∧ n = l.length ∧ n ≤ c ∧ c ≤ maxLen ∧ Bk w g 49 (IK.row l ++ tl) ∧ (IK.row l ++ tl).length = c * 3 := by
 obtain ⟨h1, h2⟩ := h
 rcases h2 with ⟨h0, h3⟩ | ⟨g, cap, cur, hv, hg, hh, hn, hm, hs, hx⟩
 ·cases l with
  | nil => exact absurd rfl hl
  | cons _ _ => simp at h3
 ·simp only [Value.slice.injEq] at hv
  obtain ⟨rfl, rfl, rfl⟩ := hv
  refine ⟨g, cur.toList.drop (l.length * 3), rfl, hg, rfl, hn, hm, ?_, ?_⟩
  ·have e : IK.row l ++ cur.toList.drop (l.length * 3) = cur.toList := by
    rw [← hx]; exact List.take_append_drop _ _
   rw [e]
   exact hh
  ·have e : IK.row l ++ cur.toList.drop (l.length * 3) = cur.toList := by
    rw [← hx]; exact List.take_append_drop _ _
   rw [e, Array.length_toList]
   exact hs
theorem grown_below {w w1 w2 : World} {g : Nat} (h : w.grownBy w1 (some g)) (hb : Below w1.heap.size w1 w2) : w.grownBy w2 (some g) := ⟨hb.os.trans h.os, hb.tape.trans h.tape, hb.output.trans h.output, Nat.le_trans h.size hb.size, fun k h1 h2 => (hb.block k (by have := h.size; omega)).trans (h.block k h1 h2)⟩
theorem grown_sx {w w1 w2 : World} {g : Nat} (h : w.grownBy w1 (some g)) (s : Sx g w1 w2) : w.grownBy w2 (some g) := ⟨s.os.trans h.os, s.tape.trans h.tape, s.output.trans h.output, by rw [s.size]; exact h.size, fun k h1 h2 => (s.block k (fun e => h2 (by rw [e]))).trans (h.block k h1 h2)⟩
theorem sx_sets {b : Nat} : ∀ (vs : List Value) (o : Nat) (w : World), Sx b w (w.setCells b o vs)
 | [], _, _ => ⟨rfl, rfl, rfl, rfl, fun _ _ => rfl⟩
 | v :: r, o, w => by
  have h := sx_sets (b := b) r (o + 1) (w.setCell ⟨b, o, none⟩ v)
  have k : Sx b w (w.setCell ⟨b, o, none⟩ v) := ⟨rfl, rfl, rfl, by simp [World.setCell], fun k hk => Below.heap_setCell _ _ _ _ hk⟩
  exact ⟨h.os.trans k.os, h.tape.trans k.tape, h.output.trans k.output, h.size.trans k.size, fun q hq => (h.block q hq).trans (k.block q hq)⟩
section
variable {ops : Array Oper} {rest : List Oper} {o : Oper} {a : Act} {w : World} {Q : Exit → Act → World → Prop}
theorem wpList_clear_bk (hg : o.guard = none) (x : Operand) (hop : o.op = Op.call { callee := Callee.builtin Builtin.clear, args := #[x], argTypes := #[34] }) (b t n c : Nat) (hx : a.eval x = .slice (some ⟨b, t, none⟩) n c) (cs : List Value) (hb : Bk w b 49 cs) (hn : 0 < n) (hl : t + n * 3 ≤ cs.length)
  (hK : ∀ w', Sx b w w' → (∃ cs', Bk w' b 49 cs' ∧ ∀ k, k ≤ t → cs'.take k = cs.take k) → wpList Tryz.prog ops Q rest (a.put o.dst (.tuple #[])) w') : wpList Tryz.prog ops Q (o :: rest) a w := by
 refine wpList_plain hg fun K' hK' => ?_
 have hzl := zc_len (Value.agg #[.int .i64 0, .int .i64 0, .int .i64 0]).cells n
 have hz3 : (Value.agg #[.int .i64 0, .int .i64 0, .int .i64 0]).cells.size = 3 := rfl
 rw [hz3] at hzl
 have hrun := run_clear_k (P := Tryz.prog) w 34 49 o.type (.agg #[.int .i64 0, .int .i64 0, .int .i64 0]) Tryz.underlying34 (fun w => by kernel_rfl) b t n c hn (zc_one n) (fun j hj => by rw [hb.cell, List.getElem?_eq_getElem (by omega)]; rfl) (fun j hj => hb.fz _)
 unfold Oper.wp
 simp [execOp, hop, resolve, invoke, builtin, hx, hrun, Result.andThen]
 exact hK' _ _ (hK _ (sx_sets _ _ _) ⟨_, hb.sets _ _ _ _, fun k hk => splice_take _ _ _ _ hk⟩)
end
def DlP (n : Int) (v : Value) (l : List I3) (w : World) (e : Ending) (w' : World) : Prop := ∃ (a : Option Addr) (m c : Nat), Hid (e = .returned (.slice a m c)) ∧ IK.Rd w' (.slice a m c) (l.filter fun x => !othN n x) ∧ w.grownBy w' v.ownBlock
theorem deleteOth_any (gb base : Nat) (n : Int) (v : Value) (l : List I3) (w : World) (hg : Bk w gb 3 [.int .i64 n]) (h : IK.Own w base v l) (hb : gb < base) (hl : l.length ≤ 1000000) :
  Calls Tryz.prog 25 #[v, .func (.func 24) #[] #[.pointer (some ⟨gb, 0, none⟩)]] w (DlP n v l w) := by
 have HI := Hd (indexOth_any gb n v l w hg h.rd hl)
 have HRd := Hd h.rd
 have HO := Hd h
 have HG := Hd hg
 have HL := Hd hl
 have HBb := Hd hb
 obtain ⟨a, c, e⟩ := h.slice
 subst e
 obtain ⟨N, hN⟩ : ∃ N, l.length = N := ⟨_, rfl⟩
 rw [hN] at HI HRd HO hl ⊢
 have HN := Hd hN
 clear h hg hb hN
 go_enter Tryz.func25, Tryz.ntmps25
 go_wp2_with fail
 refine HI.out.mono ?_
 rintro e w1 ⟨r, he, hr, hb1⟩
 rw [he.out]
 have HB1 := Hd hb1
 clear he hb1
 rcases hr with ⟨rfl, hall⟩ | ⟨k0, hk0, rfl, hk1, hk2⟩
 ·have HA := Hd hall
  clear hall
  go_wp2
  go_ret
  refine ⟨a, N, c, Hd rfl, ?_, ?_⟩
  ·rw [List.filter_eq_self.2 (fun x hx => by rw [HA.out x hx]; rfl)]
   exact HRd.out.below HB1.out
  ·exact ⟨HB1.out.os, HB1.out.tape, HB1.out.output, HB1.out.size, fun k h1 _ => HB1.out.block k h1⟩
 ·have HK := Hd (Kpt.start hk0 hk1 hk2)
  have hkN : k0 < N := by rw [← HN.out]; exact hk0
  have hk9 : (k0 : Int) ≤ 1000000 := by omega
  have hne : ((k0 : Int) == -1) = false := beq_eq_false_iff_ne.2 (by omega)
  obtain ⟨g, tl, ha, hgb, -, hNc, hcm, hbk, hln⟩ := own_bk HO.out (by rintro rfl; simp at hk0)
  obtain ⟨z, hz⟩ : ∃ z, z = (0 : Nat) := ⟨_, rfl⟩
  rw [← hz] at ha
  subst ha
  have HZ := Hd hz
  have HLn := Hd hln
  have HGb := Hd (show gb ≠ g by have := HBb.out; omega)
  have HBk := Hd (hbk.below HB1.out)
  have HG1 := Hd (HG.out.below HB1.out)
  have HGr : Hid (w.grownBy w1 (some g)) := Hd ⟨HB1.out.os, HB1.out.tape, HB1.out.output, HB1.out.size, fun k h1 _ => HB1.out.block k h1⟩
  clear hk0 hk1 hk2 hgb hbk hln hz HB1 HI HO HRd HG
  go_wp2_with fail
  go_loopw [5, 6] (fun s5 s6 wr => ∃ (i j : Nat) (dk : List I3), s5 = .int .i64 i ∧ s6 = .int .i64 j ∧ j ≤ N ∧ i < j ∧ Hid (Kpt n l dk i j) ∧ Hid (Bk wr g 49 (IK.row dk ++ tl)) ∧ Hid (Bk wr gb 3 [.int .i64 n]) ∧ Hid (w.grownBy wr (some g))) (fun _ s6 _ => N - (intOf s6).toNat)
  case atStart => exact ⟨k0, k0 + 1, l, rfl, by go_num, by omega, by omega, HK, HBk, HG1, HGr⟩
  case round =>
   clear HK HBk HG1 HGr
   obtain ⟨i, j, dk, rfl, rfl, hjN, hij, HK, HB, HG, HGr⟩ := hrel
   by_cases hlt : j < N
   ·have hlt' : (j : Int) < (N : Int) := by omega
    have hjb : (j : Int) ≤ 1000000 := by omega
    have hdl : dk.length = N := by rw [HK.out.len, HN.out]
    have hrd : IK.Rd wr (.slice (some ⟨g, 0, none⟩) N c) dk := by
     have := rd_of_bk (c := c) HB.out (by unfold maxLen; omega)
     rwa [hdl] at this
    obtain ⟨e0, g2, off2, hda, hg2, q1, q2, q3, hjl⟩ := idCell hrd j hlt
    simp only [Option.some.injEq, Addr.mk.injEq, and_true] at hda
    obtain ⟨rfl, rfl⟩ := hda
    rw [← HZ.out] at q1 q2 q3
    obtain ⟨⟨y1, y2, y3⟩, hX⟩ : ∃ X, dk.getD j (0, 0, 0) = X := ⟨_, rfl⟩
    rw [hX] at q1 q2 q3
    have HX : Hid (l.getD j (0, 0, 0) = (y1, y2, y3)) := Hd (by rw [← HK.out.at' (by rw [HN.out]; exact hlt)]; exact hX)
    have HDl := Hd hdl
    obtain ⟨W2, hW2⟩ : ∃ q, wr.alloc (.cells #[.int .i64 y1, .int .i64 y2, .int .i64 y3] 49) = q := ⟨_, rfl⟩
    have hb2 : Below wr.heap.size wr W2 := by rw [← hW2]; exact (Below.refl _ _).alloc (Nat.le_refl _) _
    have HO := Hd (others_any gb n y1 y2 y3 W2 (HG.out.below hb2))
    have HB2 := Hd hb2
    have HP : Hid (Bk W2 wr.heap.size 49 [.int .i64 y1, .int .i64 y2, .int .i64 y3]) := Hd (by rw [← hW2]; exact Bk.new wr _ [.int .i64 y1, .int .i64 y2, .int .i64 y3])
    obtain ⟨R, hR⟩ : ∃ R, othN n (y1, y2, y3) = R := ⟨_, rfl⟩
    rw [hR] at HO
    have HR := Hd hR
    clear hX hjl e0 hR hrd hdl hb2 hg2
    have o0 := HP.out.cell 0
    have o1 := HP.out.cell 1
    have o2 := HP.out.cell 2
    simp only [gB] at o0 o1 o2
    cases R with
    | true =>
     go_wp2_with fail
     try rw [hW2]
     refine HO.out.mono ?_
     rintro e w3 ⟨rfl, hb3⟩
     have hb13 := HB2.out.trans (hb3.mono HB2.out.size)
     have HK3 := Hd (HK.out.skip (by rw [HN.out]; exact hlt) (by rw [HX.out]; exact HR.out))
     have HB3 := Hd (HB.out.below hb13)
     have HG3 := Hd (HG.out.below hb13)
     have HGr3 := Hd (grown_below HGr.out hb13)
     clear hb3 hb13 q1 q2 q3 o0 o1 o2 hW2 HK HB HG HGr HO
     go_wp2
     go_roundw
     case rel => exact ⟨i, j + 1, dk, by go_num, by go_num, by omega, by omega, HK3, HB3, HG3, HGr3⟩
     case measure => simp [intOf]; omega
    | false =>
     go_wp2_with fail
     try rw [hW2]
     refine HO.out.mono ?_
     rintro e w3 ⟨rfl, hb3⟩
     have hb13 := HB2.out.trans (hb3.mono HB2.out.size)
     have HK3 := Hd (HK.out.keep (by rw [HN.out]; exact hlt) (by rw [HX.out]; exact HR.out))
     rw [HX.out] at HK3
     have HB3 := Hd (HB.out.below hb13)
     have HG3 := Hd (HG.out.below hb13)
     have HGr3 := Hd (grown_below HGr.out hb13)
     have hp3 := HP.out.below hb3
     have p0 := hp3.cell 0
     have p1 := hp3.cell 1
     have p2 := hp3.cell 2
     simp only [gB] at p0 p1 p2
     have hiN : (i : Int) < (N : Int) := by omega
     have hi6 : (i : Int) ≤ 1000000 := by omega
     have HRp : Hid ((IK.row dk ++ tl).take (z + i * 3) ++ [.int .i64 y1, .int .i64 y2, .int .i64 y3] ++ (IK.row dk ++ tl).drop (z + i * 3 + [(.int .i64 y1 : Value), .int .i64 y2, .int .i64 y3].length) = IK.row (dk.set i (y1, y2, y3)) ++ tl) := Hd (by rw [HZ.out, Nat.zero_add]; exact row_put dk tl i (y1, y2, y3) (by rw [HDl.out]; omega))
     have HLe : Hid (z + i * 3 + [(.int .i64 y1 : Value), .int .i64 y2, .int .i64 y3].length ≤ (IK.row dk ++ tl).length) := Hd (by rw [HZ.out, List.length_append, ikrow_len, HDl.out]; simp; omega)
     clear hb3 hb13 q1 q2 q3 o0 o1 o2 hW2 HK HB HG HGr HO hp3
     go_wp2_with (refine wpList_store_bk (by rfl) 49 _ _ rfl g (z + i * 3) rfl (.agg #[.int .i64 y1, .int .i64 y2, .int .i64 y3]) [.int .i64 y1, .int .i64 y2, .int .i64 y3] rfl rfl (by kernel_rfl) 49 _ _ HB3.out HLe.out (by rfl) HRp.out ?_)
     intro w4 hs4 hk4
     have HB4 := Hd hk4
     have HG4 : Hid (Bk w4 gb 3 [.int .i64 n]) := Hd ((hs4.block gb HGb.out).trans HG3.out)
     have HGr4 := Hd (grown_sx HGr3.out hs4)
     clear hs4 hk4 p0 p1 p2 HB3 HG3 HGr3 HRp HLe
     go_wp2
     go_roundw
     case rel => exact ⟨i + 1, j + 1, _, by go_num, by go_num, by omega, by omega, HK3, HB4, HG4, HGr4⟩
     case measure => simp [intOf]; omega
   ·obtain rfl : j = N := by omega
    have hjb : (j : Int) ≤ 1000000 := by omega
    have hdl : dk.length = j := by rw [HK.out.len, HN.out]
    have hii : (i : Int) ≤ (j : Int) := by omega
    have hic : (i : Int) ≤ (c : Int) := by omega
    have hjc : (j : Int) ≤ (c : Int) := by omega
    have HDl := Hd hdl
    have HLe : Hid (z + i * 3 + (j - i) * 3 ≤ (IK.row dk ++ tl).length) := Hd (by rw [HZ.out, List.length_append, ikrow_len, hdl]; omega)
    have hd1 := HK.out.done HN.out.symm
    have HD1 := Hd hd1
    clear hd1 hdl HK
    go_wp2_with (refine wpList_clear_bk rfl _ rfl g (z + i * 3) (j - i) _ rfl _ HB.out (by omega) HLe.out ?_)
    intro w4 hs4 cs4 hk4 ht4
    have HGr4 := Hd (grown_sx HGr.out hs4)
    have hF : (l.filter fun x => !othN n x).length = i := by rw [← HD1.out, List.length_take, HDl.out]; omega
    have hrow : IK.row (l.filter fun x => !othN n x) = cs4.take (i * 3) := by
     rw [ht4 (i * 3) (by omega), ← HD1.out, List.take_append_of_le_length (by rw [ikrow_len, HDl.out]; omega)]
     have e := congrArg IK.row (List.take_append_drop i dk)
     rw [Knd.row_app] at e
     have e3 : (IK.row (dk.take i)).length = i * 3 := by rw [ikrow_len, List.length_take, HDl.out]; omega
     rw [← e, ← e3, List.take_left]
    have hRd : IK.Rd w4 (.slice (some ⟨g, z, none⟩) i c) (l.filter fun x => !othN n x) := by
     rw [HZ.out]
     have hb' : Bk w4 g 49 (IK.row (l.filter fun x => !othN n x) ++ cs4.drop (i * 3)) := by rw [hrow, List.take_append_drop]; exact hk4
     have := rd_of_bk (c := c) hb' (by rw [hF]; unfold maxLen; omega)
     rwa [hF] at this
    have HRd := Hd hRd
    clear hs4 hk4 ht4 hF hrow hRd HD1 HLe HB HG HGr
    go_wp2
    go_ret
    exact ⟨_, i, c, Hd rfl, HRd.out, HGr4.out⟩
end Go.Proofs.YtnancdbkmompdaaGreat
