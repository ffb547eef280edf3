/-
 What the document reads: a snap.
-/
import Derived.Test.YtnancdbkmompdaaGreatRY
import Derived.Test.YtnancdbkmompdaaGreatRZ
import Derived.Test.YtnancdbkmompdaaGreatCh6R
namespace Go.Proofs.YtnancdbkmompdaaGreat
open Go.RowKit
set_option linter.unusedSimpArgs false
set_option linter.unusedVariables false
set_option maxRecDepth 100000
set_option maxHeartbeats 40000000
/-- A thing that is read within: `in` at gi, the thing at g. -/
structure ES (w0 w : World) (r : Nat) (s : ByteArray) (gi g : Nat) (T : TypeId) (cs : List Value) (st : RSt) : Prop where
 rd : RD w r s st
 bi : Bk w gi 110 [.pointer (some ⟨r, 0, none⟩)]
 bx : Bk w g T cs
 fo : Fo r w0 w
 hr : r < w0.heap.size
 hi : gi < w0.heap.size
 hri : gi ≠ r
 hg : w0.heap.size ≤ g
section
variable {w0 w w1 : World} {r : Nat} {s : ByteArray} {gi g : Nat} {T : TypeId} {zs cs : List Value} {st st' : RSt}
theorem ES.start (h : RD w r s st) (hi : Bk w gi 110 [.pointer (some ⟨r, 0, none⟩)]) (hne : gi ≠ r) (T : TypeId) (zs : List Value) : ES w (w.alloc (.cells zs.toArray T)) r s gi w.heap.size T zs st :=
 have b1 : Below w.heap.size w (w.alloc (.cells zs.toArray T)) := (Below.refl _ _).alloc (Nat.le_refl _) _
 ⟨h.below b1, hi.below b1, Bk.new w T zs, Fo.of_below b1, h.lt, hi.lt, hne, Nat.le_refl _⟩
theorem ES.call (h : ES w0 w r s gi g T cs st) (h1 : RD w1 r s st') (h2 : Fo r w w1) : ES w0 w1 r s gi g T cs st' :=
 have := h.hr; have := h.hg; have := h.hi
 ⟨h1, h.bi.fo h2 h.hri, h.bx.fo h2 (by omega), h.fo.trans h2, h.hr, h.hi, h.hri, h.hg⟩
theorem ES.set (h : ES w0 w r s gi g T cs st) (j : Nat) (u : Value) : ES w0 (w.setCell ⟨g, j, none⟩ u) r s gi g T (cs.set j u) st :=
 have := h.hr; have := h.hg; have := h.hi
 ⟨h.rd.other (by omega) j u, h.bi.other (by omega) j u, h.bx.set j u, h.fo.up (by omega) j u, h.hr, h.hi, h.hri, h.hg⟩
theorem ES.under (h : ES w0 w r s gi g T cs st) (hb : Below w.heap.size w w1) : ES w0 w1 r s gi g T cs st := h.call (h.rd.below hb) (Fo.of_below hb)
theorem ES.low (h : ES w0 w r s gi g T cs st) (hb : Below (g + 1) w w1) : ES w0 w1 r s gi g T cs st := by
 have := h.hr; have := h.hg; have := h.hi
 obtain ⟨a, h1, h2, h3⟩ := h.rd
 exact ⟨⟨a, h1, h2, h3.on hb (by omega)⟩, h.bi.on hb (by omega), h.bx.on hb (by omega), ⟨hb.os.trans h.fo.os, hb.tape.trans h.fo.tape, hb.output.trans h.fo.output, Nat.le_trans h.fo.size hb.size, fun k hk hne => (hb.block k (by omega)).trans (h.fo.block k hk hne)⟩, h.hr, h.hi, h.hri, h.hg⟩
theorem ES.sz (h : ES w0 w r s gi g T cs st) : g + 1 ≤ w.heap.size := h.bx.lt
theorem ES.ci (h : ES w0 w r s gi g T cs st) : w.cell? ⟨gi, 0, none⟩ = some (.pointer (some ⟨r, 0, none⟩)) := h.bi.cell 0
theorem ES.ce (h : ES w0 w r s gi g T cs st) : w.cell? ⟨r, 2, none⟩ = some (.int .i64 st.2) := by obtain ⟨a, h1, h2, h3⟩ := h.rd; exact h3.cell 2
end
def mkZ (x : Ses) (a : Option Addr) (m c : Nat) : Cls 6 := ⟨seE x (.slice a m c), rfl, by intro v hv; simp only [seE, List.mem_cons, List.not_mem_nil, or_false] at hv; rcases hv with rfl | rfl | rfl | rfl | rfl | rfl <;> rfl⟩
theorem KZ.box (x0 x1 x2 : Int) (x3 : ByteArray) (x4 : Int) (l : List ByteArray) (a : Option Addr) (m c cp : Nat) (w : World) : KZ.Rd (w.alloc (.cells #[.int .i64 x0, .int .i64 x1, .int .i64 x2, .string x3, .int .i64 x4, .slice a m c] 75)) (.slice (some ⟨w.heap.size, 0, none⟩) 1 cp) [mkZ (x0, x1, x2, x3, x4, l) a m c] := KZ.rd_boxAt (mkZ (x0, x1, x2, x3, x4, l) a m c) 75 cp w w.heap.size rfl
/-- A snap that was read. -/
def SnP (st' : RSt) (x : Snp) (r : Nat) (s : ByteArray) (w : World) (e : Ending) (w' : World) : Prop := ∃ (y : Snp) (a1 : Option Addr) (m1 c1 : Nat) (a2 : Option Addr) (m2 c2 : Nat) (a3 : Option Addr) (m3 c3 : Nat), Hid (e = .returned (.agg #[.int .i64 y.1.1, .slice a1 m1 c1, .slice a2 m2 c2, .slice a3 m3 c3])) ∧ OwnR KN (plainR fun t => [Value.int .i64 t]) w' w.heap.size (.slice a1 m1 c1) y.1.2 ∧ OwnR KE (plainR enE) w' w.heap.size (.slice a2 m2 c2) y.2.1 ∧ OwnR KZ seR w' w.heap.size (.slice a3 m3 c3) y.2.2 ∧ (st'.2 = 0 → y = x) ∧ RD w' r s st' ∧ Fo r w w'
theorem gList_er {α : Type} (A : Cod α) (n : Nat) (s : RSt) (h : s.2 ≠ 0) : (gList A.rd n s).2 = s := (gList_stay A n s 0 (Nat.zero_le _) h)
theorem gCnt_er {s : RSt} (h : s.2 ≠ 0) : (gCnt s).2 = s := by
 obtain ⟨xs, er⟩ := s
 rw [gCnt_err h]
theorem isnap (r : Nat) (s : ByteArray) (st : RSt) (w : World) (h : RD w r s st) (hs : s.size ≤ 1000000000) :
  Calls Tryz.prog 48 #[.agg #[.pointer (some ⟨r, 0, none⟩)]] w (SnP (snC.rd st).2 (snC.rd st).1 r s w) := by
 obtain ⟨n0, s0, g0⟩ : ∃ b s, gNum st = (b, s) := ⟨_, _, rfl⟩
 obtain ⟨N1, s1, g1⟩ : ∃ b s, gCnt s0 = (b, s) := ⟨_, _, rfl⟩
 obtain ⟨L1, s2, g2⟩ : ∃ b s, gList numC.rd N1 s1 = (b, s) := ⟨_, _, rfl⟩
 obtain ⟨N2, s3, g3⟩ : ∃ b s, gCnt s2 = (b, s) := ⟨_, _, rfl⟩
 obtain ⟨L2, s4, g4⟩ : ∃ b s, gList enC.rd N2 s3 = (b, s) := ⟨_, _, rfl⟩
 obtain ⟨N3, s5, g5⟩ : ∃ b s, gCnt s4 = (b, s) := ⟨_, _, rfl⟩
 obtain ⟨L3, s6, g6⟩ : ∃ b s, gList seC.rd N3 s5 = (b, s) := ⟨_, _, rfl⟩
 have hE : snC.rd st = (((n0, L1), L2, L3), s6) := by
  simp only [snC, cfC, pairC_rd, numC_rd, listC_rd, g0, g1, g2, g3, g4, g5, g6]
 rw [hE]
 have hN1 := gCnt_le s0
 have hN2 := gCnt_le s2
 have hN3 := gCnt_le s4
 rw [g1] at hN1
 rw [g3] at hN2
 rw [g5] at hN3
 have HN1 : Hid (N1 ≤ 1024) := Hd hN1
 have HN2 : Hid (N2 ≤ 1024) := Hd hN2
 have HN3 : Hid (N3 ≤ 1024) := Hd hN3
 have HLL1 := Hd g2
 have HLL2 := Hd g4
 have HLL3 := Hd g6
 have G0 := Hd g0
 have G1 := Hd g1
 have G3 := Hd g3
 have G5 := Hd g5
 have HB3 : Hid (s5.2 ≠ 0 → s6 = s5) := Hd (fun z => by have := gList_er seC N3 s5 z; rw [g6] at this; exact this)
 have HB4 : Hid (s4.2 ≠ 0 → s5 = s4) := Hd (fun z => by have := gCnt_er z; rw [g5] at this; exact this)
 have HB2 : Hid (s3.2 ≠ 0 → s4 = s3) := Hd (fun z => by have := gList_er enC N2 s3 z; rw [g4] at this; exact this)
 have HB1 : Hid (s2.2 ≠ 0 → s3 = s2) := Hd (fun z => by have := gCnt_er z; rw [g3] at this; exact this)
 have HI := Hd (IS.start h 28 [.int .i64 0, .slice none 0 0, .slice none 0 0, .slice none 0 0])
 have c0 := HI.out.ci
 clear h hE hN1 hN2 hN3 g0 g1 g2 g3 g4 g5 g6
 go_enter Tryz.func48, Tryz.ntmps48
 go_wp2_with fail
 refine (inumE r s _ _ _ _ HI.out.rd hs G0.out).mono ?_
 rintro e w1 ⟨he, h1, h2⟩
 rw [he.out]
 have HJ := Hd (HI.out.call h1 h2)
 have y0 := HJ.out.bx.cell 0
 have z0 := HJ.out.bx.fz 0
 simp only [List.set_cons_zero, List.set_cons_succ, List.getElem?_cons_zero, List.getElem?_cons_succ] at y0
 obtain ⟨v1, hv⟩ : ∃ q, (w1.setCell ⟨w.heap.size + 1 + 1, 0, none⟩ (.int .i64 n0)) = q := ⟨_, rfl⟩
 have HK := Hd (HJ.out.set 0 (.int .i64 n0))
 simp only [List.set_cons_zero, List.set_cons_succ] at HK
 rw [hv] at HK
 clear HI HJ c0 he h1 h2
 have c0 := HK.out.ci
 have HI := HK
 clear HK
 go_wp2_with fail
 clear hv y0 z0
 refine (ilistE r s _ _ _ _ HI.out.rd hs G1.out).mono ?_
 rintro e w2 ⟨he, h1, h2⟩
 rw [he.out]
 have HJ := Hd (HI.out.call h1 h2)
 have HK := HJ
 clear HI HJ c0 he h1 h2
 have c0 := HK.out.ci
 have HI := HK
 clear HK
 go_upto_block 0 with fail
 skip
 go_cut [5] from 19 to 40 (fun _ wx => ∃ (a : Option Addr) (m c : Nat) (l : List _), Hid (IS w wx r s w.heap.size 28 [.int .i64 0, .slice none 0 0, .slice none 0 0, .slice none 0 0] [.int .i64 n0, .slice a m c, .slice none 0 0, .slice none 0 0] s2) ∧ Hid (OwnR KN (plainR fun t => [Value.int .i64 t]) wx (w.heap.size + 1 + 1 + 1) (.slice a m c) l) ∧ Hid (s2.2 = 0 → l = L1))
 case first =>
  go_wp2_with fail
  go_loopw [5] (fun i wr => ∃ (k : Nat) (a : Option Addr) (cp : Nat) (lk : List _) (xk : List Int) (er : Int), k ≤ N1 ∧ i = .int .i64 k ∧ Hid (gList numC.rd k s1 = (lk, (xk, er))) ∧ Hid (IS w wr r s w.heap.size 28 [.int .i64 0, .slice none 0 0, .slice none 0 0, .slice none 0 0] [.int .i64 n0, .slice a k cp, .slice none 0 0, .slice none 0 0] (xk, er)) ∧ Hid (OwnR KN (plainR fun t => [Value.int .i64 t]) wr (w.heap.size + 1 + 1 + 1) (.slice a k cp) lk)) (fun i _ => N1 - (intOf i).toNat)
  case atStart => exact ⟨0, none, 0, [], s1.1, s1.2, Nat.zero_le _, rfl, Hd rfl, HI, Hd (OwnR.nil (Knd.Own.nil _ _))⟩
  case round =>
   clear HI c0
   obtain ⟨k, a, cp, lk, xk, er, hk, rfl, HG, HI, HO⟩ := hrel
   have c0 := HI.out.ci
   have ce := HI.out.ce
   simp only at ce
   by_cases hlt : k < N1
   ·have g1 : (k : Int) < (N1 : Int) := by omega
    have g2 : decide ((k : Int) < (N1 : Int)) = true := decide_eq_true g1
    have g3 : decide (k < N1) = true := decide_eq_true hlt
    by_cases q : er = 0
    ·subst q
     obtain ⟨x, sx, hx⟩ : ∃ b s, numC.rd (xk, 0) = (b, s) := ⟨_, _, rfl⟩
     have HX := Hd hx
     have HG2 : Hid (gList numC.rd (k + 1) s1 = (lk ++ [x], sx)) := Hd (by rw [gList_snoc, HG.out]; simp only; rw [hx])
     have HId := Hd (HI.out.under (Below.refl _ _).drew)
     have hcd := HId.out.ci
     have hfd := HId.out.bx.cell 1
     simp only [gB] at hfd
     have HOd := Hd (HO.out.under (Below.refl _ _).drew)
     obtain ⟨rk, o1, o2, o3⟩ := HOd.out
     have hrk : rk.length = k := by
      obtain ⟨_, _, e⟩ := o1.slice
      simp only [Value.slice.injEq] at e
      exact e.2.1.symm
     have HRK := Hd hrk
     have HO1 := Hd o1
     have HO23 := Hd (And.intro o2 o3)
     have HLt := Hd hlt
     have m5 := k_wrap HLt.out HN1.out
     clear hx hrk o1 o2 o3 hlt hk
     go_upto_region 7 with fail
     refine wp_region_held_drew (S := (fun w' => w'.cell? ⟨w.heap.size, 0, none⟩ = some (.pointer (some ⟨r, 0, none⟩)))) (by kernel_rfl) ?_ (fun hHeld => ?_)
     ·(first | exact hc7 | exact hc6 | exact hca | exact hc5 | exact hcd | exact c0)
     refine tkA 0 (v := ?_) ?_ ?_
     rotate_left
     ·(intro w hSw; (try dsimp only at hSw); go_simp; try rfl)
     try simp only [Act.put, gA]
     refine tkA 1 (v := ?_) ?_ ?_
     rotate_left
     ·(intro w hSw; (try dsimp only at hSw); go_simp; try rfl)
     try simp only [Act.put, gA]
     refine tkA 3 (v := ?_) ?_ ?_
     rotate_left
     ·(intro w hSw; (try dsimp only at hSw); go_simp; try rfl)
     try simp only [Act.put, gA]
     refine wpAnyH_ready (rs := [2, 4]) (by kernel_rfl) (by simp) ?_
     refine (AllReadyH.cons rfl (fun K hK => ?_) (AllReadyH.cons rfl (fun K hK => ?_) AllReadyH.nil))
     ·
      go_simp
      refine hK.out _ _ ?_ (fun hHeld => ?_)
      ·(first | exact hc7 | exact hc6 | exact hca | exact hc5 | exact hcd | exact c0)
      clear hK K
      try simp only [Act.put, gA]
      refine wpAnyH_ready (rs := [4]) (by kernel_rfl) (by simp) ?_
      refine (AllReadyH.cons rfl (fun K hK => ?_) AllReadyH.nil)
      go_simp
      (refine (inumE r s (xk, 0) sx x _ HId.out.rd hs HX.out).mono ?_; rintro e w5 ⟨he, h1, h2⟩; rw [he.out]; have HI5 := Hd (HId.out.call h1 h2); have HO5 := Hd (HOd.out.fo h2 (by have := HI5.out.hr; omega)); have HOw5 := Hd (HO1.out.keepB (fun j hj => h2.block j (HO1.out.blk j hj).1 (by have := HO1.out.from j hj; have := HI5.out.hr; omega))); have hc5 := HI5.out.ci; have hf5 := HI5.out.bx.cell 1; simp only [gB] at hf5; have HIa := Hd (HI5.out.under ((Below.refl _ _).alloc (Nat.le_refl _) (.cells #[.int .i64 x] 3))); have hca := HIa.out.ci; have hfa := HIa.out.bx.cell 1; simp only [gB] at hfa; clear he h1 h2)
      refine hK.out _ _ ?_ (fun hHeld => ?_)
      ·(first | exact hc7 | exact hc6 | exact hca | exact hc5 | exact hcd | exact c0)
      clear hK K
      try simp only [Act.put, gA]
      refine wpAnyH_ready (rs := [5]) (by kernel_rfl) (by simp) ?_
      refine (AllReadyH.cons rfl (fun K hK => ?_) AllReadyH.nil)
      go_simp
      refine hK.out _ _ ?_ (fun hHeld => ?_)
      ·(first | exact hc7 | exact hc6 | exact hca | exact hc5 | exact hcd | exact c0)
      clear hK K
      try simp only [Act.put, gA]
      refine wpAnyH_ready (rs := [6]) (by kernel_rfl) (by simp) ?_
      refine (AllReadyH.cons rfl (fun K hK => ?_) AllReadyH.nil)
      refine KN.step_appR rfl _ _ rfl ((w.heap.size + 1 + 1 + 1)) (.slice a k cp) rk rfl (HOw5.out.below ((Below.refl _ _).alloc (Nat.le_refl _) _)) _ (mkN x) rfl (KN.box x 1 w5) (by have := HRK.out; have := HLt.out; have := HN1.out; omega) (by have := HIa.out.sz; omega) ?_
      intro v6 w6 ho6 hb6 hg6
      obtain ⟨a6, c6, rfl⟩ : ∃ a6 c6, v6 = .slice a6 (k + 1) c6 := by
       obtain ⟨a6, c6, e6⟩ := ho6.slice
       exact ⟨a6, c6, by rw [e6]; simp [HRK.out]⟩
      have HI6 := Hd (HIa.out.low (hb6.mono (by omega)))
      have HO6 : Hid (OwnR KN (plainR fun t => [Value.int .i64 t]) w6 ((w.heap.size + 1 + 1 + 1)) (.slice a6 (k + 1) c6) (lk ++ [x])) := Hd (OwnR.more (w := w6) (v := .slice a k cp) ho6 HO23.out.1 (fun j p q => HO23.out.2 j p q) rfl)
      have hc6 := HI6.out.ci
      have hf6 := HI6.out.bx.cell 1
      have hz6 := HI6.out.bx.fz 1
      simp only [gB] at hf6
      have HI7 := Hd (HI6.out.set 1 (.slice a6 (k + 1) c6))
      simp only [List.set_cons_zero, List.set_cons_succ] at HI7
      have hc7 := HI7.out.ci
      have HO7 := Hd (HO6.out.setA (b := w.heap.size + 1 + 1) (by omega) 1 (.slice a6 (k + 1) c6))
      clear ho6 hb6 hg6
      refine hK.out _ _ ?_ (fun hHeld => ?_)
      ·(first | exact hc7 | exact hc6 | exact hca | exact hc5 | exact hcd | exact c0)
      clear hK K
      try simp only [Act.put, gA]
      refine tkA 7 (v := ?_) ?_ ?_
      rotate_left
      ·(intro w hSw; (try dsimp only at hSw); go_simp; try rfl)
      try simp only [Act.put, gA]
      refine tkA 8 (v := ?_) ?_ ?_
      rotate_left
      ·(intro w hSw; (try dsimp only at hSw); go_simp; try rfl)
      try simp only [Act.put, gA]
      refine wpAnyH_ready (rs := [9]) (by kernel_rfl) (by simp) ?_
      refine (AllReadyH.cons rfl (fun K hK => ?_) AllReadyH.nil)
      go_simp
      refine hK.out _ _ ?_ (fun hHeld => ?_)
      ·(first | exact hc7 | exact hc6 | exact hca | exact hc5 | exact hcd | exact c0)
      clear hK K
      try simp only [Act.put, gA]
      refine wpAnyH_done (by kernel_rfl) ?_ _
      clear hHeld
      go_wp2_with fail
      go_roundw
      case rel => exact ⟨k + 1, a6, c6, lk ++ [x], sx.1, sx.2, by have := HLt.out; omega, (by first | rfl | (rw [m5]; rfl)), HG2, HI7, HO7⟩
      case measure => (try rw [m5]); exact k_meas HLt.out
     ·
      go_simp
      (refine (inumE r s (xk, 0) sx x _ HId.out.rd hs HX.out).mono ?_; rintro e w5 ⟨he, h1, h2⟩; rw [he.out]; have HI5 := Hd (HId.out.call h1 h2); have HO5 := Hd (HOd.out.fo h2 (by have := HI5.out.hr; omega)); have HOw5 := Hd (HO1.out.keepB (fun j hj => h2.block j (HO1.out.blk j hj).1 (by have := HO1.out.from j hj; have := HI5.out.hr; omega))); have hc5 := HI5.out.ci; have hf5 := HI5.out.bx.cell 1; simp only [gB] at hf5; have HIa := Hd (HI5.out.under ((Below.refl _ _).alloc (Nat.le_refl _) (.cells #[.int .i64 x] 3))); have hca := HIa.out.ci; have hfa := HIa.out.bx.cell 1; simp only [gB] at hfa; clear he h1 h2)
      refine hK.out _ _ ?_ (fun hHeld => ?_)
      ·(first | exact hc7 | exact hc6 | exact hca | exact hc5 | exact hcd | exact c0)
      clear hK K
      try simp only [Act.put, gA]
      refine wpAnyH_ready (rs := [2, 5]) (by kernel_rfl) (by simp) ?_
      refine (AllReadyH.cons rfl (fun K hK => ?_) (AllReadyH.cons rfl (fun K hK => ?_) AllReadyH.nil))
      ·
       go_simp
       refine hK.out _ _ ?_ (fun hHeld => ?_)
       ·(first | exact hc7 | exact hc6 | exact hca | exact hc5 | exact hcd | exact c0)
       clear hK K
       try simp only [Act.put, gA]
       refine wpAnyH_ready (rs := [5]) (by kernel_rfl) (by simp) ?_
       refine (AllReadyH.cons rfl (fun K hK => ?_) AllReadyH.nil)
       go_simp
       refine hK.out _ _ ?_ (fun hHeld => ?_)
       ·(first | exact hc7 | exact hc6 | exact hca | exact hc5 | exact hcd | exact c0)
       clear hK K
       try simp only [Act.put, gA]
       refine wpAnyH_ready (rs := [6]) (by kernel_rfl) (by simp) ?_
       refine (AllReadyH.cons rfl (fun K hK => ?_) AllReadyH.nil)
       refine KN.step_appR rfl _ _ rfl ((w.heap.size + 1 + 1 + 1)) (.slice a k cp) rk rfl (HOw5.out.below ((Below.refl _ _).alloc (Nat.le_refl _) _)) _ (mkN x) rfl (KN.box x 1 w5) (by have := HRK.out; have := HLt.out; have := HN1.out; omega) (by have := HIa.out.sz; omega) ?_
       intro v6 w6 ho6 hb6 hg6
       obtain ⟨a6, c6, rfl⟩ : ∃ a6 c6, v6 = .slice a6 (k + 1) c6 := by
        obtain ⟨a6, c6, e6⟩ := ho6.slice
        exact ⟨a6, c6, by rw [e6]; simp [HRK.out]⟩
       have HI6 := Hd (HIa.out.low (hb6.mono (by omega)))
       have HO6 : Hid (OwnR KN (plainR fun t => [Value.int .i64 t]) w6 ((w.heap.size + 1 + 1 + 1)) (.slice a6 (k + 1) c6) (lk ++ [x])) := Hd (OwnR.more (w := w6) (v := .slice a k cp) ho6 HO23.out.1 (fun j p q => HO23.out.2 j p q) rfl)
       have hc6 := HI6.out.ci
       have hf6 := HI6.out.bx.cell 1
       have hz6 := HI6.out.bx.fz 1
       simp only [gB] at hf6
       have HI7 := Hd (HI6.out.set 1 (.slice a6 (k + 1) c6))
       simp only [List.set_cons_zero, List.set_cons_succ] at HI7
       have hc7 := HI7.out.ci
       have HO7 := Hd (HO6.out.setA (b := w.heap.size + 1 + 1) (by omega) 1 (.slice a6 (k + 1) c6))
       clear ho6 hb6 hg6
       refine hK.out _ _ ?_ (fun hHeld => ?_)
       ·(first | exact hc7 | exact hc6 | exact hca | exact hc5 | exact hcd | exact c0)
       clear hK K
       try simp only [Act.put, gA]
       refine tkA 7 (v := ?_) ?_ ?_
       rotate_left
       ·(intro w hSw; (try dsimp only at hSw); go_simp; try rfl)
       try simp only [Act.put, gA]
       refine tkA 8 (v := ?_) ?_ ?_
       rotate_left
       ·(intro w hSw; (try dsimp only at hSw); go_simp; try rfl)
       try simp only [Act.put, gA]
       refine wpAnyH_ready (rs := [9]) (by kernel_rfl) (by simp) ?_
       refine (AllReadyH.cons rfl (fun K hK => ?_) AllReadyH.nil)
       go_simp
       refine hK.out _ _ ?_ (fun hHeld => ?_)
       ·(first | exact hc7 | exact hc6 | exact hca | exact hc5 | exact hcd | exact c0)
       clear hK K
       try simp only [Act.put, gA]
       refine wpAnyH_done (by kernel_rfl) ?_ _
       clear hHeld
       go_wp2_with fail
       go_roundw
       case rel => exact ⟨k + 1, a6, c6, lk ++ [x], sx.1, sx.2, by have := HLt.out; omega, (by first | rfl | (rw [m5]; rfl)), HG2, HI7, HO7⟩
       case measure => (try rw [m5]); exact k_meas HLt.out
      ·
       go_simp
       refine hK.out _ _ ?_ (fun hHeld => ?_)
       ·(first | exact hc7 | exact hc6 | exact hca | exact hc5 | exact hcd | exact c0)
       clear hK K
       try simp only [Act.put, gA]
       refine wpAnyH_ready (rs := [2]) (by kernel_rfl) (by simp) ?_
       refine (AllReadyH.cons rfl (fun K hK => ?_) AllReadyH.nil)
       go_simp
       refine hK.out _ _ ?_ (fun hHeld => ?_)
       ·(first | exact hc7 | exact hc6 | exact hca | exact hc5 | exact hcd | exact c0)
       clear hK K
       try simp only [Act.put, gA]
       refine wpAnyH_ready (rs := [6]) (by kernel_rfl) (by simp) ?_
       refine (AllReadyH.cons rfl (fun K hK => ?_) AllReadyH.nil)
       refine KN.step_appR rfl _ _ rfl ((w.heap.size + 1 + 1 + 1)) (.slice a k cp) rk rfl (HOw5.out.below ((Below.refl _ _).alloc (Nat.le_refl _) _)) _ (mkN x) rfl (KN.box x 1 w5) (by have := HRK.out; have := HLt.out; have := HN1.out; omega) (by have := HIa.out.sz; omega) ?_
       intro v6 w6 ho6 hb6 hg6
       obtain ⟨a6, c6, rfl⟩ : ∃ a6 c6, v6 = .slice a6 (k + 1) c6 := by
        obtain ⟨a6, c6, e6⟩ := ho6.slice
        exact ⟨a6, c6, by rw [e6]; simp [HRK.out]⟩
       have HI6 := Hd (HIa.out.low (hb6.mono (by omega)))
       have HO6 : Hid (OwnR KN (plainR fun t => [Value.int .i64 t]) w6 ((w.heap.size + 1 + 1 + 1)) (.slice a6 (k + 1) c6) (lk ++ [x])) := Hd (OwnR.more (w := w6) (v := .slice a k cp) ho6 HO23.out.1 (fun j p q => HO23.out.2 j p q) rfl)
       have hc6 := HI6.out.ci
       have hf6 := HI6.out.bx.cell 1
       have hz6 := HI6.out.bx.fz 1
       simp only [gB] at hf6
       have HI7 := Hd (HI6.out.set 1 (.slice a6 (k + 1) c6))
       simp only [List.set_cons_zero, List.set_cons_succ] at HI7
       have hc7 := HI7.out.ci
       have HO7 := Hd (HO6.out.setA (b := w.heap.size + 1 + 1) (by omega) 1 (.slice a6 (k + 1) c6))
       clear ho6 hb6 hg6
       refine hK.out _ _ ?_ (fun hHeld => ?_)
       ·(first | exact hc7 | exact hc6 | exact hca | exact hc5 | exact hcd | exact c0)
       clear hK K
       try simp only [Act.put, gA]
       refine tkA 7 (v := ?_) ?_ ?_
       rotate_left
       ·(intro w hSw; (try dsimp only at hSw); go_simp; try rfl)
       try simp only [Act.put, gA]
       refine tkA 8 (v := ?_) ?_ ?_
       rotate_left
       ·(intro w hSw; (try dsimp only at hSw); go_simp; try rfl)
       try simp only [Act.put, gA]
       refine wpAnyH_ready (rs := [9]) (by kernel_rfl) (by simp) ?_
       refine (AllReadyH.cons rfl (fun K hK => ?_) AllReadyH.nil)
       go_simp
       refine hK.out _ _ ?_ (fun hHeld => ?_)
       ·(first | exact hc7 | exact hc6 | exact hca | exact hc5 | exact hcd | exact c0)
       clear hK K
       try simp only [Act.put, gA]
       refine wpAnyH_done (by kernel_rfl) ?_ _
       clear hHeld
       go_wp2_with fail
       go_roundw
       case rel => exact ⟨k + 1, a6, c6, lk ++ [x], sx.1, sx.2, by have := HLt.out; omega, (by first | rfl | (rw [m5]; rfl)), HG2, HI7, HO7⟩
       case measure => (try rw [m5]); exact k_meas HLt.out
    ·have q1 : (er == 0) = false := by simpa using q
     have HST := Hd (gList_stay numC N1 s1 k hk (by rw [HG.out]; exact q))
     have HQ := Hd q
     clear q hk hlt
     go_wp2_with fail
     go_meet
     rw [HLL1.out, HG.out] at HST
     exact ⟨a, k, cp, lk, (by have e := HST.out; simp only at e; rw [e]; exact HI), HO, Hd (fun z => absurd (by have e := HST.out; simp only at e; rw [← z, e]) HQ.out)⟩
   ·have hkN : k = N1 := by omega
    subst hkN
    have g1 : ¬ (k : Int) < (k : Int) := by omega
    have g2 : decide ((k : Int) < (k : Int)) = false := decide_eq_false g1
    have hfin := HG.out
    rw [HLL1.out] at hfin
    simp only [Prod.mk.injEq] at hfin
    obtain ⟨e1, e2⟩ := hfin
    have E1 := Hd e1
    have E2 := Hd e2
    clear e1 e2 hk hlt
    go_wp2_with fail
    go_meet
    exact ⟨a, k, cp, lk, (by rw [E2.out]; exact HI), HO, Hd (fun _ => E1.out.symm)⟩
 case rest =>
 clear HI c0
 obtain ⟨a1, m1, c1, l1, HI, HR1, HY1⟩ := hcut
 have c0 := HI.out.ci
 go_wp2_with fail
 refine (ilistE r s _ _ _ _ HI.out.rd hs G3.out).mono ?_
 rintro e w3 ⟨he, h1, h2⟩
 rw [he.out]
 have HJ := Hd (HI.out.call h1 h2)
 have HK := HJ
 have HR1x := Hd (HR1.out.fo h2 (by have := HI.out.hr; omega))
 clear HR1
 have HR1 := HR1x
 clear HR1x
 clear HI HJ c0 he h1 h2
 have c0 := HK.out.ci
 have HI := HK
 clear HK
 go_upto_block 2 with fail
 skip
 go_cut [6, 7] from 43 to 71 (fun _ _ wx => ∃ (a : Option Addr) (m c : Nat) (l : List _), Hid (IS w wx r s w.heap.size 28 [.int .i64 0, .slice none 0 0, .slice none 0 0, .slice none 0 0] [.int .i64 n0, .slice a1 m1 c1, .slice a m c, .slice none 0 0] s4) ∧ Hid (OwnR KE (plainR enE) wx (w.heap.size + 1 + 1 + 1) (.slice a m c) l) ∧ Hid (s4.2 = 0 → l = L2) ∧ Hid (OwnR KN (plainR fun t => [Value.int .i64 t]) wx (w.heap.size + 1 + 1 + 1) (.slice a1 m1 c1) l1))
 case first =>
  go_wp2_with fail
  go_loopw [6, 7] (fun i _ wr => ∃ (k : Nat) (a : Option Addr) (cp : Nat) (lk : List _) (xk : List Int) (er : Int), k ≤ N2 ∧ i = .int .i64 k ∧ Hid (gList enC.rd k s3 = (lk, (xk, er))) ∧ Hid (IS w wr r s w.heap.size 28 [.int .i64 0, .slice none 0 0, .slice none 0 0, .slice none 0 0] [.int .i64 n0, .slice a1 m1 c1, .slice a k cp, .slice none 0 0] (xk, er)) ∧ Hid (OwnR KE (plainR enE) wr (w.heap.size + 1 + 1 + 1) (.slice a k cp) lk) ∧ Hid (OwnR KN (plainR fun t => [Value.int .i64 t]) wr (w.heap.size + 1 + 1 + 1) (.slice a1 m1 c1) l1)) (fun i _ _ => N2 - (intOf i).toNat)
  case atStart => exact ⟨0, none, 0, [], s3.1, s3.2, Nat.zero_le _, rfl, Hd rfl, HI, Hd (OwnR.nil (Knd.Own.nil _ _)), HR1⟩
  case round =>
   clear HI c0 HR1
   obtain ⟨k, a, cp, lk, xk, er, hk, rfl, HG, HI, HO, HR1⟩ := hrel
   obtain ⟨wo, rfl⟩ : ∃ q, q = wr := ⟨_, rfl⟩
   have c0 := HI.out.ci
   have ce := HI.out.ce
   simp only at ce
   by_cases hlt : k < N2
   ·have g1 : (k : Int) < (N2 : Int) := by omega
    have g2 : decide ((k : Int) < (N2 : Int)) = true := decide_eq_true g1
    have g3 : decide (k < N2) = true := decide_eq_true hlt
    by_cases q : er = 0
    ·subst q
     obtain ⟨x0, t0, b0⟩ : ∃ b s, gTxt (xk, 0) = (b, s) := ⟨_, _, rfl⟩
     have B0 := Hd b0
     obtain ⟨x1, t1, b1⟩ : ∃ b s, gTxt t0 = (b, s) := ⟨_, _, rfl⟩
     have B1 := Hd b1
     obtain ⟨x2, t2, b2⟩ : ∃ b s, gNum t1 = (b, s) := ⟨_, _, rfl⟩
     have B2 := Hd b2
     have hx : enC.rd (xk, 0) = ((x0, x1, x2), t2) := by
      simp only [enC, pairC_rd, numC_rd, txtC_rd, b0, b1, b2]
     have HG2 : Hid (gList enC.rd (k + 1) s3 = (lk ++ [(x0, x1, x2)], t2)) := Hd (by rw [gList_snoc, HG.out]; simp only; rw [hx])
     have HLt := Hd hlt
     have m5 := k_wrap HLt.out HN2.out
     have HE := Hd (ES.start HI.out.rd HI.out.bi (by have := HI.out.hr; have := HI.out.hg; omega) 71 [.string ⟨#[]⟩, .string ⟨#[]⟩, .int .i64 0])
     have c1 := HE.out.ci
     clear hx b0 b1 b2 hlt hk
     go_wp2_with fail
     clear c0 c1 ce
     refine (itextE r s _ _ _ _ HE.out.rd hs B0.out).mono ?_
     rintro e u0 ⟨he, h1, h2⟩
     rw [he.out]
     have HJ := Hd (HE.out.call h1 h2)
     have y0 := HJ.out.bx.cell 0
     have z0 := HJ.out.bx.fz 0
     simp only [List.set_cons_zero, List.set_cons_succ, List.getElem?_cons_zero, List.getElem?_cons_succ] at y0
     obtain ⟨v0, hv⟩ : ∃ q, u0.setCell ⟨wo.heap.size, 0, none⟩ (.string x0) = q := ⟨_, rfl⟩
     have HK := Hd (HJ.out.set 0 (.string x0))
     simp only [List.set_cons_zero, List.set_cons_succ] at HK
     rw [hv] at HK
     clear HE HJ he h1 h2
     have c0 := HK.out.ci
     have HE := HK
     clear HK
     go_wp2_with fail
     clear hv y0 z0
     clear c0
     refine (itextE r s _ _ _ _ HE.out.rd hs B1.out).mono ?_
     rintro e u1 ⟨he, h1, h2⟩
     rw [he.out]
     have HJ := Hd (HE.out.call h1 h2)
     have y0 := HJ.out.bx.cell 1
     have z0 := HJ.out.bx.fz 1
     simp only [List.set_cons_zero, List.set_cons_succ, List.getElem?_cons_zero, List.getElem?_cons_succ] at y0
     obtain ⟨v1, hv⟩ : ∃ q, u1.setCell ⟨wo.heap.size, 1, none⟩ (.string x1) = q := ⟨_, rfl⟩
     have HK := Hd (HJ.out.set 1 (.string x1))
     simp only [List.set_cons_zero, List.set_cons_succ] at HK
     rw [hv] at HK
     clear HE HJ he h1 h2
     have c0 := HK.out.ci
     have HE := HK
     clear HK
     go_wp2_with fail
     clear hv y0 z0
     clear c0
     refine (inumE r s _ _ _ _ HE.out.rd hs B2.out).mono ?_
     rintro e u2 ⟨he, h1, h2⟩
     rw [he.out]
     have HJ := Hd (HE.out.call h1 h2)
     have y0 := HJ.out.bx.cell 2
     have z0 := HJ.out.bx.fz 2
     simp only [List.set_cons_zero, List.set_cons_succ, List.getElem?_cons_zero, List.getElem?_cons_succ] at y0
     obtain ⟨v2, hv⟩ : ∃ q, u2.setCell ⟨wo.heap.size, 2, none⟩ (.int .i64 x2) = q := ⟨_, rfl⟩
     have HK := Hd (HJ.out.set 2 (.int .i64 x2))
     simp only [List.set_cons_zero, List.set_cons_succ] at HK
     rw [hv] at HK
     clear HE HJ he h1 h2
     have c0 := HK.out.ci
     have HE := HK
     clear HK
     have HI8 := Hd (HI.out.call HE.out.rd HE.out.fo)
     have HO8 := Hd (HO.out.fo HE.out.fo (by have := HI.out.hr; omega))
     have HR1o := Hd (HR1.out.fo HE.out.fo (by have := HI.out.hr; omega))
     obtain ⟨rk, o1, o2, o3⟩ := HO8.out
     have hrk : rk.length = k := by
      obtain ⟨_, _, e⟩ := o1.slice
      simp only [Value.slice.injEq] at e
      exact e.2.1.symm
     have HRK := Hd hrk
     have HO23 := Hd (And.intro o2 o3)
     have hf8 := HI8.out.bx.cell 2
     simp only [gB] at hf8
     have HXr := Hd HE.out.bx
     have HXi : Hid ((Tryz.prog.info? 71).map (·.size) = some 3) := Hd (by kernel_rfl)
     have HIa := Hd (HI8.out.under ((Below.refl _ _).alloc (Nat.le_refl _) (.cells #[.string x0, .string x1, .int .i64 x2] 71)))
     have HOw := Hd (o1.below ((Below.refl _ _).alloc (Nat.le_refl _) (.cells #[.string x0, .string x1, .int .i64 x2] 71)))
     have HOa := Hd (HO8.out.under ((Below.refl _ _).alloc (Nat.le_refl _) (.cells #[.string x0, .string x1, .int .i64 x2] 71)))
     have HR1a := Hd (HR1o.out.under ((Below.refl _ _).alloc (Nat.le_refl _) (.cells #[.string x0, .string x1, .int .i64 x2] 71)))
     have hlk : rk.length + [mkE (x0, x1, x2)].length ≤ 1000000 := by have := HRK.out; have := HLt.out; have := HN2.out; simp; omega
     have HBx := Hd (KE.box x0 x1 x2 1 v2)
     clear hrk o1 o2 o3
     go_wp2_with (first | (refine wpList_load_row rfl _ _ rfl wo.heap.size rfl 71 #[.string x0, .string x1, .int .i64 x2] (0, 0) _ HXr.out Tryz.underlying71 rfl HXi.out ?_) | (refine KE.app rfl _ _ rfl (w.heap.size + 1 + 1 + 1) (.slice a k cp) rk rfl HOw.out _ [mkE (x0, x1, x2)] rfl HBx.out hlk (by have := HIa.out.sz; omega) ?_))
     intro v6 w6 ho6 hb6 hg6 hne6
     obtain ⟨a6, c6, rfl⟩ : ∃ a6 c6, v6 = .slice a6 (k + 1) c6 := by
      obtain ⟨a6, c6, e6⟩ := ho6.slice
      exact ⟨a6, c6, by rw [e6]; simp [HRK.out]⟩
     have HI6 := Hd (HIa.out.low (hb6.mono (by omega)))
     have HO6 : Hid (OwnR KE (plainR enE) w6 (w.heap.size + 1 + 1 + 1) (.slice a6 (k + 1) c6) (lk ++ [(x0, x1, x2)])) := Hd (OwnR.more (w := w6) (v := .slice a k cp) ho6 HO23.out.1 (fun j p q => HO23.out.2 j p q) rfl)
     have HR16 := Hd ((HR1a.out.grown (hu := HOw.out) hg6 (by decide) (by decide)).setA (b := w.heap.size + 1 + 1) (by omega) 2 (.slice a6 (k + 1) c6))
     have hf6 := HI6.out.bx.cell 2
     have hz6 := HI6.out.bx.fz 2
     simp only [gB] at hf6
     have HI7 := Hd (HI6.out.set 2 (.slice a6 (k + 1) c6))
     simp only [List.set_cons_zero, List.set_cons_succ] at HI7
     have HO7 := Hd (HO6.out.setA (b := w.heap.size + 1 + 1) (by omega) 2 (.slice a6 (k + 1) c6))
     clear ho6 hb6 hg6 hne6 c0 hf8
     clear hv y0 z0
     go_wp2_with fail
     go_roundw
     case rel => exact ⟨k + 1, a6, c6, _, t2.1, t2.2, by have := HLt.out; omega, (by first | rfl | (rw [m5]; rfl)), HG2, HI7, HO7, HR16⟩
     case measure => (try rw [m5]); exact k_meas HLt.out
    ·have q1 : (er == 0) = false := by simpa using q
     have HST := Hd (gList_stay enC N2 s3 k hk (by rw [HG.out]; exact q))
     have HQ := Hd q
     clear q hk hlt
     go_wp2_with fail
     go_meet
     rw [HLL2.out, HG.out] at HST
     exact ⟨a, k, cp, lk, (by have e := HST.out; simp only at e; rw [e]; exact HI), HO, Hd (fun z => absurd (by have e := HST.out; simp only at e; rw [← z, e]) HQ.out), HR1⟩
   ·have hkN : k = N2 := by omega
    subst hkN
    have g1 : ¬ (k : Int) < (k : Int) := by omega
    have g2 : decide ((k : Int) < (k : Int)) = false := decide_eq_false g1
    have hfin := HG.out
    rw [HLL2.out] at hfin
    simp only [Prod.mk.injEq] at hfin
    obtain ⟨e1, e2⟩ := hfin
    have E1 := Hd e1
    have E2 := Hd e2
    clear e1 e2 hk hlt
    go_wp2_with fail
    go_meet
    exact ⟨a, k, cp, lk, (by rw [E2.out]; exact HI), HO, Hd (fun z => E1.out.symm), HR1⟩
 case rest =>
 clear HI c0 HR1
 obtain ⟨a2, m2, c2, l2, HI, HR2, HY2, HR1⟩ := hcut
 have c0 := HI.out.ci
 go_wp2_with fail
 refine (ilistE r s _ _ _ _ HI.out.rd hs G5.out).mono ?_
 rintro e w4 ⟨he, h1, h2⟩
 rw [he.out]
 have HJ := Hd (HI.out.call h1 h2)
 have HK := HJ
 have HR1x := Hd (HR1.out.fo h2 (by have := HI.out.hr; omega))
 have HR2x := Hd (HR2.out.fo h2 (by have := HI.out.hr; omega))
 clear HR1 HR2
 have HR1 := HR1x
 clear HR1x
 have HR2 := HR2x
 clear HR2x
 clear HI HJ c0 he h1 h2
 have c0 := HK.out.ci
 have HI := HK
 clear HK
 go_upto_block 4 with fail
 skip
 go_cut [8, 9, 10, 11] from 74 to 135 (fun _ _ _ _ wx => ∃ (a : Option Addr) (m c : Nat) (l : List _), Hid (IS w wx r s w.heap.size 28 [.int .i64 0, .slice none 0 0, .slice none 0 0, .slice none 0 0] [.int .i64 n0, .slice a1 m1 c1, .slice a2 m2 c2, .slice a m c] s6) ∧ Hid (OwnR KZ seR wx (w.heap.size + 1 + 1 + 1) (.slice a m c) l) ∧ Hid (s6.2 = 0 → l = L3) ∧ Hid (OwnR KE (plainR enE) wx (w.heap.size + 1 + 1 + 1) (.slice a2 m2 c2) l2) ∧ Hid (OwnR KN (plainR fun t => [Value.int .i64 t]) wx (w.heap.size + 1 + 1 + 1) (.slice a1 m1 c1) l1))
 case first =>
  go_wp2_with fail
  go_loopw [8, 9, 10, 11] (fun i _ _ _ wr => ∃ (k : Nat) (a : Option Addr) (cp : Nat) (lk : List _) (xk : List Int) (er : Int), k ≤ N3 ∧ i = .int .i64 k ∧ Hid ((gList seC.rd k s5).2 = (xk, er) ∧ (er = 0 → (gList seC.rd k s5).1 = lk)) ∧ Hid (IS w wr r s w.heap.size 28 [.int .i64 0, .slice none 0 0, .slice none 0 0, .slice none 0 0] [.int .i64 n0, .slice a1 m1 c1, .slice a2 m2 c2, .slice a k cp] (xk, er)) ∧ Hid (OwnR KZ seR wr (w.heap.size + 1 + 1 + 1) (.slice a k cp) lk) ∧ Hid (OwnR KE (plainR enE) wr (w.heap.size + 1 + 1 + 1) (.slice a2 m2 c2) l2) ∧ Hid (OwnR KN (plainR fun t => [Value.int .i64 t]) wr (w.heap.size + 1 + 1 + 1) (.slice a1 m1 c1) l1)) (fun i _ _ _ _ => N3 - (intOf i).toNat)
  case atStart => exact ⟨0, none, 0, [], s5.1, s5.2, Nat.zero_le _, rfl, Hd ⟨rfl, fun _ => rfl⟩, HI, Hd (OwnR.nil (Knd.Own.nil _ _)), HR2, HR1⟩
  case round =>
   clear HI c0 HR2 HR1
   obtain ⟨k, a, cp, lk, xk, er, hk, rfl, HG, HI, HO, HR2, HR1⟩ := hrel
   obtain ⟨wo, rfl⟩ : ∃ q, q = wr := ⟨_, rfl⟩
   have c0 := HI.out.ci
   have ce := HI.out.ce
   simp only at ce
   by_cases hlt : k < N3
   ·have g1 : (k : Int) < (N3 : Int) := by omega
    have g2 : decide ((k : Int) < (N3 : Int)) = true := decide_eq_true g1
    have g3 : decide (k < N3) = true := decide_eq_true hlt
    by_cases q : er = 0
    ·subst q
     obtain ⟨x0, t0, b0⟩ : ∃ b s, gNum (xk, 0) = (b, s) := ⟨_, _, rfl⟩
     have B0 := Hd b0
     obtain ⟨x1, t1, b1⟩ : ∃ b s, gNum t0 = (b, s) := ⟨_, _, rfl⟩
     have B1 := Hd b1
     obtain ⟨x2, t2, b2⟩ : ∃ b s, gNum t1 = (b, s) := ⟨_, _, rfl⟩
     have B2 := Hd b2
     obtain ⟨x3, t3, b3⟩ : ∃ b s, gTxt t2 = (b, s) := ⟨_, _, rfl⟩
     have B3 := Hd b3
     obtain ⟨x4, t4, b4⟩ : ∃ b s, gNum t3 = (b, s) := ⟨_, _, rfl⟩
     have B4 := Hd b4
     obtain ⟨N8, t5, b5⟩ : ∃ b s, gCnt t4 = (b, s) := ⟨_, _, rfl⟩
     have B5 := Hd b5
     have hN8 := gCnt_le t4
     rw [b5] at hN8
     have HN8 : Hid (N8 ≤ 1024) := Hd hN8
     obtain ⟨L8, t8, bl⟩ : ∃ b s, gList txtC.rd N8 t5 = (b, s) := ⟨_, _, rfl⟩
     have HLL8 := Hd bl
     have hx : seC.rd (xk, 0) = ((x0, x1, x2, x3, x4, L8), t8) := by
      simp only [seC, rpC, pairC_rd, numC_rd, txtC_rd, listC_rd, b0, b1, b2, b3, b4, b5, bl]
     have HG2 : Hid ((gList seC.rd (k + 1) s5).2 = t8 ∧ (t8.2 = 0 → (gList seC.rd (k + 1) s5).1 = lk ++ [(x0, x1, x2, x3, x4, L8)])) := Hd (by rw [gList_snoc]; exact ⟨by show (seC.rd (gList seC.rd k s5).2).2 = _; rw [HG.out.1, hx], fun z => by show (gList seC.rd k s5).1 ++ [(seC.rd (gList seC.rd k s5).2).1] = _; rw [HG.out.1, hx, HG.out.2 rfl]⟩)
     have HLt := Hd hlt
     have m5 := k_wrap HLt.out HN3.out
     have HE := Hd (ES.start HI.out.rd HI.out.bi (by have := HI.out.hr; have := HI.out.hg; omega) 75 [.int .i64 0, .int .i64 0, .int .i64 0, .string ⟨#[]⟩, .int .i64 0, .slice none 0 0])
     have c1 := HE.out.ci
     clear hx b0 b1 b2 b3 b4 b5 bl hN8 hlt hk
     go_wp2_with fail
     clear c0 c1 ce
     refine (inumE r s _ _ _ _ HE.out.rd hs B0.out).mono ?_
     rintro e u0 ⟨he, h1, h2⟩
     rw [he.out]
     have HJ := Hd (HE.out.call h1 h2)
     have y0 := HJ.out.bx.cell 0
     have z0 := HJ.out.bx.fz 0
     simp only [List.set_cons_zero, List.set_cons_succ, List.getElem?_cons_zero, List.getElem?_cons_succ] at y0
     obtain ⟨v0, hv⟩ : ∃ q, u0.setCell ⟨wo.heap.size, 0, none⟩ (.int .i64 x0) = q := ⟨_, rfl⟩
     have HK := Hd (HJ.out.set 0 (.int .i64 x0))
     simp only [List.set_cons_zero, List.set_cons_succ] at HK
     rw [hv] at HK
     clear HE HJ he h1 h2
     have c0 := HK.out.ci
     have HE := HK
     clear HK
     go_wp2_with fail
     clear hv y0 z0
     clear c0
     refine (inumE r s _ _ _ _ HE.out.rd hs B1.out).mono ?_
     rintro e u1 ⟨he, h1, h2⟩
     rw [he.out]
     have HJ := Hd (HE.out.call h1 h2)
     have y0 := HJ.out.bx.cell 1
     have z0 := HJ.out.bx.fz 1
     simp only [List.set_cons_zero, List.set_cons_succ, List.getElem?_cons_zero, List.getElem?_cons_succ] at y0
     obtain ⟨v1, hv⟩ : ∃ q, u1.setCell ⟨wo.heap.size, 1, none⟩ (.int .i64 x1) = q := ⟨_, rfl⟩
     have HK := Hd (HJ.out.set 1 (.int .i64 x1))
     simp only [List.set_cons_zero, List.set_cons_succ] at HK
     rw [hv] at HK
     clear HE HJ he h1 h2
     have c0 := HK.out.ci
     have HE := HK
     clear HK
     go_wp2_with fail
     clear hv y0 z0
     clear c0
     refine (inumE r s _ _ _ _ HE.out.rd hs B2.out).mono ?_
     rintro e u2 ⟨he, h1, h2⟩
     rw [he.out]
     have HJ := Hd (HE.out.call h1 h2)
     have y0 := HJ.out.bx.cell 2
     have z0 := HJ.out.bx.fz 2
     simp only [List.set_cons_zero, List.set_cons_succ, List.getElem?_cons_zero, List.getElem?_cons_succ] at y0
     obtain ⟨v2, hv⟩ : ∃ q, u2.setCell ⟨wo.heap.size, 2, none⟩ (.int .i64 x2) = q := ⟨_, rfl⟩
     have HK := Hd (HJ.out.set 2 (.int .i64 x2))
     simp only [List.set_cons_zero, List.set_cons_succ] at HK
     rw [hv] at HK
     clear HE HJ he h1 h2
     have c0 := HK.out.ci
     have HE := HK
     clear HK
     go_wp2_with fail
     clear hv y0 z0
     clear c0
     refine (itextE r s _ _ _ _ HE.out.rd hs B3.out).mono ?_
     rintro e u3 ⟨he, h1, h2⟩
     rw [he.out]
     have HJ := Hd (HE.out.call h1 h2)
     have y0 := HJ.out.bx.cell 3
     have z0 := HJ.out.bx.fz 3
     simp only [List.set_cons_zero, List.set_cons_succ, List.getElem?_cons_zero, List.getElem?_cons_succ] at y0
     obtain ⟨v3, hv⟩ : ∃ q, u3.setCell ⟨wo.heap.size, 3, none⟩ (.string x3) = q := ⟨_, rfl⟩
     have HK := Hd (HJ.out.set 3 (.string x3))
     simp only [List.set_cons_zero, List.set_cons_succ] at HK
     rw [hv] at HK
     clear HE HJ he h1 h2
     have c0 := HK.out.ci
     have HE := HK
     clear HK
     go_wp2_with fail
     clear hv y0 z0
     clear c0
     refine (inumE r s _ _ _ _ HE.out.rd hs B4.out).mono ?_
     rintro e u4 ⟨he, h1, h2⟩
     rw [he.out]
     have HJ := Hd (HE.out.call h1 h2)
     have y0 := HJ.out.bx.cell 4
     have z0 := HJ.out.bx.fz 4
     simp only [List.set_cons_zero, List.set_cons_succ, List.getElem?_cons_zero, List.getElem?_cons_succ] at y0
     obtain ⟨v4, hv⟩ : ∃ q, u4.setCell ⟨wo.heap.size, 4, none⟩ (.int .i64 x4) = q := ⟨_, rfl⟩
     have HK := Hd (HJ.out.set 4 (.int .i64 x4))
     simp only [List.set_cons_zero, List.set_cons_succ] at HK
     rw [hv] at HK
     clear HE HJ he h1 h2
     have c0 := HK.out.ci
     have HE := HK
     clear HK
     go_wp2_with fail
     clear hv y0 z0
     clear c0
     refine (ilistE r s _ _ _ _ HE.out.rd hs B5.out).mono ?_
     rintro e u5 ⟨he, h1, h2⟩
     rw [he.out]
     have HJ := Hd (HE.out.call h1 h2)
     have HK := HJ
     clear HE HJ he h1 h2
     have c0 := HK.out.ci
     have HE := HK
     clear HK
     go_upto_block 6 with fail
     skip
     go_cut [11] from 108 to 129 (fun _ wx => ∃ (a8 : Option Addr) (m c : Nat) (l : List _), Hid (ES wo wx r s w.heap.size wo.heap.size 75 [.int .i64 x0, .int .i64 x1, .int .i64 x2, .string x3, .int .i64 x4, .slice a8 m c] t8) ∧ Hid (OwnR KT (plainR fun t => [Value.string t]) wx (wo.heap.size + 1) (.slice a8 m c) l) ∧ Hid (t8.2 = 0 → l = L8))
     case first =>
      go_wp2_with fail
      go_loopw [11] (fun i wr => ∃ (k8 : Nat) (a8 : Option Addr) (cp8 : Nat) (lk8 : List _) (xk8 : List Int) (er8 : Int), k8 ≤ N8 ∧ i = .int .i64 k8 ∧ Hid (gList txtC.rd k8 t5 = (lk8, (xk8, er8))) ∧ Hid (ES wo wr r s w.heap.size wo.heap.size 75 [.int .i64 x0, .int .i64 x1, .int .i64 x2, .string x3, .int .i64 x4, .slice a8 k8 cp8] (xk8, er8)) ∧ Hid (OwnR KT (plainR fun t => [Value.string t]) wr (wo.heap.size + 1) (.slice a8 k8 cp8) lk8)) (fun i _ => N8 - (intOf i).toNat)
      case atStart => exact ⟨0, none, 0, [], t5.1, t5.2, Nat.zero_le _, rfl, Hd rfl, HE, Hd (OwnR.nil (Knd.Own.nil _ _))⟩
      case round =>
       clear HE c0
       obtain ⟨k8, a8, cp8, lk8, xk8, er8, hk8, rfl, HG8, HE, HO8⟩ := hrel
       have c0 := HE.out.ci
       have ce := HE.out.ce
       simp only at ce
       by_cases hlt8 : k8 < N8
       ·have g1 : (k8 : Int) < (N8 : Int) := by omega
        have g2 : decide ((k8 : Int) < (N8 : Int)) = true := decide_eq_true g1
        have g3 : decide (k8 < N8) = true := decide_eq_true hlt8
        by_cases q : er8 = 0
        ·subst q
         obtain ⟨x, s2, hx⟩ : ∃ b s, txtC.rd (xk8, 0) = (b, s) := ⟨_, _, rfl⟩
         have HX := Hd hx
         have HG9 : Hid (gList txtC.rd (k8 + 1) t5 = (lk8 ++ [x], s2)) := Hd (by rw [gList_snoc, HG8.out]; simp only; rw [hx])
         have HId := Hd (HE.out.under (Below.refl _ _).drew)
         have hcd := HId.out.ci
         have hfd := HId.out.bx.cell 5
         simp only [gB] at hfd
         have HOd := Hd (HO8.out.under (Below.refl _ _).drew)
         obtain ⟨rk, o1, o2, o3⟩ := HOd.out
         have hrk : rk.length = k8 := by
          obtain ⟨_, _, e⟩ := o1.slice
          simp only [Value.slice.injEq] at e
          exact e.2.1.symm
         have HRK := Hd hrk
         have HO1 := Hd o1
         have HO23 := Hd (And.intro o2 o3)
         have HLt8 := Hd hlt8
         have m58 := k_wrap HLt8.out HN8.out
         clear hx hrk o1 o2 o3 hlt8 hk8
         go_upto_region 31 with fail
         refine wp_region_held_drew (S := (fun w' => w'.cell? ⟨w.heap.size, 0, none⟩ = some (.pointer (some ⟨r, 0, none⟩)))) (by kernel_rfl) ?_ (fun hHeld => ?_)
         ·(first | exact hc7 | exact hc6 | exact hca | exact hc5 | exact hcd | exact c0)
         refine tkA 0 (v := ?_) ?_ ?_
         rotate_left
         ·(intro w hSw; (try dsimp only at hSw); go_simp; try rfl)
         try simp only [Act.put, gA]
         refine tkA 1 (v := ?_) ?_ ?_
         rotate_left
         ·(intro w hSw; (try dsimp only at hSw); go_simp; try rfl)
         try simp only [Act.put, gA]
         refine tkA 3 (v := ?_) ?_ ?_
         rotate_left
         ·(intro w hSw; (try dsimp only at hSw); go_simp; try rfl)
         try simp only [Act.put, gA]
         refine wpAnyH_ready (rs := [2, 4]) (by kernel_rfl) (by simp) ?_
         refine (AllReadyH.cons rfl (fun K hK => ?_) (AllReadyH.cons rfl (fun K hK => ?_) AllReadyH.nil))
         ·
          go_simp
          refine hK.out _ _ ?_ (fun hHeld => ?_)
          ·(first | exact hc7 | exact hc6 | exact hca | exact hc5 | exact hcd | exact c0)
          clear hK K
          try simp only [Act.put, gA]
          refine wpAnyH_ready (rs := [4]) (by kernel_rfl) (by simp) ?_
          refine (AllReadyH.cons rfl (fun K hK => ?_) AllReadyH.nil)
          go_simp
          (refine (itextE r s (xk8, 0) s2 x _ HId.out.rd hs HX.out).mono ?_; rintro e w5 ⟨he, h1, h2⟩; rw [he.out]; have HI5 := Hd (HId.out.call h1 h2); have HO5 := Hd (HOd.out.fo h2 (by have := HI5.out.hr; omega)); have HOw5 := Hd (HO1.out.keepB (fun j hj => h2.block j (HO1.out.blk j hj).1 (by have := HO1.out.from j hj; have := HI5.out.hr; omega))); have hc5 := HI5.out.ci; have hf5 := HI5.out.bx.cell 5; simp only [gB] at hf5; have HIa := Hd (HI5.out.under ((Below.refl _ _).alloc (Nat.le_refl _) (.cells #[.string x] 9))); have hca := HIa.out.ci; have hfa := HIa.out.bx.cell 5; simp only [gB] at hfa; clear he h1 h2)
          refine hK.out _ _ ?_ (fun hHeld => ?_)
          ·(first | exact hc7 | exact hc6 | exact hca | exact hc5 | exact hcd | exact c0)
          clear hK K
          try simp only [Act.put, gA]
          refine wpAnyH_ready (rs := [5]) (by kernel_rfl) (by simp) ?_
          refine (AllReadyH.cons rfl (fun K hK => ?_) AllReadyH.nil)
          go_simp
          refine hK.out _ _ ?_ (fun hHeld => ?_)
          ·(first | exact hc7 | exact hc6 | exact hca | exact hc5 | exact hcd | exact c0)
          clear hK K
          try simp only [Act.put, gA]
          refine wpAnyH_ready (rs := [6]) (by kernel_rfl) (by simp) ?_
          refine (AllReadyH.cons rfl (fun K hK => ?_) AllReadyH.nil)
          refine KT.step_appR rfl _ _ rfl ((wo.heap.size + 1)) (.slice a8 k8 cp8) rk rfl (HOw5.out.below ((Below.refl _ _).alloc (Nat.le_refl _) _)) _ (mkT x) rfl (KT.box x 1 w5) (by have := HRK.out; have := HLt8.out; have := HN8.out; omega) (by have := HIa.out.sz; omega) ?_
          intro v6 w6 ho6 hb6 hg6
          obtain ⟨a6, c6, rfl⟩ : ∃ a6 c6, v6 = .slice a6 (k8 + 1) c6 := by
           obtain ⟨a6, c6, e6⟩ := ho6.slice
           exact ⟨a6, c6, by rw [e6]; simp [HRK.out]⟩
          have HI6 := Hd (HIa.out.low (hb6.mono (by omega)))
          have HO6 : Hid (OwnR KT (plainR fun t => [Value.string t]) w6 ((wo.heap.size + 1)) (.slice a6 (k8 + 1) c6) (lk8 ++ [x])) := Hd (OwnR.more (w := w6) (v := .slice a8 k8 cp8) ho6 HO23.out.1 (fun j p q => HO23.out.2 j p q) rfl)
          have hc6 := HI6.out.ci
          have hf6 := HI6.out.bx.cell 5
          have hz6 := HI6.out.bx.fz 5
          simp only [gB] at hf6
          have HI7 := Hd (HI6.out.set 5 (.slice a6 (k8 + 1) c6))
          simp only [List.set_cons_zero, List.set_cons_succ] at HI7
          have hc7 := HI7.out.ci
          have HO7 := Hd (HO6.out.setA (b := wo.heap.size) (by omega) 5 (.slice a6 (k8 + 1) c6))
          clear ho6 hb6 hg6
          refine hK.out _ _ ?_ (fun hHeld => ?_)
          ·(first | exact hc7 | exact hc6 | exact hca | exact hc5 | exact hcd | exact c0)
          clear hK K
          try simp only [Act.put, gA]
          refine tkA 7 (v := ?_) ?_ ?_
          rotate_left
          ·(intro w hSw; (try dsimp only at hSw); go_simp; try rfl)
          try simp only [Act.put, gA]
          refine tkA 8 (v := ?_) ?_ ?_
          rotate_left
          ·(intro w hSw; (try dsimp only at hSw); go_simp; try rfl)
          try simp only [Act.put, gA]
          refine wpAnyH_ready (rs := [9]) (by kernel_rfl) (by simp) ?_
          refine (AllReadyH.cons rfl (fun K hK => ?_) AllReadyH.nil)
          go_simp
          refine hK.out _ _ ?_ (fun hHeld => ?_)
          ·(first | exact hc7 | exact hc6 | exact hca | exact hc5 | exact hcd | exact c0)
          clear hK K
          try simp only [Act.put, gA]
          refine wpAnyH_done (by kernel_rfl) ?_ _
          clear hHeld
          go_wp2_with fail
          go_roundw
          case rel => exact ⟨k8 + 1, a6, c6, lk8 ++ [x], s2.1, s2.2, by have := HLt8.out; omega, (by first | rfl | (rw [m58]; rfl)), HG9, HI7, HO7⟩
          case measure => (try rw [m58]); exact k_meas HLt8.out
         ·
          go_simp
          (refine (itextE r s (xk8, 0) s2 x _ HId.out.rd hs HX.out).mono ?_; rintro e w5 ⟨he, h1, h2⟩; rw [he.out]; have HI5 := Hd (HId.out.call h1 h2); have HO5 := Hd (HOd.out.fo h2 (by have := HI5.out.hr; omega)); have HOw5 := Hd (HO1.out.keepB (fun j hj => h2.block j (HO1.out.blk j hj).1 (by have := HO1.out.from j hj; have := HI5.out.hr; omega))); have hc5 := HI5.out.ci; have hf5 := HI5.out.bx.cell 5; simp only [gB] at hf5; have HIa := Hd (HI5.out.under ((Below.refl _ _).alloc (Nat.le_refl _) (.cells #[.string x] 9))); have hca := HIa.out.ci; have hfa := HIa.out.bx.cell 5; simp only [gB] at hfa; clear he h1 h2)
          refine hK.out _ _ ?_ (fun hHeld => ?_)
          ·(first | exact hc7 | exact hc6 | exact hca | exact hc5 | exact hcd | exact c0)
          clear hK K
          try simp only [Act.put, gA]
          refine wpAnyH_ready (rs := [2, 5]) (by kernel_rfl) (by simp) ?_
          refine (AllReadyH.cons rfl (fun K hK => ?_) (AllReadyH.cons rfl (fun K hK => ?_) AllReadyH.nil))
          ·
           go_simp
           refine hK.out _ _ ?_ (fun hHeld => ?_)
           ·(first | exact hc7 | exact hc6 | exact hca | exact hc5 | exact hcd | exact c0)
           clear hK K
           try simp only [Act.put, gA]
           refine wpAnyH_ready (rs := [5]) (by kernel_rfl) (by simp) ?_
           refine (AllReadyH.cons rfl (fun K hK => ?_) AllReadyH.nil)
           go_simp
           refine hK.out _ _ ?_ (fun hHeld => ?_)
           ·(first | exact hc7 | exact hc6 | exact hca | exact hc5 | exact hcd | exact c0)
           clear hK K
           try simp only [Act.put, gA]
           refine wpAnyH_ready (rs := [6]) (by kernel_rfl) (by simp) ?_
           refine (AllReadyH.cons rfl (fun K hK => ?_) AllReadyH.nil)
           refine KT.step_appR rfl _ _ rfl ((wo.heap.size + 1)) (.slice a8 k8 cp8) rk rfl (HOw5.out.below ((Below.refl _ _).alloc (Nat.le_refl _) _)) _ (mkT x) rfl (KT.box x 1 w5) (by have := HRK.out; have := HLt8.out; have := HN8.out; omega) (by have := HIa.out.sz; omega) ?_
           intro v6 w6 ho6 hb6 hg6
           obtain ⟨a6, c6, rfl⟩ : ∃ a6 c6, v6 = .slice a6 (k8 + 1) c6 := by
            obtain ⟨a6, c6, e6⟩ := ho6.slice
            exact ⟨a6, c6, by rw [e6]; simp [HRK.out]⟩
           have HI6 := Hd (HIa.out.low (hb6.mono (by omega)))
           have HO6 : Hid (OwnR KT (plainR fun t => [Value.string t]) w6 ((wo.heap.size + 1)) (.slice a6 (k8 + 1) c6) (lk8 ++ [x])) := Hd (OwnR.more (w := w6) (v := .slice a8 k8 cp8) ho6 HO23.out.1 (fun j p q => HO23.out.2 j p q) rfl)
           have hc6 := HI6.out.ci
           have hf6 := HI6.out.bx.cell 5
           have hz6 := HI6.out.bx.fz 5
           simp only [gB] at hf6
           have HI7 := Hd (HI6.out.set 5 (.slice a6 (k8 + 1) c6))
           simp only [List.set_cons_zero, List.set_cons_succ] at HI7
           have hc7 := HI7.out.ci
           have HO7 := Hd (HO6.out.setA (b := wo.heap.size) (by omega) 5 (.slice a6 (k8 + 1) c6))
           clear ho6 hb6 hg6
           refine hK.out _ _ ?_ (fun hHeld => ?_)
           ·(first | exact hc7 | exact hc6 | exact hca | exact hc5 | exact hcd | exact c0)
           clear hK K
           try simp only [Act.put, gA]
           refine tkA 7 (v := ?_) ?_ ?_
           rotate_left
           ·(intro w hSw; (try dsimp only at hSw); go_simp; try rfl)
           try simp only [Act.put, gA]
           refine tkA 8 (v := ?_) ?_ ?_
           rotate_left
           ·(intro w hSw; (try dsimp only at hSw); go_simp; try rfl)
           try simp only [Act.put, gA]
           refine wpAnyH_ready (rs := [9]) (by kernel_rfl) (by simp) ?_
           refine (AllReadyH.cons rfl (fun K hK => ?_) AllReadyH.nil)
           go_simp
           refine hK.out _ _ ?_ (fun hHeld => ?_)
           ·(first | exact hc7 | exact hc6 | exact hca | exact hc5 | exact hcd | exact c0)
           clear hK K
           try simp only [Act.put, gA]
           refine wpAnyH_done (by kernel_rfl) ?_ _
           clear hHeld
           go_wp2_with fail
           go_roundw
           case rel => exact ⟨k8 + 1, a6, c6, lk8 ++ [x], s2.1, s2.2, by have := HLt8.out; omega, (by first | rfl | (rw [m58]; rfl)), HG9, HI7, HO7⟩
           case measure => (try rw [m58]); exact k_meas HLt8.out
          ·
           go_simp
           refine hK.out _ _ ?_ (fun hHeld => ?_)
           ·(first | exact hc7 | exact hc6 | exact hca | exact hc5 | exact hcd | exact c0)
           clear hK K
           try simp only [Act.put, gA]
           refine wpAnyH_ready (rs := [2]) (by kernel_rfl) (by simp) ?_
           refine (AllReadyH.cons rfl (fun K hK => ?_) AllReadyH.nil)
           go_simp
           refine hK.out _ _ ?_ (fun hHeld => ?_)
           ·(first | exact hc7 | exact hc6 | exact hca | exact hc5 | exact hcd | exact c0)
           clear hK K
           try simp only [Act.put, gA]
           refine wpAnyH_ready (rs := [6]) (by kernel_rfl) (by simp) ?_
           refine (AllReadyH.cons rfl (fun K hK => ?_) AllReadyH.nil)
           refine KT.step_appR rfl _ _ rfl ((wo.heap.size + 1)) (.slice a8 k8 cp8) rk rfl (HOw5.out.below ((Below.refl _ _).alloc (Nat.le_refl _) _)) _ (mkT x) rfl (KT.box x 1 w5) (by have := HRK.out; have := HLt8.out; have := HN8.out; omega) (by have := HIa.out.sz; omega) ?_
           intro v6 w6 ho6 hb6 hg6
           obtain ⟨a6, c6, rfl⟩ : ∃ a6 c6, v6 = .slice a6 (k8 + 1) c6 := by
            obtain ⟨a6, c6, e6⟩ := ho6.slice
            exact ⟨a6, c6, by rw [e6]; simp [HRK.out]⟩
           have HI6 := Hd (HIa.out.low (hb6.mono (by omega)))
           have HO6 : Hid (OwnR KT (plainR fun t => [Value.string t]) w6 ((wo.heap.size + 1)) (.slice a6 (k8 + 1) c6) (lk8 ++ [x])) := Hd (OwnR.more (w := w6) (v := .slice a8 k8 cp8) ho6 HO23.out.1 (fun j p q => HO23.out.2 j p q) rfl)
           have hc6 := HI6.out.ci
           have hf6 := HI6.out.bx.cell 5
           have hz6 := HI6.out.bx.fz 5
           simp only [gB] at hf6
           have HI7 := Hd (HI6.out.set 5 (.slice a6 (k8 + 1) c6))
           simp only [List.set_cons_zero, List.set_cons_succ] at HI7
           have hc7 := HI7.out.ci
           have HO7 := Hd (HO6.out.setA (b := wo.heap.size) (by omega) 5 (.slice a6 (k8 + 1) c6))
           clear ho6 hb6 hg6
           refine hK.out _ _ ?_ (fun hHeld => ?_)
           ·(first | exact hc7 | exact hc6 | exact hca | exact hc5 | exact hcd | exact c0)
           clear hK K
           try simp only [Act.put, gA]
           refine tkA 7 (v := ?_) ?_ ?_
           rotate_left
           ·(intro w hSw; (try dsimp only at hSw); go_simp; try rfl)
           try simp only [Act.put, gA]
           refine tkA 8 (v := ?_) ?_ ?_
           rotate_left
           ·(intro w hSw; (try dsimp only at hSw); go_simp; try rfl)
           try simp only [Act.put, gA]
           refine wpAnyH_ready (rs := [9]) (by kernel_rfl) (by simp) ?_
           refine (AllReadyH.cons rfl (fun K hK => ?_) AllReadyH.nil)
           go_simp
           refine hK.out _ _ ?_ (fun hHeld => ?_)
           ·(first | exact hc7 | exact hc6 | exact hca | exact hc5 | exact hcd | exact c0)
           clear hK K
           try simp only [Act.put, gA]
           refine wpAnyH_done (by kernel_rfl) ?_ _
           clear hHeld
           go_wp2_with fail
           go_roundw
           case rel => exact ⟨k8 + 1, a6, c6, lk8 ++ [x], s2.1, s2.2, by have := HLt8.out; omega, (by first | rfl | (rw [m58]; rfl)), HG9, HI7, HO7⟩
           case measure => (try rw [m58]); exact k_meas HLt8.out
        ·have q1 : (er8 == 0) = false := by simpa using q
         have HST := Hd (gList_stay txtC N8 t5 k8 hk8 (by rw [HG8.out]; exact q))
         have HQ := Hd q
         clear q hk8 hlt8
         go_wp2_with fail
         go_meet
         rw [HLL8.out, HG8.out] at HST
         exact ⟨a8, k8, cp8, lk8, (by have e := HST.out; simp only at e; rw [e]; exact HE), HO8, Hd (fun z => absurd (by have e := HST.out; simp only at e; rw [← z, e]) HQ.out)⟩
       ·have hkN : k8 = N8 := by omega
        subst hkN
        have g1 : ¬ (k8 : Int) < (k8 : Int) := by omega
        have g2 : decide ((k8 : Int) < (k8 : Int)) = false := decide_eq_false g1
        have hfin := HG8.out
        rw [HLL8.out] at hfin
        simp only [Prod.mk.injEq] at hfin
        obtain ⟨e1, e2⟩ := hfin
        have E1 := Hd e1
        have E2 := Hd e2
        clear e1 e2 hk8 hlt8
        go_wp2_with fail
        go_meet
        exact ⟨a8, k8, cp8, lk8, (by rw [E2.out]; exact HE), HO8, Hd (fun _ => E1.out.symm)⟩
     case rest =>
     clear HE c0
     obtain ⟨a9, m9, c9, l9, HE, HR9, HY9⟩ := hcut
     have c0 := HE.out.ci
     have HI8 := Hd (HI.out.call HE.out.rd HE.out.fo)
     have HO8 := Hd (HO.out.fo HE.out.fo (by have := HI.out.hr; omega))
     have HR2o := Hd (HR2.out.fo HE.out.fo (by have := HI.out.hr; omega))
     have HR1o := Hd (HR1.out.fo HE.out.fo (by have := HI.out.hr; omega))
     obtain ⟨rk, o1, o2, o3⟩ := HO8.out
     have hrk : rk.length = k := by
      obtain ⟨_, _, e⟩ := o1.slice
      simp only [Value.slice.injEq] at e
      exact e.2.1.symm
     have HRK := Hd hrk
     have HO23 := Hd (And.intro o2 o3)
     have hf8 := HI8.out.bx.cell 3
     simp only [gB] at hf8
     have HXr := Hd HE.out.bx
     have HXi : Hid ((Tryz.prog.info? 75).map (·.size) = some 6) := Hd (by kernel_rfl)
     obtain ⟨vc, hvc⟩ : ∃ q, q = wc := ⟨_, rfl⟩
     subst hvc
     have HIa := Hd (HI8.out.under ((Below.refl _ _).alloc (Nat.le_refl _) (.cells #[.int .i64 x0, .int .i64 x1, .int .i64 x2, .string x3, .int .i64 x4, .slice a9 m9 c9] 75)))
     have HOw := Hd (o1.below ((Below.refl _ _).alloc (Nat.le_refl _) (.cells #[.int .i64 x0, .int .i64 x1, .int .i64 x2, .string x3, .int .i64 x4, .slice a9 m9 c9] 75)))
     have HOa := Hd (HO8.out.under ((Below.refl _ _).alloc (Nat.le_refl _) (.cells #[.int .i64 x0, .int .i64 x1, .int .i64 x2, .string x3, .int .i64 x4, .slice a9 m9 c9] 75)))
     have HNa := Hd (HR9.out.under ((Below.refl _ _).alloc (Nat.le_refl _) (.cells #[.int .i64 x0, .int .i64 x1, .int .i64 x2, .string x3, .int .i64 x4, .slice a9 m9 c9] 75)))
     have HR2a := Hd (HR2o.out.under ((Below.refl _ _).alloc (Nat.le_refl _) (.cells #[.int .i64 x0, .int .i64 x1, .int .i64 x2, .string x3, .int .i64 x4, .slice a9 m9 c9] 75)))
     have HR1a := Hd (HR1o.out.under ((Below.refl _ _).alloc (Nat.le_refl _) (.cells #[.int .i64 x0, .int .i64 x1, .int .i64 x2, .string x3, .int .i64 x4, .slice a9 m9 c9] 75)))
     have hlk : rk.length + [mkZ (x0, x1, x2, x3, x4, l9) a9 m9 c9].length ≤ 1000000 := by have := HRK.out; have := HLt.out; have := HN3.out; simp; omega
     have HBx := Hd (KZ.box x0 x1 x2 x3 x4 l9 a9 m9 c9 1 vc)
     clear hrk o1 o2 o3
     go_wp2_with (first | (refine wpList_load_row rfl _ _ rfl wo.heap.size rfl 75 #[.int .i64 x0, .int .i64 x1, .int .i64 x2, .string x3, .int .i64 x4, .slice a9 m9 c9] (0, 0) _ HXr.out Tryz.underlying75 rfl HXi.out ?_) | (refine KZ.app rfl _ _ rfl (w.heap.size + 1 + 1 + 1) (.slice a k cp) rk rfl HOw.out _ [mkZ (x0, x1, x2, x3, x4, l9) a9 m9 c9] rfl HBx.out hlk (by have := HIa.out.sz; omega) ?_))
     intro v6 w6 ho6 hb6 hg6 hne6
     obtain ⟨a6, c6, rfl⟩ : ∃ a6 c6, v6 = .slice a6 (k + 1) c6 := by
      obtain ⟨a6, c6, e6⟩ := ho6.slice
      exact ⟨a6, c6, by rw [e6]; simp [HRK.out]⟩
     have HI6 := Hd (HIa.out.low (hb6.mono (by omega)))
     have hkS : ∀ j, (w.heap.size + 1 + 1 + 1) ≤ j → Ty _ j 9 → w6.heap[j]? = _ := fun j _ hj => hg6.block j (by obtain ⟨cs, fr, q⟩ := hj; exact (Array.getElem?_eq_some_iff.1 q).1) (fun e => by obtain ⟨_, cs2, fr2, e2⟩ := HOw.out.blk j e.symm; obtain ⟨cs, fr, q⟩ := hj; rw [e2] at q; simp only [Option.some.injEq, Obj.cells.injEq] at q; exact absurd q.2.1 (by decide))
     obtain ⟨rk2, p1, p2, p3⟩ := HOa.out
     have HN6 := Hd ((HNa.out.base (show (w.heap.size + 1 + 1 + 1) ≤ wo.heap.size + 1 by have := HI.out.sz; omega)).keep (fun j hj hq => hkS j hj (hq.elim id id)))
     have HO6 : Hid (OwnR KZ seR w6 (w.heap.size + 1 + 1 + 1) (.slice a6 (k + 1) c6) (lk ++ [(x0, x1, x2, x3, x4, l9)])) := Hd (OwnR.more (w := w6) (v := .slice a k cp) ho6 HO23.out.1 (fun j p q => seR.keep (HO23.out.2 j p q) (fun i hi hT => (hkS i hi (by obtain ⟨cs, fr, z⟩ := hT; exact ⟨cs, fr, (Below.heap_alloc _ _ _ (Array.getElem?_eq_some_iff.1 z).1).trans z⟩)).trans (Below.heap_alloc _ _ _ (by obtain ⟨cs, fr, z⟩ := hT; exact (Array.getElem?_eq_some_iff.1 z).1)))) ⟨.slice a9 m9 c9, rfl, HN6.out⟩)
     have HR26 := Hd ((HR2a.out.grown (hu := HOw.out) hg6 (by decide) (by decide)).setA (b := w.heap.size + 1 + 1) (by omega) 3 (.slice a6 (k + 1) c6))
     have HR16 := Hd ((HR1a.out.grown (hu := HOw.out) hg6 (by decide) (by decide)).setA (b := w.heap.size + 1 + 1) (by omega) 3 (.slice a6 (k + 1) c6))
     have hf6 := HI6.out.bx.cell 3
     have hz6 := HI6.out.bx.fz 3
     simp only [gB] at hf6
     have HI7 := Hd (HI6.out.set 3 (.slice a6 (k + 1) c6))
     simp only [List.set_cons_zero, List.set_cons_succ] at HI7
     have HO7 := Hd (HO6.out.setA (b := w.heap.size + 1 + 1) (by omega) 3 (.slice a6 (k + 1) c6))
     clear ho6 hb6 hg6 hne6 c0 hf8
     have HG3 := Hd (And.intro HG2.out.1 (fun z => by rw [HG2.out.2 z, HY9.out z] : t8.2 = 0 → (gList seC.rd (k + 1) s5).1 = lk ++ [(x0, x1, x2, x3, x4, l9)]))
     go_wp2_with fail
     go_roundw
     case rel => exact ⟨k + 1, a6, c6, _, t8.1, t8.2, by have := HLt.out; omega, (by first | rfl | (rw [m5]; rfl)), HG3, HI7, HO7, HR26, HR16⟩
     case measure => (try rw [m5]); exact k_meas HLt.out
    ·have q1 : (er == 0) = false := by simpa using q
     have HST := Hd (gList_stay seC N3 s5 k hk (by rw [HG.out.1]; exact q))
     have HQ := Hd q
     clear q hk hlt
     go_wp2_with fail
     go_meet
     rw [HLL3.out, HG.out.1] at HST
     exact ⟨a, k, cp, lk, (by have e := HST.out; simp only at e; rw [e]; exact HI), HO, Hd (fun z => absurd (by have e := HST.out; simp only at e; rw [← z, e]) HQ.out), HR2, HR1⟩
   ·have hkN : k = N3 := by omega
    subst hkN
    have g1 : ¬ (k : Int) < (k : Int) := by omega
    have g2 : decide ((k : Int) < (k : Int)) = false := decide_eq_false g1
    have hfin := HG.out
    rw [HLL3.out] at hfin
    simp only at hfin
    obtain ⟨e2, e1⟩ := hfin
    have E1 := Hd e1
    have E2 := Hd e2
    clear e1 e2 hk hlt
    go_wp2_with fail
    go_meet
    exact ⟨a, k, cp, lk, (by rw [E2.out]; exact HI), HO, Hd (fun z => (E1.out (by rw [E2.out] at z; exact z)).symm), HR2, HR1⟩
 case rest =>
 clear HI c0 HR1 HR2
 obtain ⟨a3, m3, c3, l3, HI, HR3, HY3, HR2, HR1⟩ := hcut
 have c0 := HI.out.ci
 have HX := Hd HI.out.bx
 have HZ := Hd HI.out.bz
 have HXi : Hid ((Tryz.prog.info? 28).map (·.size) = some 4) := Hd (by kernel_rfl)
 have HL := Hd (isr_out HI.out)
 have HLv := Hd (run_loadVar_row _ _ _ _ #[.int .i64 n0, .slice a1 m1 c1, .slice a2 m2 c2, .slice a3 m3 c3] (0, 0) _ (heap_setRow_same _ _ #[.int .i64 0, .slice none 0 0, .slice none 0 0, .slice none 0 0] #[.int .i64 n0, .slice a1 m1 c1, .slice a2 m2 c2, .slice a3 m3 c3] _ HZ.out) Tryz.underlying28 rfl HXi.out)
 go_wp2_with (first | (refine wpList_load_row rfl _ _ rfl (w.heap.size + 1 + 1) rfl 28 #[.int .i64 n0, .slice a1 m1 c1, .slice a2 m2 c2, .slice a3 m3 c3] (0, 0) _ HX.out Tryz.underlying28 rfl HXi.out ?_) | (refine wpList_store_row rfl 28 _ _ rfl (w.heap.size + 1) rfl #[.int .i64 n0, .slice a1 m1 c1, .slice a2 m2 c2, .slice a3 m3 c3] rfl #[.int .i64 0, .slice none 0 0, .slice none 0 0, .slice none 0 0] 28 HZ.out HXi.out rfl (by rw [← Array.all_toList]; rfl) ?_))
 have hlv := HLv.out
 exact bodyPost_ret (v := .agg #[.int .i64 n0, .slice a1 m1 c1, .slice a2 m2 c2, .slice a3 m3 c3]) (by simp [results, Tryz.results48, asAddr, Act.put, hlv]) rfl (⟨((n0, l1), l2, l3), a1, m1, c1, a2, m2, c2, a3, m3, c3, rfl, (HR1.out.keep (fun k hk _ => HL.out.2.2.1 k (by omega))).base (by omega), (HR2.out.keep (fun k hk _ => HL.out.2.2.1 k (by omega))).base (by omega), (HR3.out.keep (fun k hk _ => HL.out.2.2.1 k (by omega))).base (by omega), (fun z => by
    have z5 : s5.2 = 0 := Classical.byContradiction fun q => q (by rw [← HB3.out q]; exact z)
    have z4 : s4.2 = 0 := Classical.byContradiction fun q => q (by rw [← HB4.out q]; exact z5)
    have z3 : s3.2 = 0 := Classical.byContradiction fun q => q (by rw [← HB2.out q]; exact z4)
    have z2 : s2.2 = 0 := Classical.byContradiction fun q => q (by rw [← HB1.out q]; exact z3)
    rw [HY1.out z2, HY2.out z4, HY3.out z]), HL.out.1, HL.out.2.1⟩)
end Go.Proofs.YtnancdbkmompdaaGreat
