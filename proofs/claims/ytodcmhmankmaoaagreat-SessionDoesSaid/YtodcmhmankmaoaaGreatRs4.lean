/-
 The machine of a directory's entries, and of sessions.
-/
import Derived.Test.YtodcmhmankmaoaaGreatSesD
import Derived.Test.YtodcmhmankmaoaaGreatRs3
import Derived.Test.YtodcmhmankmaoaaGreatRdO
import Derived.IntWalk
import Derived.Deep.QuietTactic
import Derived.BigQuiet
namespace Go.Proofs.YtodcmhmankmaoaaGreat
open Go.RowKit Go.Sort
set_option linter.unusedSimpArgs false
set_option linter.unusedVariables false

/-- The session that lies there; its list can be read. -/
structure ROf (w : World) (x : SG) (e : S3) : Prop where
 cl : x.cl = e.1
 sq : x.sq = e.2.1
 er : x.er = e.2.2.err
 vl : x.vl = e.2.2.val
 vr : x.vr = e.2.2.ver
 row : SK.Rd w (.slice x.a x.n x.c) e.2.2.names
theorem ROf.on {w w' : World} {x : SG} {e : S3} (h : ROf w x e) (hb : Below w.heap.size w w') : ROf w' x e := ⟨h.cl, h.sq, h.er, h.vl, h.vr, h.row.below hb⟩
structure MatchR (w : World) (xs : List SG) (s : List S3) : Prop where
 len : xs.length = s.length
 at' : ∀ j, j < s.length → ROf w (xs.getD j sgZ) (s.getD j zS)
theorem MatchR.on {w w' : World} {xs : List SG} {s : List S3} (h : MatchR w xs s) (hb : Below w.heap.size w w') : MatchR w' xs s := ⟨h.len, fun j hj => (h.at' j hj).on hb⟩
theorem MatchR.out {w w' : World} {xs : List SG} {s : List S3} {bk : Nat} (h : MatchR w xs s) (hg : w.grownBy w' (some bk)) (hne : ∀ g o x, w.cell? ⟨g, o, none⟩ = some x → g ≠ bk) : MatchR w' xs s :=
 ⟨h.len, fun j hj => have q := h.at' j hj; ⟨q.cl, q.sq, q.er, q.vl, q.vr, q.row.out hg hne⟩⟩
theorem MatchG.r {X w : World} {xs : List SG} {s : List S3} (h : MatchG X w xs s) (hb : Below X.heap.size X w) : MatchR w xs s :=
 ⟨h.len, fun j hj => have q := h.at' j hj; ⟨q.cl, q.sq, q.er, q.vl, q.vr, q.row.rd hb⟩⟩
theorem okS_right' {s : List S3} {k : Nat} (hk : k < s.length) (h : ∀ i, i < k + 1 → okS s i) : RisesS (s.take (k + 1)) := by
 refine (okS_right (s := s.take (k + 1)) fun j hj => ?_).1
 rw [List.length_take] at hj
 have q := h j (by omega)
 have e : ∀ i, i < k + 1 → (s.take (k + 1)).getD i zS = s.getD i zS := fun i hi => by simp [List.getD, List.getElem?_take, hi]
 unfold okS at q ⊢
 rw [e j (by omega), e (j - 1) (by omega)]
 exact q
theorem MPre.putQ {X W w5 w6 : World} {g d bk sb K k n5 : Nat} {l : List E3} {s : List S3} {x : SG} {D5 : DataW Unit} {sl : Option (Nat × Nat)} {nn : Nat} (h : MPre X g d bk sb K l (s.take k) W) (hb : Below W.heap.size W w5) (hn : n5 ≤ (s.take k).length) (hown : w6.ownsMap (H := Unit) Tryz.prog 3 sesElem sb (n5 + 1) (D5.put (kI x.cl) (svD ⟨x.cl, x.sq, x.er, x.vl, x.vr, sl, nn⟩))) (hg : w5.grownBy w6 (some sb)) (hI : SesIs w5 D5 (s.take k))
  (hk : k < s.length) (hr : RisesS s) (hx : ROf W x (s.getD k zS)) {base : Nat} (hrow : SK.Own w5 base (slV sl nn) (s.getD k zS).2.2.names) (hsl : sl = none → nn = 0) : MPre X g d bk sb K l (s.take (k + 1)) w6 := by
 have h5 := h.on hb
 obtain ⟨mm, hm⟩ := h5.lw.ml
 have hdb : d ≠ sb := h5.cellNe _ _ _ h5.lw.dir.cell
 obtain ⟨⟨c, q, r⟩, hE⟩ : ∃ E, s.getD k zS = E := ⟨_, rfl⟩
 rw [hE] at hx hrow
 have e1 := hx.cl
 simp only at e1
 have hI6 := hI.put (rise_take hr k) (c := c) (q := q) (r := r) (x := ⟨x.cl, x.sq, x.er, x.vl, x.vr, sl, nn⟩) ⟨hsl, hx.cl, hx.sq, hx.er, hx.vl, hx.vr, hrow.base (Nat.zero_le _)⟩
 rw [putS_take hr hk hE] at hI6
 rw [e1] at hown
 have hl : (s.take (k + 1)).length = (s.take k).length + 1 := by rw [List.length_take, List.length_take]; omega
 exact ⟨hg.cell h5.c0 (by simpa using h5.cellNe _ _ _ h5.c0), hg.cell h5.c1 (by simpa using h5.cellNe _ _ _ h5.c1), ⟨h5.lw.dir.out hg hdb h5.ne.symm, ⟨mm, hg.cell hm (by simpa using h5.cellNe _ _ _ hm)⟩, h5.lw.below.grown hg h5.lw.below.size (fun j hj => by cases hj; exact h5.lo.2), h5.lw.lo, h5.lw.right, h5.lw.ver⟩, ⟨_, n5 + 1, by omega, hown, by rw [e1] at hI6; exact hI6.out hg h5.blkNe⟩, h5.lo, h5.ne⟩
theorem MPre.putR {X W w5 w6 : World} {g d bk sb K k n5 : Nat} {l : List E3} {s : List S3} {x : SG} {D5 : DataW Unit} {sl : Option (Nat × Nat)} {nn : Nat} (h : MPre X g d bk sb K l (s.take k) W) (hb : Below W.heap.size W w5) (hn : n5 ≤ (s.take k).length)  (hown : w6.ownsMap (H := Unit) Tryz.prog 3 sesElem sb (n5 + 1) (D5.put (kI x.cl) (svD ⟨x.cl, x.sq, x.er, x.vl, x.vr, sl, nn⟩))) (hg : w5.grownBy w6 (some sb)) (hI : SesIs w5 D5 (s.take k))     (hk : k < s.length) (hr : RisesS (s.take (k + 1))) (hx : ROf W x (s.getD k zS)) {base : Nat} (hrow : SK.Own w5 base (slV sl nn) (s.getD k zS).2.2.names) (hsl : sl = none → nn = 0) : MPre X g d bk sb K l (s.take (k + 1)) w6 := by
 have e1 : (s.take (k + 1)).take k = s.take k := by rw [List.take_take, Nat.min_eq_left (Nat.le_succ k)]
 have e2 : (s.take (k + 1)).take (k + 1) = s.take (k + 1) := by rw [List.take_take, Nat.min_self]
 have e3 : (s.take (k + 1)).getD k zS = s.getD k zS := by simp [List.getD, List.getElem?_take]
 have := MPre.putQ (s := s.take (k + 1)) (k := k) (by rw [e1]; exact h) hb (by rw [e1]; exact hn) hown hg (by rw [e1]; exact hI) (by rw [List.length_take]; omega) hr (by rw [e3]; exact hx) (by rw [e3]; exact hrow) hsl
 rwa [e2] at this
/-- What Of comes to. -/
def MOfG (l : List E3) (s : List S3) (X : World) (w : World) (e : Ending) (w' : World) : Prop := ((∀ j, j < s.length → okS s j) ∧ MOfP ⟨l, s⟩ X w e w') ∨ ((¬ ∀ j, j < s.length → okS s j) ∧ e = .returned (.tuple #[.pointer none, .int .i64 1]) ∧ Below w.heap.size w w')
theorem mof_badD (ae : Option Addr) (ne ce : Nat) (l : List E3) (v : Value) (w : World) (hE : EK.Rd w (.slice ae ne ce) l) (hl : l.length ≤ 1000) (hz : ∀ x ∈ l, x.1.size ≤ 1000) (h : ¬ RightD l) (hm : ML w) :
  Calls Tryz.prog 18 #[.slice ae ne ce, v] w fun e w' => e = .returned (.tuple #[.pointer none, .int .i64 1]) ∧ Below w.heap.size w w' := by
 have HO := Lib.hid (ofd_bad ae ne ce l w hE hl hz h hm)
 clear hE hl hz h hm
 go_enter Tryz.func18, Tryz.ntmps18
 go_wp2_with fail
 refine HO.out.mono ?_
 rintro e w1 ⟨rfl, hb⟩
 have HB := Lib.hid hb
 clear hb
 go_wp2
 go_ret2
 exact ⟨rfl, HB.out⟩
set_option maxRecDepth 100000 in
set_option maxHeartbeats 4000000 in
theorem mofg_any {X w0 : World} (ae : Option Addr) (ne ce : Nat) (l : List E3) (as' : Option Addr) (n c : Nat) (xs : List SG) (s : List S3) (hX : Below X.heap.size X w0) (hE : EK.Rd w0 (.slice ae ne ce) l) (hS : SF.Rd w0 (.slice as' n c) xs) (hMt : MatchR w0 xs s) (hl : l.length ≤ 1000) (hsl : s.length ≤ 1000) (hv : verB (1099511627776 + 1000) l) (hR : RightD l) (hSm : SmM ⟨l, s⟩) (hm : ML w0) :
  Calls Tryz.prog 18 #[.slice ae ne ce, .slice as' n c] w0 (MOfG l s X w0) := by
 have hns : n = s.length := by
  obtain ⟨a', c', e', _⟩ := hS
  simp only [Value.slice.injEq] at e'
  rw [e'.2.1]
  exact hMt.len
 have HNS := Lib.hid hns
 have hn1 : n ≤ 1000 := by omega
 have HR := Lib.hid hR
 have HSm := Lib.hid hSm
 have HVER := Lib.hid hv
 have HX := Lib.hid hX
 have HML := Lib.hid hm
 have HLL := Lib.hid hl
 have HS0 := Lib.hid hS
 have HMt0 := Lib.hid hMt
 have HO := Lib.hid (ofd_any ae ne ce l w0 hE hl hR hm)
 clear hX hE hS hMt hl hsl hv hR hSm hm hns
 have hmm := @run_makeMap Tryz.prog
 go_enter Tryz.func18, Tryz.ntmps18
 go_wp2_with fail
 refine HO.out.mono ?_
 rintro e w1 ⟨he, hd, hb⟩
 have he := he.out
 subst he
 obtain ⟨d, hdd⟩ : ∃ d, w0.heap.size + 1 = d := ⟨_, rfl⟩
 obtain ⟨bk, hbk⟩ : ∃ b, w0.heap.size = b := ⟨_, rfl⟩
 have hlo : w0.heap.size ≤ d ∧ w0.heap.size ≤ bk := by omega
 rw [hdd] at hd ⊢
 rw [hbk] at hd
 have HLO := Lib.hid hlo
 have HD1 := Lib.hid hd
 have HB1 := Lib.hid hb
 clear hd hb hlo hdd hbk HO
 go_wp2_with fail
 obtain ⟨W1, hW1⟩ : ∃ W, (w1.alloc (.map #[] 0)).alloc (.cells #[dP d, .map (some w1.heap.size)] 87) = W := ⟨_, rfl⟩
 obtain ⟨sb, hsb⟩ : ∃ b, w1.heap.size = b := ⟨_, rfl⟩
 have hbW : Below w1.heap.size w1 W1 := by rw [← hW1]; exact ((Below.refl _ _).alloc (Nat.le_refl _) _).alloc (by simp) _
 have HB0 : Hid (Below w0.heap.size w0 W1) := Lib.hid (HB1.out.trans (hbW.mono HB1.out.size))
 have HMP0 : Hid (MPre X (sb + 1) d bk sb 1000 l (s.take 0) W1) := Lib.hid (by
  have hz := HB1.out.size
  have hx := HX.out.size
  have hlt := HD1.out.lt
  have hlo := HLO.out
  refine ⟨?_, ?_, ⟨(HD1.out.mono HLL.out).below hbW, HML.out.below HB0.out, HX.out.trans (HB0.out.mono hx), ⟨by omega, by omega⟩, HR.out, HVER.out⟩, ⟨.map [], 0, Nat.zero_le _, ?_, ?_⟩, ⟨by omega, by omega⟩, by omega⟩
  ·rw [← hW1, ← hsb]; simp [go_sem]
  ·rw [← hW1, ← hsb]; simp [go_sem]
  ·rw [← hW1, ← hsb]; exact (World.ownsMap_made (H := Unit) w1 Tryz.prog 3 sesElem).alloc _
  ·rw [List.take_zero]; exact SesIs.empty _)
 have HSB : Hid (w0.heap.size ≤ sb) := Lib.hid (by rw [← hsb]; exact HB1.out.size)
 have HMt1 := Lib.hid (HMt0.out.on HB0.out)
 have HS1 := Lib.hid (HS0.out.below HB0.out)
 obtain ⟨g, hg⟩ : ∃ g, sb + 1 = g := ⟨_, rfl⟩
 rw [hg] at HMP0
 have HGS : Hid (w0.heap.size ≤ g) := Lib.hid (by have := HSB.out; omega)
 try rw [hW1]
 try rw [hsb]
 try rw [hg]
 clear hW1 hsb hbW HB1 HD1 hg hmm
 go_loopw [24] (fun i wr => ∃ k : Nat, k ≤ n ∧ i = .int .i64 k ∧ Hid (MPre X g d bk sb 1000 l (s.take k) wr) ∧ Hid (MatchR wr xs s) ∧ Hid (SF.Rd wr (.slice as' n c) xs) ∧ Hid (Below w0.heap.size w0 wr) ∧ Hid (∀ i, i < k → okS s i)) (fun i _ => n - (intOf i).toNat)
 case atStart => exact ⟨0, Nat.zero_le _, rfl, HMP0, HMt1, HS1, HB0, Lib.hid (fun i hi => absurd hi (Nat.not_lt_zero _))⟩
 case round =>
  clear HMP0 HMt1 HS1 HB0
  obtain ⟨k, hk, rfl, hMP, hMt, hRr, hB, HG⟩ := hrel
  by_cases hlt : k < n
  ·have hlt' : (k : Int) < (n : Int) := by omega
   have hkl : k < s.length := by rw [← HNS.out]; exact hlt
   obtain ⟨en, gq, off, ha, hgq, hkx, t0, t1, t2, t3, t4, t5⟩ := sgCell hRr.out k hlt
   have hSV := hMt.out.at' k hkl
   have hmem : s.getD k zS ∈ s := by rw [List.getD, List.getElem?_eq_getElem hkl]; exact List.getElem_mem hkl
   have hnl := HSm.out _ hmem
   obtain ⟨x, hx⟩ : ∃ x, xs.getD k sgZ = x := ⟨_, rfl⟩
   rw [hx] at t0 t1 t2 t3 t4 t5 hSV
   obtain ⟨vl, hval⟩ : ∃ b, valS x.cl x.sq = b := ⟨_, rfl⟩
   obtain ⟨ns, hns⟩ : ∃ ns, (s.getD k zS).2.2.names = ns := ⟨_, rfl⟩
   have hrow0 := hSV.row
   rw [hns] at hrow0 hnl
   obtain ⟨a5, c5, hv5⟩ := hrow0.slice
   obtain ⟨N5, hN5⟩ : ∃ N, ns.length = N := ⟨_, rfl⟩
   rw [hN5] at hv5
   rw [hv5] at t5 hrow0
   clear hN5 hv5
   have HNSN := Lib.hid hns
   have HKL := Lib.hid hkl
   have HXX := Lib.hid hx
   subst ha
   have HRT : Hid (∀ W, Calls Tryz.prog 46 #[.int .i64 x.cl, .int .i64 x.sq] W fun e w' => e = .returned (.bool vl) ∧ W = w') := Lib.hid (fun W => by have := right9_any x.cl x.sq W; rw [hval] at this; exact this)
   have HVl := Lib.hid hval
   have HCq : Hid ((s.getD k zS).1 = x.cl ∧ (s.getD k zS).2.1 = x.sq) := Lib.hid ⟨hSV.cl.symm, hSV.sq.symm⟩
   obtain ⟨W, hW⟩ : ∃ W, wr.alloc (.cells #[.int .i64 x.cl, .int .i64 x.sq, .int .i64 x.er, .string x.vl, .int .i64 x.vr, .slice a5 N5 c5] 51) = W := ⟨_, rfl⟩
   have hbW : Below wr.heap.size wr W := by rw [← hW]; exact (Below.refl _ _).alloc (Nat.le_refl _) _
   have HCX : Hid (∀ j, W.cell? ⟨wr.heap.size, j, none⟩ = #[Value.int .i64 x.cl, .int .i64 x.sq, .int .i64 x.er, .string x.vl, .int .i64 x.vr, Value.slice a5 N5 c5][j]?) := Lib.hid (fun j => by rw [← hW]; exact new_cell wr _ _ j)
   have HMPw := Lib.hid (hMP.out.on hbW)
   have HMtw := Lib.hid (hMt.out.on hbW)
   have HRw := Lib.hid (hRr.out.below hbW)
   have HBw := Lib.hid (hB.out.trans (hbW.mono hB.out.size))
   have HSXw := Lib.hid (hSV.on hbW)
   have HROW0 := Lib.hid (hrow0.below hbW)
   have HNL := Lib.hid hnl
   have HPV : Hid (∀ j, j + 1 = k → W.cell? ⟨gq, off + j * 6, none⟩ = some (.int .i64 (s.getD j zS).1)) := Lib.hid (fun j hj => by
    obtain ⟨_, gq2, off2, ha2, hgq2, _, u0, _⟩ := sgCell hRr.out j (by omega)
    simp only [Option.some.injEq, Addr.mk.injEq, and_true] at ha2
    obtain ⟨rfl, rfl⟩ := ha2
    rw [(hMt.out.at' j (by omega)).cl] at u0
    exact (hbW.cell (p := ⟨gq, off + j * 6, none⟩) hgq).trans u0)
   obtain ⟨g6, hg6'⟩ : ∃ g, wr.heap.size = g := ⟨_, rfl⟩
   rw [hg6'] at HCX
   clear hbW hMP hMt hRr hB hSV hrow0 hnl hns hval hmem hx en hkx hgq
   go_wp2_with fail
   try rw [hW]
   try rw [hg6']
   clear hW hg6' t0 t1 t2 t3 t4 t5
   have v0' := HCX.out 0
   have v1' := HCX.out 1
   simp only [List.getElem?_toArray, List.getElem?_cons_zero, List.getElem?_cons_succ] at v0' v1'
   by_cases k0 : k = 0
   ·subst k0
    cases vl with
    | false =>
     have HNo : Hid (¬ okS s 0) := Lib.hid fun h => by
      have := h.1
      rw [HCq.out.1, HCq.out.2, HVl.out] at this
      cases this
     have HK8 : Hid (∀ w', Below W.heap.size W w' → w'.cell? ⟨g6, 0, none⟩ = some (.int .i64 x.cl) ∧ w'.cell? ⟨g6, 1, none⟩ = some (.int .i64 x.sq) ∧ Below W.heap.size W w') := Lib.hid (fun w' hb => ⟨(hb.cell (p := ⟨g6, 0, none⟩) (World.block_lt_of_cell? W _ v0')).trans v0', (hb.cell (p := ⟨g6, 1, none⟩) (World.block_lt_of_cell? W _ v1')).trans v1', hb⟩)
     clear v0' v1'
     refine wp_region_held_drew (S := (fun w' => w'.cell? ⟨g6, 0, none⟩ = some (.int .i64 x.cl) ∧ w'.cell? ⟨g6, 1, none⟩ = some (.int .i64 x.sq) ∧ Below W.heap.size W w')) (by kernel_rfl) ?_ (fun hHeld => ?_)
     ·((first
      | exact HK8.out _ (Below.refl _ _).drew
      | exact HK8.out _ (Below.refl _ _)
      | fail))
     (refine tkA 0 (v := ?_) ?_ ?_; rotate_left; focus (intro w hSw; (try dsimp only at hSw); go_simp; try rfl)); try simp only [Act.put, gA1, gA2, gA3, gA4, gA5, gA6]
     (refine tkA 1 (v := ?_) ?_ ?_; rotate_left; focus (intro w hSw; (try dsimp only at hSw); go_simp; try rfl)); try simp only [Act.put, gA1, gA2, gA3, gA4, gA5, gA6]
     (refine tkA 2 (v := ?_) ?_ ?_; rotate_left; focus (intro w hSw; (try dsimp only at hSw); go_simp; try rfl)); try simp only [Act.put, gA1, gA2, gA3, gA4, gA5, gA6]
     refine utA 3 ?_; try simp only [Act.put, gA1, gA2, gA3, gA4, gA5, gA6]
     refine utA 4 ?_; try simp only [Act.put, gA1, gA2, gA3, gA4, gA5, gA6]
     refine utA 5 ?_; try simp only [Act.put, gA1, gA2, gA3, gA4, gA5, gA6]
     refine utA 6 ?_; try simp only [Act.put, gA1, gA2, gA3, gA4, gA5, gA6]
     refine utA 7 ?_; try simp only [Act.put, gA1, gA2, gA3, gA4, gA5, gA6]
     refine utA 8 ?_; try simp only [Act.put, gA1, gA2, gA3, gA4, gA5, gA6]
     refine utA 9 ?_; try simp only [Act.put, gA1, gA2, gA3, gA4, gA5, gA6]
     refine utA 10 ?_; try simp only [Act.put, gA1, gA2, gA3, gA4, gA5, gA6]
     refine utA 11 ?_; try simp only [Act.put, gA1, gA2, gA3, gA4, gA5, gA6]
     (refine tkA 12 (v := ?_) ?_ ?_; rotate_left; focus (intro w hSw; (try dsimp only at hSw); go_simp; try rfl)); try simp only [Act.put, gA1, gA2, gA3, gA4, gA5, gA6]
     (refine tkA 13 (v := ?_) ?_ ?_; rotate_left; focus (intro w hSw; (try dsimp only at hSw); go_simp; try rfl)); try simp only [Act.put, gA1, gA2, gA3, gA4, gA5, gA6]
     (refine tkA 14 (v := ?_) ?_ ?_; rotate_left; focus (intro w hSw; (try dsimp only at hSw); go_simp; try rfl)); try simp only [Act.put, gA1, gA2, gA3, gA4, gA5, gA6]
     (refine tkA 15 (v := ?_) ?_ ?_; rotate_left; focus (intro w hSw; (try dsimp only at hSw); go_simp; try rfl)); try simp only [Act.put, gA1, gA2, gA3, gA4, gA5, gA6]
     (refine tkA 16 (v := ?_) ?_ ?_; rotate_left; focus (intro w hSw; (try dsimp only at hSw); go_simp; try rfl)); try simp only [Act.put, gA1, gA2, gA3, gA4, gA5, gA6]
     (refine tkA 17 (v := ?_) ?_ ?_; rotate_left; focus (intro w hSw; (try dsimp only at hSw); go_simp; try rfl)); try simp only [Act.put, gA1, gA2, gA3, gA4, gA5, gA6]
     refine wpAnyH_ready (rs := [18]) (by kernel_rfl) (by simp) ?_
     refine (AllReadyH.cons rfl (fun K hK => ?_) AllReadyH.nil)
     go_simp
     (go_at_call 46; refine (HRT.out _).mono ?_; rintro e w8 ⟨rfl, rfl⟩)
     refine hK.out _ _ ?_ (fun hHeld => ?_)
     ·((first
      | exact HK8.out _ (Below.refl _ _).drew
      | exact HK8.out _ (Below.refl _ _)
      | fail))
     clear hK K
     try simp only [Act.put, gA1, gA2, gA3, gA4, gA5, gA6]
     (refine tkA 19 (v := ?_) ?_ ?_; rotate_left; focus (intro w hSw; (try dsimp only at hSw); go_simp; try rfl)); try simp only [Act.put, gA1, gA2, gA3, gA4, gA5, gA6]
     (refine tkA 20 (v := ?_) ?_ ?_; rotate_left; focus (intro w hSw; (try dsimp only at hSw); go_simp; try rfl)); try simp only [Act.put, gA1, gA2, gA3, gA4, gA5, gA6]
     refine wpAnyH_done (by kernel_rfl) ?_ _
     go_split_ands
     clear HK8
     obtain ⟨W', hW'⟩ : ∃ W', W.drew = W' := ⟨_, rfl⟩
     have hbd : Below W.heap.size W W' := by rw [← hW']; exact (Below.refl _ _).drew
     have HBW := Lib.hid (HBw.out.trans (hbd.mono HBw.out.size))
     rw [hW']
     clear hW' hbd
     clear HMPw HMtw HRw HBw HSXw HROW0 HCX HPV
     go_wp2
     go_ret2
     exact .inr ⟨fun q => HNo.out (q _ HKL.out), rfl, HBW.out⟩
    | true =>
     have HOk : Hid (okS s 0) := Lib.hid ⟨by rw [HCq.out.1, HCq.out.2]; exact HVl.out, .inl rfl⟩
     have HK8 : Hid (∀ w', Below W.heap.size W w' → w'.cell? ⟨g6, 0, none⟩ = some (.int .i64 x.cl) ∧ w'.cell? ⟨g6, 1, none⟩ = some (.int .i64 x.sq) ∧ Below W.heap.size W w') := Lib.hid (fun w' hb => ⟨(hb.cell (p := ⟨g6, 0, none⟩) (World.block_lt_of_cell? W _ v0')).trans v0', (hb.cell (p := ⟨g6, 1, none⟩) (World.block_lt_of_cell? W _ v1')).trans v1', hb⟩)
     clear v0' v1'
     refine wp_region_held_drew (S := (fun w' => w'.cell? ⟨g6, 0, none⟩ = some (.int .i64 x.cl) ∧ w'.cell? ⟨g6, 1, none⟩ = some (.int .i64 x.sq) ∧ Below W.heap.size W w')) (by kernel_rfl) ?_ (fun hHeld => ?_)
     ·((first
      | exact HK8.out _ (Below.refl _ _).drew
      | exact HK8.out _ (Below.refl _ _)
      | fail))
     (refine tkA 0 (v := ?_) ?_ ?_; rotate_left; focus (intro w hSw; (try dsimp only at hSw); go_simp; try rfl)); try simp only [Act.put, gA1, gA2, gA3, gA4, gA5, gA6]
     (refine tkA 1 (v := ?_) ?_ ?_; rotate_left; focus (intro w hSw; (try dsimp only at hSw); go_simp; try rfl)); try simp only [Act.put, gA1, gA2, gA3, gA4, gA5, gA6]
     (refine tkA 2 (v := ?_) ?_ ?_; rotate_left; focus (intro w hSw; (try dsimp only at hSw); go_simp; try rfl)); try simp only [Act.put, gA1, gA2, gA3, gA4, gA5, gA6]
     refine utA 3 ?_; try simp only [Act.put, gA1, gA2, gA3, gA4, gA5, gA6]
     refine utA 4 ?_; try simp only [Act.put, gA1, gA2, gA3, gA4, gA5, gA6]
     refine utA 5 ?_; try simp only [Act.put, gA1, gA2, gA3, gA4, gA5, gA6]
     refine utA 6 ?_; try simp only [Act.put, gA1, gA2, gA3, gA4, gA5, gA6]
     refine utA 7 ?_; try simp only [Act.put, gA1, gA2, gA3, gA4, gA5, gA6]
     refine utA 8 ?_; try simp only [Act.put, gA1, gA2, gA3, gA4, gA5, gA6]
     refine utA 9 ?_; try simp only [Act.put, gA1, gA2, gA3, gA4, gA5, gA6]
     refine utA 10 ?_; try simp only [Act.put, gA1, gA2, gA3, gA4, gA5, gA6]
     refine utA 11 ?_; try simp only [Act.put, gA1, gA2, gA3, gA4, gA5, gA6]
     (refine tkA 12 (v := ?_) ?_ ?_; rotate_left; focus (intro w hSw; (try dsimp only at hSw); go_simp; try rfl)); try simp only [Act.put, gA1, gA2, gA3, gA4, gA5, gA6]
     (refine tkA 13 (v := ?_) ?_ ?_; rotate_left; focus (intro w hSw; (try dsimp only at hSw); go_simp; try rfl)); try simp only [Act.put, gA1, gA2, gA3, gA4, gA5, gA6]
     (refine tkA 14 (v := ?_) ?_ ?_; rotate_left; focus (intro w hSw; (try dsimp only at hSw); go_simp; try rfl)); try simp only [Act.put, gA1, gA2, gA3, gA4, gA5, gA6]
     (refine tkA 15 (v := ?_) ?_ ?_; rotate_left; focus (intro w hSw; (try dsimp only at hSw); go_simp; try rfl)); try simp only [Act.put, gA1, gA2, gA3, gA4, gA5, gA6]
     (refine tkA 16 (v := ?_) ?_ ?_; rotate_left; focus (intro w hSw; (try dsimp only at hSw); go_simp; try rfl)); try simp only [Act.put, gA1, gA2, gA3, gA4, gA5, gA6]
     (refine tkA 17 (v := ?_) ?_ ?_; rotate_left; focus (intro w hSw; (try dsimp only at hSw); go_simp; try rfl)); try simp only [Act.put, gA1, gA2, gA3, gA4, gA5, gA6]
     refine wpAnyH_ready (rs := [18]) (by kernel_rfl) (by simp) ?_
     refine (AllReadyH.cons rfl (fun K hK => ?_) AllReadyH.nil)
     go_simp
     (go_at_call 46; refine (HRT.out _).mono ?_; rintro e w8 ⟨rfl, rfl⟩)
     refine hK.out _ _ ?_ (fun hHeld => ?_)
     ·((first
      | exact HK8.out _ (Below.refl _ _).drew
      | exact HK8.out _ (Below.refl _ _)
      | fail))
     clear hK K
     try simp only [Act.put, gA1, gA2, gA3, gA4, gA5, gA6]
     (refine tkA 19 (v := ?_) ?_ ?_; rotate_left; focus (intro w hSw; (try dsimp only at hSw); go_simp; try rfl)); try simp only [Act.put, gA1, gA2, gA3, gA4, gA5, gA6]
     (refine tkA 20 (v := ?_) ?_ ?_; rotate_left; focus (intro w hSw; (try dsimp only at hSw); go_simp; try rfl)); try simp only [Act.put, gA1, gA2, gA3, gA4, gA5, gA6]
     refine wpAnyH_done (by kernel_rfl) ?_ _
     go_split_ands
     clear HK8
     have HGo : Hid (∀ i, i < 0 + 1 → okS s i) := Lib.hid (fun i hi => by
      by_cases ei : i = 0
      ·rw [ei]; exact HOk.out
      ·exact HG.out i (by omega))
     have HKEY : Hid (keyOf Tryz.prog 3 (.int .i64 x.cl) = some (kI x.cl)) := Lib.hid (by have hvb := valS_b HVl.out; exact kI_key (by omega) (by omega))
     obtain ⟨W', hW'⟩ : ∃ W', W.drew = W' := ⟨_, rfl⟩
     have hbd : Below W.heap.size W W' := by rw [← hW']; exact (Below.refl _ _).drew
     have HMP := Lib.hid (HMPw.out.on hbd)
     have HMt := Lib.hid (HMtw.out.on hbd)
     have HRW := Lib.hid (HRw.out.below hbd)
     have HBW := Lib.hid (HBw.out.trans (hbd.mono HBw.out.size))
     have HSX := Lib.hid (HSXw.out.on hbd)
     have HROW1 := Lib.hid (HROW0.out.below hbd)
     have HCW : Hid (∀ j, W'.cell? ⟨g6, j, none⟩ = #[Value.int .i64 x.cl, .int .i64 x.sq, .int .i64 x.er, .string x.vl, .int .i64 x.vr, Value.slice a5 N5 c5][j]?) := Lib.hid (fun j => by rw [← hW']; exact HCX.out j)
     rw [hW']
     clear hW' hbd
     clear HMPw HMtw HRw HBw HSXw HROW0 HCX HPV
     have x0 := HCW.out 0
     have x1 := HCW.out 1
     have x2 := HCW.out 2
     have x3 := HCW.out 3
     have x4 := HCW.out 4
     have x5 := HCW.out 5
     simp only [List.getElem?_toArray, List.getElem?_cons_zero, List.getElem?_cons_succ] at x0 x1 x2 x3 x4 x5
     have HKP : Hid (∀ w', W'.grownBy w' (some sb) → w'.cell? ⟨g, 1, none⟩ = some (.map (some sb)) ∧ w'.cell? ⟨g6, 0, none⟩ = some (.int .i64 x.cl) ∧ w'.cell? ⟨g6, 1, none⟩ = some (.int .i64 x.sq) ∧ w'.cell? ⟨g6, 2, none⟩ = some (.int .i64 x.er) ∧ w'.cell? ⟨g6, 3, none⟩ = some (.string x.vl) ∧ w'.cell? ⟨g6, 4, none⟩ = some (.int .i64 x.vr) ∧ w'.cell? ⟨g6, 5, none⟩ = some (.slice a5 N5 c5) ∧ W'.grownBy w' (some sb)) := Lib.hid (fun w' hb => ⟨hb.cell HMP.out.c1 (by simpa using HMP.out.cellNe _ _ _ HMP.out.c1), hb.cell x0 (by simpa using HMP.out.cellNe _ _ _ x0), hb.cell x1 (by simpa using HMP.out.cellNe _ _ _ x1), hb.cell x2 (by simpa using HMP.out.cellNe _ _ _ x2), hb.cell x3 (by simpa using HMP.out.cellNe _ _ _ x3), hb.cell x4 (by simpa using HMP.out.cellNe _ _ _ x4), hb.cell x5 (by simpa using HMP.out.cellNe _ _ _ x5), hb⟩)
     have HCS : Hid (∀ V, Below W'.heap.size W' V → Calls Tryz.prog 47 #[.agg #[.int .i64 x.cl, .int .i64 x.sq, .int .i64 x.er, .string x.vl, .int .i64 x.vr, .slice a5 N5 c5]] V (SesO x.cl x.sq ⟨x.er, x.vl, x.vr, (s.getD 0 zS).2.2.names⟩ V)) := Lib.hid (fun V hV => csession_any x.cl x.sq ⟨x.er, x.vl, x.vr, (s.getD 0 zS).2.2.names⟩ (.slice a5 N5 c5) V (by have h := (HROW1.out.below hV); rw [← HNSN.out] at h; exact h) (by have h := HNL.out; rw [← HNSN.out] at h; exact h))
     clear x0 x1 x2 x3 x4 x5
     go_wp2_with fail
     refine wp_region_held_drew (S := (fun w' => w'.cell? ⟨g, 1, none⟩ = some (.map (some sb)) ∧ w'.cell? ⟨g6, 0, none⟩ = some (.int .i64 x.cl) ∧ w'.cell? ⟨g6, 1, none⟩ = some (.int .i64 x.sq) ∧ w'.cell? ⟨g6, 2, none⟩ = some (.int .i64 x.er) ∧ w'.cell? ⟨g6, 3, none⟩ = some (.string x.vl) ∧ w'.cell? ⟨g6, 4, none⟩ = some (.int .i64 x.vr) ∧ w'.cell? ⟨g6, 5, none⟩ = some (.slice a5 N5 c5) ∧ W'.grownBy w' (some sb))) (by kernel_rfl) ?_ (fun hHeld => ?_)
     ·((first
      | exact HKP.out _ (grown_refl _ _)
      | exact HKP.out _ (outB (Below.refl _ _).drew)
      | exact HKP.out _ hw6
      | exact HKP.out _ hw5
      | fail))
     (refine tkA 0 (v := ?_) ?_ ?_; rotate_left; focus (intro w hSw; (try dsimp only at hSw); go_simp; try rfl)); try simp only [Act.put, gA1, gA2, gA3, gA4, gA5, gA6]
     (refine tkA 1 (v := ?_) ?_ ?_; rotate_left; focus (intro w hSw; (try dsimp only at hSw); go_simp; try rfl)); try simp only [Act.put, gA1, gA2, gA3, gA4, gA5, gA6]
     (refine tkA 2 (v := ?_) ?_ ?_; rotate_left; focus (intro w hSw; (try dsimp only at hSw); go_simp; try rfl)); try simp only [Act.put, gA1, gA2, gA3, gA4, gA5, gA6]
     (refine tkA 3 (v := ?_) ?_ ?_; rotate_left; focus (intro w hSw; (try dsimp only at hSw); go_simp; try rfl)); try simp only [Act.put, gA1, gA2, gA3, gA4, gA5, gA6]
     (refine tkA 4 (v := ?_) ?_ ?_; rotate_left; focus (intro w hSw; (try dsimp only at hSw); go_simp; try rfl)); try simp only [Act.put, gA1, gA2, gA3, gA4, gA5, gA6]
     (refine tkA 5 (v := ?_) ?_ ?_; rotate_left; focus (intro w hSw; (try dsimp only at hSw); go_simp; try rfl)); try simp only [Act.put, gA1, gA2, gA3, gA4, gA5, gA6]
     (refine tkA 6 (v := ?_) ?_ ?_; rotate_left; focus (intro w hSw; (try dsimp only at hSw); go_simp; try rfl)); try simp only [Act.put, gA1, gA2, gA3, gA4, gA5, gA6]
     refine wpAnyH_ready (rs := [7]) (by kernel_rfl) (by simp) ?_
     refine (AllReadyH.cons rfl (fun K hK => ?_) AllReadyH.nil)
     go_simp
     (go_at_call 47; refine (HCS.out _ (Below.refl _ _).drew).mono ?_; rintro e w5 ⟨sl, nn5, he, hsl, hrow, hb⟩; have he := he.out; subst he; have hb5 : Below W'.heap.size W' w5 := below_self ((Below.refl _ _).drew) hb; have hw5 : W'.grownBy w5 (some sb) := outB hb5)
     refine hK.out _ _ ?_ (fun hHeld => ?_)
     ·((first
      | exact HKP.out _ (grown_refl _ _)
      | exact HKP.out _ (outB (Below.refl _ _).drew)
      | exact HKP.out _ hw6
      | exact HKP.out _ hw5
      | fail))
     clear hK K
     try simp only [Act.put, gA1, gA2, gA3, gA4, gA5, gA6]
     refine wpAnyH_ready (rs := [8]) (by kernel_rfl) (by simp) ?_
     refine (AllReadyH.cons rfl (fun K hK => ?_) AllReadyH.nil)
     have HROW := Lib.hid hrow
     have HSL := Lib.hid hsl
     have HB5 := Lib.hid hb5
     obtain ⟨D5, n5, hn5, hM5, hI5⟩ := (HMP.out.on hb5).map
     have HM5m := Lib.hid hM5
     have HI5 := Lib.hid hI5
     have hx5 : n5 < maxLen := by unfold maxLen; have h1 := List.length_take_le 0 s; omega
     have HMAX := Lib.hid hx5
     have HN5b := Lib.hid hn5
     clear hM5 hI5 hn5 hx5
     refine step_map (by rfl) _ _ _ _ rfl 3 51 intK Tryz.underlying85 sesElem sb n5 D5 rfl HM5m.out HMAX.out (.int .i64 x.cl) (svV ⟨x.cl, x.sq, x.er, x.vl, x.vr, sl, nn5⟩) (kI x.cl) rfl rfl HKEY.out (svD ⟨x.cl, x.sq, x.er, x.vl, x.vr, sl, nn5⟩) [] (sesElem_mk HSL.out) ?_
     intro w6 hown6 hg6
     have hw6 : W'.grownBy w6 (some sb) := outT hw5 hg6
     refine hK.out _ _ ?_ (fun hHeld => ?_)
     ·((first
      | exact HKP.out _ (grown_refl _ _)
      | exact HKP.out _ (outB (Below.refl _ _).drew)
      | exact HKP.out _ hw6
      | exact HKP.out _ hw5
      | fail))
     clear hK K
     try simp only [Act.put, gA1, gA2, gA3, gA4, gA5, gA6]
     refine wpAnyH_done (by kernel_rfl) ?_ _
     go_split_ands
     clear HKP
     have HMP6 : Hid (MPre X g d bk sb 1000 l (s.take (0 + 1)) w6) := Lib.hid (HMP.out.putR HB5.out HN5b.out hown6 hg6 HI5.out HKL.out (okS_right' HKL.out HGo.out) HSX.out HROW.out HSL.out)
     have HMt6 := Lib.hid ((HMt.out.on HB5.out).out hg6 (HMP.out.on HB5.out).cellNe)
     have HR6 := Lib.hid ((HRW.out.below HB5.out).out hg6 (HMP.out.on HB5.out).cellNe)
     have HB6 : Hid (Below w0.heap.size w0 w6) := Lib.hid ((HBW.out.trans (HB5.out.mono HBW.out.size)).grown hg6 (by have := HBW.out.size; have := HB5.out.size; omega) (fun j hj => by cases hj; exact HSB.out))
     clear hown6 hg6 hw6 hw5 hb5 hb hrow hsl HMP HMt HRW HBW
     go_wp2
     go_roundw
     case rel => exact ⟨0 + 1, by omega, by go_num, HMP6, HMt6, HR6, HB6, HGo⟩
     case measure => simp [intOf]; omega
   ·obtain ⟨j, hj⟩ : ∃ j, j + 1 = k := ⟨k - 1, by omega⟩
    have p0' := HPV.out j hj
    have i1 : (0 : Int) < (k : Int) := by omega
    have i2 : decide (0 < k) = true := decide_eq_true (by omega)
    have i3 : IntKind.i64.wrap ((k : Int) - 1) = (j : Int) := by rw [IntWalk.i64_in _ (by omega)]; omega
    have i4 : (j : Int) < (n : Int) := by omega
    have i5 : (0 : Int) ≤ (j : Int) := by omega
    have HJ := Lib.hid hj
    have HK0 := Lib.hid k0
    clear hj k0
    obtain ⟨pc, hpc⟩ : ∃ pc, (s.getD j zS).1 = pc := ⟨_, rfl⟩
    rw [hpc] at p0'
    have HPc := Lib.hid hpc
    clear hpc
    by_cases hge : x.cl ≤ pc
    ·have i6 : decide (x.cl ≤ pc) = true := decide_eq_true hge
     have HNo : Hid (¬ okS s k) := Lib.hid fun h => by
      have q := h.2.resolve_left HK0.out
      rw [HCq.out.1, show k - 1 = j by have := HJ.out; omega, HPc.out] at q
      omega
     have HK8 : Hid (∀ w', Below W.heap.size W w' → w'.cell? ⟨g6, 0, none⟩ = some (.int .i64 x.cl) ∧ w'.cell? ⟨g6, 1, none⟩ = some (.int .i64 x.sq) ∧ w'.cell? ⟨gq, off + j * 6, none⟩ = some (.int .i64 pc) ∧ Below W.heap.size W w') := Lib.hid (fun w' hb => ⟨(hb.cell (p := ⟨g6, 0, none⟩) (World.block_lt_of_cell? W _ v0')).trans v0', (hb.cell (p := ⟨g6, 1, none⟩) (World.block_lt_of_cell? W _ v1')).trans v1', (hb.cell (p := ⟨gq, off + j * 6, none⟩) (World.block_lt_of_cell? W _ p0')).trans p0', hb⟩)
     clear v0' v1' p0'
     refine wp_region_held_drew (S := (fun w' => w'.cell? ⟨g6, 0, none⟩ = some (.int .i64 x.cl) ∧ w'.cell? ⟨g6, 1, none⟩ = some (.int .i64 x.sq) ∧ w'.cell? ⟨gq, off + j * 6, none⟩ = some (.int .i64 pc) ∧ Below W.heap.size W w')) (by kernel_rfl) ?_ (fun hHeld => ?_)
     ·((first
      | exact HK8.out _ (Below.refl _ _).drew
      | exact HK8.out _ (Below.refl _ _)
      | fail))
     (refine tkA 0 (v := ?_) ?_ ?_; rotate_left; focus (intro w hSw; (try dsimp only at hSw); go_simp; try rfl)); try simp only [Act.put, gA1, gA2, gA3, gA4, gA5, gA6]
     (refine tkA 1 (v := ?_) ?_ ?_; rotate_left; focus (intro w hSw; (try dsimp only at hSw); go_simp; try rfl)); try simp only [Act.put, gA1, gA2, gA3, gA4, gA5, gA6]
     (refine tkA 2 (v := ?_) ?_ ?_; rotate_left; focus (intro w hSw; (try dsimp only at hSw); go_simp; try rfl)); try simp only [Act.put, gA1, gA2, gA3, gA4, gA5, gA6]
     (refine tkA 3 (v := ?_) ?_ ?_; rotate_left; focus (intro w hSw; (try dsimp only at hSw); go_simp; try rfl)); try simp only [Act.put, gA1, gA2, gA3, gA4, gA5, gA6]
     (refine tkA 4 (v := ?_) ?_ ?_; rotate_left; focus (intro w hSw; (try dsimp only at hSw); go_simp; try rfl)); try simp only [Act.put, gA1, gA2, gA3, gA4, gA5, gA6]
     (refine tkA 5 (v := ?_) ?_ ?_; rotate_left; focus (intro w hSw; (try dsimp only at hSw); go_simp; try rfl)); try simp only [Act.put, gA1, gA2, gA3, gA4, gA5, gA6]
     (refine tkA 6 (v := ?_) ?_ ?_; rotate_left; focus (intro w hSw; (try dsimp only at hSw); go_simp; try rfl)); try simp only [Act.put, gA1, gA2, gA3, gA4, gA5, gA6]
     (refine tkA 7 (v := ?_) ?_ ?_; rotate_left; focus (intro w hSw; (try dsimp only at hSw); go_simp; try rfl)); try simp only [Act.put, gA1, gA2, gA3, gA4, gA5, gA6]
     (refine tkA 8 (v := ?_) ?_ ?_; rotate_left; focus (intro w hSw; (try dsimp only at hSw); go_simp; try rfl)); try simp only [Act.put, gA1, gA2, gA3, gA4, gA5, gA6]
     (refine tkA 9 (v := ?_) ?_ ?_; rotate_left; focus (intro w hSw; (try dsimp only at hSw); go_simp; try rfl)); try simp only [Act.put, gA1, gA2, gA3, gA4, gA5, gA6]
     (refine tkA 10 (v := ?_) ?_ ?_; rotate_left; focus (intro w hSw; (try dsimp only at hSw); go_simp; try rfl)); try simp only [Act.put, gA1, gA2, gA3, gA4, gA5, gA6]
     (refine tkA 11 (v := ?_) ?_ ?_; rotate_left; focus (intro w hSw; (try dsimp only at hSw); go_simp; try rfl)); try simp only [Act.put, gA1, gA2, gA3, gA4, gA5, gA6]
     (refine tkA 12 (v := ?_) ?_ ?_; rotate_left; focus (intro w hSw; (try dsimp only at hSw); go_simp; try rfl)); try simp only [Act.put, gA1, gA2, gA3, gA4, gA5, gA6]
     (refine tkA 13 (v := ?_) ?_ ?_; rotate_left; focus (intro w hSw; (try dsimp only at hSw); go_simp; try rfl)); try simp only [Act.put, gA1, gA2, gA3, gA4, gA5, gA6]
     refine utA 14 ?_; try simp only [Act.put, gA1, gA2, gA3, gA4, gA5, gA6]
     refine utA 15 ?_; try simp only [Act.put, gA1, gA2, gA3, gA4, gA5, gA6]
     refine utA 16 ?_; try simp only [Act.put, gA1, gA2, gA3, gA4, gA5, gA6]
     refine utA 17 ?_; try simp only [Act.put, gA1, gA2, gA3, gA4, gA5, gA6]
     refine utA 18 ?_; try simp only [Act.put, gA1, gA2, gA3, gA4, gA5, gA6]
     refine utA 19 ?_; try simp only [Act.put, gA1, gA2, gA3, gA4, gA5, gA6]
     (refine tkA 20 (v := ?_) ?_ ?_; rotate_left; focus (intro w hSw; (try dsimp only at hSw); go_simp; try rfl)); try simp only [Act.put, gA1, gA2, gA3, gA4, gA5, gA6]
     refine wpAnyH_done (by kernel_rfl) ?_ _
     go_split_ands
     clear HK8
     obtain ⟨W', hW'⟩ : ∃ W', W.drew = W' := ⟨_, rfl⟩
     have hbd : Below W.heap.size W W' := by rw [← hW']; exact (Below.refl _ _).drew
     have HBW := Lib.hid (HBw.out.trans (hbd.mono HBw.out.size))
     rw [hW']
     clear hW' hbd
     clear HMPw HMtw HRw HBw HSXw HROW0 HCX HPV
     go_wp2
     go_ret2
     exact .inr ⟨fun q => HNo.out (q _ HKL.out), rfl, HBW.out⟩
    ·have i6 : decide (x.cl ≤ pc) = false := decide_eq_false hge
     cases vl with
     | false =>
      have HNo : Hid (¬ okS s k) := Lib.hid fun h => by
       have := h.1
       rw [HCq.out.1, HCq.out.2, HVl.out] at this
       cases this
      have HK8 : Hid (∀ w', Below W.heap.size W w' → w'.cell? ⟨g6, 0, none⟩ = some (.int .i64 x.cl) ∧ w'.cell? ⟨g6, 1, none⟩ = some (.int .i64 x.sq) ∧ w'.cell? ⟨gq, off + j * 6, none⟩ = some (.int .i64 pc) ∧ Below W.heap.size W w') := Lib.hid (fun w' hb => ⟨(hb.cell (p := ⟨g6, 0, none⟩) (World.block_lt_of_cell? W _ v0')).trans v0', (hb.cell (p := ⟨g6, 1, none⟩) (World.block_lt_of_cell? W _ v1')).trans v1', (hb.cell (p := ⟨gq, off + j * 6, none⟩) (World.block_lt_of_cell? W _ p0')).trans p0', hb⟩)
      clear v0' v1' p0'
      refine wp_region_held_drew (S := (fun w' => w'.cell? ⟨g6, 0, none⟩ = some (.int .i64 x.cl) ∧ w'.cell? ⟨g6, 1, none⟩ = some (.int .i64 x.sq) ∧ w'.cell? ⟨gq, off + j * 6, none⟩ = some (.int .i64 pc) ∧ Below W.heap.size W w')) (by kernel_rfl) ?_ (fun hHeld => ?_)
      ·((first
       | exact HK8.out _ (Below.refl _ _).drew
       | exact HK8.out _ (Below.refl _ _)
       | fail))
      (refine tkA 0 (v := ?_) ?_ ?_; rotate_left; focus (intro w hSw; (try dsimp only at hSw); go_simp; try rfl)); try simp only [Act.put, gA1, gA2, gA3, gA4, gA5, gA6]
      (refine tkA 1 (v := ?_) ?_ ?_; rotate_left; focus (intro w hSw; (try dsimp only at hSw); go_simp; try rfl)); try simp only [Act.put, gA1, gA2, gA3, gA4, gA5, gA6]
      (refine tkA 2 (v := ?_) ?_ ?_; rotate_left; focus (intro w hSw; (try dsimp only at hSw); go_simp; try rfl)); try simp only [Act.put, gA1, gA2, gA3, gA4, gA5, gA6]
      (refine tkA 3 (v := ?_) ?_ ?_; rotate_left; focus (intro w hSw; (try dsimp only at hSw); go_simp; try rfl)); try simp only [Act.put, gA1, gA2, gA3, gA4, gA5, gA6]
      (refine tkA 4 (v := ?_) ?_ ?_; rotate_left; focus (intro w hSw; (try dsimp only at hSw); go_simp; try rfl)); try simp only [Act.put, gA1, gA2, gA3, gA4, gA5, gA6]
      (refine tkA 5 (v := ?_) ?_ ?_; rotate_left; focus (intro w hSw; (try dsimp only at hSw); go_simp; try rfl)); try simp only [Act.put, gA1, gA2, gA3, gA4, gA5, gA6]
      (refine tkA 6 (v := ?_) ?_ ?_; rotate_left; focus (intro w hSw; (try dsimp only at hSw); go_simp; try rfl)); try simp only [Act.put, gA1, gA2, gA3, gA4, gA5, gA6]
      (refine tkA 7 (v := ?_) ?_ ?_; rotate_left; focus (intro w hSw; (try dsimp only at hSw); go_simp; try rfl)); try simp only [Act.put, gA1, gA2, gA3, gA4, gA5, gA6]
      (refine tkA 8 (v := ?_) ?_ ?_; rotate_left; focus (intro w hSw; (try dsimp only at hSw); go_simp; try rfl)); try simp only [Act.put, gA1, gA2, gA3, gA4, gA5, gA6]
      (refine tkA 9 (v := ?_) ?_ ?_; rotate_left; focus (intro w hSw; (try dsimp only at hSw); go_simp; try rfl)); try simp only [Act.put, gA1, gA2, gA3, gA4, gA5, gA6]
      (refine tkA 10 (v := ?_) ?_ ?_; rotate_left; focus (intro w hSw; (try dsimp only at hSw); go_simp; try rfl)); try simp only [Act.put, gA1, gA2, gA3, gA4, gA5, gA6]
      (refine tkA 11 (v := ?_) ?_ ?_; rotate_left; focus (intro w hSw; (try dsimp only at hSw); go_simp; try rfl)); try simp only [Act.put, gA1, gA2, gA3, gA4, gA5, gA6]
      (refine tkA 12 (v := ?_) ?_ ?_; rotate_left; focus (intro w hSw; (try dsimp only at hSw); go_simp; try rfl)); try simp only [Act.put, gA1, gA2, gA3, gA4, gA5, gA6]
      (refine tkA 13 (v := ?_) ?_ ?_; rotate_left; focus (intro w hSw; (try dsimp only at hSw); go_simp; try rfl)); try simp only [Act.put, gA1, gA2, gA3, gA4, gA5, gA6]
      (refine tkA 14 (v := ?_) ?_ ?_; rotate_left; focus (intro w hSw; (try dsimp only at hSw); go_simp; try rfl)); try simp only [Act.put, gA1, gA2, gA3, gA4, gA5, gA6]
      (refine tkA 15 (v := ?_) ?_ ?_; rotate_left; focus (intro w hSw; (try dsimp only at hSw); go_simp; try rfl)); try simp only [Act.put, gA1, gA2, gA3, gA4, gA5, gA6]
      (refine tkA 16 (v := ?_) ?_ ?_; rotate_left; focus (intro w hSw; (try dsimp only at hSw); go_simp; try rfl)); try simp only [Act.put, gA1, gA2, gA3, gA4, gA5, gA6]
      (refine tkA 17 (v := ?_) ?_ ?_; rotate_left; focus (intro w hSw; (try dsimp only at hSw); go_simp; try rfl)); try simp only [Act.put, gA1, gA2, gA3, gA4, gA5, gA6]
      refine wpAnyH_ready (rs := [18]) (by kernel_rfl) (by simp) ?_
      refine (AllReadyH.cons rfl (fun K hK => ?_) AllReadyH.nil)
      go_simp
      (go_at_call 46; refine (HRT.out _).mono ?_; rintro e w8 ⟨rfl, rfl⟩)
      refine hK.out _ _ ?_ (fun hHeld => ?_)
      ·((first
       | exact HK8.out _ (Below.refl _ _).drew
       | exact HK8.out _ (Below.refl _ _)
       | fail))
      clear hK K
      try simp only [Act.put, gA1, gA2, gA3, gA4, gA5, gA6]
      (refine tkA 19 (v := ?_) ?_ ?_; rotate_left; focus (intro w hSw; (try dsimp only at hSw); go_simp; try rfl)); try simp only [Act.put, gA1, gA2, gA3, gA4, gA5, gA6]
      (refine tkA 20 (v := ?_) ?_ ?_; rotate_left; focus (intro w hSw; (try dsimp only at hSw); go_simp; try rfl)); try simp only [Act.put, gA1, gA2, gA3, gA4, gA5, gA6]
      refine wpAnyH_done (by kernel_rfl) ?_ _
      go_split_ands
      clear HK8
      obtain ⟨W', hW'⟩ : ∃ W', W.drew = W' := ⟨_, rfl⟩
      have hbd : Below W.heap.size W W' := by rw [← hW']; exact (Below.refl _ _).drew
      have HBW := Lib.hid (HBw.out.trans (hbd.mono HBw.out.size))
      rw [hW']
      clear hW' hbd
      clear HMPw HMtw HRw HBw HSXw HROW0 HCX HPV
      go_wp2
      go_ret2
      exact .inr ⟨fun q => HNo.out (q _ HKL.out), rfl, HBW.out⟩
     | true =>
      have HOk : Hid (okS s k) := Lib.hid ⟨by rw [HCq.out.1, HCq.out.2]; exact HVl.out, .inr (by rw [HCq.out.1, show k - 1 = j by have := HJ.out; omega, HPc.out]; omega)⟩
      have HK8 : Hid (∀ w', Below W.heap.size W w' → w'.cell? ⟨g6, 0, none⟩ = some (.int .i64 x.cl) ∧ w'.cell? ⟨g6, 1, none⟩ = some (.int .i64 x.sq) ∧ w'.cell? ⟨gq, off + j * 6, none⟩ = some (.int .i64 pc) ∧ Below W.heap.size W w') := Lib.hid (fun w' hb => ⟨(hb.cell (p := ⟨g6, 0, none⟩) (World.block_lt_of_cell? W _ v0')).trans v0', (hb.cell (p := ⟨g6, 1, none⟩) (World.block_lt_of_cell? W _ v1')).trans v1', (hb.cell (p := ⟨gq, off + j * 6, none⟩) (World.block_lt_of_cell? W _ p0')).trans p0', hb⟩)
      clear v0' v1' p0'
      refine wp_region_held_drew (S := (fun w' => w'.cell? ⟨g6, 0, none⟩ = some (.int .i64 x.cl) ∧ w'.cell? ⟨g6, 1, none⟩ = some (.int .i64 x.sq) ∧ w'.cell? ⟨gq, off + j * 6, none⟩ = some (.int .i64 pc) ∧ Below W.heap.size W w')) (by kernel_rfl) ?_ (fun hHeld => ?_)
      ·((first
       | exact HK8.out _ (Below.refl _ _).drew
       | exact HK8.out _ (Below.refl _ _)
       | fail))
      (refine tkA 0 (v := ?_) ?_ ?_; rotate_left; focus (intro w hSw; (try dsimp only at hSw); go_simp; try rfl)); try simp only [Act.put, gA1, gA2, gA3, gA4, gA5, gA6]
      (refine tkA 1 (v := ?_) ?_ ?_; rotate_left; focus (intro w hSw; (try dsimp only at hSw); go_simp; try rfl)); try simp only [Act.put, gA1, gA2, gA3, gA4, gA5, gA6]
      (refine tkA 2 (v := ?_) ?_ ?_; rotate_left; focus (intro w hSw; (try dsimp only at hSw); go_simp; try rfl)); try simp only [Act.put, gA1, gA2, gA3, gA4, gA5, gA6]
      (refine tkA 3 (v := ?_) ?_ ?_; rotate_left; focus (intro w hSw; (try dsimp only at hSw); go_simp; try rfl)); try simp only [Act.put, gA1, gA2, gA3, gA4, gA5, gA6]
      (refine tkA 4 (v := ?_) ?_ ?_; rotate_left; focus (intro w hSw; (try dsimp only at hSw); go_simp; try rfl)); try simp only [Act.put, gA1, gA2, gA3, gA4, gA5, gA6]
      (refine tkA 5 (v := ?_) ?_ ?_; rotate_left; focus (intro w hSw; (try dsimp only at hSw); go_simp; try rfl)); try simp only [Act.put, gA1, gA2, gA3, gA4, gA5, gA6]
      (refine tkA 6 (v := ?_) ?_ ?_; rotate_left; focus (intro w hSw; (try dsimp only at hSw); go_simp; try rfl)); try simp only [Act.put, gA1, gA2, gA3, gA4, gA5, gA6]
      (refine tkA 7 (v := ?_) ?_ ?_; rotate_left; focus (intro w hSw; (try dsimp only at hSw); go_simp; try rfl)); try simp only [Act.put, gA1, gA2, gA3, gA4, gA5, gA6]
      (refine tkA 8 (v := ?_) ?_ ?_; rotate_left; focus (intro w hSw; (try dsimp only at hSw); go_simp; try rfl)); try simp only [Act.put, gA1, gA2, gA3, gA4, gA5, gA6]
      (refine tkA 9 (v := ?_) ?_ ?_; rotate_left; focus (intro w hSw; (try dsimp only at hSw); go_simp; try rfl)); try simp only [Act.put, gA1, gA2, gA3, gA4, gA5, gA6]
      (refine tkA 10 (v := ?_) ?_ ?_; rotate_left; focus (intro w hSw; (try dsimp only at hSw); go_simp; try rfl)); try simp only [Act.put, gA1, gA2, gA3, gA4, gA5, gA6]
      (refine tkA 11 (v := ?_) ?_ ?_; rotate_left; focus (intro w hSw; (try dsimp only at hSw); go_simp; try rfl)); try simp only [Act.put, gA1, gA2, gA3, gA4, gA5, gA6]
      (refine tkA 12 (v := ?_) ?_ ?_; rotate_left; focus (intro w hSw; (try dsimp only at hSw); go_simp; try rfl)); try simp only [Act.put, gA1, gA2, gA3, gA4, gA5, gA6]
      (refine tkA 13 (v := ?_) ?_ ?_; rotate_left; focus (intro w hSw; (try dsimp only at hSw); go_simp; try rfl)); try simp only [Act.put, gA1, gA2, gA3, gA4, gA5, gA6]
      (refine tkA 14 (v := ?_) ?_ ?_; rotate_left; focus (intro w hSw; (try dsimp only at hSw); go_simp; try rfl)); try simp only [Act.put, gA1, gA2, gA3, gA4, gA5, gA6]
      (refine tkA 15 (v := ?_) ?_ ?_; rotate_left; focus (intro w hSw; (try dsimp only at hSw); go_simp; try rfl)); try simp only [Act.put, gA1, gA2, gA3, gA4, gA5, gA6]
      (refine tkA 16 (v := ?_) ?_ ?_; rotate_left; focus (intro w hSw; (try dsimp only at hSw); go_simp; try rfl)); try simp only [Act.put, gA1, gA2, gA3, gA4, gA5, gA6]
      (refine tkA 17 (v := ?_) ?_ ?_; rotate_left; focus (intro w hSw; (try dsimp only at hSw); go_simp; try rfl)); try simp only [Act.put, gA1, gA2, gA3, gA4, gA5, gA6]
      refine wpAnyH_ready (rs := [18]) (by kernel_rfl) (by simp) ?_
      refine (AllReadyH.cons rfl (fun K hK => ?_) AllReadyH.nil)
      go_simp
      (go_at_call 46; refine (HRT.out _).mono ?_; rintro e w8 ⟨rfl, rfl⟩)
      refine hK.out _ _ ?_ (fun hHeld => ?_)
      ·((first
       | exact HK8.out _ (Below.refl _ _).drew
       | exact HK8.out _ (Below.refl _ _)
       | fail))
      clear hK K
      try simp only [Act.put, gA1, gA2, gA3, gA4, gA5, gA6]
      (refine tkA 19 (v := ?_) ?_ ?_; rotate_left; focus (intro w hSw; (try dsimp only at hSw); go_simp; try rfl)); try simp only [Act.put, gA1, gA2, gA3, gA4, gA5, gA6]
      (refine tkA 20 (v := ?_) ?_ ?_; rotate_left; focus (intro w hSw; (try dsimp only at hSw); go_simp; try rfl)); try simp only [Act.put, gA1, gA2, gA3, gA4, gA5, gA6]
      refine wpAnyH_done (by kernel_rfl) ?_ _
      go_split_ands
      clear HK8
      have HGo : Hid (∀ i, i < k + 1 → okS s i) := Lib.hid (fun i hi => by
       by_cases ei : i = k
       ·rw [ei]; exact HOk.out
       ·exact HG.out i (by omega))
      have HKEY : Hid (keyOf Tryz.prog 3 (.int .i64 x.cl) = some (kI x.cl)) := Lib.hid (by have hvb := valS_b HVl.out; exact kI_key (by omega) (by omega))
      obtain ⟨W', hW'⟩ : ∃ W', W.drew = W' := ⟨_, rfl⟩
      have hbd : Below W.heap.size W W' := by rw [← hW']; exact (Below.refl _ _).drew
      have HMP := Lib.hid (HMPw.out.on hbd)
      have HMt := Lib.hid (HMtw.out.on hbd)
      have HRW := Lib.hid (HRw.out.below hbd)
      have HBW := Lib.hid (HBw.out.trans (hbd.mono HBw.out.size))
      have HSX := Lib.hid (HSXw.out.on hbd)
      have HROW1 := Lib.hid (HROW0.out.below hbd)
      have HCW : Hid (∀ j, W'.cell? ⟨g6, j, none⟩ = #[Value.int .i64 x.cl, .int .i64 x.sq, .int .i64 x.er, .string x.vl, .int .i64 x.vr, Value.slice a5 N5 c5][j]?) := Lib.hid (fun j => by rw [← hW']; exact HCX.out j)
      rw [hW']
      clear hW' hbd
      clear HMPw HMtw HRw HBw HSXw HROW0 HCX HPV
      have x0 := HCW.out 0
      have x1 := HCW.out 1
      have x2 := HCW.out 2
      have x3 := HCW.out 3
      have x4 := HCW.out 4
      have x5 := HCW.out 5
      simp only [List.getElem?_toArray, List.getElem?_cons_zero, List.getElem?_cons_succ] at x0 x1 x2 x3 x4 x5
      have HKP : Hid (∀ w', W'.grownBy w' (some sb) → w'.cell? ⟨g, 1, none⟩ = some (.map (some sb)) ∧ w'.cell? ⟨g6, 0, none⟩ = some (.int .i64 x.cl) ∧ w'.cell? ⟨g6, 1, none⟩ = some (.int .i64 x.sq) ∧ w'.cell? ⟨g6, 2, none⟩ = some (.int .i64 x.er) ∧ w'.cell? ⟨g6, 3, none⟩ = some (.string x.vl) ∧ w'.cell? ⟨g6, 4, none⟩ = some (.int .i64 x.vr) ∧ w'.cell? ⟨g6, 5, none⟩ = some (.slice a5 N5 c5) ∧ W'.grownBy w' (some sb)) := Lib.hid (fun w' hb => ⟨hb.cell HMP.out.c1 (by simpa using HMP.out.cellNe _ _ _ HMP.out.c1), hb.cell x0 (by simpa using HMP.out.cellNe _ _ _ x0), hb.cell x1 (by simpa using HMP.out.cellNe _ _ _ x1), hb.cell x2 (by simpa using HMP.out.cellNe _ _ _ x2), hb.cell x3 (by simpa using HMP.out.cellNe _ _ _ x3), hb.cell x4 (by simpa using HMP.out.cellNe _ _ _ x4), hb.cell x5 (by simpa using HMP.out.cellNe _ _ _ x5), hb⟩)
      have HCS : Hid (∀ V, Below W'.heap.size W' V → Calls Tryz.prog 47 #[.agg #[.int .i64 x.cl, .int .i64 x.sq, .int .i64 x.er, .string x.vl, .int .i64 x.vr, .slice a5 N5 c5]] V (SesO x.cl x.sq ⟨x.er, x.vl, x.vr, (s.getD k zS).2.2.names⟩ V)) := Lib.hid (fun V hV => csession_any x.cl x.sq ⟨x.er, x.vl, x.vr, (s.getD k zS).2.2.names⟩ (.slice a5 N5 c5) V (by have h := (HROW1.out.below hV); rw [← HNSN.out] at h; exact h) (by have h := HNL.out; rw [← HNSN.out] at h; exact h))
      clear x0 x1 x2 x3 x4 x5
      go_wp2_with fail
      refine wp_region_held_drew (S := (fun w' => w'.cell? ⟨g, 1, none⟩ = some (.map (some sb)) ∧ w'.cell? ⟨g6, 0, none⟩ = some (.int .i64 x.cl) ∧ w'.cell? ⟨g6, 1, none⟩ = some (.int .i64 x.sq) ∧ w'.cell? ⟨g6, 2, none⟩ = some (.int .i64 x.er) ∧ w'.cell? ⟨g6, 3, none⟩ = some (.string x.vl) ∧ w'.cell? ⟨g6, 4, none⟩ = some (.int .i64 x.vr) ∧ w'.cell? ⟨g6, 5, none⟩ = some (.slice a5 N5 c5) ∧ W'.grownBy w' (some sb))) (by kernel_rfl) ?_ (fun hHeld => ?_)
      ·((first
       | exact HKP.out _ (grown_refl _ _)
       | exact HKP.out _ (outB (Below.refl _ _).drew)
       | exact HKP.out _ hw6
       | exact HKP.out _ hw5
       | fail))
      (refine tkA 0 (v := ?_) ?_ ?_; rotate_left; focus (intro w hSw; (try dsimp only at hSw); go_simp; try rfl)); try simp only [Act.put, gA1, gA2, gA3, gA4, gA5, gA6]
      (refine tkA 1 (v := ?_) ?_ ?_; rotate_left; focus (intro w hSw; (try dsimp only at hSw); go_simp; try rfl)); try simp only [Act.put, gA1, gA2, gA3, gA4, gA5, gA6]
      (refine tkA 2 (v := ?_) ?_ ?_; rotate_left; focus (intro w hSw; (try dsimp only at hSw); go_simp; try rfl)); try simp only [Act.put, gA1, gA2, gA3, gA4, gA5, gA6]
      (refine tkA 3 (v := ?_) ?_ ?_; rotate_left; focus (intro w hSw; (try dsimp only at hSw); go_simp; try rfl)); try simp only [Act.put, gA1, gA2, gA3, gA4, gA5, gA6]
      (refine tkA 4 (v := ?_) ?_ ?_; rotate_left; focus (intro w hSw; (try dsimp only at hSw); go_simp; try rfl)); try simp only [Act.put, gA1, gA2, gA3, gA4, gA5, gA6]
      (refine tkA 5 (v := ?_) ?_ ?_; rotate_left; focus (intro w hSw; (try dsimp only at hSw); go_simp; try rfl)); try simp only [Act.put, gA1, gA2, gA3, gA4, gA5, gA6]
      (refine tkA 6 (v := ?_) ?_ ?_; rotate_left; focus (intro w hSw; (try dsimp only at hSw); go_simp; try rfl)); try simp only [Act.put, gA1, gA2, gA3, gA4, gA5, gA6]
      refine wpAnyH_ready (rs := [7]) (by kernel_rfl) (by simp) ?_
      refine (AllReadyH.cons rfl (fun K hK => ?_) AllReadyH.nil)
      go_simp
      (go_at_call 47; refine (HCS.out _ (Below.refl _ _).drew).mono ?_; rintro e w5 ⟨sl, nn5, he, hsl, hrow, hb⟩; have he := he.out; subst he; have hb5 : Below W'.heap.size W' w5 := below_self ((Below.refl _ _).drew) hb; have hw5 : W'.grownBy w5 (some sb) := outB hb5)
      refine hK.out _ _ ?_ (fun hHeld => ?_)
      ·((first
       | exact HKP.out _ (grown_refl _ _)
       | exact HKP.out _ (outB (Below.refl _ _).drew)
       | exact HKP.out _ hw6
       | exact HKP.out _ hw5
       | fail))
      clear hK K
      try simp only [Act.put, gA1, gA2, gA3, gA4, gA5, gA6]
      refine wpAnyH_ready (rs := [8]) (by kernel_rfl) (by simp) ?_
      refine (AllReadyH.cons rfl (fun K hK => ?_) AllReadyH.nil)
      have HROW := Lib.hid hrow
      have HSL := Lib.hid hsl
      have HB5 := Lib.hid hb5
      obtain ⟨D5, n5, hn5, hM5, hI5⟩ := (HMP.out.on hb5).map
      have HM5m := Lib.hid hM5
      have HI5 := Lib.hid hI5
      have hx5 : n5 < maxLen := by unfold maxLen; have h1 := List.length_take_le k s; omega
      have HMAX := Lib.hid hx5
      have HN5b := Lib.hid hn5
      clear hM5 hI5 hn5 hx5
      refine step_map (by rfl) _ _ _ _ rfl 3 51 intK Tryz.underlying85 sesElem sb n5 D5 rfl HM5m.out HMAX.out (.int .i64 x.cl) (svV ⟨x.cl, x.sq, x.er, x.vl, x.vr, sl, nn5⟩) (kI x.cl) rfl rfl HKEY.out (svD ⟨x.cl, x.sq, x.er, x.vl, x.vr, sl, nn5⟩) [] (sesElem_mk HSL.out) ?_
      intro w6 hown6 hg6
      have hw6 : W'.grownBy w6 (some sb) := outT hw5 hg6
      refine hK.out _ _ ?_ (fun hHeld => ?_)
      ·((first
       | exact HKP.out _ (grown_refl _ _)
       | exact HKP.out _ (outB (Below.refl _ _).drew)
       | exact HKP.out _ hw6
       | exact HKP.out _ hw5
       | fail))
      clear hK K
      try simp only [Act.put, gA1, gA2, gA3, gA4, gA5, gA6]
      refine wpAnyH_done (by kernel_rfl) ?_ _
      go_split_ands
      clear HKP
      have HMP6 : Hid (MPre X g d bk sb 1000 l (s.take (k + 1)) w6) := Lib.hid (HMP.out.putR HB5.out HN5b.out hown6 hg6 HI5.out HKL.out (okS_right' HKL.out HGo.out) HSX.out HROW.out HSL.out)
      have HMt6 := Lib.hid ((HMt.out.on HB5.out).out hg6 (HMP.out.on HB5.out).cellNe)
      have HR6 := Lib.hid ((HRW.out.below HB5.out).out hg6 (HMP.out.on HB5.out).cellNe)
      have HB6 : Hid (Below w0.heap.size w0 w6) := Lib.hid ((HBW.out.trans (HB5.out.mono HBW.out.size)).grown hg6 (by have := HBW.out.size; have := HB5.out.size; omega) (fun j hj => by cases hj; exact HSB.out))
      clear hown6 hg6 hw6 hw5 hb5 hb hrow hsl HMP HMt HRW HBW
      go_wp2
      go_roundw
      case rel => exact ⟨k + 1, by omega, by go_num, HMP6, HMt6, HR6, HB6, HGo⟩
      case measure => simp [intOf]; omega
  ·obtain rfl : n = k := by omega
   have hlt' : ¬ (n : Int) < (n : Int) := by omega
   have HMP : Hid (MPre X g d bk sb 1000 l s wr) := Lib.hid (by have := hMP.out; rw [HNS.out, List.take_length] at this; exact this)
   have HAll : Hid (∀ j, j < s.length → okS s j) := Lib.hid (by rw [← HNS.out]; exact HG.out)
   clear hMP hMt hRr hlt HG
   go_wp2
   go_ret2
   have h := HMP.out
   obtain ⟨D, n5, hn5, hM5, hI5⟩ := h.map
   have hlo := HLO.out
   have hsb := HSB.out
   have hgs := HGS.out
   have hrs := okS_right HAll.out
   exact .inl ⟨HAll.out, g, d, bk, sb, rfl, ⟨h.c0, h.c1, h.lw, ⟨D, n5, by have := HNS.out; omega, hM5, hI5⟩, h.lo, h.ne, ⟨HR.out, hrs.1, hrs.2, fun e he => trivial⟩⟩, ⟨by omega, by omega, by omega, by omega⟩, hB.out⟩
end Go.Proofs.YtodcmhmankmaoaaGreat
