/-
  Texts put together: Ch4, Ch5.
-/
import Derived.Test.YtnancdbkmompdaaGreatRY
import Derived.Test.YtnancdbkmompdaaGreatRZ
import Derived.Test.YtnancdbkmompdaaGreatRQU
namespace Go.Proofs.YtnancdbkmompdaaGreat
open Go.RowKit
set_option linter.unusedSimpArgs false
set_option linter.unusedVariables false
set_option maxRecDepth 100000
set_option maxHeartbeats 40000000
theorem dnum (r : Nat) (s : ByteArray) (st : RSt) (w : World) (h : RD w r s st) (hs : s.size ≤ 1000000000) :
  Calls Tryz.prog 74 #[.pointer (some ⟨r, 0, none⟩)] w (RDP (.int .i64 (gNum st).1) r s (gNum st).2 w) := by
 obtain ⟨xs, er⟩ := st
 by_cases q : er = 0
 ·subst q
  obtain ⟨A, h1, h2, h3⟩ := h
  rw [show xs = (byt s).drop A from h2 rfl]
  exact dnum_ok r A s w h3 h1 hs
 ·rw [gNum_er q]
  exact dnum_wrong r s xs er w h q
theorem gTxt_by {xs ys : List Int} {n e : Int} (hg : gNum (xs, 0) = (n, (ys, e))) : gTxt (xs, 0) = if e ≠ 0 then (⟨#[]⟩, (xs, e)) else if 4096 < n then (⟨#[]⟩, (xs, 13)) else if (ys.length : Int) < n then (⟨#[]⟩, (xs, 10)) else (txt (ys.take n.toNat), (ys.drop n.toNat, 0)) := by
 rw [gNum_ok] at hg
 simp only [Prod.mk.injEq] at hg
 obtain ⟨h1, h2, h3⟩ := hg
 have hk : ∃ k : Nat, (numG 8 0 0 xs).2.1 = (k : Int) ∧ k ≤ xs.length := by
  rcases numG_far 8 0 0 xs with q | ⟨j, q, _, q2⟩
  ·exact ⟨0, by rw [q]; rfl, by omega⟩
  ·exact ⟨j, q, by omega⟩
 obtain ⟨k, hk1, hk2⟩ := hk
 rw [gTxt_ok]
 unfold textN
 rw [h1, h3, hk1]
 rw [hk1] at h2
 have hl : (ys.length : Int) = (xs.length : Int) - k := by rw [← h2, List.length_drop]; omega
 have hd : ys = xs.drop k := by rw [← h2]; rfl
 split
 ·rfl
 split
 ·rfl
 rw [← hl]
 split
 ·rfl
 rw [hd, List.drop_drop]
 rfl
theorem gNum_len {xs ys : List Int} {n e : Int} (hg : gNum (xs, 0) = (n, (ys, e))) : 0 ≤ n := by
 have := gNum_pos (xs, 0)
 rw [hg] at this
 exact this
theorem rd_cut (s : ByteArray) {B m : Nat} (h : B + m ≤ s.size) (hm : s.size ≤ 1000000000) : ∀ W, (Instr.slice 9 (.string s) (some (.int .i64 (B : Int))) (some (.int .i64 ((B : Int) + (m : Int)))) none).run Tryz.prog W = .ok (.string (txt (((byt s).drop B).take m))) W := by
 intro W
 rw [run_slice_string_if W 9 s .i64 .i64 _ _ Tryz.underlying9, if_pos ⟨by omega, by omega⟩, if_pos ⟨by omega, by omega⟩]
 rw [show ((B : Int)).toNat = B from by omega, show ((B : Int) + (m : Int)).toNat = B + m from by omega]
 have e := byt_cut (s := s) B (B + m) h
 rw [show B + m - B = m from by omega] at e
 rw [← e, txt_byt]
theorem dtext (r : Nat) (s : ByteArray) (st : RSt) (w : World) (h : RD w r s st) (hs : s.size ≤ 1000000000) :
  Calls Tryz.prog 94 #[.pointer (some ⟨r, 0, none⟩), .int .i64 4096] w (RDP (.string (gTxt st).1) r s (gTxt st).2 w) := by
 obtain ⟨xs, er⟩ := st
 have HW := Hd h
 have HSz := Hd hs
 obtain ⟨A, hA, hx, hK⟩ := h
 have c1 := hK.cell 1
 simp only [gB] at c1
 have HX := Hd hx
 have HA := Hd hA
 obtain ⟨n, ys, e, hg⟩ : ∃ n ys e, gNum (xs, er) = (n, (ys, e)) := ⟨_, _, _, rfl⟩
 have HG := Hd hg
 have HC := Hd (dnum r s (xs, er) w HW.out hs)
 rw [hg] at HC
 clear hs hx hA hK hg
 go_enter Tryz.func94, Tryz.ntmps94
 go_wp2_with fail
 refine HC.out.mono ?_
 rintro e1 w1 ⟨he, h1, h2⟩
 rw [he.out]
 have HR1 := Hd h1
 have HF1 := Hd h2
 obtain ⟨B, hB, hy, hK1⟩ := h1
 have HK1 := Hd hK1
 have HY := Hd hy
 have HB := Hd hB
 clear c1 he h2
 have c0 := hK1.cell 0
 have c1 := hK1.cell 1
 have c2 := hK1.cell 2
 have z1 := hK1.fz 1
 have z2 := hK1.fz 2
 simp only [gB] at c0 c1 c2
 clear hK1 hy hB HC
 by_cases q : e = 0
 ·subst q
  have her : Hid (er = 0) := Hd (Classical.byContradiction fun z => z (by
   have := HG.out
   rw [gNum_er z] at this
   simp only [Prod.mk.injEq] at this
   exact this.2.2))
  obtain rfl := her.out
  have hn := gNum_len HG.out
  have HT := Hd (gTxt_by HG.out)
  have hl : (ys.length : Int) + B = s.size := by
   have := HB.out
   rw [show ys = (byt s).drop B from HY.out rfl, List.length_drop, byt_length]; omega
  have HL := Hd hl
  have HYB : Hid (ys = (byt s).drop B) := Hd (HY.out rfl)
  obtain ⟨m, hm⟩ := Int.eq_ofNat_of_zero_le hn
  obtain ⟨sz, hsz⟩ : ∃ sz, s.size = sz := ⟨_, rfl⟩
  have hw : wrap64 ((s.size : Int) - (B : Int)) = (ys.length : Int) := by have := HSz.out; unfold wrap64; omega
  subst hm
  by_cases g1 : 4096 < (m : Int)
  ·have HT2 := Hd (HT.out.trans ((if_neg (by simp)).trans (if_pos g1)))
   have d1 : decide (4096 < (m : Int)) = true := decide_eq_true g1
   clear hl hn hsz hw
   go_wp2_with fail
   go_ret
   rw [HT2.out]
   exact ⟨rfl, ⟨A, HA.out, (fun z => by cases z), (HK1.out.set 2 (.int .i64 13)).set 1 (.int .i64 A)⟩, (HF1.out.set 2 _).set 1 _⟩
  ·have d1 : decide (4096 < (m : Int)) = false := decide_eq_false g1
   obtain ⟨len, hlen⟩ : ∃ k, ys.length = k := ⟨_, rfl⟩
   have HT1 := Hd (HT.out.trans ((if_neg (by simp)).trans (if_neg g1)))
   rw [hlen] at hw HT1
   have HLe := Hd hlen
   by_cases g2 : (len : Int) < (m : Int)
   ·have HT2 := Hd (HT1.out.trans (if_pos g2))
    have d2 : decide ((len : Int) < (m : Int)) = true := decide_eq_true g2
    clear hl hn hsz hlen
    go_wp2_with fail
    go_quiet (fail)
    generalize hwq : World.drewN _ _ = wq
    have HBq : Hid (Below w1.heap.size w1 wq) := Hd (by rw [← hwq]; exact below_drewNR _ _)
    clear hwq c0 c1 c2 z1 z2
    have HK2 := Hd (HK1.out.below HBq.out)
    have z1 := HK2.out.fz 1
    have z2 := HK2.out.fz 2
    have c1 := HK2.out.cell 1
    have c2 := HK2.out.cell 2
    simp only [gB] at c1 c2
    go_wp2_with fail
    go_ret
    rw [HT2.out]
    exact ⟨rfl, ⟨A, HA.out, (fun z => by cases z), (HK2.out.set 2 (.int .i64 10)).set 1 (.int .i64 A)⟩, ((HF1.out.trans (Fo.of_below HBq.out)).set 2 _).set 1 _⟩
   ·have HT2 := Hd (HT1.out.trans (if_neg g2))
    have d2 : decide ((len : Int) < (m : Int)) = false := decide_eq_false g2
    have hBm : Hid (B + m ≤ s.size) := Hd (by omega)
    have kT := rd_cut s hBm.out HSz.out
    rw [← show ys = (byt s).drop B from HY.out rfl, show m = ((m : Int)).toNat from by omega] at kT
    have hw3 : IntKind.i64.wrap ((B : Int) + (m : Int)) = (B : Int) + (m : Int) := by have := HSz.out; have := hBm.out; exact IntWalk.i64_in _ (by omega)
    have hw2 : wrap64 ((B : Int) + (m : Int)) = (B : Int) + (m : Int) := by have := HSz.out; have := hBm.out; unfold wrap64; omega
    clear hl hn hsz hlen
    go_wp2_with fail
    go_quiet (fail)
    generalize hwq : World.drewN _ _ = wq
    have HBq : Hid (Below w1.heap.size w1 wq) := Hd (by rw [← hwq]; exact below_drewNR _ _)
    clear hwq c0 c1 c2 z1 z2
    have HK2 := Hd (HK1.out.below HBq.out)
    have c0 := HK2.out.cell 0
    have c1 := HK2.out.cell 1
    simp only [gB] at c0 c1
    go_wp2_with fail
    have kTw : ∀ W, (Instr.slice 9 (.string s) (some (.int .i64 (B : Int))) (some (.int .i64 (IntKind.i64.wrap ((B : Int) + (m : Int))))) none).run Tryz.prog W = .ok (.string (txt (ys.take ((m : Int)).toNat))) W := by rw [hw3]; exact kT
    refine wp_region_held_drew (S := (fun w' => Below wq.heap.size wq w' ∧ w'.cell? ⟨r, 0, none⟩ = some (.string s) ∧ w'.cell? ⟨r, 1, none⟩ = some (.int .i64 (B : Int)))) (by kernel_rfl) ?_ (fun hHeld => ?_)
    ·(first | exact ⟨(Below.refl _ _).drew, c0, c1⟩ | exact ⟨Below.refl _ _, c0, c1⟩)
    refine tkA 0 (v := ?_) ?_ ?_
    rotate_left
    ·(intro w hSw; (try dsimp only at hSw); go_simp; try rfl)
    try simp only [Act.put, gA]
    refine tkA 1 (v := ?_) ?_ ?_
    rotate_left
    ·(intro w hSw; (try dsimp only at hSw); go_simp; try rfl)
    try simp only [Act.put, gA]
    refine tkA 2 (v := ?_) ?_ ?_
    rotate_left
    ·(intro w hSw; (try dsimp only at hSw); go_simp; try rfl)
    try simp only [Act.put, gA]
    refine tkA 3 (v := ?_) ?_ ?_
    rotate_left
    ·(intro w hSw; (try dsimp only at hSw); go_simp; try rfl)
    try simp only [Act.put, gA]
    refine tkA 4 (v := ?_) ?_ ?_
    rotate_left
    ·(intro w hSw; (try dsimp only at hSw); go_simp; try rfl)
    try simp only [Act.put, gA]
    refine tkA 5 (v := ?_) ?_ ?_
    rotate_left
    ·(intro w hSw; (try dsimp only at hSw); go_simp; try rfl)
    try simp only [Act.put, gA]
    refine tkA 6 (v := ?_) ?_ ?_
    rotate_left
    ·(intro w hSw; (try dsimp only at hSw); go_simp; try rfl)
    try simp only [Act.put, gA]
    refine tkA 7 (v := ?_) ?_ ?_
    rotate_left
    ·(intro w hSw; (try dsimp only at hSw); go_simp; try rfl)
    try simp only [Act.put, gA]
    refine tkA 8 (v := ?_) ?_ ?_
    rotate_left
    ·(intro w hSw; (try dsimp only at hSw); go_simp; try rfl)
    try simp only [Act.put, gA]
    refine tkA 9 (v := ?_) ?_ ?_
    rotate_left
    ·(intro w hSw; (try dsimp only at hSw); go_simp; try rfl)
    try simp only [Act.put, gA]
    refine tkA 10 (v := ?_) ?_ ?_
    rotate_left
    ·(intro w hSw; (try dsimp only at hSw); go_simp; try rfl)
    try simp only [Act.put, gA]
    refine tkA 11 (v := ?_) ?_ ?_
    rotate_left
    ·(intro w hSw; (try dsimp only at hSw); go_simp; try rfl)
    try simp only [Act.put, gA]
    refine tkA 12 (v := ?_) ?_ ?_
    rotate_left
    ·(intro w hSw; (try dsimp only at hSw); go_simp; try rfl)
    try simp only [Act.put, gA]
    refine tkA 13 (v := ?_) ?_ ?_
    rotate_left
    ·(intro w hSw; (try dsimp only at hSw); go_simp; try rfl)
    try simp only [Act.put, gA]
    refine tkA 14 (v := ?_) ?_ ?_
    rotate_left
    ·(intro w hSw; first | (refine Eq.trans (take_slice Tryz.underlying9 rfl rfl rfl rfl (kTw w)) ?_; rfl) | (refine Eq.trans (take_slice Tryz.underlying9 rfl rfl rfl rfl (kT w)) ?_; rfl))
    try simp only [Act.put, gA]
    refine tkA 15 (v := ?_) ?_ ?_
    rotate_left
    ·(intro w hSw; (try dsimp only at hSw); go_simp; try rfl)
    try simp only [Act.put, gA]
    refine wpAnyH_done (by kernel_rfl) ?_ _
    have HBv := Hd hHeld.1
    have HK3 := Hd (HK2.out.below hHeld.1)
    have z1 := HK3.out.fz 1
    have c1 := HK3.out.cell 1
    simp only [gB] at c1
    clear hHeld
    go_wp2_with fail
    go_ret
    rw [HT2.out]
    exact ⟨rfl, ⟨B + m, hBm.out, (fun _ => (by show List.drop (Int.toNat (m : Int)) ys = _; rw [HYB.out, List.drop_drop, Int.toNat_natCast])), (by have h := HK3.out.set 1 (.int .i64 ((B : Int) + (m : Int))); (try rw [hw2]); exact h)⟩, (by (try rw [hw2]); exact (HF1.out.trans ((Fo.of_below HBq.out).trans (Fo.of_below HBv.out))).set 1 _)⟩
 ·have q1 : (e != 0) = true := by simpa using q
  have HT : Hid (gTxt (xs, er) = (⟨#[]⟩, (xs, e))) := Hd (by
   by_cases z : er = 0
   ·have h0 := HG.out
    rw [z] at h0 ⊢
    rw [gTxt_by h0, if_pos q]
   ·have h0 := HG.out
    rw [gNum_er z] at h0
    simp only [Prod.mk.injEq] at h0
    rw [gTxt_er z, h0.2.2])
  have HQ := Hd q
  clear q
  go_wp2_with fail
  go_ret
  rw [HT.out]
  exact ⟨rfl, ⟨B, HB.out, (fun z => absurd z HQ.out), HK1.out⟩, HF1.out⟩
theorem dend (r : Nat) (s : ByteArray) (st : RSt) (w : World) (h : RD w r s st) :
  Calls Tryz.prog 51 #[.pointer (some ⟨r, 0, none⟩)] w fun e w' => Hid (e = .returned (.int .i64 (endE st))) ∧ Below w.heap.size w w' := by
 obtain ⟨xs, er⟩ := st
 obtain ⟨A, hA, hx, hK⟩ := h
 have c0 := hK.cell 0
 have c1 := hK.cell 1
 have c2 := hK.cell 2
 simp only [gB] at c0 c1 c2
 by_cases q : er = 0
 ·subst q
  have hl : xs.length = s.size - A := by rw [show xs = (byt s).drop A from hx rfl, List.length_drop, byt_length]
  by_cases p : A < s.size
  ·have p1 : decide ((A : Int) < (s.size : Int)) = true := decide_eq_true (by omega)
   have p2 : (A : Int) < (s.size : Int) := by omega
   have HE : Hid (endE (xs, 0) = 11) := Hd (by unfold endE; rw [if_pos ⟨rfl, by show 0 < xs.length; omega⟩])
   rw [HE.out]
   clear hl hx hK hA p
   go_enter Tryz.func51, Tryz.ntmps51
   go_wp2_with fail
   go_quiet (fail)
   go_wp2_with fail
   go_ret
   exact ⟨rfl, below_drewNR _ _⟩
  ·have p1 : decide ((A : Int) < (s.size : Int)) = false := decide_eq_false (by omega)
   have p2 : ¬ (A : Int) < (s.size : Int) := by omega
   have HE : Hid (endE (xs, 0) = 0) := Hd (by unfold endE; rw [if_neg (by rintro ⟨_, z⟩; have : 0 < xs.length := z; omega)])
   rw [HE.out]
   have HK := Hd hK
   clear hl hx hK hA p
   go_enter Tryz.func51, Tryz.ntmps51
   go_wp2_with fail
   go_quiet (fail)
   generalize hwq : World.drewN _ _ = wq
   have HBq : Hid (Below w.heap.size w wq) := Hd (by rw [← hwq]; exact below_drewNR _ _)
   clear hwq c0 c1 c2
   have c2 := (HK.out.below HBq.out).cell 2
   simp only [gB] at c2
   go_wp2_with fail
   go_ret
   exact ⟨rfl, HBq.out⟩
 ·have q1 : (er == 0) = false := by simpa using q
  have HE : Hid (endE (xs, er) = er) := Hd (by unfold endE; rw [if_neg (by rintro ⟨z, _⟩; exact q z)])
  rw [HE.out]
  have HK := Hd hK
  clear hx hK hA q
  go_enter Tryz.func51, Tryz.ntmps51
  go_wp2_with fail
  go_quiet (fail)
  generalize hwq : World.drewN _ _ = wq
  have HBq : Hid (Below w.heap.size w wq) := Hd (by rw [← hwq]; exact below_drewNR _ _)
  clear hwq c0 c1 c2
  have c2 := (HK.out.below HBq.out).cell 2
  simp only [gB] at c2
  go_wp2_with fail
  go_ret
  exact ⟨rfl, HBq.out⟩
theorem RD.other {w : World} {r : Nat} {s : ByteArray} {st : RSt} (h : RD w r s st) {k : Nat} (hk : r ≠ k) (j : Nat) (u : Value) : RD (w.setCell ⟨k, j, none⟩ u) r s st := by
 obtain ⟨a, h1, h2, h3⟩ := h
 exact ⟨a, h1, h2, h3.other hk j u⟩
theorem Fo.up {r B : Nat} {w w' : World} (h : Fo r w w') (hB : w.heap.size ≤ B) (j : Nat) (u : Value) : Fo r w (w'.setCell ⟨B, j, none⟩ u) :=
 ⟨h.os, h.tape, h.output, by simpa using h.size, fun k hk hr => (Below.heap_setCell _ _ _ _ (by show k ≠ B; omega)).trans (h.block k hk hr)⟩
theorem Fo.upAll {r : Nat} {w w' : World} (o : Obj) (h : Fo r w w') : Fo r w (w'.alloc o) := h.trans (Fo.of_below ((Below.refl _ _).alloc (Nat.le_refl _) o))
theorem numG_err : ∀ (f i : Nat) (acc : Int) (l : List Int), (numG f i acc l).2.2 ≠ 0 → (numG f i acc l).1 = 0
 | 0, _, _, _, _ => rfl
 | f + 1, _, _, [], _ => rfl
 | f + 1, i, acc, x :: l, h => by
  unfold numG at h ⊢
  split
  ·rename_i q
   rw [if_pos q] at h
   exact numG_err f (i + 1) _ l h
  ·rename_i q
   rw [if_neg q] at h
   split
   ·rename_i p
    rw [if_pos p] at h
    exact absurd rfl h
   ·rfl
/-- A call of what is read: `in` at g, what comes out at g + 1, the thing itself at g + 1 + 1. -/
structure IS (w0 w : World) (r : Nat) (s : ByteArray) (g : Nat) (T : TypeId) (zs cs : List Value) (st : RSt) : Prop where
 rd : RD w r s st
 bi : Bk w g 110 [.pointer (some ⟨r, 0, none⟩)]
 bz : Bk w (g + 1) T zs
 bx : Bk w (g + 1 + 1) T cs
 fo : Fo r w0 w
 hr : r < w0.heap.size
 hg : w0.heap.size ≤ g
theorem IS.start {w : World} {r : Nat} {s : ByteArray} {st : RSt} (h : RD w r s st) (T : TypeId) (zs : List Value) :
  IS w (((w.alloc (.cells #[.pointer (some ⟨r, 0, none⟩)] 110)).alloc (.cells zs.toArray T)).alloc (.cells zs.toArray T)) r s w.heap.size T zs zs st := by
 have b1 : Below w.heap.size w (w.alloc (.cells #[.pointer (some ⟨r, 0, none⟩)] 110)) := (Below.refl _ _).alloc (Nat.le_refl _) _
 have b2 : Below w.heap.size w ((w.alloc (.cells #[.pointer (some ⟨r, 0, none⟩)] 110)).alloc (.cells zs.toArray T)) := b1.alloc b1.size _
 have b3 : Below w.heap.size w (((w.alloc (.cells #[.pointer (some ⟨r, 0, none⟩)] 110)).alloc (.cells zs.toArray T)).alloc (.cells zs.toArray T)) := b2.alloc b2.size _
 refine ⟨h.below b3, ((Bk.new w 110 [.pointer (some ⟨r, 0, none⟩)]).old _).old _, ?_, ?_, Fo.of_below b3, h.lt, Nat.le_refl _⟩
 ·have := (Bk.new (w.alloc (.cells #[.pointer (some ⟨r, 0, none⟩)] 110)) T zs).old (.cells zs.toArray T)
  simpa using this
 ·have := Bk.new ((w.alloc (.cells #[.pointer (some ⟨r, 0, none⟩)] 110)).alloc (.cells zs.toArray T)) T zs
  simpa using this
section
variable {w0 w w1 : World} {r : Nat} {s : ByteArray} {g : Nat} {T : TypeId} {zs cs : List Value} {st st' : RSt}
theorem IS.call (h : IS w0 w r s g T zs cs st) (h1 : RD w1 r s st') (h2 : Fo r w w1) : IS w0 w1 r s g T zs cs st' :=
 have := h.hr; have := h.hg
 ⟨h1, h.bi.fo h2 (by omega), h.bz.fo h2 (by omega), h.bx.fo h2 (by omega), h.fo.trans h2, h.hr, h.hg⟩
theorem IS.set (h : IS w0 w r s g T zs cs st) (j : Nat) (u : Value) : IS w0 (w.setCell ⟨g + 1 + 1, j, none⟩ u) r s g T zs (cs.set j u) st :=
 have := h.hr; have := h.hg
 ⟨h.rd.other (by omega) j u, h.bi.other (by omega) j u, h.bz.other (by omega) j u, h.bx.set j u, h.fo.up (by omega) j u, h.hr, h.hg⟩
theorem IS.under (h : IS w0 w r s g T zs cs st) (hb : Below w.heap.size w w1) : IS w0 w1 r s g T zs cs st := h.call (h.rd.below hb) (Fo.of_below hb)
theorem IS.ci (h : IS w0 w r s g T zs cs st) : w.cell? ⟨g, 0, none⟩ = some (.pointer (some ⟨r, 0, none⟩)) := h.bi.cell 0
end
theorem inum (r : Nat) (s : ByteArray) (st : RSt) (w : World) (h : RD w r s st) (hs : s.size ≤ 1000000000) :
  Calls Tryz.prog 47 #[.agg #[.pointer (some ⟨r, 0, none⟩)]] w (RDP (.int .i64 (gNum st).1) r s (gNum st).2 w) := by
 have HB := Hd (Bk.new w 110 [.pointer (some ⟨r, 0, none⟩)])
 have HC := Hd (dnum r s st _ (h.below ((Below.refl _ _).alloc (Nat.le_refl _) (.cells #[.pointer (some ⟨r, 0, none⟩)] 110))) hs)
 have c0 := HB.out.cell 0
 simp only [gB] at c0
 clear h
 go_enter Tryz.func47, Tryz.ntmps47
 go_wp2_with fail
 refine HC.out.mono ?_
 rintro e w1 ⟨he, h1, h2⟩
 rw [he.out]
 have H1 := Hd h1
 have H2 := Hd h2
 clear c0 he h1 h2 HC
 go_wp2_with fail
 go_ret
 exact ⟨rfl, H1.out, (Fo.upAll _ (Fo.refl _ _)).trans H2.out⟩
theorem itext (r : Nat) (s : ByteArray) (st : RSt) (w : World) (h : RD w r s st) (hs : s.size ≤ 1000000000) :
  Calls Tryz.prog 76 #[.agg #[.pointer (some ⟨r, 0, none⟩)]] w (RDP (.string (gTxt st).1) r s (gTxt st).2 w) := by
 have HB := Hd (Bk.new w 110 [.pointer (some ⟨r, 0, none⟩)])
 have HC := Hd (dtext r s st _ (h.below ((Below.refl _ _).alloc (Nat.le_refl _) (.cells #[.pointer (some ⟨r, 0, none⟩)] 110))) hs)
 have c0 := HB.out.cell 0
 simp only [gB] at c0
 clear h
 go_enter Tryz.func76, Tryz.ntmps76
 go_wp2_with fail
 refine HC.out.mono ?_
 rintro e w1 ⟨he, h1, h2⟩
 rw [he.out]
 have H1 := Hd h1
 have H2 := Hd h2
 clear c0 he h1 h2 HC
 go_wp2_with fail
 go_ret
 exact ⟨rfl, H1.out, (Fo.upAll _ (Fo.refl _ _)).trans H2.out⟩
theorem ilist (r : Nat) (s : ByteArray) (st : RSt) (w : World) (h : RD w r s st) (hs : s.size ≤ 1000000000) :
  Calls Tryz.prog 75 #[.agg #[.pointer (some ⟨r, 0, none⟩)]] w (RDP (.int .i64 (gCnt st).1) r s (gCnt st).2 w) := by
 obtain ⟨xs, er⟩ := st
 obtain ⟨wa, hwa⟩ : ∃ wa, w.alloc (.cells #[.pointer (some ⟨r, 0, none⟩)] 110) = wa := ⟨_, rfl⟩
 have HB := Hd (Bk.new w 110 [.pointer (some ⟨r, 0, none⟩)])
 have hRa := h.below ((Below.refl _ _).alloc (Nat.le_refl _) (.cells #[.pointer (some ⟨r, 0, none⟩)] 110))
 have HLt := Hd h.lt
 have HF0 : Hid (Fo r w wa) := Hd (by rw [← hwa]; exact Fo.upAll _ (Fo.refl _ _))
 have hrw : r ≠ w.heap.size := by have := HLt.out; omega
 have c0 := HB.out.cell 0
 simp only [gB] at c0
 have HRa := Hd hRa
 obtain ⟨A, hA, hx, hK⟩ := hRa
 have k0 := hK.cell 0
 have k1 := hK.cell 1
 have k2 := hK.cell 2
 simp only [gB] at k0 k1 k2
 rw [hwa] at HB HRa c0 k0 k1 k2 hK
 have HA := Hd hA
 have HX := Hd hx
 have HK := Hd hK
 obtain ⟨n, ys, e, hg⟩ : ∃ n ys e, gNum (xs, er) = (n, (ys, e)) := ⟨_, _, _, rfl⟩
 have HG := Hd hg
 have HC := Hd (dnum r s (xs, er) wa HRa.out hs)
 rw [hg] at HC
 have HN := Hd (gNum_pos (xs, er))
 rw [hg] at HN
 have HT : Hid (gCnt (xs, er) = if 1024 < n then (0, (ys, 13)) else (n.toNat, (ys, e))) := Hd (by unfold gCnt; rw [HG.out])
 clear h hA hx hK hg
 go_enter Tryz.func75, Tryz.ntmps75
 go_wp2_with fail
 refine HC.out.mono ?_
 rintro e1 w1 ⟨he, h1, h2⟩
 rw [he.out]
 have HR1 := Hd h1
 have HF1 := Hd h2
 have HB1 := Hd (HB.out.fo h2 (fun q => hrw q.symm))
 obtain ⟨B, hB, hy, hK1⟩ := h1
 have HK1 := Hd hK1
 clear he h2 c0 k0 k1 k2 HC
 have c0 := HB1.out.cell 0
 have k0 := hK1.cell 0
 have k1 := hK1.cell 1
 have k2 := hK1.cell 2
 have z1 := hK1.fz 1
 have z2 := hK1.fz 2
 simp only [gB] at c0 k0 k1 k2
 clear hK1 hy hB
 by_cases q : e = 0
 ·subst q
  by_cases g1 : 1024 < n
  ·have HT2 := Hd (HT.out.trans (if_pos g1))
   have d1 : decide (1024 < n) = true := decide_eq_true g1
   go_wp2_with fail
   go_ret
   rw [HT2.out]
   exact ⟨rfl, ⟨A, HA.out, (fun z => by cases z), (HK1.out.set 2 (.int .i64 13)).set 1 (.int .i64 A)⟩, (HF0.out.trans ((HF1.out.set 2 _).set 1 _))⟩
  ·have HT2 := Hd (HT.out.trans (if_neg g1))
   have d1 : decide (1024 < n) = false := decide_eq_false g1
   obtain ⟨m, hm⟩ := Int.eq_ofNat_of_zero_le HN.out
   subst hm
   go_wp2_with fail
   go_ret
   rw [HT2.out]
   exact ⟨rfl, HR1.out, HF0.out.trans HF1.out⟩
 ·have q1 : (e == 0) = false := by simpa using q
  have q2 : (e != 0) = true := by simpa using q
  have hn0 : n = 0 := by
   have := HG.out
   by_cases z : er = 0
   ·subst z
    rw [gNum_ok] at this
    simp only [Prod.mk.injEq] at this
    obtain ⟨t1, t2, t3⟩ := this
    rw [← t1]
    exact numG_err 8 0 0 xs (by rw [t3]; exact q)
   ·rw [gNum_er z] at this
    simp only [Prod.mk.injEq] at this
    exact this.1.symm
  subst hn0
  have HT2 := Hd (HT.out.trans (if_neg (by omega)))
  go_wp2_with fail
  go_ret
  rw [HT2.out]
  exact ⟨rfl, HR1.out, HF0.out.trans HF1.out⟩
theorem inumE (r : Nat) (s : ByteArray) (st st' : RSt) (n : Int) (w : World) (h : RD w r s st) (hs : s.size ≤ 1000000000) (hE : gNum st = (n, st')) : Calls Tryz.prog 47 #[.agg #[.pointer (some ⟨r, 0, none⟩)]] w (RDP (.int .i64 n) r s st' w) := by
 have := inum r s st w h hs
 rw [hE] at this
 exact this
theorem itextE (r : Nat) (s : ByteArray) (st st' : RSt) (n : ByteArray) (w : World) (h : RD w r s st) (hs : s.size ≤ 1000000000) (hE : gTxt st = (n, st')) : Calls Tryz.prog 76 #[.agg #[.pointer (some ⟨r, 0, none⟩)]] w (RDP (.string n) r s st' w) := by
 have := itext r s st w h hs
 rw [hE] at this
 exact this
theorem ilistE (r : Nat) (s : ByteArray) (st st' : RSt) (n : Nat) (w : World) (h : RD w r s st) (hs : s.size ≤ 1000000000) (hE : gCnt st = (n, st')) : Calls Tryz.prog 75 #[.agg #[.pointer (some ⟨r, 0, none⟩)]] w (RDP (.int .i64 n) r s st' w) := by
 have := ilist r s st w h hs
 rw [hE] at this
 exact this
/-- What comes out: the block g + 1 with the thing's cells. -/
theorem isr_out {w0 w : World} {r : Nat} {s : ByteArray} {g : Nat} {T : TypeId} {zs cs : List Value} {st : RSt} (h : IS w0 w r s g T zs cs st) :
  RD (w.setRow (g + 1) cs.toArray) r s st ∧ Fo r w0 (w.setRow (g + 1) cs.toArray) ∧ (∀ k, k ≠ g + 1 → (w.setRow (g + 1) cs.toArray).heap[k]? = w.heap[k]?) ∧ w.heap.size ≤ (w.setRow (g + 1) cs.toArray).heap.size := by
 have := h.hr; have := h.hg
 have hb : ∀ k, k ≠ g + 1 → (w.setRow (g + 1) cs.toArray).heap[k]? = w.heap[k]? := fun k hk => (sx_setRow _ (g + 1) cs.toArray).block k hk
 refine ⟨?_, ⟨h.fo.os, h.fo.tape, h.fo.output, (by have := h.fo.size; rw [(sx_setRow _ (g + 1) cs.toArray).size]; exact this), fun k hk hne => (hb k (by omega)).trans (h.fo.block k hk hne)⟩, hb, by rw [(sx_setRow _ (g + 1) cs.toArray).size]; exact Nat.le_refl _⟩
 obtain ⟨a, h1, h2, h3⟩ := h.rd
 exact ⟨a, h1, h2, (hb r (by omega)).trans h3⟩
theorem iid (r : Nat) (s : ByteArray) (st st' : RSt) (b0 b1 b2 : Int) (w : World) (h : RD w r s st) (hs : s.size ≤ 1000000000) (hE : idC.rd st = ((b0, b1, b2), st')) :
  Calls Tryz.prog 49 #[.agg #[.pointer (some ⟨r, 0, none⟩)]] w (RDP (.agg #[.int .i64 b0, .int .i64 b1, .int .i64 b2]) r s st' w) := by
 simp only [idC, pairC_rd, numC_rd] at hE
 obtain ⟨d0, s0, g0⟩ : ∃ b s, gNum st = (b, s) := ⟨_, _, rfl⟩
 rw [g0] at hE
 simp only at hE
 obtain ⟨d1, s1, g1⟩ : ∃ b s, gNum s0 = (b, s) := ⟨_, _, rfl⟩
 rw [g1] at hE
 simp only at hE
 obtain ⟨d2, s2, g2⟩ : ∃ b s, gNum s1 = (b, s) := ⟨_, _, rfl⟩
 rw [g2] at hE
 simp only [Prod.mk.injEq] at hE
 obtain ⟨⟨rfl, rfl, rfl⟩, rfl⟩ := hE
 have G0 := Hd g0
 have G1 := Hd g1
 have G2 := Hd g2
 have HI := Hd (IS.start h 49 [.int .i64 0, .int .i64 0, .int .i64 0])
 have c0 := HI.out.ci
 clear h g0 g1 g2
 go_enter Tryz.func49, Tryz.ntmps49
 go_wp2_with fail
 refine (inumE r s _ _ _ _ HI.out.rd hs G0.out).mono ?_
 rintro e w1 ⟨he, h1, h2⟩
 rw [he.out]
 have HJ := Hd (HI.out.call h1 h2)
 have y0 := HJ.out.bx.cell 0
 have z0 := HJ.out.bx.fz 0
 simp only [List.set_cons_zero, List.set_cons_succ, List.getElem?_cons_zero, List.getElem?_cons_succ] at y0
 obtain ⟨v1, hv⟩ : ∃ q, (w1.setCell ⟨w.heap.size + 1 + 1, 0, none⟩ (.int .i64 d0)) = q := ⟨_, rfl⟩
 have HK := Hd (HJ.out.set 0 (.int .i64 d0))
 simp only [List.set_cons_zero, List.set_cons_succ] at HK
 rw [hv] at HK
 clear HI HJ c0 he h1 h2
 have c0 := HK.out.ci
 have HI := HK
 clear HK
 go_wp2_with fail
 clear hv y0 z0
 refine (inumE r s _ _ _ _ HI.out.rd hs G1.out).mono ?_
 rintro e w2 ⟨he, h1, h2⟩
 rw [he.out]
 have HJ := Hd (HI.out.call h1 h2)
 have y0 := HJ.out.bx.cell 1
 have z0 := HJ.out.bx.fz 1
 simp only [List.set_cons_zero, List.set_cons_succ, List.getElem?_cons_zero, List.getElem?_cons_succ] at y0
 obtain ⟨v2, hv⟩ : ∃ q, (w2.setCell ⟨w.heap.size + 1 + 1, 1, none⟩ (.int .i64 d1)) = q := ⟨_, rfl⟩
 have HK := Hd (HJ.out.set 1 (.int .i64 d1))
 simp only [List.set_cons_zero, List.set_cons_succ] at HK
 rw [hv] at HK
 clear HI HJ c0 he h1 h2
 have c0 := HK.out.ci
 have HI := HK
 clear HK
 go_wp2_with fail
 clear hv y0 z0
 refine (inumE r s _ _ _ _ HI.out.rd hs G2.out).mono ?_
 rintro e w3 ⟨he, h1, h2⟩
 rw [he.out]
 have HJ := Hd (HI.out.call h1 h2)
 have y0 := HJ.out.bx.cell 2
 have z0 := HJ.out.bx.fz 2
 simp only [List.set_cons_zero, List.set_cons_succ, List.getElem?_cons_zero, List.getElem?_cons_succ] at y0
 obtain ⟨v3, hv⟩ : ∃ q, (w3.setCell ⟨w.heap.size + 1 + 1, 2, none⟩ (.int .i64 d2)) = q := ⟨_, rfl⟩
 have HK := Hd (HJ.out.set 2 (.int .i64 d2))
 simp only [List.set_cons_zero, List.set_cons_succ] at HK
 rw [hv] at HK
 clear HI HJ c0 he h1 h2
 have c0 := HK.out.ci
 have HI := HK
 clear HK
 have HX := Hd HI.out.bx
 have HZ := Hd HI.out.bz
 have HXi : Hid ((Tryz.prog.info? 49).map (·.size) = some 3) := Hd (by kernel_rfl)
 have HL := Hd (isr_out HI.out)
 have HLv := Hd (run_loadVar_row _ _ _ _ #[.int .i64 d0, .int .i64 d1, .int .i64 d2] (0, 0) _ (heap_setRow_same _ _ #[.int .i64 0, .int .i64 0, .int .i64 0] #[.int .i64 d0, .int .i64 d1, .int .i64 d2] _ HZ.out) Tryz.underlying49 rfl HXi.out)
 go_wp2_with (first | (refine wpList_load_row rfl _ _ rfl (w.heap.size + 1 + 1) rfl 49 #[.int .i64 d0, .int .i64 d1, .int .i64 d2] (0, 0) _ HX.out Tryz.underlying49 rfl HXi.out ?_) | (refine wpList_store_row rfl 49 _ _ rfl (w.heap.size + 1) rfl #[.int .i64 d0, .int .i64 d1, .int .i64 d2] rfl #[.int .i64 0, .int .i64 0, .int .i64 0] 49 HZ.out HXi.out rfl (by rw [← Array.all_toList]; rfl) ?_))
 have hlv := HLv.out
 exact bodyPost_ret (v := .agg #[.int .i64 d0, .int .i64 d1, .int .i64 d2]) (by simp [results, Tryz.results49, asAddr, Act.put, hlv]) rfl (⟨rfl, HL.out.1, HL.out.2.1⟩)
theorem ibal (r : Nat) (s : ByteArray) (st st' : RSt) (b0 b1 : Int) (w : World) (h : RD w r s st) (hs : s.size ≤ 1000000000) (hE : balC.rd st = ((b0, b1), st')) :
  Calls Tryz.prog 77 #[.agg #[.pointer (some ⟨r, 0, none⟩)]] w (RDP (.agg #[.int .i64 b0, .int .i64 b1]) r s st' w) := by
 simp only [balC, pairC_rd, numC_rd] at hE
 obtain ⟨d0, s0, g0⟩ : ∃ b s, gNum st = (b, s) := ⟨_, _, rfl⟩
 rw [g0] at hE
 simp only at hE
 obtain ⟨d1, s1, g1⟩ : ∃ b s, gNum s0 = (b, s) := ⟨_, _, rfl⟩
 rw [g1] at hE
 simp only [Prod.mk.injEq] at hE
 obtain ⟨⟨rfl, rfl⟩, rfl⟩ := hE
 have G0 := Hd g0
 have G1 := Hd g1
 have HI := Hd (IS.start h 52 [.int .i64 0, .int .i64 0])
 have c0 := HI.out.ci
 clear h g0 g1
 go_enter Tryz.func77, Tryz.ntmps77
 go_wp2_with fail
 refine (inumE r s _ _ _ _ HI.out.rd hs G0.out).mono ?_
 rintro e w1 ⟨he, h1, h2⟩
 rw [he.out]
 have HJ := Hd (HI.out.call h1 h2)
 have y0 := HJ.out.bx.cell 0
 have z0 := HJ.out.bx.fz 0
 simp only [List.set_cons_zero, List.set_cons_succ, List.getElem?_cons_zero, List.getElem?_cons_succ] at y0
 obtain ⟨v1, hv⟩ : ∃ q, (w1.setCell ⟨w.heap.size + 1 + 1, 0, none⟩ (.int .i64 d0)) = q := ⟨_, rfl⟩
 have HK := Hd (HJ.out.set 0 (.int .i64 d0))
 simp only [List.set_cons_zero, List.set_cons_succ] at HK
 rw [hv] at HK
 clear HI HJ c0 he h1 h2
 have c0 := HK.out.ci
 have HI := HK
 clear HK
 go_wp2_with fail
 clear hv y0 z0
 refine (inumE r s _ _ _ _ HI.out.rd hs G1.out).mono ?_
 rintro e w2 ⟨he, h1, h2⟩
 rw [he.out]
 have HJ := Hd (HI.out.call h1 h2)
 have y0 := HJ.out.bx.cell 1
 have z0 := HJ.out.bx.fz 1
 simp only [List.set_cons_zero, List.set_cons_succ, List.getElem?_cons_zero, List.getElem?_cons_succ] at y0
 obtain ⟨v2, hv⟩ : ∃ q, (w2.setCell ⟨w.heap.size + 1 + 1, 1, none⟩ (.int .i64 d1)) = q := ⟨_, rfl⟩
 have HK := Hd (HJ.out.set 1 (.int .i64 d1))
 simp only [List.set_cons_zero, List.set_cons_succ] at HK
 rw [hv] at HK
 clear HI HJ c0 he h1 h2
 have c0 := HK.out.ci
 have HI := HK
 clear HK
 have HX := Hd HI.out.bx
 have HZ := Hd HI.out.bz
 have HXi : Hid ((Tryz.prog.info? 52).map (·.size) = some 2) := Hd (by kernel_rfl)
 have HL := Hd (isr_out HI.out)
 have HLv := Hd (run_loadVar_row _ _ _ _ #[.int .i64 d0, .int .i64 d1] (0, 0) _ (heap_setRow_same _ _ #[.int .i64 0, .int .i64 0] #[.int .i64 d0, .int .i64 d1] _ HZ.out) Tryz.underlying52 rfl HXi.out)
 go_wp2_with (first | (refine wpList_load_row rfl _ _ rfl (w.heap.size + 1 + 1) rfl 52 #[.int .i64 d0, .int .i64 d1] (0, 0) _ HX.out Tryz.underlying52 rfl HXi.out ?_) | (refine wpList_store_row rfl 52 _ _ rfl (w.heap.size + 1) rfl #[.int .i64 d0, .int .i64 d1] rfl #[.int .i64 0, .int .i64 0] 52 HZ.out HXi.out rfl (by rw [← Array.all_toList]; rfl) ?_))
 have hlv := HLv.out
 exact bodyPost_ret (v := .agg #[.int .i64 d0, .int .i64 d1]) (by simp [results, Tryz.results77, asAddr, Act.put, hlv]) rfl (⟨rfl, HL.out.1, HL.out.2.1⟩)
end Go.Proofs.YtnancdbkmompdaaGreat
