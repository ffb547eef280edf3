/-
 Package code: lists, and structs with lists, with a reader.
-/
import Derived.Test.YtnancdbkmompdaaGreatRY
import Derived.Test.YtnancdbkmompdaaGreatRQF
import Derived.Test.YtnancdbkmompdaaGreatCdRR
namespace Go.Proofs.YtnancdbkmompdaaGreat
open Go.RowKit
set_option linter.unusedSimpArgs false
set_option linter.unusedVariables false
set_option maxRecDepth 100000
set_option maxHeartbeats 40000000
theorem r_lid (B b c : Nat) (a0 : Option Addr) (m0 c0 : Nat) (l : List Id3) (s s' : RSt) (w : World) (h : RO w B b c s) (hE : (listC idC).rd s = (l, s')) :
  Calls Tryz.prog 96 #[fR c, .slice a0 m0 c0, .func (.func 60) #[] #[]] w (RQ KI (plainR idE) l B b c s' w) := by
 have hN := gCnt_le s
 obtain ⟨N, s1, hC⟩ : ∃ x y, gCnt s = (x, y) := ⟨_, _, rfl⟩
 rw [listC_rd, hC] at hE
 rw [hC] at hN
 simp only at hE hN
 have E := Hd hE
 have EC := Hd hC
 have HW := Hd h
 have hcN : N ≤ 1000000 := by omega
 have m1 := mrcount c
 have m2 := tR c
 clear hE hC h
 go_enter Tryz.func96, Tryz.ntmps96
 go_wp2_with fail
 refine (crcount B b c _ _ _ HW.out).mono ?_
 rw [EC.out]
 rintro e w1 ⟨he, h1, h2⟩
 rw [he.out]
 clear he
 have H1 := Hd h1
 have H2 := Hd h2
 clear h1 h2
 go_wp2_with (refine KI.makeN rfl _ _ rfl clsI rfl N rfl rfl hcN w1.heap.size (Nat.le_refl _) ?_)
 intro vz w2 hoz hbz hgz
 obtain ⟨az, cz, rfl⟩ : ∃ az cz, vz = .slice az N cz := by
  obtain ⟨az, cz, e⟩ := hoz.slice
  exact ⟨az, cz, by rw [e]; simp⟩
 have HLZ : Hid (∀ j, (Value.slice az N cz).ownBlock = some j → w1.heap.size ≤ j ∧ j < w2.heap.size) := Hd (fun j hj => ⟨hoz.from j hj, (hoz.blk j hj).1⟩)
 have HOZ := Hd hoz
 have HZ := Hd (show b < w1.heap.size ∧ c < w1.heap.size ∧ B ≤ w1.heap.size ∧ w.heap.size ≤ w1.heap.size ∧ w1.heap.size ≤ w2.heap.size from ⟨H1.out.lt.1, H1.out.lt.2, by have := H1.out.lt; have := H1.out.low; omega, H2.out.size, hbz.size⟩)
 have HS0 := Hd (H1.out.below hbz)
 have HF0 := Hd (H2.out.trans (Ft.of_below (b := b) (c := c) hbz HZ.out.2.2.1))
 clear hoz hbz hgz H1 H2
 go_wp2_with (refine KI.make rfl _ _ rfl rfl N rfl hcN w2.heap.size (Nat.le_refl _) ?_)
 intro v2 w3 ho hb hne hg
 obtain ⟨a2, c2, rfl⟩ : ∃ a2 c2, v2 = .slice a2 0 c2 := ho.slice
 have HO := Hd (show OwnR KI (plainR idE) w3 w2.heap.size (.slice a2 0 c2) [] from OwnR.nil ho)
 have HOZ3 := Hd (HOZ.out.below hb)
 have HS := Hd (HS0.out.below hb)
 have HF := Hd (HF0.out.trans (Ft.of_below (b := b) (c := c) hb (by have := HZ.out; omega)))
 have HP := Hd hb.size
 clear ho hb hne hg HS0 HF0 HOZ
 go_wp2_with fail
 go_loopw [10, 27] (fun o i wr => ∃ (k : Nat) (a : Option Addr) (cp : Nat) (lk : List Id3) (sk : RSt), k ≤ N ∧ i = .int .i64 k ∧ o = .slice a k cp ∧ Hid (gList idC.rd k s1 = (lk, sk)) ∧ Hid (OwnR KI (plainR idE) wr w2.heap.size (.slice a k cp) lk) ∧ Hid (RO wr B b c sk) ∧ Hid (Ft B b c w wr) ∧ Hid (w2.heap.size ≤ wr.heap.size) ∧ Hid (KI.Own wr w1.heap.size (.slice az N cz) (List.replicate N clsI))) (fun _ i _ => N - (intOf i).toNat)
 case atStart => exact ⟨0, a2, c2, [], s1, by omega, rfl, rfl, rfl, HO.out, HS.out, HF.out, HP.out, HOZ3.out⟩
 case round =>
  clear HO HS HF HP HOZ3
  obtain ⟨k, a, cp, lk, sk, hk, rfl, rfl, HG, HO, HS, HF, HP, HOZ⟩ := hrel
  by_cases hlt : k < N
  ·obtain ⟨g, off, ha, hgl, hcel⟩ := zero_at HOZ.out hlt
   subst ha
   have y0 : wr.cell? ⟨g, off + k * 3, none⟩ = some (.int .i64 0) := hcel 0 _ rfl
   have y1 : wr.cell? ⟨g, off + k * 3 + 1, none⟩ = some (.int .i64 0) := hcel 1 _ rfl
   have y2 : wr.cell? ⟨g, off + k * 3 + 2, none⟩ = some (.int .i64 0) := hcel 2 _ rfl
   obtain ⟨⟨x0, x1, x2⟩, s2, hx⟩ : ∃ x y, idC.rd sk = (x, y) := ⟨_, _, rfl⟩
   have EX := Hd hx
   have HG2 : Hid (gList idC.rd (k + 1) s1 = (lk ++ [(x0, x1, x2)], s2)) := Hd (by rw [gList_snoc, HG.out]; simp only; rw [show idC.rd sk = ((x0, x1, x2), s2) from hx])
   clear hcel hx
   go_wp2_with fail
   refine (r_id B b c _ _ _ x0 x1 x2 _ _ _ HS.out EX.out).mono ?_
   rintro e w4 ⟨he, h1, h2⟩
   rw [he.out]
   clear he y0 y1 y2
   obtain ⟨rk, g1, g2, g3⟩ := HO.out
   have hbc : ∀ j, (Value.slice a k cp).ownBlock = some j → j ≠ b ∧ j ≠ c := fun j hj => by have := g1.from j hj; have := HZ.out; omega
   have hO := g1.ft h2 (by decide) hbc
   have hOZ := HOZ.out.ft h2 (by decide) (fun j hj => by have := HLZ.out j hj; have := HZ.out; omega)
   have HS2 := Hd h1
   have HF2 := Hd (HF.out.trans h2)
   have hz3 : w2.heap.size ≤ w4.heap.size := by have := HP.out; have := h2.size; omega
   obtain ⟨X, hX⟩ : ∃ X : Cls 3, X = ⟨[.int .i64 x0, .int .i64 x1, .int .i64 x2], rfl, by intro v hv; simp only [List.mem_cons, List.not_mem_nil, or_false] at hv; rcases hv with rfl | rfl | rfl <;> rfl⟩ := ⟨_, rfl⟩
   have hXe : KI.enc X = [.int .i64 x0, .int .i64 x1, .int .i64 x2] := by rw [hX]; rfl
   have HXc : Hid (X.cs = [.int .i64 x0, .int .i64 x1, .int .i64 x2]) := Hd (by rw [hX])
   have HO2 := Hd (hO.below ((Below.refl _ _).alloc (Nat.le_refl _) (.cells (KI.enc X).toArray 49)))
   have HOZ2 := Hd (hOZ.below ((Below.refl _ _).alloc (Nat.le_refl _) (.cells (KI.enc X).toArray 49)))
   have HQ := Hd (KI.rd_boxAt X 49 1 w4 w4.heap.size rfl)
   rw [hXe] at HO2 HQ HOZ2
   clear hX hXe
   have HBC := Hd hbc
   have HFr := Hd g1.from
   have hgk : rk.length = k := by
    obtain ⟨_, _, e⟩ := g1.slice
    simp only [Value.slice.injEq] at e
    exact e.2.1.symm
   have HGK := Hd hgk
   have HG23 := Hd (And.intro g2 g3)
   have hlk : rk.length + [X].length ≤ 1000000 := by rw [hgk]; simp; omega
   clear hO hOZ h1 h2 hbc g1 g2 g3 hgk HS HF HO HP HOZ
   go_wp2_with (refine KI.app rfl _ _ rfl w2.heap.size _ rk rfl HO2.out _ [X] rfl HQ.out hlk (by simp; omega) ?_)
   intro v5 w5 ho hb5 hg5 hne5
   obtain ⟨a5, c5, rfl⟩ : ∃ a5 c5, v5 = .slice a5 (k + 1) c5 := by
    obtain ⟨a5, c5, e5⟩ := ho.slice
    exact ⟨a5, c5, by rw [e5]; simp [HGK.out]⟩
   have HO5 : Hid (OwnR KI (plainR idE) w5 w2.heap.size (.slice a5 (k + 1) c5) (lk ++ [(x0, x1, x2)])) := Hd (OwnR.more (w := w5) (v := .slice a k cp) ho HG23.out.1 (fun j p q => HG23.out.2 j p q) HXc.out)
   have HS5 := Hd ((HS2.out.below ((Below.refl _ _).alloc (Nat.le_refl _) _)).grown HO2.out (by decide) HBC.out hg5)
   have HF5 := Hd ((HF2.out.alloc (by have := HZ.out; omega) _).grown hg5 (fun j hj => by have := HFr.out j hj; have := HZ.out; omega) (by have := HZ.out; simp; omega))
   have HP5 := Hd hg5.size
   have HOZ5 := Hd (HOZ2.out.keepB (fun j hj => hg5.block j (HOZ2.out.blk j hj).1 (fun e => by have := HLZ.out j hj; have := HFr.out j e.symm; omega)))
   clear ho hb5 hg5 hne5 HO2 HS2 HF2 HOZ2
   go_wp2_with fail
   refine ⟨⟨k + 1, a5, c5, lk ++ [(x0, x1, x2)], s2, by omega, by first | rfl | simp, rfl, HG2.out, HO5.out, HS5.out, HF5.out, Hd (by have := HP5.out; simp at this; omega), HOZ5.out⟩, by simp [intOf]; omega⟩
  ·have hkN : k = N := by omega
   subst hkN
   have hfin := HG.out
   rw [E.out] at hfin
   simp only [Prod.mk.injEq] at hfin
   obtain ⟨rfl, rfl⟩ := hfin
   go_wp2_with fail
   go_ret
   exact ⟨.slice a k cp, rfl, HO.out.base (by have := HZ.out; omega), HS.out, HF.out⟩
theorem r_lint (B b c : Nat) (a0 : Option Addr) (m0 c0 : Nat) (l : List Int) (s s' : RSt) (w : World) (h : RO w B b c s) (hE : (listC numC).rd s = (l, s')) :
  Calls Tryz.prog 97 #[fR c, .slice a0 m0 c0, .func (.func 98) #[] #[]] w (RQ KN (plainR fun t => [Value.int .i64 t]) l B b c s' w) := by
 have hN := gCnt_le s
 obtain ⟨N, s1, hC⟩ : ∃ x y, gCnt s = (x, y) := ⟨_, _, rfl⟩
 rw [listC_rd, hC] at hE
 rw [hC] at hN
 simp only at hE hN
 have E := Hd hE
 have EC := Hd hC
 have HW := Hd h
 have hcN : N ≤ 1000000 := by omega
 have m1 := mrcount c
 have m2 := tR c
 clear hE hC h
 go_enter Tryz.func97, Tryz.ntmps97
 go_wp2_with fail
 refine (crcount B b c _ _ _ HW.out).mono ?_
 rw [EC.out]
 rintro e w1 ⟨he, h1, h2⟩
 rw [he.out]
 clear he
 have H1 := Hd h1
 have H2 := Hd h2
 clear h1 h2
 go_wp2_with (refine KN.makeN rfl _ _ rfl clsN rfl N rfl rfl hcN w1.heap.size (Nat.le_refl _) ?_)
 intro vz w2 hoz hbz hgz
 obtain ⟨az, cz, rfl⟩ : ∃ az cz, vz = .slice az N cz := by
  obtain ⟨az, cz, e⟩ := hoz.slice
  exact ⟨az, cz, by rw [e]; simp⟩
 have HLZ : Hid (∀ j, (Value.slice az N cz).ownBlock = some j → w1.heap.size ≤ j ∧ j < w2.heap.size) := Hd (fun j hj => ⟨hoz.from j hj, (hoz.blk j hj).1⟩)
 have HOZ := Hd hoz
 have HZ := Hd (show b < w1.heap.size ∧ c < w1.heap.size ∧ B ≤ w1.heap.size ∧ w.heap.size ≤ w1.heap.size ∧ w1.heap.size ≤ w2.heap.size from ⟨H1.out.lt.1, H1.out.lt.2, by have := H1.out.lt; have := H1.out.low; omega, H2.out.size, hbz.size⟩)
 have HS0 := Hd (H1.out.below hbz)
 have HF0 := Hd (H2.out.trans (Ft.of_below (b := b) (c := c) hbz HZ.out.2.2.1))
 clear hoz hbz hgz H1 H2
 go_wp2_with (refine KN.make rfl _ _ rfl rfl N rfl hcN w2.heap.size (Nat.le_refl _) ?_)
 intro v2 w3 ho hb hne hg
 obtain ⟨a2, c2, rfl⟩ : ∃ a2 c2, v2 = .slice a2 0 c2 := ho.slice
 have HO := Hd (show OwnR KN (plainR fun t => [Value.int .i64 t]) w3 w2.heap.size (.slice a2 0 c2) [] from OwnR.nil ho)
 have HOZ3 := Hd (HOZ.out.below hb)
 have HS := Hd (HS0.out.below hb)
 have HF := Hd (HF0.out.trans (Ft.of_below (b := b) (c := c) hb (by have := HZ.out; omega)))
 have HP := Hd hb.size
 clear ho hb hne hg HS0 HF0 HOZ
 go_wp2_with fail
 go_loopw [10, 27] (fun o i wr => ∃ (k : Nat) (a : Option Addr) (cp : Nat) (lk : List Int) (sk : RSt), k ≤ N ∧ i = .int .i64 k ∧ o = .slice a k cp ∧ Hid (gList numC.rd k s1 = (lk, sk)) ∧ Hid (OwnR KN (plainR fun t => [Value.int .i64 t]) wr w2.heap.size (.slice a k cp) lk) ∧ Hid (RO wr B b c sk) ∧ Hid (Ft B b c w wr) ∧ Hid (w2.heap.size ≤ wr.heap.size) ∧ Hid (KN.Own wr w1.heap.size (.slice az N cz) (List.replicate N clsN))) (fun _ i _ => N - (intOf i).toNat)
 case atStart => exact ⟨0, a2, c2, [], s1, by omega, rfl, rfl, rfl, HO.out, HS.out, HF.out, HP.out, HOZ3.out⟩
 case round =>
  clear HO HS HF HP HOZ3
  obtain ⟨k, a, cp, lk, sk, hk, rfl, rfl, HG, HO, HS, HF, HP, HOZ⟩ := hrel
  by_cases hlt : k < N
  ·obtain ⟨g, off, ha, hgl, hcel⟩ := zero_at HOZ.out hlt
   subst ha
   have y0 : wr.cell? ⟨g, off + k, none⟩ = some (.int .i64 0) := by have := hcel 0 _ rfl; simpa [KN, rawK] using this
   obtain ⟨x0, s2, hx⟩ : ∃ x y, gNum sk = (x, y) := ⟨_, _, rfl⟩
   have EX := Hd hx
   have HG2 : Hid (gList numC.rd (k + 1) s1 = (lk ++ [x0], s2)) := Hd (by rw [gList_snoc, HG.out]; simp only; rw [show numC.rd sk = (x0, s2) from hx])
   clear hcel hx
   go_wp2_with fail
   refine (r_nint B b c _ _ _ HS.out).mono ?_
   rw [EX.out]
   rintro e w4 ⟨he, h1, h2⟩
   rw [he.out]
   clear he y0
   obtain ⟨rk, g1, g2, g3⟩ := HO.out
   have hbc : ∀ j, (Value.slice a k cp).ownBlock = some j → j ≠ b ∧ j ≠ c := fun j hj => by have := g1.from j hj; have := HZ.out; omega
   have hO := g1.ft h2 (by decide) hbc
   have hOZ := HOZ.out.ft h2 (by decide) (fun j hj => by have := HLZ.out j hj; have := HZ.out; omega)
   have HS2 := Hd h1
   have HF2 := Hd (HF.out.trans h2)
   have hz3 : w2.heap.size ≤ w4.heap.size := by have := HP.out; have := h2.size; omega
   obtain ⟨X, hX⟩ : ∃ X : Cls 1, X = ⟨[.int .i64 x0], rfl, by intro v hv; simp only [List.mem_cons, List.not_mem_nil, or_false] at hv; subst hv; rfl⟩ := ⟨_, rfl⟩
   have hXe : KN.enc X = [.int .i64 x0] := by rw [hX]; rfl
   have HXc : Hid (X.cs = [.int .i64 x0]) := Hd (by rw [hX])
   have HO2 := Hd (hO.below ((Below.refl _ _).alloc (Nat.le_refl _) (.cells (KN.enc X).toArray 3)))
   have HOZ2 := Hd (hOZ.below ((Below.refl _ _).alloc (Nat.le_refl _) (.cells (KN.enc X).toArray 3)))
   have HQ := Hd (KN.rd_boxAt X 3 1 w4 w4.heap.size rfl)
   rw [hXe] at HO2 HQ HOZ2
   clear hX hXe
   have HBC := Hd hbc
   have HFr := Hd g1.from
   have hgk : rk.length = k := by
    obtain ⟨_, _, e⟩ := g1.slice
    simp only [Value.slice.injEq] at e
    exact e.2.1.symm
   have HGK := Hd hgk
   have HG23 := Hd (And.intro g2 g3)
   have hlk : rk.length + [X].length ≤ 1000000 := by rw [hgk]; simp; omega
   clear hO hOZ h1 h2 hbc g1 g2 g3 hgk HS HF HO HP HOZ
   go_wp2_with (refine KN.app rfl _ _ rfl w2.heap.size _ rk rfl HO2.out _ [X] rfl HQ.out hlk (by simp; omega) ?_)
   intro v5 w5 ho hb5 hg5 hne5
   obtain ⟨a5, c5, rfl⟩ : ∃ a5 c5, v5 = .slice a5 (k + 1) c5 := by
    obtain ⟨a5, c5, e5⟩ := ho.slice
    exact ⟨a5, c5, by rw [e5]; simp [HGK.out]⟩
   have HO5 : Hid (OwnR KN (plainR fun t => [Value.int .i64 t]) w5 w2.heap.size (.slice a5 (k + 1) c5) (lk ++ [x0])) := Hd (OwnR.more (w := w5) (v := .slice a k cp) ho HG23.out.1 (fun j p q => HG23.out.2 j p q) HXc.out)
   have HS5 := Hd ((HS2.out.below ((Below.refl _ _).alloc (Nat.le_refl _) _)).grown HO2.out (by decide) HBC.out hg5)
   have HF5 := Hd ((HF2.out.alloc (by have := HZ.out; omega) _).grown hg5 (fun j hj => by have := HFr.out j hj; have := HZ.out; omega) (by have := HZ.out; simp; omega))
   have HP5 := Hd hg5.size
   have HOZ5 := Hd (HOZ2.out.keepB (fun j hj => hg5.block j (HOZ2.out.blk j hj).1 (fun e => by have := HLZ.out j hj; have := HFr.out j e.symm; omega)))
   clear ho hb5 hg5 hne5 HO2 HS2 HF2 HOZ2
   go_wp2_with fail
   refine ⟨⟨k + 1, a5, c5, lk ++ [x0], s2, by omega, by first | rfl | simp, rfl, HG2.out, HO5.out, HS5.out, HF5.out, Hd (by have := HP5.out; simp at this; omega), HOZ5.out⟩, by simp [intOf]; omega⟩
  ·have hkN : k = N := by omega
   subst hkN
   have hfin := HG.out
   rw [E.out] at hfin
   simp only [Prod.mk.injEq] at hfin
   obtain ⟨rfl, rfl⟩ := hfin
   go_wp2_with fail
   go_ret
   exact ⟨.slice a k cp, rfl, HO.out.base (by have := HZ.out; omega), HS.out, HF.out⟩
theorem r_lstr (B b c : Nat) (a0 : Option Addr) (m0 c0 : Nat) (l : List ByteArray) (s s' : RSt) (w : World) (h : RO w B b c s) (hE : (listC txtC).rd s = (l, s')) :
  Calls Tryz.prog 105 #[fR c, .slice a0 m0 c0, .func (.func 106) #[] #[]] w (RQ KT (plainR fun t => [Value.string t]) l B b c s' w) := by
 have hN := gCnt_le s
 obtain ⟨N, s1, hC⟩ : ∃ x y, gCnt s = (x, y) := ⟨_, _, rfl⟩
 rw [listC_rd, hC] at hE
 rw [hC] at hN
 simp only at hE hN
 have E := Hd hE
 have EC := Hd hC
 have HW := Hd h
 have hcN : N ≤ 1000000 := by omega
 have m1 := mrcount c
 have m2 := tR c
 clear hE hC h
 go_enter Tryz.func105, Tryz.ntmps105
 go_wp2_with fail
 refine (crcount B b c _ _ _ HW.out).mono ?_
 rw [EC.out]
 rintro e w1 ⟨he, h1, h2⟩
 rw [he.out]
 clear he
 have H1 := Hd h1
 have H2 := Hd h2
 clear h1 h2
 go_wp2_with (refine KT.makeN rfl _ _ rfl clsT rfl N rfl rfl hcN w1.heap.size (Nat.le_refl _) ?_)
 intro vz w2 hoz hbz hgz
 obtain ⟨az, cz, rfl⟩ : ∃ az cz, vz = .slice az N cz := by
  obtain ⟨az, cz, e⟩ := hoz.slice
  exact ⟨az, cz, by rw [e]; simp⟩
 have HLZ : Hid (∀ j, (Value.slice az N cz).ownBlock = some j → w1.heap.size ≤ j ∧ j < w2.heap.size) := Hd (fun j hj => ⟨hoz.from j hj, (hoz.blk j hj).1⟩)
 have HOZ := Hd hoz
 have HZ := Hd (show b < w1.heap.size ∧ c < w1.heap.size ∧ B ≤ w1.heap.size ∧ w.heap.size ≤ w1.heap.size ∧ w1.heap.size ≤ w2.heap.size from ⟨H1.out.lt.1, H1.out.lt.2, by have := H1.out.lt; have := H1.out.low; omega, H2.out.size, hbz.size⟩)
 have HS0 := Hd (H1.out.below hbz)
 have HF0 := Hd (H2.out.trans (Ft.of_below (b := b) (c := c) hbz HZ.out.2.2.1))
 clear hoz hbz hgz H1 H2
 go_wp2_with (refine KT.make rfl _ _ rfl rfl N rfl hcN w2.heap.size (Nat.le_refl _) ?_)
 intro v2 w3 ho hb hne hg
 obtain ⟨a2, c2, rfl⟩ : ∃ a2 c2, v2 = .slice a2 0 c2 := ho.slice
 have HO := Hd (show OwnR KT (plainR fun t => [Value.string t]) w3 w2.heap.size (.slice a2 0 c2) [] from OwnR.nil ho)
 have HOZ3 := Hd (HOZ.out.below hb)
 have HS := Hd (HS0.out.below hb)
 have HF := Hd (HF0.out.trans (Ft.of_below (b := b) (c := c) hb (by have := HZ.out; omega)))
 have HP := Hd hb.size
 clear ho hb hne hg HS0 HF0 HOZ
 go_wp2_with fail
 go_loopw [10, 27] (fun o i wr => ∃ (k : Nat) (a : Option Addr) (cp : Nat) (lk : List ByteArray) (sk : RSt), k ≤ N ∧ i = .int .i64 k ∧ o = .slice a k cp ∧ Hid (gList txtC.rd k s1 = (lk, sk)) ∧ Hid (OwnR KT (plainR fun t => [Value.string t]) wr w2.heap.size (.slice a k cp) lk) ∧ Hid (RO wr B b c sk) ∧ Hid (Ft B b c w wr) ∧ Hid (w2.heap.size ≤ wr.heap.size) ∧ Hid (KT.Own wr w1.heap.size (.slice az N cz) (List.replicate N clsT))) (fun _ i _ => N - (intOf i).toNat)
 case atStart => exact ⟨0, a2, c2, [], s1, by omega, rfl, rfl, rfl, HO.out, HS.out, HF.out, HP.out, HOZ3.out⟩
 case round =>
  clear HO HS HF HP HOZ3
  obtain ⟨k, a, cp, lk, sk, hk, rfl, rfl, HG, HO, HS, HF, HP, HOZ⟩ := hrel
  by_cases hlt : k < N
  ·obtain ⟨g, off, ha, hgl, hcel⟩ := zero_at HOZ.out hlt
   subst ha
   have y0 : wr.cell? ⟨g, off + k, none⟩ = some (.string ⟨#[]⟩) := by have := hcel 0 _ rfl; simpa [KT, rawK] using this
   obtain ⟨x0, s2, hx⟩ : ∃ x y, gTxt sk = (x, y) := ⟨_, _, rfl⟩
   have EX := Hd hx
   have HG2 : Hid (gList txtC.rd (k + 1) s1 = (lk ++ [x0], s2)) := Hd (by rw [gList_snoc, HG.out]; simp only; rw [show txtC.rd sk = (x0, s2) from hx])
   clear hcel hx
   go_wp2_with fail
   refine (r_name B b c _ _ _ HS.out).mono ?_
   rw [EX.out]
   rintro e w4 ⟨he, h1, h2⟩
   rw [he.out]
   clear he y0
   obtain ⟨rk, g1, g2, g3⟩ := HO.out
   have hbc : ∀ j, (Value.slice a k cp).ownBlock = some j → j ≠ b ∧ j ≠ c := fun j hj => by have := g1.from j hj; have := HZ.out; omega
   have hO := g1.ft h2 (by decide) hbc
   have hOZ := HOZ.out.ft h2 (by decide) (fun j hj => by have := HLZ.out j hj; have := HZ.out; omega)
   have HS2 := Hd h1
   have HF2 := Hd (HF.out.trans h2)
   have hz3 : w2.heap.size ≤ w4.heap.size := by have := HP.out; have := h2.size; omega
   obtain ⟨X, hX⟩ : ∃ X : Cls 1, X = ⟨[.string x0], rfl, by intro v hv; simp only [List.mem_cons, List.not_mem_nil, or_false] at hv; subst hv; rfl⟩ := ⟨_, rfl⟩
   have hXe : KT.enc X = [.string x0] := by rw [hX]; rfl
   have HXc : Hid (X.cs = [.string x0]) := Hd (by rw [hX])
   have HO2 := Hd (hO.below ((Below.refl _ _).alloc (Nat.le_refl _) (.cells (KT.enc X).toArray 9)))
   have HOZ2 := Hd (hOZ.below ((Below.refl _ _).alloc (Nat.le_refl _) (.cells (KT.enc X).toArray 9)))
   have HQ := Hd (KT.rd_boxAt X 9 1 w4 w4.heap.size rfl)
   rw [hXe] at HO2 HQ HOZ2
   clear hX hXe
   have HBC := Hd hbc
   have HFr := Hd g1.from
   have hgk : rk.length = k := by
    obtain ⟨_, _, e⟩ := g1.slice
    simp only [Value.slice.injEq] at e
    exact e.2.1.symm
   have HGK := Hd hgk
   have HG23 := Hd (And.intro g2 g3)
   have hlk : rk.length + [X].length ≤ 1000000 := by rw [hgk]; simp; omega
   clear hO hOZ h1 h2 hbc g1 g2 g3 hgk HS HF HO HP HOZ
   go_wp2_with (refine KT.app rfl _ _ rfl w2.heap.size _ rk rfl HO2.out _ [X] rfl HQ.out hlk (by simp; omega) ?_)
   intro v5 w5 ho hb5 hg5 hne5
   obtain ⟨a5, c5, rfl⟩ : ∃ a5 c5, v5 = .slice a5 (k + 1) c5 := by
    obtain ⟨a5, c5, e5⟩ := ho.slice
    exact ⟨a5, c5, by rw [e5]; simp [HGK.out]⟩
   have HO5 : Hid (OwnR KT (plainR fun t => [Value.string t]) w5 w2.heap.size (.slice a5 (k + 1) c5) (lk ++ [x0])) := Hd (OwnR.more (w := w5) (v := .slice a k cp) ho HG23.out.1 (fun j p q => HG23.out.2 j p q) HXc.out)
   have HS5 := Hd ((HS2.out.below ((Below.refl _ _).alloc (Nat.le_refl _) _)).grown HO2.out (by decide) HBC.out hg5)
   have HF5 := Hd ((HF2.out.alloc (by have := HZ.out; omega) _).grown hg5 (fun j hj => by have := HFr.out j hj; have := HZ.out; omega) (by have := HZ.out; simp; omega))
   have HP5 := Hd hg5.size
   have HOZ5 := Hd (HOZ2.out.keepB (fun j hj => hg5.block j (HOZ2.out.blk j hj).1 (fun e => by have := HLZ.out j hj; have := HFr.out j e.symm; omega)))
   clear ho hb5 hg5 hne5 HO2 HS2 HF2 HOZ2
   go_wp2_with fail
   refine ⟨⟨k + 1, a5, c5, lk ++ [x0], s2, by omega, by first | rfl | simp, rfl, HG2.out, HO5.out, HS5.out, HF5.out, Hd (by have := HP5.out; simp at this; omega), HOZ5.out⟩, by simp [intOf]; omega⟩
  ·have hkN : k = N := by omega
   subst hkN
   have hfin := HG.out
   rw [E.out] at hfin
   simp only [Prod.mk.injEq] at hfin
   obtain ⟨rfl, rfl⟩ := hfin
   go_wp2_with fail
   go_ret
   exact ⟨.slice a k cp, rfl, HO.out.base (by have := HZ.out; omega), HS.out, HF.out⟩
theorem r_lent (B b c : Nat) (a0 : Option Addr) (m0 c0 : Nat) (l : List Ent) (s s' : RSt) (w : World) (h : RO w B b c s) (hE : (listC enC).rd s = (l, s')) :
  Calls Tryz.prog 84 #[fR c, .slice a0 m0 c0, .func (.func 85) #[] #[]] w (RQ KE (plainR enE) l B b c s' w) := by
 have hN := gCnt_le s
 obtain ⟨N, s1, hC⟩ : ∃ x y, gCnt s = (x, y) := ⟨_, _, rfl⟩
 rw [listC_rd, hC] at hE
 rw [hC] at hN
 simp only at hE hN
 have E := Hd hE
 have EC := Hd hC
 have HW := Hd h
 have hcN : N ≤ 1000000 := by omega
 have m1 := mrcount c
 have m2 := tR c
 clear hE hC h
 go_enter Tryz.func84, Tryz.ntmps84
 go_wp2_with fail
 refine (crcount B b c _ _ _ HW.out).mono ?_
 rw [EC.out]
 rintro e w1 ⟨he, h1, h2⟩
 rw [he.out]
 clear he
 have H1 := Hd h1
 have H2 := Hd h2
 clear h1 h2
 go_wp2_with (refine KE.makeN rfl _ _ rfl clsE rfl N rfl rfl hcN w1.heap.size (Nat.le_refl _) ?_)
 intro vz w2 hoz hbz hgz
 obtain ⟨az, cz, rfl⟩ : ∃ az cz, vz = .slice az N cz := by
  obtain ⟨az, cz, e⟩ := hoz.slice
  exact ⟨az, cz, by rw [e]; simp⟩
 have HLZ : Hid (∀ j, (Value.slice az N cz).ownBlock = some j → w1.heap.size ≤ j ∧ j < w2.heap.size) := Hd (fun j hj => ⟨hoz.from j hj, (hoz.blk j hj).1⟩)
 have HOZ := Hd hoz
 have HZ := Hd (show b < w1.heap.size ∧ c < w1.heap.size ∧ B ≤ w1.heap.size ∧ w.heap.size ≤ w1.heap.size ∧ w1.heap.size ≤ w2.heap.size from ⟨H1.out.lt.1, H1.out.lt.2, by have := H1.out.lt; have := H1.out.low; omega, H2.out.size, hbz.size⟩)
 have HS0 := Hd (H1.out.below hbz)
 have HF0 := Hd (H2.out.trans (Ft.of_below (b := b) (c := c) hbz HZ.out.2.2.1))
 clear hoz hbz hgz H1 H2
 go_wp2_with (refine KE.make rfl _ _ rfl rfl N rfl hcN w2.heap.size (Nat.le_refl _) ?_)
 intro v2 w3 ho hb hne hg
 obtain ⟨a2, c2, rfl⟩ : ∃ a2 c2, v2 = .slice a2 0 c2 := ho.slice
 have HO := Hd (show OwnR KE (plainR enE) w3 w2.heap.size (.slice a2 0 c2) [] from OwnR.nil ho)
 have HOZ3 := Hd (HOZ.out.below hb)
 have HS := Hd (HS0.out.below hb)
 have HF := Hd (HF0.out.trans (Ft.of_below (b := b) (c := c) hb (by have := HZ.out; omega)))
 have HP := Hd hb.size
 clear ho hb hne hg HS0 HF0 HOZ
 go_wp2_with fail
 go_loopw [10, 27] (fun o i wr => ∃ (k : Nat) (a : Option Addr) (cp : Nat) (lk : List Ent) (sk : RSt), k ≤ N ∧ i = .int .i64 k ∧ o = .slice a k cp ∧ Hid (gList enC.rd k s1 = (lk, sk)) ∧ Hid (OwnR KE (plainR enE) wr w2.heap.size (.slice a k cp) lk) ∧ Hid (RO wr B b c sk) ∧ Hid (Ft B b c w wr) ∧ Hid (w2.heap.size ≤ wr.heap.size) ∧ Hid (KE.Own wr w1.heap.size (.slice az N cz) (List.replicate N clsE))) (fun _ i _ => N - (intOf i).toNat)
 case atStart => exact ⟨0, a2, c2, [], s1, by omega, rfl, rfl, rfl, HO.out, HS.out, HF.out, HP.out, HOZ3.out⟩
 case round =>
  clear HO HS HF HP HOZ3
  obtain ⟨k, a, cp, lk, sk, hk, rfl, rfl, HG, HO, HS, HF, HP, HOZ⟩ := hrel
  by_cases hlt : k < N
  ·obtain ⟨g, off, ha, hgl, hcel⟩ := zero_at HOZ.out hlt
   subst ha
   have y0 : wr.cell? ⟨g, off + k * 3, none⟩ = some (.string ⟨#[]⟩) := hcel 0 _ rfl
   have y1 : wr.cell? ⟨g, off + k * 3 + 1, none⟩ = some (.string ⟨#[]⟩) := hcel 1 _ rfl
   have y2 : wr.cell? ⟨g, off + k * 3 + 2, none⟩ = some (.int .i64 0) := hcel 2 _ rfl
   obtain ⟨⟨x0, x1, x2⟩, s2, hx⟩ : ∃ x y, enC.rd sk = (x, y) := ⟨_, _, rfl⟩
   have EX := Hd hx
   have HG2 : Hid (gList enC.rd (k + 1) s1 = (lk ++ [(x0, x1, x2)], s2)) := Hd (by rw [gList_snoc, HG.out]; simp only; rw [show enC.rd sk = ((x0, x1, x2), s2) from hx])
   clear hcel hx
   go_wp2_with fail
   refine (r_ent B b c _ _ _ x0 x1 x2 _ _ _ HS.out EX.out).mono ?_
   rintro e w4 ⟨he, h1, h2⟩
   rw [he.out]
   clear he y0 y1 y2
   obtain ⟨rk, g1, g2, g3⟩ := HO.out
   have hbc : ∀ j, (Value.slice a k cp).ownBlock = some j → j ≠ b ∧ j ≠ c := fun j hj => by have := g1.from j hj; have := HZ.out; omega
   have hO := g1.ft h2 (by decide) hbc
   have hOZ := HOZ.out.ft h2 (by decide) (fun j hj => by have := HLZ.out j hj; have := HZ.out; omega)
   have HS2 := Hd h1
   have HF2 := Hd (HF.out.trans h2)
   have hz3 : w2.heap.size ≤ w4.heap.size := by have := HP.out; have := h2.size; omega
   obtain ⟨X, hX⟩ : ∃ X : Cls 3, X = ⟨[.string x0, .string x1, .int .i64 x2], rfl, by intro v hv; simp only [List.mem_cons, List.not_mem_nil, or_false] at hv; rcases hv with rfl | rfl | rfl <;> rfl⟩ := ⟨_, rfl⟩
   have hXe : KE.enc X = [.string x0, .string x1, .int .i64 x2] := by rw [hX]; rfl
   have HXc : Hid (X.cs = [.string x0, .string x1, .int .i64 x2]) := Hd (by rw [hX])
   have HO2 := Hd (hO.below ((Below.refl _ _).alloc (Nat.le_refl _) (.cells (KE.enc X).toArray 71)))
   have HOZ2 := Hd (hOZ.below ((Below.refl _ _).alloc (Nat.le_refl _) (.cells (KE.enc X).toArray 71)))
   have HQ := Hd (KE.rd_boxAt X 71 1 w4 w4.heap.size rfl)
   rw [hXe] at HO2 HQ HOZ2
   clear hX hXe
   have HBC := Hd hbc
   have HFr := Hd g1.from
   have hgk : rk.length = k := by
    obtain ⟨_, _, e⟩ := g1.slice
    simp only [Value.slice.injEq] at e
    exact e.2.1.symm
   have HGK := Hd hgk
   have HG23 := Hd (And.intro g2 g3)
   have hlk : rk.length + [X].length ≤ 1000000 := by rw [hgk]; simp; omega
   clear hO hOZ h1 h2 hbc g1 g2 g3 hgk HS HF HO HP HOZ
   go_wp2_with (refine KE.app rfl _ _ rfl w2.heap.size _ rk rfl HO2.out _ [X] rfl HQ.out hlk (by simp; omega) ?_)
   intro v5 w5 ho hb5 hg5 hne5
   obtain ⟨a5, c5, rfl⟩ : ∃ a5 c5, v5 = .slice a5 (k + 1) c5 := by
    obtain ⟨a5, c5, e5⟩ := ho.slice
    exact ⟨a5, c5, by rw [e5]; simp [HGK.out]⟩
   have HO5 : Hid (OwnR KE (plainR enE) w5 w2.heap.size (.slice a5 (k + 1) c5) (lk ++ [(x0, x1, x2)])) := Hd (OwnR.more (w := w5) (v := .slice a k cp) ho HG23.out.1 (fun j p q => HG23.out.2 j p q) HXc.out)
   have HS5 := Hd ((HS2.out.below ((Below.refl _ _).alloc (Nat.le_refl _) _)).grown HO2.out (by decide) HBC.out hg5)
   have HF5 := Hd ((HF2.out.alloc (by have := HZ.out; omega) _).grown hg5 (fun j hj => by have := HFr.out j hj; have := HZ.out; omega) (by have := HZ.out; simp; omega))
   have HP5 := Hd hg5.size
   have HOZ5 := Hd (HOZ2.out.keepB (fun j hj => hg5.block j (HOZ2.out.blk j hj).1 (fun e => by have := HLZ.out j hj; have := HFr.out j e.symm; omega)))
   clear ho hb5 hg5 hne5 HO2 HS2 HF2 HOZ2
   go_wp2_with fail
   refine ⟨⟨k + 1, a5, c5, lk ++ [(x0, x1, x2)], s2, by omega, by first | rfl | simp, rfl, HG2.out, HO5.out, HS5.out, HF5.out, Hd (by have := HP5.out; simp at this; omega), HOZ5.out⟩, by simp [intOf]; omega⟩
  ·have hkN : k = N := by omega
   subst hkN
   have hfin := HG.out
   rw [E.out] at hfin
   simp only [Prod.mk.injEq] at hfin
   obtain ⟨rfl, rfl⟩ := hfin
   go_wp2_with fail
   go_ret
   exact ⟨.slice a k cp, rfl, HO.out.base (by have := HZ.out; omega), HS.out, HF.out⟩
end Go.Proofs.YtnancdbkmompdaaGreat
