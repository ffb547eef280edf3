/-
 Package code: lists, and structs with lists, with a writer.
-/
import Derived.Test.YtnancdbkmompdaaGreatRY
import Derived.Test.YtnancdbkmompdaaGreatRQF
import Derived.Test.YtnancdbkmompdaaGreatCdWR
namespace Go.Proofs.YtnancdbkmompdaaGreat
open Go.RowKit
set_option linter.unusedSimpArgs false
set_option linter.unusedVariables false
set_option maxRecDepth 100000
set_option maxHeartbeats 40000000
theorem w_lid (B b c : Nat) (v : Value) (rs : List (Cls 3)) (l : List Id3) (W w : World) (st st' : Option (List Int)) (K : Nat) (h : WO w B b c st) (hr : RowIs KI idS W v rs l) (hW : Below W.heap.size W w) (hWB : W.heap.size ≤ B) (hE : wrs st ((listC idC).fs l) = st') (hK : Sh K st) (hk : K + 3073 ≤ 20000000) :
  Calls Tryz.prog 96 #[fW c, v, .func (.func 60) #[] #[]] w (WQ B b c st' w) := by
 obtain ⟨a0, c0, rfl⟩ := hr.rd.slice
 have hlen := hr.len
 have hmx := hr.rd.len
 obtain ⟨N, hN⟩ : ∃ N, rs.length = N := ⟨_, rfl⟩
 rw [hN] at hlen hr hmx ⊢
 unfold maxLen at hmx
 rw [listC_fs, wrs_cons, ← hlen] at hE
 obtain ⟨st1, he1⟩ : ∃ x, wr1 st (.cnt N) = x := ⟨_, rfl⟩
 rw [he1] at hE
 have K1 : Hid (Sh (K + 1) st1) := Hd (by rw [← he1]; exact hK.one _)
 have E1 := Hd he1
 have E := Hd hE
 have HW := Hd h
 have HK := Hd hK
 have HR := Hd hr
 have HL := Hd hlen
 have HBW := Hd hW
 have HWB := Hd hWB
 have hN9 : N ≤ 9223372036854775807 := by omega
 have m1 := mwcount c
 have m2 := tW c
 clear hE he1 h hr hK hN hlen hW hWB
 by_cases q : N ≤ 1024
 ·have hcN : N ≤ 1000000 := by omega
  go_enter Tryz.func96, Tryz.ntmps96
  go_wp2_with fail
  refine (cwcount B b c N _ _ HW.out (HK.out.max (by omega)) hN9).mono ?_
  rw [if_pos q, E1.out]
  rintro e w1 ⟨he, h1, h2⟩
  rw [he.out]
  clear he
  have H1 := Hd h1
  have H2 := Hd h2
  clear h1 h2
  go_wp2_with (refine KI.make rfl _ _ rfl rfl N rfl hcN w1.heap.size (Nat.le_refl _) ?_)
  intro v2 w2 ho hb hne hg
  obtain ⟨a2, c2, rfl⟩ : ∃ a2 c2, v2 = .slice a2 0 c2 := ho.slice
  have HO := Hd ho
  have HZ := Hd (show b < w1.heap.size ∧ c < w1.heap.size ∧ B ≤ w1.heap.size ∧ w.heap.size ≤ w1.heap.size from ⟨H1.out.lb.1, H1.out.bx.lt, by have := H1.out.lb; omega, H2.out.size⟩)
  have HS := Hd (H1.out.below hb)
  have HF := Hd (H2.out.trans (Ft.of_below (b := b) (c := c) hb HZ.out.2.2.1))
  have HP := Hd hb.size
  clear ho hb hne hg H1 H2
  go_wp2_with fail
  go_loopw [10, 27] (fun o i wr => ∃ (k : Nat) (a : Option Addr) (cp : Nat) (rk : List (Cls 3)), k ≤ N ∧ i = .int .i64 k ∧ o = .slice a k cp ∧ Hid (rk.length = k) ∧ Hid (KI.Own wr w1.heap.size (.slice a k cp) rk) ∧ Hid (WO wr B b c (wrs st1 ((l.take k).flatMap idC.fs))) ∧ Hid (Ft B b c w wr) ∧ Hid (w1.heap.size ≤ wr.heap.size)) (fun _ i _ => N - (intOf i).toNat)
  case atStart => exact ⟨0, a2, c2, [], by omega, rfl, rfl, rfl, HO.out, Hd (by simpa [wrs] using HS.out), HF.out, HP.out⟩
  case round =>
   clear HO HS HF HP
   obtain ⟨k, a, cp, rk, hk, rfl, rfl, hrk, HO, HS, HF, HP⟩ := hrel
   by_cases hlt : k < N
   ·obtain ⟨hl, g, off, cs, ha, hg, hcs, hcel⟩ := HR.out.el2 rfl (HBW.out.trans (HF.out.low.mono HWB.out)) k hlt
    subst ha
    obtain ⟨x, hx⟩ : ∃ x, l[k] = x := ⟨_, rfl⟩
    rw [hx] at hcs
    have HX := Hd hx
    clear hx
    obtain ⟨x0, x1, x2⟩ := x
    have hcs : cs = [.int .i64 x0, .int .i64 x1, .int .i64 x2] := hcs
    subst hcs
    have y0 : wr.cell? ⟨g, off + k * 3, none⟩ = some (.int .i64 x0) := hcel 0 _ rfl
    have y1 : wr.cell? ⟨g, off + k * 3 + 1, none⟩ = some (.int .i64 x1) := hcel 1 _ rfl
    have y2 : wr.cell? ⟨g, off + k * 3 + 2, none⟩ = some (.int .i64 x2) := hcel 2 _ rfl
    have HE := Hd (step_fs idC st1 l k (x0, x1, x2) hl HX.out)
    have HK1 := Hd (sh_part ShC.id K1.out l k)
    clear hcel
    go_wp2_with fail
    refine (w_id B b c _ _ _ _ _ _ _ HS.out HE.out HK1.out (by omega)).mono ?_
    rintro e w3 ⟨he, h1, h2⟩
    rw [he.out]
    clear he y0 y1 y2
    have hbc : ∀ j, (Value.slice a k cp).ownBlock = some j → j ≠ b ∧ j ≠ c := fun j hj => by have := HO.out.from j hj; have := HZ.out; omega
    have hO := HO.out.ft h2 (by decide) hbc
    have HS2 := Hd h1
    have HF2 := Hd (HF.out.trans h2)
    have hz3 : w1.heap.size ≤ w3.heap.size := by have := HP.out; have := h2.size; omega
    obtain ⟨X, hX⟩ : ∃ X : Cls 3, X = ⟨[.int .i64 x0, .int .i64 x1, .int .i64 x2], rfl, by intro v hv; simp only [List.mem_cons, List.not_mem_nil, or_false] at hv; rcases hv with rfl | rfl | rfl <;> rfl⟩ := ⟨_, rfl⟩
    have hXe : KI.enc X = [.int .i64 x0, .int .i64 x1, .int .i64 x2] := by rw [hX]; rfl
    have HO2 := Hd (hO.below ((Below.refl _ _).alloc (Nat.le_refl _) (.cells (KI.enc X).toArray 49)))
    have HQ := Hd (KI.rd_boxAt X 49 1 w3 w3.heap.size rfl)
    rw [hXe] at HO2 HQ
    clear hX hXe
    have HBC := Hd hbc
    have HFr := Hd HO.out.from
    have hlk : rk.length + [X].length ≤ 1000000 := by rw [hrk.out]; simp; omega
    clear hO h1 h2 hbc HS HF HO HP
    go_wp2_with (refine KI.app rfl _ _ rfl w1.heap.size _ rk rfl HO2.out _ [X] rfl HQ.out hlk (by simp; omega) ?_)
    intro v5 w5 ho hb5 hg5 hne5
    obtain ⟨a5, c5, rfl⟩ : ∃ a5 c5, v5 = .slice a5 (k + 1) c5 := by
     obtain ⟨a5, c5, e5⟩ := ho.slice
     exact ⟨a5, c5, by rw [e5]; simp [hrk.out]⟩
    have HO5 := Hd ho
    have HS5 := Hd ((HS2.out.below ((Below.refl _ _).alloc (Nat.le_refl _) _)).grown HO2.out (by decide) HBC.out hg5)
    have HF5 := Hd ((HF2.out.alloc (by have := HZ.out; omega) _).grown hg5 (fun j hj => by have := HFr.out j hj; have := HZ.out; omega) (by have := HZ.out; simp; omega))
    have HP5 := Hd hg5.size
    clear ho hb5 hg5 hne5 HO2 HS2 HF2
    go_wp2_with fail
    refine ⟨⟨k + 1, a5, c5, rk ++ [X], by omega, by first | rfl | simp, rfl, Hd (by simp [hrk.out]), HO5.out, HS5.out, HF5.out, Hd (by have := HP5.out; simp at this; omega)⟩, by simp [intOf]; omega⟩
   ·have hkN : k = N := by omega
    subst hkN
    go_wp2_with fail
    go_ret
    refine ⟨a, k, cp, rfl, ?_, HF.out⟩
    rw [← E.out]
    have := HS.out
    rwa [List.take_of_length_le (by rw [← HL.out]; exact Nat.le_refl _)] at this
 ·have hst : st' = none := by
   rw [← E.out, ← E1.out, wr1_bad (show ¬ (Fd.cnt N).ok from q), wrs_none]
  have hst1 : st1 = none := by rw [← E1.out, wr1_bad (show ¬ (Fd.cnt N).ok from q)]
  subst hst
  subst hst1
  go_enter Tryz.func96, Tryz.ntmps96
  go_wp2_with fail
  refine (cwcount B b c N _ _ HW.out (HK.out.max (by omega)) hN9).mono ?_
  rw [if_neg q, E1.out]
  rintro e w1 ⟨he, h1, h2⟩
  rw [he.out]
  clear he
  have H1 := Hd h1
  have H2 := Hd h2
  clear h1 h2
  go_wp2_with (refine KI.make rfl _ _ rfl rfl 0 rfl (by omega) w1.heap.size (Nat.le_refl _) ?_)
  intro v2 w2 ho hb hne hg
  obtain ⟨a2, c2, rfl⟩ : ∃ a2 c2, v2 = .slice a2 0 c2 := ho.slice
  have HS := Hd (H1.out.below hb)
  have HF := Hd (H2.out.trans (Ft.of_below (b := b) (c := c) hb (by have := H1.out.lb; omega)))
  clear ho hb hne hg H1 H2
  go_wp2_with fail
  go_loopw [10, 27] (fun o i wr => o = .slice a2 0 c2 ∧ i = .int .i64 0 ∧ wr = w2) (fun _ i _ => 0)
  case atStart => exact ⟨rfl, rfl, rfl⟩
  case round =>
   obtain ⟨rfl, rfl, rfl⟩ := hrel
   go_wp2_with fail
   go_ret
   exact ⟨a2, 0, c2, rfl, HS.out, HF.out⟩
theorem w_lint (B b c : Nat) (v : Value) (rs : List (Cls 1)) (l : List Int) (W w : World) (st st' : Option (List Int)) (K : Nat) (h : WO w B b c st) (hr : RowIs KN numS W v rs l) (hW : Below W.heap.size W w) (hWB : W.heap.size ≤ B) (hE : wrs st ((listC numC).fs l) = st') (hK : Sh K st) (hk : K + 1025 ≤ 20000000) :
  Calls Tryz.prog 97 #[fW c, v, .func (.func 98) #[] #[]] w (WQ B b c st' w) := by
 obtain ⟨a0, c0, rfl⟩ := hr.rd.slice
 have hlen := hr.len
 have hmx := hr.rd.len
 obtain ⟨N, hN⟩ : ∃ N, rs.length = N := ⟨_, rfl⟩
 rw [hN] at hlen hr hmx ⊢
 unfold maxLen at hmx
 rw [listC_fs, wrs_cons, ← hlen] at hE
 obtain ⟨st1, he1⟩ : ∃ x, wr1 st (.cnt N) = x := ⟨_, rfl⟩
 rw [he1] at hE
 have K1 : Hid (Sh (K + 1) st1) := Hd (by rw [← he1]; exact hK.one _)
 have E1 := Hd he1
 have E := Hd hE
 have HW := Hd h
 have HK := Hd hK
 have HR := Hd hr
 have HL := Hd hlen
 have HBW := Hd hW
 have HWB := Hd hWB
 have hN9 : N ≤ 9223372036854775807 := by omega
 have m1 := mwcount c
 have m2 := tW c
 clear hE he1 h hr hK hN hlen hW hWB
 by_cases q : N ≤ 1024
 ·have hcN : N ≤ 1000000 := by omega
  go_enter Tryz.func97, Tryz.ntmps97
  go_wp2_with fail
  refine (cwcount B b c N _ _ HW.out (HK.out.max (by omega)) hN9).mono ?_
  rw [if_pos q, E1.out]
  rintro e w1 ⟨he, h1, h2⟩
  rw [he.out]
  clear he
  have H1 := Hd h1
  have H2 := Hd h2
  clear h1 h2
  go_wp2_with (refine KN.make rfl _ _ rfl rfl N rfl hcN w1.heap.size (Nat.le_refl _) ?_)
  intro v2 w2 ho hb hne hg
  obtain ⟨a2, c2, rfl⟩ : ∃ a2 c2, v2 = .slice a2 0 c2 := ho.slice
  have HO := Hd ho
  have HZ := Hd (show b < w1.heap.size ∧ c < w1.heap.size ∧ B ≤ w1.heap.size ∧ w.heap.size ≤ w1.heap.size from ⟨H1.out.lb.1, H1.out.bx.lt, by have := H1.out.lb; omega, H2.out.size⟩)
  have HS := Hd (H1.out.below hb)
  have HF := Hd (H2.out.trans (Ft.of_below (b := b) (c := c) hb HZ.out.2.2.1))
  have HP := Hd hb.size
  clear ho hb hne hg H1 H2
  go_wp2_with fail
  go_loopw [10, 27] (fun o i wr => ∃ (k : Nat) (a : Option Addr) (cp : Nat) (rk : List (Cls 1)), k ≤ N ∧ i = .int .i64 k ∧ o = .slice a k cp ∧ Hid (rk.length = k) ∧ Hid (KN.Own wr w1.heap.size (.slice a k cp) rk) ∧ Hid (WO wr B b c (wrs st1 ((l.take k).flatMap numC.fs))) ∧ Hid (Ft B b c w wr) ∧ Hid (w1.heap.size ≤ wr.heap.size)) (fun _ i _ => N - (intOf i).toNat)
  case atStart => exact ⟨0, a2, c2, [], by omega, rfl, rfl, rfl, HO.out, Hd (by simpa [wrs] using HS.out), HF.out, HP.out⟩
  case round =>
   clear HO HS HF HP
   obtain ⟨k, a, cp, rk, hk, rfl, rfl, hrk, HO, HS, HF, HP⟩ := hrel
   by_cases hlt : k < N
   ·obtain ⟨hl, g, off, cs, ha, hg, hcs, hcel⟩ := HR.out.el2 rfl (HBW.out.trans (HF.out.low.mono HWB.out)) k hlt
    subst ha
    obtain ⟨x0, hx⟩ : ∃ x, l[k] = x := ⟨_, rfl⟩
    rw [hx] at hcs
    have HX := Hd hx
    clear hx
    have hcs : cs = [.int .i64 x0] := hcs
    subst hcs
    have y0 : wr.cell? ⟨g, off + k, none⟩ = some (.int .i64 x0) := by have := hcel 0 _ rfl; simpa [KN, rawK] using this
    have HE := Hd (step_fs numC st1 l k x0 hl HX.out)
    have HK1 := Hd (sh_part ShC.num K1.out l k)
    clear hcel
    go_wp2_with fail
    refine (w_nint B b c _ _ _ HS.out (HK1.out.max (by omega))).mono ?_
    rw [show wr1 (wrs st1 ((l.take k).flatMap numC.fs)) (.num x0) = wrs st1 ((l.take (k + 1)).flatMap numC.fs) from HE.out]
    rintro e w3 ⟨he, h1, h2⟩
    rw [he.out]
    clear he y0
    have hbc : ∀ j, (Value.slice a k cp).ownBlock = some j → j ≠ b ∧ j ≠ c := fun j hj => by have := HO.out.from j hj; have := HZ.out; omega
    have hO := HO.out.ft h2 (by decide) hbc
    have HS2 := Hd h1
    have HF2 := Hd (HF.out.trans h2)
    have hz3 : w1.heap.size ≤ w3.heap.size := by have := HP.out; have := h2.size; omega
    obtain ⟨X, hX⟩ : ∃ X : Cls 1, X = ⟨[.int .i64 x0], rfl, by intro v hv; simp only [List.mem_cons, List.not_mem_nil, or_false] at hv; subst hv; rfl⟩ := ⟨_, rfl⟩
    have hXe : KN.enc X = [.int .i64 x0] := by rw [hX]; rfl
    have HO2 := Hd (hO.below ((Below.refl _ _).alloc (Nat.le_refl _) (.cells (KN.enc X).toArray 3)))
    have HQ := Hd (KN.rd_boxAt X 3 1 w3 w3.heap.size rfl)
    rw [hXe] at HO2 HQ
    clear hX hXe
    have HBC := Hd hbc
    have HFr := Hd HO.out.from
    have hlk : rk.length + [X].length ≤ 1000000 := by rw [hrk.out]; simp; omega
    clear hO h1 h2 hbc HS HF HO HP
    go_wp2_with (refine KN.app rfl _ _ rfl w1.heap.size _ rk rfl HO2.out _ [X] rfl HQ.out hlk (by simp; omega) ?_)
    intro v5 w5 ho hb5 hg5 hne5
    obtain ⟨a5, c5, rfl⟩ : ∃ a5 c5, v5 = .slice a5 (k + 1) c5 := by
     obtain ⟨a5, c5, e5⟩ := ho.slice
     exact ⟨a5, c5, by rw [e5]; simp [hrk.out]⟩
    have HO5 := Hd ho
    have HS5 := Hd ((HS2.out.below ((Below.refl _ _).alloc (Nat.le_refl _) _)).grown HO2.out (by decide) HBC.out hg5)
    have HF5 := Hd ((HF2.out.alloc (by have := HZ.out; omega) _).grown hg5 (fun j hj => by have := HFr.out j hj; have := HZ.out; omega) (by have := HZ.out; simp; omega))
    have HP5 := Hd hg5.size
    clear ho hb5 hg5 hne5 HO2 HS2 HF2
    go_wp2_with fail
    refine ⟨⟨k + 1, a5, c5, rk ++ [X], by omega, by first | rfl | simp, rfl, Hd (by simp [hrk.out]), HO5.out, HS5.out, HF5.out, Hd (by have := HP5.out; simp at this; omega)⟩, by simp [intOf]; omega⟩
   ·have hkN : k = N := by omega
    subst hkN
    go_wp2_with fail
    go_ret
    refine ⟨a, k, cp, rfl, ?_, HF.out⟩
    rw [← E.out]
    have := HS.out
    rwa [List.take_of_length_le (by rw [← HL.out]; exact Nat.le_refl _)] at this
 ·have hst : st' = none := by
   rw [← E.out, ← E1.out, wr1_bad (show ¬ (Fd.cnt N).ok from q), wrs_none]
  have hst1 : st1 = none := by rw [← E1.out, wr1_bad (show ¬ (Fd.cnt N).ok from q)]
  subst hst
  subst hst1
  go_enter Tryz.func97, Tryz.ntmps97
  go_wp2_with fail
  refine (cwcount B b c N _ _ HW.out (HK.out.max (by omega)) hN9).mono ?_
  rw [if_neg q, E1.out]
  rintro e w1 ⟨he, h1, h2⟩
  rw [he.out]
  clear he
  have H1 := Hd h1
  have H2 := Hd h2
  clear h1 h2
  go_wp2_with (refine KN.make rfl _ _ rfl rfl 0 rfl (by omega) w1.heap.size (Nat.le_refl _) ?_)
  intro v2 w2 ho hb hne hg
  obtain ⟨a2, c2, rfl⟩ : ∃ a2 c2, v2 = .slice a2 0 c2 := ho.slice
  have HS := Hd (H1.out.below hb)
  have HF := Hd (H2.out.trans (Ft.of_below (b := b) (c := c) hb (by have := H1.out.lb; omega)))
  clear ho hb hne hg H1 H2
  go_wp2_with fail
  go_loopw [10, 27] (fun o i wr => o = .slice a2 0 c2 ∧ i = .int .i64 0 ∧ wr = w2) (fun _ i _ => 0)
  case atStart => exact ⟨rfl, rfl, rfl⟩
  case round =>
   obtain ⟨rfl, rfl, rfl⟩ := hrel
   go_wp2_with fail
   go_ret
   exact ⟨a2, 0, c2, rfl, HS.out, HF.out⟩
theorem w_lstr (B b c : Nat) (v : Value) (rs : List (Cls 1)) (l : List ByteArray) (W w : World) (st st' : Option (List Int)) (K : Nat) (h : WO w B b c st) (hr : RowIs KT txS W v rs l) (hW : Below W.heap.size W w) (hWB : W.heap.size ≤ B) (hE : wrs st ((listC txtC).fs l) = st') (hK : Sh K st) (hk : K + 1025 ≤ 20000000) :
  Calls Tryz.prog 105 #[fW c, v, .func (.func 106) #[] #[]] w (WQ B b c st' w) := by
 obtain ⟨a0, c0, rfl⟩ := hr.rd.slice
 have hlen := hr.len
 have hmx := hr.rd.len
 obtain ⟨N, hN⟩ : ∃ N, rs.length = N := ⟨_, rfl⟩
 rw [hN] at hlen hr hmx ⊢
 unfold maxLen at hmx
 rw [listC_fs, wrs_cons, ← hlen] at hE
 obtain ⟨st1, he1⟩ : ∃ x, wr1 st (.cnt N) = x := ⟨_, rfl⟩
 rw [he1] at hE
 have K1 : Hid (Sh (K + 1) st1) := Hd (by rw [← he1]; exact hK.one _)
 have E1 := Hd he1
 have E := Hd hE
 have HW := Hd h
 have HK := Hd hK
 have HR := Hd hr
 have HL := Hd hlen
 have HBW := Hd hW
 have HWB := Hd hWB
 have hN9 : N ≤ 9223372036854775807 := by omega
 have m1 := mwcount c
 have m2 := tW c
 clear hE he1 h hr hK hN hlen hW hWB
 by_cases q : N ≤ 1024
 ·have hcN : N ≤ 1000000 := by omega
  go_enter Tryz.func105, Tryz.ntmps105
  go_wp2_with fail
  refine (cwcount B b c N _ _ HW.out (HK.out.max (by omega)) hN9).mono ?_
  rw [if_pos q, E1.out]
  rintro e w1 ⟨he, h1, h2⟩
  rw [he.out]
  clear he
  have H1 := Hd h1
  have H2 := Hd h2
  clear h1 h2
  go_wp2_with (refine KT.make rfl _ _ rfl rfl N rfl hcN w1.heap.size (Nat.le_refl _) ?_)
  intro v2 w2 ho hb hne hg
  obtain ⟨a2, c2, rfl⟩ : ∃ a2 c2, v2 = .slice a2 0 c2 := ho.slice
  have HO := Hd ho
  have HZ := Hd (show b < w1.heap.size ∧ c < w1.heap.size ∧ B ≤ w1.heap.size ∧ w.heap.size ≤ w1.heap.size from ⟨H1.out.lb.1, H1.out.bx.lt, by have := H1.out.lb; omega, H2.out.size⟩)
  have HS := Hd (H1.out.below hb)
  have HF := Hd (H2.out.trans (Ft.of_below (b := b) (c := c) hb HZ.out.2.2.1))
  have HP := Hd hb.size
  clear ho hb hne hg H1 H2
  go_wp2_with fail
  go_loopw [10, 27] (fun o i wr => ∃ (k : Nat) (a : Option Addr) (cp : Nat) (rk : List (Cls 1)), k ≤ N ∧ i = .int .i64 k ∧ o = .slice a k cp ∧ Hid (rk.length = k) ∧ Hid (KT.Own wr w1.heap.size (.slice a k cp) rk) ∧ Hid (WO wr B b c (wrs st1 ((l.take k).flatMap txtC.fs))) ∧ Hid (Ft B b c w wr) ∧ Hid (w1.heap.size ≤ wr.heap.size)) (fun _ i _ => N - (intOf i).toNat)
  case atStart => exact ⟨0, a2, c2, [], by omega, rfl, rfl, rfl, HO.out, Hd (by simpa [wrs] using HS.out), HF.out, HP.out⟩
  case round =>
   clear HO HS HF HP
   obtain ⟨k, a, cp, rk, hk, rfl, rfl, hrk, HO, HS, HF, HP⟩ := hrel
   by_cases hlt : k < N
   ·obtain ⟨hl, g, off, cs, ha, hg, hcs, hcel⟩ := HR.out.el2 rfl (HBW.out.trans (HF.out.low.mono HWB.out)) k hlt
    subst ha
    obtain ⟨x0, hx⟩ : ∃ x, l[k] = x := ⟨_, rfl⟩
    rw [hx] at hcs
    have HX := Hd hx
    clear hx
    have hcs0 : cs = [.string x0] := hcs.1
    have hs0 : x0.size ≤ 9223372036854775807 := by have := hcs.2; unfold maxLen at this; omega
    subst hcs0
    clear hcs
    have y0 : wr.cell? ⟨g, off + k, none⟩ = some (.string x0) := by have := hcel 0 _ rfl; simpa [KT, rawK] using this
    have HE := Hd (step_fs txtC st1 l k x0 hl HX.out)
    have HK1 := Hd (sh_part ShC.txt K1.out l k)
    clear hcel
    go_wp2_with fail
    refine (w_name B b c _ _ _ HS.out (HK1.out.max (by omega)) hs0).mono ?_
    rw [show wr1 (wrs st1 ((l.take k).flatMap txtC.fs)) (.txt x0) = wrs st1 ((l.take (k + 1)).flatMap txtC.fs) from HE.out]
    rintro e w3 ⟨he, h1, h2⟩
    rw [he.out]
    clear he y0
    have hbc : ∀ j, (Value.slice a k cp).ownBlock = some j → j ≠ b ∧ j ≠ c := fun j hj => by have := HO.out.from j hj; have := HZ.out; omega
    have hO := HO.out.ft h2 (by decide) hbc
    have HS2 := Hd h1
    have HF2 := Hd (HF.out.trans h2)
    have hz3 : w1.heap.size ≤ w3.heap.size := by have := HP.out; have := h2.size; omega
    obtain ⟨X, hX⟩ : ∃ X : Cls 1, X = ⟨[.string x0], rfl, by intro v hv; simp only [List.mem_cons, List.not_mem_nil, or_false] at hv; subst hv; rfl⟩ := ⟨_, rfl⟩
    have hXe : KT.enc X = [.string x0] := by rw [hX]; rfl
    have HO2 := Hd (hO.below ((Below.refl _ _).alloc (Nat.le_refl _) (.cells (KT.enc X).toArray 9)))
    have HQ := Hd (KT.rd_boxAt X 9 1 w3 w3.heap.size rfl)
    rw [hXe] at HO2 HQ
    clear hX hXe
    have HBC := Hd hbc
    have HFr := Hd HO.out.from
    have hlk : rk.length + [X].length ≤ 1000000 := by rw [hrk.out]; simp; omega
    clear hO h1 h2 hbc HS HF HO HP
    go_wp2_with (refine KT.app rfl _ _ rfl w1.heap.size _ rk rfl HO2.out _ [X] rfl HQ.out hlk (by simp; omega) ?_)
    intro v5 w5 ho hb5 hg5 hne5
    obtain ⟨a5, c5, rfl⟩ : ∃ a5 c5, v5 = .slice a5 (k + 1) c5 := by
     obtain ⟨a5, c5, e5⟩ := ho.slice
     exact ⟨a5, c5, by rw [e5]; simp [hrk.out]⟩
    have HO5 := Hd ho
    have HS5 := Hd ((HS2.out.below ((Below.refl _ _).alloc (Nat.le_refl _) _)).grown HO2.out (by decide) HBC.out hg5)
    have HF5 := Hd ((HF2.out.alloc (by have := HZ.out; omega) _).grown hg5 (fun j hj => by have := HFr.out j hj; have := HZ.out; omega) (by have := HZ.out; simp; omega))
    have HP5 := Hd hg5.size
    clear ho hb5 hg5 hne5 HO2 HS2 HF2
    go_wp2_with fail
    refine ⟨⟨k + 1, a5, c5, rk ++ [X], by omega, by first | rfl | simp, rfl, Hd (by simp [hrk.out]), HO5.out, HS5.out, HF5.out, Hd (by have := HP5.out; simp at this; omega)⟩, by simp [intOf]; omega⟩
   ·have hkN : k = N := by omega
    subst hkN
    go_wp2_with fail
    go_ret
    refine ⟨a, k, cp, rfl, ?_, HF.out⟩
    rw [← E.out]
    have := HS.out
    rwa [List.take_of_length_le (by rw [← HL.out]; exact Nat.le_refl _)] at this
 ·have hst : st' = none := by
   rw [← E.out, ← E1.out, wr1_bad (show ¬ (Fd.cnt N).ok from q), wrs_none]
  have hst1 : st1 = none := by rw [← E1.out, wr1_bad (show ¬ (Fd.cnt N).ok from q)]
  subst hst
  subst hst1
  go_enter Tryz.func105, Tryz.ntmps105
  go_wp2_with fail
  refine (cwcount B b c N _ _ HW.out (HK.out.max (by omega)) hN9).mono ?_
  rw [if_neg q, E1.out]
  rintro e w1 ⟨he, h1, h2⟩
  rw [he.out]
  clear he
  have H1 := Hd h1
  have H2 := Hd h2
  clear h1 h2
  go_wp2_with (refine KT.make rfl _ _ rfl rfl 0 rfl (by omega) w1.heap.size (Nat.le_refl _) ?_)
  intro v2 w2 ho hb hne hg
  obtain ⟨a2, c2, rfl⟩ : ∃ a2 c2, v2 = .slice a2 0 c2 := ho.slice
  have HS := Hd (H1.out.below hb)
  have HF := Hd (H2.out.trans (Ft.of_below (b := b) (c := c) hb (by have := H1.out.lb; omega)))
  clear ho hb hne hg H1 H2
  go_wp2_with fail
  go_loopw [10, 27] (fun o i wr => o = .slice a2 0 c2 ∧ i = .int .i64 0 ∧ wr = w2) (fun _ i _ => 0)
  case atStart => exact ⟨rfl, rfl, rfl⟩
  case round =>
   obtain ⟨rfl, rfl, rfl⟩ := hrel
   go_wp2_with fail
   go_ret
   exact ⟨a2, 0, c2, rfl, HS.out, HF.out⟩
theorem w_lent (B b c : Nat) (v : Value) (rs : List (Cls 3)) (l : List Ent) (W w : World) (st st' : Option (List Int)) (K : Nat) (h : WO w B b c st) (hr : RowIs KE enS W v rs l) (hW : Below W.heap.size W w) (hWB : W.heap.size ≤ B) (hE : wrs st ((listC enC).fs l) = st') (hK : Sh K st) (hk : K + 3073 ≤ 20000000) :
  Calls Tryz.prog 84 #[fW c, v, .func (.func 85) #[] #[]] w (WQ B b c st' w) := by
 obtain ⟨a0, c0, rfl⟩ := hr.rd.slice
 have hlen := hr.len
 have hmx := hr.rd.len
 obtain ⟨N, hN⟩ : ∃ N, rs.length = N := ⟨_, rfl⟩
 rw [hN] at hlen hr hmx ⊢
 unfold maxLen at hmx
 rw [listC_fs, wrs_cons, ← hlen] at hE
 obtain ⟨st1, he1⟩ : ∃ x, wr1 st (.cnt N) = x := ⟨_, rfl⟩
 rw [he1] at hE
 have K1 : Hid (Sh (K + 1) st1) := Hd (by rw [← he1]; exact hK.one _)
 have E1 := Hd he1
 have E := Hd hE
 have HW := Hd h
 have HK := Hd hK
 have HR := Hd hr
 have HL := Hd hlen
 have HBW := Hd hW
 have HWB := Hd hWB
 have hN9 : N ≤ 9223372036854775807 := by omega
 have m1 := mwcount c
 have m2 := tW c
 clear hE he1 h hr hK hN hlen hW hWB
 by_cases q : N ≤ 1024
 ·have hcN : N ≤ 1000000 := by omega
  go_enter Tryz.func84, Tryz.ntmps84
  go_wp2_with fail
  refine (cwcount B b c N _ _ HW.out (HK.out.max (by omega)) hN9).mono ?_
  rw [if_pos q, E1.out]
  rintro e w1 ⟨he, h1, h2⟩
  rw [he.out]
  clear he
  have H1 := Hd h1
  have H2 := Hd h2
  clear h1 h2
  go_wp2_with (refine KE.make rfl _ _ rfl rfl N rfl hcN w1.heap.size (Nat.le_refl _) ?_)
  intro v2 w2 ho hb hne hg
  obtain ⟨a2, c2, rfl⟩ : ∃ a2 c2, v2 = .slice a2 0 c2 := ho.slice
  have HO := Hd ho
  have HZ := Hd (show b < w1.heap.size ∧ c < w1.heap.size ∧ B ≤ w1.heap.size ∧ w.heap.size ≤ w1.heap.size from ⟨H1.out.lb.1, H1.out.bx.lt, by have := H1.out.lb; omega, H2.out.size⟩)
  have HS := Hd (H1.out.below hb)
  have HF := Hd (H2.out.trans (Ft.of_below (b := b) (c := c) hb HZ.out.2.2.1))
  have HP := Hd hb.size
  clear ho hb hne hg H1 H2
  go_wp2_with fail
  go_loopw [10, 27] (fun o i wr => ∃ (k : Nat) (a : Option Addr) (cp : Nat) (rk : List (Cls 3)), k ≤ N ∧ i = .int .i64 k ∧ o = .slice a k cp ∧ Hid (rk.length = k) ∧ Hid (KE.Own wr w1.heap.size (.slice a k cp) rk) ∧ Hid (WO wr B b c (wrs st1 ((l.take k).flatMap enC.fs))) ∧ Hid (Ft B b c w wr) ∧ Hid (w1.heap.size ≤ wr.heap.size)) (fun _ i _ => N - (intOf i).toNat)
  case atStart => exact ⟨0, a2, c2, [], by omega, rfl, rfl, rfl, HO.out, Hd (by simpa [wrs] using HS.out), HF.out, HP.out⟩
  case round =>
   clear HO HS HF HP
   obtain ⟨k, a, cp, rk, hk, rfl, rfl, hrk, HO, HS, HF, HP⟩ := hrel
   by_cases hlt : k < N
   ·obtain ⟨hl, g, off, cs, ha, hg, hcs, hcel⟩ := HR.out.el2 rfl (HBW.out.trans (HF.out.low.mono HWB.out)) k hlt
    subst ha
    obtain ⟨x, hx⟩ : ∃ x, l[k] = x := ⟨_, rfl⟩
    rw [hx] at hcs
    have HX := Hd hx
    clear hx
    obtain ⟨x0, x1, x2⟩ := x
    have hcs0 : cs = [.string x0, .string x1, .int .i64 x2] := hcs.1
    have hs0 : x0.size ≤ 9223372036854775807 := by have := hcs.2.1; unfold maxLen at this; simp only at this; omega
    have hs1 : x1.size ≤ 9223372036854775807 := by have := hcs.2.2; unfold maxLen at this; simp only at this; omega
    subst hcs0
    clear hcs
    have y0 : wr.cell? ⟨g, off + k * 3, none⟩ = some (.string x0) := hcel 0 _ rfl
    have y1 : wr.cell? ⟨g, off + k * 3 + 1, none⟩ = some (.string x1) := hcel 1 _ rfl
    have y2 : wr.cell? ⟨g, off + k * 3 + 2, none⟩ = some (.int .i64 x2) := hcel 2 _ rfl
    have HE := Hd (step_fs enC st1 l k (x0, x1, x2) hl HX.out)
    have HK1 := Hd (sh_part ShC.en K1.out l k)
    clear hcel
    go_wp2_with fail
    refine (w_ent B b c _ _ _ _ _ _ _ HS.out HE.out HK1.out (by omega) hs0 hs1).mono ?_
    rintro e w3 ⟨he, h1, h2⟩
    rw [he.out]
    clear he y0 y1 y2
    have hbc : ∀ j, (Value.slice a k cp).ownBlock = some j → j ≠ b ∧ j ≠ c := fun j hj => by have := HO.out.from j hj; have := HZ.out; omega
    have hO := HO.out.ft h2 (by decide) hbc
    have HS2 := Hd h1
    have HF2 := Hd (HF.out.trans h2)
    have hz3 : w1.heap.size ≤ w3.heap.size := by have := HP.out; have := h2.size; omega
    obtain ⟨X, hX⟩ : ∃ X : Cls 3, X = ⟨[.string x0, .string x1, .int .i64 x2], rfl, by intro v hv; simp only [List.mem_cons, List.not_mem_nil, or_false] at hv; rcases hv with rfl | rfl | rfl <;> rfl⟩ := ⟨_, rfl⟩
    have hXe : KE.enc X = [.string x0, .string x1, .int .i64 x2] := by rw [hX]; rfl
    have HO2 := Hd (hO.below ((Below.refl _ _).alloc (Nat.le_refl _) (.cells (KE.enc X).toArray 71)))
    have HQ := Hd (KE.rd_boxAt X 71 1 w3 w3.heap.size rfl)
    rw [hXe] at HO2 HQ
    clear hX hXe
    have HBC := Hd hbc
    have HFr := Hd HO.out.from
    have hlk : rk.length + [X].length ≤ 1000000 := by rw [hrk.out]; simp; omega
    clear hO h1 h2 hbc HS HF HO HP
    go_wp2_with (refine KE.app rfl _ _ rfl w1.heap.size _ rk rfl HO2.out _ [X] rfl HQ.out hlk (by simp; omega) ?_)
    intro v5 w5 ho hb5 hg5 hne5
    obtain ⟨a5, c5, rfl⟩ : ∃ a5 c5, v5 = .slice a5 (k + 1) c5 := by
     obtain ⟨a5, c5, e5⟩ := ho.slice
     exact ⟨a5, c5, by rw [e5]; simp [hrk.out]⟩
    have HO5 := Hd ho
    have HS5 := Hd ((HS2.out.below ((Below.refl _ _).alloc (Nat.le_refl _) _)).grown HO2.out (by decide) HBC.out hg5)
    have HF5 := Hd ((HF2.out.alloc (by have := HZ.out; omega) _).grown hg5 (fun j hj => by have := HFr.out j hj; have := HZ.out; omega) (by have := HZ.out; simp; omega))
    have HP5 := Hd hg5.size
    clear ho hb5 hg5 hne5 HO2 HS2 HF2
    go_wp2_with fail
    refine ⟨⟨k + 1, a5, c5, rk ++ [X], by omega, by first | rfl | simp, rfl, Hd (by simp [hrk.out]), HO5.out, HS5.out, HF5.out, Hd (by have := HP5.out; simp at this; omega)⟩, by simp [intOf]; omega⟩
   ·have hkN : k = N := by omega
    subst hkN
    go_wp2_with fail
    go_ret
    refine ⟨a, k, cp, rfl, ?_, HF.out⟩
    rw [← E.out]
    have := HS.out
    rwa [List.take_of_length_le (by rw [← HL.out]; exact Nat.le_refl _)] at this
 ·have hst : st' = none := by
   rw [← E.out, ← E1.out, wr1_bad (show ¬ (Fd.cnt N).ok from q), wrs_none]
  have hst1 : st1 = none := by rw [← E1.out, wr1_bad (show ¬ (Fd.cnt N).ok from q)]
  subst hst
  subst hst1
  go_enter Tryz.func84, Tryz.ntmps84
  go_wp2_with fail
  refine (cwcount B b c N _ _ HW.out (HK.out.max (by omega)) hN9).mono ?_
  rw [if_neg q, E1.out]
  rintro e w1 ⟨he, h1, h2⟩
  rw [he.out]
  clear he
  have H1 := Hd h1
  have H2 := Hd h2
  clear h1 h2
  go_wp2_with (refine KE.make rfl _ _ rfl rfl 0 rfl (by omega) w1.heap.size (Nat.le_refl _) ?_)
  intro v2 w2 ho hb hne hg
  obtain ⟨a2, c2, rfl⟩ : ∃ a2 c2, v2 = .slice a2 0 c2 := ho.slice
  have HS := Hd (H1.out.below hb)
  have HF := Hd (H2.out.trans (Ft.of_below (b := b) (c := c) hb (by have := H1.out.lb; omega)))
  clear ho hb hne hg H1 H2
  go_wp2_with fail
  go_loopw [10, 27] (fun o i wr => o = .slice a2 0 c2 ∧ i = .int .i64 0 ∧ wr = w2) (fun _ i _ => 0)
  case atStart => exact ⟨rfl, rfl, rfl⟩
  case round =>
   obtain ⟨rfl, rfl, rfl⟩ := hrel
   go_wp2_with fail
   go_ret
   exact ⟨a2, 0, c2, rfl, HS.out, HF.out⟩
end Go.Proofs.YtnancdbkmompdaaGreat
