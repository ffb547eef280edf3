/-
 Texts put together: DirG2, Dir0.
-/
import Derived.Test.YtodcmhmankmaoaaGreatSht
import Derived.Test.YtodcmhmankmaoaaGreatJ4
import Derived.Test.YtodcmhmankmaoaaGreatJPx
namespace Go.Proofs.YtodcmhmankmaoaaGreat
open Go.RowKit
set_option linter.unusedSimpArgs false
set_option linter.unusedVariables false

set_option maxHeartbeats 2000000 in
theorem fits_any (d bk K : Nat) (l : List E3) (p v : ByteArray) (n : Int) (w : World) (hd : DirAt w d bk K l) (hp : p.size ≤ 1000) (hm : ML w) :
  Calls Tryz.prog 30 #[dP d, .agg #[.string p, .string v, .int .i64 n]] w fun e w' => e = .returned (.bool (fitD l (p, v, n))) ∧ Below w.heap.size w w' := by
 obtain ⟨X, hX⟩ : ∃ X, w.alloc (.cells #[.string p, .string v, .int .i64 n] 49) = X := ⟨_, rfl⟩
 have hB : Below w.heap.size w X := by rw [← hX]; exact (Below.refl _ _).alloc (Nat.le_refl _) _
 have k0 : X.cell? ⟨w.heap.size, 0, none⟩ = some (.string p) := by rw [← hX]; simp [go_sem]
 have k1 : X.cell? ⟨w.heap.size, 1, none⟩ = some (.string v) := by rw [← hX]; simp [go_sem]
 have k2 : X.cell? ⟨w.heap.size, 2, none⟩ = some (.int .i64 n) := by rw [← hX]; simp [go_sem]
 have hz : w.heap.size < X.heap.size := by rw [← hX]; simp
 have hcell : Hid (∀ W, Below X.heap.size X W → W.cell? ⟨w.heap.size, 0, none⟩ = some (.string p) ∧ W.cell? ⟨w.heap.size, 1, none⟩ = some (.string v) ∧ W.cell? ⟨w.heap.size, 2, none⟩ = some (.int .i64 n)) := Lib.hid (fun W hW => ⟨(hW.cell (p := ⟨w.heap.size, 0, none⟩) hz).trans k0, (hW.cell (p := ⟨w.heap.size, 1, none⟩) hz).trans k1, (hW.cell (p := ⟨w.heap.size, 2, none⟩) hz).trans k2⟩)
 have HB := Lib.hid hB
 have HP := Lib.hid hp
 have HDX := Lib.hid (hd.below hB)
 have HM := Lib.hid (hm.below hB)
 have HC1 := Lib.hid (depth_any p X hp (hm.below hB))
 obtain ⟨q, hq⟩ : ∃ q, dpt p = q := ⟨_, rfl⟩
 rw [hq] at HC1
 have HF : Hid (fitD l (p, v, n) = (decide (0 < q) && thrD l (par p) && decide (v.size ≤ 64) && decide (1 ≤ n))) := Lib.hid (by rw [← hq]; rfl)
 clear hB hz hd hm hp hq k1 k2
 go_enter Tryz.func30, Tryz.ntmps30
 go_wp2_with fail
 refine HC1.out.mono ?_
 rintro e w1 ⟨rfl, hb⟩
 have HB1 := Lib.hid (below_self HB.out hb)
 have HX1 := Lib.hid hb
 obtain ⟨k0, k1, k2⟩ := hcell.out w1 hb
 have HD1 := Lib.hid (HDX.out.below hb)
 have HM1 := Lib.hid (HM.out.below hb)
 clear hb hX HC1
 by_cases hq0 : 0 < q
 ·have g0 : decide (0 < q) = true := decide_eq_true hq0
  go_wp2_with fail
  refine (parent_any p w1 HP.out HM1.out).mono ?_
  rintro e w2 ⟨rfl, hb⟩
  have HB2 := Lib.hid (below_self HB1.out hb)
  have HX2 := Lib.hid (below_self HX1.out hb)
  have HD2 := Lib.hid (HD1.out.below hb)
  clear hb k0 k1 k2
  go_wp2_with fail
  refine (there_any d bk K l (par p) w2 HD2.out (par_size p)).mono ?_
  rintro e w3 ⟨rfl, hb⟩
  have HB3 := Lib.hid (below_self HB2.out hb)
  have HX3 := below_self HX2.out hb
  obtain ⟨k0, k1, k2⟩ := hcell.out w3 HX3
  obtain ⟨T, hT⟩ : ∃ T, thrD l (par p) = T := ⟨_, rfl⟩
  rw [hT] at HF ⊢
  clear hb HX3 hT
  cases T with
  | false =>
   go_wp2
   go_ret
   exact ⟨by rw [HF.out]; simp, HB3.out⟩
  | true =>
   by_cases hv : v.size ≤ 64
   ·have hv2 : (v.size : Int) ≤ 64 := by omega
    have g1 : decide ((v.size : Int) ≤ 64) = true := decide_eq_true hv2
    have g2 : decide (v.size ≤ 64) = true := decide_eq_true hv
    have HF2 : Hid (fitD l (p, v, n) = decide (1 ≤ n)) := Lib.hid (by rw [HF.out, g0, g2]; rfl)
    clear hv g2 HF
    go_wp2
    go_ret
    exact ⟨by rw [HF2.out]; rfl, HB3.out⟩
   ·have hv2 : ¬ (v.size : Int) ≤ 64 := by omega
    have g1 : decide ((v.size : Int) ≤ 64) = false := decide_eq_false hv2
    have HF2 : Hid (fitD l (p, v, n) = false) := Lib.hid (by rw [HF.out, decide_eq_false hv]; simp)
    clear hv HF
    go_wp2
    go_ret
    exact ⟨by rw [HF2.out]; rfl, HB3.out⟩
 ·have g0 : decide (0 < q) = false := decide_eq_false hq0
  have HF2 : Hid (fitD l (p, v, n) = false) := Lib.hid (by rw [HF.out, g0]; rfl)
  clear HF
  go_wp2
  go_ret
  exact ⟨by rw [HF2.out]; rfl, HB1.out⟩
end Go.Proofs.YtodcmhmankmaoaaGreat
namespace Go.Proofs.YtodcmhmankmaoaaGreat
open Go.RowKit
set_option linter.unusedSimpArgs false
set_option linter.unusedVariables false

def OfP (l : List E3) (w : World) (e : Ending) (w' : World) : Prop := Hid (e = .returned (.tuple #[dP (w.heap.size + 1), .int .i64 0])) ∧ DirAt w' (w.heap.size + 1) w.heap.size l.length l ∧ Below w.heap.size w w'
set_option maxRecDepth 100000 in
set_option maxHeartbeats 4000000 in
theorem ofd_any (a : Option Addr) (n c : Nat) (l : List E3) (w : World) (hR : EK.Rd w (.slice a n c) l) (hl : l.length ≤ 1000) (h : RightD l) (hm : ML w) :
  Calls Tryz.prog 8 #[.slice a n c] w (OfP l w) := by
 have hn : n = l.length := by
  obtain ⟨a', c', e', _⟩ := hR
  simp only [Value.slice.injEq] at e'
  exact e'.2.1
 have HL := Lib.hid hn
 have hn2 : n ≤ 1000 := by omega
 have HR := Lib.hid hR
 have HH := Lib.hid h
 have HM := Lib.hid hm
 have HN := Lib.hid (new_any w)
 clear hR h hm hl hn
 go_enter Tryz.func8, Tryz.ntmps8
 go_wp2_with (go_at_call 27; refine HN.out.mono ?_; rintro e w1 ⟨rfl, hd, hb⟩; have HD1 := Lib.hid hd; have HB1 := Lib.hid hb; clear hd hb)
 go_loopw [10] (fun i wr => ∃ k : Nat, k ≤ n ∧ i = .int .i64 k ∧ Hid (DirAt wr (w.heap.size + 1) w.heap.size k (l.take k)) ∧ Hid (Below w.heap.size w wr)) (fun i _ => n - (intOf i).toNat)
 case atStart => exact ⟨0, Nat.zero_le _, rfl, Lib.hid HD1.out, HB1⟩
 case round =>
  clear HD1 HB1
  obtain ⟨k, hk, rfl, hD, hB⟩ := hrel
  by_cases hlt : k < n
  ·have hlt' : (k : Int) < (n : Int) := by omega
   obtain ⟨e0, g, off, ha, hg, t0, t1, t2, hkl⟩ := entCell (HR.out.below hB.out) k hlt
   subst ha
   obtain ⟨⟨p, v, m⟩, hE⟩ : ∃ E, l.getD k EK.d = E := ⟨_, rfl⟩
   rw [hE] at t0 t1 t2
   have hE2 : l[k] = (p, v, m) := by rw [← hE]; simp [List.getD, hkl]
   have HE := Lib.hid hE2
   obtain ⟨X, hX⟩ : ∃ X, wr.alloc (.cells #[.string p, .string v, .int .i64 m] 49) = X := ⟨_, rfl⟩
   have hbx : Below wr.heap.size wr X := by rw [← hX]; exact (Below.refl _ _).alloc (Nat.le_refl _) _
   have hzx : wr.heap.size < X.heap.size := by rw [← hX]; simp
   have u0 : X.cell? ⟨wr.heap.size, 0, none⟩ = some (.string p) := by rw [← hX]; simp [go_sem]
   have u1 : X.cell? ⟨wr.heap.size, 1, none⟩ = some (.string v) := by rw [← hX]; simp [go_sem]
   have u2 : X.cell? ⟨wr.heap.size, 2, none⟩ = some (.int .i64 m) := by rw [← hX]; simp [go_sem]
   obtain ⟨g6, hg6⟩ : ∃ g6, wr.heap.size = g6 := ⟨_, rfl⟩
   rw [hg6] at u0 u1 u2 hzx
   have HBX := Lib.hid (below_self hB.out hbx)
   have HDX := Lib.hid (hD.out.below hbx)
   have HMX := Lib.hid (HM.out.below HBX.out)
   have hmem : (p, v, m) ∈ l := by rw [← hE2]; exact List.getElem_mem hkl
   have hps := okP_size (HH.out.keys _ hmem)
   have HFT : Hid (∀ W, Below X.heap.size X W → Calls Tryz.prog 30 #[dP (w.heap.size + 1), .agg #[.string p, .string v, .int .i64 m]] W fun e w' => e = .returned (.bool true) ∧ Below W.heap.size W w') := Lib.hid (fun W hW => by
    have hf := HH.out.fit hkl
    rw [hE2] at hf
    have := fits_any (w.heap.size + 1) w.heap.size k (l.take k) p v m W (HDX.out.below hW) hps (HMX.out.below hW)
    rw [hf] at this
    exact this)
   have HPS := Lib.hid hps
   have HOF : Hid (∀ w7 (D : DataW Unit) (mm : Nat), mm ≤ k → DirIs D (l.take k) → w7.ownsMap (H := Unit) Tryz.prog 9 heldElem w.heap.size (mm + 1) (D.put (kS p) (Go.Proofs.YtodcmhmankmaoaaGreat.hD (v, m))) → w7.cell? ⟨w.heap.size + 1, 0, none⟩ = some (.map (some w.heap.size)) → DirAt w7 (w.heap.size + 1) w.heap.size (k + 1) (l.take (k + 1))) := Lib.hid (fun w7 D mm h1 h2 h3 h4 => by
    have hrk : RisesD (l.take k) := List.Pairwise.sublist (List.take_sublist _ _) HH.out.rise
    have hkk : okKeys (l.take k) := fun e he => HH.out.keys e (List.mem_of_mem_take he)
    have ho := HH.out.keys _ hmem
    have h5 := h2.put hrk hkk ho v m
    have h6 := put_take HH.out.rise HH.out.keys hkl
    rw [hE2] at h6
    simp only at h6 h5
    rw [h6] at h5
    exact ⟨h4, ⟨_, mm + 1, by omega, h3, h5⟩, List.Pairwise.sublist (List.take_sublist _ _) HH.out.rise, fun e he => HH.out.keys e (List.mem_of_mem_take he)⟩)
   have U0 := Lib.hid u0
   have U1 := Lib.hid u1
   have U2 := Lib.hid u2
   have HZX := Lib.hid hzx
   by_cases k0 : k = 0
   ·subst k0
    have HKP : Hid (∀ w' : World, Below X.heap.size X w' → (w'.cell? ⟨g6, 0, none⟩ = some (.string p) ∧ w'.cell? ⟨g6, 1, none⟩ = some (.string v) ∧ w'.cell? ⟨g6, 2, none⟩ = some (.int .i64 m) ∧ Below X.heap.size X w')) := Lib.hid (fun w' hb => ⟨(hb.cell (p := ⟨g6, 0, none⟩) HZX.out).trans U0.out, (hb.cell (p := ⟨g6, 1, none⟩) HZX.out).trans U1.out, (hb.cell (p := ⟨g6, 2, none⟩) HZX.out).trans U2.out, hb⟩)
    simp only [Nat.zero_mul, Nat.add_zero] at t0 t1 t2
    clear hD hbx hzx hmem hps hE e0 hE2
    go_wp2_with fail
    refine wp_region_held_drew (S := (fun w' => w'.cell? ⟨g6, 0, none⟩ = some (.string p) ∧ w'.cell? ⟨g6, 1, none⟩ = some (.string v) ∧ w'.cell? ⟨g6, 2, none⟩ = some (.int .i64 m) ∧ Below X.heap.size X w')) (by kernel_rfl) ?_ (fun hHeld => ?_)
    ·((first
       | exact HKP.out _ (Below.refl _ _)
       | exact HKP.out _ (Below.refl _ _).drew
       | (go_split_ands; exact HKP.out _ (below_self (by assumption) (by assumption)))
       | (go_split_ands; exact HKP.out _ (Below.drew (by assumption)))
       | (go_split_ands; exact HKP.out _ (by assumption))))
    (refine tkA 0 (v := ?_) ?_ ?_; rotate_left; focus (intro w hSw; (try dsimp only at hSw); go_simp; try rfl)); try simp only [Act.put, gA1, gA2, gA3, gA4, gA5, gA6]
    (refine tkA 1 (v := ?_) ?_ ?_; rotate_left; focus (intro w hSw; (try dsimp only at hSw); go_simp; try rfl)); try simp only [Act.put, gA1, gA2, gA3, gA4, gA5, gA6]
    (refine tkA 2 (v := ?_) ?_ ?_; rotate_left; focus (intro w hSw; (try dsimp only at hSw); go_simp; try rfl)); try simp only [Act.put, gA1, gA2, gA3, gA4, gA5, gA6]
    refine utA 3 ?_; try simp only [Act.put, gA1, gA2, gA3, gA4, gA5, gA6]
    refine utA 4 ?_; try simp only [Act.put, gA1, gA2, gA3, gA4, gA5, gA6]
    refine utA 5 ?_; try simp only [Act.put, gA1, gA2, gA3, gA4, gA5, gA6]
    refine utA 6 ?_; try simp only [Act.put, gA1, gA2, gA3, gA4, gA5, gA6]
    refine utA 7 ?_; try simp only [Act.put, gA1, gA2, gA3, gA4, gA5, gA6]
    refine utA 8 ?_; try simp only [Act.put, gA1, gA2, gA3, gA4, gA5, gA6]
    refine utA 9 ?_; try simp only [Act.put, gA1, gA2, gA3, gA4, gA5, gA6]
    refine utA 10 ?_; try simp only [Act.put, gA1, gA2, gA3, gA4, gA5, gA6]
    refine utA 11 ?_; try simp only [Act.put, gA1, gA2, gA3, gA4, gA5, gA6]
    refine utA 12 ?_; try simp only [Act.put, gA1, gA2, gA3, gA4, gA5, gA6]
    (refine tkA 13 (v := ?_) ?_ ?_; rotate_left; focus (intro w hSw; (try dsimp only at hSw); go_simp; try rfl)); try simp only [Act.put, gA1, gA2, gA3, gA4, gA5, gA6]
    (refine tkA 14 (v := ?_) ?_ ?_; rotate_left; focus (intro w hSw; (try dsimp only at hSw); go_simp; try rfl)); try simp only [Act.put, gA1, gA2, gA3, gA4, gA5, gA6]
    (refine tkA 15 (v := ?_) ?_ ?_; rotate_left; focus (intro w hSw; (try dsimp only at hSw); go_simp; try rfl)); try simp only [Act.put, gA1, gA2, gA3, gA4, gA5, gA6]
    (refine tkA 16 (v := ?_) ?_ ?_; rotate_left; focus (intro w hSw; (try dsimp only at hSw); go_simp; try rfl)); try simp only [Act.put, gA1, gA2, gA3, gA4, gA5, gA6]
    refine wpAnyH_ready (rs := [17]) (by kernel_rfl) (by simp) ?_
    refine (AllReadyH.cons rfl (fun K hK => ?_) AllReadyH.nil)
    go_simp
    (go_at_call 30; go_split_ands; refine (HFT.out _ (by assumption)).mono ?_; rintro e w6 ⟨rfl, hbw6⟩)
    refine hK.out _ _ ?_ (fun hHeld => ?_)
    ·((first
       | exact HKP.out _ (Below.refl _ _)
       | exact HKP.out _ (Below.refl _ _).drew
       | (go_split_ands; exact HKP.out _ (below_self (by assumption) (by assumption)))
       | (go_split_ands; exact HKP.out _ (Below.drew (by assumption)))
       | (go_split_ands; exact HKP.out _ (by assumption))))
    clear hK K
    try simp only [Act.put, gA1, gA2, gA3, gA4, gA5, gA6]
    (refine tkA 18 (v := ?_) ?_ ?_; rotate_left; focus (intro w hSw; (try dsimp only at hSw); go_simp; try rfl)); try simp only [Act.put, gA1, gA2, gA3, gA4, gA5, gA6]
    (refine tkA 19 (v := ?_) ?_ ?_; rotate_left; focus (intro w hSw; (try dsimp only at hSw); go_simp; try rfl)); try simp only [Act.put, gA1, gA2, gA3, gA4, gA5, gA6]
    refine wpAnyH_done (by kernel_rfl) ?_ _
    go_split_ands
    have hbn : Below X.heap.size X w6 := by assumption
    have HBn := Lib.hid hbn
    clear hbn HKP
    have hb6 := HBn.out
    have HB6 := Lib.hid (below_self HBX.out hb6)
    have HD6 := Lib.hid (HDX.out.below hb6)
    have v0 := (hb6.cell (p := ⟨g6, 0, none⟩) HZX.out).trans U0.out
    have v1 := (hb6.cell (p := ⟨g6, 1, none⟩) HZX.out).trans U1.out
    have v2 := (hb6.cell (p := ⟨g6, 2, none⟩) HZX.out).trans U2.out
    obtain ⟨D, mm, hm6, hM6, hI6⟩ := HD6.out.map
    have HMX6 := Lib.hid hM6
    have HI6 := Lib.hid hI6
    have HMM6 := Lib.hid hm6
    have dc := HD6.out.cell
    have HKEY := Lib.hid (kS_key HPS.out)
    have hmx : mm < maxLen := by unfold maxLen; omega
    have HMAX := Lib.hid hmx
    clear hb6 hm6 hM6 hI6 hmx HBn
    go_wp2_with fail
    go_still_tail 11, (by kernel_rfl)
    refine wpList_mapUpdate_own _ rfl _ _ _ 69 rfl 9 68 strK Tryz.underlying69 heldElem w.heap.size mm D rfl HMX6.out.drew HMAX.out (.string p) (hV v m) (kS p) rfl rfl HKEY.out (hD (v, m)) [] (heldElem_mk _ _) ?_
    intro w7 hown hg7
    have hg8 : w6.grownBy w7 (some w.heap.size) := ⟨hg7.os, hg7.tape, hg7.output, hg7.size, hg7.block⟩
    have HB7 : Hid (Below w.heap.size w w7) := Lib.hid (HB6.out.grown hg8 HB6.out.size (fun i hi => by cases hi; exact Nat.le_refl _))
    have HD7 := Lib.hid (HOF.out w7 D mm HMM6.out HI6.out hown (hg8.cell dc (by simp)))
    clear hown hg7 hg8 dc v0 v1 v2
    go_wp2
    go_roundw
    case rel => exact ⟨_, by omega, by go_num, HD7, HB7⟩
    case measure => simp [intOf]; omega
   ·obtain ⟨j, hkj⟩ : ∃ j, k = j + 1 := ⟨k - 1, by omega⟩
    obtain ⟨e9, g9, off9, ha9, hg9, s0, _, _, hjl⟩ := entCell (HR.out.below hB.out) j (by omega)
    simp only [Option.some.injEq, Addr.mk.injEq, and_true] at ha9
    obtain ⟨rfl, rfl⟩ := ha9
    obtain ⟨⟨pp, pv, pm⟩, hPP⟩ : ∃ E, l.getD j EK.d = E := ⟨_, rfl⟩
    rw [hPP] at s0
    have hE3 : l[j] = (pp, pv, pm) := by rw [← hPP]; simp [List.getD, hjl]
    have hls : lsr pp p = true := by
     have := List.pairwise_iff_getElem.1 HH.out.rise j k hjl hkl (by omega)
     rw [hE3, hE2] at this
     exact this
    have hpps : pp.size ≤ 1000 := okP_size (HH.out.keys (pp, pv, pm) (by rw [← hE3]; exact List.getElem_mem hjl))
    have HLS : Hid (∀ W, Below X.heap.size X W → Calls Tryz.prog 29 #[.string pp, .string p] W fun e w' => e = .returned (.bool true) ∧ Below W.heap.size W w') := Lib.hid (fun W hW => by
     have := less_any pp p W hpps hps (HMX.out.below hW)
     rw [hls] at this
     exact this)
    have HS0 : Hid (X.cell? ⟨g, off + j * 3, none⟩ = some (.string pp)) := Lib.hid ((hbx.cell (p := ⟨g, off + j * 3, none⟩) hg).trans s0)
    have HGX : Hid (g < X.heap.size) := Lib.hid (Nat.lt_of_lt_of_le hg hbx.size)
    have HKP : Hid (∀ w' : World, Below X.heap.size X w' → (w'.cell? ⟨g6, 0, none⟩ = some (.string p) ∧ w'.cell? ⟨g6, 1, none⟩ = some (.string v) ∧ w'.cell? ⟨g6, 2, none⟩ = some (.int .i64 m) ∧ w'.cell? ⟨g, off + j * 3, none⟩ = some (.string pp) ∧ Below X.heap.size X w')) := Lib.hid (fun w' hb => ⟨(hb.cell (p := ⟨g6, 0, none⟩) HZX.out).trans U0.out, (hb.cell (p := ⟨g6, 1, none⟩) HZX.out).trans U1.out, (hb.cell (p := ⟨g6, 2, none⟩) HZX.out).trans U2.out, (hb.cell (p := ⟨g, off + j * 3, none⟩) HGX.out).trans HS0.out, hb⟩)
    have i1 : IntKind.i64.wrap ((k : Int) - 1) = (j : Int) := by simp [IntKind.wrap, IntKind.bits, IntKind.signed]; omega
    have i2 : (0 : Int) < (k : Int) := by omega
    have i3 : (j : Int) < (n : Int) := by omega
    have i4 : (0 : Int) ≤ (j : Int) := by omega
    have i5 : decide (0 < k) = true := decide_eq_true (by omega)
    have HKJ := Lib.hid hkj
    clear hD hbx hzx hmem hps hE e0 hE2 e9 hg9 hPP hE3 hls hpps hjl k0 hkj s0
    go_wp2_with fail
    refine wp_region_held_drew (S := (fun w' => w'.cell? ⟨g6, 0, none⟩ = some (.string p) ∧ w'.cell? ⟨g6, 1, none⟩ = some (.string v) ∧ w'.cell? ⟨g6, 2, none⟩ = some (.int .i64 m) ∧ w'.cell? ⟨g, off + j * 3, none⟩ = some (.string pp) ∧ Below X.heap.size X w')) (by kernel_rfl) ?_ (fun hHeld => ?_)
    ·((first
       | exact HKP.out _ (Below.refl _ _)
       | exact HKP.out _ (Below.refl _ _).drew
       | (go_split_ands; exact HKP.out _ (below_self (by assumption) (by assumption)))
       | (go_split_ands; exact HKP.out _ (Below.drew (by assumption)))
       | (go_split_ands; exact HKP.out _ (by assumption))))
    (refine tkA 0 (v := ?_) ?_ ?_; rotate_left; focus (intro w hSw; (try dsimp only at hSw); go_simp; try rfl)); try simp only [Act.put, gA1, gA2, gA3, gA4, gA5, gA6]
    (refine tkA 1 (v := ?_) ?_ ?_; rotate_left; focus (intro w hSw; (try dsimp only at hSw); go_simp; try rfl)); try simp only [Act.put, gA1, gA2, gA3, gA4, gA5, gA6]
    (refine tkA 2 (v := ?_) ?_ ?_; rotate_left; focus (intro w hSw; (try dsimp only at hSw); go_simp; try rfl)); try simp only [Act.put, gA1, gA2, gA3, gA4, gA5, gA6]
    (refine tkA 3 (v := ?_) ?_ ?_; rotate_left; focus (intro w hSw; (try dsimp only at hSw); go_simp; try rfl)); try simp only [Act.put, gA1, gA2, gA3, gA4, gA5, gA6]
    (refine tkA 4 (v := ?_) ?_ ?_; rotate_left; focus (intro w hSw; (try dsimp only at hSw); go_simp; try rfl)); try simp only [Act.put, gA1, gA2, gA3, gA4, gA5, gA6]
    (refine tkA 5 (v := ?_) ?_ ?_; rotate_left; focus (intro w hSw; (try dsimp only at hSw); go_simp; try rfl)); try simp only [Act.put, gA1, gA2, gA3, gA4, gA5, gA6]
    (refine tkA 6 (v := ?_) ?_ ?_; rotate_left; focus (intro w hSw; (try dsimp only at hSw); go_simp; try rfl)); try simp only [Act.put, gA1, gA2, gA3, gA4, gA5, gA6]
    (refine tkA 7 (v := ?_) ?_ ?_; rotate_left; focus (intro w hSw; (try dsimp only at hSw); go_simp; try rfl)); try simp only [Act.put, gA1, gA2, gA3, gA4, gA5, gA6]
    (refine tkA 8 (v := ?_) ?_ ?_; rotate_left; focus (intro w hSw; (try dsimp only at hSw); go_simp; try rfl)); try simp only [Act.put, gA1, gA2, gA3, gA4, gA5, gA6]
    (refine tkA 9 (v := ?_) ?_ ?_; rotate_left; focus (intro w hSw; (try dsimp only at hSw); go_simp; try rfl)); try simp only [Act.put, gA1, gA2, gA3, gA4, gA5, gA6]
    (refine tkA 10 (v := ?_) ?_ ?_; rotate_left; focus (intro w hSw; (try dsimp only at hSw); go_simp; try rfl)); try simp only [Act.put, gA1, gA2, gA3, gA4, gA5, gA6]
    refine wpAnyH_ready (rs := [11]) (by kernel_rfl) (by simp) ?_
    refine (AllReadyH.cons rfl (fun K hK => ?_) AllReadyH.nil)
    go_simp
    (go_at_call 29; go_split_ands; refine (HLS.out _ (by assumption)).mono ?_; rintro e w5 ⟨rfl, hbw5⟩)
    refine hK.out _ _ ?_ (fun hHeld => ?_)
    ·((first
       | exact HKP.out _ (Below.refl _ _)
       | exact HKP.out _ (Below.refl _ _).drew
       | (go_split_ands; exact HKP.out _ (below_self (by assumption) (by assumption)))
       | (go_split_ands; exact HKP.out _ (Below.drew (by assumption)))
       | (go_split_ands; exact HKP.out _ (by assumption))))
    clear hK K
    try simp only [Act.put, gA1, gA2, gA3, gA4, gA5, gA6]
    (refine tkA 12 (v := ?_) ?_ ?_; rotate_left; focus (intro w hSw; (try dsimp only at hSw); go_simp; try rfl)); try simp only [Act.put, gA1, gA2, gA3, gA4, gA5, gA6]
    (refine tkA 13 (v := ?_) ?_ ?_; rotate_left; focus (intro w hSw; (try dsimp only at hSw); go_simp; try rfl)); try simp only [Act.put, gA1, gA2, gA3, gA4, gA5, gA6]
    (refine tkA 14 (v := ?_) ?_ ?_; rotate_left; focus (intro w hSw; (try dsimp only at hSw); go_simp; try rfl)); try simp only [Act.put, gA1, gA2, gA3, gA4, gA5, gA6]
    (refine tkA 15 (v := ?_) ?_ ?_; rotate_left; focus (intro w hSw; (try dsimp only at hSw); go_simp; try rfl)); try simp only [Act.put, gA1, gA2, gA3, gA4, gA5, gA6]
    (refine tkA 16 (v := ?_) ?_ ?_; rotate_left; focus (intro w hSw; (try dsimp only at hSw); go_simp; try rfl)); try simp only [Act.put, gA1, gA2, gA3, gA4, gA5, gA6]
    refine wpAnyH_ready (rs := [17]) (by kernel_rfl) (by simp) ?_
    refine (AllReadyH.cons rfl (fun K hK => ?_) AllReadyH.nil)
    go_simp
    (go_at_call 30; go_split_ands; refine (HFT.out _ (by assumption)).mono ?_; rintro e w6 ⟨rfl, hbw6⟩)
    refine hK.out _ _ ?_ (fun hHeld => ?_)
    ·((first
       | exact HKP.out _ (Below.refl _ _)
       | exact HKP.out _ (Below.refl _ _).drew
       | (go_split_ands; exact HKP.out _ (below_self (by assumption) (by assumption)))
       | (go_split_ands; exact HKP.out _ (Below.drew (by assumption)))
       | (go_split_ands; exact HKP.out _ (by assumption))))
    clear hK K
    try simp only [Act.put, gA1, gA2, gA3, gA4, gA5, gA6]
    (refine tkA 18 (v := ?_) ?_ ?_; rotate_left; focus (intro w hSw; (try dsimp only at hSw); go_simp; try rfl)); try simp only [Act.put, gA1, gA2, gA3, gA4, gA5, gA6]
    (refine tkA 19 (v := ?_) ?_ ?_; rotate_left; focus (intro w hSw; (try dsimp only at hSw); go_simp; try rfl)); try simp only [Act.put, gA1, gA2, gA3, gA4, gA5, gA6]
    refine wpAnyH_done (by kernel_rfl) ?_ _
    go_split_ands
    have hbn : Below X.heap.size X w6 := by assumption
    have HBn := Lib.hid hbn
    clear hbn HKP
    have hb6 := HBn.out
    have HB6 := Lib.hid (below_self HBX.out hb6)
    have HD6 := Lib.hid (HDX.out.below hb6)
    have v0 := (hb6.cell (p := ⟨g6, 0, none⟩) HZX.out).trans U0.out
    have v1 := (hb6.cell (p := ⟨g6, 1, none⟩) HZX.out).trans U1.out
    have v2 := (hb6.cell (p := ⟨g6, 2, none⟩) HZX.out).trans U2.out
    obtain ⟨D, mm, hm6, hM6, hI6⟩ := HD6.out.map
    have HMX6 := Lib.hid hM6
    have HI6 := Lib.hid hI6
    have HMM6 := Lib.hid hm6
    have dc := HD6.out.cell
    have HKEY := Lib.hid (kS_key HPS.out)
    have hmx : mm < maxLen := by unfold maxLen; omega
    have HMAX := Lib.hid hmx
    clear hb6 hm6 hM6 hI6 hmx HBn
    go_wp2_with fail
    go_still_tail 11, (by kernel_rfl)
    refine wpList_mapUpdate_own _ rfl _ _ _ 69 rfl 9 68 strK Tryz.underlying69 heldElem w.heap.size mm D rfl HMX6.out.drew HMAX.out (.string p) (hV v m) (kS p) rfl rfl HKEY.out (hD (v, m)) [] (heldElem_mk _ _) ?_
    intro w7 hown hg7
    have hg8 : w6.grownBy w7 (some w.heap.size) := ⟨hg7.os, hg7.tape, hg7.output, hg7.size, hg7.block⟩
    have HB7 : Hid (Below w.heap.size w w7) := Lib.hid (HB6.out.grown hg8 HB6.out.size (fun i hi => by cases hi; exact Nat.le_refl _))
    have HD7 := Lib.hid (HOF.out w7 D mm HMM6.out HI6.out hown (hg8.cell dc (by simp)))
    clear hown hg7 hg8 dc v0 v1 v2
    go_wp2
    go_roundw
    case rel => exact ⟨_, by omega, by go_num, HD7, HB7⟩
    case measure => simp [intOf]; omega
  ·obtain rfl : k = n := by omega
   have hDn : DirAt wr (w.heap.size + 1) w.heap.size l.length l := by
    have := hD.out
    rw [HL.out, List.take_length] at this
    exact this
   have HDn := Lib.hid hDn
   clear hDn hD
   go_wp2
   go_ret2
   exact ⟨rfl, HDn.out, hB.out⟩
end Go.Proofs.YtodcmhmankmaoaaGreat
