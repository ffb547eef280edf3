/-
  Rows of sessions compared; machines compared.
-/
import Derived.Test.YtbebjpfbbidaiaaGreatSesD
namespace Go.Proofs.YtbebjpfbbidaiaaGreat
open Go.RowKit Go.Sort
set_option linter.unusedSimpArgs false
set_option linter.unusedVariables false

theorem SVof.nms {w : World} {x : SV} {e : S3} (h : SVof w x e) : Nms w (slV x.sl x.n) e.2.2.names := by
  have h1 := h.row.own1
  exact h1.nms (by have := own1_small h1; rw [List.length_map] at this; exact this)
set_option maxRecDepth 100000 in
set_option maxHeartbeats 4000000 in
theorem rrow9_any (va vb : Value) (xs ys : List SV) (s : List S3) (w : World) (ha : SE.Rd w va xs) (hb : SE.Rd w vb ys) (hx : Match w xs s) (hy : Match w ys s) (hl : s.length ≤ 100000) :
    Calls Tryz.prog 24 #[va, vb] w fun e w' => e = .returned (.bool true) ∧ Below w.heap.size w w' := by
  obtain ⟨aa, ca, e⟩ := ha.slice
  subst e
  obtain ⟨ab, cb, e⟩ := hb.slice
  subst e
  rw [hx.len] at ha ⊢
  rw [hy.len] at hb ⊢
  obtain ⟨N, hN⟩ : ∃ N, s.length = N := ⟨_, rfl⟩
  rw [hN] at ha hb hl ⊢
  have HN := Lib.hid hN
  have HA := Lib.hid ha
  have HB := Lib.hid hb
  have HX := Lib.hid hx
  have HY := Lib.hid hy
  have hli : (N : Int) ≤ 100000 := by omega
  clear ha hb hx hy hN
  go_enter Tryz.func24, Tryz.ntmps24
  go_wp2_with fail
  go_loopw [5] (fun i wr => ∃ k : Nat, k ≤ N ∧ i = .int .i64 k ∧ Hid (Below w.heap.size w wr)) (fun i _ => N - (intOf i).toNat)
  case atStart => exact ⟨0, Nat.zero_le _, rfl, Lib.hid (Below.refl _ _)⟩
  case round =>
    obtain ⟨k, hk, rfl, hBl⟩ := hrel
    by_cases hlt : k < N
    · have hlt' : (k : Int) < (N : Int) := by omega
      have hkl : k < s.length := by rw [HN.out]; exact hlt
      obtain ⟨e0, g2, o2, hda, hg2, _, p0, p1, p2, p3, p4, p5⟩ := sesCell (HA.out.below hBl.out) k hlt
      obtain ⟨e1, g3, o3, hdb, hg3, _, q0, q1, q2, q3, q4, q5⟩ := sesCell (HB.out.below hBl.out) k hlt
      have hxe := (HX.out.on hBl.out).at' k hkl
      have hye := (HY.out.on hBl.out).at' k hkl
      obtain ⟨x, hxx⟩ : ∃ x, xs.getD k svZ = x := ⟨_, rfl⟩
      obtain ⟨y, hyy⟩ : ∃ y, ys.getD k svZ = y := ⟨_, rfl⟩
      obtain ⟨⟨c, q, r⟩, hE⟩ : ∃ E, s.getD k zS = E := ⟨_, rfl⟩
      rw [hxx] at p0 p1 p2 p3 p4 p5 hxe
      rw [hyy] at q0 q1 q2 q3 q4 q5 hye
      rw [hE] at hxe hye
      rw [hxe.cl] at p0
      rw [hxe.sq] at p1
      rw [hxe.er] at p2
      rw [hxe.vl] at p3
      rw [hxe.vr] at p4
      rw [hye.cl] at q0
      rw [hye.sq] at q1
      rw [hye.er] at q2
      rw [hye.vl] at q3
      rw [hye.vr] at q4
      simp only at p0 p1 p2 p3 p4 q0 q1 q2 q3 q4
      have hnx := hxe.nms
      have hny := hye.nms
      obtain ⟨vx, hvx⟩ : ∃ v, slV x.sl x.n = v := ⟨_, rfl⟩
      obtain ⟨vy, hvy⟩ : ∃ v, slV y.sl y.n = v := ⟨_, rfl⟩
      rw [hvx] at p5 hnx
      rw [hvy] at q5 hny
      have HSA := Lib.hid (same_any r vx vy wr.drew (hnx.below (Below.refl _ _).drew) (hny.below (Below.refl _ _).drew))
      have HP0 := Lib.hid p0
      have HP1 := Lib.hid p1
      have HQ0 := Lib.hid q0
      have HQ1 := Lib.hid q1
      have HG2 := Lib.hid hg2
      have HG3 := Lib.hid hg3
      subst hda
      subst hdb
      clear hxe hye hnx hny hvx hvy hxx hyy hE e0 e1 hg2 hg3 hkl
      go_wp2_with fail
      go_still_tail 10, (by kernel_rfl)
      go_wp2_with fail
      refine HSA.out.mono ?_
      rintro e w1 ⟨rfl, hb⟩
      have hb1 : Below wr.heap.size wr w1 := below_self ((Below.refl _ _).drew) hb
      have HB1 := Lib.hid (hBl.out.trans (hb1.mono hBl.out.size))
      have u0 := (hb1.cell (p := ⟨g2, o2 + k * 6, none⟩) HG2.out).trans HP0.out
      have u1 := (hb1.cell (p := ⟨g2, o2 + k * 6 + 1, none⟩) HG2.out).trans HP1.out
      have z0 := (hb1.cell (p := ⟨g3, o3 + k * 6, none⟩) HG3.out).trans HQ0.out
      have z1 := (hb1.cell (p := ⟨g3, o3 + k * 6 + 1, none⟩) HG3.out).trans HQ1.out
      have d0 : (c != c) = false := by simp
      have d1 : (q != q) = false := by simp
      clear hb hb1 p0 p1 p2 p3 p4 p5 q0 q1 q2 q3 q4 q5 hBl HSA
      go_wp2_with fail
      go_quiet (fail)
      go_wp2
      go_roundw
      case rel => exact ⟨k + 1, by omega, by go_num, Lib.hid (below_drewN_q HB1.out _)⟩
      case measure => simp [intOf]; omega
    · obtain rfl : N = k := by omega
      have hlt' : ¬ (N : Int) < (N : Int) := by omega
      go_wp2
      go_ret
      exact ⟨rfl, hBl.out⟩
theorem MacAt.len {X w : World} {g d bk sb K : Nat} {m : Mac} (h : MacAt X g d bk sb K m w) : m.s.length ≤ K := by
  obtain ⟨D, n, hn, hM, hI⟩ := h.map
  have h1 := (clients_perm hM hI h.right.rise).length_eq
  have h2 : (intKeys D).length = Go.Maps.size D := by
    cases D <;> simp [intKeys, Go.Maps.size]
  rw [List.length_map, h2] at h1
  have := hM.size_le
  omega
set_option maxRecDepth 100000 in
set_option maxHeartbeats 2000000 in
theorem msame_any {X w : World} {g d bk sb K g2 d2 b2 s2 K2 : Nat} {m : Mac} (h : MacAt X g d bk sb K m w) (h2 : MacAt X g2 d2 b2 s2 K2 m w) (hs : SmM m) (hK : K ≤ 9000) (hK2 : K2 ≤ 9000) :
    Calls Tryz.prog 28 #[dP g, dP g2] w fun e w' => e = .returned (.bool true) ∧ Below w.heap.size w w' := by
  have HS := Lib.hid hs
  have H := Lib.hid h
  have H2 := Lib.hid h2
  have HL : Hid (m.l.length ≤ 9000 ∧ m.s.length ≤ 9000) := Lib.hid ⟨by have := h.lw.len; omega, by have := h.len; omega⟩
  clear h h2 hs
  go_enter Tryz.func28, Tryz.ntmps28
  go_wp2_with fail
  refine (paths_any H.out (by omega)).mono ?_
  rintro e w1 ⟨v1, he, ho, hb⟩
  have he := he.out
  subst he
  have HO1 := Lib.hid ho.rd
  have H21 := Lib.hid (H2.out.on hb)
  have HB1 := Lib.hid hb
  clear ho hb H2
  go_wp2_with fail
  refine (paths_any H21.out (by omega)).mono ?_
  rintro e w2 ⟨v2, he, ho, hb⟩
  have he := he.out
  subst he
  have HO2 := Lib.hid ho.rd
  have HO1b := Lib.hid (HO1.out.below hb)
  have H22 := Lib.hid (H21.out.on hb)
  have HB2 := Lib.hid (below_self HB1.out hb)
  clear ho hb HO1 H21 HB1
  go_wp2_with fail
  refine (rowD_any v1 v2 m.l m.l w2 HO1b.out HO2.out (by have := HL.out; omega) (by have := HL.out; omega)).mono ?_
  rw [decide_eq_true rfl]
  rintro e w3 ⟨rfl, hb⟩
  have H3 := Lib.hid (H22.out.on hb)
  have HB3 := Lib.hid (below_self HB2.out hb)
  have HA3 := Lib.hid (H.out.on HB3.out)
  clear hb HB2 H22 HO1b HO2
  go_wp2_with fail
  refine (sessions_any HA3.out HS.out (by omega)).mono ?_
  rintro e w4 ⟨v4, xs, he, ho, hm, hb⟩
  have he := he.out
  subst he
  have HO4 := Lib.hid ho.rd
  have HM4 := Lib.hid hm
  have H4 := Lib.hid (H3.out.on hb)
  have HB4 := Lib.hid (below_self HB3.out hb)
  clear ho hm hb HB3 H3 HA3
  go_wp2_with fail
  refine (sessions_any H4.out HS.out (by omega)).mono ?_
  rintro e w5 ⟨v5, ys, he, ho, hm, hb⟩
  have he := he.out
  subst he
  have HO5 := Lib.hid ho.rd
  have HM5 := Lib.hid hm
  have HO4b := Lib.hid (HO4.out.below hb)
  have HM4b := Lib.hid (HM4.out.on hb)
  have HB5 := Lib.hid (below_self HB4.out hb)
  clear ho hm hb HB4 H4 HO4 HM4
  go_wp2_with fail
  refine (rrow9_any v4 v5 xs ys m.s w5 HO4b.out HO5.out HM4b.out HM5.out (by have := HL.out; omega)).mono ?_
  rintro e w6 ⟨rfl, hb⟩
  have HB6 := Lib.hid (below_self HB5.out hb)
  clear hb
  go_wp2
  go_ret
  exact ⟨rfl, HB6.out⟩
end Go.Proofs.YtbebjpfbbidaiaaGreat
