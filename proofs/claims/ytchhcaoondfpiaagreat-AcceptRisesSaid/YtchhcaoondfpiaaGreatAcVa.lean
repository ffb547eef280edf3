/-
  Package accept: MsgPre, where it votes.
-/
import Derived.Test.YtchhcaoondfpiaaGreatAcVx
namespace Go.Proofs.YtchhcaoondfpiaaGreat
open Go.RowKit Go.Sort
open Go.WideMaps
set_option linter.unusedSimpArgs false
set_option linter.unusedVariables false
set_option maxRecDepth 100000

set_option maxHeartbeats 8000000 in
theorem bpre_v1 {w : World} {B g mb K : Nat} {b : BSt} (h : BkAt w B g mb K b) {v : Value} {m : Mg} (hm : MgA w v m) (x : Ist) (u : Value) (hr : IK.Rd w u x.at'.2) (hl : x.at'.2.length ≤ 100000) (hK : K ≤ 800) (hml : Tc.ML w) (hs : ∀ e ∈ b.l, okL e.2.at'.2) (hz : ∀ k ∈ knB b.l, k.cm.pa.size ≤ 1000 ∧ k.a.1 ≤ 1125899906842624) (hp : m.ins.cm.pa.size ≤ 1000) (hd : m.ins.at'.2.length ≤ 100) (g1 : 1 < x.st) (g2 : x.vo ≠ m.bal) : Calls Tryz.prog 68 #[bP g, v, .agg (inE x u).toArray] w (HrP (preW b m (mrgA m.ins.at' (lclA (knB b.l) m.id m.ins.cm))) B g mb K w) := by
  have HMV := Lib.hid hm
  obtain ⟨ua, uc, a1, d1, c1, a2, d2, c2, a3, d3, c3, rfl, hrd, hokl, hid⟩ := hm
  obtain ⟨n0, n1, n2, ⟨n3, n4, n5⟩, ⟨n6, n7⟩, ⟨n8, ⟨n9, n10⟩, ⟨n11, n12⟩, ⟨n13, n14, n15, n16, n17, n18, n19, n20⟩, n21, dl⟩, sn0⟩ := m
  obtain ⟨n23, sn1⟩ : ∃ q, sn0.1.1 = q := ⟨_, rfl⟩
  obtain ⟨M, hM⟩ : ∃ M, dl.length = M := ⟨_, rfl⟩
  have HMl := Lib.hid hM
  simp only at hrd hokl hid
  simp only [msE, inE, snV, hM, sn1, List.cons_append, List.nil_append] at hrd HMV ⊢
  clear hM sn1
  obtain ⟨p0, ⟨p1, p2⟩, ⟨p3, p4⟩, ⟨p5, p6, p7, p8, p9, p10, p11, p12⟩, ps, pl⟩ := x
  simp only at hr hl
  obtain ⟨pa, pk, hsl⟩ := hr.slice
  obtain ⟨P, hP⟩ : ∃ P, pl.length = P := ⟨_, rfl⟩
  rw [hP] at hsl
  subst hsl
  simp only at hp hd g1 g2
  have hd1 : decide ((1 : Int) < p0) = true := decide_eq_true g1
  have hd2 : decide (p0 < (1 : Int)) = false := decide_eq_false (by omega)
  obtain ⟨eb1, gb1⟩ := eqB_runA p3 p4 n6 n7 false (decide_eq_false g2)
  have nb1 := neB_runA p3 p4 n6 n7 false (decide_eq_false g2)
  have hkl : (knB b.l).length ≤ 800 := by
    obtain ⟨D, mm, q1, q2, q3⟩ := h.map
    have := knB_len b.l
    have := q3.size
    have := q2.size_le
    omega
  obtain ⟨⟨ls, ll⟩, hLC⟩ : ∃ a, lclA (knB b.l) (n3, n4, n5) ⟨n13, n14, n15, n16, n17, n18, n19, n20⟩ = a := ⟨_, rfl⟩
  have hll : ll.length ≤ 800 ∧ okL ll := lcl_few h.keys hLC hkl
  obtain ⟨⟨ms, ml⟩, hMS⟩ : ∃ a, mrgA (n21, dl) (ls, ll) = a := ⟨_, rfl⟩
  have hml2 : ml.length ≤ 100000 := by
    have q := mrg_len (n21, dl) (ls, ll)
    rw [hMS] at q
    simp only at q
    omega
  rw [hLC, hMS]
  obtain ⟨L, hL⟩ : ∃ q, ll.length = q := ⟨_, rfl⟩
  obtain ⟨S, hS⟩ : ∃ q, ml.length = q := ⟨_, rfl⟩
  have HS := Lib.hid hS
  have HMS := Lib.hid hMS
  have HLen : Hid (dl.length + ll.length ≤ 1000) := Lib.hid (by omega)
  have HMLen := Lib.hid hml2
  have HOKL := Lib.hid hll.2
  have HOKD := Lib.hid hokl
  have HKK : Hid (K ≤ 100000) := Lib.hid (by omega)
  simp only [inE]
  obtain ⟨X, hX⟩ : ∃ X, (w.alloc (.cells #[.int .i64 n0, .int .i64 n1, .int .i64 n2, .int .i64 n3, .int .i64 n4, .int .i64 n5, .int .i64 n6, .int .i64 n7, .int .i64 n8, .int .i64 n9, .int .i64 n10, .int .i64 n11, .int .i64 n12, .int .i64 n13, .int .i64 n14, .int .i64 n15, .string n16, .string n17, .int .i64 n18, .int .i64 n19, .int .i64 n20, .int .i64 n21, .slice ua M uc, .int .i64 n23, .slice a1 d1 c1, .slice a2 d2 c2, .slice a3 d3 c3] 54)).alloc (.cells #[.int .i64 p0, .int .i64 p1, .int .i64 p2, .int .i64 p3, .int .i64 p4, .int .i64 p5, .int .i64 p6, .int .i64 p7, .string p8, .string p9, .int .i64 p10, .int .i64 p11, .int .i64 p12, .int .i64 ps, .slice pa P pk] 48) = X := ⟨_, rfl⟩
  have hBX : Below w.heap.size w X := by rw [← hX]; exact ((Below.refl _ _).alloc (Nat.le_refl _) _).alloc (by simp) _
  have hMX : Bk X w.heap.size 54 [.int .i64 n0, .int .i64 n1, .int .i64 n2, .int .i64 n3, .int .i64 n4, .int .i64 n5, .int .i64 n6, .int .i64 n7, .int .i64 n8, .int .i64 n9, .int .i64 n10, .int .i64 n11, .int .i64 n12, .int .i64 n13, .int .i64 n14, .int .i64 n15, .string n16, .string n17, .int .i64 n18, .int .i64 n19, .int .i64 n20, .int .i64 n21, .slice ua M uc, .int .i64 n23, .slice a1 d1 c1, .slice a2 d2 c2, .slice a3 d3 c3] := by rw [← hX]; exact (Bk.new w _ _).old _
  have hIX : Bk X (w.heap.size + 1) 48 [.int .i64 p0, .int .i64 p1, .int .i64 p2, .int .i64 p3, .int .i64 p4, .int .i64 p5, .int .i64 p6, .int .i64 p7, .string p8, .string p9, .int .i64 p10, .int .i64 p11, .int .i64 p12, .int .i64 ps, .slice pa P pk] := by rw [← hX]; exact Bk.newA (by simp) _ [.int .i64 p0, .int .i64 p1, .int .i64 p2, .int .i64 p3, .int .i64 p4, .int .i64 p5, .int .i64 p6, .int .i64 p7, .string p8, .string p9, .int .i64 p10, .int .i64 p11, .int .i64 p12, .int .i64 ps, .slice pa P pk]
  have HZX : Hid (w.heap.size + 2 ≤ X.heap.size) := Lib.hid (by rw [← hX]; simp)
  have x6 := hMX.cell 6
  have x7 := hMX.cell 7
  have y0 := hIX.cell 0
  have y3 := hIX.cell 3
  have y4 := hIX.cell 4
  have xl := hMX.lt
  have yl := hIX.lt
  simp only [List.getElem?_cons_zero, List.getElem?_cons_succ] at x6 x7 y0 y3 y4
  have HMXh := Lib.hid hMX
  have HIXh := Lib.hid hIX
  have hBk := h.below hBX
  have HKX := Lib.hid hBk
  have HBX := Lib.hid hBX
  have HMV2 := Lib.hid (HMV.out.below hBX)
  have HRD2 := Lib.hid (hrd.below hBX)
  have HNeW := Lib.hid h.blkNe
  have HKP : Hid (∀ w', Below X.heap.size X w' → Bk w' w.heap.size 54 [.int .i64 n0, .int .i64 n1, .int .i64 n2, .int .i64 n3, .int .i64 n4, .int .i64 n5, .int .i64 n6, .int .i64 n7, .int .i64 n8, .int .i64 n9, .int .i64 n10, .int .i64 n11, .int .i64 n12, .int .i64 n13, .int .i64 n14, .int .i64 n15, .string n16, .string n17, .int .i64 n18, .int .i64 n19, .int .i64 n20, .int .i64 n21, .slice ua M uc, .int .i64 n23, .slice a1 d1 c1, .slice a2 d2 c2, .slice a3 d3 c3]) := Lib.hid fun w' hb => HMXh.out.below hb
  have HKn : Hid (∀ w', Below X.heap.size X w' → Calls Tryz.prog 53 #[bP g] w' (KnP (knB b.l) w')) := Lib.hid fun w' hb => known_any (hBk.below hb) (by omega) hs
  have HLc : Hid (∀ (vk : Value) (rs : List (Cls 13)) w', Below X.heap.size X w' → RowIs KnK knS w' vk rs (knB b.l) → Calls Tryz.prog 85 #[vk, .agg #[.int .i64 n3, .int .i64 n4, .int .i64 n5], .agg #[.int .i64 n13, .int .i64 n14, .int .i64 n15, .string n16, .string n17, .int .i64 n18, .int .i64 n19, .int .i64 n20]] w' (fun e w'' => ∃ la lk, e = .returned (.agg #[.int .i64 ls, .slice la L lk]) ∧ IK.Own w'' w'.heap.size (.slice la L lk) ll ∧ Below w'.heap.size w' w'')) := Lib.hid fun vk rs w' hb hr => by
    have q := local_any vk rs (knB b.l) (n3, n4, n5) ⟨n13, n14, n15, n16, n17, n18, n19, n20⟩ w' hr (by omega) ((hml.below hBX).below hb) hz hp
    rw [hLC] at q
    refine q.mono ?_
    rintro e w2 ⟨v', he, ho, hb⟩
    obtain ⟨la, lk, hv⟩ := ho.slice
    simp only at ho hv
    rw [hL] at hv
    subst hv
    exact ⟨la, lk, he.out, ho, hb⟩
  clear h hr hl hP hrd hokl hid hBX hMX hIX hK hml hs hz hp hd hkl hLC hll hMS hml2 hL hS hBk g2
  go_enter Tryz.func68, Tryz.ntmps68
  go_wp2_with fail
  try rw [hX]
  clear hX x6 x7 y0 y3 y4 xl yl
  refine wp_region_held_drew (S := (fun w' => Bk w' w.heap.size 54 [.int .i64 n0, .int .i64 n1, .int .i64 n2, .int .i64 n3, .int .i64 n4, .int .i64 n5, .int .i64 n6, .int .i64 n7, .int .i64 n8, .int .i64 n9, .int .i64 n10, .int .i64 n11, .int .i64 n12, .int .i64 n13, .int .i64 n14, .int .i64 n15, .string n16, .string n17, .int .i64 n18, .int .i64 n19, .int .i64 n20, .int .i64 n21, .slice ua M uc, .int .i64 n23, .slice a1 d1 c1, .slice a2 d2 c2, .slice a3 d3 c3])) (by kernel_rfl) ?_ (fun hHeld => ?_)
  · ((first
    | exact HKP.out _ hb9
    | exact HKP.out _ hbL
    | exact HKP.out _ (hbL.alloc hbL.size _)
    | exact HKP.out _ hbK
    | exact HKP.out _ (hbK.alloc hbK.size _)
    | exact HKP.out _ (Below.refl X.heap.size X).drew
    | exact HKP.out _ ((Below.refl X.heap.size X).alloc (Nat.le_refl _) _).drew
    | exact HKP.out _ ((Below.refl X.heap.size X).drew.alloc (Nat.le_refl _) _)
    | exact HKP.out _ (Below.refl _ _)
    | fail))
  refine tkA 0 (v := ?_) ?_ ?_
  rotate_left
  · (intro w' hSw; clear hSw; go_simp; try rfl)
  try simp only [Act.put, gA1, gA2, gA3, gA4, gA5, gA6]
  refine tkA 2 (v := ?_) ?_ ?_
  rotate_left
  · (intro w' hSw; clear hSw; go_simp; try rfl)
  try simp only [Act.put, gA1, gA2, gA3, gA4, gA5, gA6]
  refine tkA 3 (v := ?_) ?_ ?_
  rotate_left
  · (intro w' hSw; have e3 := Bk.cell hSw 3; have e4 := Bk.cell hSw 4; have e5 := Bk.cell hSw 5; simp only [List.getElem?_cons_zero, List.getElem?_cons_succ] at e3 e4 e5; clear hSw; go_simp; try rfl)
  try simp only [Act.put, gA1, gA2, gA3, gA4, gA5, gA6]
  refine tkA 4 (v := ?_) ?_ ?_
  rotate_left
  · (intro w' hSw; clear hSw; go_simp; try rfl)
  try simp only [Act.put, gA1, gA2, gA3, gA4, gA5, gA6]
  refine tkA 5 (v := ?_) ?_ ?_
  rotate_left
  · (intro w' hSw; clear hSw; go_simp; try rfl)
  try simp only [Act.put, gA1, gA2, gA3, gA4, gA5, gA6]
  refine tkA 6 (v := ?_) ?_ ?_
  rotate_left
  · (intro w' hSw; have e13 := Bk.cell hSw 13; have e14 := Bk.cell hSw 14; have e15 := Bk.cell hSw 15; have e16 := Bk.cell hSw 16; have e17 := Bk.cell hSw 17; have e18 := Bk.cell hSw 18; have e19 := Bk.cell hSw 19; have e20 := Bk.cell hSw 20; simp only [List.getElem?_cons_zero, List.getElem?_cons_succ] at e13 e14 e15 e16 e17 e18 e19 e20; clear hSw; go_simp; try rfl)
  try simp only [Act.put, gA1, gA2, gA3, gA4, gA5, gA6]
  refine wpAnyH_ready (rs := [1, 8]) (by kernel_rfl) (by simp) ?_
  refine (AllReadyH.cons rfl (fun K hK => ?_) (AllReadyH.cons rfl (fun K hK => ?_) AllReadyH.nil))
  ·
    go_simp
    (go_at_call 53; refine (HKn.out _ (by first | exact (Below.refl X.heap.size X).drew | exact ((Below.refl X.heap.size X).alloc (Nat.le_refl _) _).drew | exact (Below.refl X.heap.size X).drew.alloc (Nat.le_refl _) _)).mono ?_; rintro e wk ⟨vk, rs, he, hok, hek, hbk⟩; have he := he.out; subst he; have hbK : Below X.heap.size X wk := (by first | exact (Below.refl X.heap.size X).drew.trans hbk | exact ((Below.refl X.heap.size X).alloc (Nat.le_refl _) _).drew.trans (hbk.mono (by simp)) | exact ((Below.refl X.heap.size X).drew.alloc (Nat.le_refl _) _).trans (hbk.mono (by simp))); have hrk : RowIs KnK knS wk vk rs (knB b.l) := (hek.below hbk).rows hok.rd; obtain ⟨ak, ck, hvk⟩ := hok.slice; obtain ⟨Lk, hLk⟩ : ∃ q, rs.length = q := ⟨_, rfl⟩; rw [hLk] at hvk; subst hvk; have HRK := Lib.hid hrk; clear hok hek hrk hLk)
    refine hK.out _ _ ?_ (fun hHeld => ?_)
    · ((first
    | exact HKP.out _ hb9
    | exact HKP.out _ hbL
    | exact HKP.out _ (hbL.alloc hbL.size _)
    | exact HKP.out _ hbK
    | exact HKP.out _ (hbK.alloc hbK.size _)
    | exact HKP.out _ (Below.refl X.heap.size X).drew
    | exact HKP.out _ ((Below.refl X.heap.size X).alloc (Nat.le_refl _) _).drew
    | exact HKP.out _ ((Below.refl X.heap.size X).drew.alloc (Nat.le_refl _) _)
    | exact HKP.out _ (Below.refl _ _)
    | fail))
    clear hK K
    try simp only [Act.put, gA1, gA2, gA3, gA4, gA5, gA6]
    refine wpAnyH_ready (rs := [7, 8]) (by kernel_rfl) (by simp) ?_
    refine (AllReadyH.cons rfl (fun K hK => ?_) (AllReadyH.cons rfl (fun K hK => ?_) AllReadyH.nil))
    ·
      go_simp
      (go_at_call 85; refine (HLc.out _ _ _ (by first | exact hbK | exact hbK.alloc hbK.size _) (by first | exact HRK.out | exact HRK.out.on ((Below.refl _ _).alloc (Nat.le_refl _) _))).mono ?_; rintro e wl ⟨la, lk, he, hol', hbl⟩; subst he; have hbL : Below X.heap.size X wl := (by first | exact hbK.trans (hbl.mono hbK.size) | exact (hbK.alloc hbK.size _).trans (hbl.mono (by have := hbK.size; simp; omega))); have hol : IK.Own wl X.heap.size (.slice la L lk) ll := hol'.base (by first | exact hbK.size | (have := hbK.size; simp; omega)); clear hol')
      refine hK.out _ _ ?_ (fun hHeld => ?_)
      · ((first
    | exact HKP.out _ hb9
    | exact HKP.out _ hbL
    | exact HKP.out _ (hbL.alloc hbL.size _)
    | exact HKP.out _ hbK
    | exact HKP.out _ (hbK.alloc hbK.size _)
    | exact HKP.out _ (Below.refl X.heap.size X).drew
    | exact HKP.out _ ((Below.refl X.heap.size X).alloc (Nat.le_refl _) _).drew
    | exact HKP.out _ ((Below.refl X.heap.size X).drew.alloc (Nat.le_refl _) _)
    | exact HKP.out _ (Below.refl _ _)
    | fail))
      clear hK K
      try simp only [Act.put, gA1, gA2, gA3, gA4, gA5, gA6]
      refine wpAnyH_ready (rs := [8]) (by kernel_rfl) (by simp) ?_
      refine (AllReadyH.cons rfl (fun K hK => ?_) AllReadyH.nil)
      go_simp
      refine hK.out _ _ ?_ (fun hHeld => ?_)
      · ((first
    | exact HKP.out _ hb9
    | exact HKP.out _ hbL
    | exact HKP.out _ (hbL.alloc hbL.size _)
    | exact HKP.out _ hbK
    | exact HKP.out _ (hbK.alloc hbK.size _)
    | exact HKP.out _ (Below.refl X.heap.size X).drew
    | exact HKP.out _ ((Below.refl X.heap.size X).alloc (Nat.le_refl _) _).drew
    | exact HKP.out _ ((Below.refl X.heap.size X).drew.alloc (Nat.le_refl _) _)
    | exact HKP.out _ (Below.refl _ _)
    | fail))
      clear hK K
      try simp only [Act.put, gA1, gA2, gA3, gA4, gA5, gA6]
      refine wpAnyH_ready (rs := [9]) (by kernel_rfl) (by simp) ?_
      refine (AllReadyH.cons rfl (fun K hK => ?_) AllReadyH.nil)
      first
        | (have hzA : X.heap.size ≤ wl.heap.size := hbL.size; refine step_store_rowA rfl 46 _ _ rfl (wl.heap.size) rfl #[.int .i64 ls, .slice la L lk] rfl #[.int .i64 0, .slice none 0 0] 46 (Bk.new wl 46 [.int .i64 0, .slice none 0 0]) infoAt rfl (all_toA (by rfl)) ?_; have hA8 : Bk (wl.alloc (.cells #[.int .i64 0, .slice none 0 0] 46)) (wl.heap.size) 46 [.int .i64 0, .slice none 0 0] := (Bk.new wl 46 [.int .i64 0, .slice none 0 0]); have hb9 : Below X.heap.size X ((wl.alloc (.cells #[.int .i64 0, .slice none 0 0] 46)).setRow (wl.heap.size) #[.int .i64 ls, .slice la L lk]) := below_setRow (hbL.alloc hbL.size _) (hzA) _; have hA9 : Bk ((wl.alloc (.cells #[.int .i64 0, .slice none 0 0] 46)).setRow (wl.heap.size) #[.int .i64 ls, .slice la L lk]) (wl.heap.size) 46 [.int .i64 ls, .slice la L lk] := bk_setRowA hA8; have hO9 : IK.Own ((wl.alloc (.cells #[.int .i64 0, .slice none 0 0] 46)).setRow (wl.heap.size) #[.int .i64 ls, .slice la L lk]) X.heap.size (.slice la L lk) ll := ownI_setRow (hol.below ((Below.refl _ _).alloc (Nat.le_refl _) _)) hA8 (by decide) _; generalize hWW : (wl.alloc (.cells #[.int .i64 0, .slice none 0 0] 46)).setRow (wl.heap.size) #[.int .i64 ls, .slice la L lk] = W at *; obtain ⟨A, hAe, hA10, hAle⟩ : ∃ A, A = wl.heap.size ∧ Bk W A 46 [.int .i64 ls, .slice la L lk] ∧ X.heap.size ≤ A := ⟨_, rfl, hA9, hzA⟩; rw [← hAe]; clear hWW hA8 hA9 hAe)
        | (have hzA : X.heap.size ≤ wk.heap.size := hbK.size; refine step_store_rowA rfl 46 _ _ rfl (wk.heap.size) rfl #[.int .i64 ls, .slice la L lk] rfl #[.int .i64 0, .slice none 0 0] 46 ((Bk.new wk 46 [.int .i64 0, .slice none 0 0]).below hbl) infoAt rfl (all_toA (by rfl)) ?_; have hA8 : Bk (wl) (wk.heap.size) 46 [.int .i64 0, .slice none 0 0] := ((Bk.new wk 46 [.int .i64 0, .slice none 0 0]).below hbl); have hb9 : Below X.heap.size X ((wl).setRow (wk.heap.size) #[.int .i64 ls, .slice la L lk]) := below_setRow hbL (hzA) _; have hA9 : Bk ((wl).setRow (wk.heap.size) #[.int .i64 ls, .slice la L lk]) (wk.heap.size) 46 [.int .i64 ls, .slice la L lk] := bk_setRowA hA8; have hO9 : IK.Own ((wl).setRow (wk.heap.size) #[.int .i64 ls, .slice la L lk]) X.heap.size (.slice la L lk) ll := ownI_setRow hol hA8 (by decide) _; generalize hWW : (wl).setRow (wk.heap.size) #[.int .i64 ls, .slice la L lk] = W at *; obtain ⟨A, hAe, hA10, hAle⟩ : ∃ A, A = wk.heap.size ∧ Bk W A 46 [.int .i64 ls, .slice la L lk] ∧ X.heap.size ≤ A := ⟨_, rfl, hA9, hzA⟩; rw [← hAe]; clear hWW hA8 hA9 hAe)
        | (refine step_store_rowA rfl 46 _ _ rfl (X.heap.size) rfl #[.int .i64 ls, .slice la L lk] rfl #[.int .i64 0, .slice none 0 0] 46 (((show Bk ((X.alloc (.cells #[.int .i64 0, .slice none 0 0] 46)).drew) X.heap.size 46 [.int .i64 0, .slice none 0 0] from Bk.new X 46 [.int .i64 0, .slice none 0 0]).below hbk).below hbl) infoAt rfl (all_toA (by rfl)) ?_; have hA8 : Bk (wl) (X.heap.size) 46 [.int .i64 0, .slice none 0 0] := (((show Bk ((X.alloc (.cells #[.int .i64 0, .slice none 0 0] 46)).drew) X.heap.size 46 [.int .i64 0, .slice none 0 0] from Bk.new X 46 [.int .i64 0, .slice none 0 0]).below hbk).below hbl); have hb9 : Below X.heap.size X ((wl).setRow (X.heap.size) #[.int .i64 ls, .slice la L lk]) := below_setRow hbL (Nat.le_refl _) _; have hA9 : Bk ((wl).setRow (X.heap.size) #[.int .i64 ls, .slice la L lk]) (X.heap.size) 46 [.int .i64 ls, .slice la L lk] := bk_setRowA hA8; have hO9 : IK.Own ((wl).setRow (X.heap.size) #[.int .i64 ls, .slice la L lk]) X.heap.size (.slice la L lk) ll := ownI_setRow hol hA8 (by decide) _; generalize hWW : (wl).setRow (X.heap.size) #[.int .i64 ls, .slice la L lk] = W at *; obtain ⟨A, hAe, hA10, hAle⟩ : ∃ A, A = X.heap.size ∧ Bk W A 46 [.int .i64 ls, .slice la L lk] ∧ X.heap.size ≤ A := ⟨_, rfl, hA9, Nat.le_refl _⟩; rw [← hAe]; clear hWW hA8 hA9 hAe)
        | fail
      refine hK.out _ _ ?_ (fun hHeld => ?_)
      · ((first
    | exact HKP.out _ hb9
    | exact HKP.out _ hbL
    | exact HKP.out _ (hbL.alloc hbL.size _)
    | exact HKP.out _ hbK
    | exact HKP.out _ (hbK.alloc hbK.size _)
    | exact HKP.out _ (Below.refl X.heap.size X).drew
    | exact HKP.out _ ((Below.refl X.heap.size X).alloc (Nat.le_refl _) _).drew
    | exact HKP.out _ ((Below.refl X.heap.size X).drew.alloc (Nat.le_refl _) _)
    | exact HKP.out _ (Below.refl _ _)
    | fail))
      clear hK K
      try simp only [Act.put, gA1, gA2, gA3, gA4, gA5, gA6]
      refine wpAnyH_done (by kernel_rfl) ?_ _
      go_split_ands
      clear HKP hbk hbl hbK hbL HRK hol HKn HLc
      have HA := Lib.hid hA10
      have HO9 := Lib.hid hO9
      have HB9 := Lib.hid hb9
      have hBw := HKX.out.below hb9
      have HBwd := Lib.hid (hBw.below (Below.refl W.heap.size W).drew)
      have HNe := Lib.hid hBw.blkNe
      have HMW := Lib.hid (HMXh.out.below hb9)
      have HIW := Lib.hid (HIXh.out.below hb9)
      have HMVd := Lib.hid ((HMV2.out.below hb9).below (Below.refl W.heap.size W).drew)
      have HRDd := Lib.hid ((HRD2.out.below hb9).below (Below.refl W.heap.size W).drew)
      have hzA2 := hA10.lt
      have HAW : Hid (A ≠ w.heap.size + 1 ∧ A ≠ w.heap.size) := Lib.hid (by have := HZX.out; omega)
      have HKQ : Hid (∀ w', W.grownBy w' (some mb) → Bk w' w.heap.size 54 [.int .i64 n0, .int .i64 n1, .int .i64 n2, .int .i64 n3, .int .i64 n4, .int .i64 n5, .int .i64 n6, .int .i64 n7, .int .i64 n8, .int .i64 n9, .int .i64 n10, .int .i64 n11, .int .i64 n12, .int .i64 n13, .int .i64 n14, .int .i64 n15, .string n16, .string n17, .int .i64 n18, .int .i64 n19, .int .i64 n20, .int .i64 n21, .slice ua M uc, .int .i64 n23, .slice a1 d1 c1, .slice a2 d2 c2, .slice a3 d3 c3] ∧ Bk w' A 46 [.int .i64 ls, .slice la L lk]) := Lib.hid fun w' hg => ⟨(hg.block _ HMW.out.lt (by simpa using HNe.out _ _ _ _ HMW.out)).trans HMW.out, (hg.block _ HA.out.lt (by simpa using HNe.out _ _ _ _ HA.out)).trans HA.out⟩
      have HS5 : Hid (∀ (ds : Array Value) w', W.grownBy w' (some mb) → Bk (w'.setRow (w.heap.size + 1) ds) w.heap.size 54 [.int .i64 n0, .int .i64 n1, .int .i64 n2, .int .i64 n3, .int .i64 n4, .int .i64 n5, .int .i64 n6, .int .i64 n7, .int .i64 n8, .int .i64 n9, .int .i64 n10, .int .i64 n11, .int .i64 n12, .int .i64 n13, .int .i64 n14, .int .i64 n15, .string n16, .string n17, .int .i64 n18, .int .i64 n19, .int .i64 n20, .int .i64 n21, .slice ua M uc, .int .i64 n23, .slice a1 d1 c1, .slice a2 d2 c2, .slice a3 d3 c3] ∧ Bk (w'.setRow (w.heap.size + 1) ds) A 46 [.int .i64 ls, .slice la L lk]) := Lib.hid fun ds w' hg => ⟨((grown_setRow w' (w.heap.size + 1) _).block _ (HKQ.out w' hg).1.lt (by simp)).trans (HKQ.out w' hg).1, ((grown_setRow w' (w.heap.size + 1) _).block _ (HKQ.out w' hg).2.lt (by simpa using HAW.out.1)).trans (HKQ.out w' hg).2⟩
      have HMg : Hid (Calls Tryz.prog 87 #[.agg #[.int .i64 n21, .slice ua M uc], .agg #[.int .i64 ls, .slice la L lk]] W.drew (fun e w' => ∃ ma mk, e = .returned (.agg #[.int .i64 ms, .slice ma S mk]) ∧ IK.Own w' W.drew.heap.size (.slice ma S mk) ml ∧ Below W.drew.heap.size W.drew w')) := Lib.hid (by
        have q := merge_any n21 ls (.slice ua M uc) (.slice la L lk) dl ll W.drew HRDd.out HOKD.out (HO9.out.rd.below (Below.refl W.heap.size W).drew) HOKL.out HLen.out
        rw [HMS.out] at q
        refine q.mono ?_
        rintro e w2 ⟨v', he, ho, hb⟩
        obtain ⟨ma, mk, hv⟩ := ho.slice
        simp only at ho hv
        rw [HS.out] at hv
        subst hv
        exact ⟨ma, mk, he.out, ho, hb⟩)
      have HVo : Hid (∀ wm ma mk, Below W.drew.heap.size W.drew wm → IK.Own wm W.drew.heap.size (.slice ma S mk) ml → Calls Tryz.prog 86 #[bP g, .int .i64 1, .agg #[.int .i64 n0, .int .i64 n1, .int .i64 n2, .int .i64 n3, .int .i64 n4, .int .i64 n5, .int .i64 n6, .int .i64 n7, .int .i64 n8, .int .i64 n9, .int .i64 n10, .int .i64 n11, .int .i64 n12, .int .i64 n13, .int .i64 n14, .int .i64 n15, .string n16, .string n17, .int .i64 n18, .int .i64 n19, .int .i64 n20, .int .i64 n21, .slice ua M uc, .int .i64 n23, .slice a1 d1 c1, .slice a2 d2 c2, .slice a3 d3 c3], .agg #[.int .i64 ms, .slice ma S mk]] wm (fun e w' => e = .returned (.agg #[.int .i64 1, .int .i64 n6, .int .i64 n7, .int .i64 n6, .int .i64 n7, .int .i64 n13, .int .i64 n14, .int .i64 n15, .string n16, .string n17, .int .i64 n18, .int .i64 n19, .int .i64 n20, .int .i64 ms, .slice ma S mk]) ∧ BkAt w' B g mb (K + 1) (preW b ⟨n0, n1, n2, (n3, n4, n5), (n6, n7), ⟨n8, (n9, n10), (n11, n12), ⟨n13, n14, n15, n16, n17, n18, n19, n20⟩, (n21, dl)⟩, sn0⟩ (ms, ml)).1 ∧ wm.grownBy w' (some mb))) := Lib.hid fun wm ma mk hb ho => by
        have q := bvote_any (HBwd.out.below hb) 1 (HMVd.out.below hb) ms ml (.slice ma S mk) ho.rd HMLen.out HKK.out
        refine q.mono ?_
        rintro e w5 ⟨he, q1, q2⟩
        exact ⟨he.out, q1, q2⟩
      clear hA10 hO9 hb9 hBw hzA2
      go_wp2_with fail
      refine wp_region_held_drew (S := (fun w' => Bk w' w.heap.size 54 [.int .i64 n0, .int .i64 n1, .int .i64 n2, .int .i64 n3, .int .i64 n4, .int .i64 n5, .int .i64 n6, .int .i64 n7, .int .i64 n8, .int .i64 n9, .int .i64 n10, .int .i64 n11, .int .i64 n12, .int .i64 n13, .int .i64 n14, .int .i64 n15, .string n16, .string n17, .int .i64 n18, .int .i64 n19, .int .i64 n20, .int .i64 n21, .slice ua M uc, .int .i64 n23, .slice a1 d1 c1, .slice a2 d2 c2, .slice a3 d3 c3] ∧ Bk w' A 46 [.int .i64 ls, .slice la L lk])) (by kernel_rfl) ?_ (fun hHeld => ?_)
      · ((first
        | exact hS9
        | exact HKQ.out _ hwv
        | exact HKQ.out _ hwm
        | exact HKQ.out _ ⟨(Below.refl W.heap.size W).drew.os, (Below.refl W.heap.size W).drew.tape, (Below.refl W.heap.size W).drew.output, (Below.refl W.heap.size W).drew.size, fun k hk _ => (Below.refl W.heap.size W).drew.block k hk⟩
        | exact HKQ.out _ ⟨rfl, rfl, rfl, Nat.le_refl _, fun k hk _ => rfl⟩
        | fail))
      refine tkA 0 (v := ?_) ?_ ?_
      rotate_left
      · (intro w' hSw; clear hSw; go_simp; try rfl)
      try simp only [Act.put, gA1, gA2, gA3, gA4, gA5, gA6]
      refine tkA 1 (v := ?_) ?_ ?_
      rotate_left
      · (intro w' hSw; refine Eq.trans (load_rowS 54 (.tmp 4) (by rfl) w.heap.size (by rfl) 54 #[.int .i64 n0, .int .i64 n1, .int .i64 n2, .int .i64 n3, .int .i64 n4, .int .i64 n5, .int .i64 n6, .int .i64 n7, .int .i64 n8, .int .i64 n9, .int .i64 n10, .int .i64 n11, .int .i64 n12, .int .i64 n13, .int .i64 n14, .int .i64 n15, .string n16, .string n17, .int .i64 n18, .int .i64 n19, .int .i64 n20, .int .i64 n21, .slice ua M uc, .int .i64 n23, .slice a1 d1 c1, .slice a2 d2 c2, .slice a3 d3 c3] (0, 0) _ hSw.1 Tryz.underlying54 rfl (by kernel_rfl)) ?_; rfl)
      try simp only [Act.put, gA1, gA2, gA3, gA4, gA5, gA6]
      refine tkA 2 (v := ?_) ?_ ?_
      rotate_left
      · (intro w' hSw; clear hSw; go_simp; try rfl)
      try simp only [Act.put, gA1, gA2, gA3, gA4, gA5, gA6]
      refine tkA 3 (v := ?_) ?_ ?_
      rotate_left
      · (intro w' hSw; clear hSw; go_simp; try rfl)
      try simp only [Act.put, gA1, gA2, gA3, gA4, gA5, gA6]
      refine tkA 4 (v := ?_) ?_ ?_
      rotate_left
      · (intro w' hSw; have e21 := Bk.cell hSw.1 21; have e22 := Bk.cell hSw.1 22; simp only [List.getElem?_cons_zero, List.getElem?_cons_succ] at e21 e22; clear hSw; go_simp; try rfl)
      try simp only [Act.put, gA1, gA2, gA3, gA4, gA5, gA6]
      refine tkA 5 (v := ?_) ?_ ?_
      rotate_left
      · (intro w' hSw; have e0 := Bk.cell hSw.2 0; have e1 := Bk.cell hSw.2 1; simp only [List.getElem?_cons_zero, List.getElem?_cons_succ] at e0 e1; clear hSw; go_simp; try rfl)
      try simp only [Act.put, gA1, gA2, gA3, gA4, gA5, gA6]
      refine wpAnyH_ready (rs := [6]) (by kernel_rfl) (by simp) ?_
      refine (AllReadyH.cons rfl (fun K hK => ?_) AllReadyH.nil)
      go_simp
      (go_at_call 87; refine HMg.out.mono ?_; rintro e wm ⟨ma, mk, he, hom, hbm⟩; subst he; have hwm : W.grownBy wm (some mb) := ⟨hbm.os, hbm.tape, hbm.output, hbm.size, fun k hk _ => hbm.block k hk⟩)
      refine hK.out _ _ ?_ (fun hHeld => ?_)
      · ((first
        | exact hS9
        | exact HKQ.out _ hwv
        | exact HKQ.out _ hwm
        | exact HKQ.out _ ⟨(Below.refl W.heap.size W).drew.os, (Below.refl W.heap.size W).drew.tape, (Below.refl W.heap.size W).drew.output, (Below.refl W.heap.size W).drew.size, fun k hk _ => (Below.refl W.heap.size W).drew.block k hk⟩
        | exact HKQ.out _ ⟨rfl, rfl, rfl, Nat.le_refl _, fun k hk _ => rfl⟩
        | fail))
      clear hK K
      try simp only [Act.put, gA1, gA2, gA3, gA4, gA5, gA6]
      refine wpAnyH_ready (rs := [7]) (by kernel_rfl) (by simp) ?_
      refine (AllReadyH.cons rfl (fun K hK => ?_) AllReadyH.nil)
      go_simp
      (go_at_call 86; refine (HVo.out wm ma mk hbm hom).mono ?_; rintro e wv ⟨he, hBv, hgv⟩; subst he; have hwv : W.grownBy wv (some mb) := ⟨hgv.os.trans hwm.os, hgv.tape.trans hwm.tape, hgv.output.trans hwm.output, Nat.le_trans hwm.size hgv.size, fun k hk hn => (hgv.block k (Nat.lt_of_lt_of_le hk hwm.size) hn).trans (hwm.block k hk hn)⟩)
      refine hK.out _ _ ?_ (fun hHeld => ?_)
      · ((first
        | exact hS9
        | exact HKQ.out _ hwv
        | exact HKQ.out _ hwm
        | exact HKQ.out _ ⟨(Below.refl W.heap.size W).drew.os, (Below.refl W.heap.size W).drew.tape, (Below.refl W.heap.size W).drew.output, (Below.refl W.heap.size W).drew.size, fun k hk _ => (Below.refl W.heap.size W).drew.block k hk⟩
        | exact HKQ.out _ ⟨rfl, rfl, rfl, Nat.le_refl _, fun k hk _ => rfl⟩
        | fail))
      clear hK K
      try simp only [Act.put, gA1, gA2, gA3, gA4, gA5, gA6]
      refine wpAnyH_ready (rs := [8]) (by kernel_rfl) (by simp) ?_
      refine (AllReadyH.cons rfl (fun K hK => ?_) AllReadyH.nil)
      have hIv : Bk wv (w.heap.size + 1) 48 [.int .i64 p0, .int .i64 p1, .int .i64 p2, .int .i64 p3, .int .i64 p4, .int .i64 p5, .int .i64 p6, .int .i64 p7, .string p8, .string p9, .int .i64 p10, .int .i64 p11, .int .i64 p12, .int .i64 ps, .slice pa P pk] := (hwv.block _ HIW.out.lt (by simpa using HNe.out _ _ _ _ HIW.out)).trans HIW.out
      refine step_store_rowA rfl 48 _ _ rfl (w.heap.size + 1) rfl #[.int .i64 1, .int .i64 n6, .int .i64 n7, .int .i64 n6, .int .i64 n7, .int .i64 n13, .int .i64 n14, .int .i64 n15, .string n16, .string n17, .int .i64 n18, .int .i64 n19, .int .i64 n20, .int .i64 ms, .slice ma S mk] rfl #[.int .i64 p0, .int .i64 p1, .int .i64 p2, .int .i64 p3, .int .i64 p4, .int .i64 p5, .int .i64 p6, .int .i64 p7, .string p8, .string p9, .int .i64 p10, .int .i64 p11, .int .i64 p12, .int .i64 ps, .slice pa P pk] 48 hIv infoIn rfl (all_toA (by rfl)) ?_
      have hS9 : Bk (wv.setRow (w.heap.size + 1) #[.int .i64 1, .int .i64 n6, .int .i64 n7, .int .i64 n6, .int .i64 n7, .int .i64 n13, .int .i64 n14, .int .i64 n15, .string n16, .string n17, .int .i64 n18, .int .i64 n19, .int .i64 n20, .int .i64 ms, .slice ma S mk]) w.heap.size 54 [.int .i64 n0, .int .i64 n1, .int .i64 n2, .int .i64 n3, .int .i64 n4, .int .i64 n5, .int .i64 n6, .int .i64 n7, .int .i64 n8, .int .i64 n9, .int .i64 n10, .int .i64 n11, .int .i64 n12, .int .i64 n13, .int .i64 n14, .int .i64 n15, .string n16, .string n17, .int .i64 n18, .int .i64 n19, .int .i64 n20, .int .i64 n21, .slice ua M uc, .int .i64 n23, .slice a1 d1 c1, .slice a2 d2 c2, .slice a3 d3 c3] ∧ Bk (wv.setRow (w.heap.size + 1) #[.int .i64 1, .int .i64 n6, .int .i64 n7, .int .i64 n6, .int .i64 n7, .int .i64 n13, .int .i64 n14, .int .i64 n15, .string n16, .string n17, .int .i64 n18, .int .i64 n19, .int .i64 n20, .int .i64 ms, .slice ma S mk]) A 46 [.int .i64 ls, .slice la L lk] := HS5.out _ _ hwv
      have HS9 := Lib.hid hS9
      refine hK.out _ _ ?_ (fun hHeld => ?_)
      · ((first
        | exact hS9
        | exact HKQ.out _ hwv
        | exact HKQ.out _ hwm
        | exact HKQ.out _ ⟨(Below.refl W.heap.size W).drew.os, (Below.refl W.heap.size W).drew.tape, (Below.refl W.heap.size W).drew.output, (Below.refl W.heap.size W).drew.size, fun k hk _ => (Below.refl W.heap.size W).drew.block k hk⟩
        | exact HKQ.out _ ⟨rfl, rfl, rfl, Nat.le_refl _, fun k hk _ => rfl⟩
        | fail))
      clear hK K
      try simp only [Act.put, gA1, gA2, gA3, gA4, gA5, gA6]
      refine wpAnyH_done (by kernel_rfl) ?_ _
      go_split_ands
      clear HKQ HS5 HMg HVo
      have hB9 := hBv.blk (grown_setRow wv (w.heap.size + 1) #[.int .i64 1, .int .i64 n6, .int .i64 n7, .int .i64 n6, .int .i64 n7, .int .i64 n13, .int .i64 n14, .int .i64 n15, .string n16, .string n17, .int .i64 n18, .int .i64 n19, .int .i64 n20, .int .i64 ms, .slice ma S mk]) hIv (by decide) (by decide) (by decide)
      have hI9 : Bk (wv.setRow (w.heap.size + 1) #[.int .i64 1, .int .i64 n6, .int .i64 n7, .int .i64 n6, .int .i64 n7, .int .i64 n13, .int .i64 n14, .int .i64 n15, .string n16, .string n17, .int .i64 n18, .int .i64 n19, .int .i64 n20, .int .i64 ms, .slice ma S mk]) (w.heap.size + 1) 48 [.int .i64 1, .int .i64 n6, .int .i64 n7, .int .i64 n6, .int .i64 n7, .int .i64 n13, .int .i64 n14, .int .i64 n15, .string n16, .string n17, .int .i64 n18, .int .i64 n19, .int .i64 n20, .int .i64 ms, .slice ma S mk] := bk_setRowA hIv
      have hG9 : w.grownBy (wv.setRow (w.heap.size + 1) #[.int .i64 1, .int .i64 n6, .int .i64 n7, .int .i64 n6, .int .i64 n7, .int .i64 n13, .int .i64 n14, .int .i64 n15, .string n16, .string n17, .int .i64 n18, .int .i64 n19, .int .i64 n20, .int .i64 ms, .slice ma S mk]) (some mb) := grown_new (grown_out (HBX.out.trans (HB9.out.mono HBX.out.size)) hwv) (grown_setRow _ _ _) (Nat.le_succ _)
      have hM9 := HS9.out.1
      have hrd9 : IK.Rd (wv.setRow (w.heap.size + 1) #[.int .i64 1, .int .i64 n6, .int .i64 n7, .int .i64 n6, .int .i64 n7, .int .i64 n13, .int .i64 n14, .int .i64 n15, .string n16, .string n17, .int .i64 n18, .int .i64 n19, .int .i64 n20, .int .i64 ms, .slice ma S mk]) (.slice ma S mk) ml := (ownI_setRow ((hom.base (Nat.zero_le _)).outA hgv ((HBwd.out.below hbm).blkNe)) hIv (by decide) _).rd
      have hMV9 : MgA (wv.setRow (w.heap.size + 1) #[.int .i64 1, .int .i64 n6, .int .i64 n7, .int .i64 n6, .int .i64 n7, .int .i64 n13, .int .i64 n14, .int .i64 n15, .string n16, .string n17, .int .i64 n18, .int .i64 n19, .int .i64 n20, .int .i64 ms, .slice ma S mk]) (.agg #[.int .i64 n0, .int .i64 n1, .int .i64 n2, .int .i64 n3, .int .i64 n4, .int .i64 n5, .int .i64 n6, .int .i64 n7, .int .i64 n8, .int .i64 n9, .int .i64 n10, .int .i64 n11, .int .i64 n12, .int .i64 n13, .int .i64 n14, .int .i64 n15, .string n16, .string n17, .int .i64 n18, .int .i64 n19, .int .i64 n20, .int .i64 n21, .slice ua M uc, .int .i64 n23, .slice a1 d1 c1, .slice a2 d2 c2, .slice a3 d3 c3]) ⟨n0, n1, n2, (n3, n4, n5), (n6, n7), ⟨n8, (n9, n10), (n11, n12), ⟨n13, n14, n15, n16, n17, n18, n19, n20⟩, (n21, dl)⟩, sn0⟩ := HMV.out.out hG9 HNeW.out
      have HAn := Lib.hid (banswer_any hB9 1 hMV9 ⟨1, (n6, n7), (n6, n7), ⟨n13, n14, n15, n16, n17, n18, n19, n20⟩, (ms, ml)⟩ (.slice ma S mk) hrd9 HMLen.out)
      simp only [inE, HS.out] at HAn
      clear HS9 hIv hom hbm hwm hwv hgv hBv hrd9 hMV9
      generalize wv.setRow (w.heap.size + 1) #[.int .i64 1, .int .i64 n6, .int .i64 n7, .int .i64 n6, .int .i64 n7, .int .i64 n13, .int .i64 n14, .int .i64 n15, .string n16, .string n17, .int .i64 n18, .int .i64 n19, .int .i64 n20, .int .i64 ms, .slice ma S mk] = V at *
      have HM9 := Lib.hid hM9
      have HI9 := Lib.hid hI9
      have HB99 := Lib.hid hB9
      have HG9 := Lib.hid hG9
      clear hM9 hI9 hB9 hG9
      go_wp2_with (first
        | refine wpList_load_rowG rfl _ _ rfl w.heap.size rfl 54 _ (0, 0) _ HM9.out Tryz.underlying54 rfl (by kernel_rfl) ?_
        | refine wpList_load_rowG rfl _ _ rfl (w.heap.size + 1) rfl 48 _ (0, 0) _ HI9.out Tryz.underlying48 rfl infoIn ?_
        | fail)
      refine HAn.out.mono ?_
      rintro e w7 ⟨g', u', he, hq1, hq2, hq3, hb6⟩
      rw [he.out]
      have HFin : Hid (HrP (preW b ⟨n0, n1, n2, (n3, n4, n5), (n6, n7), ⟨n8, (n9, n10), (n11, n12), ⟨n13, n14, n15, n16, n17, n18, n19, n20⟩, (n21, dl)⟩, sn0⟩ (ms, ml)) B g mb K w (.returned (.slice (some ⟨g', 0, none⟩) 1 1)) w7) := Lib.hid (hrP_ans (N := 0) ⟨g', u', Lib.hid rfl, hq1, hq2, hq3, hb6⟩ HB99.out HG9.out)
      clear he hq1 hq2 hq3 hb6
      go_wp2
      go_ret
      exact HFin.out
    ·
      go_simp
      refine hK.out _ _ ?_ (fun hHeld => ?_)
      · ((first
    | exact HKP.out _ hb9
    | exact HKP.out _ hbL
    | exact HKP.out _ (hbL.alloc hbL.size _)
    | exact HKP.out _ hbK
    | exact HKP.out _ (hbK.alloc hbK.size _)
    | exact HKP.out _ (Below.refl X.heap.size X).drew
    | exact HKP.out _ ((Below.refl X.heap.size X).alloc (Nat.le_refl _) _).drew
    | exact HKP.out _ ((Below.refl X.heap.size X).drew.alloc (Nat.le_refl _) _)
    | exact HKP.out _ (Below.refl _ _)
    | fail))
      clear hK K
      try simp only [Act.put, gA1, gA2, gA3, gA4, gA5, gA6]
      refine wpAnyH_ready (rs := [7]) (by kernel_rfl) (by simp) ?_
      refine (AllReadyH.cons rfl (fun K hK => ?_) AllReadyH.nil)
      go_simp
      (go_at_call 85; refine (HLc.out _ _ _ (by first | exact hbK | exact hbK.alloc hbK.size _) (by first | exact HRK.out | exact HRK.out.on ((Below.refl _ _).alloc (Nat.le_refl _) _))).mono ?_; rintro e wl ⟨la, lk, he, hol', hbl⟩; subst he; have hbL : Below X.heap.size X wl := (by first | exact hbK.trans (hbl.mono hbK.size) | exact (hbK.alloc hbK.size _).trans (hbl.mono (by have := hbK.size; simp; omega))); have hol : IK.Own wl X.heap.size (.slice la L lk) ll := hol'.base (by first | exact hbK.size | (have := hbK.size; simp; omega)); clear hol')
      refine hK.out _ _ ?_ (fun hHeld => ?_)
      · ((first
    | exact HKP.out _ hb9
    | exact HKP.out _ hbL
    | exact HKP.out _ (hbL.alloc hbL.size _)
    | exact HKP.out _ hbK
    | exact HKP.out _ (hbK.alloc hbK.size _)
    | exact HKP.out _ (Below.refl X.heap.size X).drew
    | exact HKP.out _ ((Below.refl X.heap.size X).alloc (Nat.le_refl _) _).drew
    | exact HKP.out _ ((Below.refl X.heap.size X).drew.alloc (Nat.le_refl _) _)
    | exact HKP.out _ (Below.refl _ _)
    | fail))
      clear hK K
      try simp only [Act.put, gA1, gA2, gA3, gA4, gA5, gA6]
      refine wpAnyH_ready (rs := [9]) (by kernel_rfl) (by simp) ?_
      refine (AllReadyH.cons rfl (fun K hK => ?_) AllReadyH.nil)
      first
        | (have hzA : X.heap.size ≤ wl.heap.size := hbL.size; refine step_store_rowA rfl 46 _ _ rfl (wl.heap.size) rfl #[.int .i64 ls, .slice la L lk] rfl #[.int .i64 0, .slice none 0 0] 46 (Bk.new wl 46 [.int .i64 0, .slice none 0 0]) infoAt rfl (all_toA (by rfl)) ?_; have hA8 : Bk (wl.alloc (.cells #[.int .i64 0, .slice none 0 0] 46)) (wl.heap.size) 46 [.int .i64 0, .slice none 0 0] := (Bk.new wl 46 [.int .i64 0, .slice none 0 0]); have hb9 : Below X.heap.size X ((wl.alloc (.cells #[.int .i64 0, .slice none 0 0] 46)).setRow (wl.heap.size) #[.int .i64 ls, .slice la L lk]) := below_setRow (hbL.alloc hbL.size _) (hzA) _; have hA9 : Bk ((wl.alloc (.cells #[.int .i64 0, .slice none 0 0] 46)).setRow (wl.heap.size) #[.int .i64 ls, .slice la L lk]) (wl.heap.size) 46 [.int .i64 ls, .slice la L lk] := bk_setRowA hA8; have hO9 : IK.Own ((wl.alloc (.cells #[.int .i64 0, .slice none 0 0] 46)).setRow (wl.heap.size) #[.int .i64 ls, .slice la L lk]) X.heap.size (.slice la L lk) ll := ownI_setRow (hol.below ((Below.refl _ _).alloc (Nat.le_refl _) _)) hA8 (by decide) _; generalize hWW : (wl.alloc (.cells #[.int .i64 0, .slice none 0 0] 46)).setRow (wl.heap.size) #[.int .i64 ls, .slice la L lk] = W at *; obtain ⟨A, hAe, hA10, hAle⟩ : ∃ A, A = wl.heap.size ∧ Bk W A 46 [.int .i64 ls, .slice la L lk] ∧ X.heap.size ≤ A := ⟨_, rfl, hA9, hzA⟩; rw [← hAe]; clear hWW hA8 hA9 hAe)
        | (have hzA : X.heap.size ≤ wk.heap.size := hbK.size; refine step_store_rowA rfl 46 _ _ rfl (wk.heap.size) rfl #[.int .i64 ls, .slice la L lk] rfl #[.int .i64 0, .slice none 0 0] 46 ((Bk.new wk 46 [.int .i64 0, .slice none 0 0]).below hbl) infoAt rfl (all_toA (by rfl)) ?_; have hA8 : Bk (wl) (wk.heap.size) 46 [.int .i64 0, .slice none 0 0] := ((Bk.new wk 46 [.int .i64 0, .slice none 0 0]).below hbl); have hb9 : Below X.heap.size X ((wl).setRow (wk.heap.size) #[.int .i64 ls, .slice la L lk]) := below_setRow hbL (hzA) _; have hA9 : Bk ((wl).setRow (wk.heap.size) #[.int .i64 ls, .slice la L lk]) (wk.heap.size) 46 [.int .i64 ls, .slice la L lk] := bk_setRowA hA8; have hO9 : IK.Own ((wl).setRow (wk.heap.size) #[.int .i64 ls, .slice la L lk]) X.heap.size (.slice la L lk) ll := ownI_setRow hol hA8 (by decide) _; generalize hWW : (wl).setRow (wk.heap.size) #[.int .i64 ls, .slice la L lk] = W at *; obtain ⟨A, hAe, hA10, hAle⟩ : ∃ A, A = wk.heap.size ∧ Bk W A 46 [.int .i64 ls, .slice la L lk] ∧ X.heap.size ≤ A := ⟨_, rfl, hA9, hzA⟩; rw [← hAe]; clear hWW hA8 hA9 hAe)
        | (refine step_store_rowA rfl 46 _ _ rfl (X.heap.size) rfl #[.int .i64 ls, .slice la L lk] rfl #[.int .i64 0, .slice none 0 0] 46 (((show Bk ((X.alloc (.cells #[.int .i64 0, .slice none 0 0] 46)).drew) X.heap.size 46 [.int .i64 0, .slice none 0 0] from Bk.new X 46 [.int .i64 0, .slice none 0 0]).below hbk).below hbl) infoAt rfl (all_toA (by rfl)) ?_; have hA8 : Bk (wl) (X.heap.size) 46 [.int .i64 0, .slice none 0 0] := (((show Bk ((X.alloc (.cells #[.int .i64 0, .slice none 0 0] 46)).drew) X.heap.size 46 [.int .i64 0, .slice none 0 0] from Bk.new X 46 [.int .i64 0, .slice none 0 0]).below hbk).below hbl); have hb9 : Below X.heap.size X ((wl).setRow (X.heap.size) #[.int .i64 ls, .slice la L lk]) := below_setRow hbL (Nat.le_refl _) _; have hA9 : Bk ((wl).setRow (X.heap.size) #[.int .i64 ls, .slice la L lk]) (X.heap.size) 46 [.int .i64 ls, .slice la L lk] := bk_setRowA hA8; have hO9 : IK.Own ((wl).setRow (X.heap.size) #[.int .i64 ls, .slice la L lk]) X.heap.size (.slice la L lk) ll := ownI_setRow hol hA8 (by decide) _; generalize hWW : (wl).setRow (X.heap.size) #[.int .i64 ls, .slice la L lk] = W at *; obtain ⟨A, hAe, hA10, hAle⟩ : ∃ A, A = X.heap.size ∧ Bk W A 46 [.int .i64 ls, .slice la L lk] ∧ X.heap.size ≤ A := ⟨_, rfl, hA9, Nat.le_refl _⟩; rw [← hAe]; clear hWW hA8 hA9 hAe)
        | fail
      refine hK.out _ _ ?_ (fun hHeld => ?_)
      · ((first
    | exact HKP.out _ hb9
    | exact HKP.out _ hbL
    | exact HKP.out _ (hbL.alloc hbL.size _)
    | exact HKP.out _ hbK
    | exact HKP.out _ (hbK.alloc hbK.size _)
    | exact HKP.out _ (Below.refl X.heap.size X).drew
    | exact HKP.out _ ((Below.refl X.heap.size X).alloc (Nat.le_refl _) _).drew
    | exact HKP.out _ ((Below.refl X.heap.size X).drew.alloc (Nat.le_refl _) _)
    | exact HKP.out _ (Below.refl _ _)
    | fail))
      clear hK K
      try simp only [Act.put, gA1, gA2, gA3, gA4, gA5, gA6]
      refine wpAnyH_done (by kernel_rfl) ?_ _
      go_split_ands
      clear HKP hbk hbl hbK hbL HRK hol HKn HLc
      have HA := Lib.hid hA10
      have HO9 := Lib.hid hO9
      have HB9 := Lib.hid hb9
      have hBw := HKX.out.below hb9
      have HBwd := Lib.hid (hBw.below (Below.refl W.heap.size W).drew)
      have HNe := Lib.hid hBw.blkNe
      have HMW := Lib.hid (HMXh.out.below hb9)
      have HIW := Lib.hid (HIXh.out.below hb9)
      have HMVd := Lib.hid ((HMV2.out.below hb9).below (Below.refl W.heap.size W).drew)
      have HRDd := Lib.hid ((HRD2.out.below hb9).below (Below.refl W.heap.size W).drew)
      have hzA2 := hA10.lt
      have HAW : Hid (A ≠ w.heap.size + 1 ∧ A ≠ w.heap.size) := Lib.hid (by have := HZX.out; omega)
      have HKQ : Hid (∀ w', W.grownBy w' (some mb) → Bk w' w.heap.size 54 [.int .i64 n0, .int .i64 n1, .int .i64 n2, .int .i64 n3, .int .i64 n4, .int .i64 n5, .int .i64 n6, .int .i64 n7, .int .i64 n8, .int .i64 n9, .int .i64 n10, .int .i64 n11, .int .i64 n12, .int .i64 n13, .int .i64 n14, .int .i64 n15, .string n16, .string n17, .int .i64 n18, .int .i64 n19, .int .i64 n20, .int .i64 n21, .slice ua M uc, .int .i64 n23, .slice a1 d1 c1, .slice a2 d2 c2, .slice a3 d3 c3] ∧ Bk w' A 46 [.int .i64 ls, .slice la L lk]) := Lib.hid fun w' hg => ⟨(hg.block _ HMW.out.lt (by simpa using HNe.out _ _ _ _ HMW.out)).trans HMW.out, (hg.block _ HA.out.lt (by simpa using HNe.out _ _ _ _ HA.out)).trans HA.out⟩
      have HS5 : Hid (∀ (ds : Array Value) w', W.grownBy w' (some mb) → Bk (w'.setRow (w.heap.size + 1) ds) w.heap.size 54 [.int .i64 n0, .int .i64 n1, .int .i64 n2, .int .i64 n3, .int .i64 n4, .int .i64 n5, .int .i64 n6, .int .i64 n7, .int .i64 n8, .int .i64 n9, .int .i64 n10, .int .i64 n11, .int .i64 n12, .int .i64 n13, .int .i64 n14, .int .i64 n15, .string n16, .string n17, .int .i64 n18, .int .i64 n19, .int .i64 n20, .int .i64 n21, .slice ua M uc, .int .i64 n23, .slice a1 d1 c1, .slice a2 d2 c2, .slice a3 d3 c3] ∧ Bk (w'.setRow (w.heap.size + 1) ds) A 46 [.int .i64 ls, .slice la L lk]) := Lib.hid fun ds w' hg => ⟨((grown_setRow w' (w.heap.size + 1) _).block _ (HKQ.out w' hg).1.lt (by simp)).trans (HKQ.out w' hg).1, ((grown_setRow w' (w.heap.size + 1) _).block _ (HKQ.out w' hg).2.lt (by simpa using HAW.out.1)).trans (HKQ.out w' hg).2⟩
      have HMg : Hid (Calls Tryz.prog 87 #[.agg #[.int .i64 n21, .slice ua M uc], .agg #[.int .i64 ls, .slice la L lk]] W.drew (fun e w' => ∃ ma mk, e = .returned (.agg #[.int .i64 ms, .slice ma S mk]) ∧ IK.Own w' W.drew.heap.size (.slice ma S mk) ml ∧ Below W.drew.heap.size W.drew w')) := Lib.hid (by
        have q := merge_any n21 ls (.slice ua M uc) (.slice la L lk) dl ll W.drew HRDd.out HOKD.out (HO9.out.rd.below (Below.refl W.heap.size W).drew) HOKL.out HLen.out
        rw [HMS.out] at q
        refine q.mono ?_
        rintro e w2 ⟨v', he, ho, hb⟩
        obtain ⟨ma, mk, hv⟩ := ho.slice
        simp only at ho hv
        rw [HS.out] at hv
        subst hv
        exact ⟨ma, mk, he.out, ho, hb⟩)
      have HVo : Hid (∀ wm ma mk, Below W.drew.heap.size W.drew wm → IK.Own wm W.drew.heap.size (.slice ma S mk) ml → Calls Tryz.prog 86 #[bP g, .int .i64 1, .agg #[.int .i64 n0, .int .i64 n1, .int .i64 n2, .int .i64 n3, .int .i64 n4, .int .i64 n5, .int .i64 n6, .int .i64 n7, .int .i64 n8, .int .i64 n9, .int .i64 n10, .int .i64 n11, .int .i64 n12, .int .i64 n13, .int .i64 n14, .int .i64 n15, .string n16, .string n17, .int .i64 n18, .int .i64 n19, .int .i64 n20, .int .i64 n21, .slice ua M uc, .int .i64 n23, .slice a1 d1 c1, .slice a2 d2 c2, .slice a3 d3 c3], .agg #[.int .i64 ms, .slice ma S mk]] wm (fun e w' => e = .returned (.agg #[.int .i64 1, .int .i64 n6, .int .i64 n7, .int .i64 n6, .int .i64 n7, .int .i64 n13, .int .i64 n14, .int .i64 n15, .string n16, .string n17, .int .i64 n18, .int .i64 n19, .int .i64 n20, .int .i64 ms, .slice ma S mk]) ∧ BkAt w' B g mb (K + 1) (preW b ⟨n0, n1, n2, (n3, n4, n5), (n6, n7), ⟨n8, (n9, n10), (n11, n12), ⟨n13, n14, n15, n16, n17, n18, n19, n20⟩, (n21, dl)⟩, sn0⟩ (ms, ml)).1 ∧ wm.grownBy w' (some mb))) := Lib.hid fun wm ma mk hb ho => by
        have q := bvote_any (HBwd.out.below hb) 1 (HMVd.out.below hb) ms ml (.slice ma S mk) ho.rd HMLen.out HKK.out
        refine q.mono ?_
        rintro e w5 ⟨he, q1, q2⟩
        exact ⟨he.out, q1, q2⟩
      clear hA10 hO9 hb9 hBw hzA2
      go_wp2_with fail
      refine wp_region_held_drew (S := (fun w' => Bk w' w.heap.size 54 [.int .i64 n0, .int .i64 n1, .int .i64 n2, .int .i64 n3, .int .i64 n4, .int .i64 n5, .int .i64 n6, .int .i64 n7, .int .i64 n8, .int .i64 n9, .int .i64 n10, .int .i64 n11, .int .i64 n12, .int .i64 n13, .int .i64 n14, .int .i64 n15, .string n16, .string n17, .int .i64 n18, .int .i64 n19, .int .i64 n20, .int .i64 n21, .slice ua M uc, .int .i64 n23, .slice a1 d1 c1, .slice a2 d2 c2, .slice a3 d3 c3] ∧ Bk w' A 46 [.int .i64 ls, .slice la L lk])) (by kernel_rfl) ?_ (fun hHeld => ?_)
      · ((first
        | exact hS9
        | exact HKQ.out _ hwv
        | exact HKQ.out _ hwm
        | exact HKQ.out _ ⟨(Below.refl W.heap.size W).drew.os, (Below.refl W.heap.size W).drew.tape, (Below.refl W.heap.size W).drew.output, (Below.refl W.heap.size W).drew.size, fun k hk _ => (Below.refl W.heap.size W).drew.block k hk⟩
        | exact HKQ.out _ ⟨rfl, rfl, rfl, Nat.le_refl _, fun k hk _ => rfl⟩
        | fail))
      refine tkA 0 (v := ?_) ?_ ?_
      rotate_left
      · (intro w' hSw; clear hSw; go_simp; try rfl)
      try simp only [Act.put, gA1, gA2, gA3, gA4, gA5, gA6]
      refine tkA 1 (v := ?_) ?_ ?_
      rotate_left
      · (intro w' hSw; refine Eq.trans (load_rowS 54 (.tmp 4) (by rfl) w.heap.size (by rfl) 54 #[.int .i64 n0, .int .i64 n1, .int .i64 n2, .int .i64 n3, .int .i64 n4, .int .i64 n5, .int .i64 n6, .int .i64 n7, .int .i64 n8, .int .i64 n9, .int .i64 n10, .int .i64 n11, .int .i64 n12, .int .i64 n13, .int .i64 n14, .int .i64 n15, .string n16, .string n17, .int .i64 n18, .int .i64 n19, .int .i64 n20, .int .i64 n21, .slice ua M uc, .int .i64 n23, .slice a1 d1 c1, .slice a2 d2 c2, .slice a3 d3 c3] (0, 0) _ hSw.1 Tryz.underlying54 rfl (by kernel_rfl)) ?_; rfl)
      try simp only [Act.put, gA1, gA2, gA3, gA4, gA5, gA6]
      refine tkA 2 (v := ?_) ?_ ?_
      rotate_left
      · (intro w' hSw; clear hSw; go_simp; try rfl)
      try simp only [Act.put, gA1, gA2, gA3, gA4, gA5, gA6]
      refine tkA 3 (v := ?_) ?_ ?_
      rotate_left
      · (intro w' hSw; clear hSw; go_simp; try rfl)
      try simp only [Act.put, gA1, gA2, gA3, gA4, gA5, gA6]
      refine tkA 4 (v := ?_) ?_ ?_
      rotate_left
      · (intro w' hSw; have e21 := Bk.cell hSw.1 21; have e22 := Bk.cell hSw.1 22; simp only [List.getElem?_cons_zero, List.getElem?_cons_succ] at e21 e22; clear hSw; go_simp; try rfl)
      try simp only [Act.put, gA1, gA2, gA3, gA4, gA5, gA6]
      refine tkA 5 (v := ?_) ?_ ?_
      rotate_left
      · (intro w' hSw; have e0 := Bk.cell hSw.2 0; have e1 := Bk.cell hSw.2 1; simp only [List.getElem?_cons_zero, List.getElem?_cons_succ] at e0 e1; clear hSw; go_simp; try rfl)
      try simp only [Act.put, gA1, gA2, gA3, gA4, gA5, gA6]
      refine wpAnyH_ready (rs := [6]) (by kernel_rfl) (by simp) ?_
      refine (AllReadyH.cons rfl (fun K hK => ?_) AllReadyH.nil)
      go_simp
      (go_at_call 87; refine HMg.out.mono ?_; rintro e wm ⟨ma, mk, he, hom, hbm⟩; subst he; have hwm : W.grownBy wm (some mb) := ⟨hbm.os, hbm.tape, hbm.output, hbm.size, fun k hk _ => hbm.block k hk⟩)
      refine hK.out _ _ ?_ (fun hHeld => ?_)
      · ((first
        | exact hS9
        | exact HKQ.out _ hwv
        | exact HKQ.out _ hwm
        | exact HKQ.out _ ⟨(Below.refl W.heap.size W).drew.os, (Below.refl W.heap.size W).drew.tape, (Below.refl W.heap.size W).drew.output, (Below.refl W.heap.size W).drew.size, fun k hk _ => (Below.refl W.heap.size W).drew.block k hk⟩
        | exact HKQ.out _ ⟨rfl, rfl, rfl, Nat.le_refl _, fun k hk _ => rfl⟩
        | fail))
      clear hK K
      try simp only [Act.put, gA1, gA2, gA3, gA4, gA5, gA6]
      refine wpAnyH_ready (rs := [7]) (by kernel_rfl) (by simp) ?_
      refine (AllReadyH.cons rfl (fun K hK => ?_) AllReadyH.nil)
      go_simp
      (go_at_call 86; refine (HVo.out wm ma mk hbm hom).mono ?_; rintro e wv ⟨he, hBv, hgv⟩; subst he; have hwv : W.grownBy wv (some mb) := ⟨hgv.os.trans hwm.os, hgv.tape.trans hwm.tape, hgv.output.trans hwm.output, Nat.le_trans hwm.size hgv.size, fun k hk hn => (hgv.block k (Nat.lt_of_lt_of_le hk hwm.size) hn).trans (hwm.block k hk hn)⟩)
      refine hK.out _ _ ?_ (fun hHeld => ?_)
      · ((first
        | exact hS9
        | exact HKQ.out _ hwv
        | exact HKQ.out _ hwm
        | exact HKQ.out _ ⟨(Below.refl W.heap.size W).drew.os, (Below.refl W.heap.size W).drew.tape, (Below.refl W.heap.size W).drew.output, (Below.refl W.heap.size W).drew.size, fun k hk _ => (Below.refl W.heap.size W).drew.block k hk⟩
        | exact HKQ.out _ ⟨rfl, rfl, rfl, Nat.le_refl _, fun k hk _ => rfl⟩
        | fail))
      clear hK K
      try simp only [Act.put, gA1, gA2, gA3, gA4, gA5, gA6]
      refine wpAnyH_ready (rs := [8]) (by kernel_rfl) (by simp) ?_
      refine (AllReadyH.cons rfl (fun K hK => ?_) AllReadyH.nil)
      have hIv : Bk wv (w.heap.size + 1) 48 [.int .i64 p0, .int .i64 p1, .int .i64 p2, .int .i64 p3, .int .i64 p4, .int .i64 p5, .int .i64 p6, .int .i64 p7, .string p8, .string p9, .int .i64 p10, .int .i64 p11, .int .i64 p12, .int .i64 ps, .slice pa P pk] := (hwv.block _ HIW.out.lt (by simpa using HNe.out _ _ _ _ HIW.out)).trans HIW.out
      refine step_store_rowA rfl 48 _ _ rfl (w.heap.size + 1) rfl #[.int .i64 1, .int .i64 n6, .int .i64 n7, .int .i64 n6, .int .i64 n7, .int .i64 n13, .int .i64 n14, .int .i64 n15, .string n16, .string n17, .int .i64 n18, .int .i64 n19, .int .i64 n20, .int .i64 ms, .slice ma S mk] rfl #[.int .i64 p0, .int .i64 p1, .int .i64 p2, .int .i64 p3, .int .i64 p4, .int .i64 p5, .int .i64 p6, .int .i64 p7, .string p8, .string p9, .int .i64 p10, .int .i64 p11, .int .i64 p12, .int .i64 ps, .slice pa P pk] 48 hIv infoIn rfl (all_toA (by rfl)) ?_
      have hS9 : Bk (wv.setRow (w.heap.size + 1) #[.int .i64 1, .int .i64 n6, .int .i64 n7, .int .i64 n6, .int .i64 n7, .int .i64 n13, .int .i64 n14, .int .i64 n15, .string n16, .string n17, .int .i64 n18, .int .i64 n19, .int .i64 n20, .int .i64 ms, .slice ma S mk]) w.heap.size 54 [.int .i64 n0, .int .i64 n1, .int .i64 n2, .int .i64 n3, .int .i64 n4, .int .i64 n5, .int .i64 n6, .int .i64 n7, .int .i64 n8, .int .i64 n9, .int .i64 n10, .int .i64 n11, .int .i64 n12, .int .i64 n13, .int .i64 n14, .int .i64 n15, .string n16, .string n17, .int .i64 n18, .int .i64 n19, .int .i64 n20, .int .i64 n21, .slice ua M uc, .int .i64 n23, .slice a1 d1 c1, .slice a2 d2 c2, .slice a3 d3 c3] ∧ Bk (wv.setRow (w.heap.size + 1) #[.int .i64 1, .int .i64 n6, .int .i64 n7, .int .i64 n6, .int .i64 n7, .int .i64 n13, .int .i64 n14, .int .i64 n15, .string n16, .string n17, .int .i64 n18, .int .i64 n19, .int .i64 n20, .int .i64 ms, .slice ma S mk]) A 46 [.int .i64 ls, .slice la L lk] := HS5.out _ _ hwv
      have HS9 := Lib.hid hS9
      refine hK.out _ _ ?_ (fun hHeld => ?_)
      · ((first
        | exact hS9
        | exact HKQ.out _ hwv
        | exact HKQ.out _ hwm
        | exact HKQ.out _ ⟨(Below.refl W.heap.size W).drew.os, (Below.refl W.heap.size W).drew.tape, (Below.refl W.heap.size W).drew.output, (Below.refl W.heap.size W).drew.size, fun k hk _ => (Below.refl W.heap.size W).drew.block k hk⟩
        | exact HKQ.out _ ⟨rfl, rfl, rfl, Nat.le_refl _, fun k hk _ => rfl⟩
        | fail))
      clear hK K
      try simp only [Act.put, gA1, gA2, gA3, gA4, gA5, gA6]
      refine wpAnyH_done (by kernel_rfl) ?_ _
      go_split_ands
      clear HKQ HS5 HMg HVo
      have hB9 := hBv.blk (grown_setRow wv (w.heap.size + 1) #[.int .i64 1, .int .i64 n6, .int .i64 n7, .int .i64 n6, .int .i64 n7, .int .i64 n13, .int .i64 n14, .int .i64 n15, .string n16, .string n17, .int .i64 n18, .int .i64 n19, .int .i64 n20, .int .i64 ms, .slice ma S mk]) hIv (by decide) (by decide) (by decide)
      have hI9 : Bk (wv.setRow (w.heap.size + 1) #[.int .i64 1, .int .i64 n6, .int .i64 n7, .int .i64 n6, .int .i64 n7, .int .i64 n13, .int .i64 n14, .int .i64 n15, .string n16, .string n17, .int .i64 n18, .int .i64 n19, .int .i64 n20, .int .i64 ms, .slice ma S mk]) (w.heap.size + 1) 48 [.int .i64 1, .int .i64 n6, .int .i64 n7, .int .i64 n6, .int .i64 n7, .int .i64 n13, .int .i64 n14, .int .i64 n15, .string n16, .string n17, .int .i64 n18, .int .i64 n19, .int .i64 n20, .int .i64 ms, .slice ma S mk] := bk_setRowA hIv
      have hG9 : w.grownBy (wv.setRow (w.heap.size + 1) #[.int .i64 1, .int .i64 n6, .int .i64 n7, .int .i64 n6, .int .i64 n7, .int .i64 n13, .int .i64 n14, .int .i64 n15, .string n16, .string n17, .int .i64 n18, .int .i64 n19, .int .i64 n20, .int .i64 ms, .slice ma S mk]) (some mb) := grown_new (grown_out (HBX.out.trans (HB9.out.mono HBX.out.size)) hwv) (grown_setRow _ _ _) (Nat.le_succ _)
      have hM9 := HS9.out.1
      have hrd9 : IK.Rd (wv.setRow (w.heap.size + 1) #[.int .i64 1, .int .i64 n6, .int .i64 n7, .int .i64 n6, .int .i64 n7, .int .i64 n13, .int .i64 n14, .int .i64 n15, .string n16, .string n17, .int .i64 n18, .int .i64 n19, .int .i64 n20, .int .i64 ms, .slice ma S mk]) (.slice ma S mk) ml := (ownI_setRow ((hom.base (Nat.zero_le _)).outA hgv ((HBwd.out.below hbm).blkNe)) hIv (by decide) _).rd
      have hMV9 : MgA (wv.setRow (w.heap.size + 1) #[.int .i64 1, .int .i64 n6, .int .i64 n7, .int .i64 n6, .int .i64 n7, .int .i64 n13, .int .i64 n14, .int .i64 n15, .string n16, .string n17, .int .i64 n18, .int .i64 n19, .int .i64 n20, .int .i64 ms, .slice ma S mk]) (.agg #[.int .i64 n0, .int .i64 n1, .int .i64 n2, .int .i64 n3, .int .i64 n4, .int .i64 n5, .int .i64 n6, .int .i64 n7, .int .i64 n8, .int .i64 n9, .int .i64 n10, .int .i64 n11, .int .i64 n12, .int .i64 n13, .int .i64 n14, .int .i64 n15, .string n16, .string n17, .int .i64 n18, .int .i64 n19, .int .i64 n20, .int .i64 n21, .slice ua M uc, .int .i64 n23, .slice a1 d1 c1, .slice a2 d2 c2, .slice a3 d3 c3]) ⟨n0, n1, n2, (n3, n4, n5), (n6, n7), ⟨n8, (n9, n10), (n11, n12), ⟨n13, n14, n15, n16, n17, n18, n19, n20⟩, (n21, dl)⟩, sn0⟩ := HMV.out.out hG9 HNeW.out
      have HAn := Lib.hid (banswer_any hB9 1 hMV9 ⟨1, (n6, n7), (n6, n7), ⟨n13, n14, n15, n16, n17, n18, n19, n20⟩, (ms, ml)⟩ (.slice ma S mk) hrd9 HMLen.out)
      simp only [inE, HS.out] at HAn
      clear HS9 hIv hom hbm hwm hwv hgv hBv hrd9 hMV9
      generalize wv.setRow (w.heap.size + 1) #[.int .i64 1, .int .i64 n6, .int .i64 n7, .int .i64 n6, .int .i64 n7, .int .i64 n13, .int .i64 n14, .int .i64 n15, .string n16, .string n17, .int .i64 n18, .int .i64 n19, .int .i64 n20, .int .i64 ms, .slice ma S mk] = V at *
      have HM9 := Lib.hid hM9
      have HI9 := Lib.hid hI9
      have HB99 := Lib.hid hB9
      have HG9 := Lib.hid hG9
      clear hM9 hI9 hB9 hG9
      go_wp2_with (first
        | refine wpList_load_rowG rfl _ _ rfl w.heap.size rfl 54 _ (0, 0) _ HM9.out Tryz.underlying54 rfl (by kernel_rfl) ?_
        | refine wpList_load_rowG rfl _ _ rfl (w.heap.size + 1) rfl 48 _ (0, 0) _ HI9.out Tryz.underlying48 rfl infoIn ?_
        | fail)
      refine HAn.out.mono ?_
      rintro e w7 ⟨g', u', he, hq1, hq2, hq3, hb6⟩
      rw [he.out]
      have HFin : Hid (HrP (preW b ⟨n0, n1, n2, (n3, n4, n5), (n6, n7), ⟨n8, (n9, n10), (n11, n12), ⟨n13, n14, n15, n16, n17, n18, n19, n20⟩, (n21, dl)⟩, sn0⟩ (ms, ml)) B g mb K w (.returned (.slice (some ⟨g', 0, none⟩) 1 1)) w7) := Lib.hid (hrP_ans (N := 0) ⟨g', u', Lib.hid rfl, hq1, hq2, hq3, hb6⟩ HB99.out HG9.out)
      clear he hq1 hq2 hq3 hb6
      go_wp2
      go_ret
      exact HFin.out
  ·
    go_simp
    refine hK.out _ _ ?_ (fun hHeld => ?_)
    · ((first
    | exact HKP.out _ hb9
    | exact HKP.out _ hbL
    | exact HKP.out _ (hbL.alloc hbL.size _)
    | exact HKP.out _ hbK
    | exact HKP.out _ (hbK.alloc hbK.size _)
    | exact HKP.out _ (Below.refl X.heap.size X).drew
    | exact HKP.out _ ((Below.refl X.heap.size X).alloc (Nat.le_refl _) _).drew
    | exact HKP.out _ ((Below.refl X.heap.size X).drew.alloc (Nat.le_refl _) _)
    | exact HKP.out _ (Below.refl _ _)
    | fail))
    clear hK K
    try simp only [Act.put, gA1, gA2, gA3, gA4, gA5, gA6]
    refine wpAnyH_ready (rs := [1]) (by kernel_rfl) (by simp) ?_
    refine (AllReadyH.cons rfl (fun K hK => ?_) AllReadyH.nil)
    go_simp
    (go_at_call 53; refine (HKn.out _ (by first | exact (Below.refl X.heap.size X).drew | exact ((Below.refl X.heap.size X).alloc (Nat.le_refl _) _).drew | exact (Below.refl X.heap.size X).drew.alloc (Nat.le_refl _) _)).mono ?_; rintro e wk ⟨vk, rs, he, hok, hek, hbk⟩; have he := he.out; subst he; have hbK : Below X.heap.size X wk := (by first | exact (Below.refl X.heap.size X).drew.trans hbk | exact ((Below.refl X.heap.size X).alloc (Nat.le_refl _) _).drew.trans (hbk.mono (by simp)) | exact ((Below.refl X.heap.size X).drew.alloc (Nat.le_refl _) _).trans (hbk.mono (by simp))); have hrk : RowIs KnK knS wk vk rs (knB b.l) := (hek.below hbk).rows hok.rd; obtain ⟨ak, ck, hvk⟩ := hok.slice; obtain ⟨Lk, hLk⟩ : ∃ q, rs.length = q := ⟨_, rfl⟩; rw [hLk] at hvk; subst hvk; have HRK := Lib.hid hrk; clear hok hek hrk hLk)
    refine hK.out _ _ ?_ (fun hHeld => ?_)
    · ((first
    | exact HKP.out _ hb9
    | exact HKP.out _ hbL
    | exact HKP.out _ (hbL.alloc hbL.size _)
    | exact HKP.out _ hbK
    | exact HKP.out _ (hbK.alloc hbK.size _)
    | exact HKP.out _ (Below.refl X.heap.size X).drew
    | exact HKP.out _ ((Below.refl X.heap.size X).alloc (Nat.le_refl _) _).drew
    | exact HKP.out _ ((Below.refl X.heap.size X).drew.alloc (Nat.le_refl _) _)
    | exact HKP.out _ (Below.refl _ _)
    | fail))
    clear hK K
    try simp only [Act.put, gA1, gA2, gA3, gA4, gA5, gA6]
    refine wpAnyH_ready (rs := [7]) (by kernel_rfl) (by simp) ?_
    refine (AllReadyH.cons rfl (fun K hK => ?_) AllReadyH.nil)
    go_simp
    (go_at_call 85; refine (HLc.out _ _ _ (by first | exact hbK | exact hbK.alloc hbK.size _) (by first | exact HRK.out | exact HRK.out.on ((Below.refl _ _).alloc (Nat.le_refl _) _))).mono ?_; rintro e wl ⟨la, lk, he, hol', hbl⟩; subst he; have hbL : Below X.heap.size X wl := (by first | exact hbK.trans (hbl.mono hbK.size) | exact (hbK.alloc hbK.size _).trans (hbl.mono (by have := hbK.size; simp; omega))); have hol : IK.Own wl X.heap.size (.slice la L lk) ll := hol'.base (by first | exact hbK.size | (have := hbK.size; simp; omega)); clear hol')
    refine hK.out _ _ ?_ (fun hHeld => ?_)
    · ((first
    | exact HKP.out _ hb9
    | exact HKP.out _ hbL
    | exact HKP.out _ (hbL.alloc hbL.size _)
    | exact HKP.out _ hbK
    | exact HKP.out _ (hbK.alloc hbK.size _)
    | exact HKP.out _ (Below.refl X.heap.size X).drew
    | exact HKP.out _ ((Below.refl X.heap.size X).alloc (Nat.le_refl _) _).drew
    | exact HKP.out _ ((Below.refl X.heap.size X).drew.alloc (Nat.le_refl _) _)
    | exact HKP.out _ (Below.refl _ _)
    | fail))
    clear hK K
    try simp only [Act.put, gA1, gA2, gA3, gA4, gA5, gA6]
    refine wpAnyH_ready (rs := [9]) (by kernel_rfl) (by simp) ?_
    refine (AllReadyH.cons rfl (fun K hK => ?_) AllReadyH.nil)
    first
      | (have hzA : X.heap.size ≤ wl.heap.size := hbL.size; refine step_store_rowA rfl 46 _ _ rfl (wl.heap.size) rfl #[.int .i64 ls, .slice la L lk] rfl #[.int .i64 0, .slice none 0 0] 46 (Bk.new wl 46 [.int .i64 0, .slice none 0 0]) infoAt rfl (all_toA (by rfl)) ?_; have hA8 : Bk (wl.alloc (.cells #[.int .i64 0, .slice none 0 0] 46)) (wl.heap.size) 46 [.int .i64 0, .slice none 0 0] := (Bk.new wl 46 [.int .i64 0, .slice none 0 0]); have hb9 : Below X.heap.size X ((wl.alloc (.cells #[.int .i64 0, .slice none 0 0] 46)).setRow (wl.heap.size) #[.int .i64 ls, .slice la L lk]) := below_setRow (hbL.alloc hbL.size _) (hzA) _; have hA9 : Bk ((wl.alloc (.cells #[.int .i64 0, .slice none 0 0] 46)).setRow (wl.heap.size) #[.int .i64 ls, .slice la L lk]) (wl.heap.size) 46 [.int .i64 ls, .slice la L lk] := bk_setRowA hA8; have hO9 : IK.Own ((wl.alloc (.cells #[.int .i64 0, .slice none 0 0] 46)).setRow (wl.heap.size) #[.int .i64 ls, .slice la L lk]) X.heap.size (.slice la L lk) ll := ownI_setRow (hol.below ((Below.refl _ _).alloc (Nat.le_refl _) _)) hA8 (by decide) _; generalize hWW : (wl.alloc (.cells #[.int .i64 0, .slice none 0 0] 46)).setRow (wl.heap.size) #[.int .i64 ls, .slice la L lk] = W at *; obtain ⟨A, hAe, hA10, hAle⟩ : ∃ A, A = wl.heap.size ∧ Bk W A 46 [.int .i64 ls, .slice la L lk] ∧ X.heap.size ≤ A := ⟨_, rfl, hA9, hzA⟩; rw [← hAe]; clear hWW hA8 hA9 hAe)
      | (have hzA : X.heap.size ≤ wk.heap.size := hbK.size; refine step_store_rowA rfl 46 _ _ rfl (wk.heap.size) rfl #[.int .i64 ls, .slice la L lk] rfl #[.int .i64 0, .slice none 0 0] 46 ((Bk.new wk 46 [.int .i64 0, .slice none 0 0]).below hbl) infoAt rfl (all_toA (by rfl)) ?_; have hA8 : Bk (wl) (wk.heap.size) 46 [.int .i64 0, .slice none 0 0] := ((Bk.new wk 46 [.int .i64 0, .slice none 0 0]).below hbl); have hb9 : Below X.heap.size X ((wl).setRow (wk.heap.size) #[.int .i64 ls, .slice la L lk]) := below_setRow hbL (hzA) _; have hA9 : Bk ((wl).setRow (wk.heap.size) #[.int .i64 ls, .slice la L lk]) (wk.heap.size) 46 [.int .i64 ls, .slice la L lk] := bk_setRowA hA8; have hO9 : IK.Own ((wl).setRow (wk.heap.size) #[.int .i64 ls, .slice la L lk]) X.heap.size (.slice la L lk) ll := ownI_setRow hol hA8 (by decide) _; generalize hWW : (wl).setRow (wk.heap.size) #[.int .i64 ls, .slice la L lk] = W at *; obtain ⟨A, hAe, hA10, hAle⟩ : ∃ A, A = wk.heap.size ∧ Bk W A 46 [.int .i64 ls, .slice la L lk] ∧ X.heap.size ≤ A := ⟨_, rfl, hA9, hzA⟩; rw [← hAe]; clear hWW hA8 hA9 hAe)
      | (refine step_store_rowA rfl 46 _ _ rfl (X.heap.size) rfl #[.int .i64 ls, .slice la L lk] rfl #[.int .i64 0, .slice none 0 0] 46 (((show Bk ((X.alloc (.cells #[.int .i64 0, .slice none 0 0] 46)).drew) X.heap.size 46 [.int .i64 0, .slice none 0 0] from Bk.new X 46 [.int .i64 0, .slice none 0 0]).below hbk).below hbl) infoAt rfl (all_toA (by rfl)) ?_; have hA8 : Bk (wl) (X.heap.size) 46 [.int .i64 0, .slice none 0 0] := (((show Bk ((X.alloc (.cells #[.int .i64 0, .slice none 0 0] 46)).drew) X.heap.size 46 [.int .i64 0, .slice none 0 0] from Bk.new X 46 [.int .i64 0, .slice none 0 0]).below hbk).below hbl); have hb9 : Below X.heap.size X ((wl).setRow (X.heap.size) #[.int .i64 ls, .slice la L lk]) := below_setRow hbL (Nat.le_refl _) _; have hA9 : Bk ((wl).setRow (X.heap.size) #[.int .i64 ls, .slice la L lk]) (X.heap.size) 46 [.int .i64 ls, .slice la L lk] := bk_setRowA hA8; have hO9 : IK.Own ((wl).setRow (X.heap.size) #[.int .i64 ls, .slice la L lk]) X.heap.size (.slice la L lk) ll := ownI_setRow hol hA8 (by decide) _; generalize hWW : (wl).setRow (X.heap.size) #[.int .i64 ls, .slice la L lk] = W at *; obtain ⟨A, hAe, hA10, hAle⟩ : ∃ A, A = X.heap.size ∧ Bk W A 46 [.int .i64 ls, .slice la L lk] ∧ X.heap.size ≤ A := ⟨_, rfl, hA9, Nat.le_refl _⟩; rw [← hAe]; clear hWW hA8 hA9 hAe)
      | fail
    refine hK.out _ _ ?_ (fun hHeld => ?_)
    · ((first
    | exact HKP.out _ hb9
    | exact HKP.out _ hbL
    | exact HKP.out _ (hbL.alloc hbL.size _)
    | exact HKP.out _ hbK
    | exact HKP.out _ (hbK.alloc hbK.size _)
    | exact HKP.out _ (Below.refl X.heap.size X).drew
    | exact HKP.out _ ((Below.refl X.heap.size X).alloc (Nat.le_refl _) _).drew
    | exact HKP.out _ ((Below.refl X.heap.size X).drew.alloc (Nat.le_refl _) _)
    | exact HKP.out _ (Below.refl _ _)
    | fail))
    clear hK K
    try simp only [Act.put, gA1, gA2, gA3, gA4, gA5, gA6]
    refine wpAnyH_done (by kernel_rfl) ?_ _
    go_split_ands
    clear HKP hbk hbl hbK hbL HRK hol HKn HLc
    have HA := Lib.hid hA10
    have HO9 := Lib.hid hO9
    have HB9 := Lib.hid hb9
    have hBw := HKX.out.below hb9
    have HBwd := Lib.hid (hBw.below (Below.refl W.heap.size W).drew)
    have HNe := Lib.hid hBw.blkNe
    have HMW := Lib.hid (HMXh.out.below hb9)
    have HIW := Lib.hid (HIXh.out.below hb9)
    have HMVd := Lib.hid ((HMV2.out.below hb9).below (Below.refl W.heap.size W).drew)
    have HRDd := Lib.hid ((HRD2.out.below hb9).below (Below.refl W.heap.size W).drew)
    have hzA2 := hA10.lt
    have HAW : Hid (A ≠ w.heap.size + 1 ∧ A ≠ w.heap.size) := Lib.hid (by have := HZX.out; omega)
    have HKQ : Hid (∀ w', W.grownBy w' (some mb) → Bk w' w.heap.size 54 [.int .i64 n0, .int .i64 n1, .int .i64 n2, .int .i64 n3, .int .i64 n4, .int .i64 n5, .int .i64 n6, .int .i64 n7, .int .i64 n8, .int .i64 n9, .int .i64 n10, .int .i64 n11, .int .i64 n12, .int .i64 n13, .int .i64 n14, .int .i64 n15, .string n16, .string n17, .int .i64 n18, .int .i64 n19, .int .i64 n20, .int .i64 n21, .slice ua M uc, .int .i64 n23, .slice a1 d1 c1, .slice a2 d2 c2, .slice a3 d3 c3] ∧ Bk w' A 46 [.int .i64 ls, .slice la L lk]) := Lib.hid fun w' hg => ⟨(hg.block _ HMW.out.lt (by simpa using HNe.out _ _ _ _ HMW.out)).trans HMW.out, (hg.block _ HA.out.lt (by simpa using HNe.out _ _ _ _ HA.out)).trans HA.out⟩
    have HS5 : Hid (∀ (ds : Array Value) w', W.grownBy w' (some mb) → Bk (w'.setRow (w.heap.size + 1) ds) w.heap.size 54 [.int .i64 n0, .int .i64 n1, .int .i64 n2, .int .i64 n3, .int .i64 n4, .int .i64 n5, .int .i64 n6, .int .i64 n7, .int .i64 n8, .int .i64 n9, .int .i64 n10, .int .i64 n11, .int .i64 n12, .int .i64 n13, .int .i64 n14, .int .i64 n15, .string n16, .string n17, .int .i64 n18, .int .i64 n19, .int .i64 n20, .int .i64 n21, .slice ua M uc, .int .i64 n23, .slice a1 d1 c1, .slice a2 d2 c2, .slice a3 d3 c3] ∧ Bk (w'.setRow (w.heap.size + 1) ds) A 46 [.int .i64 ls, .slice la L lk]) := Lib.hid fun ds w' hg => ⟨((grown_setRow w' (w.heap.size + 1) _).block _ (HKQ.out w' hg).1.lt (by simp)).trans (HKQ.out w' hg).1, ((grown_setRow w' (w.heap.size + 1) _).block _ (HKQ.out w' hg).2.lt (by simpa using HAW.out.1)).trans (HKQ.out w' hg).2⟩
    have HMg : Hid (Calls Tryz.prog 87 #[.agg #[.int .i64 n21, .slice ua M uc], .agg #[.int .i64 ls, .slice la L lk]] W.drew (fun e w' => ∃ ma mk, e = .returned (.agg #[.int .i64 ms, .slice ma S mk]) ∧ IK.Own w' W.drew.heap.size (.slice ma S mk) ml ∧ Below W.drew.heap.size W.drew w')) := Lib.hid (by
      have q := merge_any n21 ls (.slice ua M uc) (.slice la L lk) dl ll W.drew HRDd.out HOKD.out (HO9.out.rd.below (Below.refl W.heap.size W).drew) HOKL.out HLen.out
      rw [HMS.out] at q
      refine q.mono ?_
      rintro e w2 ⟨v', he, ho, hb⟩
      obtain ⟨ma, mk, hv⟩ := ho.slice
      simp only at ho hv
      rw [HS.out] at hv
      subst hv
      exact ⟨ma, mk, he.out, ho, hb⟩)
    have HVo : Hid (∀ wm ma mk, Below W.drew.heap.size W.drew wm → IK.Own wm W.drew.heap.size (.slice ma S mk) ml → Calls Tryz.prog 86 #[bP g, .int .i64 1, .agg #[.int .i64 n0, .int .i64 n1, .int .i64 n2, .int .i64 n3, .int .i64 n4, .int .i64 n5, .int .i64 n6, .int .i64 n7, .int .i64 n8, .int .i64 n9, .int .i64 n10, .int .i64 n11, .int .i64 n12, .int .i64 n13, .int .i64 n14, .int .i64 n15, .string n16, .string n17, .int .i64 n18, .int .i64 n19, .int .i64 n20, .int .i64 n21, .slice ua M uc, .int .i64 n23, .slice a1 d1 c1, .slice a2 d2 c2, .slice a3 d3 c3], .agg #[.int .i64 ms, .slice ma S mk]] wm (fun e w' => e = .returned (.agg #[.int .i64 1, .int .i64 n6, .int .i64 n7, .int .i64 n6, .int .i64 n7, .int .i64 n13, .int .i64 n14, .int .i64 n15, .string n16, .string n17, .int .i64 n18, .int .i64 n19, .int .i64 n20, .int .i64 ms, .slice ma S mk]) ∧ BkAt w' B g mb (K + 1) (preW b ⟨n0, n1, n2, (n3, n4, n5), (n6, n7), ⟨n8, (n9, n10), (n11, n12), ⟨n13, n14, n15, n16, n17, n18, n19, n20⟩, (n21, dl)⟩, sn0⟩ (ms, ml)).1 ∧ wm.grownBy w' (some mb))) := Lib.hid fun wm ma mk hb ho => by
      have q := bvote_any (HBwd.out.below hb) 1 (HMVd.out.below hb) ms ml (.slice ma S mk) ho.rd HMLen.out HKK.out
      refine q.mono ?_
      rintro e w5 ⟨he, q1, q2⟩
      exact ⟨he.out, q1, q2⟩
    clear hA10 hO9 hb9 hBw hzA2
    go_wp2_with fail
    refine wp_region_held_drew (S := (fun w' => Bk w' w.heap.size 54 [.int .i64 n0, .int .i64 n1, .int .i64 n2, .int .i64 n3, .int .i64 n4, .int .i64 n5, .int .i64 n6, .int .i64 n7, .int .i64 n8, .int .i64 n9, .int .i64 n10, .int .i64 n11, .int .i64 n12, .int .i64 n13, .int .i64 n14, .int .i64 n15, .string n16, .string n17, .int .i64 n18, .int .i64 n19, .int .i64 n20, .int .i64 n21, .slice ua M uc, .int .i64 n23, .slice a1 d1 c1, .slice a2 d2 c2, .slice a3 d3 c3] ∧ Bk w' A 46 [.int .i64 ls, .slice la L lk])) (by kernel_rfl) ?_ (fun hHeld => ?_)
    · ((first
      | exact hS9
      | exact HKQ.out _ hwv
      | exact HKQ.out _ hwm
      | exact HKQ.out _ ⟨(Below.refl W.heap.size W).drew.os, (Below.refl W.heap.size W).drew.tape, (Below.refl W.heap.size W).drew.output, (Below.refl W.heap.size W).drew.size, fun k hk _ => (Below.refl W.heap.size W).drew.block k hk⟩
      | exact HKQ.out _ ⟨rfl, rfl, rfl, Nat.le_refl _, fun k hk _ => rfl⟩
      | fail))
    refine tkA 0 (v := ?_) ?_ ?_
    rotate_left
    · (intro w' hSw; clear hSw; go_simp; try rfl)
    try simp only [Act.put, gA1, gA2, gA3, gA4, gA5, gA6]
    refine tkA 1 (v := ?_) ?_ ?_
    rotate_left
    · (intro w' hSw; refine Eq.trans (load_rowS 54 (.tmp 4) (by rfl) w.heap.size (by rfl) 54 #[.int .i64 n0, .int .i64 n1, .int .i64 n2, .int .i64 n3, .int .i64 n4, .int .i64 n5, .int .i64 n6, .int .i64 n7, .int .i64 n8, .int .i64 n9, .int .i64 n10, .int .i64 n11, .int .i64 n12, .int .i64 n13, .int .i64 n14, .int .i64 n15, .string n16, .string n17, .int .i64 n18, .int .i64 n19, .int .i64 n20, .int .i64 n21, .slice ua M uc, .int .i64 n23, .slice a1 d1 c1, .slice a2 d2 c2, .slice a3 d3 c3] (0, 0) _ hSw.1 Tryz.underlying54 rfl (by kernel_rfl)) ?_; rfl)
    try simp only [Act.put, gA1, gA2, gA3, gA4, gA5, gA6]
    refine tkA 2 (v := ?_) ?_ ?_
    rotate_left
    · (intro w' hSw; clear hSw; go_simp; try rfl)
    try simp only [Act.put, gA1, gA2, gA3, gA4, gA5, gA6]
    refine tkA 3 (v := ?_) ?_ ?_
    rotate_left
    · (intro w' hSw; clear hSw; go_simp; try rfl)
    try simp only [Act.put, gA1, gA2, gA3, gA4, gA5, gA6]
    refine tkA 4 (v := ?_) ?_ ?_
    rotate_left
    · (intro w' hSw; have e21 := Bk.cell hSw.1 21; have e22 := Bk.cell hSw.1 22; simp only [List.getElem?_cons_zero, List.getElem?_cons_succ] at e21 e22; clear hSw; go_simp; try rfl)
    try simp only [Act.put, gA1, gA2, gA3, gA4, gA5, gA6]
    refine tkA 5 (v := ?_) ?_ ?_
    rotate_left
    · (intro w' hSw; have e0 := Bk.cell hSw.2 0; have e1 := Bk.cell hSw.2 1; simp only [List.getElem?_cons_zero, List.getElem?_cons_succ] at e0 e1; clear hSw; go_simp; try rfl)
    try simp only [Act.put, gA1, gA2, gA3, gA4, gA5, gA6]
    refine wpAnyH_ready (rs := [6]) (by kernel_rfl) (by simp) ?_
    refine (AllReadyH.cons rfl (fun K hK => ?_) AllReadyH.nil)
    go_simp
    (go_at_call 87; refine HMg.out.mono ?_; rintro e wm ⟨ma, mk, he, hom, hbm⟩; subst he; have hwm : W.grownBy wm (some mb) := ⟨hbm.os, hbm.tape, hbm.output, hbm.size, fun k hk _ => hbm.block k hk⟩)
    refine hK.out _ _ ?_ (fun hHeld => ?_)
    · ((first
      | exact hS9
      | exact HKQ.out _ hwv
      | exact HKQ.out _ hwm
      | exact HKQ.out _ ⟨(Below.refl W.heap.size W).drew.os, (Below.refl W.heap.size W).drew.tape, (Below.refl W.heap.size W).drew.output, (Below.refl W.heap.size W).drew.size, fun k hk _ => (Below.refl W.heap.size W).drew.block k hk⟩
      | exact HKQ.out _ ⟨rfl, rfl, rfl, Nat.le_refl _, fun k hk _ => rfl⟩
      | fail))
    clear hK K
    try simp only [Act.put, gA1, gA2, gA3, gA4, gA5, gA6]
    refine wpAnyH_ready (rs := [7]) (by kernel_rfl) (by simp) ?_
    refine (AllReadyH.cons rfl (fun K hK => ?_) AllReadyH.nil)
    go_simp
    (go_at_call 86; refine (HVo.out wm ma mk hbm hom).mono ?_; rintro e wv ⟨he, hBv, hgv⟩; subst he; have hwv : W.grownBy wv (some mb) := ⟨hgv.os.trans hwm.os, hgv.tape.trans hwm.tape, hgv.output.trans hwm.output, Nat.le_trans hwm.size hgv.size, fun k hk hn => (hgv.block k (Nat.lt_of_lt_of_le hk hwm.size) hn).trans (hwm.block k hk hn)⟩)
    refine hK.out _ _ ?_ (fun hHeld => ?_)
    · ((first
      | exact hS9
      | exact HKQ.out _ hwv
      | exact HKQ.out _ hwm
      | exact HKQ.out _ ⟨(Below.refl W.heap.size W).drew.os, (Below.refl W.heap.size W).drew.tape, (Below.refl W.heap.size W).drew.output, (Below.refl W.heap.size W).drew.size, fun k hk _ => (Below.refl W.heap.size W).drew.block k hk⟩
      | exact HKQ.out _ ⟨rfl, rfl, rfl, Nat.le_refl _, fun k hk _ => rfl⟩
      | fail))
    clear hK K
    try simp only [Act.put, gA1, gA2, gA3, gA4, gA5, gA6]
    refine wpAnyH_ready (rs := [8]) (by kernel_rfl) (by simp) ?_
    refine (AllReadyH.cons rfl (fun K hK => ?_) AllReadyH.nil)
    have hIv : Bk wv (w.heap.size + 1) 48 [.int .i64 p0, .int .i64 p1, .int .i64 p2, .int .i64 p3, .int .i64 p4, .int .i64 p5, .int .i64 p6, .int .i64 p7, .string p8, .string p9, .int .i64 p10, .int .i64 p11, .int .i64 p12, .int .i64 ps, .slice pa P pk] := (hwv.block _ HIW.out.lt (by simpa using HNe.out _ _ _ _ HIW.out)).trans HIW.out
    refine step_store_rowA rfl 48 _ _ rfl (w.heap.size + 1) rfl #[.int .i64 1, .int .i64 n6, .int .i64 n7, .int .i64 n6, .int .i64 n7, .int .i64 n13, .int .i64 n14, .int .i64 n15, .string n16, .string n17, .int .i64 n18, .int .i64 n19, .int .i64 n20, .int .i64 ms, .slice ma S mk] rfl #[.int .i64 p0, .int .i64 p1, .int .i64 p2, .int .i64 p3, .int .i64 p4, .int .i64 p5, .int .i64 p6, .int .i64 p7, .string p8, .string p9, .int .i64 p10, .int .i64 p11, .int .i64 p12, .int .i64 ps, .slice pa P pk] 48 hIv infoIn rfl (all_toA (by rfl)) ?_
    have hS9 : Bk (wv.setRow (w.heap.size + 1) #[.int .i64 1, .int .i64 n6, .int .i64 n7, .int .i64 n6, .int .i64 n7, .int .i64 n13, .int .i64 n14, .int .i64 n15, .string n16, .string n17, .int .i64 n18, .int .i64 n19, .int .i64 n20, .int .i64 ms, .slice ma S mk]) w.heap.size 54 [.int .i64 n0, .int .i64 n1, .int .i64 n2, .int .i64 n3, .int .i64 n4, .int .i64 n5, .int .i64 n6, .int .i64 n7, .int .i64 n8, .int .i64 n9, .int .i64 n10, .int .i64 n11, .int .i64 n12, .int .i64 n13, .int .i64 n14, .int .i64 n15, .string n16, .string n17, .int .i64 n18, .int .i64 n19, .int .i64 n20, .int .i64 n21, .slice ua M uc, .int .i64 n23, .slice a1 d1 c1, .slice a2 d2 c2, .slice a3 d3 c3] ∧ Bk (wv.setRow (w.heap.size + 1) #[.int .i64 1, .int .i64 n6, .int .i64 n7, .int .i64 n6, .int .i64 n7, .int .i64 n13, .int .i64 n14, .int .i64 n15, .string n16, .string n17, .int .i64 n18, .int .i64 n19, .int .i64 n20, .int .i64 ms, .slice ma S mk]) A 46 [.int .i64 ls, .slice la L lk] := HS5.out _ _ hwv
    have HS9 := Lib.hid hS9
    refine hK.out _ _ ?_ (fun hHeld => ?_)
    · ((first
      | exact hS9
      | exact HKQ.out _ hwv
      | exact HKQ.out _ hwm
      | exact HKQ.out _ ⟨(Below.refl W.heap.size W).drew.os, (Below.refl W.heap.size W).drew.tape, (Below.refl W.heap.size W).drew.output, (Below.refl W.heap.size W).drew.size, fun k hk _ => (Below.refl W.heap.size W).drew.block k hk⟩
      | exact HKQ.out _ ⟨rfl, rfl, rfl, Nat.le_refl _, fun k hk _ => rfl⟩
      | fail))
    clear hK K
    try simp only [Act.put, gA1, gA2, gA3, gA4, gA5, gA6]
    refine wpAnyH_done (by kernel_rfl) ?_ _
    go_split_ands
    clear HKQ HS5 HMg HVo
    have hB9 := hBv.blk (grown_setRow wv (w.heap.size + 1) #[.int .i64 1, .int .i64 n6, .int .i64 n7, .int .i64 n6, .int .i64 n7, .int .i64 n13, .int .i64 n14, .int .i64 n15, .string n16, .string n17, .int .i64 n18, .int .i64 n19, .int .i64 n20, .int .i64 ms, .slice ma S mk]) hIv (by decide) (by decide) (by decide)
    have hI9 : Bk (wv.setRow (w.heap.size + 1) #[.int .i64 1, .int .i64 n6, .int .i64 n7, .int .i64 n6, .int .i64 n7, .int .i64 n13, .int .i64 n14, .int .i64 n15, .string n16, .string n17, .int .i64 n18, .int .i64 n19, .int .i64 n20, .int .i64 ms, .slice ma S mk]) (w.heap.size + 1) 48 [.int .i64 1, .int .i64 n6, .int .i64 n7, .int .i64 n6, .int .i64 n7, .int .i64 n13, .int .i64 n14, .int .i64 n15, .string n16, .string n17, .int .i64 n18, .int .i64 n19, .int .i64 n20, .int .i64 ms, .slice ma S mk] := bk_setRowA hIv
    have hG9 : w.grownBy (wv.setRow (w.heap.size + 1) #[.int .i64 1, .int .i64 n6, .int .i64 n7, .int .i64 n6, .int .i64 n7, .int .i64 n13, .int .i64 n14, .int .i64 n15, .string n16, .string n17, .int .i64 n18, .int .i64 n19, .int .i64 n20, .int .i64 ms, .slice ma S mk]) (some mb) := grown_new (grown_out (HBX.out.trans (HB9.out.mono HBX.out.size)) hwv) (grown_setRow _ _ _) (Nat.le_succ _)
    have hM9 := HS9.out.1
    have hrd9 : IK.Rd (wv.setRow (w.heap.size + 1) #[.int .i64 1, .int .i64 n6, .int .i64 n7, .int .i64 n6, .int .i64 n7, .int .i64 n13, .int .i64 n14, .int .i64 n15, .string n16, .string n17, .int .i64 n18, .int .i64 n19, .int .i64 n20, .int .i64 ms, .slice ma S mk]) (.slice ma S mk) ml := (ownI_setRow ((hom.base (Nat.zero_le _)).outA hgv ((HBwd.out.below hbm).blkNe)) hIv (by decide) _).rd
    have hMV9 : MgA (wv.setRow (w.heap.size + 1) #[.int .i64 1, .int .i64 n6, .int .i64 n7, .int .i64 n6, .int .i64 n7, .int .i64 n13, .int .i64 n14, .int .i64 n15, .string n16, .string n17, .int .i64 n18, .int .i64 n19, .int .i64 n20, .int .i64 ms, .slice ma S mk]) (.agg #[.int .i64 n0, .int .i64 n1, .int .i64 n2, .int .i64 n3, .int .i64 n4, .int .i64 n5, .int .i64 n6, .int .i64 n7, .int .i64 n8, .int .i64 n9, .int .i64 n10, .int .i64 n11, .int .i64 n12, .int .i64 n13, .int .i64 n14, .int .i64 n15, .string n16, .string n17, .int .i64 n18, .int .i64 n19, .int .i64 n20, .int .i64 n21, .slice ua M uc, .int .i64 n23, .slice a1 d1 c1, .slice a2 d2 c2, .slice a3 d3 c3]) ⟨n0, n1, n2, (n3, n4, n5), (n6, n7), ⟨n8, (n9, n10), (n11, n12), ⟨n13, n14, n15, n16, n17, n18, n19, n20⟩, (n21, dl)⟩, sn0⟩ := HMV.out.out hG9 HNeW.out
    have HAn := Lib.hid (banswer_any hB9 1 hMV9 ⟨1, (n6, n7), (n6, n7), ⟨n13, n14, n15, n16, n17, n18, n19, n20⟩, (ms, ml)⟩ (.slice ma S mk) hrd9 HMLen.out)
    simp only [inE, HS.out] at HAn
    clear HS9 hIv hom hbm hwm hwv hgv hBv hrd9 hMV9
    generalize wv.setRow (w.heap.size + 1) #[.int .i64 1, .int .i64 n6, .int .i64 n7, .int .i64 n6, .int .i64 n7, .int .i64 n13, .int .i64 n14, .int .i64 n15, .string n16, .string n17, .int .i64 n18, .int .i64 n19, .int .i64 n20, .int .i64 ms, .slice ma S mk] = V at *
    have HM9 := Lib.hid hM9
    have HI9 := Lib.hid hI9
    have HB99 := Lib.hid hB9
    have HG9 := Lib.hid hG9
    clear hM9 hI9 hB9 hG9
    go_wp2_with (first
      | refine wpList_load_rowG rfl _ _ rfl w.heap.size rfl 54 _ (0, 0) _ HM9.out Tryz.underlying54 rfl (by kernel_rfl) ?_
      | refine wpList_load_rowG rfl _ _ rfl (w.heap.size + 1) rfl 48 _ (0, 0) _ HI9.out Tryz.underlying48 rfl infoIn ?_
      | fail)
    refine HAn.out.mono ?_
    rintro e w7 ⟨g', u', he, hq1, hq2, hq3, hb6⟩
    rw [he.out]
    have HFin : Hid (HrP (preW b ⟨n0, n1, n2, (n3, n4, n5), (n6, n7), ⟨n8, (n9, n10), (n11, n12), ⟨n13, n14, n15, n16, n17, n18, n19, n20⟩, (n21, dl)⟩, sn0⟩ (ms, ml)) B g mb K w (.returned (.slice (some ⟨g', 0, none⟩) 1 1)) w7) := Lib.hid (hrP_ans (N := 0) ⟨g', u', Lib.hid rfl, hq1, hq2, hq3, hb6⟩ HB99.out HG9.out)
    clear he hq1 hq2 hq3 hb6
    go_wp2
    go_ret
    exact HFin.out
end Go.Proofs.YtchhcaoondfpiaaGreat
