/-
  Package accept: Hear of messages of kind 4.
-/
import Derived.Test.YtchhcaoondfpiaaGreatAcWw
namespace Go.Proofs.YtchhcaoondfpiaaGreat
open Go.RowKit Go.Sort
open Go.WideMaps
open Go.MapKept
set_option linter.unusedSimpArgs false
set_option linter.unusedVariables false
set_option maxRecDepth 100000

/-- What Hear's refusal reads. -/
structure NoS4 (w0 g ib : Nat) (nd : Int) (cs ds : List Value) (w' : World) : Prop where
  ms : Bk w' w0 54 cs
  ix : Bk w' ib 48 ds
  nd : w'.cell? ⟨g, 0, none⟩ = some (.int .i64 nd)
set_option maxHeartbeats 8000000 in
theorem bhear_4 {w : World} {B g mb K : Nat} {b : BSt} (h : BkAt w B g mb K b) {v : Value} {m : Mg} (hm : MgA w v m) (g0 : m.kind = 4) (hn : b.ns.length ≤ 1000) (hK : K ≤ 800) (hml : Tc.ML w) (hs : ∀ e ∈ b.l, okL e.2.at'.2) (hz : ∀ k ∈ knB b.l, k.cm.pa.size ≤ 1000 ∧ k.a.1 ≤ 1125899906842624) (hp : m.ins.cm.pa.size ≤ 1000) (hd : m.ins.at'.2.length ≤ 100) (hx : (getL b.l m.id).at'.2.length ≤ 100000) : Calls Tryz.prog 16 #[bP g, v] w (HrP (hearB lclA b m) B g mb K w) := by
  have HMV := Lib.hid hm
  obtain ⟨ua, uc, a1, d1, c1, a2, d2, c2, a3, d3, c3, rfl, hrd, hokl, hid⟩ := hm
  obtain ⟨n0, n1, n2, ⟨n3, n4, n5⟩, ⟨n6, n7⟩, ⟨n8, ⟨n9, n10⟩, ⟨n11, n12⟩, ⟨n13, n14, n15, n16, n17, n18, n19, n20⟩, n21, dl⟩, sn0⟩ := m
  obtain ⟨n23, sn1⟩ : ∃ q, sn0.1.1 = q := ⟨_, rfl⟩
  obtain ⟨M, hM⟩ : ∃ M, dl.length = M := ⟨_, rfl⟩
  have HMl := Lib.hid hM
  simp only at hrd hokl hid
  simp only [msE, inE, snV, hM, sn1, List.cons_append, List.nil_append] at hrd HMV ⊢
  clear hM sn1
  simp only at g0 hp hd hx
  subst g0
  obtain ⟨av, hav, hrun0⟩ := h.look2 (id := (n3, n4, n5)) hid
  obtain ⟨x, hget⟩ : ∃ x, getL b.l (n3, n4, n5) = x := ⟨_, rfl⟩
  rw [hget] at hav hx
  have hval := hav.val
  have hrow := hav.row
  have HAV := Lib.hid hav
  obtain ⟨p0, ⟨p1, p2⟩, ⟨p3, p4⟩, ⟨p5, p6, p7, p8, p9, p10, p11, p12⟩, ps, pl⟩ := x
  simp only at hrow hx
  obtain ⟨pa, pk, hsl⟩ := hrow.slice
  obtain ⟨P, hP⟩ : ∃ P, pl.length = P := ⟨_, rfl⟩
  rw [hP] at hsl
  rw [hsl] at hval hrow
  simp only [inE] at hval
  have HVE := Lib.hid hval
  have HRUN : Hid (∀ w', Below w.heap.size w w' → (Instr.lookup 83 (.map (some mb)) (.agg #[.int .i64 n3, .int .i64 n4, .int .i64 n5]) false).run Tryz.prog w' = .ok (.agg #[.int .i64 p0, .int .i64 p1, .int .i64 p2, .int .i64 p3, .int .i64 p4, .int .i64 p5, .int .i64 p6, .int .i64 p7, .string p8, .string p9, .int .i64 p10, .int .i64 p11, .int .i64 p12, .int .i64 ps, .slice pa P pk]) w') := Lib.hid fun w' hb => by
    have q := hrun0 w' hb
    rw [hval] at q
    exact q
  have HROW0 := Lib.hid hrow
  have HGET := Lib.hid hget
  have HPl := Lib.hid hx
  have HDl : Hid (dl.length ≤ 100000) := Lib.hid (by omega)
  have HDl2 := Lib.hid hd
  have HDl3 : Hid (dl.length ≤ 10000) := Lib.hid (by omega)
  have HKK : Hid (K ≤ 100000) := Lib.hid (by omega)
  have HK8 := Lib.hid hK
  have HML := Lib.hid hml
  have HS := Lib.hid hs
  have HZ := Lib.hid hz
  have HPa := Lib.hid hp
  have HN := Lib.hid hn
  obtain ⟨nd, hnd⟩ : ∃ n, b.node = n := ⟨_, rfl⟩
  have HND := Lib.hid hnd
  obtain ⟨X, hX⟩ : ∃ X, w.alloc (.cells #[.int .i64 4, .int .i64 n1, .int .i64 n2, .int .i64 n3, .int .i64 n4, .int .i64 n5, .int .i64 n6, .int .i64 n7, .int .i64 n8, .int .i64 n9, .int .i64 n10, .int .i64 n11, .int .i64 n12, .int .i64 n13, .int .i64 n14, .int .i64 n15, .string n16, .string n17, .int .i64 n18, .int .i64 n19, .int .i64 n20, .int .i64 n21, .slice ua M uc, .int .i64 n23, .slice a1 d1 c1, .slice a2 d2 c2, .slice a3 d3 c3] 54) = X := ⟨_, rfl⟩
  have hBX : Below w.heap.size w X := by rw [← hX]; exact (Below.refl _ _).alloc (Nat.le_refl _) _
  have HMX : Hid (Bk X w.heap.size 54 [.int .i64 4, .int .i64 n1, .int .i64 n2, .int .i64 n3, .int .i64 n4, .int .i64 n5, .int .i64 n6, .int .i64 n7, .int .i64 n8, .int .i64 n9, .int .i64 n10, .int .i64 n11, .int .i64 n12, .int .i64 n13, .int .i64 n14, .int .i64 n15, .string n16, .string n17, .int .i64 n18, .int .i64 n19, .int .i64 n20, .int .i64 n21, .slice ua M uc, .int .i64 n23, .slice a1 d1 c1, .slice a2 d2 c2, .slice a3 d3 c3]) := Lib.hid (by rw [← hX]; exact Bk.new w _ _)
  have HBX := Lib.hid hBX
  have HKP : Hid (∀ w', Below X.heap.size X w' → Bk w' w.heap.size 54 [.int .i64 4, .int .i64 n1, .int .i64 n2, .int .i64 n3, .int .i64 n4, .int .i64 n5, .int .i64 n6, .int .i64 n7, .int .i64 n8, .int .i64 n9, .int .i64 n10, .int .i64 n11, .int .i64 n12, .int .i64 n13, .int .i64 n14, .int .i64 n15, .string n16, .string n17, .int .i64 n18, .int .i64 n19, .int .i64 n20, .int .i64 n21, .slice ua M uc, .int .i64 n23, .slice a1 d1 c1, .slice a2 d2 c2, .slice a3 d3 c3]) := Lib.hid fun w' hb => HMX.out.below hb
  have H := Lib.hid h
  have HF : Hid (Instr.findNow (.int .i64) (.int .i64 4) tabE.toList 0 = some (some (3, fnV 71))) := Lib.hid (by rfl)
  clear h hBX hrd hokl hid hav hrun0 hget hval hrow hx hP hsl hK hml hs hz hp hd hn hnd
  go_enter Tryz.func16, Tryz.ntmps16
  go_wp2_with fail
  try rw [hX]
  clear hX
  refine wp_region_held_drew (S := (fun w' => Bk w' w.heap.size 54 [.int .i64 4, .int .i64 n1, .int .i64 n2, .int .i64 n3, .int .i64 n4, .int .i64 n5, .int .i64 n6, .int .i64 n7, .int .i64 n8, .int .i64 n9, .int .i64 n10, .int .i64 n11, .int .i64 n12, .int .i64 n13, .int .i64 n14, .int .i64 n15, .string n16, .string n17, .int .i64 n18, .int .i64 n19, .int .i64 n20, .int .i64 n21, .slice ua M uc, .int .i64 n23, .slice a1 d1 c1, .slice a2 d2 c2, .slice a3 d3 c3])) (by kernel_rfl) ?_ (fun hHeld => ?_)
  · ((first
    | exact HKP.out _ hbT
    | exact HKP.out _ (Below.refl X.heap.size X).drew
    | exact HKP.out _ (Below.refl _ _)
    | fail))
  refine tkA 1 (v := ?_) ?_ ?_
  rotate_left
  · (intro w' hSw; clear hSw; go_simp; try rfl)
  try simp only [Act.put, gA1, gA2, gA3, gA4, gA5, gA6]
  refine tkA 2 (v := ?_) ?_ ?_
  rotate_left
  · (intro w' hSw; have e0 := Bk.cell hSw 0; simp only [List.getElem?_cons_zero, List.getElem?_cons_succ] at e0; clear hSw; go_simp; try rfl)
  try simp only [Act.put, gA1, gA2, gA3, gA4, gA5, gA6]
  refine wpAnyH_ready (rs := [0]) (by kernel_rfl) (by simp) ?_
  refine (AllReadyH.cons rfl (fun K hK => ?_) AllReadyH.nil)
  go_simp
  (go_at_call 43; refine (votes_any _).mono ?_; rintro e wt ⟨bt, he, hbt, hbq⟩; have he := he.out; subst he; have hbT : Below X.heap.size X wt := (Below.refl X.heap.size X).drew.trans hbq; have hrun : (Instr.lookup 93 (.map (some bt)) (.int .i64 4) true).run Tryz.prog wt = .ok (.tuple #[fnV 71, .bool true]) wt := run_lookA wt bt hbt (4) (some (3, fnV 71)) HF.out _ zeroFA; clear hbt hbq)
  refine hK.out _ _ ?_ (fun hHeld => ?_)
  · ((first
    | exact HKP.out _ hbT
    | exact HKP.out _ (Below.refl X.heap.size X).drew
    | exact HKP.out _ (Below.refl _ _)
    | fail))
  clear hK K
  try simp only [Act.put, gA1, gA2, gA3, gA4, gA5, gA6]
  refine wpAnyH_ready (rs := [3]) (by kernel_rfl) (by simp) ?_
  refine (AllReadyH.cons rfl (fun K hK => ?_) AllReadyH.nil)
  go_simp
  refine hK.out _ _ ?_ (fun hHeld => ?_)
  · ((first
    | exact HKP.out _ hbT
    | exact HKP.out _ (Below.refl X.heap.size X).drew
    | exact HKP.out _ (Below.refl _ _)
    | fail))
  clear hK K
  try simp only [Act.put, gA1, gA2, gA3, gA4, gA5, gA6]
  refine tkA 4 (v := ?_) ?_ ?_
  rotate_left
  · (intro w' hSw; clear hSw; go_simp; try rfl)
  try simp only [Act.put, gA1, gA2, gA3, gA4, gA5, gA6]
  refine tkA 5 (v := ?_) ?_ ?_
  rotate_left
  · (intro w' hSw; clear hSw; go_simp; try rfl)
  try simp only [Act.put, gA1, gA2, gA3, gA4, gA5, gA6]
  refine tkA 6 (v := ?_) ?_ ?_
  rotate_left
  · (intro w' hSw; clear hSw; go_simp; try rfl)
  try simp only [Act.put, gA1, gA2, gA3, gA4, gA5, gA6]
  refine tkA 7 (v := ?_) ?_ ?_
  rotate_left
  · (intro w' hSw; clear hSw; go_simp; try rfl)
  try simp only [Act.put, gA1, gA2, gA3, gA4, gA5, gA6]
  refine tkA 8 (v := ?_) ?_ ?_
  rotate_left
  · (intro w' hSw; clear hSw; go_simp; try rfl)
  try simp only [Act.put, gA1, gA2, gA3, gA4, gA5, gA6]
  refine wpAnyH_done (by kernel_rfl) ?_ _
  go_split_ands
  clear HKP hrun
  have HBT := Lib.hid (HBX.out.trans (hbT.mono HBX.out.size))
  have HMT := Lib.hid (HMX.out.below hbT)
  have HRtC := Lib.hid (bright_any (H.out.below HBT.out) HN.out (HMV.out.below HBT.out) HDl3.out)
  clear hbT
  cases qrt : rightB b ⟨4, n1, n2, (n3, n4, n5), (n6, n7), ⟨n8, (n9, n10), (n11, n12), ⟨n13, n14, n15, n16, n17, n18, n19, n20⟩, (n21, dl)⟩, sn0⟩ with
  | false =>
    rw [qrt] at HRtC
    have HFx : Hid (hearB lclA b ⟨4, n1, n2, (n3, n4, n5), (n6, n7), ⟨n8, (n9, n10), (n11, n12), ⟨n13, n14, n15, n16, n17, n18, n19, n20⟩, (n21, dl)⟩, sn0⟩ = (b, [])) := Lib.hid (hear_not lclA qrt)
    clear qrt
    go_wp2_with (first | refine wpList_load_rowG rfl _ _ rfl w.heap.size rfl 54 _ (0, 0) _ HMT.out Tryz.underlying54 rfl (by kernel_rfl) ?_ | fail)
    refine HRtC.out.mono ?_
    rintro e w9 ⟨rfl, hb9⟩
    have HFin : Hid (HrP (hearB lclA b ⟨4, n1, n2, (n3, n4, n5), (n6, n7), ⟨n8, (n9, n10), (n11, n12), ⟨n13, n14, n15, n16, n17, n18, n19, n20⟩, (n21, dl)⟩, sn0⟩) B g mb K w (.returned (.slice none 0 0)) w9) := Lib.hid (by
      rw [HFx.out]
      exact hrP_nil H.out (HBT.out.trans (hb9.mono HBT.out.size)))
    clear hb9
    go_wp2
    go_ret
    exact HFin.out
  | true =>
    rw [qrt] at HRtC
    have HRt := Lib.hid qrt
    clear qrt
    go_wp2_with (first | refine wpList_load_rowG rfl _ _ rfl w.heap.size rfl 54 _ (0, 0) _ HMT.out Tryz.underlying54 rfl (by kernel_rfl) ?_ | fail)
    refine HRtC.out.mono ?_
    rintro e W ⟨rfl, hbW⟩
    have HBW : Hid (Below w.heap.size w W) := Lib.hid (HBT.out.trans (hbW.mono HBT.out.size))
    have HMW := Lib.hid (HMT.out.below hbW)
    have HK4 : Hid (∀ w', Below W.heap.size W w' → w'.cell? ⟨g, 3, none⟩ = some (.map (some mb)) ∧ w'.cell? ⟨w.heap.size, 3, none⟩ = some (.int .i64 n3) ∧ w'.cell? ⟨w.heap.size, 4, none⟩ = some (.int .i64 n4) ∧ w'.cell? ⟨w.heap.size, 5, none⟩ = some (.int .i64 n5) ∧ (Instr.lookup 83 (.map (some mb)) (.agg #[.int .i64 n3, .int .i64 n4, .int .i64 n5]) false).run Tryz.prog w' = .ok (.agg #[.int .i64 p0, .int .i64 p1, .int .i64 p2, .int .i64 p3, .int .i64 p4, .int .i64 p5, .int .i64 p6, .int .i64 p7, .string p8, .string p9, .int .i64 p10, .int .i64 p11, .int .i64 p12, .int .i64 ps, .slice pa P pk]) w') := Lib.hid fun w' hb => by
      have hb1 := HBW.out.trans (hb.mono HBW.out.size)
      have e1 := HMW.out.below hb
      exact ⟨(H.out.below hb1).c3, e1.cell 3, e1.cell 4, e1.cell 5, HRUN.out w' hb1⟩
    clear hbW HMT HBT HRtC HMX
    go_wp2_with fail
    refine wp_region_held_drew (S := (fun w' => w'.cell? ⟨g, 3, none⟩ = some (.map (some mb)) ∧ w'.cell? ⟨w.heap.size, 3, none⟩ = some (.int .i64 n3) ∧ w'.cell? ⟨w.heap.size, 4, none⟩ = some (.int .i64 n4) ∧ w'.cell? ⟨w.heap.size, 5, none⟩ = some (.int .i64 n5) ∧ (Instr.lookup 83 (.map (some mb)) (.agg #[.int .i64 n3, .int .i64 n4, .int .i64 n5]) false).run Tryz.prog w' = .ok (.agg #[.int .i64 p0, .int .i64 p1, .int .i64 p2, .int .i64 p3, .int .i64 p4, .int .i64 p5, .int .i64 p6, .int .i64 p7, .string p8, .string p9, .int .i64 p10, .int .i64 p11, .int .i64 p12, .int .i64 ps, .slice pa P pk]) w')) (by kernel_rfl) ?_ (fun hHeld => ?_)
    · ((first
      | exact HK4.out _ (below_setRow (((Below.refl W.heap.size W).alloc (Nat.le_refl _) _).drew) (Nat.le_refl _) _)
      | exact HK4.out _ (((Below.refl W.heap.size W).alloc (Nat.le_refl _) _).drew)
      | exact HK4.out _ (below_setRow (((Below.refl W.heap.size W).drew).alloc (Nat.le_refl _) _) (Nat.le_refl _) _)
      | exact HK4.out _ (((Below.refl W.heap.size W).drew).alloc (Nat.le_refl _) _)
      | exact HK4.out _ (Below.refl W.heap.size W).drew
      | exact HK4.out _ (Below.refl _ _)
      | fail))
    refine tkA 0 (v := ?_) ?_ ?_
    rotate_left
    · (intro w hSw; (try dsimp only at hSw); go_simp; try rfl)
    try simp only [Act.put, gA1, gA2, gA3, gA4, gA5, gA6]
    refine tkA 1 (v := ?_) ?_ ?_
    rotate_left
    · (intro w hSw; (try dsimp only at hSw); go_simp; try rfl)
    try simp only [Act.put, gA1, gA2, gA3, gA4, gA5, gA6]
    refine tkA 2 (v := ?_) ?_ ?_
    rotate_left
    · (intro w hSw; (try dsimp only at hSw); go_simp; try rfl)
    try simp only [Act.put, gA1, gA2, gA3, gA4, gA5, gA6]
    refine tkA 3 (v := ?_) ?_ ?_
    rotate_left
    · (intro w hSw; (try dsimp only at hSw); go_simp; try rfl)
    try simp only [Act.put, gA1, gA2, gA3, gA4, gA5, gA6]
    refine tkA 4 (v := ?_) ?_ ?_
    rotate_left
    · (intro w hSw; (try dsimp only at hSw); go_simp; try rfl)
    try simp only [Act.put, gA1, gA2, gA3, gA4, gA5, gA6]
    refine tkA 5 (v := ?_) ?_ ?_
    rotate_left
    · (intro w hSw; (try dsimp only at hSw); go_simp; try rfl)
    try simp only [Act.put, gA1, gA2, gA3, gA4, gA5, gA6]
    refine tkA 6 (v := ?_) ?_ ?_
    rotate_left
    · (intro w hSw; (try dsimp only at hSw); go_simp; try rfl)
    try simp only [Act.put, gA1, gA2, gA3, gA4, gA5, gA6]
    refine wpAnyH_ready (rs := [7]) (by kernel_rfl) (by simp) ?_
    refine (AllReadyH.cons rfl (fun K hK => ?_) AllReadyH.nil)
    go_simp
    refine hK.out _ _ ?_ (fun hHeld => ?_)
    · ((first
      | exact HK4.out _ (below_setRow (((Below.refl W.heap.size W).alloc (Nat.le_refl _) _).drew) (Nat.le_refl _) _)
      | exact HK4.out _ (((Below.refl W.heap.size W).alloc (Nat.le_refl _) _).drew)
      | exact HK4.out _ (below_setRow (((Below.refl W.heap.size W).drew).alloc (Nat.le_refl _) _) (Nat.le_refl _) _)
      | exact HK4.out _ (((Below.refl W.heap.size W).drew).alloc (Nat.le_refl _) _)
      | exact HK4.out _ (Below.refl W.heap.size W).drew
      | exact HK4.out _ (Below.refl _ _)
      | fail))
    clear hK K
    try simp only [Act.put, gA1, gA2, gA3, gA4, gA5, gA6]
    refine wpAnyH_ready (rs := [8]) (by kernel_rfl) (by simp) ?_
    refine (AllReadyH.cons rfl (fun K hK => ?_) AllReadyH.nil)
    have hZ : Bk ((W.alloc (.cells #[.int .i64 0, .int .i64 0, .int .i64 0, .int .i64 0, .int .i64 0, .int .i64 0, .int .i64 0, .int .i64 0, .string ⟨#[]⟩, .string ⟨#[]⟩, .int .i64 0, .int .i64 0, .int .i64 0, .int .i64 0, .slice none 0 0] 48)).drew) W.heap.size 48 [.int .i64 0, .int .i64 0, .int .i64 0, .int .i64 0, .int .i64 0, .int .i64 0, .int .i64 0, .int .i64 0, .string ⟨#[]⟩, .string ⟨#[]⟩, .int .i64 0, .int .i64 0, .int .i64 0, .int .i64 0, .slice none 0 0] := Bk.new W 48 [.int .i64 0, .int .i64 0, .int .i64 0, .int .i64 0, .int .i64 0, .int .i64 0, .int .i64 0, .int .i64 0, .string ⟨#[]⟩, .string ⟨#[]⟩, .int .i64 0, .int .i64 0, .int .i64 0, .int .i64 0, .slice none 0 0]
    refine step_store_rowA rfl 48 _ _ rfl W.heap.size rfl #[.int .i64 p0, .int .i64 p1, .int .i64 p2, .int .i64 p3, .int .i64 p4, .int .i64 p5, .int .i64 p6, .int .i64 p7, .string p8, .string p9, .int .i64 p10, .int .i64 p11, .int .i64 p12, .int .i64 ps, .slice pa P pk] rfl #[.int .i64 0, .int .i64 0, .int .i64 0, .int .i64 0, .int .i64 0, .int .i64 0, .int .i64 0, .int .i64 0, .string ⟨#[]⟩, .string ⟨#[]⟩, .int .i64 0, .int .i64 0, .int .i64 0, .int .i64 0, .slice none 0 0] 48 hZ infoIn rfl (all_toA (by rfl)) ?_
    refine hK.out _ _ ?_ (fun hHeld => ?_)
    · ((first
      | exact HK4.out _ (below_setRow (((Below.refl W.heap.size W).alloc (Nat.le_refl _) _).drew) (Nat.le_refl _) _)
      | exact HK4.out _ (((Below.refl W.heap.size W).alloc (Nat.le_refl _) _).drew)
      | exact HK4.out _ (below_setRow (((Below.refl W.heap.size W).drew).alloc (Nat.le_refl _) _) (Nat.le_refl _) _)
      | exact HK4.out _ (((Below.refl W.heap.size W).drew).alloc (Nat.le_refl _) _)
      | exact HK4.out _ (Below.refl W.heap.size W).drew
      | exact HK4.out _ (Below.refl _ _)
      | fail))
    clear hK K
    try simp only [Act.put, gA1, gA2, gA3, gA4, gA5, gA6]
    refine wpAnyH_done (by kernel_rfl) ?_ _
    go_split_ands
    clear HK4
    have hRY : Bk ((W.alloc (.cells #[.int .i64 0, .int .i64 0, .int .i64 0, .int .i64 0, .int .i64 0, .int .i64 0, .int .i64 0, .int .i64 0, .string ⟨#[]⟩, .string ⟨#[]⟩, .int .i64 0, .int .i64 0, .int .i64 0, .int .i64 0, .slice none 0 0] 48)).drew.setRow W.heap.size #[.int .i64 p0, .int .i64 p1, .int .i64 p2, .int .i64 p3, .int .i64 p4, .int .i64 p5, .int .i64 p6, .int .i64 p7, .string p8, .string p9, .int .i64 p10, .int .i64 p11, .int .i64 p12, .int .i64 ps, .slice pa P pk]) W.heap.size 48 [.int .i64 p0, .int .i64 p1, .int .i64 p2, .int .i64 p3, .int .i64 p4, .int .i64 p5, .int .i64 p6, .int .i64 p7, .string p8, .string p9, .int .i64 p10, .int .i64 p11, .int .i64 p12, .int .i64 ps, .slice pa P pk] := bk_setRowA hZ
    have hBY : Below W.heap.size W ((W.alloc (.cells #[.int .i64 0, .int .i64 0, .int .i64 0, .int .i64 0, .int .i64 0, .int .i64 0, .int .i64 0, .int .i64 0, .string ⟨#[]⟩, .string ⟨#[]⟩, .int .i64 0, .int .i64 0, .int .i64 0, .int .i64 0, .slice none 0 0] 48)).drew.setRow W.heap.size #[.int .i64 p0, .int .i64 p1, .int .i64 p2, .int .i64 p3, .int .i64 p4, .int .i64 p5, .int .i64 p6, .int .i64 p7, .string p8, .string p9, .int .i64 p10, .int .i64 p11, .int .i64 p12, .int .i64 ps, .slice pa P pk]) := below_setRow (((Below.refl W.heap.size W).alloc (Nat.le_refl _) _).drew) (Nat.le_refl _) _
    clear hZ
    generalize (W.alloc (.cells #[.int .i64 0, .int .i64 0, .int .i64 0, .int .i64 0, .int .i64 0, .int .i64 0, .int .i64 0, .int .i64 0, .string ⟨#[]⟩, .string ⟨#[]⟩, .int .i64 0, .int .i64 0, .int .i64 0, .int .i64 0, .slice none 0 0] 48)).drew.setRow W.heap.size #[.int .i64 p0, .int .i64 p1, .int .i64 p2, .int .i64 p3, .int .i64 p4, .int .i64 p5, .int .i64 p6, .int .i64 p7, .string p8, .string p9, .int .i64 p10, .int .i64 p11, .int .i64 p12, .int .i64 ps, .slice pa P pk] = Y at *
    have HBY : Hid (Below w.heap.size w Y) := Lib.hid (HBW.out.trans (hBY.mono HBW.out.size))
    have HRY := Lib.hid hRY
    have HMY := Lib.hid (HMW.out.below hBY)
    have HIB : Hid (W.heap.size < Y.heap.size) := Lib.hid hRY.lt
    have HBkY := Lib.hid (H.out.below HBY.out)
    have HMVY := Lib.hid (HMV.out.below HBY.out)
    have HAVY := Lib.hid (HAV.out.on HBY.out)
    obtain ⟨IB, hIB⟩ : ∃ q, W.heap.size = q := ⟨_, rfl⟩
    rw [hIB] at hRY HRY HIB
    try rw [hIB]
    have k0 := HMY.out.cell 0
    have y0 := hRY.cell 0
    simp only [List.getElem?_cons_zero, List.getElem?_cons_succ] at k0 y0
    clear hIB hBY HBW HMW
    have HROW := Lib.hid (HROW0.out.below HBY.out)
    have HV := Lib.hid (bcommit_any HBkY.out HMVY.out ⟨p0, (p1, p2), (p3, p4), ⟨p5, p6, p7, p8, p9, p10, p11, p12⟩, (ps, pl)⟩ (.slice pa P pk) HROW.out.rd HDl.out HKK.out)
    simp only [inE] at HV
    clear hRY
    go_wp2_with (first
      | refine wpList_load_rowG rfl _ _ rfl w.heap.size rfl 54 _ (0, 0) _ HMY.out Tryz.underlying54 rfl (by kernel_rfl) ?_
      | refine wpList_load_rowG rfl _ _ rfl IB rfl 48 _ (0, 0) _ HRY.out Tryz.underlying48 rfl infoIn ?_
      | fail)
    refine HV.out.mono ?_
    rintro e w9 ⟨he, hq1, hq2⟩
    have HFin : Hid (HrP (hearB lclA b ⟨4, n1, n2, (n3, n4, n5), (n6, n7), ⟨n8, (n9, n10), (n11, n12), ⟨n13, n14, n15, n16, n17, n18, n19, n20⟩, (n21, dl)⟩, sn0⟩) B g mb K w e w9) := Lib.hid (by
      rw [hear_com lclA HRt.out rfl, HGET.out]
      exact HrP.from (Y := Y) ⟨_, he, hq1, hq2, .inl ⟨rfl, rfl⟩⟩ HBY.out)
    rw [he.out] at HFin ⊢
    clear he hq1 hq2
    go_wp2
    go_ret
    exact HFin.out
end Go.Proofs.YtchhcaoondfpiaaGreat
