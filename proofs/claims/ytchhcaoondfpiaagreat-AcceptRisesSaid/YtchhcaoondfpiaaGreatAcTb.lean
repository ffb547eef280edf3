/-
  Package accept: may a message be heard: the ways through Right.
-/
import Derived.Test.YtchhcaoondfpiaaGreatAcT
import Derived.BigQuiet
namespace Go.Proofs.YtchhcaoondfpiaaGreat
open Go.RowKit Go.Sort
open Go.WideMaps
set_option linter.unusedSimpArgs false
set_option linter.unusedVariables false
set_option maxRecDepth 100000

set_option maxHeartbeats 8000000 in
theorem right_5 {w : World} {B g mb K : Nat} {b : BSt} (h : BkAt w B g mb K b) (hn : b.ns.length ≤ 1000) {v : Value} {m : Mg} (hm : MgA w v m) (hl : m.ins.at'.2.length ≤ 10000) (q0 : (m.to == b.node) = true) (q1 : inB m.fr b.ns = true) (q2 : inB m.to b.ns = true) (q3 : vldI3 m.id = true) (q4 : (m.id.1 == b.ep) = true) (q5 : inB m.id.2.1 b.ns = false) : Calls Tryz.prog 15 #[bP g, v] w fun e w' => e = .returned (.bool false) ∧ Below w.heap.size w w' := by
  have HMV := Lib.hid hm
  obtain ⟨ua, uc, a1, d1, c1, a2, d2, c2, a3, d3, c3, rfl, hrd, hokl, hid⟩ := hm
  obtain ⟨n0, n1, n2, ⟨n3, n4, n5⟩, ⟨n6, n7⟩, ⟨n8, ⟨n9, n10⟩, ⟨n11, n12⟩, ⟨n13, n14, n15, n16, n17, n18, n19, n20⟩, n21, dl⟩, sn0⟩ := m
  obtain ⟨n23, sn1⟩ : ∃ q, sn0.1.1 = q := ⟨_, rfl⟩
  obtain ⟨M, hM⟩ : ∃ M, dl.length = M := ⟨_, rfl⟩
  have HMl := Lib.hid hM
  simp only at hrd hokl hid
  simp only [msE, inE, snV, hM, sn1, List.cons_append, List.nil_append] at hrd HMV ⊢
  clear hM sn1
  simp only at hl q0 q1 q2 q3 q4 q5
  obtain ⟨X, hX⟩ : ∃ X, (w.alloc (.cells #[bP g] 28)).alloc (.cells #[.int .i64 n0, .int .i64 n1, .int .i64 n2, .int .i64 n3, .int .i64 n4, .int .i64 n5, .int .i64 n6, .int .i64 n7, .int .i64 n8, .int .i64 n9, .int .i64 n10, .int .i64 n11, .int .i64 n12, .int .i64 n13, .int .i64 n14, .int .i64 n15, .string n16, .string n17, .int .i64 n18, .int .i64 n19, .int .i64 n20, .int .i64 n21, .slice ua M uc, .int .i64 n23, .slice a1 d1 c1, .slice a2 d2 c2, .slice a3 d3 c3] 54) = X := ⟨_, rfl⟩
  have hBX : Below w.heap.size w X := by rw [← hX]; exact ((Below.refl _ _).alloc (Nat.le_refl _) _).alloc (by simp) _
  have hPX : Bk X w.heap.size 28 [bP g] := by rw [← hX]; exact (Bk.new w _ _).old _
  have hMX : Bk X (w.heap.size + 1) 54 [.int .i64 n0, .int .i64 n1, .int .i64 n2, .int .i64 n3, .int .i64 n4, .int .i64 n5, .int .i64 n6, .int .i64 n7, .int .i64 n8, .int .i64 n9, .int .i64 n10, .int .i64 n11, .int .i64 n12, .int .i64 n13, .int .i64 n14, .int .i64 n15, .string n16, .string n17, .int .i64 n18, .int .i64 n19, .int .i64 n20, .int .i64 n21, .slice ua M uc, .int .i64 n23, .slice a1 d1 c1, .slice a2 d2 c2, .slice a3 d3 c3] := by rw [← hX]; exact Bk.newA (by simp) _ [.int .i64 n0, .int .i64 n1, .int .i64 n2, .int .i64 n3, .int .i64 n4, .int .i64 n5, .int .i64 n6, .int .i64 n7, .int .i64 n8, .int .i64 n9, .int .i64 n10, .int .i64 n11, .int .i64 n12, .int .i64 n13, .int .i64 n14, .int .i64 n15, .string n16, .string n17, .int .i64 n18, .int .i64 n19, .int .i64 n20, .int .i64 n21, .slice ua M uc, .int .i64 n23, .slice a1 d1 c1, .slice a2 d2 c2, .slice a3 d3 c3]
  have hBk := h.below hBX
  have HBX := Lib.hid hBX
  have HKP : Hid (∀ w', Below X.heap.size X w' → RtS w.heap.size g b.node b.ep [.int .i64 n0, .int .i64 n1, .int .i64 n2, .int .i64 n3, .int .i64 n4, .int .i64 n5, .int .i64 n6, .int .i64 n7, .int .i64 n8, .int .i64 n9, .int .i64 n10, .int .i64 n11, .int .i64 n12, .int .i64 n13, .int .i64 n14, .int .i64 n15, .string n16, .string n17, .int .i64 n18, .int .i64 n19, .int .i64 n20, .int .i64 n21, .slice ua M uc, .int .i64 n23, .slice a1 d1 c1, .slice a2 d2 c2, .slice a3 d3 c3] w') := Lib.hid fun w' hb => by
    have h2 := hBk.below hb
    obtain ⟨vn, h3, _⟩ := h2.box
    exact ⟨hMX.below hb, (hPX.below hb).cell 0, h3.cell 0, h3.cell 1⟩
  have HC11 : Hid (∀ w', Below X.heap.size X w' → Calls Tryz.prog 38 #[.int .i64 n1, .pointer (some ⟨w.heap.size, 0, none⟩)] w' (fun e w'' => e = .returned (.bool true) ∧ Below w'.heap.size w' w'')) := Lib.hid fun w' hb => by
    have q := member_any (hBk.below hb) ((hPX.below hb).cell 0) hn n1
    rw [q1] at q
    exact q
  have HC17 : Hid (∀ w', Below X.heap.size X w' → Calls Tryz.prog 38 #[.int .i64 n2, .pointer (some ⟨w.heap.size, 0, none⟩)] w' (fun e w'' => e = .returned (.bool true) ∧ Below w'.heap.size w' w'')) := Lib.hid fun w' hb => by
    have q := member_any (hBk.below hb) ((hPX.below hb).cell 0) hn n2
    rw [q2] at q
    exact q
  have HC22 : Hid (∀ w', Below X.heap.size X w' → Calls Tryz.prog 40 #[.agg #[.int .i64 n3, .int .i64 n4, .int .i64 n5]] w' (fun e w'' => e = .returned (.bool true) ∧ Below w'.heap.size w' w'')) := Lib.hid fun w' hb => by
    have q := valid_any n3 n4 n5 w'
    rw [← vldI3_eq, q3] at q
    exact q.mono fun e w'' ⟨e1, e2⟩ => ⟨e1, e2.below⟩
  have HC40 : Hid (∀ w', Below X.heap.size X w' → Calls Tryz.prog 38 #[.int .i64 n4, .pointer (some ⟨w.heap.size, 0, none⟩)] w' (fun e w'' => e = .returned (.bool false) ∧ Below w'.heap.size w' w'')) := Lib.hid fun w' hb => by
    have q := member_any (hBk.below hb) ((hPX.below hb).cell 0) hn n4
    rw [q5] at q
    exact q
  obtain ⟨nd, hnd⟩ : ∃ n, b.node = n := ⟨_, rfl⟩
  obtain ⟨ep, hep⟩ : ∃ n, b.ep = n := ⟨_, rfl⟩
  rw [hnd, hep] at HKP
  rw [hnd] at q0
  rw [hep] at q4
  clear h hBk hPX hMX hBX hl hn hrd hokl hid hnd hep q1 q2 q3 q5
  go_enter Tryz.func15, Tryz.ntmps15
  go_wp2_with fail
  try rw [hX]
  clear hX
  refine wp_region_held_drew (S := (RtS w.heap.size g nd ep [.int .i64 n0, .int .i64 n1, .int .i64 n2, .int .i64 n3, .int .i64 n4, .int .i64 n5, .int .i64 n6, .int .i64 n7, .int .i64 n8, .int .i64 n9, .int .i64 n10, .int .i64 n11, .int .i64 n12, .int .i64 n13, .int .i64 n14, .int .i64 n15, .string n16, .string n17, .int .i64 n18, .int .i64 n19, .int .i64 n20, .int .i64 n21, .slice ua M uc, .int .i64 n23, .slice a1 d1 c1, .slice a2 d2 c2, .slice a3 d3 c3])) (by kernel_rfl) ?_ (fun hHeld => ?_)
  · ((first
    | exact HKP.out _ hb59
    | exact HKP.out _ hb51
    | exact HKP.out _ hb45
    | exact HKP.out _ hb40
    | exact HKP.out _ hb22
    | exact HKP.out _ hb17
    | exact HKP.out _ hb11
    | exact HKP.out _ (Below.refl X.heap.size X).drew
    | exact HKP.out _ (Below.refl _ _)
    | fail))
  refine tkA 0 (v := ?_) ?_ ?_
  rotate_left
  · (intro w' hSw; clear hSw; go_simp; try rfl)
  try simp only [Act.put, gA1, gA2, gA3, gA4, gA5, gA6]
  refine tkA 1 (v := ?_) ?_ ?_
  rotate_left
  · (intro w' hSw; have e2 := Bk.cell hSw.ms 2; simp only [List.getElem?_cons_zero, List.getElem?_cons_succ] at e2; clear hSw; go_simp; try rfl)
  try simp only [Act.put, gA1, gA2, gA3, gA4, gA5, gA6]
  refine tkA 2 (v := ?_) ?_ ?_
  rotate_left
  · (intro w' hSw; have e0 := hSw.bx; clear hSw; go_simp; try rfl)
  try simp only [Act.put, gA1, gA2, gA3, gA4, gA5, gA6]
  refine tkA 3 (v := ?_) ?_ ?_
  rotate_left
  · (intro w' hSw; clear hSw; go_simp; try rfl)
  try simp only [Act.put, gA1, gA2, gA3, gA4, gA5, gA6]
  refine tkA 4 (v := ?_) ?_ ?_
  rotate_left
  · (intro w' hSw; clear hSw; go_simp; try rfl)
  try simp only [Act.put, gA1, gA2, gA3, gA4, gA5, gA6]
  refine tkA 5 (v := ?_) ?_ ?_
  rotate_left
  · (intro w' hSw; have e0 := hSw.nd; clear hSw; go_simp; try rfl)
  try simp only [Act.put, gA1, gA2, gA3, gA4, gA5, gA6]
  refine tkA 6 (v := ?_) ?_ ?_
  rotate_left
  · (intro w' hSw; clear hSw; go_simp; try rfl)
  try simp only [Act.put, gA1, gA2, gA3, gA4, gA5, gA6]
  refine tkA 7 (v := ?_) ?_ ?_
  rotate_left
  · (intro w' hSw; clear hSw; go_simp; try rfl)
  try simp only [Act.put, gA1, gA2, gA3, gA4, gA5, gA6]
  refine tkA 8 (v := ?_) ?_ ?_
  rotate_left
  · (intro w' hSw; clear hSw; go_simp; try rfl)
  try simp only [Act.put, gA1, gA2, gA3, gA4, gA5, gA6]
  refine tkA 9 (v := ?_) ?_ ?_
  rotate_left
  · (intro w' hSw; clear hSw; go_simp; try rfl)
  try simp only [Act.put, gA1, gA2, gA3, gA4, gA5, gA6]
  refine tkA 10 (v := ?_) ?_ ?_
  rotate_left
  · (intro w' hSw; have e1 := Bk.cell hSw.ms 1; simp only [List.getElem?_cons_zero, List.getElem?_cons_succ] at e1; clear hSw; go_simp; try rfl)
  try simp only [Act.put, gA1, gA2, gA3, gA4, gA5, gA6]
  refine wpAnyH_ready (rs := [11]) (by kernel_rfl) (by simp) ?_
  refine (AllReadyH.cons rfl (fun K hK => ?_) AllReadyH.nil)
  go_simp
  (go_at_call 38; refine (HC11.out _ (Below.refl X.heap.size X).drew).mono ?_; rintro e w11 ⟨rfl, hbq⟩; have hb11 : Below X.heap.size X w11 := (Below.refl X.heap.size X).drew.trans (hbq.mono (Below.refl X.heap.size X).drew.size); clear hbq)
  refine hK.out _ _ ?_ (fun hHeld => ?_)
  · ((first
    | exact HKP.out _ hb59
    | exact HKP.out _ hb51
    | exact HKP.out _ hb45
    | exact HKP.out _ hb40
    | exact HKP.out _ hb22
    | exact HKP.out _ hb17
    | exact HKP.out _ hb11
    | exact HKP.out _ (Below.refl X.heap.size X).drew
    | exact HKP.out _ (Below.refl _ _)
    | fail))
  clear hK K
  try simp only [Act.put, gA1, gA2, gA3, gA4, gA5, gA6]
  refine tkA 12 (v := ?_) ?_ ?_
  rotate_left
  · (intro w' hSw; clear hSw; go_simp; try rfl)
  try simp only [Act.put, gA1, gA2, gA3, gA4, gA5, gA6]
  refine tkA 13 (v := ?_) ?_ ?_
  rotate_left
  · (intro w' hSw; clear hSw; go_simp; try rfl)
  try simp only [Act.put, gA1, gA2, gA3, gA4, gA5, gA6]
  refine tkA 14 (v := ?_) ?_ ?_
  rotate_left
  · (intro w' hSw; clear hSw; go_simp; try rfl)
  try simp only [Act.put, gA1, gA2, gA3, gA4, gA5, gA6]
  refine tkA 15 (v := ?_) ?_ ?_
  rotate_left
  · (intro w' hSw; clear hSw; go_simp; try rfl)
  try simp only [Act.put, gA1, gA2, gA3, gA4, gA5, gA6]
  refine tkA 16 (v := ?_) ?_ ?_
  rotate_left
  · (intro w' hSw; have e2 := Bk.cell hSw.ms 2; simp only [List.getElem?_cons_zero, List.getElem?_cons_succ] at e2; clear hSw; go_simp; try rfl)
  try simp only [Act.put, gA1, gA2, gA3, gA4, gA5, gA6]
  refine wpAnyH_ready (rs := [17]) (by kernel_rfl) (by simp) ?_
  refine (AllReadyH.cons rfl (fun K hK => ?_) AllReadyH.nil)
  go_simp
  (go_at_call 38; refine (HC17.out _ hb11).mono ?_; rintro e w17 ⟨rfl, hbq⟩; have hb17 : Below X.heap.size X w17 := hb11.trans (hbq.mono hb11.size); clear hbq)
  refine hK.out _ _ ?_ (fun hHeld => ?_)
  · ((first
    | exact HKP.out _ hb59
    | exact HKP.out _ hb51
    | exact HKP.out _ hb45
    | exact HKP.out _ hb40
    | exact HKP.out _ hb22
    | exact HKP.out _ hb17
    | exact HKP.out _ hb11
    | exact HKP.out _ (Below.refl X.heap.size X).drew
    | exact HKP.out _ (Below.refl _ _)
    | fail))
  clear hK K
  try simp only [Act.put, gA1, gA2, gA3, gA4, gA5, gA6]
  refine tkA 18 (v := ?_) ?_ ?_
  rotate_left
  · (intro w' hSw; clear hSw; go_simp; try rfl)
  try simp only [Act.put, gA1, gA2, gA3, gA4, gA5, gA6]
  refine tkA 19 (v := ?_) ?_ ?_
  rotate_left
  · (intro w' hSw; clear hSw; go_simp; try rfl)
  try simp only [Act.put, gA1, gA2, gA3, gA4, gA5, gA6]
  refine tkA 20 (v := ?_) ?_ ?_
  rotate_left
  · (intro w' hSw; clear hSw; go_simp; try rfl)
  try simp only [Act.put, gA1, gA2, gA3, gA4, gA5, gA6]
  refine tkA 21 (v := ?_) ?_ ?_
  rotate_left
  · (intro w' hSw; have e3 := Bk.cell hSw.ms 3; have e4 := Bk.cell hSw.ms 4; have e5 := Bk.cell hSw.ms 5; simp only [List.getElem?_cons_zero, List.getElem?_cons_succ] at e3 e4 e5; clear hSw; go_simp; try rfl)
  try simp only [Act.put, gA1, gA2, gA3, gA4, gA5, gA6]
  refine wpAnyH_ready (rs := [22]) (by kernel_rfl) (by simp) ?_
  refine (AllReadyH.cons rfl (fun K hK => ?_) AllReadyH.nil)
  go_simp
  (go_at_call 40; refine (HC22.out _ hb17).mono ?_; rintro e w22 ⟨rfl, hbq⟩; have hb22 : Below X.heap.size X w22 := hb17.trans (hbq.mono hb17.size); clear hbq)
  refine hK.out _ _ ?_ (fun hHeld => ?_)
  · ((first
    | exact HKP.out _ hb59
    | exact HKP.out _ hb51
    | exact HKP.out _ hb45
    | exact HKP.out _ hb40
    | exact HKP.out _ hb22
    | exact HKP.out _ hb17
    | exact HKP.out _ hb11
    | exact HKP.out _ (Below.refl X.heap.size X).drew
    | exact HKP.out _ (Below.refl _ _)
    | fail))
  clear hK K
  try simp only [Act.put, gA1, gA2, gA3, gA4, gA5, gA6]
  refine tkA 23 (v := ?_) ?_ ?_
  rotate_left
  · (intro w' hSw; clear hSw; go_simp; try rfl)
  try simp only [Act.put, gA1, gA2, gA3, gA4, gA5, gA6]
  refine tkA 24 (v := ?_) ?_ ?_
  rotate_left
  · (intro w' hSw; clear hSw; go_simp; try rfl)
  try simp only [Act.put, gA1, gA2, gA3, gA4, gA5, gA6]
  refine tkA 25 (v := ?_) ?_ ?_
  rotate_left
  · (intro w' hSw; clear hSw; go_simp; try rfl)
  try simp only [Act.put, gA1, gA2, gA3, gA4, gA5, gA6]
  refine tkA 26 (v := ?_) ?_ ?_
  rotate_left
  · (intro w' hSw; clear hSw; go_simp; try rfl)
  try simp only [Act.put, gA1, gA2, gA3, gA4, gA5, gA6]
  refine tkA 27 (v := ?_) ?_ ?_
  rotate_left
  · (intro w' hSw; have e3 := Bk.cell hSw.ms 3; simp only [List.getElem?_cons_zero, List.getElem?_cons_succ] at e3; clear hSw; go_simp; try rfl)
  try simp only [Act.put, gA1, gA2, gA3, gA4, gA5, gA6]
  refine tkA 28 (v := ?_) ?_ ?_
  rotate_left
  · (intro w' hSw; have e0 := hSw.bx; clear hSw; go_simp; try rfl)
  try simp only [Act.put, gA1, gA2, gA3, gA4, gA5, gA6]
  refine tkA 29 (v := ?_) ?_ ?_
  rotate_left
  · (intro w' hSw; clear hSw; go_simp; try rfl)
  try simp only [Act.put, gA1, gA2, gA3, gA4, gA5, gA6]
  refine tkA 30 (v := ?_) ?_ ?_
  rotate_left
  · (intro w' hSw; clear hSw; go_simp; try rfl)
  try simp only [Act.put, gA1, gA2, gA3, gA4, gA5, gA6]
  refine tkA 31 (v := ?_) ?_ ?_
  rotate_left
  · (intro w' hSw; clear hSw; go_simp; try rfl)
  try simp only [Act.put, gA1, gA2, gA3, gA4, gA5, gA6]
  refine tkA 32 (v := ?_) ?_ ?_
  rotate_left
  · (intro w' hSw; have e0 := hSw.ep; clear hSw; go_simp; try rfl)
  try simp only [Act.put, gA1, gA2, gA3, gA4, gA5, gA6]
  refine tkA 33 (v := ?_) ?_ ?_
  rotate_left
  · (intro w' hSw; clear hSw; go_simp; try rfl)
  try simp only [Act.put, gA1, gA2, gA3, gA4, gA5, gA6]
  refine tkA 34 (v := ?_) ?_ ?_
  rotate_left
  · (intro w' hSw; clear hSw; go_simp; try rfl)
  try simp only [Act.put, gA1, gA2, gA3, gA4, gA5, gA6]
  refine tkA 35 (v := ?_) ?_ ?_
  rotate_left
  · (intro w' hSw; clear hSw; go_simp; try rfl)
  try simp only [Act.put, gA1, gA2, gA3, gA4, gA5, gA6]
  refine tkA 36 (v := ?_) ?_ ?_
  rotate_left
  · (intro w' hSw; clear hSw; go_simp; try rfl)
  try simp only [Act.put, gA1, gA2, gA3, gA4, gA5, gA6]
  refine tkA 37 (v := ?_) ?_ ?_
  rotate_left
  · (intro w' hSw; clear hSw; go_simp; try rfl)
  try simp only [Act.put, gA1, gA2, gA3, gA4, gA5, gA6]
  refine tkA 38 (v := ?_) ?_ ?_
  rotate_left
  · (intro w' hSw; clear hSw; go_simp; try rfl)
  try simp only [Act.put, gA1, gA2, gA3, gA4, gA5, gA6]
  refine tkA 39 (v := ?_) ?_ ?_
  rotate_left
  · (intro w' hSw; have e4 := Bk.cell hSw.ms 4; simp only [List.getElem?_cons_zero, List.getElem?_cons_succ] at e4; clear hSw; go_simp; try rfl)
  try simp only [Act.put, gA1, gA2, gA3, gA4, gA5, gA6]
  refine wpAnyH_ready (rs := [40]) (by kernel_rfl) (by simp) ?_
  refine (AllReadyH.cons rfl (fun K hK => ?_) AllReadyH.nil)
  go_simp
  (go_at_call 38; refine (HC40.out _ hb22).mono ?_; rintro e w40 ⟨rfl, hbq⟩; have hb40 : Below X.heap.size X w40 := hb22.trans (hbq.mono hb22.size); clear hbq)
  refine hK.out _ _ ?_ (fun hHeld => ?_)
  · ((first
    | exact HKP.out _ hb59
    | exact HKP.out _ hb51
    | exact HKP.out _ hb45
    | exact HKP.out _ hb40
    | exact HKP.out _ hb22
    | exact HKP.out _ hb17
    | exact HKP.out _ hb11
    | exact HKP.out _ (Below.refl X.heap.size X).drew
    | exact HKP.out _ (Below.refl _ _)
    | fail))
  clear hK K
  try simp only [Act.put, gA1, gA2, gA3, gA4, gA5, gA6]
  refine tkA 41 (v := ?_) ?_ ?_
  rotate_left
  · (intro w' hSw; clear hSw; go_simp; try rfl)
  try simp only [Act.put, gA1, gA2, gA3, gA4, gA5, gA6]
  refine tkA 42 (v := ?_) ?_ ?_
  rotate_left
  · (intro w' hSw; clear hSw; go_simp; try rfl)
  try simp only [Act.put, gA1, gA2, gA3, gA4, gA5, gA6]
  refine utA 43 ?_
  try simp only [Act.put, gA1, gA2, gA3, gA4, gA5, gA6]
  refine utA 44 ?_
  try simp only [Act.put, gA1, gA2, gA3, gA4, gA5, gA6]
  refine utA 45 ?_
  try simp only [Act.put, gA1, gA2, gA3, gA4, gA5, gA6]
  refine tkA 46 (v := ?_) ?_ ?_
  rotate_left
  · (intro w' hSw; clear hSw; go_simp; try rfl)
  try simp only [Act.put, gA1, gA2, gA3, gA4, gA5, gA6]
  refine tkA 47 (v := ?_) ?_ ?_
  rotate_left
  · (intro w' hSw; clear hSw; go_simp; try rfl)
  try simp only [Act.put, gA1, gA2, gA3, gA4, gA5, gA6]
  refine utA 48 ?_
  try simp only [Act.put, gA1, gA2, gA3, gA4, gA5, gA6]
  refine utA 49 ?_
  try simp only [Act.put, gA1, gA2, gA3, gA4, gA5, gA6]
  refine utA 50 ?_
  try simp only [Act.put, gA1, gA2, gA3, gA4, gA5, gA6]
  refine utA 51 ?_
  try simp only [Act.put, gA1, gA2, gA3, gA4, gA5, gA6]
  refine tkA 52 (v := ?_) ?_ ?_
  rotate_left
  · (intro w' hSw; clear hSw; go_simp; try rfl)
  try simp only [Act.put, gA1, gA2, gA3, gA4, gA5, gA6]
  refine tkA 53 (v := ?_) ?_ ?_
  rotate_left
  · (intro w' hSw; clear hSw; go_simp; try rfl)
  try simp only [Act.put, gA1, gA2, gA3, gA4, gA5, gA6]
  refine utA 54 ?_
  try simp only [Act.put, gA1, gA2, gA3, gA4, gA5, gA6]
  refine utA 55 ?_
  try simp only [Act.put, gA1, gA2, gA3, gA4, gA5, gA6]
  refine utA 56 ?_
  try simp only [Act.put, gA1, gA2, gA3, gA4, gA5, gA6]
  refine utA 57 ?_
  try simp only [Act.put, gA1, gA2, gA3, gA4, gA5, gA6]
  refine utA 58 ?_
  try simp only [Act.put, gA1, gA2, gA3, gA4, gA5, gA6]
  refine utA 59 ?_
  try simp only [Act.put, gA1, gA2, gA3, gA4, gA5, gA6]
  refine tkA 60 (v := ?_) ?_ ?_
  rotate_left
  · (intro w' hSw; clear hSw; go_simp; try rfl)
  try simp only [Act.put, gA1, gA2, gA3, gA4, gA5, gA6]
  refine tkA 61 (v := ?_) ?_ ?_
  rotate_left
  · (intro w' hSw; clear hSw; go_simp; try rfl)
  try simp only [Act.put, gA1, gA2, gA3, gA4, gA5, gA6]
  refine wpAnyH_done (by kernel_rfl) ?_ _
  go_split_ands
  clear HKP
  go_wp2
  go_ret
  exact ⟨rfl, HBX.out.trans (hb40.mono HBX.out.size)⟩
set_option maxHeartbeats 8000000 in
theorem right_6 {w : World} {B g mb K : Nat} {b : BSt} (h : BkAt w B g mb K b) (hn : b.ns.length ≤ 1000) {v : Value} {m : Mg} (hm : MgA w v m) (hl : m.ins.at'.2.length ≤ 10000) (q0 : (m.to == b.node) = true) (q1 : inB m.fr b.ns = true) (q2 : inB m.to b.ns = true) (q3 : vldI3 m.id = true) (q4 : (m.id.1 == b.ep) = true) (q5 : inB m.id.2.1 b.ns = true) (q6 : Bb.vaB m.bal.1 m.bal.2 = false) : Calls Tryz.prog 15 #[bP g, v] w fun e w' => e = .returned (.bool false) ∧ Below w.heap.size w w' := by
  have HMV := Lib.hid hm
  obtain ⟨ua, uc, a1, d1, c1, a2, d2, c2, a3, d3, c3, rfl, hrd, hokl, hid⟩ := hm
  obtain ⟨n0, n1, n2, ⟨n3, n4, n5⟩, ⟨n6, n7⟩, ⟨n8, ⟨n9, n10⟩, ⟨n11, n12⟩, ⟨n13, n14, n15, n16, n17, n18, n19, n20⟩, n21, dl⟩, sn0⟩ := m
  obtain ⟨n23, sn1⟩ : ∃ q, sn0.1.1 = q := ⟨_, rfl⟩
  obtain ⟨M, hM⟩ : ∃ M, dl.length = M := ⟨_, rfl⟩
  have HMl := Lib.hid hM
  simp only at hrd hokl hid
  simp only [msE, inE, snV, hM, sn1, List.cons_append, List.nil_append] at hrd HMV ⊢
  clear hM sn1
  simp only at hl q0 q1 q2 q3 q4 q5 q6
  obtain ⟨X, hX⟩ : ∃ X, (w.alloc (.cells #[bP g] 28)).alloc (.cells #[.int .i64 n0, .int .i64 n1, .int .i64 n2, .int .i64 n3, .int .i64 n4, .int .i64 n5, .int .i64 n6, .int .i64 n7, .int .i64 n8, .int .i64 n9, .int .i64 n10, .int .i64 n11, .int .i64 n12, .int .i64 n13, .int .i64 n14, .int .i64 n15, .string n16, .string n17, .int .i64 n18, .int .i64 n19, .int .i64 n20, .int .i64 n21, .slice ua M uc, .int .i64 n23, .slice a1 d1 c1, .slice a2 d2 c2, .slice a3 d3 c3] 54) = X := ⟨_, rfl⟩
  have hBX : Below w.heap.size w X := by rw [← hX]; exact ((Below.refl _ _).alloc (Nat.le_refl _) _).alloc (by simp) _
  have hPX : Bk X w.heap.size 28 [bP g] := by rw [← hX]; exact (Bk.new w _ _).old _
  have hMX : Bk X (w.heap.size + 1) 54 [.int .i64 n0, .int .i64 n1, .int .i64 n2, .int .i64 n3, .int .i64 n4, .int .i64 n5, .int .i64 n6, .int .i64 n7, .int .i64 n8, .int .i64 n9, .int .i64 n10, .int .i64 n11, .int .i64 n12, .int .i64 n13, .int .i64 n14, .int .i64 n15, .string n16, .string n17, .int .i64 n18, .int .i64 n19, .int .i64 n20, .int .i64 n21, .slice ua M uc, .int .i64 n23, .slice a1 d1 c1, .slice a2 d2 c2, .slice a3 d3 c3] := by rw [← hX]; exact Bk.newA (by simp) _ [.int .i64 n0, .int .i64 n1, .int .i64 n2, .int .i64 n3, .int .i64 n4, .int .i64 n5, .int .i64 n6, .int .i64 n7, .int .i64 n8, .int .i64 n9, .int .i64 n10, .int .i64 n11, .int .i64 n12, .int .i64 n13, .int .i64 n14, .int .i64 n15, .string n16, .string n17, .int .i64 n18, .int .i64 n19, .int .i64 n20, .int .i64 n21, .slice ua M uc, .int .i64 n23, .slice a1 d1 c1, .slice a2 d2 c2, .slice a3 d3 c3]
  have hBk := h.below hBX
  have HBX := Lib.hid hBX
  have HKP : Hid (∀ w', Below X.heap.size X w' → RtS w.heap.size g b.node b.ep [.int .i64 n0, .int .i64 n1, .int .i64 n2, .int .i64 n3, .int .i64 n4, .int .i64 n5, .int .i64 n6, .int .i64 n7, .int .i64 n8, .int .i64 n9, .int .i64 n10, .int .i64 n11, .int .i64 n12, .int .i64 n13, .int .i64 n14, .int .i64 n15, .string n16, .string n17, .int .i64 n18, .int .i64 n19, .int .i64 n20, .int .i64 n21, .slice ua M uc, .int .i64 n23, .slice a1 d1 c1, .slice a2 d2 c2, .slice a3 d3 c3] w') := Lib.hid fun w' hb => by
    have h2 := hBk.below hb
    obtain ⟨vn, h3, _⟩ := h2.box
    exact ⟨hMX.below hb, (hPX.below hb).cell 0, h3.cell 0, h3.cell 1⟩
  have HC11 : Hid (∀ w', Below X.heap.size X w' → Calls Tryz.prog 38 #[.int .i64 n1, .pointer (some ⟨w.heap.size, 0, none⟩)] w' (fun e w'' => e = .returned (.bool true) ∧ Below w'.heap.size w' w'')) := Lib.hid fun w' hb => by
    have q := member_any (hBk.below hb) ((hPX.below hb).cell 0) hn n1
    rw [q1] at q
    exact q
  have HC17 : Hid (∀ w', Below X.heap.size X w' → Calls Tryz.prog 38 #[.int .i64 n2, .pointer (some ⟨w.heap.size, 0, none⟩)] w' (fun e w'' => e = .returned (.bool true) ∧ Below w'.heap.size w' w'')) := Lib.hid fun w' hb => by
    have q := member_any (hBk.below hb) ((hPX.below hb).cell 0) hn n2
    rw [q2] at q
    exact q
  have HC22 : Hid (∀ w', Below X.heap.size X w' → Calls Tryz.prog 40 #[.agg #[.int .i64 n3, .int .i64 n4, .int .i64 n5]] w' (fun e w'' => e = .returned (.bool true) ∧ Below w'.heap.size w' w'')) := Lib.hid fun w' hb => by
    have q := valid_any n3 n4 n5 w'
    rw [← vldI3_eq, q3] at q
    exact q.mono fun e w'' ⟨e1, e2⟩ => ⟨e1, e2.below⟩
  have HC40 : Hid (∀ w', Below X.heap.size X w' → Calls Tryz.prog 38 #[.int .i64 n4, .pointer (some ⟨w.heap.size, 0, none⟩)] w' (fun e w'' => e = .returned (.bool true) ∧ Below w'.heap.size w' w'')) := Lib.hid fun w' hb => by
    have q := member_any (hBk.below hb) ((hPX.below hb).cell 0) hn n4
    rw [q5] at q
    exact q
  have HC45 : Hid (∀ w', Below X.heap.size X w' → Calls Tryz.prog 41 #[.agg #[.int .i64 n6, .int .i64 n7]] w' (fun e w'' => e = .returned (.bool false) ∧ Below w'.heap.size w' w'')) := Lib.hid fun w' hb => by
    have q := Bb.valid_any n6 n7 w'
    rw [q6] at q
    exact q
  obtain ⟨nd, hnd⟩ : ∃ n, b.node = n := ⟨_, rfl⟩
  obtain ⟨ep, hep⟩ : ∃ n, b.ep = n := ⟨_, rfl⟩
  rw [hnd, hep] at HKP
  rw [hnd] at q0
  rw [hep] at q4
  clear h hBk hPX hMX hBX hl hn hrd hokl hid hnd hep q1 q2 q3 q5 q6
  go_enter Tryz.func15, Tryz.ntmps15
  go_wp2_with fail
  try rw [hX]
  clear hX
  refine wp_region_held_drew (S := (RtS w.heap.size g nd ep [.int .i64 n0, .int .i64 n1, .int .i64 n2, .int .i64 n3, .int .i64 n4, .int .i64 n5, .int .i64 n6, .int .i64 n7, .int .i64 n8, .int .i64 n9, .int .i64 n10, .int .i64 n11, .int .i64 n12, .int .i64 n13, .int .i64 n14, .int .i64 n15, .string n16, .string n17, .int .i64 n18, .int .i64 n19, .int .i64 n20, .int .i64 n21, .slice ua M uc, .int .i64 n23, .slice a1 d1 c1, .slice a2 d2 c2, .slice a3 d3 c3])) (by kernel_rfl) ?_ (fun hHeld => ?_)
  · ((first
    | exact HKP.out _ hb59
    | exact HKP.out _ hb51
    | exact HKP.out _ hb45
    | exact HKP.out _ hb40
    | exact HKP.out _ hb22
    | exact HKP.out _ hb17
    | exact HKP.out _ hb11
    | exact HKP.out _ (Below.refl X.heap.size X).drew
    | exact HKP.out _ (Below.refl _ _)
    | fail))
  refine tkA 0 (v := ?_) ?_ ?_
  rotate_left
  · (intro w' hSw; clear hSw; go_simp; try rfl)
  try simp only [Act.put, gA1, gA2, gA3, gA4, gA5, gA6]
  refine tkA 1 (v := ?_) ?_ ?_
  rotate_left
  · (intro w' hSw; have e2 := Bk.cell hSw.ms 2; simp only [List.getElem?_cons_zero, List.getElem?_cons_succ] at e2; clear hSw; go_simp; try rfl)
  try simp only [Act.put, gA1, gA2, gA3, gA4, gA5, gA6]
  refine tkA 2 (v := ?_) ?_ ?_
  rotate_left
  · (intro w' hSw; have e0 := hSw.bx; clear hSw; go_simp; try rfl)
  try simp only [Act.put, gA1, gA2, gA3, gA4, gA5, gA6]
  refine tkA 3 (v := ?_) ?_ ?_
  rotate_left
  · (intro w' hSw; clear hSw; go_simp; try rfl)
  try simp only [Act.put, gA1, gA2, gA3, gA4, gA5, gA6]
  refine tkA 4 (v := ?_) ?_ ?_
  rotate_left
  · (intro w' hSw; clear hSw; go_simp; try rfl)
  try simp only [Act.put, gA1, gA2, gA3, gA4, gA5, gA6]
  refine tkA 5 (v := ?_) ?_ ?_
  rotate_left
  · (intro w' hSw; have e0 := hSw.nd; clear hSw; go_simp; try rfl)
  try simp only [Act.put, gA1, gA2, gA3, gA4, gA5, gA6]
  refine tkA 6 (v := ?_) ?_ ?_
  rotate_left
  · (intro w' hSw; clear hSw; go_simp; try rfl)
  try simp only [Act.put, gA1, gA2, gA3, gA4, gA5, gA6]
  refine tkA 7 (v := ?_) ?_ ?_
  rotate_left
  · (intro w' hSw; clear hSw; go_simp; try rfl)
  try simp only [Act.put, gA1, gA2, gA3, gA4, gA5, gA6]
  refine tkA 8 (v := ?_) ?_ ?_
  rotate_left
  · (intro w' hSw; clear hSw; go_simp; try rfl)
  try simp only [Act.put, gA1, gA2, gA3, gA4, gA5, gA6]
  refine tkA 9 (v := ?_) ?_ ?_
  rotate_left
  · (intro w' hSw; clear hSw; go_simp; try rfl)
  try simp only [Act.put, gA1, gA2, gA3, gA4, gA5, gA6]
  refine tkA 10 (v := ?_) ?_ ?_
  rotate_left
  · (intro w' hSw; have e1 := Bk.cell hSw.ms 1; simp only [List.getElem?_cons_zero, List.getElem?_cons_succ] at e1; clear hSw; go_simp; try rfl)
  try simp only [Act.put, gA1, gA2, gA3, gA4, gA5, gA6]
  refine wpAnyH_ready (rs := [11]) (by kernel_rfl) (by simp) ?_
  refine (AllReadyH.cons rfl (fun K hK => ?_) AllReadyH.nil)
  go_simp
  (go_at_call 38; refine (HC11.out _ (Below.refl X.heap.size X).drew).mono ?_; rintro e w11 ⟨rfl, hbq⟩; have hb11 : Below X.heap.size X w11 := (Below.refl X.heap.size X).drew.trans (hbq.mono (Below.refl X.heap.size X).drew.size); clear hbq)
  refine hK.out _ _ ?_ (fun hHeld => ?_)
  · ((first
    | exact HKP.out _ hb59
    | exact HKP.out _ hb51
    | exact HKP.out _ hb45
    | exact HKP.out _ hb40
    | exact HKP.out _ hb22
    | exact HKP.out _ hb17
    | exact HKP.out _ hb11
    | exact HKP.out _ (Below.refl X.heap.size X).drew
    | exact HKP.out _ (Below.refl _ _)
    | fail))
  clear hK K
  try simp only [Act.put, gA1, gA2, gA3, gA4, gA5, gA6]
  refine tkA 12 (v := ?_) ?_ ?_
  rotate_left
  · (intro w' hSw; clear hSw; go_simp; try rfl)
  try simp only [Act.put, gA1, gA2, gA3, gA4, gA5, gA6]
  refine tkA 13 (v := ?_) ?_ ?_
  rotate_left
  · (intro w' hSw; clear hSw; go_simp; try rfl)
  try simp only [Act.put, gA1, gA2, gA3, gA4, gA5, gA6]
  refine tkA 14 (v := ?_) ?_ ?_
  rotate_left
  · (intro w' hSw; clear hSw; go_simp; try rfl)
  try simp only [Act.put, gA1, gA2, gA3, gA4, gA5, gA6]
  refine tkA 15 (v := ?_) ?_ ?_
  rotate_left
  · (intro w' hSw; clear hSw; go_simp; try rfl)
  try simp only [Act.put, gA1, gA2, gA3, gA4, gA5, gA6]
  refine tkA 16 (v := ?_) ?_ ?_
  rotate_left
  · (intro w' hSw; have e2 := Bk.cell hSw.ms 2; simp only [List.getElem?_cons_zero, List.getElem?_cons_succ] at e2; clear hSw; go_simp; try rfl)
  try simp only [Act.put, gA1, gA2, gA3, gA4, gA5, gA6]
  refine wpAnyH_ready (rs := [17]) (by kernel_rfl) (by simp) ?_
  refine (AllReadyH.cons rfl (fun K hK => ?_) AllReadyH.nil)
  go_simp
  (go_at_call 38; refine (HC17.out _ hb11).mono ?_; rintro e w17 ⟨rfl, hbq⟩; have hb17 : Below X.heap.size X w17 := hb11.trans (hbq.mono hb11.size); clear hbq)
  refine hK.out _ _ ?_ (fun hHeld => ?_)
  · ((first
    | exact HKP.out _ hb59
    | exact HKP.out _ hb51
    | exact HKP.out _ hb45
    | exact HKP.out _ hb40
    | exact HKP.out _ hb22
    | exact HKP.out _ hb17
    | exact HKP.out _ hb11
    | exact HKP.out _ (Below.refl X.heap.size X).drew
    | exact HKP.out _ (Below.refl _ _)
    | fail))
  clear hK K
  try simp only [Act.put, gA1, gA2, gA3, gA4, gA5, gA6]
  refine tkA 18 (v := ?_) ?_ ?_
  rotate_left
  · (intro w' hSw; clear hSw; go_simp; try rfl)
  try simp only [Act.put, gA1, gA2, gA3, gA4, gA5, gA6]
  refine tkA 19 (v := ?_) ?_ ?_
  rotate_left
  · (intro w' hSw; clear hSw; go_simp; try rfl)
  try simp only [Act.put, gA1, gA2, gA3, gA4, gA5, gA6]
  refine tkA 20 (v := ?_) ?_ ?_
  rotate_left
  · (intro w' hSw; clear hSw; go_simp; try rfl)
  try simp only [Act.put, gA1, gA2, gA3, gA4, gA5, gA6]
  refine tkA 21 (v := ?_) ?_ ?_
  rotate_left
  · (intro w' hSw; have e3 := Bk.cell hSw.ms 3; have e4 := Bk.cell hSw.ms 4; have e5 := Bk.cell hSw.ms 5; simp only [List.getElem?_cons_zero, List.getElem?_cons_succ] at e3 e4 e5; clear hSw; go_simp; try rfl)
  try simp only [Act.put, gA1, gA2, gA3, gA4, gA5, gA6]
  refine wpAnyH_ready (rs := [22]) (by kernel_rfl) (by simp) ?_
  refine (AllReadyH.cons rfl (fun K hK => ?_) AllReadyH.nil)
  go_simp
  (go_at_call 40; refine (HC22.out _ hb17).mono ?_; rintro e w22 ⟨rfl, hbq⟩; have hb22 : Below X.heap.size X w22 := hb17.trans (hbq.mono hb17.size); clear hbq)
  refine hK.out _ _ ?_ (fun hHeld => ?_)
  · ((first
    | exact HKP.out _ hb59
    | exact HKP.out _ hb51
    | exact HKP.out _ hb45
    | exact HKP.out _ hb40
    | exact HKP.out _ hb22
    | exact HKP.out _ hb17
    | exact HKP.out _ hb11
    | exact HKP.out _ (Below.refl X.heap.size X).drew
    | exact HKP.out _ (Below.refl _ _)
    | fail))
  clear hK K
  try simp only [Act.put, gA1, gA2, gA3, gA4, gA5, gA6]
  refine tkA 23 (v := ?_) ?_ ?_
  rotate_left
  · (intro w' hSw; clear hSw; go_simp; try rfl)
  try simp only [Act.put, gA1, gA2, gA3, gA4, gA5, gA6]
  refine tkA 24 (v := ?_) ?_ ?_
  rotate_left
  · (intro w' hSw; clear hSw; go_simp; try rfl)
  try simp only [Act.put, gA1, gA2, gA3, gA4, gA5, gA6]
  refine tkA 25 (v := ?_) ?_ ?_
  rotate_left
  · (intro w' hSw; clear hSw; go_simp; try rfl)
  try simp only [Act.put, gA1, gA2, gA3, gA4, gA5, gA6]
  refine tkA 26 (v := ?_) ?_ ?_
  rotate_left
  · (intro w' hSw; clear hSw; go_simp; try rfl)
  try simp only [Act.put, gA1, gA2, gA3, gA4, gA5, gA6]
  refine tkA 27 (v := ?_) ?_ ?_
  rotate_left
  · (intro w' hSw; have e3 := Bk.cell hSw.ms 3; simp only [List.getElem?_cons_zero, List.getElem?_cons_succ] at e3; clear hSw; go_simp; try rfl)
  try simp only [Act.put, gA1, gA2, gA3, gA4, gA5, gA6]
  refine tkA 28 (v := ?_) ?_ ?_
  rotate_left
  · (intro w' hSw; have e0 := hSw.bx; clear hSw; go_simp; try rfl)
  try simp only [Act.put, gA1, gA2, gA3, gA4, gA5, gA6]
  refine tkA 29 (v := ?_) ?_ ?_
  rotate_left
  · (intro w' hSw; clear hSw; go_simp; try rfl)
  try simp only [Act.put, gA1, gA2, gA3, gA4, gA5, gA6]
  refine tkA 30 (v := ?_) ?_ ?_
  rotate_left
  · (intro w' hSw; clear hSw; go_simp; try rfl)
  try simp only [Act.put, gA1, gA2, gA3, gA4, gA5, gA6]
  refine tkA 31 (v := ?_) ?_ ?_
  rotate_left
  · (intro w' hSw; clear hSw; go_simp; try rfl)
  try simp only [Act.put, gA1, gA2, gA3, gA4, gA5, gA6]
  refine tkA 32 (v := ?_) ?_ ?_
  rotate_left
  · (intro w' hSw; have e0 := hSw.ep; clear hSw; go_simp; try rfl)
  try simp only [Act.put, gA1, gA2, gA3, gA4, gA5, gA6]
  refine tkA 33 (v := ?_) ?_ ?_
  rotate_left
  · (intro w' hSw; clear hSw; go_simp; try rfl)
  try simp only [Act.put, gA1, gA2, gA3, gA4, gA5, gA6]
  refine tkA 34 (v := ?_) ?_ ?_
  rotate_left
  · (intro w' hSw; clear hSw; go_simp; try rfl)
  try simp only [Act.put, gA1, gA2, gA3, gA4, gA5, gA6]
  refine tkA 35 (v := ?_) ?_ ?_
  rotate_left
  · (intro w' hSw; clear hSw; go_simp; try rfl)
  try simp only [Act.put, gA1, gA2, gA3, gA4, gA5, gA6]
  refine tkA 36 (v := ?_) ?_ ?_
  rotate_left
  · (intro w' hSw; clear hSw; go_simp; try rfl)
  try simp only [Act.put, gA1, gA2, gA3, gA4, gA5, gA6]
  refine tkA 37 (v := ?_) ?_ ?_
  rotate_left
  · (intro w' hSw; clear hSw; go_simp; try rfl)
  try simp only [Act.put, gA1, gA2, gA3, gA4, gA5, gA6]
  refine tkA 38 (v := ?_) ?_ ?_
  rotate_left
  · (intro w' hSw; clear hSw; go_simp; try rfl)
  try simp only [Act.put, gA1, gA2, gA3, gA4, gA5, gA6]
  refine tkA 39 (v := ?_) ?_ ?_
  rotate_left
  · (intro w' hSw; have e4 := Bk.cell hSw.ms 4; simp only [List.getElem?_cons_zero, List.getElem?_cons_succ] at e4; clear hSw; go_simp; try rfl)
  try simp only [Act.put, gA1, gA2, gA3, gA4, gA5, gA6]
  refine wpAnyH_ready (rs := [40]) (by kernel_rfl) (by simp) ?_
  refine (AllReadyH.cons rfl (fun K hK => ?_) AllReadyH.nil)
  go_simp
  (go_at_call 38; refine (HC40.out _ hb22).mono ?_; rintro e w40 ⟨rfl, hbq⟩; have hb40 : Below X.heap.size X w40 := hb22.trans (hbq.mono hb22.size); clear hbq)
  refine hK.out _ _ ?_ (fun hHeld => ?_)
  · ((first
    | exact HKP.out _ hb59
    | exact HKP.out _ hb51
    | exact HKP.out _ hb45
    | exact HKP.out _ hb40
    | exact HKP.out _ hb22
    | exact HKP.out _ hb17
    | exact HKP.out _ hb11
    | exact HKP.out _ (Below.refl X.heap.size X).drew
    | exact HKP.out _ (Below.refl _ _)
    | fail))
  clear hK K
  try simp only [Act.put, gA1, gA2, gA3, gA4, gA5, gA6]
  refine tkA 41 (v := ?_) ?_ ?_
  rotate_left
  · (intro w' hSw; clear hSw; go_simp; try rfl)
  try simp only [Act.put, gA1, gA2, gA3, gA4, gA5, gA6]
  refine tkA 42 (v := ?_) ?_ ?_
  rotate_left
  · (intro w' hSw; clear hSw; go_simp; try rfl)
  try simp only [Act.put, gA1, gA2, gA3, gA4, gA5, gA6]
  refine tkA 43 (v := ?_) ?_ ?_
  rotate_left
  · (intro w' hSw; clear hSw; go_simp; try rfl)
  try simp only [Act.put, gA1, gA2, gA3, gA4, gA5, gA6]
  refine tkA 44 (v := ?_) ?_ ?_
  rotate_left
  · (intro w' hSw; have e6 := Bk.cell hSw.ms 6; have e7 := Bk.cell hSw.ms 7; simp only [List.getElem?_cons_zero, List.getElem?_cons_succ] at e6 e7; clear hSw; go_simp; try rfl)
  try simp only [Act.put, gA1, gA2, gA3, gA4, gA5, gA6]
  refine wpAnyH_ready (rs := [45]) (by kernel_rfl) (by simp) ?_
  refine (AllReadyH.cons rfl (fun K hK => ?_) AllReadyH.nil)
  go_simp
  (go_at_call 41; refine (HC45.out _ hb40).mono ?_; rintro e w45 ⟨rfl, hbq⟩; have hb45 : Below X.heap.size X w45 := hb40.trans (hbq.mono hb40.size); clear hbq)
  refine hK.out _ _ ?_ (fun hHeld => ?_)
  · ((first
    | exact HKP.out _ hb59
    | exact HKP.out _ hb51
    | exact HKP.out _ hb45
    | exact HKP.out _ hb40
    | exact HKP.out _ hb22
    | exact HKP.out _ hb17
    | exact HKP.out _ hb11
    | exact HKP.out _ (Below.refl X.heap.size X).drew
    | exact HKP.out _ (Below.refl _ _)
    | fail))
  clear hK K
  try simp only [Act.put, gA1, gA2, gA3, gA4, gA5, gA6]
  refine tkA 46 (v := ?_) ?_ ?_
  rotate_left
  · (intro w' hSw; clear hSw; go_simp; try rfl)
  try simp only [Act.put, gA1, gA2, gA3, gA4, gA5, gA6]
  refine tkA 47 (v := ?_) ?_ ?_
  rotate_left
  · (intro w' hSw; clear hSw; go_simp; try rfl)
  try simp only [Act.put, gA1, gA2, gA3, gA4, gA5, gA6]
  refine utA 48 ?_
  try simp only [Act.put, gA1, gA2, gA3, gA4, gA5, gA6]
  refine utA 49 ?_
  try simp only [Act.put, gA1, gA2, gA3, gA4, gA5, gA6]
  refine utA 50 ?_
  try simp only [Act.put, gA1, gA2, gA3, gA4, gA5, gA6]
  refine utA 51 ?_
  try simp only [Act.put, gA1, gA2, gA3, gA4, gA5, gA6]
  refine tkA 52 (v := ?_) ?_ ?_
  rotate_left
  · (intro w' hSw; clear hSw; go_simp; try rfl)
  try simp only [Act.put, gA1, gA2, gA3, gA4, gA5, gA6]
  refine tkA 53 (v := ?_) ?_ ?_
  rotate_left
  · (intro w' hSw; clear hSw; go_simp; try rfl)
  try simp only [Act.put, gA1, gA2, gA3, gA4, gA5, gA6]
  refine utA 54 ?_
  try simp only [Act.put, gA1, gA2, gA3, gA4, gA5, gA6]
  refine utA 55 ?_
  try simp only [Act.put, gA1, gA2, gA3, gA4, gA5, gA6]
  refine utA 56 ?_
  try simp only [Act.put, gA1, gA2, gA3, gA4, gA5, gA6]
  refine utA 57 ?_
  try simp only [Act.put, gA1, gA2, gA3, gA4, gA5, gA6]
  refine utA 58 ?_
  try simp only [Act.put, gA1, gA2, gA3, gA4, gA5, gA6]
  refine utA 59 ?_
  try simp only [Act.put, gA1, gA2, gA3, gA4, gA5, gA6]
  refine tkA 60 (v := ?_) ?_ ?_
  rotate_left
  · (intro w' hSw; clear hSw; go_simp; try rfl)
  try simp only [Act.put, gA1, gA2, gA3, gA4, gA5, gA6]
  refine tkA 61 (v := ?_) ?_ ?_
  rotate_left
  · (intro w' hSw; clear hSw; go_simp; try rfl)
  try simp only [Act.put, gA1, gA2, gA3, gA4, gA5, gA6]
  refine wpAnyH_done (by kernel_rfl) ?_ _
  go_split_ands
  clear HKP
  go_wp2
  go_ret
  exact ⟨rfl, HBX.out.trans (hb45.mono HBX.out.size)⟩
set_option maxHeartbeats 8000000 in
theorem right_7 {w : World} {B g mb K : Nat} {b : BSt} (h : BkAt w B g mb K b) (hn : b.ns.length ≤ 1000) {v : Value} {m : Mg} (hm : MgA w v m) (hl : m.ins.at'.2.length ≤ 10000) (q0 : (m.to == b.node) = true) (q1 : inB m.fr b.ns = true) (q2 : inB m.to b.ns = true) (q3 : vldI3 m.id = true) (q4 : (m.id.1 == b.ep) = true) (q5 : inB m.id.2.1 b.ns = true) (q6 : Bb.vaB m.bal.1 m.bal.2 = true) (q7 : Bb.vaB m.ins.vo.1 m.ins.vo.2 = false) : Calls Tryz.prog 15 #[bP g, v] w fun e w' => e = .returned (.bool false) ∧ Below w.heap.size w w' := by
  have HMV := Lib.hid hm
  obtain ⟨ua, uc, a1, d1, c1, a2, d2, c2, a3, d3, c3, rfl, hrd, hokl, hid⟩ := hm
  obtain ⟨n0, n1, n2, ⟨n3, n4, n5⟩, ⟨n6, n7⟩, ⟨n8, ⟨n9, n10⟩, ⟨n11, n12⟩, ⟨n13, n14, n15, n16, n17, n18, n19, n20⟩, n21, dl⟩, sn0⟩ := m
  obtain ⟨n23, sn1⟩ : ∃ q, sn0.1.1 = q := ⟨_, rfl⟩
  obtain ⟨M, hM⟩ : ∃ M, dl.length = M := ⟨_, rfl⟩
  have HMl := Lib.hid hM
  simp only at hrd hokl hid
  simp only [msE, inE, snV, hM, sn1, List.cons_append, List.nil_append] at hrd HMV ⊢
  clear hM sn1
  simp only at hl q0 q1 q2 q3 q4 q5 q6 q7
  obtain ⟨X, hX⟩ : ∃ X, (w.alloc (.cells #[bP g] 28)).alloc (.cells #[.int .i64 n0, .int .i64 n1, .int .i64 n2, .int .i64 n3, .int .i64 n4, .int .i64 n5, .int .i64 n6, .int .i64 n7, .int .i64 n8, .int .i64 n9, .int .i64 n10, .int .i64 n11, .int .i64 n12, .int .i64 n13, .int .i64 n14, .int .i64 n15, .string n16, .string n17, .int .i64 n18, .int .i64 n19, .int .i64 n20, .int .i64 n21, .slice ua M uc, .int .i64 n23, .slice a1 d1 c1, .slice a2 d2 c2, .slice a3 d3 c3] 54) = X := ⟨_, rfl⟩
  have hBX : Below w.heap.size w X := by rw [← hX]; exact ((Below.refl _ _).alloc (Nat.le_refl _) _).alloc (by simp) _
  have hPX : Bk X w.heap.size 28 [bP g] := by rw [← hX]; exact (Bk.new w _ _).old _
  have hMX : Bk X (w.heap.size + 1) 54 [.int .i64 n0, .int .i64 n1, .int .i64 n2, .int .i64 n3, .int .i64 n4, .int .i64 n5, .int .i64 n6, .int .i64 n7, .int .i64 n8, .int .i64 n9, .int .i64 n10, .int .i64 n11, .int .i64 n12, .int .i64 n13, .int .i64 n14, .int .i64 n15, .string n16, .string n17, .int .i64 n18, .int .i64 n19, .int .i64 n20, .int .i64 n21, .slice ua M uc, .int .i64 n23, .slice a1 d1 c1, .slice a2 d2 c2, .slice a3 d3 c3] := by rw [← hX]; exact Bk.newA (by simp) _ [.int .i64 n0, .int .i64 n1, .int .i64 n2, .int .i64 n3, .int .i64 n4, .int .i64 n5, .int .i64 n6, .int .i64 n7, .int .i64 n8, .int .i64 n9, .int .i64 n10, .int .i64 n11, .int .i64 n12, .int .i64 n13, .int .i64 n14, .int .i64 n15, .string n16, .string n17, .int .i64 n18, .int .i64 n19, .int .i64 n20, .int .i64 n21, .slice ua M uc, .int .i64 n23, .slice a1 d1 c1, .slice a2 d2 c2, .slice a3 d3 c3]
  have hBk := h.below hBX
  have HBX := Lib.hid hBX
  have HKP : Hid (∀ w', Below X.heap.size X w' → RtS w.heap.size g b.node b.ep [.int .i64 n0, .int .i64 n1, .int .i64 n2, .int .i64 n3, .int .i64 n4, .int .i64 n5, .int .i64 n6, .int .i64 n7, .int .i64 n8, .int .i64 n9, .int .i64 n10, .int .i64 n11, .int .i64 n12, .int .i64 n13, .int .i64 n14, .int .i64 n15, .string n16, .string n17, .int .i64 n18, .int .i64 n19, .int .i64 n20, .int .i64 n21, .slice ua M uc, .int .i64 n23, .slice a1 d1 c1, .slice a2 d2 c2, .slice a3 d3 c3] w') := Lib.hid fun w' hb => by
    have h2 := hBk.below hb
    obtain ⟨vn, h3, _⟩ := h2.box
    exact ⟨hMX.below hb, (hPX.below hb).cell 0, h3.cell 0, h3.cell 1⟩
  have HC11 : Hid (∀ w', Below X.heap.size X w' → Calls Tryz.prog 38 #[.int .i64 n1, .pointer (some ⟨w.heap.size, 0, none⟩)] w' (fun e w'' => e = .returned (.bool true) ∧ Below w'.heap.size w' w'')) := Lib.hid fun w' hb => by
    have q := member_any (hBk.below hb) ((hPX.below hb).cell 0) hn n1
    rw [q1] at q
    exact q
  have HC17 : Hid (∀ w', Below X.heap.size X w' → Calls Tryz.prog 38 #[.int .i64 n2, .pointer (some ⟨w.heap.size, 0, none⟩)] w' (fun e w'' => e = .returned (.bool true) ∧ Below w'.heap.size w' w'')) := Lib.hid fun w' hb => by
    have q := member_any (hBk.below hb) ((hPX.below hb).cell 0) hn n2
    rw [q2] at q
    exact q
  have HC22 : Hid (∀ w', Below X.heap.size X w' → Calls Tryz.prog 40 #[.agg #[.int .i64 n3, .int .i64 n4, .int .i64 n5]] w' (fun e w'' => e = .returned (.bool true) ∧ Below w'.heap.size w' w'')) := Lib.hid fun w' hb => by
    have q := valid_any n3 n4 n5 w'
    rw [← vldI3_eq, q3] at q
    exact q.mono fun e w'' ⟨e1, e2⟩ => ⟨e1, e2.below⟩
  have HC40 : Hid (∀ w', Below X.heap.size X w' → Calls Tryz.prog 38 #[.int .i64 n4, .pointer (some ⟨w.heap.size, 0, none⟩)] w' (fun e w'' => e = .returned (.bool true) ∧ Below w'.heap.size w' w'')) := Lib.hid fun w' hb => by
    have q := member_any (hBk.below hb) ((hPX.below hb).cell 0) hn n4
    rw [q5] at q
    exact q
  have HC45 : Hid (∀ w', Below X.heap.size X w' → Calls Tryz.prog 41 #[.agg #[.int .i64 n6, .int .i64 n7]] w' (fun e w'' => e = .returned (.bool true) ∧ Below w'.heap.size w' w'')) := Lib.hid fun w' hb => by
    have q := Bb.valid_any n6 n7 w'
    rw [q6] at q
    exact q
  have HC51 : Hid (∀ w', Below X.heap.size X w' → Calls Tryz.prog 41 #[.agg #[.int .i64 n11, .int .i64 n12]] w' (fun e w'' => e = .returned (.bool false) ∧ Below w'.heap.size w' w'')) := Lib.hid fun w' hb => by
    have q := Bb.valid_any n11 n12 w'
    rw [q7] at q
    exact q
  obtain ⟨nd, hnd⟩ : ∃ n, b.node = n := ⟨_, rfl⟩
  obtain ⟨ep, hep⟩ : ∃ n, b.ep = n := ⟨_, rfl⟩
  rw [hnd, hep] at HKP
  rw [hnd] at q0
  rw [hep] at q4
  clear h hBk hPX hMX hBX hl hn hrd hokl hid hnd hep q1 q2 q3 q5 q6 q7
  go_enter Tryz.func15, Tryz.ntmps15
  go_wp2_with fail
  try rw [hX]
  clear hX
  refine wp_region_held_drew (S := (RtS w.heap.size g nd ep [.int .i64 n0, .int .i64 n1, .int .i64 n2, .int .i64 n3, .int .i64 n4, .int .i64 n5, .int .i64 n6, .int .i64 n7, .int .i64 n8, .int .i64 n9, .int .i64 n10, .int .i64 n11, .int .i64 n12, .int .i64 n13, .int .i64 n14, .int .i64 n15, .string n16, .string n17, .int .i64 n18, .int .i64 n19, .int .i64 n20, .int .i64 n21, .slice ua M uc, .int .i64 n23, .slice a1 d1 c1, .slice a2 d2 c2, .slice a3 d3 c3])) (by kernel_rfl) ?_ (fun hHeld => ?_)
  · ((first
    | exact HKP.out _ hb59
    | exact HKP.out _ hb51
    | exact HKP.out _ hb45
    | exact HKP.out _ hb40
    | exact HKP.out _ hb22
    | exact HKP.out _ hb17
    | exact HKP.out _ hb11
    | exact HKP.out _ (Below.refl X.heap.size X).drew
    | exact HKP.out _ (Below.refl _ _)
    | fail))
  refine tkA 0 (v := ?_) ?_ ?_
  rotate_left
  · (intro w' hSw; clear hSw; go_simp; try rfl)
  try simp only [Act.put, gA1, gA2, gA3, gA4, gA5, gA6]
  refine tkA 1 (v := ?_) ?_ ?_
  rotate_left
  · (intro w' hSw; have e2 := Bk.cell hSw.ms 2; simp only [List.getElem?_cons_zero, List.getElem?_cons_succ] at e2; clear hSw; go_simp; try rfl)
  try simp only [Act.put, gA1, gA2, gA3, gA4, gA5, gA6]
  refine tkA 2 (v := ?_) ?_ ?_
  rotate_left
  · (intro w' hSw; have e0 := hSw.bx; clear hSw; go_simp; try rfl)
  try simp only [Act.put, gA1, gA2, gA3, gA4, gA5, gA6]
  refine tkA 3 (v := ?_) ?_ ?_
  rotate_left
  · (intro w' hSw; clear hSw; go_simp; try rfl)
  try simp only [Act.put, gA1, gA2, gA3, gA4, gA5, gA6]
  refine tkA 4 (v := ?_) ?_ ?_
  rotate_left
  · (intro w' hSw; clear hSw; go_simp; try rfl)
  try simp only [Act.put, gA1, gA2, gA3, gA4, gA5, gA6]
  refine tkA 5 (v := ?_) ?_ ?_
  rotate_left
  · (intro w' hSw; have e0 := hSw.nd; clear hSw; go_simp; try rfl)
  try simp only [Act.put, gA1, gA2, gA3, gA4, gA5, gA6]
  refine tkA 6 (v := ?_) ?_ ?_
  rotate_left
  · (intro w' hSw; clear hSw; go_simp; try rfl)
  try simp only [Act.put, gA1, gA2, gA3, gA4, gA5, gA6]
  refine tkA 7 (v := ?_) ?_ ?_
  rotate_left
  · (intro w' hSw; clear hSw; go_simp; try rfl)
  try simp only [Act.put, gA1, gA2, gA3, gA4, gA5, gA6]
  refine tkA 8 (v := ?_) ?_ ?_
  rotate_left
  · (intro w' hSw; clear hSw; go_simp; try rfl)
  try simp only [Act.put, gA1, gA2, gA3, gA4, gA5, gA6]
  refine tkA 9 (v := ?_) ?_ ?_
  rotate_left
  · (intro w' hSw; clear hSw; go_simp; try rfl)
  try simp only [Act.put, gA1, gA2, gA3, gA4, gA5, gA6]
  refine tkA 10 (v := ?_) ?_ ?_
  rotate_left
  · (intro w' hSw; have e1 := Bk.cell hSw.ms 1; simp only [List.getElem?_cons_zero, List.getElem?_cons_succ] at e1; clear hSw; go_simp; try rfl)
  try simp only [Act.put, gA1, gA2, gA3, gA4, gA5, gA6]
  refine wpAnyH_ready (rs := [11]) (by kernel_rfl) (by simp) ?_
  refine (AllReadyH.cons rfl (fun K hK => ?_) AllReadyH.nil)
  go_simp
  (go_at_call 38; refine (HC11.out _ (Below.refl X.heap.size X).drew).mono ?_; rintro e w11 ⟨rfl, hbq⟩; have hb11 : Below X.heap.size X w11 := (Below.refl X.heap.size X).drew.trans (hbq.mono (Below.refl X.heap.size X).drew.size); clear hbq)
  refine hK.out _ _ ?_ (fun hHeld => ?_)
  · ((first
    | exact HKP.out _ hb59
    | exact HKP.out _ hb51
    | exact HKP.out _ hb45
    | exact HKP.out _ hb40
    | exact HKP.out _ hb22
    | exact HKP.out _ hb17
    | exact HKP.out _ hb11
    | exact HKP.out _ (Below.refl X.heap.size X).drew
    | exact HKP.out _ (Below.refl _ _)
    | fail))
  clear hK K
  try simp only [Act.put, gA1, gA2, gA3, gA4, gA5, gA6]
  refine tkA 12 (v := ?_) ?_ ?_
  rotate_left
  · (intro w' hSw; clear hSw; go_simp; try rfl)
  try simp only [Act.put, gA1, gA2, gA3, gA4, gA5, gA6]
  refine tkA 13 (v := ?_) ?_ ?_
  rotate_left
  · (intro w' hSw; clear hSw; go_simp; try rfl)
  try simp only [Act.put, gA1, gA2, gA3, gA4, gA5, gA6]
  refine tkA 14 (v := ?_) ?_ ?_
  rotate_left
  · (intro w' hSw; clear hSw; go_simp; try rfl)
  try simp only [Act.put, gA1, gA2, gA3, gA4, gA5, gA6]
  refine tkA 15 (v := ?_) ?_ ?_
  rotate_left
  · (intro w' hSw; clear hSw; go_simp; try rfl)
  try simp only [Act.put, gA1, gA2, gA3, gA4, gA5, gA6]
  refine tkA 16 (v := ?_) ?_ ?_
  rotate_left
  · (intro w' hSw; have e2 := Bk.cell hSw.ms 2; simp only [List.getElem?_cons_zero, List.getElem?_cons_succ] at e2; clear hSw; go_simp; try rfl)
  try simp only [Act.put, gA1, gA2, gA3, gA4, gA5, gA6]
  refine wpAnyH_ready (rs := [17]) (by kernel_rfl) (by simp) ?_
  refine (AllReadyH.cons rfl (fun K hK => ?_) AllReadyH.nil)
  go_simp
  (go_at_call 38; refine (HC17.out _ hb11).mono ?_; rintro e w17 ⟨rfl, hbq⟩; have hb17 : Below X.heap.size X w17 := hb11.trans (hbq.mono hb11.size); clear hbq)
  refine hK.out _ _ ?_ (fun hHeld => ?_)
  · ((first
    | exact HKP.out _ hb59
    | exact HKP.out _ hb51
    | exact HKP.out _ hb45
    | exact HKP.out _ hb40
    | exact HKP.out _ hb22
    | exact HKP.out _ hb17
    | exact HKP.out _ hb11
    | exact HKP.out _ (Below.refl X.heap.size X).drew
    | exact HKP.out _ (Below.refl _ _)
    | fail))
  clear hK K
  try simp only [Act.put, gA1, gA2, gA3, gA4, gA5, gA6]
  refine tkA 18 (v := ?_) ?_ ?_
  rotate_left
  · (intro w' hSw; clear hSw; go_simp; try rfl)
  try simp only [Act.put, gA1, gA2, gA3, gA4, gA5, gA6]
  refine tkA 19 (v := ?_) ?_ ?_
  rotate_left
  · (intro w' hSw; clear hSw; go_simp; try rfl)
  try simp only [Act.put, gA1, gA2, gA3, gA4, gA5, gA6]
  refine tkA 20 (v := ?_) ?_ ?_
  rotate_left
  · (intro w' hSw; clear hSw; go_simp; try rfl)
  try simp only [Act.put, gA1, gA2, gA3, gA4, gA5, gA6]
  refine tkA 21 (v := ?_) ?_ ?_
  rotate_left
  · (intro w' hSw; have e3 := Bk.cell hSw.ms 3; have e4 := Bk.cell hSw.ms 4; have e5 := Bk.cell hSw.ms 5; simp only [List.getElem?_cons_zero, List.getElem?_cons_succ] at e3 e4 e5; clear hSw; go_simp; try rfl)
  try simp only [Act.put, gA1, gA2, gA3, gA4, gA5, gA6]
  refine wpAnyH_ready (rs := [22]) (by kernel_rfl) (by simp) ?_
  refine (AllReadyH.cons rfl (fun K hK => ?_) AllReadyH.nil)
  go_simp
  (go_at_call 40; refine (HC22.out _ hb17).mono ?_; rintro e w22 ⟨rfl, hbq⟩; have hb22 : Below X.heap.size X w22 := hb17.trans (hbq.mono hb17.size); clear hbq)
  refine hK.out _ _ ?_ (fun hHeld => ?_)
  · ((first
    | exact HKP.out _ hb59
    | exact HKP.out _ hb51
    | exact HKP.out _ hb45
    | exact HKP.out _ hb40
    | exact HKP.out _ hb22
    | exact HKP.out _ hb17
    | exact HKP.out _ hb11
    | exact HKP.out _ (Below.refl X.heap.size X).drew
    | exact HKP.out _ (Below.refl _ _)
    | fail))
  clear hK K
  try simp only [Act.put, gA1, gA2, gA3, gA4, gA5, gA6]
  refine tkA 23 (v := ?_) ?_ ?_
  rotate_left
  · (intro w' hSw; clear hSw; go_simp; try rfl)
  try simp only [Act.put, gA1, gA2, gA3, gA4, gA5, gA6]
  refine tkA 24 (v := ?_) ?_ ?_
  rotate_left
  · (intro w' hSw; clear hSw; go_simp; try rfl)
  try simp only [Act.put, gA1, gA2, gA3, gA4, gA5, gA6]
  refine tkA 25 (v := ?_) ?_ ?_
  rotate_left
  · (intro w' hSw; clear hSw; go_simp; try rfl)
  try simp only [Act.put, gA1, gA2, gA3, gA4, gA5, gA6]
  refine tkA 26 (v := ?_) ?_ ?_
  rotate_left
  · (intro w' hSw; clear hSw; go_simp; try rfl)
  try simp only [Act.put, gA1, gA2, gA3, gA4, gA5, gA6]
  refine tkA 27 (v := ?_) ?_ ?_
  rotate_left
  · (intro w' hSw; have e3 := Bk.cell hSw.ms 3; simp only [List.getElem?_cons_zero, List.getElem?_cons_succ] at e3; clear hSw; go_simp; try rfl)
  try simp only [Act.put, gA1, gA2, gA3, gA4, gA5, gA6]
  refine tkA 28 (v := ?_) ?_ ?_
  rotate_left
  · (intro w' hSw; have e0 := hSw.bx; clear hSw; go_simp; try rfl)
  try simp only [Act.put, gA1, gA2, gA3, gA4, gA5, gA6]
  refine tkA 29 (v := ?_) ?_ ?_
  rotate_left
  · (intro w' hSw; clear hSw; go_simp; try rfl)
  try simp only [Act.put, gA1, gA2, gA3, gA4, gA5, gA6]
  refine tkA 30 (v := ?_) ?_ ?_
  rotate_left
  · (intro w' hSw; clear hSw; go_simp; try rfl)
  try simp only [Act.put, gA1, gA2, gA3, gA4, gA5, gA6]
  refine tkA 31 (v := ?_) ?_ ?_
  rotate_left
  · (intro w' hSw; clear hSw; go_simp; try rfl)
  try simp only [Act.put, gA1, gA2, gA3, gA4, gA5, gA6]
  refine tkA 32 (v := ?_) ?_ ?_
  rotate_left
  · (intro w' hSw; have e0 := hSw.ep; clear hSw; go_simp; try rfl)
  try simp only [Act.put, gA1, gA2, gA3, gA4, gA5, gA6]
  refine tkA 33 (v := ?_) ?_ ?_
  rotate_left
  · (intro w' hSw; clear hSw; go_simp; try rfl)
  try simp only [Act.put, gA1, gA2, gA3, gA4, gA5, gA6]
  refine tkA 34 (v := ?_) ?_ ?_
  rotate_left
  · (intro w' hSw; clear hSw; go_simp; try rfl)
  try simp only [Act.put, gA1, gA2, gA3, gA4, gA5, gA6]
  refine tkA 35 (v := ?_) ?_ ?_
  rotate_left
  · (intro w' hSw; clear hSw; go_simp; try rfl)
  try simp only [Act.put, gA1, gA2, gA3, gA4, gA5, gA6]
  refine tkA 36 (v := ?_) ?_ ?_
  rotate_left
  · (intro w' hSw; clear hSw; go_simp; try rfl)
  try simp only [Act.put, gA1, gA2, gA3, gA4, gA5, gA6]
  refine tkA 37 (v := ?_) ?_ ?_
  rotate_left
  · (intro w' hSw; clear hSw; go_simp; try rfl)
  try simp only [Act.put, gA1, gA2, gA3, gA4, gA5, gA6]
  refine tkA 38 (v := ?_) ?_ ?_
  rotate_left
  · (intro w' hSw; clear hSw; go_simp; try rfl)
  try simp only [Act.put, gA1, gA2, gA3, gA4, gA5, gA6]
  refine tkA 39 (v := ?_) ?_ ?_
  rotate_left
  · (intro w' hSw; have e4 := Bk.cell hSw.ms 4; simp only [List.getElem?_cons_zero, List.getElem?_cons_succ] at e4; clear hSw; go_simp; try rfl)
  try simp only [Act.put, gA1, gA2, gA3, gA4, gA5, gA6]
  refine wpAnyH_ready (rs := [40]) (by kernel_rfl) (by simp) ?_
  refine (AllReadyH.cons rfl (fun K hK => ?_) AllReadyH.nil)
  go_simp
  (go_at_call 38; refine (HC40.out _ hb22).mono ?_; rintro e w40 ⟨rfl, hbq⟩; have hb40 : Below X.heap.size X w40 := hb22.trans (hbq.mono hb22.size); clear hbq)
  refine hK.out _ _ ?_ (fun hHeld => ?_)
  · ((first
    | exact HKP.out _ hb59
    | exact HKP.out _ hb51
    | exact HKP.out _ hb45
    | exact HKP.out _ hb40
    | exact HKP.out _ hb22
    | exact HKP.out _ hb17
    | exact HKP.out _ hb11
    | exact HKP.out _ (Below.refl X.heap.size X).drew
    | exact HKP.out _ (Below.refl _ _)
    | fail))
  clear hK K
  try simp only [Act.put, gA1, gA2, gA3, gA4, gA5, gA6]
  refine tkA 41 (v := ?_) ?_ ?_
  rotate_left
  · (intro w' hSw; clear hSw; go_simp; try rfl)
  try simp only [Act.put, gA1, gA2, gA3, gA4, gA5, gA6]
  refine tkA 42 (v := ?_) ?_ ?_
  rotate_left
  · (intro w' hSw; clear hSw; go_simp; try rfl)
  try simp only [Act.put, gA1, gA2, gA3, gA4, gA5, gA6]
  refine tkA 43 (v := ?_) ?_ ?_
  rotate_left
  · (intro w' hSw; clear hSw; go_simp; try rfl)
  try simp only [Act.put, gA1, gA2, gA3, gA4, gA5, gA6]
  refine tkA 44 (v := ?_) ?_ ?_
  rotate_left
  · (intro w' hSw; have e6 := Bk.cell hSw.ms 6; have e7 := Bk.cell hSw.ms 7; simp only [List.getElem?_cons_zero, List.getElem?_cons_succ] at e6 e7; clear hSw; go_simp; try rfl)
  try simp only [Act.put, gA1, gA2, gA3, gA4, gA5, gA6]
  refine wpAnyH_ready (rs := [45]) (by kernel_rfl) (by simp) ?_
  refine (AllReadyH.cons rfl (fun K hK => ?_) AllReadyH.nil)
  go_simp
  (go_at_call 41; refine (HC45.out _ hb40).mono ?_; rintro e w45 ⟨rfl, hbq⟩; have hb45 : Below X.heap.size X w45 := hb40.trans (hbq.mono hb40.size); clear hbq)
  refine hK.out _ _ ?_ (fun hHeld => ?_)
  · ((first
    | exact HKP.out _ hb59
    | exact HKP.out _ hb51
    | exact HKP.out _ hb45
    | exact HKP.out _ hb40
    | exact HKP.out _ hb22
    | exact HKP.out _ hb17
    | exact HKP.out _ hb11
    | exact HKP.out _ (Below.refl X.heap.size X).drew
    | exact HKP.out _ (Below.refl _ _)
    | fail))
  clear hK K
  try simp only [Act.put, gA1, gA2, gA3, gA4, gA5, gA6]
  refine tkA 46 (v := ?_) ?_ ?_
  rotate_left
  · (intro w' hSw; clear hSw; go_simp; try rfl)
  try simp only [Act.put, gA1, gA2, gA3, gA4, gA5, gA6]
  refine tkA 47 (v := ?_) ?_ ?_
  rotate_left
  · (intro w' hSw; clear hSw; go_simp; try rfl)
  try simp only [Act.put, gA1, gA2, gA3, gA4, gA5, gA6]
  refine tkA 48 (v := ?_) ?_ ?_
  rotate_left
  · (intro w' hSw; clear hSw; go_simp; try rfl)
  try simp only [Act.put, gA1, gA2, gA3, gA4, gA5, gA6]
  refine tkA 49 (v := ?_) ?_ ?_
  rotate_left
  · (intro w' hSw; clear hSw; go_simp; try rfl)
  try simp only [Act.put, gA1, gA2, gA3, gA4, gA5, gA6]
  refine tkA 50 (v := ?_) ?_ ?_
  rotate_left
  · (intro w' hSw; have e11 := Bk.cell hSw.ms 11; have e12 := Bk.cell hSw.ms 12; simp only [List.getElem?_cons_zero, List.getElem?_cons_succ] at e11 e12; clear hSw; go_simp; try rfl)
  try simp only [Act.put, gA1, gA2, gA3, gA4, gA5, gA6]
  refine wpAnyH_ready (rs := [51]) (by kernel_rfl) (by simp) ?_
  refine (AllReadyH.cons rfl (fun K hK => ?_) AllReadyH.nil)
  go_simp
  (go_at_call 41; refine (HC51.out _ hb45).mono ?_; rintro e w51 ⟨rfl, hbq⟩; have hb51 : Below X.heap.size X w51 := hb45.trans (hbq.mono hb45.size); clear hbq)
  refine hK.out _ _ ?_ (fun hHeld => ?_)
  · ((first
    | exact HKP.out _ hb59
    | exact HKP.out _ hb51
    | exact HKP.out _ hb45
    | exact HKP.out _ hb40
    | exact HKP.out _ hb22
    | exact HKP.out _ hb17
    | exact HKP.out _ hb11
    | exact HKP.out _ (Below.refl X.heap.size X).drew
    | exact HKP.out _ (Below.refl _ _)
    | fail))
  clear hK K
  try simp only [Act.put, gA1, gA2, gA3, gA4, gA5, gA6]
  refine tkA 52 (v := ?_) ?_ ?_
  rotate_left
  · (intro w' hSw; clear hSw; go_simp; try rfl)
  try simp only [Act.put, gA1, gA2, gA3, gA4, gA5, gA6]
  refine tkA 53 (v := ?_) ?_ ?_
  rotate_left
  · (intro w' hSw; clear hSw; go_simp; try rfl)
  try simp only [Act.put, gA1, gA2, gA3, gA4, gA5, gA6]
  refine utA 54 ?_
  try simp only [Act.put, gA1, gA2, gA3, gA4, gA5, gA6]
  refine utA 55 ?_
  try simp only [Act.put, gA1, gA2, gA3, gA4, gA5, gA6]
  refine utA 56 ?_
  try simp only [Act.put, gA1, gA2, gA3, gA4, gA5, gA6]
  refine utA 57 ?_
  try simp only [Act.put, gA1, gA2, gA3, gA4, gA5, gA6]
  refine utA 58 ?_
  try simp only [Act.put, gA1, gA2, gA3, gA4, gA5, gA6]
  refine utA 59 ?_
  try simp only [Act.put, gA1, gA2, gA3, gA4, gA5, gA6]
  refine tkA 60 (v := ?_) ?_ ?_
  rotate_left
  · (intro w' hSw; clear hSw; go_simp; try rfl)
  try simp only [Act.put, gA1, gA2, gA3, gA4, gA5, gA6]
  refine tkA 61 (v := ?_) ?_ ?_
  rotate_left
  · (intro w' hSw; clear hSw; go_simp; try rfl)
  try simp only [Act.put, gA1, gA2, gA3, gA4, gA5, gA6]
  refine wpAnyH_done (by kernel_rfl) ?_ _
  go_split_ands
  clear HKP
  go_wp2
  go_ret
  exact ⟨rfl, HBX.out.trans (hb51.mono HBX.out.size)⟩
end Go.Proofs.YtchhcaoondfpiaaGreat
