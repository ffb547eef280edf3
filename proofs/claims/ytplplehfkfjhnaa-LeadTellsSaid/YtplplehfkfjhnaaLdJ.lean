/-
  Leads: hears, an answer that fits.
-/
import Derived.Test.YtplplehfkfjhnaaLdI
namespace Go.Proofs.Ytplplehfkfjhnaa
open Go.RowKit
open Bb (quoN thN allB)
set_option linter.unusedSimpArgs false
set_option linter.unusedVariables false
set_option maxRecDepth 100000

theorem Below.drewB {B : Nat} {a w : World} (h : Below B a w) : Below B a w.drew := ⟨h.os, h.tape, h.output, h.size, h.block⟩
/-- What clone.Inst comes to, spelt out. -/
def CiP (x : Ist) (M : Nat) (w : World) (e : Ending) (w' : World) : Prop := ∃ a5 k5, Hid (e = .returned (.agg #[.int .i64 x.st, .int .i64 x.pr.1, .int .i64 x.pr.2, .int .i64 x.vo.1, .int .i64 x.vo.2, .int .i64 x.cm.cl, .int .i64 x.cm.sq, .int .i64 x.cm.op, .string x.cm.pa, .string x.cm.va, .int .i64 x.cm.ver, .int .i64 x.cm.a, .int .i64 x.cm.b, .int .i64 x.at'.1, .slice a5 M k5])) ∧ IK.Own w' w.heap.size (.slice a5 M k5) x.at'.2 ∧ Below w.heap.size w w'
theorem ci_any {x : Ist} {M : Nat} {ua : Option Addr} {uc : Nat} {w : World} (hM : x.at'.2.length = M) (h : IK.Rd w (.slice ua M uc) x.at'.2) (hl : x.at'.2.length ≤ 100000) : Calls Try.prog 47 #[.agg (inE x (.slice ua M uc)).toArray] w (CiP x M w) :=
  (cinst_any x _ w h hl).mono fun e w' q => by
    obtain ⟨v, he, ho, hb⟩ := q
    obtain ⟨a, k, e2⟩ := ho.slice
    rw [hM] at e2
    subst e2
    exact ⟨a, k, he, ho, hb⟩
def HyP (L : LSt) (B g : Nat) (w : World) (e : Ending) (w' : World) : Prop := Hid (e = .returned (.bool true)) ∧ LdAt w' B g L ∧ Below B w w' ∧ Kt w w'
set_option maxHeartbeats 16000000 in
theorem hears_yes {W0 w : World} {B g : Nat} {L : LSt} {x : Mg} {v : Value} (h : LdAt w B g L) (ho : LOk L) (hm : MgV W0 v x) (hW0 : W0.heap.size ≤ B) (hbw : Below W0.heap.size W0 w) (hdl : x.ins.at'.2.length ≤ 60) (p : Int) (hf : fitL L x p = true) :
    Calls Try.prog 33 #[gP g, v, .int .i64 p] w (HyP (addL L x) B g w) := by
  obtain ⟨ua, uc, a1, d1, c1, a2, d2, c2, a3, d3, c3, rfl, hrd, hok⟩ := hm
  obtain ⟨n0, n1, n2, ⟨n3, n4, n5⟩, ⟨n6, n7⟩, ⟨n8, ⟨n9, n10⟩, ⟨n11, n12⟩, ⟨n13, n14, n15, n16, n17, n18, n19, n20⟩, n21, dl⟩, sn0⟩ := x
  obtain ⟨n23, sn1⟩ : ∃ q, sn0.1.1 = q := ⟨_, rfl⟩
  obtain ⟨Bw, vn, vd, vw, vh, h⟩ := h
  simp only at hrd hok hdl hf
  obtain ⟨M, hM⟩ : ∃ M, dl.length = M := ⟨_, rfl⟩
  simp only [msE, inE, snV, hM, sn1, List.cons_append, List.nil_append] at hrd ⊢
  obtain ⟨aw, cw, ew⟩ := OwnI.slice h.who
  obtain ⟨nw, hnw⟩ : ∃ nw, L.who.length = nw := ⟨_, rfl⟩
  rw [hnw] at ew
  subst ew
  have r2 : IRow w aw L.who := by
    obtain ⟨a, c, e, r⟩ := h.wrow ho
    simp only [Value.slice.injEq] at e
    rw [e.1]; exact r
  obtain ⟨X, hX⟩ : ∃ X, w.alloc (.cells #[.int .i64 n0, .int .i64 n1, .int .i64 n2, .int .i64 n3, .int .i64 n4, .int .i64 n5, .int .i64 n6, .int .i64 n7, .int .i64 n8, .int .i64 n9, .int .i64 n10, .int .i64 n11, .int .i64 n12, .int .i64 n13, .int .i64 n14, .int .i64 n15, .string n16, .string n17, .int .i64 n18, .int .i64 n19, .int .i64 n20, .int .i64 n21, .slice ua M uc, .int .i64 n23, .slice a1 d1 c1, .slice a2 d2 c2, .slice a3 d3 c3] 44) = X := ⟨_, rfl⟩
  have hB : Below w.heap.size w X := by rw [← hX]; exact (Below.refl _ _).alloc (Nat.le_refl _) _
  have bm : Bk X w.heap.size 44 [.int .i64 n0, .int .i64 n1, .int .i64 n2, .int .i64 n3, .int .i64 n4, .int .i64 n5, .int .i64 n6, .int .i64 n7, .int .i64 n8, .int .i64 n9, .int .i64 n10, .int .i64 n11, .int .i64 n12, .int .i64 n13, .int .i64 n14, .int .i64 n15, .string n16, .string n17, .int .i64 n18, .int .i64 n19, .int .i64 n20, .int .i64 n21, .slice ua M uc, .int .i64 n23, .slice a1 d1 c1, .slice a2 d2 c2, .slice a3 d3 c3] := by rw [← hX]; exact Bk.new w _ _
  have HBX := Lib.hid hB
  have HV0 := Lib.hid (h.below hB)
  have HV00 := Lib.hid h
  have HM := Lib.hid bm
  have hgw := h.bk.lt
  have hgX := HV0.out.bk.lt
  have hNX := bm.lt
  have HC : Hid (∀ w' : World, Below X.heap.size X w' → w'.cell? ⟨g, 11, none⟩ = some (.int .i64 L.ph) ∧ w'.cell? ⟨g, 6, none⟩ = some (.int .i64 L.bal.1) ∧ w'.cell? ⟨g, 7, none⟩ = some (.int .i64 L.bal.2) ∧ w'.cell? ⟨g, 22, none⟩ = some (.slice aw nw cw) ∧ w'.cell? ⟨w.heap.size, 1, none⟩ = some (.int .i64 n1) ∧ w'.cell? ⟨w.heap.size, 6, none⟩ = some (.int .i64 n6) ∧ w'.cell? ⟨w.heap.size, 7, none⟩ = some (.int .i64 n7) ∧ Below X.heap.size X w') := Lib.hid fun w' hb => by
    have q := HV0.out.below hb
    have q2 := HM.out.below hb
    exact ⟨q.cell 11, q.cell 6, q.cell 7, q.cell 22, q2.cell 1, q2.cell 6, q2.cell 7, hb⟩
  have HCn : Hid (∀ W : World, Below X.heap.size X W → Calls Try.prog 30 #[.slice aw nw cw, .int .i64 n1] W fun e w' => e = .returned (.bool (inB n1 L.who)) ∧ W = w') := Lib.hid fun W hb => by
    have := contains_any aw cw L.who n1 W ((r2.below hB).below hb)
    rw [hnw] at this
    exact this
  obtain ⟨he, hgd⟩ := neB_run n6 n7 L.bal.1 L.bal.2
  unfold fitL at hf
  simp only [Bool.and_eq_true, decide_eq_true_eq] at hf
  obtain ⟨⟨f1, f2⟩, f3⟩ := hf
  have f1 : L.ph = p := by simpa using f1
  have g3 : inB n1 L.who = false := by simpa using f3
  have g1 : (L.ph != p) = false := by simpa using f1
  have g1' : (L.ph == p) = true := by simpa using f1
  have g2 : decide (((n6, n7) : Bal) = (L.bal.1, L.bal.2)) = true := decide_eq_true f2
  rw [g2] at he
  rw [g3] at HCn
  obtain ⟨ah, ch, eh⟩ := h.heard.slice
  obtain ⟨nq, hnq⟩ : ∃ nq, L.heard.length = nq := ⟨_, rfl⟩
  rw [hnq] at eh
  subst eh
  have HMl : Hid (((⟨n8, (n9, n10), (n11, n12), ⟨n13, n14, n15, n16, n17, n18, n19, n20⟩, n21, dl⟩ : Ist)).at'.2.length = M) := Lib.hid hM
  have HML : Hid (((⟨n8, (n9, n10), (n11, n12), ⟨n13, n14, n15, n16, n17, n18, n19, n20⟩, n21, dl⟩ : Ist)).at'.2.length ≤ 100000) := Lib.hid (show dl.length ≤ 100000 by omega)
  have HOKD : Hid (okL ((⟨n8, (n9, n10), (n11, n12), ⟨n13, n14, n15, n16, n17, n18, n19, n20⟩, n21, dl⟩ : Ist)).at'.2) := Lib.hid hok
  have HRD : Hid (∀ w' : World, Below B w w' → IK.Rd w' (.slice ua M uc) dl) := Lib.hid fun w' hb => hrd.below (hbw.trans (hb.mono hW0))
  have HWL : Hid (L.who.length + [n1].length ≤ 100000000000) := Lib.hid (by have := ho.wl; simp; omega)
  have HNQ : Hid (nq ≤ 40) := Lib.hid (by have h1 := ho.wl; have h2 := ho.hl; omega)
  obtain ⟨WH, hWH⟩ : ∃ l, L.who ++ [n1] = l := ⟨_, rfl⟩
  obtain ⟨nh, hnh⟩ : ∃ n, WH.length = n := ⟨_, rfl⟩
  have HWH := Lib.hid hWH
  have HNH := Lib.hid hnh
  clear hB bm h ho hrd hok hM r2 hnw f1 f2 f3 g2 g3 hdl hnq hWH hnh hW0 hbw
  go_enter Try.func33, Try.ntmps33
  go_wp2_with fail
  try rw [hX]
  clear hX
  refine wp_region_held_drew (S := (fun w' => w'.cell? ⟨g, 11, none⟩ = some (.int .i64 L.ph) ∧ w'.cell? ⟨g, 6, none⟩ = some (.int .i64 L.bal.1) ∧ w'.cell? ⟨g, 7, none⟩ = some (.int .i64 L.bal.2) ∧ w'.cell? ⟨g, 22, none⟩ = some (.slice aw nw cw) ∧ w'.cell? ⟨w.heap.size, 1, none⟩ = some (.int .i64 n1) ∧ w'.cell? ⟨w.heap.size, 6, none⟩ = some (.int .i64 n6) ∧ w'.cell? ⟨w.heap.size, 7, none⟩ = some (.int .i64 n7) ∧ Below X.heap.size X w')) (by kernel_rfl) ?_ (fun hHeld => ?_)
  · ((first
  | exact HC.out _ (Below.refl _ _)
  | exact HC.out _ (Below.refl _ _).drew
  | (go_split_ands; exact HC.out _ (by assumption))
  | fail))
  refine wpAnyH_take (i := 0) (v := ?_) rfl (by kernel_rfl) (by kernel_rfl) (by kernel_rfl) (fun _ _ _ h => h) (Or.inl ⟨by rfl, ?_⟩) (by assumption) ?_
  rotate_left
  · (intro w hSw; (try dsimp only at hSw); go_simp; try rfl)
  try simp only [Act.put, List.setIfInBounds_toArray, List.set_cons_zero, List.set_cons_succ, List.getElem_toArray, List.getElem_cons_zero, List.getElem_cons_succ]
  refine wpAnyH_take (i := 1) (v := ?_) rfl (by kernel_rfl) (by kernel_rfl) (by kernel_rfl) (fun _ _ _ h => h) (Or.inl ⟨by rfl, ?_⟩) (by assumption) ?_
  rotate_left
  · (intro w hSw; (try dsimp only at hSw); go_simp; try rfl)
  try simp only [Act.put, List.setIfInBounds_toArray, List.set_cons_zero, List.set_cons_succ, List.getElem_toArray, List.getElem_cons_zero, List.getElem_cons_succ]
  refine wpAnyH_take (i := 2) (v := ?_) rfl (by kernel_rfl) (by kernel_rfl) (by kernel_rfl) (fun _ _ _ h => h) (Or.inl ⟨by rfl, ?_⟩) (by assumption) ?_
  rotate_left
  · (intro w hSw; (try dsimp only at hSw); go_simp; try rfl)
  try simp only [Act.put, List.setIfInBounds_toArray, List.set_cons_zero, List.set_cons_succ, List.getElem_toArray, List.getElem_cons_zero, List.getElem_cons_succ]
  refine wpAnyH_take (i := 3) (v := ?_) rfl (by kernel_rfl) (by kernel_rfl) (by kernel_rfl) (fun _ _ _ h => h) (Or.inl ⟨by rfl, ?_⟩) (by assumption) ?_
  rotate_left
  · (intro w hSw; (try dsimp only at hSw); go_simp; try rfl)
  try simp only [Act.put, List.setIfInBounds_toArray, List.set_cons_zero, List.set_cons_succ, List.getElem_toArray, List.getElem_cons_zero, List.getElem_cons_succ]
  refine wpAnyH_take (i := 4) (v := ?_) rfl (by kernel_rfl) (by kernel_rfl) (by kernel_rfl) (fun _ _ _ h => h) (Or.inl ⟨by rfl, ?_⟩) (by assumption) ?_
  rotate_left
  · (intro w hSw; (try dsimp only at hSw); go_simp; try rfl)
  try simp only [Act.put, List.setIfInBounds_toArray, List.set_cons_zero, List.set_cons_succ, List.getElem_toArray, List.getElem_cons_zero, List.getElem_cons_succ]
  refine wpAnyH_take (i := 5) (v := ?_) rfl (by kernel_rfl) (by kernel_rfl) (by kernel_rfl) (fun _ _ _ h => h) (Or.inl ⟨by rfl, ?_⟩) (by assumption) ?_
  rotate_left
  · (intro w hSw; (try dsimp only at hSw); go_simp; try rfl)
  try simp only [Act.put, List.setIfInBounds_toArray, List.set_cons_zero, List.set_cons_succ, List.getElem_toArray, List.getElem_cons_zero, List.getElem_cons_succ]
  refine wpAnyH_take (i := 6) (v := ?_) rfl (by kernel_rfl) (by kernel_rfl) (by kernel_rfl) (fun _ _ _ h => h) (Or.inl ⟨by rfl, ?_⟩) (by assumption) ?_
  rotate_left
  · (intro w hSw; (try dsimp only at hSw); go_simp; try rfl)
  try simp only [Act.put, List.setIfInBounds_toArray, List.set_cons_zero, List.set_cons_succ, List.getElem_toArray, List.getElem_cons_zero, List.getElem_cons_succ]
  refine wpAnyH_take (i := 7) (v := ?_) rfl (by kernel_rfl) (by kernel_rfl) (by kernel_rfl) (fun _ _ _ h => h) (Or.inl ⟨by rfl, ?_⟩) (by assumption) ?_
  rotate_left
  · (intro w hSw; (try dsimp only at hSw); go_simp; try rfl)
  try simp only [Act.put, List.setIfInBounds_toArray, List.set_cons_zero, List.set_cons_succ, List.getElem_toArray, List.getElem_cons_zero, List.getElem_cons_succ]
  refine wpAnyH_take (i := 8) (v := ?_) rfl (by kernel_rfl) (by kernel_rfl) (by kernel_rfl) (fun _ _ _ h => h) (Or.inl ⟨by rfl, ?_⟩) (by assumption) ?_
  rotate_left
  · (intro w hSw; (try dsimp only at hSw); go_simp; try rfl)
  try simp only [Act.put, List.setIfInBounds_toArray, List.set_cons_zero, List.set_cons_succ, List.getElem_toArray, List.getElem_cons_zero, List.getElem_cons_succ]
  refine wpAnyH_take (i := 9) (v := ?_) rfl (by kernel_rfl) (by kernel_rfl) (by kernel_rfl) (fun _ _ _ h => h) (Or.inl ⟨by rfl, ?_⟩) (by assumption) ?_
  rotate_left
  · (intro w hSw; (try dsimp only at hSw); go_simp; try rfl)
  try simp only [Act.put, List.setIfInBounds_toArray, List.set_cons_zero, List.set_cons_succ, List.getElem_toArray, List.getElem_cons_zero, List.getElem_cons_succ]
  refine wpAnyH_take (i := 10) (v := ?_) rfl (by kernel_rfl) (by kernel_rfl) (by kernel_rfl) (fun _ _ _ h => h) (Or.inl ⟨by rfl, ?_⟩) (by assumption) ?_
  rotate_left
  · (intro w hSw; (try dsimp only at hSw); go_simp; try rfl)
  try simp only [Act.put, List.setIfInBounds_toArray, List.set_cons_zero, List.set_cons_succ, List.getElem_toArray, List.getElem_cons_zero, List.getElem_cons_succ]
  refine wpAnyH_take (i := 11) (v := ?_) rfl (by kernel_rfl) (by kernel_rfl) (by kernel_rfl) (fun _ _ _ h => h) (Or.inl ⟨by rfl, ?_⟩) (by assumption) ?_
  rotate_left
  · (intro w hSw; (try dsimp only at hSw); go_simp; try rfl)
  try simp only [Act.put, List.setIfInBounds_toArray, List.set_cons_zero, List.set_cons_succ, List.getElem_toArray, List.getElem_cons_zero, List.getElem_cons_succ]
  refine wpAnyH_take (i := 12) (v := ?_) rfl (by kernel_rfl) (by kernel_rfl) (by kernel_rfl) (fun _ _ _ h => h) (Or.inl ⟨by rfl, ?_⟩) (by assumption) ?_
  rotate_left
  · (intro w hSw; (try dsimp only at hSw); go_simp; try rfl)
  try simp only [Act.put, List.setIfInBounds_toArray, List.set_cons_zero, List.set_cons_succ, List.getElem_toArray, List.getElem_cons_zero, List.getElem_cons_succ]
  refine wpAnyH_take (i := 13) (v := ?_) rfl (by kernel_rfl) (by kernel_rfl) (by kernel_rfl) (fun _ _ _ h => h) (Or.inl ⟨by rfl, ?_⟩) (by assumption) ?_
  rotate_left
  · (intro w hSw; (try dsimp only at hSw); go_simp; try rfl)
  try simp only [Act.put, List.setIfInBounds_toArray, List.set_cons_zero, List.set_cons_succ, List.getElem_toArray, List.getElem_cons_zero, List.getElem_cons_succ]
  refine wpAnyH_take (i := 14) (v := ?_) rfl (by kernel_rfl) (by kernel_rfl) (by kernel_rfl) (fun _ _ _ h => h) (Or.inl ⟨by rfl, ?_⟩) (by assumption) ?_
  rotate_left
  · (intro w hSw; (try dsimp only at hSw); go_simp; try rfl)
  try simp only [Act.put, List.setIfInBounds_toArray, List.set_cons_zero, List.set_cons_succ, List.getElem_toArray, List.getElem_cons_zero, List.getElem_cons_succ]
  refine wpAnyH_take (i := 15) (v := ?_) rfl (by kernel_rfl) (by kernel_rfl) (by kernel_rfl) (fun _ _ _ h => h) (Or.inl ⟨by rfl, ?_⟩) (by assumption) ?_
  rotate_left
  · (intro w hSw; (try dsimp only at hSw); go_simp; try rfl)
  try simp only [Act.put, List.setIfInBounds_toArray, List.set_cons_zero, List.set_cons_succ, List.getElem_toArray, List.getElem_cons_zero, List.getElem_cons_succ]
  refine wpAnyH_take (i := 16) (v := ?_) rfl (by kernel_rfl) (by kernel_rfl) (by kernel_rfl) (fun _ _ _ h => h) (Or.inl ⟨by rfl, ?_⟩) (by assumption) ?_
  rotate_left
  · (intro w hSw; (try dsimp only at hSw); go_simp; try rfl)
  try simp only [Act.put, List.setIfInBounds_toArray, List.set_cons_zero, List.set_cons_succ, List.getElem_toArray, List.getElem_cons_zero, List.getElem_cons_succ]
  refine wpAnyH_take (i := 17) (v := ?_) rfl (by kernel_rfl) (by kernel_rfl) (by kernel_rfl) (fun _ _ _ h => h) (Or.inl ⟨by rfl, ?_⟩) (by assumption) ?_
  rotate_left
  · (intro w hSw; (try dsimp only at hSw); go_simp; try rfl)
  try simp only [Act.put, List.setIfInBounds_toArray, List.set_cons_zero, List.set_cons_succ, List.getElem_toArray, List.getElem_cons_zero, List.getElem_cons_succ]
  refine wpAnyH_take (i := 18) (v := ?_) rfl (by kernel_rfl) (by kernel_rfl) (by kernel_rfl) (fun _ _ _ h => h) (Or.inl ⟨by rfl, ?_⟩) (by assumption) ?_
  rotate_left
  · (intro w hSw; (try dsimp only at hSw); go_simp; try rfl)
  try simp only [Act.put, List.setIfInBounds_toArray, List.set_cons_zero, List.set_cons_succ, List.getElem_toArray, List.getElem_cons_zero, List.getElem_cons_succ]
  refine wpAnyH_take (i := 19) (v := ?_) rfl (by kernel_rfl) (by kernel_rfl) (by kernel_rfl) (fun _ _ _ h => h) (Or.inl ⟨by rfl, ?_⟩) (by assumption) ?_
  rotate_left
  · (intro w hSw; (try dsimp only at hSw); go_simp; try rfl)
  try simp only [Act.put, List.setIfInBounds_toArray, List.set_cons_zero, List.set_cons_succ, List.getElem_toArray, List.getElem_cons_zero, List.getElem_cons_succ]
  refine wpAnyH_take (i := 20) (v := ?_) rfl (by kernel_rfl) (by kernel_rfl) (by kernel_rfl) (fun _ _ _ h => h) (Or.inl ⟨by rfl, ?_⟩) (by assumption) ?_
  rotate_left
  · (intro w hSw; (try dsimp only at hSw); go_simp; try rfl)
  try simp only [Act.put, List.setIfInBounds_toArray, List.set_cons_zero, List.set_cons_succ, List.getElem_toArray, List.getElem_cons_zero, List.getElem_cons_succ]
  refine wpAnyH_take (i := 21) (v := ?_) rfl (by kernel_rfl) (by kernel_rfl) (by kernel_rfl) (fun _ _ _ h => h) (Or.inl ⟨by rfl, ?_⟩) (by assumption) ?_
  rotate_left
  · (intro w hSw; (try dsimp only at hSw); go_simp; try rfl)
  try simp only [Act.put, List.setIfInBounds_toArray, List.set_cons_zero, List.set_cons_succ, List.getElem_toArray, List.getElem_cons_zero, List.getElem_cons_succ]
  refine wpAnyH_ready (rs := [22]) (by kernel_rfl) (by simp) ?_
  refine (AllReadyH.cons rfl (fun K hK => ?_) AllReadyH.nil)
  go_simp
  (go_at_call 30; go_split_ands; refine (HCn.out _ (by assumption)).mono ?_; rintro e w1 ⟨rfl, rfl⟩)
  refine hK.out _ _ ?_ (fun hHeld => ?_)
  · ((first
  | exact HC.out _ (Below.refl _ _)
  | exact HC.out _ (Below.refl _ _).drew
  | (go_split_ands; exact HC.out _ (by assumption))
  | fail))
  clear hK K
  try simp only [Act.put, List.setIfInBounds_toArray, List.set_cons_zero, List.set_cons_succ, List.getElem_toArray, List.getElem_cons_zero, List.getElem_cons_succ]
  refine wpAnyH_take (i := 23) (v := ?_) rfl (by kernel_rfl) (by kernel_rfl) (by kernel_rfl) (fun _ _ _ h => h) (Or.inl ⟨by rfl, ?_⟩) (by assumption) ?_
  rotate_left
  · (intro w hSw; (try dsimp only at hSw); go_simp; try rfl)
  try simp only [Act.put, List.setIfInBounds_toArray, List.set_cons_zero, List.set_cons_succ, List.getElem_toArray, List.getElem_cons_zero, List.getElem_cons_succ]
  refine wpAnyH_done (by kernel_rfl) ?_ _
  clear HC HCn
  go_wp2_with fail
  have HV1 := Lib.hid (HV0.out.below (Below.refl X.heap.size X).drew)
  have HM1 : Hid (Bk X.drew w.heap.size 44 [.int .i64 n0, .int .i64 n1, .int .i64 n2, .int .i64 n3, .int .i64 n4, .int .i64 n5, .int .i64 n6, .int .i64 n7, .int .i64 n8, .int .i64 n9, .int .i64 n10, .int .i64 n11, .int .i64 n12, .int .i64 n13, .int .i64 n14, .int .i64 n15, .string n16, .string n17, .int .i64 n18, .int .i64 n19, .int .i64 n20, .int .i64 n21, .slice ua M uc, .int .i64 n23, .slice a1 d1 c1, .slice a2 d2 c2, .slice a3 d3 c3]) := Lib.hid (HM.out.below (Below.refl X.heap.size X).drew)
  have HB1 := Lib.hid ((Below.drewB HBX.out).mono (show B ≤ w.heap.size by have := HV00.out.lo; omega))
  have HK1 : Hid (Kt w X.drew) := Lib.hid (Kt.below (Below.drewB HBX.out))
  clear HV0 HM HBX hHeld
  generalize hX1 : X.drew = X1 at *
  clear hX1
  have HVy := Lib.hid (HV1.out.below (Below.refl X1.heap.size X1).drew)
  have HBy := Lib.hid (Below.drewB HB1.out)
  have HKy : Hid (Kt w X1.drew) := Lib.hid (HK1.out.trans (Kt.below (Below.refl X1.heap.size X1).drew))
  have HMy : Hid (Bk X1.drew w.heap.size 44 [.int .i64 n0, .int .i64 n1, .int .i64 n2, .int .i64 n3, .int .i64 n4, .int .i64 n5, .int .i64 n6, .int .i64 n7, .int .i64 n8, .int .i64 n9, .int .i64 n10, .int .i64 n11, .int .i64 n12, .int .i64 n13, .int .i64 n14, .int .i64 n15, .string n16, .string n17, .int .i64 n18, .int .i64 n19, .int .i64 n20, .int .i64 n21, .slice ua M uc, .int .i64 n23, .slice a1 d1 c1, .slice a2 d2 c2, .slice a3 d3 c3]) := Lib.hid (HM1.out.below (Below.refl X1.heap.size X1).drew)
  have hgY := HVy.out.bk.lt
  have y22 : X1.drew.cell? ⟨g, 22, none⟩ = some (.slice aw nw cw) := HVy.out.cell 22
  have hbA : Below X1.drew.heap.size X1.drew ((X1.alloc (.cells #[.int .i64 n1] 3)).drew) := (Below.refl X1.drew.heap.size X1.drew).alloc (Nat.le_refl _) (.cells #[.int .i64 n1] 3)
  have hgA : Gb X1.drew g (Value.slice aw nw cw).ownBlock ((X1.alloc (.cells #[.int .i64 n1] 3)).drew) := Gb.below hbA
  have y22b : ((X1.alloc (.cells #[.int .i64 n1] 3)).drew).cell? ⟨g, 22, none⟩ = some (.slice aw nw cw) := (hbA.cell (p := ⟨g, 22, none⟩) hgY).trans y22
  have HOA : Hid (OwnI ((X1.alloc (.cells #[.int .i64 n1] 3)).drew) Bw (.slice aw nw cw) L.who) := Lib.hid (OwnI.below HVy.out.who hbA)
  have HIA : Hid (It ((X1.alloc (.cells #[.int .i64 n1] 3)).drew) (.slice (some ⟨X1.heap.size, 0, none⟩) 1 1) [n1]) := Lib.hid ((it_one X1 n1 _ rfl).below (Below.refl _ _).drew)
  have HSA : Hid (Bw ≤ ((X1.alloc (.cells #[.int .i64 n1] 3)).drew).heap.size) := Lib.hid (Nat.le_trans HVy.out.sz hbA.size)
  have HNY : Hid (w.heap.size < X1.drew.heap.size ∧ w.heap.size ≠ g ∧ some w.heap.size ≠ (Value.slice aw nw cw).ownBlock) := Lib.hid ⟨HMy.out.lt, (by omega), fun e => HasT.ne ⟨_, _, HMy.out⟩ (HVy.out.rowW.ty _ e.symm) (by decide) rfl⟩
  have HC3 : Hid (∀ w' : World, Gb X1.drew g (Value.slice aw nw cw).ownBlock w' → w'.cell? ⟨w.heap.size, 1, none⟩ = some (.int .i64 n1)) := Lib.hid fun w' hb => by
    have q : Bk w' w.heap.size 44 [.int .i64 n0, .int .i64 n1, .int .i64 n2, .int .i64 n3, .int .i64 n4, .int .i64 n5, .int .i64 n6, .int .i64 n7, .int .i64 n8, .int .i64 n9, .int .i64 n10, .int .i64 n11, .int .i64 n12, .int .i64 n13, .int .i64 n14, .int .i64 n15, .string n16, .string n17, .int .i64 n18, .int .i64 n19, .int .i64 n20, .int .i64 n21, .slice ua M uc, .int .i64 n23, .slice a1 d1 c1, .slice a2 d2 c2, .slice a3 d3 c3] := (hb.block _ HNY.out.1 HNY.out.2.1 HNY.out.2.2).trans HMy.out
    exact q.cell 1
  clear HM1 HB1 HV1
  refine wp_region_held_drew (S := (fun w' => w'.cell? ⟨w.heap.size, 1, none⟩ = some (.int .i64 n1))) (by kernel_rfl) ?_ (fun hHeld => ?_)
  · ((first
    | exact HC3.out _ hg3s
    | exact HC3.out _ hg3
    | exact HC3.out _ (Gb.refl _ _ _)
    | exact HC3.out _ hgA
    | fail))
  refine wpAnyH_take (i := 0) (v := ?_) rfl (by kernel_rfl) (by kernel_rfl) (by kernel_rfl) (fun _ _ _ h => h) (Or.inl ⟨by rfl, ?_⟩) (by assumption) ?_
  rotate_left
  · (intro w hSw; (try dsimp only at hSw); go_simp; try rfl)
  try simp only [Act.put, List.setIfInBounds_toArray, List.set_cons_zero, List.set_cons_succ, List.getElem_toArray, List.getElem_cons_zero, List.getElem_cons_succ]
  refine wpAnyH_take (i := 1) (v := ?_) rfl (by kernel_rfl) (by kernel_rfl) (by kernel_rfl) (fun _ _ _ h => h) (Or.inl ⟨by rfl, ?_⟩) (by assumption) ?_
  rotate_left
  · (intro w hSw; (try dsimp only at hSw); go_simp; try rfl)
  try simp only [Act.put, List.setIfInBounds_toArray, List.set_cons_zero, List.set_cons_succ, List.getElem_toArray, List.getElem_cons_zero, List.getElem_cons_succ]
  refine wpAnyH_take (i := 2) (v := ?_) rfl (by kernel_rfl) (by kernel_rfl) (by kernel_rfl) (fun _ _ _ h => h) (Or.inl ⟨by rfl, ?_⟩) (by assumption) ?_
  rotate_left
  · (intro w hSw; (try dsimp only at hSw); go_simp; try rfl)
  try simp only [Act.put, List.setIfInBounds_toArray, List.set_cons_zero, List.set_cons_succ, List.getElem_toArray, List.getElem_cons_zero, List.getElem_cons_succ]
  refine wpAnyH_take (i := 3) (v := ?_) rfl (by kernel_rfl) (by kernel_rfl) (by kernel_rfl) (fun _ _ _ h => h) (Or.inl ⟨by rfl, ?_⟩) (by assumption) ?_
  rotate_left
  · (intro w hSw; (try dsimp only at hSw); go_simp; try rfl)
  try simp only [Act.put, List.setIfInBounds_toArray, List.set_cons_zero, List.set_cons_succ, List.getElem_toArray, List.getElem_cons_zero, List.getElem_cons_succ]
  refine wpAnyH_take (i := 5) (v := ?_) rfl (by kernel_rfl) (by kernel_rfl) (by kernel_rfl) (fun _ _ _ h => h) (Or.inl ⟨by rfl, ?_⟩) (by assumption) ?_
  rotate_left
  · (intro w hSw; (try dsimp only at hSw); go_simp; try rfl)
  try simp only [Act.put, List.setIfInBounds_toArray, List.set_cons_zero, List.set_cons_succ, List.getElem_toArray, List.getElem_cons_zero, List.getElem_cons_succ]
  refine wpAnyH_take (i := 6) (v := ?_) rfl (by kernel_rfl) (by kernel_rfl) (by kernel_rfl) (fun _ _ _ h => h) (Or.inl ⟨by rfl, ?_⟩) (by assumption) ?_
  rotate_left
  · (intro w hSw; (try dsimp only at hSw); go_simp; try rfl)
  try simp only [Act.put, List.setIfInBounds_toArray, List.set_cons_zero, List.set_cons_succ, List.getElem_toArray, List.getElem_cons_zero, List.getElem_cons_succ]
  refine wpAnyH_ready (rs := [4, 7]) (by kernel_rfl) (by simp) ?_
  refine (AllReadyH.cons rfl (fun K hK => ?_) (AllReadyH.cons rfl (fun K hK => ?_) AllReadyH.nil))
  ·
    go_simp
    refine hK.out _ _ ?_ (fun hHeld => ?_)
    · ((first
    | exact HC3.out _ hg3s
    | exact HC3.out _ hg3
    | exact HC3.out _ (Gb.refl _ _ _)
    | exact HC3.out _ hgA
    | fail))
    clear hK K
    try simp only [Act.put, List.setIfInBounds_toArray, List.set_cons_zero, List.set_cons_succ, List.getElem_toArray, List.getElem_cons_zero, List.getElem_cons_succ]
    refine wpAnyH_ready (rs := [7]) (by kernel_rfl) (by simp) ?_
    refine (AllReadyH.cons rfl (fun K hK => ?_) AllReadyH.nil)
    go_simp
    refine hK.out _ _ ?_ (fun hHeld => ?_)
    · ((first
    | exact HC3.out _ hg3s
    | exact HC3.out _ hg3
    | exact HC3.out _ (Gb.refl _ _ _)
    | exact HC3.out _ hgA
    | fail))
    clear hK K
    try simp only [Act.put, List.setIfInBounds_toArray, List.set_cons_zero, List.set_cons_succ, List.getElem_toArray, List.getElem_cons_zero, List.getElem_cons_succ]
    refine wpAnyH_ready (rs := [8]) (by kernel_rfl) (by simp) ?_
    refine (AllReadyH.cons rfl (fun K hK => ?_) AllReadyH.nil)
    refine step_appI rfl _ _ rfl Bw _ _ rfl HOA.out _ [n1] rfl HIA.out HWL.out HSA.out ?_
    intro v3 w3 ho3 hgr3
    rw [HWH.out] at ho3
    obtain ⟨a3b, k3, ev3⟩ := OwnI.slice ho3
    rw [HNH.out] at ev3
    subst ev3
    have hg3 : Gb X1.drew g (Value.slice aw nw cw).ownBlock w3 := hgA.grown hgr3
    have hg3s := hg3.set 22 (.slice a3b nh k3)
    have hbk3 := Gb.bk HVy.out HVy.out.rowW hbA hgr3
    have e22 : w3.cell? ⟨g, 22, none⟩ = some (.slice aw nw cw) := hbk3.cell 22
    have f22 := hbk3.fz 22
    have l22 := hbk3.lt
    refine hK.out _ _ ?_ (fun hHeld => ?_)
    · ((first
    | exact HC3.out _ hg3s
    | exact HC3.out _ hg3
    | exact HC3.out _ (Gb.refl _ _ _)
    | exact HC3.out _ hgA
    | fail))
    clear hK K
    try simp only [Act.put, List.setIfInBounds_toArray, List.set_cons_zero, List.set_cons_succ, List.getElem_toArray, List.getElem_cons_zero, List.getElem_cons_succ]
    refine wpAnyH_take (i := 9) (v := ?_) rfl (by kernel_rfl) (by kernel_rfl) (by kernel_rfl) (fun _ _ _ h => h) (Or.inl ⟨by rfl, ?_⟩) (by assumption) ?_
    rotate_left
    · (intro w hSw; (try dsimp only at hSw); go_simp; try rfl)
    try simp only [Act.put, List.setIfInBounds_toArray, List.set_cons_zero, List.set_cons_succ, List.getElem_toArray, List.getElem_cons_zero, List.getElem_cons_succ]
    refine wpAnyH_take (i := 10) (v := ?_) rfl (by kernel_rfl) (by kernel_rfl) (by kernel_rfl) (fun _ _ _ h => h) (Or.inl ⟨by rfl, ?_⟩) (by assumption) ?_
    rotate_left
    · (intro w hSw; (try dsimp only at hSw); go_simp; try rfl)
    try simp only [Act.put, List.setIfInBounds_toArray, List.set_cons_zero, List.set_cons_succ, List.getElem_toArray, List.getElem_cons_zero, List.getElem_cons_succ]
    refine wpAnyH_ready (rs := [11]) (by kernel_rfl) (by simp) ?_
    refine (AllReadyH.cons rfl (fun K hK => ?_) AllReadyH.nil)
    go_simp
    refine hK.out _ _ ?_ (fun hHeld => ?_)
    · ((first
    | exact HC3.out _ hg3s
    | exact HC3.out _ hg3
    | exact HC3.out _ (Gb.refl _ _ _)
    | exact HC3.out _ hgA
    | fail))
    clear hK K
    try simp only [Act.put, List.setIfInBounds_toArray, List.set_cons_zero, List.set_cons_succ, List.getElem_toArray, List.getElem_cons_zero, List.getElem_cons_succ]
    refine wpAnyH_done (by kernel_rfl) ?_ _
    have HV3 := Lib.hid (HVy.out.whoMore hg3 hbk3 ho3)
    have HM3 : Hid (Bk (w3.setCell ⟨g, 22, none⟩ (.slice a3b nh k3)) w.heap.size 44 [.int .i64 n0, .int .i64 n1, .int .i64 n2, .int .i64 n3, .int .i64 n4, .int .i64 n5, .int .i64 n6, .int .i64 n7, .int .i64 n8, .int .i64 n9, .int .i64 n10, .int .i64 n11, .int .i64 n12, .int .i64 n13, .int .i64 n14, .int .i64 n15, .string n16, .string n17, .int .i64 n18, .int .i64 n19, .int .i64 n20, .int .i64 n21, .slice ua M uc, .int .i64 n23, .slice a1 d1 c1, .slice a2 d2 c2, .slice a3 d3 c3]) := Lib.hid ((hg3s.block w.heap.size HNY.out.1 HNY.out.2.1 HNY.out.2.2).trans HMy.out)
    have HB3 : Hid (Below B w (w3.setCell ⟨g, 22, none⟩ (.slice a3b nh k3))) := Lib.hid (HBy.out.trans (hg3s.toBelow HVy.out.lo (fun k hk => by have := HVy.out.rowW.lo k hk; have := HVy.out.hi; have := HVy.out.lo; omega) (Nat.le_trans HVy.out.lo (Nat.le_of_lt hgY))))
    have HK3 : Hid (Kt w (w3.setCell ⟨g, 22, none⟩ (.slice a3b nh k3))) := Lib.hid (HKy.out.trans (hg3s.kt HVy.out HVy.out.rowW (.inl rfl)))
    clear HC3 hg3 hg3s hbk3 e22 f22 l22 ho3 hgr3 hHeld
    go_wp2_with fail
    generalize hX3 : w3.setCell ⟨g, 22, none⟩ (.slice a3b nh k3) = X3 at *
    clear hX3 HVy HMy HBy HNY hgY
    have HKz : Hid (Kt w X3.drew) := Lib.hid (HK3.out.trans (Kt.below (Below.refl X3.heap.size X3).drew))
    have HVz := Lib.hid (HV3.out.below (Below.refl X3.heap.size X3).drew)
    have HBz := Lib.hid (Below.drewB HB3.out)
    have HMz : Hid (Bk X3.drew w.heap.size 44 [.int .i64 n0, .int .i64 n1, .int .i64 n2, .int .i64 n3, .int .i64 n4, .int .i64 n5, .int .i64 n6, .int .i64 n7, .int .i64 n8, .int .i64 n9, .int .i64 n10, .int .i64 n11, .int .i64 n12, .int .i64 n13, .int .i64 n14, .int .i64 n15, .string n16, .string n17, .int .i64 n18, .int .i64 n19, .int .i64 n20, .int .i64 n21, .slice ua M uc, .int .i64 n23, .slice a1 d1 c1, .slice a2 d2 c2, .slice a3 d3 c3]) := Lib.hid (HM3.out.below (Below.refl X3.heap.size X3).drew)
    have hgZ := HVz.out.bk.lt
    have z23 : X3.drew.cell? ⟨g, 23, none⟩ = some (.slice ah nq ch) := HVz.out.cell 23
    have HNZ : Hid (w.heap.size < X3.drew.heap.size ∧ w.heap.size ≠ g ∧ some w.heap.size ≠ (Value.slice ah nq ch).ownBlock) := Lib.hid ⟨HMz.out.lt, (by omega), fun e => HasT.ne ⟨_, _, HMz.out⟩ (HVz.out.rowH.ty _ e.symm) (by decide) rfl⟩
    have HC4 : Hid (∀ w' : World, Gb X3.drew g (Value.slice ah nq ch).ownBlock w' → w'.cell? ⟨w.heap.size, 8, none⟩ = some (.int .i64 n8) ∧ w'.cell? ⟨w.heap.size, 9, none⟩ = some (.int .i64 n9) ∧ w'.cell? ⟨w.heap.size, 10, none⟩ = some (.int .i64 n10) ∧ w'.cell? ⟨w.heap.size, 11, none⟩ = some (.int .i64 n11) ∧ w'.cell? ⟨w.heap.size, 12, none⟩ = some (.int .i64 n12) ∧ w'.cell? ⟨w.heap.size, 13, none⟩ = some (.int .i64 n13) ∧ w'.cell? ⟨w.heap.size, 14, none⟩ = some (.int .i64 n14) ∧ w'.cell? ⟨w.heap.size, 15, none⟩ = some (.int .i64 n15) ∧ w'.cell? ⟨w.heap.size, 16, none⟩ = some (.string n16) ∧ w'.cell? ⟨w.heap.size, 17, none⟩ = some (.string n17) ∧ w'.cell? ⟨w.heap.size, 18, none⟩ = some (.int .i64 n18) ∧ w'.cell? ⟨w.heap.size, 19, none⟩ = some (.int .i64 n19) ∧ w'.cell? ⟨w.heap.size, 20, none⟩ = some (.int .i64 n20) ∧ w'.cell? ⟨w.heap.size, 21, none⟩ = some (.int .i64 n21) ∧ w'.cell? ⟨w.heap.size, 22, none⟩ = some (.slice ua M uc)) := Lib.hid fun w' hb => by
      have q : Bk w' w.heap.size 44 [.int .i64 n0, .int .i64 n1, .int .i64 n2, .int .i64 n3, .int .i64 n4, .int .i64 n5, .int .i64 n6, .int .i64 n7, .int .i64 n8, .int .i64 n9, .int .i64 n10, .int .i64 n11, .int .i64 n12, .int .i64 n13, .int .i64 n14, .int .i64 n15, .string n16, .string n17, .int .i64 n18, .int .i64 n19, .int .i64 n20, .int .i64 n21, .slice ua M uc, .int .i64 n23, .slice a1 d1 c1, .slice a2 d2 c2, .slice a3 d3 c3] := (hb.block _ HNZ.out.1 HNZ.out.2.1 HNZ.out.2.2).trans HMz.out
      exact ⟨q.cell 8, q.cell 9, q.cell 10, q.cell 11, q.cell 12, q.cell 13, q.cell 14, q.cell 15, q.cell 16, q.cell 17, q.cell 18, q.cell 19, q.cell 20, q.cell 21, q.cell 22⟩
    have HCI : Hid (Calls Try.prog 47 #[.agg #[.int .i64 n8, .int .i64 n9, .int .i64 n10, .int .i64 n11, .int .i64 n12, .int .i64 n13, .int .i64 n14, .int .i64 n15, .string n16, .string n17, .int .i64 n18, .int .i64 n19, .int .i64 n20, .int .i64 n21, .slice ua M uc]] X3.drew (CiP (⟨n8, (n9, n10), (n11, n12), ⟨n13, n14, n15, n16, n17, n18, n19, n20⟩, n21, dl⟩ : Ist) M X3.drew)) := Lib.hid (ci_any HMl.out (HRD.out _ HBz.out) HML.out)
    obtain ⟨rsH, hr1, hr2, hr3⟩ := HVz.out.heard
    have HROW := Lib.hid (And.intro hr1 (And.intro hr2 hr3))
    have HNR : Hid (rsH.length = nq) := Lib.hid (by
      obtain ⟨a, c, e⟩ := hr1.slice
      simp only [Value.slice.injEq] at e
      exact e.2.1.symm)
    have HWL2 : Hid (∀ y : Cls 15, rsH.length + [y].length ≤ 1000000) := Lib.hid (fun y => by have := HNR.out; have := HNQ.out; simp; omega)
    clear hr1 hr2 hr3 HM3 HMz HV3 HB3
    refine wp_region_held_drew (S := (fun w' => w'.cell? ⟨w.heap.size, 8, none⟩ = some (.int .i64 n8) ∧ w'.cell? ⟨w.heap.size, 9, none⟩ = some (.int .i64 n9) ∧ w'.cell? ⟨w.heap.size, 10, none⟩ = some (.int .i64 n10) ∧ w'.cell? ⟨w.heap.size, 11, none⟩ = some (.int .i64 n11) ∧ w'.cell? ⟨w.heap.size, 12, none⟩ = some (.int .i64 n12) ∧ w'.cell? ⟨w.heap.size, 13, none⟩ = some (.int .i64 n13) ∧ w'.cell? ⟨w.heap.size, 14, none⟩ = some (.int .i64 n14) ∧ w'.cell? ⟨w.heap.size, 15, none⟩ = some (.int .i64 n15) ∧ w'.cell? ⟨w.heap.size, 16, none⟩ = some (.string n16) ∧ w'.cell? ⟨w.heap.size, 17, none⟩ = some (.string n17) ∧ w'.cell? ⟨w.heap.size, 18, none⟩ = some (.int .i64 n18) ∧ w'.cell? ⟨w.heap.size, 19, none⟩ = some (.int .i64 n19) ∧ w'.cell? ⟨w.heap.size, 20, none⟩ = some (.int .i64 n20) ∧ w'.cell? ⟨w.heap.size, 21, none⟩ = some (.int .i64 n21) ∧ w'.cell? ⟨w.heap.size, 22, none⟩ = some (.slice ua M uc))) (by kernel_rfl) ?_ (fun hHeld => ?_)
    · ((first
      | exact HC4.out _ hg6s
      | exact HC4.out _ hg6
      | exact HC4.out _ hg5
      | exact HC4.out _ (hg5.alloc _)
      | exact HC4.out _ (Gb.refl _ _ _)
      | fail))
    refine wpAnyH_take (i := 0) (v := ?_) rfl (by kernel_rfl) (by kernel_rfl) (by kernel_rfl) (fun _ _ _ h => h) (Or.inl ⟨by rfl, ?_⟩) (by assumption) ?_
    rotate_left
    · (intro w hSw; (try dsimp only at hSw); go_simp; try rfl)
    try simp only [Act.put, List.setIfInBounds_toArray, List.set_cons_zero, List.set_cons_succ, List.getElem_toArray, List.getElem_cons_zero, List.getElem_cons_succ]
    refine wpAnyH_take (i := 1) (v := ?_) rfl (by kernel_rfl) (by kernel_rfl) (by kernel_rfl) (fun _ _ _ h => h) (Or.inl ⟨by rfl, ?_⟩) (by assumption) ?_
    rotate_left
    · (intro w hSw; (try dsimp only at hSw); go_simp; try rfl)
    try simp only [Act.put, List.setIfInBounds_toArray, List.set_cons_zero, List.set_cons_succ, List.getElem_toArray, List.getElem_cons_zero, List.getElem_cons_succ]
    refine wpAnyH_take (i := 2) (v := ?_) rfl (by kernel_rfl) (by kernel_rfl) (by kernel_rfl) (fun _ _ _ h => h) (Or.inl ⟨by rfl, ?_⟩) (by assumption) ?_
    rotate_left
    · (intro w hSw; (try dsimp only at hSw); go_simp; try rfl)
    try simp only [Act.put, List.setIfInBounds_toArray, List.set_cons_zero, List.set_cons_succ, List.getElem_toArray, List.getElem_cons_zero, List.getElem_cons_succ]
    refine wpAnyH_take (i := 3) (v := ?_) rfl (by kernel_rfl) (by kernel_rfl) (by kernel_rfl) (fun _ _ _ h => h) (Or.inl ⟨by rfl, ?_⟩) (by assumption) ?_
    rotate_left
    · (intro w hSw; (try dsimp only at hSw); go_simp; try rfl)
    try simp only [Act.put, List.setIfInBounds_toArray, List.set_cons_zero, List.set_cons_succ, List.getElem_toArray, List.getElem_cons_zero, List.getElem_cons_succ]
    refine wpAnyH_take (i := 5) (v := ?_) rfl (by kernel_rfl) (by kernel_rfl) (by kernel_rfl) (fun _ _ _ h => h) (Or.inl ⟨by rfl, ?_⟩) (by assumption) ?_
    rotate_left
    · (intro w hSw; (try dsimp only at hSw); go_simp; try rfl)
    try simp only [Act.put, List.setIfInBounds_toArray, List.set_cons_zero, List.set_cons_succ, List.getElem_toArray, List.getElem_cons_zero, List.getElem_cons_succ]
    refine wpAnyH_take (i := 6) (v := ?_) rfl (by kernel_rfl) (by kernel_rfl) (by kernel_rfl) (fun _ _ _ h => h) (Or.inl ⟨by rfl, ?_⟩) (by assumption) ?_
    rotate_left
    · (intro w hSw; (try dsimp only at hSw); go_simp; try rfl)
    try simp only [Act.put, List.setIfInBounds_toArray, List.set_cons_zero, List.set_cons_succ, List.getElem_toArray, List.getElem_cons_zero, List.getElem_cons_succ]
    refine wpAnyH_ready (rs := [4, 7]) (by kernel_rfl) (by simp) ?_
    refine (AllReadyH.cons rfl (fun K hK => ?_) (AllReadyH.cons rfl (fun K hK => ?_) AllReadyH.nil))
    ·
      go_simp
      refine hK.out _ _ ?_ (fun hHeld => ?_)
      · ((first
      | exact HC4.out _ hg6s
      | exact HC4.out _ hg6
      | exact HC4.out _ hg5
      | exact HC4.out _ (hg5.alloc _)
      | exact HC4.out _ (Gb.refl _ _ _)
      | fail))
      clear hK K
      try simp only [Act.put, List.setIfInBounds_toArray, List.set_cons_zero, List.set_cons_succ, List.getElem_toArray, List.getElem_cons_zero, List.getElem_cons_succ]
      refine wpAnyH_ready (rs := [7]) (by kernel_rfl) (by simp) ?_
      refine (AllReadyH.cons rfl (fun K hK => ?_) AllReadyH.nil)
      go_simp
      (go_at_call 47; refine HCI.out.mono ?_; rintro e w5 ⟨a5, k5, he5, ho5, hb5⟩; have he5 := he5.out; subst he5; have hg5 : Gb X3.drew g (Value.slice ah nq ch).ownBlock w5 := Gb.below hb5; have z23b : w5.cell? ⟨g, 23, none⟩ = some (.slice ah nq ch) := (hb5.cell (p := ⟨g, 23, none⟩) hgZ).trans z23; have hgw5 : g < w5.heap.size := Nat.lt_of_lt_of_le hgZ hb5.size; have z23c : (w5.alloc (.cells #[.int .i64 n8, .int .i64 n9, .int .i64 n10, .int .i64 n11, .int .i64 n12, .int .i64 n13, .int .i64 n14, .int .i64 n15, .string n16, .string n17, .int .i64 n18, .int .i64 n19, .int .i64 n20, .int .i64 n21, .slice a5 M k5] 38)).cell? ⟨g, 23, none⟩ = some (.slice ah nq ch) := (old_cell _ _ _ _ hgw5).trans z23b)
      refine hK.out _ _ ?_ (fun hHeld => ?_)
      · ((first
      | exact HC4.out _ hg6s
      | exact HC4.out _ hg6
      | exact HC4.out _ hg5
      | exact HC4.out _ (hg5.alloc _)
      | exact HC4.out _ (Gb.refl _ _ _)
      | fail))
      clear hK K
      try simp only [Act.put, List.setIfInBounds_toArray, List.set_cons_zero, List.set_cons_succ, List.getElem_toArray, List.getElem_cons_zero, List.getElem_cons_succ]
      refine wpAnyH_ready (rs := [8]) (by kernel_rfl) (by simp) ?_
      refine (AllReadyH.cons rfl (fun K hK => ?_) AllReadyH.nil)
      go_simp
      refine hK.out _ _ ?_ (fun hHeld => ?_)
      · ((first
      | exact HC4.out _ hg6s
      | exact HC4.out _ hg6
      | exact HC4.out _ hg5
      | exact HC4.out _ (hg5.alloc _)
      | exact HC4.out _ (Gb.refl _ _ _)
      | fail))
      clear hK K
      try simp only [Act.put, List.setIfInBounds_toArray, List.set_cons_zero, List.set_cons_succ, List.getElem_toArray, List.getElem_cons_zero, List.getElem_cons_succ]
      refine wpAnyH_ready (rs := [9]) (by kernel_rfl) (by simp) ?_
      refine (AllReadyH.cons rfl (fun K hK => ?_) AllReadyH.nil)
      refine KX.step_app rfl _ _ rfl Bw _ rsH rfl ((HROW.out.1.below hb5).below ((Below.refl _ _).alloc (Nat.le_refl _) _)) _ [⟨inE (⟨n8, (n9, n10), (n11, n12), ⟨n13, n14, n15, n16, n17, n18, n19, n20⟩, n21, dl⟩ : Ist) (.slice a5 M k5), rfl, inE_one rfl⟩] rfl (KX.rd_boxAt _ _ 1 _ _ rfl) (HWL2.out _) (Nat.le_trans HVz.out.sz (Nat.le_trans hb5.size (by simp))) ?_
      intro v6 w6 ho6 hgr6
      obtain ⟨a6, k6, ev6⟩ := ho6.slice
      simp only [List.length_append, List.length_singleton] at ev6
      rw [HNR.out] at ev6
      subst ev6
      have hg6 : Gb X3.drew g (Value.slice ah nq ch).ownBlock w6 := ((Gb.below hb5).alloc _).grown hgr6
      have hg6s := hg6.set 23 (.slice a6 (nq + 1) k6)
      have hbk6 := Gb.bk HVz.out HVz.out.rowH (hb5.alloc hb5.size (.cells #[.int .i64 n8, .int .i64 n9, .int .i64 n10, .int .i64 n11, .int .i64 n12, .int .i64 n13, .int .i64 n14, .int .i64 n15, .string n16, .string n17, .int .i64 n18, .int .i64 n19, .int .i64 n20, .int .i64 n21, .slice a5 M k5] 38)) hgr6
      have e23 : w6.cell? ⟨g, 23, none⟩ = some (.slice ah nq ch) := hbk6.cell 23
      have f23 := hbk6.fz 23
      have l23 := hbk6.lt
      refine hK.out _ _ ?_ (fun hHeld => ?_)
      · ((first
      | exact HC4.out _ hg6s
      | exact HC4.out _ hg6
      | exact HC4.out _ hg5
      | exact HC4.out _ (hg5.alloc _)
      | exact HC4.out _ (Gb.refl _ _ _)
      | fail))
      clear hK K
      try simp only [Act.put, List.setIfInBounds_toArray, List.set_cons_zero, List.set_cons_succ, List.getElem_toArray, List.getElem_cons_zero, List.getElem_cons_succ]
      refine wpAnyH_take (i := 10) (v := ?_) rfl (by kernel_rfl) (by kernel_rfl) (by kernel_rfl) (fun _ _ _ h => h) (Or.inl ⟨by rfl, ?_⟩) (by assumption) ?_
      rotate_left
      · (intro w hSw; (try dsimp only at hSw); go_simp; try rfl)
      try simp only [Act.put, List.setIfInBounds_toArray, List.set_cons_zero, List.set_cons_succ, List.getElem_toArray, List.getElem_cons_zero, List.getElem_cons_succ]
      refine wpAnyH_take (i := 11) (v := ?_) rfl (by kernel_rfl) (by kernel_rfl) (by kernel_rfl) (fun _ _ _ h => h) (Or.inl ⟨by rfl, ?_⟩) (by assumption) ?_
      rotate_left
      · (intro w hSw; (try dsimp only at hSw); go_simp; try rfl)
      try simp only [Act.put, List.setIfInBounds_toArray, List.set_cons_zero, List.set_cons_succ, List.getElem_toArray, List.getElem_cons_zero, List.getElem_cons_succ]
      refine wpAnyH_ready (rs := [12]) (by kernel_rfl) (by simp) ?_
      refine (AllReadyH.cons rfl (fun K hK => ?_) AllReadyH.nil)
      go_simp
      refine hK.out _ _ ?_ (fun hHeld => ?_)
      · ((first
      | exact HC4.out _ hg6s
      | exact HC4.out _ hg6
      | exact HC4.out _ hg5
      | exact HC4.out _ (hg5.alloc _)
      | exact HC4.out _ (Gb.refl _ _ _)
      | fail))
      clear hK K
      try simp only [Act.put, List.setIfInBounds_toArray, List.set_cons_zero, List.set_cons_succ, List.getElem_toArray, List.getElem_cons_zero, List.getElem_cons_succ]
      refine wpAnyH_done (by kernel_rfl) ?_ _
      have hy5 : HIs w5 B (inE (⟨n8, (n9, n10), (n11, n12), ⟨n13, n14, n15, n16, n17, n18, n19, n20⟩, n21, dl⟩ : Ist) (.slice a5 M k5)) (⟨n8, (n9, n10), (n11, n12), ⟨n13, n14, n15, n16, n17, n18, n19, n20⟩, n21, dl⟩ : Ist) := ⟨_, rfl, ho5.base (Nat.le_trans HVz.out.lo (Nat.le_of_lt hgZ)), HOKD.out⟩
      have hV6 := (HVz.out.below hb5).heardMore (((Gb.refl w5 g (Value.slice ah nq ch).ownBlock).alloc (.cells #[.int .i64 n8, .int .i64 n9, .int .i64 n10, .int .i64 n11, .int .i64 n12, .int .i64 n13, .int .i64 n14, .int .i64 n15, .string n16, .string n17, .int .i64 n18, .int .i64 n19, .int .i64 n20, .int .i64 n21, .slice a5 M k5] 38)).grown hgr6) hbk6 ho6 HROW.out.2.1 (fun j p q => (HROW.out.2.2 j p q).keep (fun k cs fr r => hb5.block k (Array.getElem?_eq_some_iff.1 r).1)) hy5
      rw [← HWH.out] at hV6
      have HV6 := Lib.hid hV6
      have HBf := Lib.hid (HBz.out.trans (hg6s.toBelow HVz.out.lo (fun k hk => by have := HVz.out.rowH.lo k hk; have := HVz.out.hi; have := HVz.out.lo; omega) (Nat.le_trans HVz.out.lo (Nat.le_of_lt hgZ))))
      have HKf := Lib.hid (HKz.out.trans (hg6s.kt HVz.out HVz.out.rowH (.inr rfl)))
      clear HC4 HCI hg6 hg6s hbk6 e23 f23 ho6 hgr6 hb5 ho5 hg5 z23b z23c hV6 hy5 l23 hgw5
      go_wp2
      go_ret
      exact ⟨rfl, ⟨Bw, vn, vd, _, _, HV6.out⟩, HBf.out, HKf.out⟩
    ·
      go_simp
      (go_at_call 47; refine HCI.out.mono ?_; rintro e w5 ⟨a5, k5, he5, ho5, hb5⟩; have he5 := he5.out; subst he5; have hg5 : Gb X3.drew g (Value.slice ah nq ch).ownBlock w5 := Gb.below hb5; have z23b : w5.cell? ⟨g, 23, none⟩ = some (.slice ah nq ch) := (hb5.cell (p := ⟨g, 23, none⟩) hgZ).trans z23; have hgw5 : g < w5.heap.size := Nat.lt_of_lt_of_le hgZ hb5.size; have z23c : (w5.alloc (.cells #[.int .i64 n8, .int .i64 n9, .int .i64 n10, .int .i64 n11, .int .i64 n12, .int .i64 n13, .int .i64 n14, .int .i64 n15, .string n16, .string n17, .int .i64 n18, .int .i64 n19, .int .i64 n20, .int .i64 n21, .slice a5 M k5] 38)).cell? ⟨g, 23, none⟩ = some (.slice ah nq ch) := (old_cell _ _ _ _ hgw5).trans z23b)
      refine hK.out _ _ ?_ (fun hHeld => ?_)
      · ((first
      | exact HC4.out _ hg6s
      | exact HC4.out _ hg6
      | exact HC4.out _ hg5
      | exact HC4.out _ (hg5.alloc _)
      | exact HC4.out _ (Gb.refl _ _ _)
      | fail))
      clear hK K
      try simp only [Act.put, List.setIfInBounds_toArray, List.set_cons_zero, List.set_cons_succ, List.getElem_toArray, List.getElem_cons_zero, List.getElem_cons_succ]
      refine wpAnyH_ready (rs := [4, 8]) (by kernel_rfl) (by simp) ?_
      refine (AllReadyH.cons rfl (fun K hK => ?_) (AllReadyH.cons rfl (fun K hK => ?_) AllReadyH.nil))
      ·
        go_simp
        refine hK.out _ _ ?_ (fun hHeld => ?_)
        · ((first
      | exact HC4.out _ hg6s
      | exact HC4.out _ hg6
      | exact HC4.out _ hg5
      | exact HC4.out _ (hg5.alloc _)
      | exact HC4.out _ (Gb.refl _ _ _)
      | fail))
        clear hK K
        try simp only [Act.put, List.setIfInBounds_toArray, List.set_cons_zero, List.set_cons_succ, List.getElem_toArray, List.getElem_cons_zero, List.getElem_cons_succ]
        refine wpAnyH_ready (rs := [8]) (by kernel_rfl) (by simp) ?_
        refine (AllReadyH.cons rfl (fun K hK => ?_) AllReadyH.nil)
        go_simp
        refine hK.out _ _ ?_ (fun hHeld => ?_)
        · ((first
      | exact HC4.out _ hg6s
      | exact HC4.out _ hg6
      | exact HC4.out _ hg5
      | exact HC4.out _ (hg5.alloc _)
      | exact HC4.out _ (Gb.refl _ _ _)
      | fail))
        clear hK K
        try simp only [Act.put, List.setIfInBounds_toArray, List.set_cons_zero, List.set_cons_succ, List.getElem_toArray, List.getElem_cons_zero, List.getElem_cons_succ]
        refine wpAnyH_ready (rs := [9]) (by kernel_rfl) (by simp) ?_
        refine (AllReadyH.cons rfl (fun K hK => ?_) AllReadyH.nil)
        refine KX.step_app rfl _ _ rfl Bw _ rsH rfl ((HROW.out.1.below hb5).below ((Below.refl _ _).alloc (Nat.le_refl _) _)) _ [⟨inE (⟨n8, (n9, n10), (n11, n12), ⟨n13, n14, n15, n16, n17, n18, n19, n20⟩, n21, dl⟩ : Ist) (.slice a5 M k5), rfl, inE_one rfl⟩] rfl (KX.rd_boxAt _ _ 1 _ _ rfl) (HWL2.out _) (Nat.le_trans HVz.out.sz (Nat.le_trans hb5.size (by simp))) ?_
        intro v6 w6 ho6 hgr6
        obtain ⟨a6, k6, ev6⟩ := ho6.slice
        simp only [List.length_append, List.length_singleton] at ev6
        rw [HNR.out] at ev6
        subst ev6
        have hg6 : Gb X3.drew g (Value.slice ah nq ch).ownBlock w6 := ((Gb.below hb5).alloc _).grown hgr6
        have hg6s := hg6.set 23 (.slice a6 (nq + 1) k6)
        have hbk6 := Gb.bk HVz.out HVz.out.rowH (hb5.alloc hb5.size (.cells #[.int .i64 n8, .int .i64 n9, .int .i64 n10, .int .i64 n11, .int .i64 n12, .int .i64 n13, .int .i64 n14, .int .i64 n15, .string n16, .string n17, .int .i64 n18, .int .i64 n19, .int .i64 n20, .int .i64 n21, .slice a5 M k5] 38)) hgr6
        have e23 : w6.cell? ⟨g, 23, none⟩ = some (.slice ah nq ch) := hbk6.cell 23
        have f23 := hbk6.fz 23
        have l23 := hbk6.lt
        refine hK.out _ _ ?_ (fun hHeld => ?_)
        · ((first
      | exact HC4.out _ hg6s
      | exact HC4.out _ hg6
      | exact HC4.out _ hg5
      | exact HC4.out _ (hg5.alloc _)
      | exact HC4.out _ (Gb.refl _ _ _)
      | fail))
        clear hK K
        try simp only [Act.put, List.setIfInBounds_toArray, List.set_cons_zero, List.set_cons_succ, List.getElem_toArray, List.getElem_cons_zero, List.getElem_cons_succ]
        refine wpAnyH_take (i := 10) (v := ?_) rfl (by kernel_rfl) (by kernel_rfl) (by kernel_rfl) (fun _ _ _ h => h) (Or.inl ⟨by rfl, ?_⟩) (by assumption) ?_
        rotate_left
        · (intro w hSw; (try dsimp only at hSw); go_simp; try rfl)
        try simp only [Act.put, List.setIfInBounds_toArray, List.set_cons_zero, List.set_cons_succ, List.getElem_toArray, List.getElem_cons_zero, List.getElem_cons_succ]
        refine wpAnyH_take (i := 11) (v := ?_) rfl (by kernel_rfl) (by kernel_rfl) (by kernel_rfl) (fun _ _ _ h => h) (Or.inl ⟨by rfl, ?_⟩) (by assumption) ?_
        rotate_left
        · (intro w hSw; (try dsimp only at hSw); go_simp; try rfl)
        try simp only [Act.put, List.setIfInBounds_toArray, List.set_cons_zero, List.set_cons_succ, List.getElem_toArray, List.getElem_cons_zero, List.getElem_cons_succ]
        refine wpAnyH_ready (rs := [12]) (by kernel_rfl) (by simp) ?_
        refine (AllReadyH.cons rfl (fun K hK => ?_) AllReadyH.nil)
        go_simp
        refine hK.out _ _ ?_ (fun hHeld => ?_)
        · ((first
      | exact HC4.out _ hg6s
      | exact HC4.out _ hg6
      | exact HC4.out _ hg5
      | exact HC4.out _ (hg5.alloc _)
      | exact HC4.out _ (Gb.refl _ _ _)
      | fail))
        clear hK K
        try simp only [Act.put, List.setIfInBounds_toArray, List.set_cons_zero, List.set_cons_succ, List.getElem_toArray, List.getElem_cons_zero, List.getElem_cons_succ]
        refine wpAnyH_done (by kernel_rfl) ?_ _
        have hy5 : HIs w5 B (inE (⟨n8, (n9, n10), (n11, n12), ⟨n13, n14, n15, n16, n17, n18, n19, n20⟩, n21, dl⟩ : Ist) (.slice a5 M k5)) (⟨n8, (n9, n10), (n11, n12), ⟨n13, n14, n15, n16, n17, n18, n19, n20⟩, n21, dl⟩ : Ist) := ⟨_, rfl, ho5.base (Nat.le_trans HVz.out.lo (Nat.le_of_lt hgZ)), HOKD.out⟩
        have hV6 := (HVz.out.below hb5).heardMore (((Gb.refl w5 g (Value.slice ah nq ch).ownBlock).alloc (.cells #[.int .i64 n8, .int .i64 n9, .int .i64 n10, .int .i64 n11, .int .i64 n12, .int .i64 n13, .int .i64 n14, .int .i64 n15, .string n16, .string n17, .int .i64 n18, .int .i64 n19, .int .i64 n20, .int .i64 n21, .slice a5 M k5] 38)).grown hgr6) hbk6 ho6 HROW.out.2.1 (fun j p q => (HROW.out.2.2 j p q).keep (fun k cs fr r => hb5.block k (Array.getElem?_eq_some_iff.1 r).1)) hy5
        rw [← HWH.out] at hV6
        have HV6 := Lib.hid hV6
        have HBf := Lib.hid (HBz.out.trans (hg6s.toBelow HVz.out.lo (fun k hk => by have := HVz.out.rowH.lo k hk; have := HVz.out.hi; have := HVz.out.lo; omega) (Nat.le_trans HVz.out.lo (Nat.le_of_lt hgZ))))
        have HKf := Lib.hid (HKz.out.trans (hg6s.kt HVz.out HVz.out.rowH (.inr rfl)))
        clear HC4 HCI hg6 hg6s hbk6 e23 f23 ho6 hgr6 hb5 ho5 hg5 z23b z23c hV6 hy5 l23 hgw5
        go_wp2
        go_ret
        exact ⟨rfl, ⟨Bw, vn, vd, _, _, HV6.out⟩, HBf.out, HKf.out⟩
      ·
        go_simp
        refine hK.out _ _ ?_ (fun hHeld => ?_)
        · ((first
      | exact HC4.out _ hg6s
      | exact HC4.out _ hg6
      | exact HC4.out _ hg5
      | exact HC4.out _ (hg5.alloc _)
      | exact HC4.out _ (Gb.refl _ _ _)
      | fail))
        clear hK K
        try simp only [Act.put, List.setIfInBounds_toArray, List.set_cons_zero, List.set_cons_succ, List.getElem_toArray, List.getElem_cons_zero, List.getElem_cons_succ]
        refine wpAnyH_ready (rs := [4]) (by kernel_rfl) (by simp) ?_
        refine (AllReadyH.cons rfl (fun K hK => ?_) AllReadyH.nil)
        go_simp
        refine hK.out _ _ ?_ (fun hHeld => ?_)
        · ((first
      | exact HC4.out _ hg6s
      | exact HC4.out _ hg6
      | exact HC4.out _ hg5
      | exact HC4.out _ (hg5.alloc _)
      | exact HC4.out _ (Gb.refl _ _ _)
      | fail))
        clear hK K
        try simp only [Act.put, List.setIfInBounds_toArray, List.set_cons_zero, List.set_cons_succ, List.getElem_toArray, List.getElem_cons_zero, List.getElem_cons_succ]
        refine wpAnyH_ready (rs := [9]) (by kernel_rfl) (by simp) ?_
        refine (AllReadyH.cons rfl (fun K hK => ?_) AllReadyH.nil)
        refine KX.step_app rfl _ _ rfl Bw _ rsH rfl ((HROW.out.1.below hb5).below ((Below.refl _ _).alloc (Nat.le_refl _) _)) _ [⟨inE (⟨n8, (n9, n10), (n11, n12), ⟨n13, n14, n15, n16, n17, n18, n19, n20⟩, n21, dl⟩ : Ist) (.slice a5 M k5), rfl, inE_one rfl⟩] rfl (KX.rd_boxAt _ _ 1 _ _ rfl) (HWL2.out _) (Nat.le_trans HVz.out.sz (Nat.le_trans hb5.size (by simp))) ?_
        intro v6 w6 ho6 hgr6
        obtain ⟨a6, k6, ev6⟩ := ho6.slice
        simp only [List.length_append, List.length_singleton] at ev6
        rw [HNR.out] at ev6
        subst ev6
        have hg6 : Gb X3.drew g (Value.slice ah nq ch).ownBlock w6 := ((Gb.below hb5).alloc _).grown hgr6
        have hg6s := hg6.set 23 (.slice a6 (nq + 1) k6)
        have hbk6 := Gb.bk HVz.out HVz.out.rowH (hb5.alloc hb5.size (.cells #[.int .i64 n8, .int .i64 n9, .int .i64 n10, .int .i64 n11, .int .i64 n12, .int .i64 n13, .int .i64 n14, .int .i64 n15, .string n16, .string n17, .int .i64 n18, .int .i64 n19, .int .i64 n20, .int .i64 n21, .slice a5 M k5] 38)) hgr6
        have e23 : w6.cell? ⟨g, 23, none⟩ = some (.slice ah nq ch) := hbk6.cell 23
        have f23 := hbk6.fz 23
        have l23 := hbk6.lt
        refine hK.out _ _ ?_ (fun hHeld => ?_)
        · ((first
      | exact HC4.out _ hg6s
      | exact HC4.out _ hg6
      | exact HC4.out _ hg5
      | exact HC4.out _ (hg5.alloc _)
      | exact HC4.out _ (Gb.refl _ _ _)
      | fail))
        clear hK K
        try simp only [Act.put, List.setIfInBounds_toArray, List.set_cons_zero, List.set_cons_succ, List.getElem_toArray, List.getElem_cons_zero, List.getElem_cons_succ]
        refine wpAnyH_take (i := 10) (v := ?_) rfl (by kernel_rfl) (by kernel_rfl) (by kernel_rfl) (fun _ _ _ h => h) (Or.inl ⟨by rfl, ?_⟩) (by assumption) ?_
        rotate_left
        · (intro w hSw; (try dsimp only at hSw); go_simp; try rfl)
        try simp only [Act.put, List.setIfInBounds_toArray, List.set_cons_zero, List.set_cons_succ, List.getElem_toArray, List.getElem_cons_zero, List.getElem_cons_succ]
        refine wpAnyH_take (i := 11) (v := ?_) rfl (by kernel_rfl) (by kernel_rfl) (by kernel_rfl) (fun _ _ _ h => h) (Or.inl ⟨by rfl, ?_⟩) (by assumption) ?_
        rotate_left
        · (intro w hSw; (try dsimp only at hSw); go_simp; try rfl)
        try simp only [Act.put, List.setIfInBounds_toArray, List.set_cons_zero, List.set_cons_succ, List.getElem_toArray, List.getElem_cons_zero, List.getElem_cons_succ]
        refine wpAnyH_ready (rs := [12]) (by kernel_rfl) (by simp) ?_
        refine (AllReadyH.cons rfl (fun K hK => ?_) AllReadyH.nil)
        go_simp
        refine hK.out _ _ ?_ (fun hHeld => ?_)
        · ((first
      | exact HC4.out _ hg6s
      | exact HC4.out _ hg6
      | exact HC4.out _ hg5
      | exact HC4.out _ (hg5.alloc _)
      | exact HC4.out _ (Gb.refl _ _ _)
      | fail))
        clear hK K
        try simp only [Act.put, List.setIfInBounds_toArray, List.set_cons_zero, List.set_cons_succ, List.getElem_toArray, List.getElem_cons_zero, List.getElem_cons_succ]
        refine wpAnyH_done (by kernel_rfl) ?_ _
        have hy5 : HIs w5 B (inE (⟨n8, (n9, n10), (n11, n12), ⟨n13, n14, n15, n16, n17, n18, n19, n20⟩, n21, dl⟩ : Ist) (.slice a5 M k5)) (⟨n8, (n9, n10), (n11, n12), ⟨n13, n14, n15, n16, n17, n18, n19, n20⟩, n21, dl⟩ : Ist) := ⟨_, rfl, ho5.base (Nat.le_trans HVz.out.lo (Nat.le_of_lt hgZ)), HOKD.out⟩
        have hV6 := (HVz.out.below hb5).heardMore (((Gb.refl w5 g (Value.slice ah nq ch).ownBlock).alloc (.cells #[.int .i64 n8, .int .i64 n9, .int .i64 n10, .int .i64 n11, .int .i64 n12, .int .i64 n13, .int .i64 n14, .int .i64 n15, .string n16, .string n17, .int .i64 n18, .int .i64 n19, .int .i64 n20, .int .i64 n21, .slice a5 M k5] 38)).grown hgr6) hbk6 ho6 HROW.out.2.1 (fun j p q => (HROW.out.2.2 j p q).keep (fun k cs fr r => hb5.block k (Array.getElem?_eq_some_iff.1 r).1)) hy5
        rw [← HWH.out] at hV6
        have HV6 := Lib.hid hV6
        have HBf := Lib.hid (HBz.out.trans (hg6s.toBelow HVz.out.lo (fun k hk => by have := HVz.out.rowH.lo k hk; have := HVz.out.hi; have := HVz.out.lo; omega) (Nat.le_trans HVz.out.lo (Nat.le_of_lt hgZ))))
        have HKf := Lib.hid (HKz.out.trans (hg6s.kt HVz.out HVz.out.rowH (.inr rfl)))
        clear HC4 HCI hg6 hg6s hbk6 e23 f23 ho6 hgr6 hb5 ho5 hg5 z23b z23c hV6 hy5 l23 hgw5
        go_wp2
        go_ret
        exact ⟨rfl, ⟨Bw, vn, vd, _, _, HV6.out⟩, HBf.out, HKf.out⟩
  ·
    go_simp
    refine hK.out _ _ ?_ (fun hHeld => ?_)
    · ((first
    | exact HC3.out _ hg3s
    | exact HC3.out _ hg3
    | exact HC3.out _ (Gb.refl _ _ _)
    | exact HC3.out _ hgA
    | fail))
    clear hK K
    try simp only [Act.put, List.setIfInBounds_toArray, List.set_cons_zero, List.set_cons_succ, List.getElem_toArray, List.getElem_cons_zero, List.getElem_cons_succ]
    refine wpAnyH_ready (rs := [4]) (by kernel_rfl) (by simp) ?_
    refine (AllReadyH.cons rfl (fun K hK => ?_) AllReadyH.nil)
    go_simp
    refine hK.out _ _ ?_ (fun hHeld => ?_)
    · ((first
    | exact HC3.out _ hg3s
    | exact HC3.out _ hg3
    | exact HC3.out _ (Gb.refl _ _ _)
    | exact HC3.out _ hgA
    | fail))
    clear hK K
    try simp only [Act.put, List.setIfInBounds_toArray, List.set_cons_zero, List.set_cons_succ, List.getElem_toArray, List.getElem_cons_zero, List.getElem_cons_succ]
    refine wpAnyH_ready (rs := [8]) (by kernel_rfl) (by simp) ?_
    refine (AllReadyH.cons rfl (fun K hK => ?_) AllReadyH.nil)
    refine step_appI rfl _ _ rfl Bw _ _ rfl HOA.out _ [n1] rfl HIA.out HWL.out HSA.out ?_
    intro v3 w3 ho3 hgr3
    rw [HWH.out] at ho3
    obtain ⟨a3b, k3, ev3⟩ := OwnI.slice ho3
    rw [HNH.out] at ev3
    subst ev3
    have hg3 : Gb X1.drew g (Value.slice aw nw cw).ownBlock w3 := hgA.grown hgr3
    have hg3s := hg3.set 22 (.slice a3b nh k3)
    have hbk3 := Gb.bk HVy.out HVy.out.rowW hbA hgr3
    have e22 : w3.cell? ⟨g, 22, none⟩ = some (.slice aw nw cw) := hbk3.cell 22
    have f22 := hbk3.fz 22
    have l22 := hbk3.lt
    refine hK.out _ _ ?_ (fun hHeld => ?_)
    · ((first
    | exact HC3.out _ hg3s
    | exact HC3.out _ hg3
    | exact HC3.out _ (Gb.refl _ _ _)
    | exact HC3.out _ hgA
    | fail))
    clear hK K
    try simp only [Act.put, List.setIfInBounds_toArray, List.set_cons_zero, List.set_cons_succ, List.getElem_toArray, List.getElem_cons_zero, List.getElem_cons_succ]
    refine wpAnyH_take (i := 9) (v := ?_) rfl (by kernel_rfl) (by kernel_rfl) (by kernel_rfl) (fun _ _ _ h => h) (Or.inl ⟨by rfl, ?_⟩) (by assumption) ?_
    rotate_left
    · (intro w hSw; (try dsimp only at hSw); go_simp; try rfl)
    try simp only [Act.put, List.setIfInBounds_toArray, List.set_cons_zero, List.set_cons_succ, List.getElem_toArray, List.getElem_cons_zero, List.getElem_cons_succ]
    refine wpAnyH_take (i := 10) (v := ?_) rfl (by kernel_rfl) (by kernel_rfl) (by kernel_rfl) (fun _ _ _ h => h) (Or.inl ⟨by rfl, ?_⟩) (by assumption) ?_
    rotate_left
    · (intro w hSw; (try dsimp only at hSw); go_simp; try rfl)
    try simp only [Act.put, List.setIfInBounds_toArray, List.set_cons_zero, List.set_cons_succ, List.getElem_toArray, List.getElem_cons_zero, List.getElem_cons_succ]
    refine wpAnyH_ready (rs := [11]) (by kernel_rfl) (by simp) ?_
    refine (AllReadyH.cons rfl (fun K hK => ?_) AllReadyH.nil)
    go_simp
    refine hK.out _ _ ?_ (fun hHeld => ?_)
    · ((first
    | exact HC3.out _ hg3s
    | exact HC3.out _ hg3
    | exact HC3.out _ (Gb.refl _ _ _)
    | exact HC3.out _ hgA
    | fail))
    clear hK K
    try simp only [Act.put, List.setIfInBounds_toArray, List.set_cons_zero, List.set_cons_succ, List.getElem_toArray, List.getElem_cons_zero, List.getElem_cons_succ]
    refine wpAnyH_done (by kernel_rfl) ?_ _
    have HV3 := Lib.hid (HVy.out.whoMore hg3 hbk3 ho3)
    have HM3 : Hid (Bk (w3.setCell ⟨g, 22, none⟩ (.slice a3b nh k3)) w.heap.size 44 [.int .i64 n0, .int .i64 n1, .int .i64 n2, .int .i64 n3, .int .i64 n4, .int .i64 n5, .int .i64 n6, .int .i64 n7, .int .i64 n8, .int .i64 n9, .int .i64 n10, .int .i64 n11, .int .i64 n12, .int .i64 n13, .int .i64 n14, .int .i64 n15, .string n16, .string n17, .int .i64 n18, .int .i64 n19, .int .i64 n20, .int .i64 n21, .slice ua M uc, .int .i64 n23, .slice a1 d1 c1, .slice a2 d2 c2, .slice a3 d3 c3]) := Lib.hid ((hg3s.block w.heap.size HNY.out.1 HNY.out.2.1 HNY.out.2.2).trans HMy.out)
    have HB3 : Hid (Below B w (w3.setCell ⟨g, 22, none⟩ (.slice a3b nh k3))) := Lib.hid (HBy.out.trans (hg3s.toBelow HVy.out.lo (fun k hk => by have := HVy.out.rowW.lo k hk; have := HVy.out.hi; have := HVy.out.lo; omega) (Nat.le_trans HVy.out.lo (Nat.le_of_lt hgY))))
    have HK3 : Hid (Kt w (w3.setCell ⟨g, 22, none⟩ (.slice a3b nh k3))) := Lib.hid (HKy.out.trans (hg3s.kt HVy.out HVy.out.rowW (.inl rfl)))
    clear HC3 hg3 hg3s hbk3 e22 f22 l22 ho3 hgr3 hHeld
    go_wp2_with fail
    generalize hX3 : w3.setCell ⟨g, 22, none⟩ (.slice a3b nh k3) = X3 at *
    clear hX3 HVy HMy HBy HNY hgY
    have HKz : Hid (Kt w X3.drew) := Lib.hid (HK3.out.trans (Kt.below (Below.refl X3.heap.size X3).drew))
    have HVz := Lib.hid (HV3.out.below (Below.refl X3.heap.size X3).drew)
    have HBz := Lib.hid (Below.drewB HB3.out)
    have HMz : Hid (Bk X3.drew w.heap.size 44 [.int .i64 n0, .int .i64 n1, .int .i64 n2, .int .i64 n3, .int .i64 n4, .int .i64 n5, .int .i64 n6, .int .i64 n7, .int .i64 n8, .int .i64 n9, .int .i64 n10, .int .i64 n11, .int .i64 n12, .int .i64 n13, .int .i64 n14, .int .i64 n15, .string n16, .string n17, .int .i64 n18, .int .i64 n19, .int .i64 n20, .int .i64 n21, .slice ua M uc, .int .i64 n23, .slice a1 d1 c1, .slice a2 d2 c2, .slice a3 d3 c3]) := Lib.hid (HM3.out.below (Below.refl X3.heap.size X3).drew)
    have hgZ := HVz.out.bk.lt
    have z23 : X3.drew.cell? ⟨g, 23, none⟩ = some (.slice ah nq ch) := HVz.out.cell 23
    have HNZ : Hid (w.heap.size < X3.drew.heap.size ∧ w.heap.size ≠ g ∧ some w.heap.size ≠ (Value.slice ah nq ch).ownBlock) := Lib.hid ⟨HMz.out.lt, (by omega), fun e => HasT.ne ⟨_, _, HMz.out⟩ (HVz.out.rowH.ty _ e.symm) (by decide) rfl⟩
    have HC4 : Hid (∀ w' : World, Gb X3.drew g (Value.slice ah nq ch).ownBlock w' → w'.cell? ⟨w.heap.size, 8, none⟩ = some (.int .i64 n8) ∧ w'.cell? ⟨w.heap.size, 9, none⟩ = some (.int .i64 n9) ∧ w'.cell? ⟨w.heap.size, 10, none⟩ = some (.int .i64 n10) ∧ w'.cell? ⟨w.heap.size, 11, none⟩ = some (.int .i64 n11) ∧ w'.cell? ⟨w.heap.size, 12, none⟩ = some (.int .i64 n12) ∧ w'.cell? ⟨w.heap.size, 13, none⟩ = some (.int .i64 n13) ∧ w'.cell? ⟨w.heap.size, 14, none⟩ = some (.int .i64 n14) ∧ w'.cell? ⟨w.heap.size, 15, none⟩ = some (.int .i64 n15) ∧ w'.cell? ⟨w.heap.size, 16, none⟩ = some (.string n16) ∧ w'.cell? ⟨w.heap.size, 17, none⟩ = some (.string n17) ∧ w'.cell? ⟨w.heap.size, 18, none⟩ = some (.int .i64 n18) ∧ w'.cell? ⟨w.heap.size, 19, none⟩ = some (.int .i64 n19) ∧ w'.cell? ⟨w.heap.size, 20, none⟩ = some (.int .i64 n20) ∧ w'.cell? ⟨w.heap.size, 21, none⟩ = some (.int .i64 n21) ∧ w'.cell? ⟨w.heap.size, 22, none⟩ = some (.slice ua M uc)) := Lib.hid fun w' hb => by
      have q : Bk w' w.heap.size 44 [.int .i64 n0, .int .i64 n1, .int .i64 n2, .int .i64 n3, .int .i64 n4, .int .i64 n5, .int .i64 n6, .int .i64 n7, .int .i64 n8, .int .i64 n9, .int .i64 n10, .int .i64 n11, .int .i64 n12, .int .i64 n13, .int .i64 n14, .int .i64 n15, .string n16, .string n17, .int .i64 n18, .int .i64 n19, .int .i64 n20, .int .i64 n21, .slice ua M uc, .int .i64 n23, .slice a1 d1 c1, .slice a2 d2 c2, .slice a3 d3 c3] := (hb.block _ HNZ.out.1 HNZ.out.2.1 HNZ.out.2.2).trans HMz.out
      exact ⟨q.cell 8, q.cell 9, q.cell 10, q.cell 11, q.cell 12, q.cell 13, q.cell 14, q.cell 15, q.cell 16, q.cell 17, q.cell 18, q.cell 19, q.cell 20, q.cell 21, q.cell 22⟩
    have HCI : Hid (Calls Try.prog 47 #[.agg #[.int .i64 n8, .int .i64 n9, .int .i64 n10, .int .i64 n11, .int .i64 n12, .int .i64 n13, .int .i64 n14, .int .i64 n15, .string n16, .string n17, .int .i64 n18, .int .i64 n19, .int .i64 n20, .int .i64 n21, .slice ua M uc]] X3.drew (CiP (⟨n8, (n9, n10), (n11, n12), ⟨n13, n14, n15, n16, n17, n18, n19, n20⟩, n21, dl⟩ : Ist) M X3.drew)) := Lib.hid (ci_any HMl.out (HRD.out _ HBz.out) HML.out)
    obtain ⟨rsH, hr1, hr2, hr3⟩ := HVz.out.heard
    have HROW := Lib.hid (And.intro hr1 (And.intro hr2 hr3))
    have HNR : Hid (rsH.length = nq) := Lib.hid (by
      obtain ⟨a, c, e⟩ := hr1.slice
      simp only [Value.slice.injEq] at e
      exact e.2.1.symm)
    have HWL2 : Hid (∀ y : Cls 15, rsH.length + [y].length ≤ 1000000) := Lib.hid (fun y => by have := HNR.out; have := HNQ.out; simp; omega)
    clear hr1 hr2 hr3 HM3 HMz HV3 HB3
    refine wp_region_held_drew (S := (fun w' => w'.cell? ⟨w.heap.size, 8, none⟩ = some (.int .i64 n8) ∧ w'.cell? ⟨w.heap.size, 9, none⟩ = some (.int .i64 n9) ∧ w'.cell? ⟨w.heap.size, 10, none⟩ = some (.int .i64 n10) ∧ w'.cell? ⟨w.heap.size, 11, none⟩ = some (.int .i64 n11) ∧ w'.cell? ⟨w.heap.size, 12, none⟩ = some (.int .i64 n12) ∧ w'.cell? ⟨w.heap.size, 13, none⟩ = some (.int .i64 n13) ∧ w'.cell? ⟨w.heap.size, 14, none⟩ = some (.int .i64 n14) ∧ w'.cell? ⟨w.heap.size, 15, none⟩ = some (.int .i64 n15) ∧ w'.cell? ⟨w.heap.size, 16, none⟩ = some (.string n16) ∧ w'.cell? ⟨w.heap.size, 17, none⟩ = some (.string n17) ∧ w'.cell? ⟨w.heap.size, 18, none⟩ = some (.int .i64 n18) ∧ w'.cell? ⟨w.heap.size, 19, none⟩ = some (.int .i64 n19) ∧ w'.cell? ⟨w.heap.size, 20, none⟩ = some (.int .i64 n20) ∧ w'.cell? ⟨w.heap.size, 21, none⟩ = some (.int .i64 n21) ∧ w'.cell? ⟨w.heap.size, 22, none⟩ = some (.slice ua M uc))) (by kernel_rfl) ?_ (fun hHeld => ?_)
    · ((first
      | exact HC4.out _ hg6s
      | exact HC4.out _ hg6
      | exact HC4.out _ hg5
      | exact HC4.out _ (hg5.alloc _)
      | exact HC4.out _ (Gb.refl _ _ _)
      | fail))
    refine wpAnyH_take (i := 0) (v := ?_) rfl (by kernel_rfl) (by kernel_rfl) (by kernel_rfl) (fun _ _ _ h => h) (Or.inl ⟨by rfl, ?_⟩) (by assumption) ?_
    rotate_left
    · (intro w hSw; (try dsimp only at hSw); go_simp; try rfl)
    try simp only [Act.put, List.setIfInBounds_toArray, List.set_cons_zero, List.set_cons_succ, List.getElem_toArray, List.getElem_cons_zero, List.getElem_cons_succ]
    refine wpAnyH_take (i := 1) (v := ?_) rfl (by kernel_rfl) (by kernel_rfl) (by kernel_rfl) (fun _ _ _ h => h) (Or.inl ⟨by rfl, ?_⟩) (by assumption) ?_
    rotate_left
    · (intro w hSw; (try dsimp only at hSw); go_simp; try rfl)
    try simp only [Act.put, List.setIfInBounds_toArray, List.set_cons_zero, List.set_cons_succ, List.getElem_toArray, List.getElem_cons_zero, List.getElem_cons_succ]
    refine wpAnyH_take (i := 2) (v := ?_) rfl (by kernel_rfl) (by kernel_rfl) (by kernel_rfl) (fun _ _ _ h => h) (Or.inl ⟨by rfl, ?_⟩) (by assumption) ?_
    rotate_left
    · (intro w hSw; (try dsimp only at hSw); go_simp; try rfl)
    try simp only [Act.put, List.setIfInBounds_toArray, List.set_cons_zero, List.set_cons_succ, List.getElem_toArray, List.getElem_cons_zero, List.getElem_cons_succ]
    refine wpAnyH_take (i := 3) (v := ?_) rfl (by kernel_rfl) (by kernel_rfl) (by kernel_rfl) (fun _ _ _ h => h) (Or.inl ⟨by rfl, ?_⟩) (by assumption) ?_
    rotate_left
    · (intro w hSw; (try dsimp only at hSw); go_simp; try rfl)
    try simp only [Act.put, List.setIfInBounds_toArray, List.set_cons_zero, List.set_cons_succ, List.getElem_toArray, List.getElem_cons_zero, List.getElem_cons_succ]
    refine wpAnyH_take (i := 5) (v := ?_) rfl (by kernel_rfl) (by kernel_rfl) (by kernel_rfl) (fun _ _ _ h => h) (Or.inl ⟨by rfl, ?_⟩) (by assumption) ?_
    rotate_left
    · (intro w hSw; (try dsimp only at hSw); go_simp; try rfl)
    try simp only [Act.put, List.setIfInBounds_toArray, List.set_cons_zero, List.set_cons_succ, List.getElem_toArray, List.getElem_cons_zero, List.getElem_cons_succ]
    refine wpAnyH_take (i := 6) (v := ?_) rfl (by kernel_rfl) (by kernel_rfl) (by kernel_rfl) (fun _ _ _ h => h) (Or.inl ⟨by rfl, ?_⟩) (by assumption) ?_
    rotate_left
    · (intro w hSw; (try dsimp only at hSw); go_simp; try rfl)
    try simp only [Act.put, List.setIfInBounds_toArray, List.set_cons_zero, List.set_cons_succ, List.getElem_toArray, List.getElem_cons_zero, List.getElem_cons_succ]
    refine wpAnyH_ready (rs := [4, 7]) (by kernel_rfl) (by simp) ?_
    refine (AllReadyH.cons rfl (fun K hK => ?_) (AllReadyH.cons rfl (fun K hK => ?_) AllReadyH.nil))
    ·
      go_simp
      refine hK.out _ _ ?_ (fun hHeld => ?_)
      · ((first
      | exact HC4.out _ hg6s
      | exact HC4.out _ hg6
      | exact HC4.out _ hg5
      | exact HC4.out _ (hg5.alloc _)
      | exact HC4.out _ (Gb.refl _ _ _)
      | fail))
      clear hK K
      try simp only [Act.put, List.setIfInBounds_toArray, List.set_cons_zero, List.set_cons_succ, List.getElem_toArray, List.getElem_cons_zero, List.getElem_cons_succ]
      refine wpAnyH_ready (rs := [7]) (by kernel_rfl) (by simp) ?_
      refine (AllReadyH.cons rfl (fun K hK => ?_) AllReadyH.nil)
      go_simp
      (go_at_call 47; refine HCI.out.mono ?_; rintro e w5 ⟨a5, k5, he5, ho5, hb5⟩; have he5 := he5.out; subst he5; have hg5 : Gb X3.drew g (Value.slice ah nq ch).ownBlock w5 := Gb.below hb5; have z23b : w5.cell? ⟨g, 23, none⟩ = some (.slice ah nq ch) := (hb5.cell (p := ⟨g, 23, none⟩) hgZ).trans z23; have hgw5 : g < w5.heap.size := Nat.lt_of_lt_of_le hgZ hb5.size; have z23c : (w5.alloc (.cells #[.int .i64 n8, .int .i64 n9, .int .i64 n10, .int .i64 n11, .int .i64 n12, .int .i64 n13, .int .i64 n14, .int .i64 n15, .string n16, .string n17, .int .i64 n18, .int .i64 n19, .int .i64 n20, .int .i64 n21, .slice a5 M k5] 38)).cell? ⟨g, 23, none⟩ = some (.slice ah nq ch) := (old_cell _ _ _ _ hgw5).trans z23b)
      refine hK.out _ _ ?_ (fun hHeld => ?_)
      · ((first
      | exact HC4.out _ hg6s
      | exact HC4.out _ hg6
      | exact HC4.out _ hg5
      | exact HC4.out _ (hg5.alloc _)
      | exact HC4.out _ (Gb.refl _ _ _)
      | fail))
      clear hK K
      try simp only [Act.put, List.setIfInBounds_toArray, List.set_cons_zero, List.set_cons_succ, List.getElem_toArray, List.getElem_cons_zero, List.getElem_cons_succ]
      refine wpAnyH_ready (rs := [8]) (by kernel_rfl) (by simp) ?_
      refine (AllReadyH.cons rfl (fun K hK => ?_) AllReadyH.nil)
      go_simp
      refine hK.out _ _ ?_ (fun hHeld => ?_)
      · ((first
      | exact HC4.out _ hg6s
      | exact HC4.out _ hg6
      | exact HC4.out _ hg5
      | exact HC4.out _ (hg5.alloc _)
      | exact HC4.out _ (Gb.refl _ _ _)
      | fail))
      clear hK K
      try simp only [Act.put, List.setIfInBounds_toArray, List.set_cons_zero, List.set_cons_succ, List.getElem_toArray, List.getElem_cons_zero, List.getElem_cons_succ]
      refine wpAnyH_ready (rs := [9]) (by kernel_rfl) (by simp) ?_
      refine (AllReadyH.cons rfl (fun K hK => ?_) AllReadyH.nil)
      refine KX.step_app rfl _ _ rfl Bw _ rsH rfl ((HROW.out.1.below hb5).below ((Below.refl _ _).alloc (Nat.le_refl _) _)) _ [⟨inE (⟨n8, (n9, n10), (n11, n12), ⟨n13, n14, n15, n16, n17, n18, n19, n20⟩, n21, dl⟩ : Ist) (.slice a5 M k5), rfl, inE_one rfl⟩] rfl (KX.rd_boxAt _ _ 1 _ _ rfl) (HWL2.out _) (Nat.le_trans HVz.out.sz (Nat.le_trans hb5.size (by simp))) ?_
      intro v6 w6 ho6 hgr6
      obtain ⟨a6, k6, ev6⟩ := ho6.slice
      simp only [List.length_append, List.length_singleton] at ev6
      rw [HNR.out] at ev6
      subst ev6
      have hg6 : Gb X3.drew g (Value.slice ah nq ch).ownBlock w6 := ((Gb.below hb5).alloc _).grown hgr6
      have hg6s := hg6.set 23 (.slice a6 (nq + 1) k6)
      have hbk6 := Gb.bk HVz.out HVz.out.rowH (hb5.alloc hb5.size (.cells #[.int .i64 n8, .int .i64 n9, .int .i64 n10, .int .i64 n11, .int .i64 n12, .int .i64 n13, .int .i64 n14, .int .i64 n15, .string n16, .string n17, .int .i64 n18, .int .i64 n19, .int .i64 n20, .int .i64 n21, .slice a5 M k5] 38)) hgr6
      have e23 : w6.cell? ⟨g, 23, none⟩ = some (.slice ah nq ch) := hbk6.cell 23
      have f23 := hbk6.fz 23
      have l23 := hbk6.lt
      refine hK.out _ _ ?_ (fun hHeld => ?_)
      · ((first
      | exact HC4.out _ hg6s
      | exact HC4.out _ hg6
      | exact HC4.out _ hg5
      | exact HC4.out _ (hg5.alloc _)
      | exact HC4.out _ (Gb.refl _ _ _)
      | fail))
      clear hK K
      try simp only [Act.put, List.setIfInBounds_toArray, List.set_cons_zero, List.set_cons_succ, List.getElem_toArray, List.getElem_cons_zero, List.getElem_cons_succ]
      refine wpAnyH_take (i := 10) (v := ?_) rfl (by kernel_rfl) (by kernel_rfl) (by kernel_rfl) (fun _ _ _ h => h) (Or.inl ⟨by rfl, ?_⟩) (by assumption) ?_
      rotate_left
      · (intro w hSw; (try dsimp only at hSw); go_simp; try rfl)
      try simp only [Act.put, List.setIfInBounds_toArray, List.set_cons_zero, List.set_cons_succ, List.getElem_toArray, List.getElem_cons_zero, List.getElem_cons_succ]
      refine wpAnyH_take (i := 11) (v := ?_) rfl (by kernel_rfl) (by kernel_rfl) (by kernel_rfl) (fun _ _ _ h => h) (Or.inl ⟨by rfl, ?_⟩) (by assumption) ?_
      rotate_left
      · (intro w hSw; (try dsimp only at hSw); go_simp; try rfl)
      try simp only [Act.put, List.setIfInBounds_toArray, List.set_cons_zero, List.set_cons_succ, List.getElem_toArray, List.getElem_cons_zero, List.getElem_cons_succ]
      refine wpAnyH_ready (rs := [12]) (by kernel_rfl) (by simp) ?_
      refine (AllReadyH.cons rfl (fun K hK => ?_) AllReadyH.nil)
      go_simp
      refine hK.out _ _ ?_ (fun hHeld => ?_)
      · ((first
      | exact HC4.out _ hg6s
      | exact HC4.out _ hg6
      | exact HC4.out _ hg5
      | exact HC4.out _ (hg5.alloc _)
      | exact HC4.out _ (Gb.refl _ _ _)
      | fail))
      clear hK K
      try simp only [Act.put, List.setIfInBounds_toArray, List.set_cons_zero, List.set_cons_succ, List.getElem_toArray, List.getElem_cons_zero, List.getElem_cons_succ]
      refine wpAnyH_done (by kernel_rfl) ?_ _
      have hy5 : HIs w5 B (inE (⟨n8, (n9, n10), (n11, n12), ⟨n13, n14, n15, n16, n17, n18, n19, n20⟩, n21, dl⟩ : Ist) (.slice a5 M k5)) (⟨n8, (n9, n10), (n11, n12), ⟨n13, n14, n15, n16, n17, n18, n19, n20⟩, n21, dl⟩ : Ist) := ⟨_, rfl, ho5.base (Nat.le_trans HVz.out.lo (Nat.le_of_lt hgZ)), HOKD.out⟩
      have hV6 := (HVz.out.below hb5).heardMore (((Gb.refl w5 g (Value.slice ah nq ch).ownBlock).alloc (.cells #[.int .i64 n8, .int .i64 n9, .int .i64 n10, .int .i64 n11, .int .i64 n12, .int .i64 n13, .int .i64 n14, .int .i64 n15, .string n16, .string n17, .int .i64 n18, .int .i64 n19, .int .i64 n20, .int .i64 n21, .slice a5 M k5] 38)).grown hgr6) hbk6 ho6 HROW.out.2.1 (fun j p q => (HROW.out.2.2 j p q).keep (fun k cs fr r => hb5.block k (Array.getElem?_eq_some_iff.1 r).1)) hy5
      rw [← HWH.out] at hV6
      have HV6 := Lib.hid hV6
      have HBf := Lib.hid (HBz.out.trans (hg6s.toBelow HVz.out.lo (fun k hk => by have := HVz.out.rowH.lo k hk; have := HVz.out.hi; have := HVz.out.lo; omega) (Nat.le_trans HVz.out.lo (Nat.le_of_lt hgZ))))
      have HKf := Lib.hid (HKz.out.trans (hg6s.kt HVz.out HVz.out.rowH (.inr rfl)))
      clear HC4 HCI hg6 hg6s hbk6 e23 f23 ho6 hgr6 hb5 ho5 hg5 z23b z23c hV6 hy5 l23 hgw5
      go_wp2
      go_ret
      exact ⟨rfl, ⟨Bw, vn, vd, _, _, HV6.out⟩, HBf.out, HKf.out⟩
    ·
      go_simp
      (go_at_call 47; refine HCI.out.mono ?_; rintro e w5 ⟨a5, k5, he5, ho5, hb5⟩; have he5 := he5.out; subst he5; have hg5 : Gb X3.drew g (Value.slice ah nq ch).ownBlock w5 := Gb.below hb5; have z23b : w5.cell? ⟨g, 23, none⟩ = some (.slice ah nq ch) := (hb5.cell (p := ⟨g, 23, none⟩) hgZ).trans z23; have hgw5 : g < w5.heap.size := Nat.lt_of_lt_of_le hgZ hb5.size; have z23c : (w5.alloc (.cells #[.int .i64 n8, .int .i64 n9, .int .i64 n10, .int .i64 n11, .int .i64 n12, .int .i64 n13, .int .i64 n14, .int .i64 n15, .string n16, .string n17, .int .i64 n18, .int .i64 n19, .int .i64 n20, .int .i64 n21, .slice a5 M k5] 38)).cell? ⟨g, 23, none⟩ = some (.slice ah nq ch) := (old_cell _ _ _ _ hgw5).trans z23b)
      refine hK.out _ _ ?_ (fun hHeld => ?_)
      · ((first
      | exact HC4.out _ hg6s
      | exact HC4.out _ hg6
      | exact HC4.out _ hg5
      | exact HC4.out _ (hg5.alloc _)
      | exact HC4.out _ (Gb.refl _ _ _)
      | fail))
      clear hK K
      try simp only [Act.put, List.setIfInBounds_toArray, List.set_cons_zero, List.set_cons_succ, List.getElem_toArray, List.getElem_cons_zero, List.getElem_cons_succ]
      refine wpAnyH_ready (rs := [4, 8]) (by kernel_rfl) (by simp) ?_
      refine (AllReadyH.cons rfl (fun K hK => ?_) (AllReadyH.cons rfl (fun K hK => ?_) AllReadyH.nil))
      ·
        go_simp
        refine hK.out _ _ ?_ (fun hHeld => ?_)
        · ((first
      | exact HC4.out _ hg6s
      | exact HC4.out _ hg6
      | exact HC4.out _ hg5
      | exact HC4.out _ (hg5.alloc _)
      | exact HC4.out _ (Gb.refl _ _ _)
      | fail))
        clear hK K
        try simp only [Act.put, List.setIfInBounds_toArray, List.set_cons_zero, List.set_cons_succ, List.getElem_toArray, List.getElem_cons_zero, List.getElem_cons_succ]
        refine wpAnyH_ready (rs := [8]) (by kernel_rfl) (by simp) ?_
        refine (AllReadyH.cons rfl (fun K hK => ?_) AllReadyH.nil)
        go_simp
        refine hK.out _ _ ?_ (fun hHeld => ?_)
        · ((first
      | exact HC4.out _ hg6s
      | exact HC4.out _ hg6
      | exact HC4.out _ hg5
      | exact HC4.out _ (hg5.alloc _)
      | exact HC4.out _ (Gb.refl _ _ _)
      | fail))
        clear hK K
        try simp only [Act.put, List.setIfInBounds_toArray, List.set_cons_zero, List.set_cons_succ, List.getElem_toArray, List.getElem_cons_zero, List.getElem_cons_succ]
        refine wpAnyH_ready (rs := [9]) (by kernel_rfl) (by simp) ?_
        refine (AllReadyH.cons rfl (fun K hK => ?_) AllReadyH.nil)
        refine KX.step_app rfl _ _ rfl Bw _ rsH rfl ((HROW.out.1.below hb5).below ((Below.refl _ _).alloc (Nat.le_refl _) _)) _ [⟨inE (⟨n8, (n9, n10), (n11, n12), ⟨n13, n14, n15, n16, n17, n18, n19, n20⟩, n21, dl⟩ : Ist) (.slice a5 M k5), rfl, inE_one rfl⟩] rfl (KX.rd_boxAt _ _ 1 _ _ rfl) (HWL2.out _) (Nat.le_trans HVz.out.sz (Nat.le_trans hb5.size (by simp))) ?_
        intro v6 w6 ho6 hgr6
        obtain ⟨a6, k6, ev6⟩ := ho6.slice
        simp only [List.length_append, List.length_singleton] at ev6
        rw [HNR.out] at ev6
        subst ev6
        have hg6 : Gb X3.drew g (Value.slice ah nq ch).ownBlock w6 := ((Gb.below hb5).alloc _).grown hgr6
        have hg6s := hg6.set 23 (.slice a6 (nq + 1) k6)
        have hbk6 := Gb.bk HVz.out HVz.out.rowH (hb5.alloc hb5.size (.cells #[.int .i64 n8, .int .i64 n9, .int .i64 n10, .int .i64 n11, .int .i64 n12, .int .i64 n13, .int .i64 n14, .int .i64 n15, .string n16, .string n17, .int .i64 n18, .int .i64 n19, .int .i64 n20, .int .i64 n21, .slice a5 M k5] 38)) hgr6
        have e23 : w6.cell? ⟨g, 23, none⟩ = some (.slice ah nq ch) := hbk6.cell 23
        have f23 := hbk6.fz 23
        have l23 := hbk6.lt
        refine hK.out _ _ ?_ (fun hHeld => ?_)
        · ((first
      | exact HC4.out _ hg6s
      | exact HC4.out _ hg6
      | exact HC4.out _ hg5
      | exact HC4.out _ (hg5.alloc _)
      | exact HC4.out _ (Gb.refl _ _ _)
      | fail))
        clear hK K
        try simp only [Act.put, List.setIfInBounds_toArray, List.set_cons_zero, List.set_cons_succ, List.getElem_toArray, List.getElem_cons_zero, List.getElem_cons_succ]
        refine wpAnyH_take (i := 10) (v := ?_) rfl (by kernel_rfl) (by kernel_rfl) (by kernel_rfl) (fun _ _ _ h => h) (Or.inl ⟨by rfl, ?_⟩) (by assumption) ?_
        rotate_left
        · (intro w hSw; (try dsimp only at hSw); go_simp; try rfl)
        try simp only [Act.put, List.setIfInBounds_toArray, List.set_cons_zero, List.set_cons_succ, List.getElem_toArray, List.getElem_cons_zero, List.getElem_cons_succ]
        refine wpAnyH_take (i := 11) (v := ?_) rfl (by kernel_rfl) (by kernel_rfl) (by kernel_rfl) (fun _ _ _ h => h) (Or.inl ⟨by rfl, ?_⟩) (by assumption) ?_
        rotate_left
        · (intro w hSw; (try dsimp only at hSw); go_simp; try rfl)
        try simp only [Act.put, List.setIfInBounds_toArray, List.set_cons_zero, List.set_cons_succ, List.getElem_toArray, List.getElem_cons_zero, List.getElem_cons_succ]
        refine wpAnyH_ready (rs := [12]) (by kernel_rfl) (by simp) ?_
        refine (AllReadyH.cons rfl (fun K hK => ?_) AllReadyH.nil)
        go_simp
        refine hK.out _ _ ?_ (fun hHeld => ?_)
        · ((first
      | exact HC4.out _ hg6s
      | exact HC4.out _ hg6
      | exact HC4.out _ hg5
      | exact HC4.out _ (hg5.alloc _)
      | exact HC4.out _ (Gb.refl _ _ _)
      | fail))
        clear hK K
        try simp only [Act.put, List.setIfInBounds_toArray, List.set_cons_zero, List.set_cons_succ, List.getElem_toArray, List.getElem_cons_zero, List.getElem_cons_succ]
        refine wpAnyH_done (by kernel_rfl) ?_ _
        have hy5 : HIs w5 B (inE (⟨n8, (n9, n10), (n11, n12), ⟨n13, n14, n15, n16, n17, n18, n19, n20⟩, n21, dl⟩ : Ist) (.slice a5 M k5)) (⟨n8, (n9, n10), (n11, n12), ⟨n13, n14, n15, n16, n17, n18, n19, n20⟩, n21, dl⟩ : Ist) := ⟨_, rfl, ho5.base (Nat.le_trans HVz.out.lo (Nat.le_of_lt hgZ)), HOKD.out⟩
        have hV6 := (HVz.out.below hb5).heardMore (((Gb.refl w5 g (Value.slice ah nq ch).ownBlock).alloc (.cells #[.int .i64 n8, .int .i64 n9, .int .i64 n10, .int .i64 n11, .int .i64 n12, .int .i64 n13, .int .i64 n14, .int .i64 n15, .string n16, .string n17, .int .i64 n18, .int .i64 n19, .int .i64 n20, .int .i64 n21, .slice a5 M k5] 38)).grown hgr6) hbk6 ho6 HROW.out.2.1 (fun j p q => (HROW.out.2.2 j p q).keep (fun k cs fr r => hb5.block k (Array.getElem?_eq_some_iff.1 r).1)) hy5
        rw [← HWH.out] at hV6
        have HV6 := Lib.hid hV6
        have HBf := Lib.hid (HBz.out.trans (hg6s.toBelow HVz.out.lo (fun k hk => by have := HVz.out.rowH.lo k hk; have := HVz.out.hi; have := HVz.out.lo; omega) (Nat.le_trans HVz.out.lo (Nat.le_of_lt hgZ))))
        have HKf := Lib.hid (HKz.out.trans (hg6s.kt HVz.out HVz.out.rowH (.inr rfl)))
        clear HC4 HCI hg6 hg6s hbk6 e23 f23 ho6 hgr6 hb5 ho5 hg5 z23b z23c hV6 hy5 l23 hgw5
        go_wp2
        go_ret
        exact ⟨rfl, ⟨Bw, vn, vd, _, _, HV6.out⟩, HBf.out, HKf.out⟩
      ·
        go_simp
        refine hK.out _ _ ?_ (fun hHeld => ?_)
        · ((first
      | exact HC4.out _ hg6s
      | exact HC4.out _ hg6
      | exact HC4.out _ hg5
      | exact HC4.out _ (hg5.alloc _)
      | exact HC4.out _ (Gb.refl _ _ _)
      | fail))
        clear hK K
        try simp only [Act.put, List.setIfInBounds_toArray, List.set_cons_zero, List.set_cons_succ, List.getElem_toArray, List.getElem_cons_zero, List.getElem_cons_succ]
        refine wpAnyH_ready (rs := [4]) (by kernel_rfl) (by simp) ?_
        refine (AllReadyH.cons rfl (fun K hK => ?_) AllReadyH.nil)
        go_simp
        refine hK.out _ _ ?_ (fun hHeld => ?_)
        · ((first
      | exact HC4.out _ hg6s
      | exact HC4.out _ hg6
      | exact HC4.out _ hg5
      | exact HC4.out _ (hg5.alloc _)
      | exact HC4.out _ (Gb.refl _ _ _)
      | fail))
        clear hK K
        try simp only [Act.put, List.setIfInBounds_toArray, List.set_cons_zero, List.set_cons_succ, List.getElem_toArray, List.getElem_cons_zero, List.getElem_cons_succ]
        refine wpAnyH_ready (rs := [9]) (by kernel_rfl) (by simp) ?_
        refine (AllReadyH.cons rfl (fun K hK => ?_) AllReadyH.nil)
        refine KX.step_app rfl _ _ rfl Bw _ rsH rfl ((HROW.out.1.below hb5).below ((Below.refl _ _).alloc (Nat.le_refl _) _)) _ [⟨inE (⟨n8, (n9, n10), (n11, n12), ⟨n13, n14, n15, n16, n17, n18, n19, n20⟩, n21, dl⟩ : Ist) (.slice a5 M k5), rfl, inE_one rfl⟩] rfl (KX.rd_boxAt _ _ 1 _ _ rfl) (HWL2.out _) (Nat.le_trans HVz.out.sz (Nat.le_trans hb5.size (by simp))) ?_
        intro v6 w6 ho6 hgr6
        obtain ⟨a6, k6, ev6⟩ := ho6.slice
        simp only [List.length_append, List.length_singleton] at ev6
        rw [HNR.out] at ev6
        subst ev6
        have hg6 : Gb X3.drew g (Value.slice ah nq ch).ownBlock w6 := ((Gb.below hb5).alloc _).grown hgr6
        have hg6s := hg6.set 23 (.slice a6 (nq + 1) k6)
        have hbk6 := Gb.bk HVz.out HVz.out.rowH (hb5.alloc hb5.size (.cells #[.int .i64 n8, .int .i64 n9, .int .i64 n10, .int .i64 n11, .int .i64 n12, .int .i64 n13, .int .i64 n14, .int .i64 n15, .string n16, .string n17, .int .i64 n18, .int .i64 n19, .int .i64 n20, .int .i64 n21, .slice a5 M k5] 38)) hgr6
        have e23 : w6.cell? ⟨g, 23, none⟩ = some (.slice ah nq ch) := hbk6.cell 23
        have f23 := hbk6.fz 23
        have l23 := hbk6.lt
        refine hK.out _ _ ?_ (fun hHeld => ?_)
        · ((first
      | exact HC4.out _ hg6s
      | exact HC4.out _ hg6
      | exact HC4.out _ hg5
      | exact HC4.out _ (hg5.alloc _)
      | exact HC4.out _ (Gb.refl _ _ _)
      | fail))
        clear hK K
        try simp only [Act.put, List.setIfInBounds_toArray, List.set_cons_zero, List.set_cons_succ, List.getElem_toArray, List.getElem_cons_zero, List.getElem_cons_succ]
        refine wpAnyH_take (i := 10) (v := ?_) rfl (by kernel_rfl) (by kernel_rfl) (by kernel_rfl) (fun _ _ _ h => h) (Or.inl ⟨by rfl, ?_⟩) (by assumption) ?_
        rotate_left
        · (intro w hSw; (try dsimp only at hSw); go_simp; try rfl)
        try simp only [Act.put, List.setIfInBounds_toArray, List.set_cons_zero, List.set_cons_succ, List.getElem_toArray, List.getElem_cons_zero, List.getElem_cons_succ]
        refine wpAnyH_take (i := 11) (v := ?_) rfl (by kernel_rfl) (by kernel_rfl) (by kernel_rfl) (fun _ _ _ h => h) (Or.inl ⟨by rfl, ?_⟩) (by assumption) ?_
        rotate_left
        · (intro w hSw; (try dsimp only at hSw); go_simp; try rfl)
        try simp only [Act.put, List.setIfInBounds_toArray, List.set_cons_zero, List.set_cons_succ, List.getElem_toArray, List.getElem_cons_zero, List.getElem_cons_succ]
        refine wpAnyH_ready (rs := [12]) (by kernel_rfl) (by simp) ?_
        refine (AllReadyH.cons rfl (fun K hK => ?_) AllReadyH.nil)
        go_simp
        refine hK.out _ _ ?_ (fun hHeld => ?_)
        · ((first
      | exact HC4.out _ hg6s
      | exact HC4.out _ hg6
      | exact HC4.out _ hg5
      | exact HC4.out _ (hg5.alloc _)
      | exact HC4.out _ (Gb.refl _ _ _)
      | fail))
        clear hK K
        try simp only [Act.put, List.setIfInBounds_toArray, List.set_cons_zero, List.set_cons_succ, List.getElem_toArray, List.getElem_cons_zero, List.getElem_cons_succ]
        refine wpAnyH_done (by kernel_rfl) ?_ _
        have hy5 : HIs w5 B (inE (⟨n8, (n9, n10), (n11, n12), ⟨n13, n14, n15, n16, n17, n18, n19, n20⟩, n21, dl⟩ : Ist) (.slice a5 M k5)) (⟨n8, (n9, n10), (n11, n12), ⟨n13, n14, n15, n16, n17, n18, n19, n20⟩, n21, dl⟩ : Ist) := ⟨_, rfl, ho5.base (Nat.le_trans HVz.out.lo (Nat.le_of_lt hgZ)), HOKD.out⟩
        have hV6 := (HVz.out.below hb5).heardMore (((Gb.refl w5 g (Value.slice ah nq ch).ownBlock).alloc (.cells #[.int .i64 n8, .int .i64 n9, .int .i64 n10, .int .i64 n11, .int .i64 n12, .int .i64 n13, .int .i64 n14, .int .i64 n15, .string n16, .string n17, .int .i64 n18, .int .i64 n19, .int .i64 n20, .int .i64 n21, .slice a5 M k5] 38)).grown hgr6) hbk6 ho6 HROW.out.2.1 (fun j p q => (HROW.out.2.2 j p q).keep (fun k cs fr r => hb5.block k (Array.getElem?_eq_some_iff.1 r).1)) hy5
        rw [← HWH.out] at hV6
        have HV6 := Lib.hid hV6
        have HBf := Lib.hid (HBz.out.trans (hg6s.toBelow HVz.out.lo (fun k hk => by have := HVz.out.rowH.lo k hk; have := HVz.out.hi; have := HVz.out.lo; omega) (Nat.le_trans HVz.out.lo (Nat.le_of_lt hgZ))))
        have HKf := Lib.hid (HKz.out.trans (hg6s.kt HVz.out HVz.out.rowH (.inr rfl)))
        clear HC4 HCI hg6 hg6s hbk6 e23 f23 ho6 hgr6 hb5 ho5 hg5 z23b z23c hV6 hy5 l23 hgw5
        go_wp2
        go_ret
        exact ⟨rfl, ⟨Bw, vn, vd, _, _, HV6.out⟩, HBf.out, HKf.out⟩
end Go.Proofs.Ytplplehfkfjhnaa
