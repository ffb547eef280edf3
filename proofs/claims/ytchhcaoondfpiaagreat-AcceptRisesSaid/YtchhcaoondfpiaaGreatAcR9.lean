/-
  Package accept's laws: AcceptRises.
-/
import Derived.Test.YtchhcaoondfpiaaGreatAcL2
import Derived.Deep.CutBlock
namespace Go.Proofs.YtchhcaoondfpiaaGreat
open Go.RowKit Go.Sort
open Go.WideMaps
set_option linter.unusedSimpArgs false
set_option linter.unusedVariables false
set_option maxRecDepth 100000

theorem less_falseA {a b : Bal} : lessBl a b = false ↔ (b.1 < a.1 ∨ (a.1 = b.1 ∧ b.2 ≤ a.2)) := by
  unfold lessBl Bb.lessB
  rw [Bool.or_eq_false_iff, Bool.and_eq_false_iff, decide_eq_false_iff_not, decide_eq_false_iff_not, decide_eq_false_iff_not]
  omega
/-- What holds of all that a book has: its status, and that a vote is by no more than the promise. -/
def InvB (l : List (I3 × Ist)) : Prop := ∀ e ∈ l, e.2.st ≤ 3 ∧ (e.2.st ≠ 3 → lessBl e.2.pr e.2.vo = false)
theorem InvB.set {l : List (I3 × Ist)} (h : InvB l) (id : I3) {x : Ist} (h1 : x.st ≤ 3) (h2 : x.st ≠ 3 → lessBl x.pr x.vo = false) : InvB (setL l id x) := fun e he => by
  rcases mem_setL.1 he with q | q
  · subst q
    exact ⟨h1, h2⟩
  · exact h e q.1
theorem InvB.get {l : List (I3 × Ist)} (h : InvB l) (hr : RisesB l) (id : I3) : (getL l id).st ≤ 3 ∧ ((getL l id).st ≠ 3 → lessBl (getL l id).pr (getL l id).vo = false) := by
  by_cases q : ∃ y, (id, y) ∈ l
  · obtain ⟨y, hy⟩ := q
    rw [getL_mem hr hy]
    exact h _ hy
  · rw [getL_none (fun y hy => q ⟨y, hy⟩)]
    exact ⟨by decide, fun _ => less_irrefl _⟩
theorem hear_inv (loc : List Kn → I3 → CM → At) {b : BSt} (h : InvB b.l) (hr : RisesB b.l) (m : Mg) : InvB (hearB loc b m).1.l := by
  have hg := h.get hr m.id
  unfold hearB
  split
  · exact h
  split
  · split
    · exact h.set _ (by show (3 : Int) ≤ 3; decide) (fun q => absurd rfl q)
    · exact h
  split
  · exact h
  split
  · exact h
  rename_i h1 h2 h3 h4
  have h5 : lessBl m.bal (getL b.l m.id).pr = false := by simpa using h4
  unfold voteB
  split
  · split
    · exact h
    · split
      · exact h.set _ (by show (1 : Int) ≤ 3; decide) (fun _ => less_irrefl _)
      · exact h
  split
  · exact h.set _ (by show (2 : Int) ≤ 3; decide) (fun _ => less_irrefl _)
  · refine h.set _ hg.1 (fun q => ?_)
    have h6 := hg.2 q
    rw [less_falseA] at h5 h6 ⊢
    show (getL b.l m.id).vo.1 < m.bal.1 ∨ (m.bal.1 = (getL b.l m.id).vo.1 ∧ (getL b.l m.id).vo.2 ≤ m.bal.2)
    omega
theorem heard_inv (b : BSt) : ∀ l : List Mg, InvB b.l → RisesB b.l → InvB (heardB b l).l := by
  intro l
  unfold heardB
  induction l generalizing b with
  | nil => exact fun h _ => h
  | cons m l ih => exact fun h hr => ih _ (hear_inv lclA h hr m) (hear_rise lclA hr m)
/-- What an answer tells. -/
theorem hear_tells (loc : List Kn → I3 → CM → At) {b : BSt} (h : InvB b.l) (hr : RisesB b.l) (m : Mg) : ∀ M ∈ (hearB loc b m).2, M.fr = b.node ∧ M.to = m.fr ∧ M.id = m.id ∧ ((M.kind = 1 ∨ M.kind = 3 ∨ M.kind = 6) → lessBl m.bal (getL b.l m.id).pr = false ∧ (getL (hearB loc b m).1.l m.id).pr = m.bal ∧ M.bal = m.bal) := by
  have hg := h.get hr m.id
  unfold hearB
  split
  · intro M hM; cases hM
  split
  · intro M hM; cases hM
  split
  · intro M hM
    rw [List.mem_singleton] at hM
    subst hM
    exact ⟨rfl, rfl, rfl, fun q => by rcases q with q | q | q <;> cases q⟩
  split
  · intro M hM
    rw [List.mem_singleton] at hM
    subst hM
    exact ⟨rfl, rfl, rfl, fun q => by rcases q with q | q | q <;> cases q⟩
  rename_i h1 h2 h3 h4
  have h5 : lessBl m.bal (getL b.l m.id).pr = false := by simpa using h4
  unfold voteB
  split
  · split
    · intro M hM; cases hM
    · rename_i k0 g1
      split
      · intro M hM
        rw [List.mem_singleton] at hM
        subst hM
        exact ⟨rfl, rfl, rfl, fun _ => ⟨h5, by rw [getL_set hr], rfl⟩⟩
      · rename_i g2
        intro M hM
        rw [List.mem_singleton] at hM
        subst hM
        refine ⟨rfl, rfl, rfl, fun _ => ⟨h5, ?_, rfl⟩⟩
        have e1 : (getL b.l m.id).vo = m.bal := Classical.byContradiction fun q => g2 (.inr q)
        have h6 := hg.2 h3
        rw [e1] at h6
        rw [less_falseA] at h5 h6
        show (getL b.l m.id).pr = m.bal
        refine Prod.ext ?_ ?_ <;> omega
  split
  · intro M hM
    rw [List.mem_singleton] at hM
    subst hM
    exact ⟨rfl, rfl, rfl, fun _ => ⟨h5, by rw [getL_set hr], rfl⟩⟩
  · intro M hM
    rw [List.mem_singleton] at hM
    subst hM
    exact ⟨rfl, rfl, rfl, fun _ => ⟨h5, by rw [getL_set hr], rfl⟩⟩
structure RsS (gg o wb nb gM : Nat) (n6 n7 p1 p2 q1 q2 m6 m7 : Int) (w' : World) : Prop where
  g6 : w'.cell? ⟨gg, o + 6, none⟩ = some (.int .i64 n6)
  g7 : w'.cell? ⟨gg, o + 7, none⟩ = some (.int .i64 n7)
  c1 : w'.cell? ⟨wb, 1, none⟩ = some (.int .i64 p1)
  c2 : w'.cell? ⟨wb, 2, none⟩ = some (.int .i64 p2)
  f1 : w'.cell? ⟨nb, 1, none⟩ = some (.int .i64 q1)
  f2 : w'.cell? ⟨nb, 2, none⟩ = some (.int .i64 q2)
  o6 : w'.cell? ⟨gM, 6, none⟩ = some (.int .i64 m6)
  o7 : w'.cell? ⟨gM, 7, none⟩ = some (.int .i64 m7)
set_option maxHeartbeats 16000000 in
theorem rises_law (nd : Int) (ep : Int) (ao : Option Addr) (co : Nat) (zs : List Int) (v2 : Value) (rs : List (Cls 27)) (l : List Mg) (W : World) (hr : It W (.slice ao zs.length co) zs) (hl : RowIs KM msS W v2 rs l) (hml : Tc.ML W) :
    Calls Tryz.prog 4 #[.int .i64 nd, .agg #[.int .i64 ep, .slice ao zs.length co], v2] W fun e w' => e = .returned (.bool true) ∧ Below W.heap.size W w' := by
  have HOl := Lib.hid hl
  obtain ⟨a2', c2', e2'⟩ := rowSl hl
  subst e2'
  obtain ⟨K, hK⟩ : ∃ K, l.length = K := ⟨_, rfl⟩
  have hlen := hl.rd.len
  rw [hl.len, hK] at hlen
  have hK63 : K ≤ 9223372036854775807 := by unfold maxLen at hlen; omega
  obtain ⟨N, hN⟩ : ∃ N, zs.length = N := ⟨_, rfl⟩
  have hN63 := hr.len
  rw [hK] at HOl hl ⊢
  rw [hN] at hN63 ⊢
  have HR := Lib.hid hl
  have HK := Lib.hid hK
  have HN' := Lib.hid hN
  have HIt := Lib.hid hr
  have HML := Lib.hid hml
  obtain ⟨X0, hX0⟩ : ∃ X0, (W.alloc (.cells #[.int .i64 ep, .slice ao N co] 24)) = X0 := ⟨_, rfl⟩
  have HB0 : Hid (Bk X0 (W.heap.size) 24 [.int .i64 ep, .slice ao N co]) := Lib.hid (by rw [← hX0]; exact Bk.newA (by simp) _ [.int .i64 ep, .slice ao N co])
  have HX : Hid (Below W.heap.size W X0) := Lib.hid (by rw [← hX0]; exact (Below.refl _ _).alloc (by simp <;> omega) _)
  have HZ0 : Hid (X0.heap.size = W.heap.size + 1) := Lib.hid (by rw [← hX0]; simp)
  have HWk := Lib.hid (works_any X0 (hml.below HX.out))
  clear hr hl hlen hml
  go_enter Tryz.func4, Tryz.ntmps4
  go_wp2_with fail
  try rw [hX0]
  refine HWk.out.mono ?_
  rintro e w1 ⟨rfl, hb⟩
  have HX1 := Lib.hid hb
  have HX' := Lib.hid (HX.out.trans (hb.mono HX.out.size))
  clear hb HX
  have HX := HX'
  clear HX'
  clear hX0 HWk
  go_wp2_with fail
  refine (overA_any _ rs l w1 (HOl.out.on HX.out)).mono ?_
  rintro e w2 ⟨R, he, hR, hb⟩
  rw [he.out]
  have HX2 : Hid (Below X0.heap.size X0 w2) := Lib.hid (HX1.out.trans (hb.mono HX1.out.size))
  have HX' := Lib.hid (HX.out.trans (hb.mono HX.out.size))
  clear hb HX
  have HX := HX'
  clear HX'
  cases R with
  | true =>
    go_wp2
    go_ret
    exact ⟨rfl, HX.out⟩
  | false =>
  have HLl := Lib.hid (hR rfl)
  clear he hR HX1
  have HX3 := HX2
  clear HX2
  have HE0 := Lib.hid (HB0.out.below HX3.out)
  have cc0 := HE0.out.cell 0
  have cc1 := HE0.out.cell 1
  simp only [List.getElem?_cons_zero, List.getElem?_cons_succ] at cc0 cc1
  by_cases q1 : (40 : Int) < (N : Int)
  · have dq1 : decide ((40 : Int) < (N : Int)) = true := decide_eq_true q1
    have dq1n : decide (40 < N) = true := decide_eq_true (by omega)
    go_wp2
    go_ret
    exact ⟨rfl, HX.out⟩
  have dq1 : decide ((40 : Int) < (N : Int)) = false := decide_eq_false q1
  have dq1n : decide (40 < N) = false := decide_eq_false (by omega)
  have HN : Hid (zs.length ≤ 40) := Lib.hid (by rw [HN'.out]; omega)
  have HKb : Hid (K ≤ 40) := Lib.hid (by have := HLl.out.1; rw [HK.out] at this; exact this)
  have HNw : Hid (Calls Tryz.prog 13 #[.int .i64 nd, .agg #[.int .i64 ep, .slice ao N co]] w2 (BnP ⟨nd, ep, zs, []⟩ w2)) := Lib.hid (by
    have q := bnew_any nd ep ao co zs w2 (HIt.out.below HX.out) (by have := HN.out; omega)
    rw [HN'.out] at q
    exact q)
  clear hN
  go_wp2_with fail
  refine HNw.out.mono ?_
  rintro e w4 ⟨g, mb, he, hB, hb⟩
  rw [he.out]
  obtain ⟨B, hBe⟩ : ∃ B, w2.heap.size = B := ⟨_, rfl⟩
  rw [hBe] at hB hb
  have HWB : Hid (W.heap.size ≤ B) := Lib.hid (hBe ▸ HX.out.size)
  have HXB : Hid (W.heap.size + 1 ≤ B) := Lib.hid (by have := HX3.out.size; have := HZ0.out; omega)
  have hX4 : Below W.heap.size W w4 := HX.out.trans (hb.mono HWB.out)
  have hX34 : Below X0.heap.size X0 w4 := HX3.out.trans (hb.mono (by have := HX3.out.size; omega))
  have HX4 := Lib.hid hX4
  have H0 : Hid (BkIn w4 B g mb 0 (heardB ⟨nd, ep, zs, []⟩ (l.take 0)) w4) := Lib.hid ⟨hB, SmBk.nil _ _ _, Below.refl _ _⟩
  have HG0 := Lib.hid (HB0.out.below hX34)
  have HB4 : Hid (B ≤ w4.heap.size) := Lib.hid (by rw [← hBe]; exact hb.size)
  clear he hB hb hBe hX4 hX34 HX HX3 HNw cc0 cc1 dq1 dq1n q1 HZ0 HE0 HB0
  go_wp2_with fail
  go_loopw [9] (fun i wr => ∃ (k : Nat), k ≤ K ∧ i = .int .i64 k ∧ Hid (BkIn w4 B g mb k (heardB ⟨nd, ep, zs, []⟩ (l.take k)) wr)) (fun i _ => K - (intOf i).toNat)
  case atStart => exact ⟨0, Nat.zero_le _, rfl, H0⟩
  case round =>
    clear H0 HG0
    obtain ⟨k, hk, rfl, H⟩ := hrel
    by_cases hlt : k < K
    · have hk1 : (k : Int) < (K : Int) := by omega
      have hk2 : decide ((k : Int) < (K : Int)) = true := decide_eq_true hk1
      have hk3 : decide (k < K) = true := decide_eq_true hlt
      obtain ⟨-, hlk, gg, off, cs, ha, hg, hcs, hc⟩ := HR.out.el rfl k hlt
      subst ha
      have eK : KM.k = 27 := rfl
      rw [eK] at hc
      clear eK
      have hWr : Below W.heap.size W wr := HX4.out.trans (H.out.gr.mono HWB.out)
      have HSmx : Hid (SmMg l[k]) := Lib.hid (HLl.out.2 _ (List.getElem_mem hlk))
      have HSn : Hid (heardB ⟨nd, ep, zs, []⟩ (l.take (k + 1)) = (hearB lclA (heardB ⟨nd, ep, zs, []⟩ (l.take k)) l[k]).1) := Lib.hid (by rw [List.take_succ_eq_append_getElem hlk, heard_snoc])
      have hmk : MgA W (.agg cs.toArray) l[k] := MsgIs.mga (x := l[k]) ⟨cs.toArray, rfl, by simpa using hcs⟩
      have HSm : Hid ((heardB ⟨nd, ep, zs, []⟩ (l.take k)).node = nd ∧ (heardB ⟨nd, ep, zs, []⟩ (l.take k)).ns = zs) := Lib.hid ⟨(heard_same _ _).1, (heard_same _ _).2.2⟩
      have HIv : Hid (InvB (heardB ⟨nd, ep, zs, []⟩ (l.take k)).l) := Lib.hid (heard_inv _ _ (fun e he => by cases he) List.Pairwise.nil)
      obtain ⟨b, hbe⟩ : ∃ b, heardB ⟨nd, ep, zs, []⟩ (l.take k) = b := ⟨_, rfl⟩
      rw [hbe] at HSm HIv H HSn
      clear hbe
      obtain ⟨x, hx⟩ : ∃ x, l[k] = x := ⟨_, rfl⟩
      rw [hx] at HSmx HSn hmk
      clear hx hcs
      obtain ⟨ua, uc, a1, d1, c1, a2, d2, c2, a3, d3, c3, hcv, hrd, hokl, hid⟩ := hmk
      have hcv2 := List.toArray_inj (Value.agg.inj hcv)
      subst hcv2
      clear hcv
      obtain ⟨n0, n1, n2, ⟨n3, n4, n5⟩, ⟨n6, n7⟩, ⟨n8, ⟨n9, n10⟩, ⟨n11, n12⟩, ⟨n13, n14, n15, n16, n17, n18, n19, n20⟩, n21, dl⟩, sn0⟩ := x
      obtain ⟨n23, sn1⟩ : ∃ q, sn0.1.1 = q := ⟨_, rfl⟩
      obtain ⟨M, hM⟩ : ∃ M, dl.length = M := ⟨_, rfl⟩
      simp only at hrd hokl hid
      have HMk : Hid (∀ w', Below W.heap.size W w' → MgA w' (.agg #[.int .i64 n0, .int .i64 n1, .int .i64 n2, .int .i64 n3, .int .i64 n4, .int .i64 n5, .int .i64 n6, .int .i64 n7, .int .i64 n8, .int .i64 n9, .int .i64 n10, .int .i64 n11, .int .i64 n12, .int .i64 n13, .int .i64 n14, .int .i64 n15, .string n16, .string n17, .int .i64 n18, .int .i64 n19, .int .i64 n20, .int .i64 n21, .slice ua M uc, .int .i64 n23, .slice a1 d1 c1, .slice a2 d2 c2, .slice a3 d3 c3]) ⟨n0, n1, n2, (n3, n4, n5), (n6, n7), ⟨n8, (n9, n10), (n11, n12), ⟨n13, n14, n15, n16, n17, n18, n19, n20⟩, (n21, dl)⟩, sn0⟩) := Lib.hid fun w' hb => ⟨ua, uc, a1, d1, c1, a2, d2, c2, a3, d3, c3, by simp only [msE, inE, snV, sn1, List.cons_append, List.nil_append]; rw [hM], hrd.below hb, hokl, hid⟩
      simp only [msE, inE, snV, hM, sn1, List.cons_append, List.nil_append] at hc
      have HID1 : Hid (okI (n3, n4, n5)) := Lib.hid hid
      have HMc : Hid (∀ w', Below W.heap.size W w' → ∀ j v, ([.int .i64 n0, .int .i64 n1, .int .i64 n2, .int .i64 n3, .int .i64 n4, .int .i64 n5, .int .i64 n6, .int .i64 n7, .int .i64 n8, .int .i64 n9, .int .i64 n10, .int .i64 n11, .int .i64 n12, .int .i64 n13, .int .i64 n14, .int .i64 n15, .string n16, .string n17, .int .i64 n18, .int .i64 n19, .int .i64 n20, .int .i64 n21, .slice ua M uc, .int .i64 n23, .slice a1 d1 c1, .slice a2 d2 c2, .slice a3 d3 c3] : List Value)[j]? = some v → w'.cell? ⟨gg, off + k * 27 + j, none⟩ = some v) := Lib.hid fun w' hb j v hv => (hb.cell (p := ⟨gg, off + k * 27 + j, none⟩) hg).trans (hc j v hv)
      have HRg : Hid (∀ w', Below W.heap.size W w' → w'.rangeAt gg (off + k * 27) [.int .i64 n0, .int .i64 n1, .int .i64 n2, .int .i64 n3, .int .i64 n4, .int .i64 n5, .int .i64 n6, .int .i64 n7, .int .i64 n8, .int .i64 n9, .int .i64 n10, .int .i64 n11, .int .i64 n12, .int .i64 n13, .int .i64 n14, .int .i64 n15, .string n16, .string n17, .int .i64 n18, .int .i64 n19, .int .i64 n20, .int .i64 n21, .slice ua M uc, .int .i64 n23, .slice a1 d1 c1, .slice a2 d2 c2, .slice a3 d3 c3]) := Lib.hid fun w' hb j v hv => HMc.out w' hb j v hv
      have Hinf : Hid ((Tryz.prog.info? 54).map (·.size) = some ([.int .i64 n0, .int .i64 n1, .int .i64 n2, .int .i64 n3, .int .i64 n4, .int .i64 n5, .int .i64 n6, .int .i64 n7, .int .i64 n8, .int .i64 n9, .int .i64 n10, .int .i64 n11, .int .i64 n12, .int .i64 n13, .int .i64 n14, .int .i64 n15, .string n16, .string n17, .int .i64 n18, .int .i64 n19, .int .i64 n20, .int .i64 n21, .slice ua M uc, .int .i64 n23, .slice a1 d1 c1, .slice a2 d2 c2, .slice a3 d3 c3] : List Value).length) := Lib.hid (by kernel_rfl)
      have hgw : gg < W.heap.size := hg
      clear sn1 hM hrd hokl hid hc hg
      have HX := Lib.hid hWr
      clear hWr
      have hk40 : k ≤ 40 := by have := HKb.out; omega
      have HNs : Hid (b.ns.length ≤ 1000) := Lib.hid (by rw [HSm.out.2]; have := HN.out; omega)
      have HRi := Lib.hid (hear_rises lclA H.out.at'.rise ⟨n0, n1, n2, (n3, n4, n5), (n6, n7), ⟨n8, (n9, n10), (n11, n12), ⟨n13, n14, n15, n16, n17, n18, n19, n20⟩, (n21, dl)⟩, sn0⟩)
      have HTl := Lib.hid (hear_tells lclA HIv.out H.out.at'.rise ⟨n0, n1, n2, (n3, n4, n5), (n6, n7), ⟨n8, (n9, n10), (n11, n12), ⟨n13, n14, n15, n16, n17, n18, n19, n20⟩, (n21, dl)⟩, sn0⟩)
      obtain ⟨xg, hxg⟩ : ∃ x, getL b.l (n3, n4, n5) = x := ⟨_, rfl⟩
      have hs2 := (H.out.sm.get H.out.at'.rise (n3, n4, n5)).2.1
      have hi2 := (HIv.out.get H.out.at'.rise (n3, n4, n5)).1
      have HGL := Lib.hid hxg
      simp only at HRi HTl
      rw [hxg] at hs2 HRi HTl hi2
      obtain ⟨p0, ⟨p1, p2⟩, ⟨p3, p4⟩, ⟨p5, p6, p7, p8, p9, p10, p11, p12⟩, ps, pl⟩ := xg
      obtain ⟨P, hP⟩ : ∃ P, pl.length = P := ⟨_, rfl⟩
      have HPl := Lib.hid hP
      have HPs : Hid (pl.length ≤ 10000) := Lib.hid (by simp only at hs2; omega)
      have Hp3 : Hid (p0 ≤ 3) := Lib.hid hi2
      clear hP hxg hs2 hi2
      have HGt := get_in H.out (by have := HKb.out; omega) HID1.out
      rw [HGL.out] at HGt
      have HGt2 : Hid (Calls Tryz.prog 20 #[bP g, .agg #[.int .i64 n3, .int .i64 n4, .int .i64 n5]] wr (fun e w' => ∃ ga gc, Hid (e = .returned (.agg #[.int .i64 p0, .int .i64 p1, .int .i64 p2, .int .i64 p3, .int .i64 p4, .int .i64 p5, .int .i64 p6, .int .i64 p7, .string p8, .string p9, .int .i64 p10, .int .i64 p11, .int .i64 p12, .int .i64 ps, .slice ga P gc])) ∧ IK.Own w' 0 (.slice ga P gc) pl ∧ Below wr.heap.size wr w')) := Lib.hid (HGt.mono fun e w' ⟨v', he, ho, hb⟩ => by
        obtain ⟨ga, gc, hv⟩ := ho.slice
        simp only at hv ho
        rw [HPl.out] at hv
        subst hv
        exact ⟨ga, gc, he, ho.base (Nat.zero_le _), hb⟩)
      have y3 := HMc.out _ HX.out 3 _ rfl
      have y4 := HMc.out _ HX.out 4 _ rfl
      have y5 := HMc.out _ HX.out 5 _ rfl
      clear HGt
      go_wp2_with fail
      refine HGt2.out.mono ?_
      rintro e w1g ⟨ga, gc, he, how, hb⟩
      rw [he.out]
      have hbq : Below wr.heap.size wr (w1g.alloc (.cells #[.int .i64 p0, .int .i64 p1, .int .i64 p2, .int .i64 p3, .int .i64 p4, .int .i64 p5, .int .i64 p6, .int .i64 p7, .string p8, .string p9, .int .i64 p10, .int .i64 p11, .int .i64 p12, .int .i64 ps, .slice ga P gc] 48)) := hb.alloc hb.size _
      have HWs : Hid (Bk (w1g.alloc (.cells #[.int .i64 p0, .int .i64 p1, .int .i64 p2, .int .i64 p3, .int .i64 p4, .int .i64 p5, .int .i64 p6, .int .i64 p7, .string p8, .string p9, .int .i64 p10, .int .i64 p11, .int .i64 p12, .int .i64 ps, .slice ga P gc] 48)) w1g.heap.size 48 [.int .i64 p0, .int .i64 p1, .int .i64 p2, .int .i64 p3, .int .i64 p4, .int .i64 p5, .int .i64 p6, .int .i64 p7, .string p8, .string p9, .int .i64 p10, .int .i64 p11, .int .i64 p12, .int .i64 ps, .slice ga P gc]) := Lib.hid (Bk.new w1g _ _)
      have HWso : Hid (IK.Own (w1g.alloc (.cells #[.int .i64 p0, .int .i64 p1, .int .i64 p2, .int .i64 p3, .int .i64 p4, .int .i64 p5, .int .i64 p6, .int .i64 p7, .string p8, .string p9, .int .i64 p10, .int .i64 p11, .int .i64 p12, .int .i64 ps, .slice ga P gc] 48)) 0 (.slice ga P gc) pl) := Lib.hid (how.below ((Below.refl _ _).alloc (Nat.le_refl _) _))
      obtain ⟨wb, hwb⟩ : ∃ q, w1g.heap.size = q := ⟨_, rfl⟩
      obtain ⟨w1, hw1⟩ : ∃ q, w1g.alloc (.cells #[.int .i64 p0, .int .i64 p1, .int .i64 p2, .int .i64 p3, .int .i64 p4, .int .i64 p5, .int .i64 p6, .int .i64 p7, .string p8, .string p9, .int .i64 p10, .int .i64 p11, .int .i64 p12, .int .i64 ps, .slice ga P gc] 48) = q := ⟨_, rfl⟩
      rw [hw1] at HWs HWso hbq
      rw [hwb] at HWs
      have HBq := Lib.hid hbq
      have HX' := Lib.hid (HX.out.trans (hbq.mono HX.out.size))
      have H' := Lib.hid (H.out.on hbq (Nat.le_trans H.out.at'.lo.1 (Nat.le_of_lt H.out.at'.lt)))
      clear hbq HX H
      have HX := HX'
      have H := H'
      clear HX' H'
      clear he hb HGt2 y3 y4 y5 how
      have HHm := Lib.hid (hear_in H.out (by omega) HNs.out (HML.out.below HX.out) (HMk.out _ HX.out) (show SmMg ⟨n0, n1, n2, (n3, n4, n5), (n6, n7), ⟨n8, (n9, n10), (n11, n12), ⟨n13, n14, n15, n16, n17, n18, n19, n20⟩, (n21, dl)⟩, sn0⟩ from HSmx.out))
      have HRG := Lib.hid (HRg.out _ HX.out)
      go_wp2_with (first | refine wpList_load_mid rfl _ _ rfl gg (off + k * 27) rfl _ _ HRG.out Tryz.underlying54 rfl Hinf.out ?_ | fail)
      try rw [hw1]
      try rw [hwb]
      clear hw1 hwb HRG
      refine HHm.out.mono ?_
      rintro e w2 ⟨v2, he, hkh, hgh, hah⟩
      rw [he.out]
      have HWs' := Lib.hid ((hgh.block _ (Bk.lt HWs.out) (by simpa using H.out.at'.blkNe _ _ _ _ HWs.out)).trans HWs.out)
      have HWso' := Lib.hid (HWso.out.outA hgh H.out.at'.blkNe)
      have HX' : Hid (Below W.heap.size W w2) := Lib.hid (HX.out.grown hgh HX.out.size (fun k e => by cases e; exact Nat.le_trans HWB.out H.out.at'.lo.2))
      have HV := Lib.hid hah
      have H1 := Lib.hid hkh
      obtain ⟨sl, sn, sc, hsv⟩ := hah.slice
      subst hsv
      clear he hkh hgh hah HHm H HX HWs HWso
      have H := H1
      have HX := HX'
      have HWs := HWs'
      have HWso := HWso'
      clear H1 HX' HWs' HWso'
      obtain ⟨xg, hxg⟩ : ∃ x, getL (hearB lclA b ⟨n0, n1, n2, (n3, n4, n5), (n6, n7), ⟨n8, (n9, n10), (n11, n12), ⟨n13, n14, n15, n16, n17, n18, n19, n20⟩, (n21, dl)⟩, sn0⟩).1.l (n3, n4, n5) = x := ⟨_, rfl⟩
      have hs2 := (H.out.sm.get H.out.at'.rise (n3, n4, n5)).2.1
      have HGL2 := Lib.hid hxg
      rw [hxg] at hs2 HRi HTl
      obtain ⟨q0, ⟨q1, q2⟩, ⟨q3, q4⟩, ⟨q5, q6, q7, q8, q9, q10, q11, q12⟩, qs, ql⟩ := xg
      obtain ⟨Q, hQ⟩ : ∃ Q, ql.length = Q := ⟨_, rfl⟩
      have HQl := Lib.hid hQ
      clear hQ hxg hs2
      have HGt := get_in H.out (by have := HKb.out; omega) HID1.out
      rw [HGL2.out] at HGt
      have HGt2 : Hid (Calls Tryz.prog 20 #[bP g, .agg #[.int .i64 n3, .int .i64 n4, .int .i64 n5]] w2 (fun e w' => ∃ na nc, Hid (e = .returned (.agg #[.int .i64 q0, .int .i64 q1, .int .i64 q2, .int .i64 q3, .int .i64 q4, .int .i64 q5, .int .i64 q6, .int .i64 q7, .string q8, .string q9, .int .i64 q10, .int .i64 q11, .int .i64 q12, .int .i64 qs, .slice na Q nc])) ∧ IK.Own w' 0 (.slice na Q nc) ql ∧ Below w2.heap.size w2 w')) := Lib.hid (HGt.mono fun e w' ⟨v', he, ho, hb⟩ => by
        obtain ⟨ga, gc, hv⟩ := ho.slice
        simp only at hv ho
        rw [HQl.out] at hv
        subst hv
        exact ⟨ga, gc, he, ho.base (Nat.zero_le _), hb⟩)
      have y3 := HMc.out _ HX.out 3 _ rfl
      have y4 := HMc.out _ HX.out 4 _ rfl
      have y5 := HMc.out _ HX.out 5 _ rfl
      clear HGt
      go_wp2_with fail
      refine HGt2.out.mono ?_
      rintro e w3g ⟨na, nc, he, how, hb⟩
      rw [he.out]
      have hbq : Below w2.heap.size w2 (w3g.alloc (.cells #[.int .i64 q0, .int .i64 q1, .int .i64 q2, .int .i64 q3, .int .i64 q4, .int .i64 q5, .int .i64 q6, .int .i64 q7, .string q8, .string q9, .int .i64 q10, .int .i64 q11, .int .i64 q12, .int .i64 qs, .slice na Q nc] 48)) := hb.alloc hb.size _
      have HNw : Hid (Bk (w3g.alloc (.cells #[.int .i64 q0, .int .i64 q1, .int .i64 q2, .int .i64 q3, .int .i64 q4, .int .i64 q5, .int .i64 q6, .int .i64 q7, .string q8, .string q9, .int .i64 q10, .int .i64 q11, .int .i64 q12, .int .i64 qs, .slice na Q nc] 48)) w3g.heap.size 48 [.int .i64 q0, .int .i64 q1, .int .i64 q2, .int .i64 q3, .int .i64 q4, .int .i64 q5, .int .i64 q6, .int .i64 q7, .string q8, .string q9, .int .i64 q10, .int .i64 q11, .int .i64 q12, .int .i64 qs, .slice na Q nc]) := Lib.hid (Bk.new w3g _ _)
      have HNwo : Hid (IK.Own (w3g.alloc (.cells #[.int .i64 q0, .int .i64 q1, .int .i64 q2, .int .i64 q3, .int .i64 q4, .int .i64 q5, .int .i64 q6, .int .i64 q7, .string q8, .string q9, .int .i64 q10, .int .i64 q11, .int .i64 q12, .int .i64 qs, .slice na Q nc] 48)) 0 (.slice na Q nc) ql) := Lib.hid (how.below ((Below.refl _ _).alloc (Nat.le_refl _) _))
      obtain ⟨nb, hnb⟩ : ∃ q, w3g.heap.size = q := ⟨_, rfl⟩
      obtain ⟨w3, hw3⟩ : ∃ q, w3g.alloc (.cells #[.int .i64 q0, .int .i64 q1, .int .i64 q2, .int .i64 q3, .int .i64 q4, .int .i64 q5, .int .i64 q6, .int .i64 q7, .string q8, .string q9, .int .i64 q10, .int .i64 q11, .int .i64 q12, .int .i64 qs, .slice na Q nc] 48) = q := ⟨_, rfl⟩
      rw [hw3] at HNw HNwo hbq
      rw [hnb] at HNw
      have HBq := Lib.hid hbq
      have HX' := Lib.hid (HX.out.trans (hbq.mono HX.out.size))
      have H' := Lib.hid (H.out.on hbq (Nat.le_trans H.out.at'.lo.1 (Nat.le_of_lt H.out.at'.lt)))
      have HV' := Lib.hid (HV.out.below hbq)
      have HWs' := Lib.hid (Bk.below HWs.out hbq)
      clear hbq HX H HV HWs
      have HX := HX'
      have H := H'
      have HV := HV'
      have HWs := HWs'
      clear HX' H' HV' HWs'
      clear he hb HGt2 y3 y4 y5 how
      have HWso' := Lib.hid (HWso.out.below HBq.out)
      clear HWso
      have HWso := HWso'
      clear HWso' HBq HGL HGL2
      have HLs := Lib.hid (Bb.less_any q1 q2 p1 p2 w3)
      rw [show Bb.lessB q1 q2 p1 p2 = false from HRi.out.1] at HLs
      have HSt : Hid (q0 < p0 → n0 = 0) := Lib.hid fun hq => (HRi.out.2.2 hq).2 Hp3.out
      have HSm3 : Hid (p0 = 3 → q0 = 3 ∧ ∀ w', Below w3.heap.size w3 w' → Calls Tryz.prog 19 #[.agg #[.int .i64 p0, .int .i64 p1, .int .i64 p2, .int .i64 p3, .int .i64 p4, .int .i64 p5, .int .i64 p6, .int .i64 p7, .string p8, .string p9, .int .i64 p10, .int .i64 p11, .int .i64 p12, .int .i64 ps, .slice ga P gc], .agg #[.int .i64 q0, .int .i64 q1, .int .i64 q2, .int .i64 q3, .int .i64 q4, .int .i64 q5, .int .i64 q6, .int .i64 q7, .string q8, .string q9, .int .i64 q10, .int .i64 q11, .int .i64 q12, .int .i64 qs, .slice na Q nc]] w' (fun e w'' => e = .returned (.bool true) ∧ Below w'.heap.size w' w'')) := Lib.hid fun h3 => by
        have e := HRi.out.2.1 h3
        injection e with e1 e2 e3 e4 e5
        obtain ⟨rfl, rfl⟩ := Prod.mk.inj e2
        obtain ⟨rfl, rfl⟩ := Prod.mk.inj e3
        injection e4 with f1 f2 f3 f4 f5 f6 f7 f8
        obtain ⟨rfl, rfl⟩ := Prod.mk.inj e5
        subst e1 f1 f2 f3 f4 f5 f6 f7 f8
        have ePQ : P = Q := HPl.out.symm.trans HQl.out
        subst ePQ
        refine ⟨h3, fun w' hb => ?_⟩
        have q := sameI_any ⟨q0, (q1, q2), (q3, q4), ⟨q5, q6, q7, q8, q9, q10, q11, q12⟩, (qs, ql)⟩ (.slice ga P gc) (.slice na P nc) w' ((HWso.out.below hb).rd) ((HNwo.out.below hb).rd) HPs.out
        simp only [inE] at q
        exact q
      go_upto_region 13 with fail
      try rw [hw3]
      try rw [hnb]
      go_cut [91] from 56 to 91 (fun v wx => v = .bool false ∧ Hid (Below w3.heap.size w3 wx))
      case first =>
        as_aux_lemma =>
        have z0 := Bk.cell HWs.out 0
        have z1 := Bk.cell HWs.out 1
        have z2 := Bk.cell HWs.out 2
        simp only [msE, ansB, List.cons_append, List.nil_append, List.getElem?_cons_zero, List.getElem?_cons_succ] at z0 z1 z2
        have v0 := Bk.cell HNw.out 0
        have v1 := Bk.cell HNw.out 1
        have v2 := Bk.cell HNw.out 2
        simp only [msE, ansB, List.cons_append, List.nil_append, List.getElem?_cons_zero, List.getElem?_cons_succ] at v0 v1 v2
        go_wp2_with fail
        try rw [hw3]
        try rw [hnb]
        refine HLs.out.mono ?_
        rintro e w5 ⟨rfl, hb⟩
        have HWs2 := Lib.hid (Bk.below HWs.out hb)
        have HNw2 := Lib.hid (Bk.below HNw.out hb)
        have HB5 := Lib.hid hb
        clear z0 z1 z2 v0 v1 v2
        have z0 := Bk.cell HWs2.out 0
        simp only [msE, ansB, List.cons_append, List.nil_append, List.getElem?_cons_zero, List.getElem?_cons_succ] at z0
        have v0 := Bk.cell HNw2.out 0
        simp only [msE, ansB, List.cons_append, List.nil_append, List.getElem?_cons_zero, List.getElem?_cons_succ] at v0
        by_cases hp3 : p0 = 3
        · obtain ⟨hq0, HSa⟩ := HSm3.out hp3
          subst hp3 hq0
          have HSa2 := Lib.hid (HSa _ HB5.out)
          go_wp2_with (first
            | refine wpList_load_rowG rfl _ _ rfl wb rfl 48 _ (0, 0) _ HWs2.out Tryz.underlying48 rfl infoIn ?_
            | refine wpList_load_rowG rfl _ _ rfl nb rfl 48 _ (0, 0) _ HNw2.out Tryz.underlying48 rfl infoIn ?_
            | fail)
          refine HSa2.out.mono ?_
          rintro e w6 ⟨rfl, hb6⟩
          have HB6 := Lib.hid (HB5.out.trans (hb6.mono HB5.out.size))
          clear hb6 HB5
          have HB5 := HB6
          clear HB6 z0 v0
          have HWs3 := Lib.hid (Bk.below HWs.out HB5.out)
          have HNw3 := Lib.hid (Bk.below HNw.out HB5.out)
          have z0 := Bk.cell HWs3.out 0
          simp only [msE, ansB, List.cons_append, List.nil_append, List.getElem?_cons_zero, List.getElem?_cons_succ] at z0
          have v0 := Bk.cell HNw3.out 0
          simp only [msE, ansB, List.cons_append, List.nil_append, List.getElem?_cons_zero, List.getElem?_cons_succ] at v0
          go_wp2_with fail
          go_meet
          exact ⟨rfl, Lib.hid HB5.out⟩
        · have hp3b : (p0 == 3) = false := by simpa using hp3
          by_cases hqp : q0 < p0
          · have hqd : decide (q0 < p0) = true := decide_eq_true hqp
            have hn0 : n0 = 0 := HSt.out hqp
            subst hn0
            have y0 : w5.cell? ⟨gg, off + k * 27, none⟩ = some (.int .i64 0) := HMc.out _ (HX.out.trans (HB5.out.mono HX.out.size)) 0 _ rfl
            go_wp2_with fail
            go_meet
            exact ⟨rfl, Lib.hid HB5.out⟩
          · have hqd : decide (q0 < p0) = false := decide_eq_false hqp
            go_wp2_with fail
            go_meet
            exact ⟨rfl, Lib.hid HB5.out⟩
      case rest =>
      obtain ⟨rfl, hbc⟩ := hcut
      have hb := hbc.out
      clear hbc HSm3 HSt HLs HWso HNwo
      have HX' := Lib.hid (HX.out.trans (hb.mono HX.out.size))
      have H' := Lib.hid (H.out.on hb (Nat.le_trans H.out.at'.lo.1 (Nat.le_of_lt H.out.at'.lt)))
      have HV' := Lib.hid (HV.out.below hb)
      have HWs' := Lib.hid (Bk.below HWs.out hb)
      have HNw' := Lib.hid (Bk.below HNw.out hb)
      clear hb HX H HV HWs HNw
      have HX := HX'
      have H := H'
      have HV := HV'
      have HWs := HWs'
      have HNw := HNw'
      clear HX' H' HV' HWs' HNw'
      generalize wc = wo at *
      rcases HV.out with ⟨hl0, hv0⟩ | ⟨MM, gM, uM, hl0, hv0, hM1, _, _⟩
      · obtain ⟨rfl, rfl, rfl⟩ := Value.slice.inj hv0
        clear hv0 hl0 HV
        as_aux_lemma =>
        go_wp2_with fail
        go_loopw [13] (fun j wr => j = .int .i64 0 ∧ Hid (Below wo.heap.size wo wr)) (fun j _ => 1)
        case atStart => exact ⟨rfl, Lib.hid (Below.refl _ _)⟩
        case round =>
          obtain ⟨rfl, HBy⟩ := hrel
          go_wp2_with fail
          go_roundw
          case rel => exact ⟨k + 1, by omega, by go_num, Lib.hid (by rw [HSn.out]; exact H.out.on HBy.out (Nat.le_trans H.out.at'.lo.1 (Nat.le_of_lt H.out.at'.lt)))⟩
          case measure => simp [intOf]; omega
      · obtain ⟨rfl, rfl, rfl⟩ := Value.slice.inj hv0
        have hT := HTl.out MM (by rw [hl0]; exact .head _)
        clear hv0 hl0 HV HTl
        obtain ⟨mk, mf, mt, ⟨m3, m4, m5⟩, ⟨m6, m7⟩, mi, ms⟩ := MM
        obtain ⟨h1, h2, h3, h4⟩ := hT
        simp only at h1 h2 h3 h4
        rw [HSm.out.1] at h1
        obtain ⟨h3a, h3b⟩ := Prod.mk.inj h3
        obtain ⟨h3b, h3c⟩ := Prod.mk.inj h3b
        have h1 := h1.symm
        have h2 := h2.symm
        have h3a := h3a.symm
        have h3b := h3b.symm
        have h3c := h3c.symm
        subst h1 h2 h3a h3b h3c
        have HTk := Lib.hid h4
        have HAM := Lib.hid hM1
        clear h4 hM1 h3
        by_cases hok : mk = 1 ∨ mk = 3 ∨ mk = 6
        · as_aux_lemma =>
          have HL21 : Hid (∀ w', Calls Tryz.prog 26 #[Bb.pr n6 n7, Bb.pr p1 p2] w' fun e w'' => e = .returned (.bool false) ∧ Below w'.heap.size w' w'') := Lib.hid fun w' => by
            have q := Bb.less_any n6 n7 p1 p2 w'
            rw [show Bb.lessB n6 n7 p1 p2 = false from (HTk.out (hok)).1] at q
            exact q
          obtain ⟨-, hq12, hm67⟩ := HTk.out (hok)
          have hqa := (Prod.mk.inj hq12).1.symm
          have hqb := (Prod.mk.inj hq12).2.symm
          have hma := (Prod.mk.inj hm67).1.symm
          have hmb := (Prod.mk.inj hm67).2.symm
          clear hq12 hm67 HTk
          subst hqa hqb hma hmb
          go_wp2_with fail
          go_loopw [13] (fun j wr => ∃ n : Nat, n ≤ 1 ∧ j = .int .i64 n ∧ Hid (Below wo.heap.size wo wr)) (fun j _ => 1 - (intOf j).toNat)
          case atStart => exact ⟨0, by omega, rfl, Lib.hid (Below.refl _ _)⟩
          case round =>
            obtain ⟨nn, hnn, rfl, HBy0⟩ := hrel
            by_cases hn0 : nn = 0
            · subst hn0
              have HAMw := Lib.hid (Bk.below HAM.out HBy0.out)
              have hXw := HX.out.trans (HBy0.out.mono HX.out.size)
              have r0 := Bk.cell HAMw.out 0
              simp only [msE, List.cons_append, List.nil_append, List.getElem?_cons_zero] at r0
              clear r0
              go_upto_region 18 with fail
              go_cut [14] from 98 to 119 (fun v wx => v = .bool true ∧ wx = wr)
              case first =>
                have r0 := Bk.cell HAMw.out 0
                simp only [msE, List.cons_append, List.nil_append, List.getElem?_cons_zero] at r0
                rcases hok with rfl | rfl | rfl
                all_goals (go_wp2_with fail; go_meet; exact ⟨rfl, rfl⟩)
              case rest =>
              obtain ⟨rfl, rfl⟩ := hcut
              have r1 := Bk.cell HAMw.out 1
              have r2 := Bk.cell HAMw.out 2
              have r3 := Bk.cell HAMw.out 3
              have r4 := Bk.cell HAMw.out 4
              have r5 := Bk.cell HAMw.out 5
              simp only [msE, ansB, List.cons_append, List.nil_append, List.getElem?_cons_zero, List.getElem?_cons_succ] at r1 r2 r3 r4 r5
              have y1 := HMc.out _ hXw 1 _ rfl
              have y3 := HMc.out _ hXw 3 _ rfl
              have y4 := HMc.out _ hXw 4 _ rfl
              have y5 := HMc.out _ hXw 5 _ rfl
              have nd1 := neI_runA n3 n4 n5 n3 n4 n5 true (by simp)
              obtain ⟨_, gd1⟩ := eqI_run n3 n4 n5 n3 n4 n5
              go_wp2_with fail
              go_quiet (fail)
              generalize hwz : World.drewN _ _ = wz
              have HBz : Hid (Below wo.heap.size wo wz) := Lib.hid (by rw [← hwz]; exact below_drewNA HBy0.out _)
              clear hwz r1 r2 r3 r4 r5 y1 y3 y4 y5 nd1 gd1 HAMw hXw
              have HKP : Hid (∀ w', Below wz.heap.size wz w' → (RsS gg (off + k * 27) wb nb gM n6 n7 p1 p2 n6 n7 n6 n7) w') := Lib.hid fun w' hb => by
                have hw := HBz.out.trans (hb.mono HBz.out.size)
                have hX := HX.out.trans (hw.mono HX.out.size)
                have h1 := Bk.below HWs.out hw
                have h2 := Bk.below HNw.out hw
                have h3 := Bk.below HAM.out hw
                exact ⟨HMc.out _ hX 6 _ rfl, HMc.out _ hX 7 _ rfl, h1.cell 1, h1.cell 2, h2.cell 1, h2.cell 2, h3.cell 6, h3.cell 7⟩
              obtain ⟨_, gbb⟩ := eqB_runA n6 n7 n6 n7 true (by simp)
              have nbb := neB_runA n6 n7 n6 n7 true (by simp)
              go_wp2_with fail
              refine wp_region_held_drew (S := (RsS gg (off + k * 27) wb nb gM n6 n7 p1 p2 n6 n7 n6 n7)) (by kernel_rfl) ?_ (fun hHeld => ?_)
              · ((first
                | exact HKP.out _ hbS
                | exact HKP.out _ (Below.refl wz.heap.size wz).drew
                | exact HKP.out _ (Below.refl _ _)
                | fail))
              refine tkA 0 (v := ?_) ?_ ?_
              rotate_left
              · (intro w' hSw; clear hSw; go_simp; try rfl)
              try simp only [Act.put, gA1, gA2, gA3, gA4, gA5, gA6]
              refine tkA 1 (v := ?_) ?_ ?_
              rotate_left
              · (intro w' hSw; clear hSw; go_simp; try rfl)
              try simp only [Act.put, gA1, gA2, gA3, gA4, gA5, gA6]
              refine tkA 2 (v := ?_) ?_ ?_
              rotate_left
              · (intro w' hSw; clear hSw; go_simp; try rfl)
              try simp only [Act.put, gA1, gA2, gA3, gA4, gA5, gA6]
              refine tkA 3 (v := ?_) ?_ ?_
              rotate_left
              · (intro w' hSw; clear hSw; go_simp; try rfl)
              try simp only [Act.put, gA1, gA2, gA3, gA4, gA5, gA6]
              refine tkA 4 (v := ?_) ?_ ?_
              rotate_left
              · (intro w' hSw; clear hSw; go_simp; try rfl)
              try simp only [Act.put, gA1, gA2, gA3, gA4, gA5, gA6]
              refine tkA 5 (v := ?_) ?_ ?_
              rotate_left
              · (intro w' hSw; clear hSw; go_simp; try rfl)
              try simp only [Act.put, gA1, gA2, gA3, gA4, gA5, gA6]
              refine tkA 6 (v := ?_) ?_ ?_
              rotate_left
              · (intro w' hSw; have eg6 := hSw.g6; have eg7 := hSw.g7; clear hSw; go_simp; try rfl)
              try simp only [Act.put, gA1, gA2, gA3, gA4, gA5, gA6]
              refine tkA 7 (v := ?_) ?_ ?_
              rotate_left
              · (intro w' hSw; clear hSw; go_simp; try rfl)
              try simp only [Act.put, gA1, gA2, gA3, gA4, gA5, gA6]
              refine tkA 8 (v := ?_) ?_ ?_
              rotate_left
              · (intro w' hSw; have ec1 := hSw.c1; have ec2 := hSw.c2; clear hSw; go_simp; try rfl)
              try simp only [Act.put, gA1, gA2, gA3, gA4, gA5, gA6]
              refine wpAnyH_ready (rs := [9]) (by kernel_rfl) (by simp) ?_
              refine (AllReadyH.cons rfl (fun K hK => ?_) AllReadyH.nil)
              go_simp
              (go_at_call 26; refine (HL21.out _).mono ?_; rintro e ws ⟨rfl, hbq⟩; have hbS : Below wz.heap.size wz ws := (Below.refl wz.heap.size wz).drew.trans hbq; clear hbq)
              refine hK.out _ _ ?_ (fun hHeld => ?_)
              · ((first
                | exact HKP.out _ hbS
                | exact HKP.out _ (Below.refl wz.heap.size wz).drew
                | exact HKP.out _ (Below.refl _ _)
                | fail))
              clear hK K
              try simp only [Act.put, gA1, gA2, gA3, gA4, gA5, gA6]
              refine tkA 10 (v := ?_) ?_ ?_
              rotate_left
              · (intro w' hSw; clear hSw; go_simp; try rfl)
              try simp only [Act.put, gA1, gA2, gA3, gA4, gA5, gA6]
              refine tkA 11 (v := ?_) ?_ ?_
              rotate_left
              · (intro w' hSw; clear hSw; go_simp; try rfl)
              try simp only [Act.put, gA1, gA2, gA3, gA4, gA5, gA6]
              refine tkA 12 (v := ?_) ?_ ?_
              rotate_left
              · (intro w' hSw; have ef1 := hSw.f1; have ef2 := hSw.f2; clear hSw; go_simp; try rfl)
              try simp only [Act.put, gA1, gA2, gA3, gA4, gA5, gA6]
              refine tkA 13 (v := ?_) ?_ ?_
              rotate_left
              · (intro w' hSw; clear hSw; go_simp; try rfl)
              try simp only [Act.put, gA1, gA2, gA3, gA4, gA5, gA6]
              refine tkA 14 (v := ?_) ?_ ?_
              rotate_left
              · (intro w' hSw; clear hSw; go_simp; try rfl)
              try simp only [Act.put, gA1, gA2, gA3, gA4, gA5, gA6]
              refine tkA 15 (v := ?_) ?_ ?_
              rotate_left
              · (intro w' hSw; clear hSw; go_simp; try rfl)
              try simp only [Act.put, gA1, gA2, gA3, gA4, gA5, gA6]
              refine tkA 16 (v := ?_) ?_ ?_
              rotate_left
              · (intro w' hSw; clear hSw; go_simp; try rfl)
              try simp only [Act.put, gA1, gA2, gA3, gA4, gA5, gA6]
              refine tkA 17 (v := ?_) ?_ ?_
              rotate_left
              · (intro w' hSw; have eg6 := hSw.g6; have eg7 := hSw.g7; clear hSw; go_simp; try rfl)
              try simp only [Act.put, gA1, gA2, gA3, gA4, gA5, gA6]
              refine tkA 18 (v := ?_) ?_ ?_
              rotate_left
              · (intro w' hSw; clear hSw; go_simp; try rfl)
              try simp only [Act.put, gA1, gA2, gA3, gA4, gA5, gA6]
              refine tkA 19 (v := ?_) ?_ ?_
              rotate_left
              · (intro w' hSw; clear hSw; go_simp; try rfl)
              try simp only [Act.put, gA1, gA2, gA3, gA4, gA5, gA6]
              refine tkA 20 (v := ?_) ?_ ?_
              rotate_left
              · (intro w' hSw; clear hSw; go_simp; try rfl)
              try simp only [Act.put, gA1, gA2, gA3, gA4, gA5, gA6]
              refine tkA 21 (v := ?_) ?_ ?_
              rotate_left
              · (intro w' hSw; clear hSw; go_simp; try rfl)
              try simp only [Act.put, gA1, gA2, gA3, gA4, gA5, gA6]
              refine tkA 22 (v := ?_) ?_ ?_
              rotate_left
              · (intro w' hSw; clear hSw; go_simp; try rfl)
              try simp only [Act.put, gA1, gA2, gA3, gA4, gA5, gA6]
              refine tkA 23 (v := ?_) ?_ ?_
              rotate_left
              · (intro w' hSw; clear hSw; go_simp; try rfl)
              try simp only [Act.put, gA1, gA2, gA3, gA4, gA5, gA6]
              refine tkA 24 (v := ?_) ?_ ?_
              rotate_left
              · (intro w' hSw; clear hSw; go_simp; try rfl)
              try simp only [Act.put, gA1, gA2, gA3, gA4, gA5, gA6]
              refine tkA 25 (v := ?_) ?_ ?_
              rotate_left
              · (intro w' hSw; have eo6 := hSw.o6; have eo7 := hSw.o7; clear hSw; go_simp; try rfl)
              try simp only [Act.put, gA1, gA2, gA3, gA4, gA5, gA6]
              refine tkA 26 (v := ?_) ?_ ?_
              rotate_left
              · (intro w' hSw; clear hSw; go_simp; try rfl)
              try simp only [Act.put, gA1, gA2, gA3, gA4, gA5, gA6]
              refine tkA 27 (v := ?_) ?_ ?_
              rotate_left
              · (intro w' hSw; clear hSw; go_simp; try rfl)
              try simp only [Act.put, gA1, gA2, gA3, gA4, gA5, gA6]
              refine tkA 28 (v := ?_) ?_ ?_
              rotate_left
              · (intro w' hSw; clear hSw; go_simp; try rfl)
              try simp only [Act.put, gA1, gA2, gA3, gA4, gA5, gA6]
              refine tkA 29 (v := ?_) ?_ ?_
              rotate_left
              · (intro w' hSw; clear hSw; go_simp; try rfl)
              try simp only [Act.put, gA1, gA2, gA3, gA4, gA5, gA6]
              refine tkA 30 (v := ?_) ?_ ?_
              rotate_left
              · (intro w' hSw; have eg6 := hSw.g6; have eg7 := hSw.g7; clear hSw; go_simp; try rfl)
              try simp only [Act.put, gA1, gA2, gA3, gA4, gA5, gA6]
              refine tkA 31 (v := ?_) ?_ ?_
              rotate_left
              · (intro w' hSw; clear hSw; go_simp; try rfl)
              try simp only [Act.put, gA1, gA2, gA3, gA4, gA5, gA6]
              refine tkA 32 (v := ?_) ?_ ?_
              rotate_left
              · (intro w' hSw; clear hSw; go_simp; try rfl)
              try simp only [Act.put, gA1, gA2, gA3, gA4, gA5, gA6]
              refine tkA 33 (v := ?_) ?_ ?_
              rotate_left
              · (intro w' hSw; clear hSw; go_simp; try rfl)
              try simp only [Act.put, gA1, gA2, gA3, gA4, gA5, gA6]
              refine wpAnyH_done (by kernel_rfl) ?_ _
              go_split_ands
              clear HKP HL21
              have HBy : Hid (Below wo.heap.size wo ws) := Lib.hid (HBz.out.trans (hbS.mono HBz.out.size))
              clear hbS
              go_wp2_with fail
              go_roundw
              case rel => exact ⟨1, Nat.le_refl _, rfl, HBy⟩
              case measure => simp [intOf]
            · obtain rfl : nn = 1 := by omega
              have HBy := HBy0
              go_wp2_with fail
              go_roundw
              case rel => exact ⟨k + 1, by omega, by go_num, Lib.hid (by rw [HSn.out]; exact H.out.on HBy.out (Nat.le_trans H.out.at'.lo.1 (Nat.le_of_lt H.out.at'.lt)))⟩
              case measure => simp [intOf]; omega
        as_aux_lemma =>
        have k1b : (mk == 1) = false := by simpa using fun q => hok (.inl q)
        have k3b : (mk == 3) = false := by simpa using fun q => hok (.inr (.inl q))
        have k6b : (mk == 6) = false := by simpa using fun q => hok (.inr (.inr q))
        go_wp2_with fail
        go_loopw [13] (fun j wr => ∃ n : Nat, n ≤ 1 ∧ j = .int .i64 n ∧ Hid (Below wo.heap.size wo wr)) (fun j _ => 1 - (intOf j).toNat)
        case atStart => exact ⟨0, by omega, rfl, Lib.hid (Below.refl _ _)⟩
        case round =>
          obtain ⟨nn, hnn, rfl, HBy0⟩ := hrel
          by_cases hn0 : nn = 0
          · subst hn0
            have HAMw := Lib.hid (Bk.below HAM.out HBy0.out)
            have hXw := HX.out.trans (HBy0.out.mono HX.out.size)
            have r0 := Bk.cell HAMw.out 0
            simp only [msE, List.cons_append, List.nil_append, List.getElem?_cons_zero] at r0
            have r1 := Bk.cell HAMw.out 1
            have r2 := Bk.cell HAMw.out 2
            have r3 := Bk.cell HAMw.out 3
            have r4 := Bk.cell HAMw.out 4
            have r5 := Bk.cell HAMw.out 5
            simp only [msE, ansB, List.cons_append, List.nil_append, List.getElem?_cons_zero, List.getElem?_cons_succ] at r1 r2 r3 r4 r5
            have y1 := HMc.out _ hXw 1 _ rfl
            have y3 := HMc.out _ hXw 3 _ rfl
            have y4 := HMc.out _ hXw 4 _ rfl
            have y5 := HMc.out _ hXw 5 _ rfl
            have nd1 := neI_runA n3 n4 n5 n3 n4 n5 true (by simp)
            obtain ⟨_, gd1⟩ := eqI_run n3 n4 n5 n3 n4 n5
            go_wp2_with fail
            go_quiet (fail)
            generalize hwz : World.drewN _ _ = wz
            have HBz : Hid (Below wo.heap.size wo wz) := Lib.hid (by rw [← hwz]; exact below_drewNA HBy0.out _)
            clear hwz r1 r2 r3 r4 r5 y1 y3 y4 y5 nd1 gd1 HAMw hXw
            go_wp2_with fail
            go_quiet (fail)
            generalize hwz2 : World.drewN _ _ = wz2
            have HBy : Hid (Below wo.heap.size wo wz2) := Lib.hid (by rw [← hwz2]; exact below_drewNA HBz.out _)
            clear hwz2
            go_wp2_with fail
            go_roundw
            case rel => exact ⟨1, Nat.le_refl _, rfl, HBy⟩
            case measure => simp [intOf]
          · obtain rfl : nn = 1 := by omega
            have HBy := HBy0
            go_wp2_with fail
            go_roundw
            case rel => exact ⟨k + 1, by omega, by go_num, Lib.hid (by rw [HSn.out]; exact H.out.on HBy.out (Nat.le_trans H.out.at'.lo.1 (Nat.le_of_lt H.out.at'.lt)))⟩
            case measure => simp [intOf]; omega
    · have e : k = K := by omega
      subst e
      have hk2 : decide ((k : Int) < (k : Int)) = false := decide_eq_false (by omega)
      have hk3 : decide (k < k) = false := decide_eq_false (by omega)
      have HX : Hid (Below W.heap.size W wr) := Lib.hid (HX4.out.trans (H.out.gr.mono HWB.out))
      go_wp2
      go_ret
      exact ⟨rfl, HX.out⟩
end Go.Proofs.YtchhcaoondfpiaaGreat
