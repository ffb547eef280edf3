/-
  Package accept's laws: AcceptSees.
-/
import Derived.Test.YtchhcaoondfpiaaGreatAcL2
import Derived.Test.YtchhcaoondfpiaaGreatAcN
import Derived.Deep.CutBlock
namespace Go.Proofs.YtchhcaoondfpiaaGreat
open Go.RowKit Go.Sort
open Go.WideMaps
set_option linter.unusedSimpArgs false
set_option linter.unusedVariables false
set_option maxRecDepth 100000

theorem heard_ep (b : BSt) : ∀ l : List Mg, EpB b → EpB (heardB b l) := by
  intro l
  unfold heardB
  induction l generalizing b with
  | nil => exact fun h => h
  | cons m l ih => exact fun h => ih _ (hear_ep lclA h m)
theorem mga_rd {w : World} {v : Value} {x : Mg} (h : MgA w v x) {cs : Array Value} (hv : v = .agg cs) {u : Value} (hu : cs[22]? = some u) : IK.Rd w u x.ins.at'.2 := by
  obtain ⟨ua, uc, a1, d1, c1, a2, d2, c2, a3, d3, c3, e, h2, _, _⟩ := h
  rw [hv] at e
  have e1 := Value.agg.inj e
  rw [e1] at hu
  have e2 : some (Value.slice ua x.ins.at'.2.length uc) = some u := by rw [← hu]; rfl
  rw [← Option.some.inj e2]
  exact h2
theorem knd_keepSet {P : Program} {α : Type} {K : Knd P α} {w : World} {base : Nat} {v : Value} {l : List α} (h : K.Own w base v l) {b o : Nat} (hb : b < base) (u : Value) : K.Own (w.setCell ⟨b, o, none⟩ u) base v l :=
  h.keepB fun k hk => Below.heap_setCell w ⟨b, o, none⟩ u k (by
    intro e
    have h1 : base ≤ k := h.from k hk
    have h2 : k = b := e
    omega)
/-- The cells that a region reads. -/
structure SeD (ga gm gd o : Nat) (v u : Value) (e1 e2 e3 : Int) (w' : World) : Prop where
  a1 : w'.cell? ⟨ga, 1, none⟩ = some v
  m22 : w'.cell? ⟨gm, 22, none⟩ = some u
  d0 : w'.cell? ⟨gd, o, none⟩ = some (.int .i64 e1)
  d1 : w'.cell? ⟨gd, o + 1, none⟩ = some (.int .i64 e2)
  d2 : w'.cell? ⟨gd, o + 2, none⟩ = some (.int .i64 e3)
structure SeE (ga gm gM : Nat) (ca cm cM : List Value) (w' : World) : Prop where
  a : Bk w' ga 46 ca
  m : Bk w' gm 54 cm
  o : Bk w' gM 54 cM
theorem hasI_of {l : List I3} {x : I3} (h : x ∈ l) : hasI l x = true := by
  unfold hasI
  rw [List.any_eq_true]
  exact ⟨x, h, by simp⟩
theorem hasI_no {l : List I3} {x : I3} (h : x ∉ l) : hasI l x = false := by
  cases q : hasI l x with
  | false => rfl
  | true =>
    unfold hasI at q
    rw [List.any_eq_true] at q
    obtain ⟨y, hy, e⟩ := q
    have : y = x := by simpa using e
    exact absurd (this ▸ hy) h
set_option maxHeartbeats 16000000 in
theorem sees_law (ep : Int) (ao : Option Addr) (co : Nat) (zs : List Int) (x : Mg) (v2 v3 : Value) (rs : List (Cls 27)) (l : List Mg) (W : World) (hr : It W (.slice ao zs.length co) zs) (hl : RowIs KM msS W v2 rs l) (hm : MsgIs W v3 x) (hml : Tc.ML W) :
    Calls Tryz.prog 5 #[.agg #[.int .i64 ep, .slice ao zs.length co], v2, v3] W fun e w' => e = .returned (.bool true) ∧ Below W.heap.size W w' := by
  have HOl := Lib.hid hl
  obtain ⟨a2', c2', e2'⟩ := rowSl hl
  subst e2'
  have HMI := Lib.hid hm
  have HMV := Lib.hid hm.mga
  obtain ⟨ua, uc, a1, d1, c1, a2, d2, c2, a3, d3, c3, rfl, hrd, hokl, hid⟩ := hm.mga
  obtain ⟨n0, n1, n2, ⟨n3, n4, n5⟩, ⟨n6, n7⟩, ⟨n8, ⟨n9, n10⟩, ⟨n11, n12⟩, ⟨n13, n14, n15, n16, n17, n18, n19, n20⟩, n21, dl⟩, sn0⟩ := x
  obtain ⟨n23, sn1⟩ : ∃ q, sn0.1.1 = q := ⟨_, rfl⟩
  obtain ⟨M, hM⟩ : ∃ M, dl.length = M := ⟨_, rfl⟩
  have HMl := Lib.hid hM
  simp only at hrd hokl hid
  have HMk : Hid (∀ (k : Int) w', Below W.heap.size W w' → MgA w' (.agg #[.int .i64 k, .int .i64 n1, .int .i64 n2, .int .i64 n3, .int .i64 n4, .int .i64 n5, .int .i64 n6, .int .i64 n7, .int .i64 n8, .int .i64 n9, .int .i64 n10, .int .i64 n11, .int .i64 n12, .int .i64 n13, .int .i64 n14, .int .i64 n15, .string n16, .string n17, .int .i64 n18, .int .i64 n19, .int .i64 n20, .int .i64 n21, .slice ua M uc, .int .i64 n23, .slice a1 d1 c1, .slice a2 d2 c2, .slice a3 d3 c3]) ⟨k, n1, n2, (n3, n4, n5), (n6, n7), ⟨n8, (n9, n10), (n11, n12), ⟨n13, n14, n15, n16, n17, n18, n19, n20⟩, (n21, dl)⟩, sn0⟩) := Lib.hid fun k w' hb => ⟨ua, uc, a1, d1, c1, a2, d2, c2, a3, d3, c3, by simp only [msE, inE, snV, sn1, List.cons_append, List.nil_append]; rw [hM], hrd.below hb, hokl, hid⟩
  simp only [msE, inE, snV, hM, sn1, List.cons_append, List.nil_append] at hrd HMI HMV ⊢
  have HOKD := Lib.hid hokl
  have HID1 : Hid (okI (n3, n4, n5)) := Lib.hid hid
  clear hM sn1 hm hrd hokl hid
  obtain ⟨K, hK⟩ : ∃ K, l.length = K := ⟨_, rfl⟩
  have hlen := hl.rd.len
  rw [hl.len, hK] at hlen
  have hK63 : K ≤ 9223372036854775807 := by unfold maxLen at hlen; omega
  obtain ⟨N, hN⟩ : ∃ N, zs.length = N := ⟨_, rfl⟩
  have hN63 := hr.len
  rw [hK] at HOl hl ⊢
  rw [hN] at hN63 ⊢
  have HR := Lib.hid hl
  have HK := Lib.hid hK
  have HN' := Lib.hid hN
  have HIt := Lib.hid hr
  have HML := Lib.hid hml
  obtain ⟨X0, hX0⟩ : ∃ X0, ((W.alloc (.cells #[.int .i64 ep, .slice ao N co] 24)).alloc (.cells #[.int .i64 n0, .int .i64 n1, .int .i64 n2, .int .i64 n3, .int .i64 n4, .int .i64 n5, .int .i64 n6, .int .i64 n7, .int .i64 n8, .int .i64 n9, .int .i64 n10, .int .i64 n11, .int .i64 n12, .int .i64 n13, .int .i64 n14, .int .i64 n15, .string n16, .string n17, .int .i64 n18, .int .i64 n19, .int .i64 n20, .int .i64 n21, .slice ua M uc, .int .i64 n23, .slice a1 d1 c1, .slice a2 d2 c2, .slice a3 d3 c3] 54)) = X0 := ⟨_, rfl⟩
  have HB0 : Hid (Bk X0 (W.heap.size) 24 [.int .i64 ep, .slice ao N co]) := Lib.hid (by rw [← hX0]; exact (Bk.newA (by simp) _ [.int .i64 ep, .slice ao N co]).old _)
  have HB1 : Hid (Bk X0 (W.heap.size + 1) 54 [.int .i64 n0, .int .i64 n1, .int .i64 n2, .int .i64 n3, .int .i64 n4, .int .i64 n5, .int .i64 n6, .int .i64 n7, .int .i64 n8, .int .i64 n9, .int .i64 n10, .int .i64 n11, .int .i64 n12, .int .i64 n13, .int .i64 n14, .int .i64 n15, .string n16, .string n17, .int .i64 n18, .int .i64 n19, .int .i64 n20, .int .i64 n21, .slice ua M uc, .int .i64 n23, .slice a1 d1 c1, .slice a2 d2 c2, .slice a3 d3 c3]) := Lib.hid (by rw [← hX0]; exact Bk.newA (by simp) _ [.int .i64 n0, .int .i64 n1, .int .i64 n2, .int .i64 n3, .int .i64 n4, .int .i64 n5, .int .i64 n6, .int .i64 n7, .int .i64 n8, .int .i64 n9, .int .i64 n10, .int .i64 n11, .int .i64 n12, .int .i64 n13, .int .i64 n14, .int .i64 n15, .string n16, .string n17, .int .i64 n18, .int .i64 n19, .int .i64 n20, .int .i64 n21, .slice ua M uc, .int .i64 n23, .slice a1 d1 c1, .slice a2 d2 c2, .slice a3 d3 c3])
  have HX : Hid (Below W.heap.size W X0) := Lib.hid (by rw [← hX0]; exact ((Below.refl _ _).alloc (by simp <;> omega) _).alloc (by simp <;> omega) _)
  have HZ0 : Hid (X0.heap.size = W.heap.size + 1 + 1) := Lib.hid (by rw [← hX0]; simp)
  have HWk := Lib.hid (works_any X0 (hml.below HX.out))
  have HOv2 : Hid (∀ V : World, Below W.heap.size W V → ∀ g, V.heap.size = g → Calls Tryz.prog 12 #[.slice (some ⟨g, 0, none⟩) 1 1] (V.alloc (.cells #[.int .i64 n0, .int .i64 n1, .int .i64 n2, .int .i64 n3, .int .i64 n4, .int .i64 n5, .int .i64 n6, .int .i64 n7, .int .i64 n8, .int .i64 n9, .int .i64 n10, .int .i64 n11, .int .i64 n12, .int .i64 n13, .int .i64 n14, .int .i64 n15, .string n16, .string n17, .int .i64 n18, .int .i64 n19, .int .i64 n20, .int .i64 n21, .slice ua M uc, .int .i64 n23, .slice a1 d1 c1, .slice a2 d2 c2, .slice a3 d3 c3] 54)) (OvA [⟨n0, n1, n2, (n3, n4, n5), (n6, n7), ⟨n8, (n9, n10), (n11, n12), ⟨n13, n14, n15, n16, n17, n18, n19, n20⟩, (n21, dl)⟩, sn0⟩] (V.alloc (.cells #[.int .i64 n0, .int .i64 n1, .int .i64 n2, .int .i64 n3, .int .i64 n4, .int .i64 n5, .int .i64 n6, .int .i64 n7, .int .i64 n8, .int .i64 n9, .int .i64 n10, .int .i64 n11, .int .i64 n12, .int .i64 n13, .int .i64 n14, .int .i64 n15, .string n16, .string n17, .int .i64 n18, .int .i64 n19, .int .i64 n20, .int .i64 n21, .slice ua M uc, .int .i64 n23, .slice a1 d1 c1, .slice a2 d2 c2, .slice a3 d3 c3] 54)))) := Lib.hid fun V hV g hg => overA1_any (cs := #[.int .i64 n0, .int .i64 n1, .int .i64 n2, .int .i64 n3, .int .i64 n4, .int .i64 n5, .int .i64 n6, .int .i64 n7, .int .i64 n8, .int .i64 n9, .int .i64 n10, .int .i64 n11, .int .i64 n12, .int .i64 n13, .int .i64 n14, .int .i64 n15, .string n16, .string n17, .int .i64 n18, .int .i64 n19, .int .i64 n20, .int .i64 n21, .slice ua M uc, .int .i64 n23, .slice a1 d1 c1, .slice a2 d2 c2, .slice a3 d3 c3]) (HMI.out.on hV) g hg
  clear hr hl hlen hml HMI
  go_enter Tryz.func5, Tryz.ntmps5
  go_wp2_with fail
  try rw [hX0]
  refine HWk.out.mono ?_
  rintro e w1 ⟨rfl, hb⟩
  have HX1 := Lib.hid hb
  have HX' := Lib.hid (HX.out.trans (hb.mono HX.out.size))
  clear hb HX
  have HX := HX'
  clear HX'
  clear hX0 HWk
  go_wp2_with fail
  refine (overA_any _ rs l w1 (HOl.out.on HX.out)).mono ?_
  rintro e w2 ⟨R, he, hR, hb⟩
  rw [he.out]
  have HX2 : Hid (Below X0.heap.size X0 w2) := Lib.hid (HX1.out.trans (hb.mono HX1.out.size))
  have HX' := Lib.hid (HX.out.trans (hb.mono HX.out.size))
  clear hb HX
  have HX := HX'
  clear HX'
  cases R with
  | true =>
    go_wp2
    go_ret
    exact ⟨rfl, HX.out⟩
  | false =>
  have HLl := Lib.hid (hR rfl)
  clear he hR
  have HD0 := Lib.hid (HB0.out.below HX2.out)
  have HD1 := Lib.hid (HB1.out.below HX2.out)
  go_wp2_with (first
    | refine wpList_load_rowG rfl _ _ rfl (W.heap.size + 1) rfl 54 _ (0, 0) _ HD1.out Tryz.underlying54 rfl (by kernel_rfl) ?_
    | fail)
  refine (HOv2.out w2 HX.out _ rfl).mono ?_
  rintro e w3 ⟨R, he, hR, hb⟩
  rw [he.out]
  have hb := (al1 w2 (.cells #[.int .i64 n0, .int .i64 n1, .int .i64 n2, .int .i64 n3, .int .i64 n4, .int .i64 n5, .int .i64 n6, .int .i64 n7, .int .i64 n8, .int .i64 n9, .int .i64 n10, .int .i64 n11, .int .i64 n12, .int .i64 n13, .int .i64 n14, .int .i64 n15, .string n16, .string n17, .int .i64 n18, .int .i64 n19, .int .i64 n20, .int .i64 n21, .slice ua M uc, .int .i64 n23, .slice a1 d1 c1, .slice a2 d2 c2, .slice a3 d3 c3] 54)).trans (hb.mono (by simp))
  have HX3 : Hid (Below X0.heap.size X0 w3) := Lib.hid (HX2.out.trans (hb.mono HX2.out.size))
  have HX' := Lib.hid (HX.out.trans (hb.mono HX.out.size))
  clear hb HX
  have HX := HX'
  clear HX'
  cases R with
  | true =>
    go_wp2
    go_ret
    exact ⟨rfl, HX.out⟩
  | false =>
  have HSx : Hid (SmMg ⟨n0, n1, n2, (n3, n4, n5), (n6, n7), ⟨n8, (n9, n10), (n11, n12), ⟨n13, n14, n15, n16, n17, n18, n19, n20⟩, (n21, dl)⟩, sn0⟩) := Lib.hid ((hR rfl).2 ⟨n0, n1, n2, (n3, n4, n5), (n6, n7), ⟨n8, (n9, n10), (n11, n12), ⟨n13, n14, n15, n16, n17, n18, n19, n20⟩, (n21, dl)⟩, sn0⟩ (by simp))

  clear he hR HD0 HD1 HX1 HX2
  have HE0 := Lib.hid (HB0.out.below HX3.out)
  have HE1 := Lib.hid (HB1.out.below HX3.out)
  have cc0 := HE0.out.cell 0
  have cc1 := HE0.out.cell 1
  simp only [List.getElem?_cons_zero, List.getElem?_cons_succ] at cc0 cc1
  by_cases q1 : (40 : Int) < (N : Int)
  · have dq1 : decide ((40 : Int) < (N : Int)) = true := decide_eq_true q1
    have dq1n : decide (40 < N) = true := decide_eq_true (by omega)
    go_wp2
    go_ret
    exact ⟨rfl, HX.out⟩
  have dq1 : decide ((40 : Int) < (N : Int)) = false := decide_eq_false q1
  have dq1n : decide (40 < N) = false := decide_eq_false (by omega)
  have HN : Hid (zs.length ≤ 40) := Lib.hid (by rw [HN'.out]; omega)
  have HKb : Hid (K ≤ 40) := Lib.hid (by have := HLl.out.1; rw [HK.out] at this; exact this)
  by_cases q2 : N = 0
  · have dq2 : decide ((N : Int) = 0) = true := decide_eq_true (by omega)
    have dq2n : decide (N = 0) = true := decide_eq_true q2
    have dq2b : (N == 0) = true := by simpa using q2
    have dq2c : ((N : Int) == 0) = true := by simpa using q2
    go_wp2
    go_ret
    exact ⟨rfl, HX.out⟩
  have dq2 : decide ((N : Int) = 0) = false := decide_eq_false (by omega)
  have dq2n : decide (N = 0) = false := decide_eq_false q2
  have dq2b : (N == 0) = false := by simpa using q2
  have dq2c : ((N : Int) == 0) = false := by simpa using q2
  obtain ⟨gz, oz, cz, hvz, hgz, hcz⟩ := HIt.out.cell (i := 0) (by rw [HN'.out]; omega)
  obtain ⟨haz, -, hcz2⟩ := Value.slice.inj hvz
  subst haz hcz2
  obtain ⟨nd, hnd⟩ : ∃ nd, zs.getD 0 0 = nd := ⟨_, rfl⟩
  have hc0 : w3.cell? ⟨gz, oz, none⟩ = some (.int .i64 nd) := (HX.out.cell (p := ⟨gz, oz, none⟩) hgz).trans (by rw [← hnd]; exact hcz 0 (by rw [HN'.out]; omega))
  have hN0 : (0 : Int) < (N : Int) := by omega
  have hN0d : decide ((0 : Int) < (N : Int)) = true := decide_eq_true hN0
  have hN0n : decide (0 < N) = true := decide_eq_true (by omega)
  clear hvz hcz hnd
  have HNw : Hid (Calls Tryz.prog 13 #[.int .i64 nd, .agg #[.int .i64 ep, .slice (some ⟨gz, oz, none⟩) N co]] w3 (BnP ⟨nd, ep, zs, []⟩ w3)) := Lib.hid (by
    have q := bnew_any nd ep (some ⟨gz, oz, none⟩) co zs w3 (HIt.out.below HX.out) (by have := HN.out; omega)
    rw [HN'.out] at q
    exact q)
  clear hN
  go_wp2_with fail
  refine HNw.out.mono ?_
  rintro e w4 ⟨g, mb, he, hB, hb⟩
  rw [he.out]
  obtain ⟨B, hBe⟩ : ∃ B, w3.heap.size = B := ⟨_, rfl⟩
  rw [hBe] at hB hb
  have HWB : Hid (W.heap.size ≤ B) := Lib.hid (hBe ▸ HX.out.size)
  have HXB : Hid (W.heap.size + 1 + 1 ≤ B) := Lib.hid (by have := HX3.out.size; have := HZ0.out; omega)
  have hX4 : Below W.heap.size W w4 := HX.out.trans (hb.mono HWB.out)
  have hX34 : Below X0.heap.size X0 w4 := HX3.out.trans (hb.mono (by have := HX3.out.size; omega))
  have HX4 := Lib.hid hX4
  have H0 : Hid (BkIn w4 B g mb 0 (heardB ⟨nd, ep, zs, []⟩ (l.take 0)) w4) := Lib.hid ⟨hB, SmBk.nil _ _ _, Below.refl _ _⟩
  have HG0 := Lib.hid (HB0.out.below hX34)
  have HG1 := Lib.hid (HB1.out.below hX34)
  have HB4 : Hid (B ≤ w4.heap.size) := Lib.hid (by rw [← hBe]; exact hb.size)
  clear he hB hb hBe hX4 hX34 HX HX3 HNw cc0 cc1 dq1 dq1n q1 dq2 dq2n dq2b dq2c q2 hc0 hN0 hN0d hN0n hgz HZ0 HE0 HB0 HE1 HB1
  go_wp2_with fail
  go_loopw [10] (fun i wr => ∃ (k : Nat), k ≤ K ∧ i = .int .i64 k ∧ Hid (BkIn w4 B g mb k (heardB ⟨nd, ep, zs, []⟩ (l.take k)) wr)) (fun i _ => K - (intOf i).toNat)
  case atStart => exact ⟨0, Nat.zero_le _, rfl, H0⟩
  case round =>
    clear H0
    obtain ⟨k, hk, rfl, H⟩ := hrel
    by_cases hlt : k < K
    · have hk1 : (k : Int) < (K : Int) := by omega
      have hk2 : decide ((k : Int) < (K : Int)) = true := decide_eq_true hk1
      have hk3 : decide (k < K) = true := decide_eq_true hlt
      obtain ⟨-, hlk, gg, off, cs, ha, hg, hcs, hc⟩ := HR.out.el rfl k hlt
      subst ha
      have eK : KM.k = 27 := rfl
      rw [eK] at hc
      clear eK
      have hWr : Below W.heap.size W wr := HX4.out.trans (H.out.gr.mono HWB.out)
      have HRG : Hid (wr.rangeAt gg (off + k * 27) cs) := Lib.hid fun j v hv => (hWr.cell (p := ⟨gg, off + k * 27 + j, none⟩) hg).trans (hc j v hv)
      have hlc : cs.length = 27 := by obtain ⟨u, u1, u2, u3, hq⟩ := hcs; rw [hq.cs]; rfl
      have Hinf : Hid ((Tryz.prog.info? 54).map (·.size) = some cs.length) := Lib.hid (by rw [hlc]; kernel_rfl)
      have hmk : MgA wr (.agg cs.toArray) l[k] := (MsgIs.on ⟨cs.toArray, rfl, by simpa using hcs⟩ hWr).mga
      have HHr := Lib.hid (hear_in H.out (by have := HKb.out; omega) (by rw [(heard_same ⟨nd, ep, zs, []⟩ (l.take k)).2.2]; have := HN.out; show zs.length ≤ 1000; omega) (HML.out.below hWr) hmk (HLl.out.2 _ (List.getElem_mem hlk)))
      have HSn : Hid (heardB ⟨nd, ep, zs, []⟩ (l.take (k + 1)) = (hearB lclA (heardB ⟨nd, ep, zs, []⟩ (l.take k)) l[k]).1) := Lib.hid (by rw [List.take_succ_eq_append_getElem hlk, heard_snoc])
      have hgw : gg < wr.heap.size := Nat.lt_of_lt_of_le hg hWr.size
      clear hc hcs hlc hmk hWr hg
      go_wp2_with (first | refine wpList_load_mid rfl _ _ rfl gg (off + k * 27) rfl _ _ HRG.out Tryz.underlying54 rfl Hinf.out ?_ | fail)
      refine HHr.out.mono ?_
      rintro e w7 ⟨v7, he, hk7, hg7, ha7⟩
      rw [he.out]
      have H7 : Hid (BkIn w4 B g mb (k + 1) (heardB ⟨nd, ep, zs, []⟩ (l.take (k + 1))) w7) := Lib.hid (by rw [HSn.out]; exact hk7)
      clear he hk7 hg7 ha7 H HHr HRG HSn Hinf
      go_wp2_with fail
      go_roundw
      case rel => exact ⟨k + 1, by omega, by go_num, H7⟩
      case measure => simp [intOf]; omega
    · have e : k = K := by omega
      subst e
      have hk2 : decide ((k : Int) < (k : Int)) = false := decide_eq_false (by omega)
      have hk3 : decide (k < k) = false := decide_eq_false (by omega)
      obtain ⟨b, hbe⟩ : ∃ b, heardB ⟨nd, ep, zs, []⟩ l = b := ⟨_, rfl⟩
      have HSm : Hid (b.node = nd ∧ b.ep = ep ∧ b.ns = zs) := Lib.hid (by rw [← hbe]; exact heard_same _ _)
      have HH : Hid (BkIn w4 B g mb k b wr) := Lib.hid (by have h := H.out; rw [← HK.out, List.take_length, hbe, HK.out] at h; exact h)
      have HX : Hid (Below W.heap.size W wr) := Lib.hid (HX4.out.trans (HH.out.gr.mono HWB.out))
      have HEp : Hid (EpB b) := Lib.hid (by rw [← hbe]; exact heard_ep _ _ (fun e he => by cases he))
      have HNs : Hid (b.ns.length ≤ 1000) := Lib.hid (by rw [HSm.out.2.2]; have := HN.out; omega)
      have HB0 : Hid (Bk wr (W.heap.size) 24 [.int .i64 ep, .slice (some ⟨gz, oz, none⟩) N co]) := Lib.hid ((HH.out.gr.block _ (by have := HXB.out; omega)).trans HG0.out)
      have HB1 : Hid (Bk wr (W.heap.size + 1) 54 [.int .i64 n0, .int .i64 n1, .int .i64 n2, .int .i64 n3, .int .i64 n4, .int .i64 n5, .int .i64 n6, .int .i64 n7, .int .i64 n8, .int .i64 n9, .int .i64 n10, .int .i64 n11, .int .i64 n12, .int .i64 n13, .int .i64 n14, .int .i64 n15, .string n16, .string n17, .int .i64 n18, .int .i64 n19, .int .i64 n20, .int .i64 n21, .slice ua M uc, .int .i64 n23, .slice a1 d1 c1, .slice a2 d2 c2, .slice a3 d3 c3]) := Lib.hid ((HH.out.gr.block _ (by have := HXB.out; omega)).trans HG1.out)
      clear H hbe hlt hk HG0 HG1
      have hk40 : k ≤ 40 := HKb.out
      have HA := HB1
      have H := Lib.hid HH.out.new
      clear HB0 HB1 HH
      have HKn := Lib.hid (bknown_any H.out.at' (by omega) (fun e he => (H.out.sm.each e he).1) (H.out.sm.kn2 (by omega)))
      have HKS := Lib.hid (H.out.sm.known (by omega))
      have HBase : Hid (W.heap.size + 1 < wr.heap.size) := Lib.hid (Bk.lt HA.out)
      go_wp2_with fail
      refine HKn.out.mono ?_
      rintro e w5 ⟨vk, rk, he, hok, hke, hb⟩
      rw [he.out]
      obtain ⟨ka, kc, hvk⟩ := hok.slice
      subst hvk
      have hkl : rk.length = (knB b.l).length := hke.1
      obtain ⟨kn, hkn⟩ : ∃ l, knB b.l = l := ⟨_, rfl⟩
      rw [hkn] at hke hkl HKS
      have HKN := Lib.hid hkn
      obtain ⟨KN, hKN⟩ : ∃ n, rk.length = n := ⟨_, rfl⟩
      rw [hKN] at hkl
      rw [hKN]
      have HOK : Hid (KnK.Own w5 wr.heap.size (.slice ka rk.length kc) rk) := Lib.hid hok
      rw [hKN] at HOK
      obtain ⟨WB, hWB⟩ : ∃ n, wr.heap.size = n := ⟨_, rfl⟩
      rw [hWB] at HOK HBase
      have HKE : Hid (∀ (j : Nat) (h : j < rk.length) (h2 : j < kn.length), ∃ a c, rk[j].cs = knE kn[j] (.slice a kn[j].a.2.length c)) := Lib.hid fun j h h2 => by
        obtain ⟨a, c, q, _⟩ := hke.2 j h h2
        exact ⟨a, c, q⟩
      have HKNl : Hid (rk.length = KN ∧ kn.length = KN) := Lib.hid ⟨hKN, hkl.symm⟩
      have HKm : Hid (KN ≤ 9223372036854775807) := Lib.hid (by have h := hok.rd.len; rw [hKN] at h; unfold maxLen at h; omega)
      have HX' := Lib.hid (HX.out.trans (hb.mono HX.out.size))
      have H' := Lib.hid (H.out.on hb (Nat.le_trans H.out.at'.lo.1 (Nat.le_of_lt H.out.at'.lt)))
      have HA' := Lib.hid (Bk.below HA.out hb)
      clear hb HX H HA
      have HX := HX'
      have H := H'
      have HA := HA'
      clear HX' H' HA'
      clear he hok hke hkl hkn hKN hWB HKn
      obtain ⟨xg, hxg⟩ : ∃ x, getL b.l (n3, n4, n5) = x := ⟨_, rfl⟩
      have HGL := Lib.hid hxg
      have HGt := get_in H.out (by omega) HID1.out
      rw [hxg] at HGt
      obtain ⟨p0, ⟨p1, p2⟩, ⟨p3, p4⟩, ⟨p5, p6, p7, p8, p9, p10, p11, p12⟩, ps, pl⟩ := xg
      obtain ⟨P, hP⟩ : ∃ P, pl.length = P := ⟨_, rfl⟩
      have HGt2 : Hid (Calls Tryz.prog 20 #[bP g, .agg #[.int .i64 n3, .int .i64 n4, .int .i64 n5]] w5 (fun e w' => ∃ ga gc, Hid (e = .returned (.agg #[.int .i64 p0, .int .i64 p1, .int .i64 p2, .int .i64 p3, .int .i64 p4, .int .i64 p5, .int .i64 p6, .int .i64 p7, .string p8, .string p9, .int .i64 p10, .int .i64 p11, .int .i64 p12, .int .i64 ps, .slice ga P gc])) ∧ Below w5.heap.size w5 w')) := Lib.hid (HGt.mono fun e w' ⟨v', he, ho, hb⟩ => by
        obtain ⟨ga, gc, hv⟩ := ho.slice
        simp only at hv ho
        rw [hP] at hv
        subst hv
        exact ⟨ga, gc, he, hb⟩)
      have y3 := Bk.cell HA.out 3
      have y4 := Bk.cell HA.out 4
      have y5 := Bk.cell HA.out 5
      simp only [msE, ansB, List.cons_append, List.nil_append, List.getElem?_cons_zero, List.getElem?_cons_succ] at y3 y4 y5
      clear HGt hP hxg
      go_wp2_with fail
      refine HGt2.out.mono ?_
      rintro e w6g ⟨ga, gc, he, hb⟩
      rw [he.out]
      have hbq : Below w5.heap.size w5 (w6g.alloc (.cells #[.int .i64 p0, .int .i64 p1, .int .i64 p2, .int .i64 p3, .int .i64 p4, .int .i64 p5, .int .i64 p6, .int .i64 p7, .string p8, .string p9, .int .i64 p10, .int .i64 p11, .int .i64 p12, .int .i64 ps, .slice ga P gc] 48)) := hb.alloc hb.size _
      have HWs : Hid (Bk (w6g.alloc (.cells #[.int .i64 p0, .int .i64 p1, .int .i64 p2, .int .i64 p3, .int .i64 p4, .int .i64 p5, .int .i64 p6, .int .i64 p7, .string p8, .string p9, .int .i64 p10, .int .i64 p11, .int .i64 p12, .int .i64 ps, .slice ga P gc] 48)) w6g.heap.size 48 [.int .i64 p0, .int .i64 p1, .int .i64 p2, .int .i64 p3, .int .i64 p4, .int .i64 p5, .int .i64 p6, .int .i64 p7, .string p8, .string p9, .int .i64 p10, .int .i64 p11, .int .i64 p12, .int .i64 ps, .slice ga P gc]) := Lib.hid (Bk.new w6g _ _)
      have HWb : Hid (W.heap.size + 1 < w6g.heap.size) := Lib.hid (Nat.lt_of_lt_of_le (Bk.lt HA.out) hb.size)
      obtain ⟨wb, hwb⟩ : ∃ q, w6g.heap.size = q := ⟨_, rfl⟩
      obtain ⟨w6, hw6⟩ : ∃ q, w6g.alloc (.cells #[.int .i64 p0, .int .i64 p1, .int .i64 p2, .int .i64 p3, .int .i64 p4, .int .i64 p5, .int .i64 p6, .int .i64 p7, .string p8, .string p9, .int .i64 p10, .int .i64 p11, .int .i64 p12, .int .i64 ps, .slice ga P gc] 48) = q := ⟨_, rfl⟩
      rw [hw6] at HWs hbq
      rw [hwb] at HWs HWb
      have HX' := Lib.hid (HX.out.trans (hbq.mono HX.out.size))
      have H' := Lib.hid (H.out.on hbq (Nat.le_trans H.out.at'.lo.1 (Nat.le_of_lt H.out.at'.lt)))
      have HA' := Lib.hid (Bk.below HA.out hbq)
      have HOK' := Lib.hid (HOK.out.below hbq)
      clear hbq HX H HA HOK
      have HX := HX'
      have H := H'
      have HA := HA'
      have HOK := HOK'
      clear HX' H' HA' HOK'
      clear he hb HGt2 y3 y4 y5
      have u1 := HA.out.cell 0
      have uf1 := HA.out.fz 0
      simp only [List.getElem?_cons_zero, List.getElem?_cons_succ] at u1
      obtain ⟨V, hV⟩ : ∃ V, w6.setCell ⟨W.heap.size + 1, 0, none⟩ (.int .i64 0) = V := ⟨_, rfl⟩
      have HA' : Hid (Bk V (W.heap.size + 1) 54 [.int .i64 0, .int .i64 n1, .int .i64 n2, .int .i64 n3, .int .i64 n4, .int .i64 n5, .int .i64 n6, .int .i64 n7, .int .i64 n8, .int .i64 n9, .int .i64 n10, .int .i64 n11, .int .i64 n12, .int .i64 n13, .int .i64 n14, .int .i64 n15, .string n16, .string n17, .int .i64 n18, .int .i64 n19, .int .i64 n20, .int .i64 n21, .slice ua M uc, .int .i64 n23, .slice a1 d1 c1, .slice a2 d2 c2, .slice a3 d3 c3]) := Lib.hid (by rw [← hV]; exact Bk.set HA.out 0 (.int .i64 0))
      have H' : Hid (BkIn V B g mb k b V) := Lib.hid (by rw [← hV]; exact (H.out.blk (grown_setCell _ _ _ _) HA.out (by decide) (by decide) (by decide)).new)
      have HX' : Hid (Below W.heap.size W V) := Lib.hid (by rw [← hV]; exact HX.out.setCell (show W.heap.size ≤ (⟨W.heap.size + 1, 0, none⟩ : Addr).block from Nat.le_succ _) _)
      have HOK' : Hid (KnK.Own V WB (.slice ka KN kc) rk) := Lib.hid (by rw [← hV]; exact knd_keepSet HOK.out HBase.out _)
      have HWs' : Hid (Bk V wb 48 [.int .i64 p0, .int .i64 p1, .int .i64 p2, .int .i64 p3, .int .i64 p4, .int .i64 p5, .int .i64 p6, .int .i64 p7, .string p8, .string p9, .int .i64 p10, .int .i64 p11, .int .i64 p12, .int .i64 ps, .slice ga P gc]) := Lib.hid (by rw [← hV]; exact Bk.other HWs.out (by have := HWb.out; omega) 0 _)
      have hVu : Hid (w6.setCell ⟨W.heap.size + 1, 0, none⟩ (.int .i64 0) = V) := Lib.hid hV
      clear HX H HA HOK HWs hV
      have HX := HX'
      have H := H'
      have HA := HA'
      have HOK := HOK'
      have HWs := HWs'
      clear HX' H' HA' HOK' HWs'
      have HHm := Lib.hid (hear_in H.out (by omega) HNs.out (HML.out.below HX.out) (HMk.out 0 _ HX.out) (show SmMg ⟨0, n1, n2, (n3, n4, n5), (n6, n7), ⟨n8, (n9, n10), (n11, n12), ⟨n13, n14, n15, n16, n17, n18, n19, n20⟩, (n21, dl)⟩, sn0⟩ from HSx.out))
      have HAn := Lib.hid (hear_ans H.out.sm H.out.at'.rise H.out.at'.keys (m := ⟨0, n1, n2, (n3, n4, n5), (n6, n7), ⟨n8, (n9, n10), (n11, n12), ⟨n13, n14, n15, n16, n17, n18, n19, n20⟩, (n21, dl)⟩, sn0⟩) (show SmMg ⟨0, n1, n2, (n3, n4, n5), (n6, n7), ⟨n8, (n9, n10), (n11, n12), ⟨n13, n14, n15, n16, n17, n18, n19, n20⟩, (n21, dl)⟩, sn0⟩ from HSx.out) (by omega))
      go_wp2_with (first
        | (first
          | refine wpList_load_rowG rfl _ _ rfl (W.heap.size + 1) rfl 54 _ (0, 0) _ (hVu.out ▸ HA.out) Tryz.underlying54 rfl (by kernel_rfl) ?_
          | refine wpList_load_rowG rfl _ _ rfl (W.heap.size + 1) rfl 54 _ (0, 0) _ HA.out Tryz.underlying54 rfl (by kernel_rfl) ?_
          | fail)
        | fail)
      try rw [hw6]
      try rw [hwb]
      try rw [hVu.out]
      clear hw6 hwb u1 uf1 hVu
      refine HHm.out.mono ?_
      rintro e w7 ⟨v7, he, hkh, hgh, hah⟩
      rw [he.out]
      have HA' := Lib.hid ((hgh.block _ (Bk.lt HA.out) (by simpa using H.out.at'.blkNe _ _ _ _ HA.out)).trans HA.out)
      have HWs' := Lib.hid ((hgh.block _ (Bk.lt HWs.out) (by simpa using H.out.at'.blkNe _ _ _ _ HWs.out)).trans HWs.out)
      have HOK' := Lib.hid (HOK.out.outA hgh H.out.at'.blkNe)
      have HX' : Hid (Below W.heap.size W w7) := Lib.hid (HX.out.grown hgh HX.out.size (fun k e => by cases e; exact Nat.le_trans HWB.out H.out.at'.lo.2))
      clear he hgh HHm H HX HA HWs HOK hkh
      have HX := HX'
      have HA := HA'
      have HWs := HWs'
      have HOK := HOK'
      clear HX' HA' HWs' HOK'
      rcases hah with ⟨_, rfl⟩ | ⟨MM, gM, uM, hl1, rfl, hM1, hM2, _⟩
      case inl =>
        go_wp2
        go_ret
        exact ⟨rfl, HX.out⟩
      case inr =>
      have hAn := HAn.out MM (by rw [hl1]; exact .head _)
      have HAl := Lib.hid (fun (h1 : MM.kind = 1) (h3 : ¬ (1 ≤ p0 ∧ ((p3, p4) : Bal) = (n6, n7))) => hear_all HEp.out (m := ⟨0, n1, n2, (n3, n4, n5), (n6, n7), ⟨n8, (n9, n10), (n11, n12), ⟨n13, n14, n15, n16, n17, n18, n19, n20⟩, (n21, dl)⟩, sn0⟩) rfl hl1 h1 (by rw [HGL.out]; exact h3))
      clear HAn
      obtain ⟨la, lc, hu⟩ := hM2.slice
      subst hu
      obtain ⟨mk, mf, mt, ⟨t3, t4, t5⟩, ⟨t6, t7⟩, ⟨s0, ⟨s1, s2⟩, ⟨s3, s4⟩, cM, asq, al⟩, ms⟩ := MM
      obtain ⟨hsn, hal⟩ := hAn
      simp only at hsn hal hM2
      subst hsn
      obtain ⟨L, hL⟩ : ∃ L, al.length = L := ⟨_, rfl⟩
      have HLl := Lib.hid hL
      have HLs : Hid (al.length ≤ 1000) := Lib.hid hal
      simp only [hL] at hM2 hM1
      have HLr := Lib.hid hM2.rd
      have HM := Lib.hid hM1
      clear hM1 hM2 hal hl1 hL
      have r0 := Bk.cell HM.out 0
      simp only [msE, List.cons_append, List.nil_append, List.getElem?_cons_zero] at r0
      by_cases hmk : mk = 1
      case neg =>
        have hmk1 : (mk == 1) = false := by simpa using hmk
        have hmk2 : (mk != 1) = true := by simp [bne, hmk1]
        go_wp2
        go_ret
        exact ⟨rfl, HX.out⟩
      subst hmk
      clear r0
      obtain ⟨D, hD⟩ : ∃ D, decide (1 ≤ p0 ∧ ((p3, p4) : Bal) = (n6, n7)) = D := ⟨_, rfl⟩
      have HD := Lib.hid hD
      clear hD
      go_upto_region 16 with fail
      go_cut [91] from 66 to 91 (fun v wx => v = .bool D ∧ Hid (Below w7.heap.size w7 wx))
      case first =>
        have r0 := Bk.cell HM.out 0
        simp only [msE, List.cons_append, List.nil_append, List.getElem?_cons_zero] at r0
        have z0 := Bk.cell HWs.out 0
        have z3 := Bk.cell HWs.out 3
        have z4 := Bk.cell HWs.out 4
        simp only [msE, inE, snV, List.cons_append, List.nil_append, List.getElem?_cons_zero, List.getElem?_cons_succ] at z0 z3 z4
        have y6 := Bk.cell HA.out 6
        have y7 := Bk.cell HA.out 7
        simp only [msE, inE, snV, List.cons_append, List.nil_append, List.getElem?_cons_zero, List.getElem?_cons_succ] at y6 y7
        by_cases c1 : 1 ≤ p0
        · have dc1 : decide (1 ≤ p0) = true := decide_eq_true c1
          obtain ⟨qv, hqv⟩ : ∃ q, decide (((p3, p4) : Bal) = (n6, n7)) = q := ⟨_, rfl⟩
          obtain ⟨evv, gvv⟩ := eqB_runA p3 p4 n6 n7 qv hqv
          have hDD : D = qv := by rw [← HD.out, ← hqv]; exact decide_eq_decide.2 ⟨fun h => h.2, fun h => ⟨c1, h⟩⟩
          clear hqv
          cases qv with
          | true =>
            subst hDD
            go_wp2_with fail
            go_meet
            exact ⟨rfl, Lib.hid (Below.refl _ _)⟩
          | false =>
            subst hDD
            go_wp2_with fail
            go_meet
            exact ⟨rfl, Lib.hid (Below.refl _ _)⟩
        · have dc1 : decide (1 ≤ p0) = false := decide_eq_false c1
          have hDD : D = false := by rw [← HD.out]; exact decide_eq_false fun h => c1 h.1
          subst hDD
          go_wp2_with fail
          go_meet
          exact ⟨rfl, Lib.hid (Below.refl _ _)⟩
      case rest =>
      obtain ⟨rfl, hbc⟩ := hcut
      have hb := hbc.out
      clear hbc
      have HX' := Lib.hid (HX.out.trans (hb.mono HX.out.size))
      have HA' := Lib.hid (Bk.below HA.out hb)
      have HWs' := Lib.hid (Bk.below HWs.out hb)
      have HOK' := Lib.hid (HOK.out.below hb)
      have HM' := Lib.hid (Bk.below HM.out hb)
      have HLr' := Lib.hid (HLr.out.below hb)
      clear hb HX HA HWs HOK HM HLr
      have HX := HX'
      have HA := HA'
      have HWs := HWs'
      have HOK := HOK'
      have HM := HM'
      have HLr := HLr'
      clear HX' HA' HWs' HOK' HM' HLr'
      cases D with
      | true =>
        go_wp2
        go_ret
        exact ⟨rfl, HX.out⟩
      | false =>
      have hall := HAl.out (by trivial) (of_decide_eq_false HD.out)
      obtain ⟨hf1, hf2, hf3, hf4, hf5, hf6⟩ := hall
      try simp only at hf1 hf2 hf3 hf4 hf5 hf6
      subst hf4
      simp only [msE, inE, snV, snp0, List.cons_append, List.nil_append] at HM
      have HF1 := Lib.hid hf1
      have HF2 : Hid (∀ k ∈ kn, k.id ≠ (n3, n4, n5) → matB k.cm ⟨n13, n14, n15, n16, n17, n18, n19, n20⟩ = true → k.id ∈ al ∧ k.a.1 < asq) := Lib.hid (by rw [← HKN.out]; exact hf2)
      have HF3 := Lib.hid hf3
      have HF5 := Lib.hid hf5
      have HF6 := Lib.hid hf6
      clear hf1 hf2 hf3 hf5 hf6 HAl
      have r21 := Bk.cell HM.out 21
      have r22 := Bk.cell HM.out 22
      simp only [msE, inE, snV, List.cons_append, List.nil_append, List.getElem?_cons_zero, List.getElem?_cons_succ] at r21 r22
      obtain ⟨ba, hba⟩ : ∃ q, wc.heap.size = q := ⟨_, rfl⟩
      obtain ⟨wd, hwd⟩ : ∃ q, wc.alloc (.cells #[.int .i64 asq, .slice la L lc] 46) = q := ⟨_, rfl⟩
      have HBa : Hid (Bk wd ba 46 [.int .i64 asq, .slice la L lc]) := Lib.hid (by rw [← hwd]; exact Bk.newA hba _ [.int .i64 asq, .slice la L lc])
      have hb : Below wc.heap.size wc wd := by rw [← hwd]; exact al1 _ _
      have HX' := Lib.hid (HX.out.trans (hb.mono HX.out.size))
      have HA' := Lib.hid (Bk.below HA.out hb)
      have HOK' := Lib.hid (HOK.out.below hb)
      have HM' := Lib.hid (Bk.below HM.out hb)
      have HLr' := Lib.hid (HLr.out.below hb)
      clear hb HX HA HOK HM HLr
      have HX := HX'
      have HA := HA'
      have HOK := HOK'
      have HM := HM'
      have HLr := HLr'
      clear HX' HA' HOK' HM' HLr'
      clear HWs
      go_wp2_with fail
      try rw [hwd]
      try rw [hba]
      clear hwd hba r21 r22
      generalize hwc : wd = wc at *
      clear hwc
      go_loopw [15] (fun j wr => ∃ jj : Nat, jj ≤ M ∧ j = .int .i64 jj ∧ Hid (Below wc.heap.size wc wr)) (fun j _ => M - (intOf j).toNat)
      case atStart => exact ⟨0, Nat.zero_le _, rfl, Lib.hid (Below.refl _ _)⟩
      case round =>
        obtain ⟨jj, hjj, rfl, HBr⟩ := hrel
        have hM60 : M ≤ 60 := by have q : dl.length ≤ 60 := HSx.out.1; rw [HMl.out] at q; exact q
        have hXr := HX.out.trans (HBr.out.mono HX.out.size)
        have y22 := Bk.cell (Bk.below HA.out HBr.out) 22
        simp only [List.getElem?_cons_zero, List.getElem?_cons_succ] at y22
        by_cases hlt : jj < M
        · have hj1 : (jj : Int) < (M : Int) := by omega
          have hj2 : decide ((jj : Int) < (M : Int)) = true := decide_eq_true hj1
          have hj3 : decide (jj < M) = true := decide_eq_true hlt
          have hrd := mga_rd (HMk.out 0 _ hXr) rfl (u := .slice ua M uc) rfl
          have hdj : jj < dl.length := by rw [HMl.out]; exact hlt
          obtain ⟨-, gd, od, hua, hgd, hcd⟩ := hrd.at (by intro e; simp only at e; rw [e] at hdj; simp at hdj)
          subst hua
          simp only at hcd
          have hcd2 := hcd jj hlt
          have ed : dl.getD jj IK.d = dl[jj] := by simp [List.getD, hdj]
          rw [ed] at hcd2
          have hmem := HF1.out dl[jj] (List.getElem_mem hdj)
          obtain ⟨ee, hee⟩ : ∃ x, dl[jj] = x := ⟨_, rfl⟩
          rw [hee] at hcd2 hmem
          obtain ⟨e1, e2, e3⟩ := ee
          have eK : IK.k = 3 := rfl
          rw [eK] at hcd2
          have d0 : wr.cell? ⟨gd, od + jj * 3, none⟩ = some (.int .i64 e1) := hcd2 0 _ rfl
          have d1 : wr.cell? ⟨gd, od + jj * 3 + 1, none⟩ = some (.int .i64 e2) := hcd2 1 _ rfl
          have d2 : wr.cell? ⟨gd, od + jj * 3 + 2, none⟩ = some (.int .i64 e3) := hcd2 2 _ rfl
          have HKP : Hid (∀ w', Below wr.heap.size wr w' → (SeD ba (W.heap.size + 1) gd (od + jj * 3) (.slice la L lc) (.slice (some ⟨gd, od, none⟩) M uc) e1 e2 e3) w') := Lib.hid fun w' hb => ⟨by have q := Bk.cell ((Bk.below HBa.out HBr.out).below hb) 1; simpa only [List.getElem?_cons_zero, List.getElem?_cons_succ] using q, by have q := Bk.cell ((Bk.below HA.out HBr.out).below hb) 22; simpa only [List.getElem?_cons_zero, List.getElem?_cons_succ] using q, (hb.cell (p := ⟨gd, _, none⟩) hgd).trans d0, (hb.cell (p := ⟨gd, _, none⟩) hgd).trans d1, (hb.cell (p := ⟨gd, _, none⟩) hgd).trans d2⟩
          have HC22 : Hid (∀ w', Below wr.heap.size wr w' → Calls Tryz.prog 27 #[.slice la L lc, .agg #[.int .i64 e1, .int .i64 e2, .int .i64 e3]] w' fun e w'' => e = .returned (.bool true) ∧ Below w'.heap.size w' w'') := Lib.hid fun w' hb => by
            have q := has_any (.slice la L lc) al e1 e2 e3 w' ((HLr.out.below HBr.out).below hb) HLs.out
            rw [hasI_of hmem] at q
            exact q
          clear hrd hcd hcd2 ed hee eK d0 d1 d2 hmem hdj
          go_wp2_with fail
          refine wp_region_held_drew (S := (SeD ba (W.heap.size + 1) gd (od + jj * 3) (.slice la L lc) (.slice (some ⟨gd, od, none⟩) M uc) e1 e2 e3)) (by kernel_rfl) ?_ (fun hHeld => ?_)
          · ((first
            | exact HKP.out _ hbS
            | exact HKP.out _ (Below.refl wr.heap.size wr).drew
            | exact HKP.out _ (Below.refl _ _)
            | fail))
          refine tkA 0 (v := ?_) ?_ ?_
          rotate_left
          · (intro w' hSw; clear hSw; go_simp; try rfl)
          try simp only [Act.put, gA1, gA2, gA3, gA4, gA5, gA6]
          refine tkA 1 (v := ?_) ?_ ?_
          rotate_left
          · (intro w' hSw; have ea1 := hSw.a1; clear hSw; go_simp; try rfl)
          try simp only [Act.put, gA1, gA2, gA3, gA4, gA5, gA6]
          refine tkA 2 (v := ?_) ?_ ?_
          rotate_left
          · (intro w' hSw; clear hSw; go_simp; try rfl)
          try simp only [Act.put, gA1, gA2, gA3, gA4, gA5, gA6]
          refine tkA 3 (v := ?_) ?_ ?_
          rotate_left
          · (intro w' hSw; clear hSw; go_simp; try rfl)
          try simp only [Act.put, gA1, gA2, gA3, gA4, gA5, gA6]
          refine tkA 4 (v := ?_) ?_ ?_
          rotate_left
          · (intro w' hSw; clear hSw; go_simp; try rfl)
          try simp only [Act.put, gA1, gA2, gA3, gA4, gA5, gA6]
          refine tkA 5 (v := ?_) ?_ ?_
          rotate_left
          · (intro w' hSw; have em22 := hSw.m22; clear hSw; go_simp; try rfl)
          try simp only [Act.put, gA1, gA2, gA3, gA4, gA5, gA6]
          refine tkA 6 (v := ?_) ?_ ?_
          rotate_left
          · (intro w' hSw; clear hSw; go_simp; try rfl)
          try simp only [Act.put, gA1, gA2, gA3, gA4, gA5, gA6]
          refine tkA 7 (v := ?_) ?_ ?_
          rotate_left
          · (intro w' hSw; clear hSw; go_simp; try rfl)
          try simp only [Act.put, gA1, gA2, gA3, gA4, gA5, gA6]
          refine tkA 8 (v := ?_) ?_ ?_
          rotate_left
          · (intro w' hSw; have ed0 := hSw.d0; have ed1 := hSw.d1; have ed2 := hSw.d2; clear hSw; go_simp; try rfl)
          try simp only [Act.put, gA1, gA2, gA3, gA4, gA5, gA6]
          refine wpAnyH_ready (rs := [9]) (by kernel_rfl) (by simp) ?_
          refine (AllReadyH.cons rfl (fun K hK => ?_) AllReadyH.nil)
          go_simp
          (go_at_call 27; refine (HC22.out _ (Below.refl wr.heap.size wr).drew).mono ?_; rintro e ws ⟨rfl, hbq⟩; have hbS : Below wr.heap.size wr ws := (Below.refl wr.heap.size wr).drew.trans hbq; clear hbq)
          refine hK.out _ _ ?_ (fun hHeld => ?_)
          · ((first
            | exact HKP.out _ hbS
            | exact HKP.out _ (Below.refl wr.heap.size wr).drew
            | exact HKP.out _ (Below.refl _ _)
            | fail))
          clear hK K
          try simp only [Act.put, gA1, gA2, gA3, gA4, gA5, gA6]
          refine tkA 10 (v := ?_) ?_ ?_
          rotate_left
          · (intro w' hSw; clear hSw; go_simp; try rfl)
          try simp only [Act.put, gA1, gA2, gA3, gA4, gA5, gA6]
          refine wpAnyH_done (by kernel_rfl) ?_ _
          go_split_ands
          clear HKP HC22
          have HBy : Hid (Below wc.heap.size wc ws) := Lib.hid (HBr.out.trans (hbS.mono HBr.out.size))
          clear hbS
          go_wp2_with fail
          go_roundw
          case rel => exact ⟨jj + 1, by omega, by go_num, HBy⟩
          case measure => simp [intOf]; omega
        · have hje : M = jj := by omega
          subst hje
          have hj2 : decide ((M : Int) < (M : Int)) = false := decide_eq_false (by omega)
          have hj3 : decide (M < M) = false := decide_eq_false (by omega)
          have HXr := Lib.hid hXr
          clear hXr
          go_wp2_with fail
          obtain ⟨we, hwe⟩ : ∃ q, wr = q := ⟨_, rfl⟩
          have HBe : Hid (Below wc.heap.size wc we) := Lib.hid (hwe ▸ HBr.out)
          have HXe : Hid (Below W.heap.size W we) := Lib.hid (hwe ▸ HXr.out)
          have HA2 := Lib.hid (Bk.below HA.out HBe.out)
          have HBa2 := Lib.hid (Bk.below HBa.out HBe.out)
          have HM2 := Lib.hid (Bk.below HM.out HBe.out)
          have HOK2 := Lib.hid (HOK.out.below HBe.out)
          have HLr2 := Lib.hid (HLr.out.below HBe.out)
          rw [hwe]
          clear HBr HXr hwe HA HBa HM HOK HLr HX y22
          go_loopw [16] (fun j wr => ∃ ii : Nat, ii ≤ KN ∧ j = .int .i64 ii ∧ Hid (Below we.heap.size we wr)) (fun j _ => KN - (intOf j).toNat)
          case atStart => exact ⟨0, Nat.zero_le _, rfl, Lib.hid (Below.refl _ _)⟩
          case round =>
            obtain ⟨ii, hii, rfl, HBr⟩ := hrel
            have hkm := HKm.out
            have HXr : Hid (Below W.heap.size W wr) := Lib.hid (HXe.out.trans (HBr.out.mono HXe.out.size))
            by_cases hlt : ii < KN
            · have hj1 : (ii : Int) < (KN : Int) := by omega
              have hj2 : decide ((ii : Int) < (KN : Int)) = true := decide_eq_true hj1
              have hj3 : decide (ii < KN) = true := decide_eq_true hlt
              have hr1 : ii < rk.length := by rw [HKNl.out.1]; exact hlt
              have hr2 : ii < kn.length := by rw [HKNl.out.2]; exact hlt
              obtain ⟨-, gk, ok, hka, hgk, hck⟩ := (HOK2.out.below HBr.out).rd.at (by intro e; rw [e] at hr1; simp at hr1)
              subst hka
              have hck2 := hck ii hlt
              have ed : rk.getD ii KnK.d = rk[ii] := by simp [List.getD, hr1]
              obtain ⟨kx, ky, hke⟩ := HKE.out ii hr1 hr2
              have eE : KnK.enc = Cls.cs := rfl
              have eK : KnK.k = 13 := rfl
              rw [ed, eE, hke, eK] at hck2
              have hmem : kn[ii] ∈ kn := List.getElem_mem hr2
              have hsz := HKS.out _ hmem
              have hf2 := HF2.out _ hmem
              obtain ⟨kk, hkk⟩ : ∃ x, kn[ii] = x := ⟨_, rfl⟩
              rw [hkk] at hck2 hsz hf2
              obtain ⟨⟨k1, k2, k3⟩, ⟨c13, c14, c15, c16, c17, c18, c19, c20⟩, ks, kl⟩ := kk
              obtain ⟨KLn, hKX⟩ : ∃ n, kl.length = n := ⟨_, rfl⟩
              simp only [hKX] at hck2
              have HRG : Hid (wr.rangeAt gk (ok + ii * 13) [.int .i64 k1, .int .i64 k2, .int .i64 k3, .int .i64 c13, .int .i64 c14, .int .i64 c15, .string c16, .string c17, .int .i64 c18, .int .i64 c19, .int .i64 c20, .int .i64 ks, .slice kx KLn ky]) := Lib.hid fun j v hv => hck2 j v hv
              have HI13 : Hid ((Tryz.prog.info? 67).map (·.size) = some ([.int .i64 k1, .int .i64 k2, .int .i64 k3, .int .i64 c13, .int .i64 c14, .int .i64 c15, .string c16, .string c17, .int .i64 c18, .int .i64 c19, .int .i64 c20, .int .i64 ks, .slice kx KLn ky] : List Value).length) := Lib.hid (by kernel_rfl)
              have HSz := Lib.hid hsz.1
              have HF := Lib.hid hf2
              clear hck hck2 ed hke eE eK hmem hsz hf2 hkk hKX
              obtain ⟨bk, hbk⟩ : ∃ q, wr.heap.size = q := ⟨_, rfl⟩
              obtain ⟨wf, hwf⟩ : ∃ q, wr.alloc (.cells #[.int .i64 k1, .int .i64 k2, .int .i64 k3, .int .i64 c13, .int .i64 c14, .int .i64 c15, .string c16, .string c17, .int .i64 c18, .int .i64 c19, .int .i64 c20, .int .i64 ks, .slice kx KLn ky] 67) = q := ⟨_, rfl⟩
              have HBk : Hid (Bk wf bk 67 [.int .i64 k1, .int .i64 k2, .int .i64 k3, .int .i64 c13, .int .i64 c14, .int .i64 c15, .string c16, .string c17, .int .i64 c18, .int .i64 c19, .int .i64 c20, .int .i64 ks, .slice kx KLn ky]) := Lib.hid (by rw [← hwf]; exact Bk.newA hbk _ [.int .i64 k1, .int .i64 k2, .int .i64 k3, .int .i64 c13, .int .i64 c14, .int .i64 c15, .string c16, .string c17, .int .i64 c18, .int .i64 c19, .int .i64 c20, .int .i64 ks, .slice kx KLn ky])
              have HBf : Hid (Below we.heap.size we wf) := Lib.hid (by rw [← hwf]; exact HBr.out.trans ((al1 _ _).mono HBr.out.size))
              have HXf : Hid (Below W.heap.size W wf) := Lib.hid (HXe.out.trans (HBf.out.mono HXe.out.size))
              have HAf := Lib.hid (Bk.below HA2.out HBf.out)
              have HBaf := Lib.hid (Bk.below HBa2.out HBf.out)
              have HLf := Lib.hid (HLr2.out.below HBf.out)
              go_upto_region 28 with (first | refine wpList_load_mid rfl _ _ rfl gk (ok + ii * 13) rfl _ _ HRG.out Tryz.underlying67 rfl HI13.out ?_ | fail)
              try rw [hwf]
              try rw [hbk]
              clear hwf hbk HRG HI13
              have z0 := Bk.cell HBk.out 0
              have z1 := Bk.cell HBk.out 1
              have z2 := Bk.cell HBk.out 2
              have z3 := Bk.cell HBk.out 3
              have z4 := Bk.cell HBk.out 4
              have z5 := Bk.cell HBk.out 5
              have z6 := Bk.cell HBk.out 6
              have z7 := Bk.cell HBk.out 7
              have z8 := Bk.cell HBk.out 8
              have z9 := Bk.cell HBk.out 9
              have z10 := Bk.cell HBk.out 10
              simp only [msE, inE, snV, List.cons_append, List.nil_append, List.getElem?_cons_zero, List.getElem?_cons_succ] at z0 z1 z2 z3 z4 z5 z6 z7 z8 z9 z10
              have y3 := Bk.cell HAf.out 3
              have y4 := Bk.cell HAf.out 4
              have y5 := Bk.cell HAf.out 5
              have y13 := Bk.cell HAf.out 13
              have y14 := Bk.cell HAf.out 14
              have y15 := Bk.cell HAf.out 15
              have y16 := Bk.cell HAf.out 16
              have y17 := Bk.cell HAf.out 17
              have y18 := Bk.cell HAf.out 18
              have y19 := Bk.cell HAf.out 19
              have y20 := Bk.cell HAf.out 20
              simp only [msE, inE, snV, List.cons_append, List.nil_append, List.getElem?_cons_zero, List.getElem?_cons_succ] at y3 y4 y5 y13 y14 y15 y16 y17 y18 y19 y20
              obtain ⟨eid, gid⟩ := eqI_run k1 k2 k3 n3 n4 n5
              by_cases hid : ((k1, k2, k3) : I3) = (n3, n4, n5)
              · rw [decide_eq_true hid] at eid
                clear HF
                go_wp2_with fail
                go_roundw
                case rel => exact ⟨ii + 1, by omega, by go_num, HBf⟩
                case measure => simp [intOf]; omega
              · rw [decide_eq_false hid] at eid
                have HBo := Lib.hid (Tc.both_any c13 c14 c15 c16 c17 c18 c19 c20 n13 n14 n15 n16 n17 n18 n19 n20 wf HSz.out (by have q : n16.size ≤ 300 := HSx.out.2; omega) (HML.out.below HXf.out))
                obtain ⟨bm, hbm⟩ : ∃ q, Tc.bth c13 c15 c16 n13 n15 n16 = q := ⟨_, rfl⟩
                rw [hbm] at HBo
                have HF' : Hid (bm = true → ((k1, k2, k3) : I3) ∈ al ∧ ks < asq) := Lib.hid fun q => HF.out hid (by rw [← q, ← hbm]; rfl)
                clear HF hbm hid
                go_wp2_with fail
                refine HBo.out.mono ?_
                rintro e wh ⟨rfl, hb⟩
                have HBh : Hid (Below we.heap.size we wh) := Lib.hid (HBf.out.trans (hb.mono HBf.out.size))
                have HBk' := Lib.hid (Bk.below HBk.out hb)
                have HBaf' := Lib.hid (Bk.below HBaf.out hb)
                have HLf' := Lib.hid (HLf.out.below hb)
                clear HBo hb HBf HXf z0 z1 z2 z3 z4 z5 z6 z7 z8 z9 z10 y3 y4 y5 y13 y14 y15 y16 y17 y18 y19 y20 eid gid
                cases bm with
                | false =>
                  go_wp2_with fail
                  go_roundw
                  case rel => exact ⟨ii + 1, by omega, by go_num, HBh⟩
                  case measure => simp [intOf]; omega
                | true =>
                  obtain ⟨hmem, hlt2⟩ := HF'.out rfl
                  have HC := Lib.hid (has_any (.slice la L lc) al k1 k2 k3 wh HLf'.out HLs.out)
                  rw [hasI_of hmem] at HC
                  have z0 := Bk.cell HBk'.out 0
                  have z1 := Bk.cell HBk'.out 1
                  have z2 := Bk.cell HBk'.out 2
                  simp only [msE, inE, snV, List.cons_append, List.nil_append, List.getElem?_cons_zero, List.getElem?_cons_succ] at z0 z1 z2
                  have v1 := Bk.cell HBaf'.out 1
                  simp only [msE, inE, snV, List.cons_append, List.nil_append, List.getElem?_cons_zero, List.getElem?_cons_succ] at v1
                  clear hmem
                  go_wp2_with fail
                  refine HC.out.mono ?_
                  rintro e wj ⟨rfl, hb⟩
                  have HBj : Hid (Below we.heap.size we wj) := Lib.hid (HBh.out.trans (hb.mono HBh.out.size))
                  have HBk2 := Lib.hid (Bk.below HBk'.out hb)
                  have HBaf2 := Lib.hid (Bk.below HBaf'.out hb)
                  clear hb HC z0 z1 z2 v1
                  have z11 := Bk.cell HBk2.out 11
                  simp only [msE, inE, snV, List.cons_append, List.nil_append, List.getElem?_cons_zero, List.getElem?_cons_succ] at z11
                  have v0 := Bk.cell HBaf2.out 0
                  simp only [msE, inE, snV, List.cons_append, List.nil_append, List.getElem?_cons_zero, List.getElem?_cons_succ] at v0
                  have hsq : decide (asq ≤ ks) = false := decide_eq_false (by omega)
                  go_wp2_with fail
                  go_roundw
                  case rel => exact ⟨ii + 1, by omega, by go_num, HBj⟩
                  case measure => simp [intOf]; omega
            · have hje : KN = ii := by omega
              subst hje
              have hj2 : decide ((KN : Int) < (KN : Int)) = false := decide_eq_false (by omega)
              have hj3 : decide (KN < KN) = false := decide_eq_false (by omega)
              have HAr := Lib.hid (Bk.below HA2.out HBr.out)
              have HBar := Lib.hid (Bk.below HBa2.out HBr.out)
              have HMr := Lib.hid (Bk.below HM2.out HBr.out)
              have HLr3 := Lib.hid (HLr2.out.below HBr.out)
              have HKP : Hid (∀ w', Below wr.heap.size wr w' → (SeE ba (W.heap.size + 1) gM [.int .i64 asq, .slice la L lc] [.int .i64 0, .int .i64 n1, .int .i64 n2, .int .i64 n3, .int .i64 n4, .int .i64 n5, .int .i64 n6, .int .i64 n7, .int .i64 n8, .int .i64 n9, .int .i64 n10, .int .i64 n11, .int .i64 n12, .int .i64 n13, .int .i64 n14, .int .i64 n15, .string n16, .string n17, .int .i64 n18, .int .i64 n19, .int .i64 n20, .int .i64 n21, .slice ua M uc, .int .i64 n23, .slice a1 d1 c1, .slice a2 d2 c2, .slice a3 d3 c3] [.int .i64 1, .int .i64 mf, .int .i64 mt, .int .i64 t3, .int .i64 t4, .int .i64 t5, .int .i64 t6, .int .i64 t7, .int .i64 s0, .int .i64 s1, .int .i64 s2, .int .i64 s3, .int .i64 s4, .int .i64 n13, .int .i64 n14, .int .i64 n15, .string n16, .string n17, .int .i64 n18, .int .i64 n19, .int .i64 n20, .int .i64 asq, .slice la L lc, .int .i64 0, .slice none 0 0, .slice none 0 0, .slice none 0 0]) w') := Lib.hid fun w' hb => ⟨Bk.below HBar.out hb, Bk.below HAr.out hb, Bk.below HMr.out hb⟩
              have HHn : Hid (∀ w', Below wr.heap.size wr w' → Calls Tryz.prog 27 #[.slice la L lc, .agg #[.int .i64 n3, .int .i64 n4, .int .i64 n5]] w' fun e w'' => e = .returned (.bool false) ∧ Below w'.heap.size w' w'') := Lib.hid fun w' hb => by
                have q := has_any (.slice la L lc) al n3 n4 n5 w' (HLr3.out.below hb) HLs.out
                rw [hasI_no HF5.out] at q
                exact q
              have HRt : Hid (∀ w', Below wr.heap.size wr w' → Calls Tryz.prog 29 #[.slice la L lc] w' fun e w'' => e = .returned (.bool true) ∧ Below w'.heap.size w' w'') := Lib.hid fun w' hb => by
                have q := right_any (.slice la L lc) al w' (HLr3.out.below hb) (by have := HLs.out; omega)
                rw [HF6.out] at q
                exact q
              have hsq : decide (n21 ≤ asq) = true := decide_eq_true HF3.out
              obtain ⟨ecc, _, gcc⟩ := eqC_selfA n13 n14 n15 n16 n17 n18 n19 n20
              clear HAr HBar HMr HLr3 HLr2 HA2 HBa2 HM2
              go_wp2_with fail
              refine wp_region_held_drew (S := (SeE ba (W.heap.size + 1) gM [.int .i64 asq, .slice la L lc] [.int .i64 0, .int .i64 n1, .int .i64 n2, .int .i64 n3, .int .i64 n4, .int .i64 n5, .int .i64 n6, .int .i64 n7, .int .i64 n8, .int .i64 n9, .int .i64 n10, .int .i64 n11, .int .i64 n12, .int .i64 n13, .int .i64 n14, .int .i64 n15, .string n16, .string n17, .int .i64 n18, .int .i64 n19, .int .i64 n20, .int .i64 n21, .slice ua M uc, .int .i64 n23, .slice a1 d1 c1, .slice a2 d2 c2, .slice a3 d3 c3] [.int .i64 1, .int .i64 mf, .int .i64 mt, .int .i64 t3, .int .i64 t4, .int .i64 t5, .int .i64 t6, .int .i64 t7, .int .i64 s0, .int .i64 s1, .int .i64 s2, .int .i64 s3, .int .i64 s4, .int .i64 n13, .int .i64 n14, .int .i64 n15, .string n16, .string n17, .int .i64 n18, .int .i64 n19, .int .i64 n20, .int .i64 asq, .slice la L lc, .int .i64 0, .slice none 0 0, .slice none 0 0, .slice none 0 0])) (by kernel_rfl) ?_ (fun hHeld => ?_)
              · ((first
                | exact HKP.out _ hbT
                | exact HKP.out _ hbS
                | exact HKP.out _ (Below.refl wr.heap.size wr).drew
                | exact HKP.out _ (Below.refl _ _)
                | fail))
              refine tkA 0 (v := ?_) ?_ ?_
              rotate_left
              · (intro w' hSw; clear hSw; go_simp; try rfl)
              try simp only [Act.put, gA1, gA2, gA3, gA4, gA5, gA6]
              refine tkA 1 (v := ?_) ?_ ?_
              rotate_left
              · (intro w' hSw; clear hSw; go_simp; try rfl)
              try simp only [Act.put, gA1, gA2, gA3, gA4, gA5, gA6]
              refine tkA 2 (v := ?_) ?_ ?_
              rotate_left
              · (intro w' hSw; clear hSw; go_simp; try rfl)
              try simp only [Act.put, gA1, gA2, gA3, gA4, gA5, gA6]
              refine tkA 3 (v := ?_) ?_ ?_
              rotate_left
              · (intro w' hSw; have e0 := Bk.cell hSw.a 0; simp only [List.getElem?_cons_zero, List.getElem?_cons_succ] at e0; clear hSw; go_simp; try rfl)
              try simp only [Act.put, gA1, gA2, gA3, gA4, gA5, gA6]
              refine tkA 4 (v := ?_) ?_ ?_
              rotate_left
              · (intro w' hSw; clear hSw; go_simp; try rfl)
              try simp only [Act.put, gA1, gA2, gA3, gA4, gA5, gA6]
              refine tkA 5 (v := ?_) ?_ ?_
              rotate_left
              · (intro w' hSw; clear hSw; go_simp; try rfl)
              try simp only [Act.put, gA1, gA2, gA3, gA4, gA5, gA6]
              refine tkA 6 (v := ?_) ?_ ?_
              rotate_left
              · (intro w' hSw; clear hSw; go_simp; try rfl)
              try simp only [Act.put, gA1, gA2, gA3, gA4, gA5, gA6]
              refine tkA 7 (v := ?_) ?_ ?_
              rotate_left
              · (intro w' hSw; have e21 := Bk.cell hSw.m 21; simp only [List.getElem?_cons_zero, List.getElem?_cons_succ] at e21; clear hSw; go_simp; try rfl)
              try simp only [Act.put, gA1, gA2, gA3, gA4, gA5, gA6]
              refine tkA 8 (v := ?_) ?_ ?_
              rotate_left
              · (intro w' hSw; clear hSw; go_simp; try rfl)
              try simp only [Act.put, gA1, gA2, gA3, gA4, gA5, gA6]
              refine tkA 9 (v := ?_) ?_ ?_
              rotate_left
              · (intro w' hSw; clear hSw; go_simp; try rfl)
              try simp only [Act.put, gA1, gA2, gA3, gA4, gA5, gA6]
              refine tkA 10 (v := ?_) ?_ ?_
              rotate_left
              · (intro w' hSw; clear hSw; go_simp; try rfl)
              try simp only [Act.put, gA1, gA2, gA3, gA4, gA5, gA6]
              refine tkA 11 (v := ?_) ?_ ?_
              rotate_left
              · (intro w' hSw; clear hSw; go_simp; try rfl)
              try simp only [Act.put, gA1, gA2, gA3, gA4, gA5, gA6]
              refine tkA 12 (v := ?_) ?_ ?_
              rotate_left
              · (intro w' hSw; clear hSw; go_simp; try rfl)
              try simp only [Act.put, gA1, gA2, gA3, gA4, gA5, gA6]
              refine tkA 13 (v := ?_) ?_ ?_
              rotate_left
              · (intro w' hSw; clear hSw; go_simp; try rfl)
              try simp only [Act.put, gA1, gA2, gA3, gA4, gA5, gA6]
              refine tkA 14 (v := ?_) ?_ ?_
              rotate_left
              · (intro w' hSw; clear hSw; go_simp; try rfl)
              try simp only [Act.put, gA1, gA2, gA3, gA4, gA5, gA6]
              refine tkA 15 (v := ?_) ?_ ?_
              rotate_left
              · (intro w' hSw; have e13 := Bk.cell hSw.o 13; have e14 := Bk.cell hSw.o 14; have e15 := Bk.cell hSw.o 15; have e16 := Bk.cell hSw.o 16; have e17 := Bk.cell hSw.o 17; have e18 := Bk.cell hSw.o 18; have e19 := Bk.cell hSw.o 19; have e20 := Bk.cell hSw.o 20; simp only [List.getElem?_cons_zero, List.getElem?_cons_succ] at e13 e14 e15 e16 e17 e18 e19 e20; clear hSw; go_simp; try rfl)
              try simp only [Act.put, gA1, gA2, gA3, gA4, gA5, gA6]
              refine tkA 16 (v := ?_) ?_ ?_
              rotate_left
              · (intro w' hSw; clear hSw; go_simp; try rfl)
              try simp only [Act.put, gA1, gA2, gA3, gA4, gA5, gA6]
              refine tkA 17 (v := ?_) ?_ ?_
              rotate_left
              · (intro w' hSw; clear hSw; go_simp; try rfl)
              try simp only [Act.put, gA1, gA2, gA3, gA4, gA5, gA6]
              refine tkA 18 (v := ?_) ?_ ?_
              rotate_left
              · (intro w' hSw; have e13 := Bk.cell hSw.m 13; have e14 := Bk.cell hSw.m 14; have e15 := Bk.cell hSw.m 15; have e16 := Bk.cell hSw.m 16; have e17 := Bk.cell hSw.m 17; have e18 := Bk.cell hSw.m 18; have e19 := Bk.cell hSw.m 19; have e20 := Bk.cell hSw.m 20; simp only [List.getElem?_cons_zero, List.getElem?_cons_succ] at e13 e14 e15 e16 e17 e18 e19 e20; clear hSw; go_simp; try rfl)
              try simp only [Act.put, gA1, gA2, gA3, gA4, gA5, gA6]
              refine tkA 19 (v := ?_) ?_ ?_
              rotate_left
              · (intro w' hSw; clear hSw; go_simp; try rfl)
              try simp only [Act.put, gA1, gA2, gA3, gA4, gA5, gA6]
              refine tkA 20 (v := ?_) ?_ ?_
              rotate_left
              · (intro w' hSw; clear hSw; go_simp; try rfl)
              try simp only [Act.put, gA1, gA2, gA3, gA4, gA5, gA6]
              refine tkA 21 (v := ?_) ?_ ?_
              rotate_left
              · (intro w' hSw; clear hSw; go_simp; try rfl)
              try simp only [Act.put, gA1, gA2, gA3, gA4, gA5, gA6]
              refine tkA 22 (v := ?_) ?_ ?_
              rotate_left
              · (intro w' hSw; clear hSw; go_simp; try rfl)
              try simp only [Act.put, gA1, gA2, gA3, gA4, gA5, gA6]
              refine tkA 23 (v := ?_) ?_ ?_
              rotate_left
              · (intro w' hSw; have e1 := Bk.cell hSw.a 1; simp only [List.getElem?_cons_zero, List.getElem?_cons_succ] at e1; clear hSw; go_simp; try rfl)
              try simp only [Act.put, gA1, gA2, gA3, gA4, gA5, gA6]
              refine tkA 24 (v := ?_) ?_ ?_
              rotate_left
              · (intro w' hSw; clear hSw; go_simp; try rfl)
              try simp only [Act.put, gA1, gA2, gA3, gA4, gA5, gA6]
              refine tkA 25 (v := ?_) ?_ ?_
              rotate_left
              · (intro w' hSw; have e3 := Bk.cell hSw.m 3; have e4 := Bk.cell hSw.m 4; have e5 := Bk.cell hSw.m 5; simp only [List.getElem?_cons_zero, List.getElem?_cons_succ] at e3 e4 e5; clear hSw; go_simp; try rfl)
              try simp only [Act.put, gA1, gA2, gA3, gA4, gA5, gA6]
              refine wpAnyH_ready (rs := [26]) (by kernel_rfl) (by simp) ?_
              refine (AllReadyH.cons rfl (fun K hK => ?_) AllReadyH.nil)
              go_simp
              (go_at_call 27; refine (HHn.out _ (Below.refl wr.heap.size wr).drew).mono ?_; rintro e ws ⟨rfl, hbq⟩; have hbS : Below wr.heap.size wr ws := (Below.refl wr.heap.size wr).drew.trans hbq; clear hbq)
              refine hK.out _ _ ?_ (fun hHeld => ?_)
              · ((first
                | exact HKP.out _ hbT
                | exact HKP.out _ hbS
                | exact HKP.out _ (Below.refl wr.heap.size wr).drew
                | exact HKP.out _ (Below.refl _ _)
                | fail))
              clear hK K
              try simp only [Act.put, gA1, gA2, gA3, gA4, gA5, gA6]
              refine tkA 27 (v := ?_) ?_ ?_
              rotate_left
              · (intro w' hSw; clear hSw; go_simp; try rfl)
              try simp only [Act.put, gA1, gA2, gA3, gA4, gA5, gA6]
              refine tkA 28 (v := ?_) ?_ ?_
              rotate_left
              · (intro w' hSw; clear hSw; go_simp; try rfl)
              try simp only [Act.put, gA1, gA2, gA3, gA4, gA5, gA6]
              refine tkA 29 (v := ?_) ?_ ?_
              rotate_left
              · (intro w' hSw; clear hSw; go_simp; try rfl)
              try simp only [Act.put, gA1, gA2, gA3, gA4, gA5, gA6]
              refine tkA 30 (v := ?_) ?_ ?_
              rotate_left
              · (intro w' hSw; clear hSw; go_simp; try rfl)
              try simp only [Act.put, gA1, gA2, gA3, gA4, gA5, gA6]
              refine tkA 31 (v := ?_) ?_ ?_
              rotate_left
              · (intro w' hSw; have e1 := Bk.cell hSw.a 1; simp only [List.getElem?_cons_zero, List.getElem?_cons_succ] at e1; clear hSw; go_simp; try rfl)
              try simp only [Act.put, gA1, gA2, gA3, gA4, gA5, gA6]
              refine wpAnyH_ready (rs := [32]) (by kernel_rfl) (by simp) ?_
              refine (AllReadyH.cons rfl (fun K hK => ?_) AllReadyH.nil)
              go_simp
              (go_at_call 29; refine (HRt.out _ hbS).mono ?_; rintro e wt ⟨rfl, hbq⟩; have hbT : Below wr.heap.size wr wt := hbS.trans (hbq.mono hbS.size); clear hbq)
              refine hK.out _ _ ?_ (fun hHeld => ?_)
              · ((first
                | exact HKP.out _ hbT
                | exact HKP.out _ hbS
                | exact HKP.out _ (Below.refl wr.heap.size wr).drew
                | exact HKP.out _ (Below.refl _ _)
                | fail))
              clear hK K
              try simp only [Act.put, gA1, gA2, gA3, gA4, gA5, gA6]
              refine tkA 33 (v := ?_) ?_ ?_
              rotate_left
              · (intro w' hSw; clear hSw; go_simp; try rfl)
              try simp only [Act.put, gA1, gA2, gA3, gA4, gA5, gA6]
              refine tkA 34 (v := ?_) ?_ ?_
              rotate_left
              · (intro w' hSw; clear hSw; go_simp; try rfl)
              try simp only [Act.put, gA1, gA2, gA3, gA4, gA5, gA6]
              refine wpAnyH_done (by kernel_rfl) ?_ _
              go_split_ands
              clear HKP
              have HXf : Hid (Below W.heap.size W wt) := Lib.hid (HXr.out.trans (hbT.mono HXr.out.size))
              clear hbT hbS
              go_wp2
              go_ret
              exact ⟨rfl, HXf.out⟩
end Go.Proofs.YtchhcaoondfpiaaGreat
