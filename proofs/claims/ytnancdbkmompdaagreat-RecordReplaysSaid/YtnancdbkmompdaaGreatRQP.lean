/-
  Texts put together: Rco, Rcp, Rcq, Rcs.
-/
import Derived.Test.YtnancdbkmompdaaGreatRY
import Derived.Test.YtnancdbkmompdaaGreatRQO
import Derived.Test.YtnancdbkmompdaaGreatWaR
import Derived.Test.YtnancdbkmompdaaGreatRQI
namespace Go.Proofs.YtnancdbkmompdaaGreat
open Go.RowKit Go.Sort
set_option linter.unusedSimpArgs false
set_option linter.unusedVariables false
set_option maxRecDepth 100000
set_option maxHeartbeats 40000000
/-- The greatest number among instances, the first's on. -/
def grtN (F : List I3) : Int := F.foldl (fun g x => max g x.2.2) (F.getD 0 (0, 0, 0)).2.2
def nxtN (n : Int) (L : List I3) : Int := if L.filter (fun x => !othN n x) = [] then 0 else wrap64 (grtN (L.filter fun x => !othN n x) + 1)
theorem foldl_snoc (F : List I3) (k : Nat) (hk : k < F.length) (z : Int) : (F.take (k + 1)).foldl (fun g x => max g x.2.2) z = max ((F.take k).foldl (fun g x => max g x.2.2) z) (F.getD k (0, 0, 0)).2.2 := by
 rw [List.take_add_one, List.getElem?_eq_getElem hk, List.foldl_append]
 simp only [List.getD, List.getElem?_eq_getElem hk, Option.getD_some]
 rfl
theorem next_any (x : Snp) (L : List I3) (M : List (I3 × Ins)) (cs : Array Value) (b : Nat) (nd : Int) (w : World) (h : StIs w cs b x L M) (hL : L.length ≤ 1000000) : Calls Tryz.prog 11 #[.agg cs, .int .i64 nd] w fun e w' => e = .returned (.int .i64 (nxtN nd L)) ∧ Below w.heap.size w w' := by
 obtain ⟨v1, v2, v3, v4, hcs, hsn, hik⟩ := h.cells
 obtain ⟨a1, c1, a2, c2, a3, c3, e1, e2, e3⟩ := hsn.slices
 obtain ⟨a4, c4, e4⟩ := hik.slice
 obtain ⟨x0, hx0⟩ : ∃ q, x.1.1 = q := ⟨_, rfl⟩
 obtain ⟨k1, hk1⟩ : ∃ q, x.1.2.length = q := ⟨_, rfl⟩
 obtain ⟨k2, hk2⟩ : ∃ q, x.2.1.length = q := ⟨_, rfl⟩
 obtain ⟨k3, hk3⟩ : ∃ q, x.2.2.length = q := ⟨_, rfl⟩
 obtain ⟨k4, hk4⟩ : ∃ q, L.length = q := ⟨_, rfl⟩
 rw [hx0] at hcs
 rw [hk1] at e1
 rw [hk2] at e2
 rw [hk3] at e3
 rw [hk4] at e4
 subst e1 e2 e3 e4 hcs
 obtain ⟨X, hX⟩ : ∃ X, (w.alloc (.cells #[.int .i64 x0, .slice a1 k1 c1, .slice a2 k2 c2, .slice a3 k3 c3, .slice a4 k4 c4, .map (some b)] 37)).alloc (.cells #[.int .i64 nd] 3) = X := ⟨_, rfl⟩
 have hB : Below w.heap.size w X := by rw [← hX]; exact ((Below.refl _ _).alloc (Nat.le_refl _) _).alloc (by simp) _
 have hb1 : Bk X w.heap.size 37 [.int .i64 x0, .slice a1 k1 c1, .slice a2 k2 c2, .slice a3 k3 c3, .slice a4 k4 c4, .map (some b)] := by rw [← hX]; exact (Bk.new w _ _).old _
 have hb2 : Bk X (w.heap.size + 1) 3 [.int .i64 nd] := by rw [← hX]; have := Bk.new (w.alloc (.cells #[.int .i64 x0, .slice a1 k1 c1, .slice a2 k2 c2, .slice a3 k3 c3, .slice a4 k4 c4, .map (some b)] 37)) 3 [.int .i64 nd]; simpa using this
 have HB := Hd hB
 have H2 := Hd hb2
 have HCl := Hd (clIK (.slice a4 k4 c4) L X (hik.below hB).rd hL)
 have HL := Hd hL
 have y4 := hb1.cell 4
 simp only [gB] at y4
 obtain ⟨F, hF⟩ : ∃ F, (L.filter fun x => !othN nd x) = F := ⟨_, rfl⟩
 have HF := Hd hF
 have HFl : Hid (F.length ≤ 1000000) := Hd (by rw [← hF]; exact Nat.le_trans (List.length_filter_le _ _) hL)
 unfold nxtN
 rw [hF]
 obtain ⟨R, hR⟩ : ∃ R, (if F = [] then 0 else wrap64 (grtN F + 1)) = R := ⟨_, rfl⟩
 have HR := Hd hR
 rw [hR]
 clear h hL hsn hik hk1 hk2 hk3 hk4 hx0 hB hb1 hb2 hF hR
 go_enter Tryz.func11, Tryz.ntmps11
 go_wp2_with fail
 refine HCl.out.mono ?_
 rintro e w1 ⟨a5, c5, he, ho, hb⟩
 rw [he.out]
 obtain ⟨n5, hn5⟩ : ∃ q, L.length = q := ⟨_, rfl⟩
 have HB1 := Hd (HB.out.trans (hb.mono HB.out.size))
 have HD := Hd (deleteOth_any (w.heap.size + 1) X.heap.size nd _ L w1 (H2.out.below hb) ho H2.out.lt HL.out)
 have HXs := Hd (show w.heap.size + 1 < X.heap.size from H2.out.lt)
 have HOb := Hd ho.from
 rw [hn5] at HD HOb ⊢
 clear he ho hb hX y4 hn5 HCl H2
 go_wp2_with fail
 refine HD.out.mono ?_
 rintro e w2 ⟨a6, m6, c6, he, hrd, hgr⟩
 rw [he.out]
 rw [HF.out] at hrd
 have HB2 : Hid (Below w.heap.size w w2) := Hd (HB1.out.grown hgr HB1.out.size (fun j hj => by have := HOb.out j hj; have := HXs.out; omega))
 have HRd := Hd hrd
 have hm6 : m6 = F.length := by obtain ⟨_, _, e⟩ := hrd.slice; simp only [Value.slice.injEq] at e; exact e.2.1
 have HM := Hd hm6
 have hm9 : (m6 : Int) ≤ 1000000 := by have := HFl.out; omega
 clear he hrd hgr HD HB1 hm6
 by_cases hz : m6 = 0
 ·subst hz
  have h0 : R = 0 := by rw [← HR.out, if_pos (List.eq_nil_of_length_eq_zero HM.out.symm)]
  subst h0
  go_wp2
  go_ret
  exact ⟨rfl, HB2.out⟩
 ·have hzi : ((m6 : Int) == 0) = false := beq_eq_false_iff_ne.2 (by omega)
  have hpos : 0 < m6 := by omega
  obtain ⟨e0, g2, off2, hda, hg2, q1, q2, q3, hjl⟩ := idCell HRd.out 0 hpos
  subst hda
  simp only [Nat.zero_mul, Nat.add_zero] at q1 q2 q3
  obtain ⟨⟨y1, y2, y3⟩, hX⟩ : ∃ Y, F.getD 0 (0, 0, 0) = Y := ⟨_, rfl⟩
  rw [hX] at q1 q2 q3
  have HY := Hd hX
  clear hX e0 hjl
  go_wp2_with fail
  go_loopw [7, 25] (fun s7 s25 wr => ∃ k : Nat, s7 = .int .i64 ((F.take k).foldl (fun g x => max g x.2.2) y3) ∧ s25 = .int .i64 k ∧ k ≤ m6 ∧ Hid (Below w2.heap.size w2 wr)) (fun _ s25 _ => m6 - (intOf s25).toNat)
  case atStart => exact ⟨0, rfl, rfl, by omega, Hd (Below.refl _ _)⟩
  case round =>
   clear q1 q2 q3 hg2
   obtain ⟨k, rfl, rfl, hk, hB⟩ := hrel
   by_cases hlt : k < m6
   ·have hlt' : (k : Int) < (m6 : Int) := by omega
    obtain ⟨e0, g3, off3, hda, hg3, q1, q2, q3, hjl⟩ := idCell (HRd.out.below hB.out) k hlt
    simp only [Option.some.injEq, Addr.mk.injEq, and_true] at hda
    obtain ⟨rfl, rfl⟩ := hda
    obtain ⟨⟨z1, z2, z3⟩, hX⟩ : ∃ Y, F.getD k (0, 0, 0) = Y := ⟨_, rfl⟩
    rw [hX] at q1 q2 q3
    have HS := Hd (foldl_snoc F k hjl y3)
    rw [hX] at HS
    obtain ⟨G, hG⟩ : ∃ G, (F.take k).foldl (fun g x => max g x.2.2) y3 = G := ⟨_, rfl⟩
    rw [hG] at HS ⊢
    have HB3 : Hid (Below w2.heap.size w2 (wr.alloc (.cells #[.int .i64 z1, .int .i64 z2, .int .i64 z3] 49))) := Hd (hB.out.alloc hB.out.size _)
    clear hX e0 hjl hG
    go_wp2
    go_roundw
    case rel => exact ⟨k + 1, by rw [HS.out], by go_num, by omega, HB3⟩
    case measure => simp [intOf]; omega
   ·obtain rfl : k = m6 := by omega
    have hfin : R = wrap64 ((F.take k).foldl (fun g x => max g x.2.2) y3 + 1) := by
     rw [← HR.out, if_neg (by rintro e; rw [e] at HM; have := HM.out; simp at this; omega), HM.out, List.take_length]
     unfold grtN
     rw [HY.out]
    obtain ⟨G, hG⟩ : ∃ G, (F.take k).foldl (fun g x => max g x.2.2) y3 = G := ⟨_, rfl⟩
    rw [hG] at hfin ⊢
    subst hfin
    have HBF := Hd (HB2.out.trans (hB.out.mono HB2.out.size))
    clear hG
    go_wp2
    go_ret
    exact ⟨rfl, HBF.out⟩
/-- There is so little of a snap. -/
structure LitN (x : Snp) : Prop where
 a : x.1.2.length < 60
 b : x.2.1.length < 60
 c : x.2.2.length < 60
 d : ∀ z ∈ x.2.2, z.2.2.2.2.2.length ≤ 60
theorem LitN.sn6 {x : Snp} (h : LitN x) : Sn6 x := ⟨by have := h.a; omega, by have := h.b; omega, by have := h.c; omega, fun z hz => by have := h.d z hz; omega⟩
theorem rowis_n {P : Program} {k : Nat} {R : Knd P (Cls k)} {α : Type} {S : Shp α} {w : World} {a : Option Addr} {n c : Nat} {rs : List (Cls k)} {l : List α} (h : RowIs R S w (.slice a n c) rs l) : n = l.length ∧ n ≤ maxLen := by
 obtain ⟨_, _, e⟩ := h.rd.slice
 simp only [Value.slice.injEq] at e
 exact ⟨e.2.1.trans h.len, e.2.1 ▸ h.rd.len⟩
theorem lit_mk {n0 : Int} {l1 : List Int} {l2 : List Ent} {l3 : List Ses} {m1 m2 m3 j : Nat} (h1 : m1 = l1.length) (h2 : m2 = l2.length) (h3 : m3 = l3.length) (d1 : (m1 : Int) < 60) (d2 : (m2 : Int) < 60) (d3 : (m3 : Int) < 60) (hj : m3 < 60 → m3 ≤ j) (hf : ∀ t (ht : t < l3.length), t < j → l3[t].2.2.2.2.2.length ≤ 60) : LitN ((n0, l1), l2, l3) := by
 refine ⟨show l1.length < 60 by omega, show l2.length < 60 by omega, show l3.length < 60 by omega, fun z hz => ?_⟩
 obtain ⟨t, ht, e⟩ := List.getElem_of_mem hz
 rw [← e]
 have := hj (by omega)
 exact hf t ht (by have : t < l3.length := ht; omega)
def LitP (x : Snp) (w : World) (e : Ending) (w' : World) : Prop := ∃ r : Bool, Hid (e = .returned (.bool r)) ∧ (r = true → LitN x) ∧ Below w.heap.size w w'
theorem little_any (x : Snp) (ca : Array Value) (w : World) (h : snS.is w ca.toList x) : Calls Tryz.prog 7 #[.agg ca] w (LitP x w) := by
 obtain ⟨a1, m1, c1, rs1, a2, m2, c2, rs2, a3, m3, c3, rs3, hcs, k1, k2, k3⟩ := sn_is h
 obtain ⟨⟨n0, l1⟩, l2, l3⟩ := x
 obtain rfl : ca = #[.int .i64 n0, .slice a1 m1 c1, .slice a2 m2 c2, .slice a3 m3 c3] := by
  cases ca
  simpa [snV] using hcs
 obtain ⟨X, hX⟩ : ∃ X, w.alloc (.cells #[.int .i64 n0, .slice a1 m1 c1, .slice a2 m2 c2, .slice a3 m3 c3] 28) = X := ⟨_, rfl⟩
 have hB : Below w.heap.size w X := by rw [← hX]; exact (Below.refl _ _).alloc (Nat.le_refl _) _
 have hb1 : Bk X w.heap.size 28 [.int .i64 n0, .slice a1 m1 c1, .slice a2 m2 c2, .slice a3 m3 c3] := by rw [← hX]; exact Bk.new w _ _
 have HB := Hd hB
 have H1 := Hd hb1
 have K1 := Hd (rowis_n k1)
 have K2 := Hd (k2.on hB)
 have K3 := Hd (k3.on hB)
 have hm1 : (m1 : Int) ≤ 9223372036854775807 := by have := (rowis_n k1).2; unfold maxLen at this; omega
 have hm2 : (m2 : Int) ≤ 9223372036854775807 := by have := (rowis_n k2).2; unfold maxLen at this; omega
 have hm3 : (m3 : Int) ≤ 9223372036854775807 := by have := (rowis_n k3).2; unfold maxLen at this; omega
 have y1 := hb1.cell 1
 have y2 := hb1.cell 2
 have y3 := hb1.cell 3
 simp only [gB] at y1 y2 y3
 clear h hcs k1 k2 k3 hB hb1
 go_enter Tryz.func7, Tryz.ntmps7
 go_wp2_with fail
 go_loopw [3] (fun s3 wr => ∃ k : Nat, s3 = .int .i64 k ∧ k ≤ m2 ∧ k ≤ 60 ∧ wr = X) (fun s3 _ => 60 - (intOf s3).toNat)
 case atStart => exact ⟨0, rfl, by omega, by omega, rfl⟩
 case round =>
  obtain ⟨k, rfl, hk, hk6, rfl⟩ := hrel
  clear hX
  by_cases hlt : k < m2 ∧ k < 60
  ·have h1 : (k : Int) < (m2 : Int) := by omega
   have h2 : (k : Int) < 60 := by omega
   have d1 : decide ((k : Int) < (m2 : Int)) = true := decide_eq_true h1
   have d2 : decide ((k : Int) < 60) = true := decide_eq_true h2
   obtain ⟨_, hl, g, off, cs, ha, hg, hcs, hc⟩ := K2.out.el rfl k hlt.1
   obtain ⟨rfl, s1, s2⟩ := hcs
   subst ha
   have e3 : KE.k = 3 := rfl
   rw [e3] at hc
   obtain ⟨⟨p, v, ve⟩, hp⟩ : ∃ q, l2[k] = q := ⟨_, rfl⟩
   have hp' : (((n0, l1), l2, l3) : Snp).2.1[k] = (p, v, ve) := hp
   rw [hp'] at hc s1 s2
   have q0 := hc 0 _ rfl
   have q1 := hc 1 _ rfl
   have q2 := hc 2 _ rfl
   simp only [Nat.add_zero] at q0
   have z1 : (p.size : Int) ≤ 9223372036854775807 := by have : p.size ≤ maxLen := s1; unfold maxLen at this; omega
   have z2 : (v.size : Int) ≤ 9223372036854775807 := by have : v.size ≤ maxLen := s2; unfold maxLen at this; omega
   obtain ⟨P1, hP1⟩ : ∃ q, decide ((300 : Int) < (p.size : Int)) = q := ⟨_, rfl⟩
   obtain ⟨P2, hP2⟩ : ∃ q, decide ((300 : Int) < (v.size : Int)) = q := ⟨_, rfl⟩
   obtain ⟨P3, hP3⟩ : ∃ q, decide ((1099511627776 : Int) < ve) = q := ⟨_, rfl⟩
   clear hc hp hp' s1 s2 hl hg e3
   cases P1 with
   | true =>
    go_wp2
    go_ret
    exact ⟨false, Hd rfl, (fun e => by cases e), HB.out⟩
   | false =>
    cases P2 with
    | true =>
     go_wp2
     go_ret
     exact ⟨false, Hd rfl, (fun e => by cases e), HB.out⟩
    | false =>
     cases P3 with
     | true =>
      go_wp2
      go_ret
      exact ⟨false, Hd rfl, (fun e => by cases e), HB.out⟩
     | false =>
      go_wp2
      go_roundw
      case rel => exact ⟨k + 1, by go_num, by omega, by omega⟩
      case measure => simp [intOf]; omega
  ·by_cases hk2 : k < m2
   ·have hk0 : k = 60 := by omega
    subst hk0
    have h1 : (60 : Int) < (m2 : Int) := by omega
    have d1 : decide ((60 : Int) < (m2 : Int)) = true := decide_eq_true h1
    go_wp2_with fail
    go_loopw [4] (fun s4 wr2 => ∃ j : Nat, s4 = .int .i64 j ∧ j ≤ m3 ∧ j ≤ 60 ∧ Hid (∀ t (ht : t < l3.length), t < j → l3[t].2.2.2.2.2.length ≤ 60) ∧ wr2 = wr) (fun s4 _ => 60 - (intOf s4).toNat)
    case atStart => exact ⟨0, rfl, by omega, by omega, Hd (fun t _ h => by omega), rfl⟩
    case round =>
     obtain ⟨j, rfl, hj, hj6, HF, hw⟩ := hrel
     subst hw
     by_cases hjt : j < m3 ∧ j < 60
     ·have g1 : (j : Int) < (m3 : Int) := by omega
      have g2 : (j : Int) < 60 := by omega
      have f1 : decide ((j : Int) < (m3 : Int)) = true := decide_eq_true g1
      have f2 : decide ((j : Int) < 60) = true := decide_eq_true g2
      obtain ⟨_, hl, g, off, cs, ha, hg, hcs, hc⟩ := K3.out.el rfl j hjt.1
      obtain ⟨v, rs, rfl, s1, s2⟩ := hcs
      subst ha
      obtain ⟨a9, c9, e9⟩ := s2.rd.slice
      obtain ⟨n9, hn9⟩ : ∃ q, rs.length = q := ⟨_, rfl⟩
      rw [hn9] at e9
      subst e9
      have hn := rowis_n s2
      have hn2 : n9 = l3[j].2.2.2.2.2.length := hn.1
      have hn3 : (n9 : Int) ≤ 9223372036854775807 := by have := hn.2; unfold maxLen at this; omega
      have q5 := hc 5 (.slice a9 n9 c9) rfl
      have e6 : KZ.k = 6 := rfl
      rw [e6] at q5
      have q6 := q5
      rw [show off + j * 6 + 5 = off + j * 6 + 2 + 3 from rfl] at q6
      obtain ⟨P1, hP1⟩ : ∃ q, decide ((60 : Int) < (n9 : Int)) = q := ⟨_, rfl⟩
      have HP1 := Hd hP1
      have HN2 := Hd hn2
      clear hc s1 s2 hg e6 hn9 hn hn2
      cases P1 with
      | true =>
       go_wp2
       go_ret
       exact ⟨false, Hd rfl, (fun e => by cases e), HB.out⟩
      | false =>
       have HF2 : Hid (∀ t (ht : t < l3.length), t < j + 1 → l3[t].2.2.2.2.2.length ≤ 60) := Hd (fun t ht h => by
        by_cases q : t = j
        ·subst q; have := of_decide_eq_false HP1.out; rw [← HN2.out]; omega
        ·exact HF.out t ht (by omega))
       go_wp2
       go_roundw
       case rel => exact ⟨j + 1, by go_num, by omega, by omega, HF2, trivial⟩
       case measure => simp [intOf]; omega
     ·have HJ : Hid (m3 < 60 → m3 ≤ j) := Hd (fun h => by omega)
      by_cases hj2 : j < m3
      ·have hj0 : j = 60 := by omega
       subst hj0
       have g1 : (60 : Int) < (m3 : Int) := by omega
       have f1 : decide ((60 : Int) < (m3 : Int)) = true := decide_eq_true g1
       obtain ⟨D2, hD2⟩ : ∃ q, decide ((m2 : Int) < 60) = q := ⟨_, rfl⟩
       obtain ⟨D3, hD3⟩ : ∃ q, decide ((m3 : Int) < 60) = q := ⟨_, rfl⟩
       obtain ⟨D1, hD1⟩ : ∃ q, decide ((m1 : Int) < 60) = q := ⟨_, rfl⟩
       have HD := Hd (And.intro hD1 (And.intro hD2 hD3))
       cases D2 <;> cases D3 <;> cases D1 <;> go_wp2 <;> go_ret
       all_goals first | exact ⟨false, Hd rfl, (fun e => by cases e), HB.out⟩ | exact ⟨true, Hd rfl, (fun _ => lit_mk K1.out.1 (rowis_n K2.out).1 (rowis_n K3.out).1 (of_decide_eq_true HD.out.1) (of_decide_eq_true HD.out.2.1) (of_decide_eq_true HD.out.2.2) HJ.out HF.out), HB.out⟩
      ·have hj0 : j = m3 := by omega
       subst hj0
       obtain ⟨D2, hD2⟩ : ∃ q, decide ((m2 : Int) < 60) = q := ⟨_, rfl⟩
       obtain ⟨D3, hD3⟩ : ∃ q, decide ((j : Int) < 60) = q := ⟨_, rfl⟩
       obtain ⟨D1, hD1⟩ : ∃ q, decide ((m1 : Int) < 60) = q := ⟨_, rfl⟩
       have HD := Hd (And.intro hD1 (And.intro hD2 hD3))
       cases D2 <;> cases D3 <;> cases D1 <;> go_wp2 <;> go_ret
       all_goals first | exact ⟨false, Hd rfl, (fun e => by cases e), HB.out⟩ | exact ⟨true, Hd rfl, (fun _ => lit_mk K1.out.1 (rowis_n K2.out).1 (rowis_n K3.out).1 (of_decide_eq_true HD.out.1) (of_decide_eq_true HD.out.2.1) (of_decide_eq_true HD.out.2.2) HJ.out HF.out), HB.out⟩
   ·have hk0 : k = m2 := by omega
    subst hk0
    go_wp2_with fail
    go_loopw [4] (fun s4 wr2 => ∃ j : Nat, s4 = .int .i64 j ∧ j ≤ m3 ∧ j ≤ 60 ∧ Hid (∀ t (ht : t < l3.length), t < j → l3[t].2.2.2.2.2.length ≤ 60) ∧ wr2 = wr) (fun s4 _ => 60 - (intOf s4).toNat)
    case atStart => exact ⟨0, rfl, by omega, by omega, Hd (fun t _ h => by omega), rfl⟩
    case round =>
     obtain ⟨j, rfl, hj, hj6, HF, hw⟩ := hrel
     subst hw
     by_cases hjt : j < m3 ∧ j < 60
     ·have g1 : (j : Int) < (m3 : Int) := by omega
      have g2 : (j : Int) < 60 := by omega
      have f1 : decide ((j : Int) < (m3 : Int)) = true := decide_eq_true g1
      have f2 : decide ((j : Int) < 60) = true := decide_eq_true g2
      obtain ⟨_, hl, g, off, cs, ha, hg, hcs, hc⟩ := K3.out.el rfl j hjt.1
      obtain ⟨v, rs, rfl, s1, s2⟩ := hcs
      subst ha
      obtain ⟨a9, c9, e9⟩ := s2.rd.slice
      obtain ⟨n9, hn9⟩ : ∃ q, rs.length = q := ⟨_, rfl⟩
      rw [hn9] at e9
      subst e9
      have hn := rowis_n s2
      have hn2 : n9 = l3[j].2.2.2.2.2.length := hn.1
      have hn3 : (n9 : Int) ≤ 9223372036854775807 := by have := hn.2; unfold maxLen at this; omega
      have q5 := hc 5 (.slice a9 n9 c9) rfl
      have e6 : KZ.k = 6 := rfl
      rw [e6] at q5
      have q6 := q5
      rw [show off + j * 6 + 5 = off + j * 6 + 2 + 3 from rfl] at q6
      obtain ⟨P1, hP1⟩ : ∃ q, decide ((60 : Int) < (n9 : Int)) = q := ⟨_, rfl⟩
      have HP1 := Hd hP1
      have HN2 := Hd hn2
      clear hc s1 s2 hg e6 hn9 hn hn2
      cases P1 with
      | true =>
       go_wp2
       go_ret
       exact ⟨false, Hd rfl, (fun e => by cases e), HB.out⟩
      | false =>
       have HF2 : Hid (∀ t (ht : t < l3.length), t < j + 1 → l3[t].2.2.2.2.2.length ≤ 60) := Hd (fun t ht h => by
        by_cases q : t = j
        ·subst q; have := of_decide_eq_false HP1.out; rw [← HN2.out]; omega
        ·exact HF.out t ht (by omega))
       go_wp2
       go_roundw
       case rel => exact ⟨j + 1, by go_num, by omega, by omega, HF2, trivial⟩
       case measure => simp [intOf]; omega
     ·have HJ : Hid (m3 < 60 → m3 ≤ j) := Hd (fun h => by omega)
      by_cases hj2 : j < m3
      ·have hj0 : j = 60 := by omega
       subst hj0
       have g1 : (60 : Int) < (m3 : Int) := by omega
       have f1 : decide ((60 : Int) < (m3 : Int)) = true := decide_eq_true g1
       obtain ⟨D2, hD2⟩ : ∃ q, decide ((k : Int) < 60) = q := ⟨_, rfl⟩
       obtain ⟨D3, hD3⟩ : ∃ q, decide ((m3 : Int) < 60) = q := ⟨_, rfl⟩
       obtain ⟨D1, hD1⟩ : ∃ q, decide ((m1 : Int) < 60) = q := ⟨_, rfl⟩
       have HD := Hd (And.intro hD1 (And.intro hD2 hD3))
       cases D2 <;> cases D3 <;> cases D1 <;> go_wp2 <;> go_ret
       all_goals first | exact ⟨false, Hd rfl, (fun e => by cases e), HB.out⟩ | exact ⟨true, Hd rfl, (fun _ => lit_mk K1.out.1 (rowis_n K2.out).1 (rowis_n K3.out).1 (of_decide_eq_true HD.out.1) (of_decide_eq_true HD.out.2.1) (of_decide_eq_true HD.out.2.2) HJ.out HF.out), HB.out⟩
      ·have hj0 : j = m3 := by omega
       subst hj0
       obtain ⟨D2, hD2⟩ : ∃ q, decide ((k : Int) < 60) = q := ⟨_, rfl⟩
       obtain ⟨D3, hD3⟩ : ∃ q, decide ((j : Int) < 60) = q := ⟨_, rfl⟩
       obtain ⟨D1, hD1⟩ : ∃ q, decide ((m1 : Int) < 60) = q := ⟨_, rfl⟩
       have HD := Hd (And.intro hD1 (And.intro hD2 hD3))
       cases D2 <;> cases D3 <;> cases D1 <;> go_wp2 <;> go_ret
       all_goals first | exact ⟨false, Hd rfl, (fun e => by cases e), HB.out⟩ | exact ⟨true, Hd rfl, (fun _ => lit_mk K1.out.1 (rowis_n K2.out).1 (rowis_n K3.out).1 (of_decide_eq_true HD.out.1) (of_decide_eq_true HD.out.2.1) (of_decide_eq_true HD.out.2.2) HJ.out HF.out), HB.out⟩
end Go.Proofs.YtnancdbkmompdaaGreat
namespace Go.Proofs.YtnancdbkmompdaaGreat
open Go.RowKit
set_option linter.unusedSimpArgs false
set_option linter.unusedVariables false
set_option maxRecDepth 100000
set_option maxHeartbeats 40000000
theorem records_any (a : Option Addr) (n c : Nat) (w : World) : Calls Tryz.prog 20 #[.slice a n c] w fun e w' => e = .returned (.func (.func 42) #[] #[.pointer (some ⟨w.heap.size, 0, none⟩)]) ∧ w.alloc (.cells #[.slice a n c] 32) = w' := by
 go_enter Tryz.func20, Tryz.ntmps20
 go_wp2
 go_ret
 exact ⟨rfl, rfl⟩
abbrev Knw := Snp × List I3 × List (I3 × Ins)
/-- One record's bytes more. -/
def stpR (y : Knw) (xs : List Int) : Knw := if endE (rcRd (xs, 0)).2 = 0 then wth y.1 y.2.1 y.2.2 (rcRd (xs, 0)).1 else y
def rplR (s : Snp) (bs : List (List Int)) : Knw := bs.foldl stpR (s, [], [])
/-- So little is known. -/
structure KnB (n : Nat) (y : Knw) : Prop where
 sn : Sn6 y.1
 l : y.2.1.length ≤ n
 m : y.2.2.length ≤ n
 nd : (keysV y.2.2).Nodup
 dp : ∀ id z, getV y.2.2 id = some z → z.2.2.2.2.2.length ≤ 1000000
theorem KnB.start {s : Snp} (h : Sn6 s) : KnB 0 (s, [], []) := ⟨h, Nat.le_refl _, Nat.le_refl _, List.nodup_nil, fun id z e => by cases e⟩
theorem KnB.wth {n : Nat} {y : Knw} (h : KnB n y) {r : Rec4} (hs : Sn6 r.2.2.2) (hd : r.2.2.1.2.2.2.2.2.length ≤ 1000000) : KnB (n + 1) (wth y.1 y.2.1 y.2.2 r) := by
 obtain ⟨x, L, M⟩ := y
 unfold Go.Proofs.YtnancdbkmompdaaGreat.wth
 split
 ·exact ⟨hs, Nat.zero_le _, Nat.zero_le _, List.nodup_nil, fun id z e => by cases e⟩
 ·split
  ·exact ⟨h.sn, Nat.le_succ_of_le h.l, Nat.le_succ_of_le h.m, h.nd, h.dp⟩
  ·refine ⟨h.sn, ?_, ?_, nodup_putV h.nd _ _, fun id z e => ?_⟩
   ·have hl : L.length ≤ n := h.l
    show (if hasI L r.2.1 = true then L else uniI L [r.2.1]).length ≤ n + 1
    split
    ·omega
    ·have := len_clnI (L ++ [r.2.1])
     unfold uniI
     simp at this
     omega
   ·have hm : M.length ≤ n := h.m
    have h2 := len_putV (show (keysV M).Nodup from h.nd) r.2.1 r.2.2.1
    show (putV M r.2.1 r.2.2.1).length ≤ n + 1
    rw [h2]
    split
    ·exact Nat.le_succ_of_le hm
    ·exact Nat.succ_le_succ hm
   ·have e : getV (putV M r.2.1 r.2.2.1) id = some z := e
    rw [getV_put h.nd] at e
    split at e
    ·cases e; exact hd
    ·exact h.dp id z e
theorem cnt_ok {l : List Fd} {n : Nat} (h : Oks l) (hm : Fd.cnt n ∈ l) : n ≤ 1000000 := by
 have : n ≤ 1024 := h _ hm
 omega
theorem oks_sub {l k : List Fd} (h : Oks l) (hs : ∀ f ∈ k, f ∈ l) : Oks k := fun f hf => h f (hs f hf)
theorem sn6_oks {s : Snp} (h : Oks (snC.fs s)) : Sn6 s := by
 have e : snC.fs s = (numC.fs s.1.1 ++ (Fd.cnt s.1.2.length :: s.1.2.flatMap numC.fs)) ++ ((Fd.cnt s.2.1.length :: s.2.1.flatMap enC.fs) ++ (Fd.cnt s.2.2.length :: s.2.2.flatMap seC.fs)) := rfl
 rw [e] at h
 refine ⟨cnt_ok h (by simp), cnt_ok h (by simp), cnt_ok h (by simp), fun z hz => ?_⟩
 have hz2 : Oks (seC.fs z) := oks_sub h (fun f hf => List.mem_append_right _ (List.mem_append_right _ (List.mem_cons_of_mem _ (List.mem_flatMap.2 ⟨z, hz, hf⟩))))
 have e2 : seC.fs z = numC.fs z.1 ++ (numC.fs z.2.1 ++ (numC.fs z.2.2.1 ++ (txtC.fs z.2.2.2.1 ++ (numC.fs z.2.2.2.2.1 ++ (Fd.cnt z.2.2.2.2.2.length :: z.2.2.2.2.2.flatMap txtC.fs))))) := rfl
 rw [e2] at hz2
 exact cnt_ok hz2 (by simp)
theorem dep_oks {y : Ins} (h : Oks (inC.fs y)) : y.2.2.2.2.2.length ≤ 1000000 := by
 have e : inC.fs y = numC.fs y.1 ++ (balC.fs y.2.1 ++ (balC.fs y.2.2.1 ++ (cmC.fs y.2.2.2.1 ++ (numC.fs y.2.2.2.2.1 ++ (Fd.cnt y.2.2.2.2.2.length :: y.2.2.2.2.2.flatMap idC.fs))))) := rfl
 rw [e] at h
 exact cnt_ok h (by simp)
theorem end_zero {s : RSt} (h : endE s = 0) : s.2 = 0 := by
 unfold endE at h
 split at h
 ·cases h
 ·exact h
/-- What bytes read as, where they are a record, is little. -/
theorem rec_little (xs : List Int) (hb : BytL xs) (h : endE (rcRd (xs, 0)).2 = 0) : Sn6 (rcRd (xs, 0)).1.2.2.2 ∧ (rcRd (xs, 0)).1.2.2.1.2.2.2.2.2.length ≤ 1000000 ∧ Oks (rcFs (rcRd (xs, 0)).1) := by
 have hi := (rc_inv xs hb (end_zero h)).1
 have hz : Sn6 zSnp := ⟨Nat.zero_le _, Nat.zero_le _, Nat.zero_le _, fun z q => by cases q⟩
 by_cases q0 : (gNum (xs, 0)).1 = 0
 ·have e : rcRd (xs, 0) = rc0Rd (xs, 0) := if_pos q0
  rw [e] at hi ⊢
  have hi2 : Oks ([Fd.num 0] ++ (idC.fs (rc0Rd (xs, 0)).1.2.1 ++ inC.fs (rc0Rd (xs, 0)).1.2.2.1)) := hi
  exact ⟨hz, dep_oks ((oks_app _ _).1 ((oks_app _ _).1 hi2).2).2, hi⟩
 ·by_cases q1 : (gNum (xs, 0)).1 = 1
  ·have e : rcRd (xs, 0) = ((true, (0, 0, 0), zInsR, (snC.rd (gNum (xs, 0)).2).1), (snC.rd (gNum (xs, 0)).2).2) := (if_neg q0).trans (if_pos q1)
   rw [e] at hi ⊢
   have hi2 : Oks ([Fd.num 1] ++ snC.fs (snC.rd (gNum (xs, 0)).2).1) := hi
   exact ⟨sn6_oks ((oks_app _ _).1 hi2).2, Nat.zero_le _, hi⟩
  ·have e : rcRd (xs, 0) = ((false, (0, 0, 0), zInsR, zSnp), ((gNum (xs, 0)).2.1, 11)) := (if_neg q0).trans (if_neg q1)
   rw [e] at hi ⊢
   exact ⟨hz, Nat.zero_le _, hi⟩
theorem KnB.step {n : Nat} {y : Knw} (h : KnB n y) (xs : List Int) (hb : BytL xs) : KnB (n + 1) (stpR y xs) := by
 unfold stpR
 split
 ·rename_i q
  obtain ⟨h1, h2, _⟩ := rec_little xs hb q
  exact h.wth h1 h2
 ·exact ⟨h.sn, Nat.le_succ_of_le h.l, Nat.le_succ_of_le h.m, h.nd, h.dp⟩
theorem wf_ok {n : Int} (h : okN n) : (Lit.int .i64 n).wf = true := by
 obtain ⟨h1, h2⟩ := h
 have e1 : IntKind.i64.min = -9223372036854775808 := rfl
 have e2 : IntKind.i64.max = 9223372036854775807 := rfl
 simp [Lit.wf, e1, e2]
 omega
theorem okI_oks {x : I3} (h : Oks (idC.fs x)) : okI x := by
 have h2 : Oks ([Fd.num x.1] ++ ([Fd.num x.2.1] ++ [Fd.num x.2.2])) := h
 rw [oks_app, oks_app] at h2
 exact ⟨wf_ok (h2.1 _ (List.mem_singleton.2 rfl)), wf_ok (h2.2.1 _ (List.mem_singleton.2 rfl)), wf_ok (h2.2.2 _ (List.mem_singleton.2 rfl))⟩
theorem rec_okI (xs : List Int) (hb : BytL xs) (h : endE (rcRd (xs, 0)).2 = 0) : okI (rcRd (xs, 0)).1.2.1 := by
 have hi := (rc_inv xs hb (end_zero h)).1
 have hz : okI ((0, 0, 0) : I3) := ⟨rfl, rfl, rfl⟩
 by_cases q0 : (gNum (xs, 0)).1 = 0
 ·have e : rcRd (xs, 0) = rc0Rd (xs, 0) := if_pos q0
  rw [e] at hi ⊢
  have hi2 : Oks ([Fd.num 0] ++ (idC.fs (rc0Rd (xs, 0)).1.2.1 ++ inC.fs (rc0Rd (xs, 0)).1.2.2.1)) := hi
  exact okI_oks ((oks_app _ _).1 ((oks_app _ _).1 hi2).2).1
 ·by_cases q1 : (gNum (xs, 0)).1 = 1
  ·have e : rcRd (xs, 0) = ((true, (0, 0, 0), zInsR, (snC.rd (gNum (xs, 0)).2).1), (snC.rd (gNum (xs, 0)).2).2) := (if_neg q0).trans (if_pos q1)
   rw [e]
   exact hz
  ·have e : rcRd (xs, 0) = ((false, (0, 0, 0), zInsR, zSnp), ((gNum (xs, 0)).2.1, 11)) := (if_neg q0).trans (if_neg q1)
   rw [e]
   exact hz
end Go.Proofs.YtnancdbkmompdaaGreat
