/-
  The walks of the document's Clean, Union, Less2.
-/
import Derived.Test.YtmkmdgehgllnbaaDoorIdsA
namespace Go.Proofs.YtmkmdgehgllnbaaDoor
open Go.RowKit Go.Sort Go.Shelf Go.Lib
set_option linter.unusedSimpArgs false
set_option linter.unusedVariables false

theorem clnI_take (l : List I3) (k : Nat) (hk : k < l.length) (X : I3) (hX : l.getD k (0, 0, 0) = X) : clnI (l.take (k + 1)) = putI (clnI (l.take k)) X := by
  rw [List.take_succ_eq_append_getElem hk, clnI_snoc]
  congr 1
  rw [← hX]; simp [List.getD, hk]
set_option maxRecDepth 100000 in
set_option maxHeartbeats 1000000 in
theorem rclean_any (v : Value) (l : List I3) (w : World) (h : IK.Rd w v l) (hn : l.length ≤ 5000) :
    Calls Tryd.prog 21 #[v] w (RowP (clnI l) w) := by
  obtain ⟨a, c, e⟩ := h.slice
  subst e
  obtain ⟨N, hN⟩ : ∃ N, l.length = N := ⟨_, rfl⟩
  rw [hN] at h hn ⊢
  have HN := Lib.hid hN
  have HRD := Lib.hid h
  clear hN h
  go_enter Tryd.func21, Tryd.ntmps21
  go_wp2_with fail
  go_loopw [3, 4] (fun o i wr => ∃ (k : Nat) (vo : Value), k ≤ N ∧ vo = o ∧ i = .int .i64 k ∧ Hid (IK.Own wr w.heap.size vo (clnI (l.take k))) ∧ Hid (Below w.heap.size w wr)) (fun _ i _ => N - (intOf i).toNat)
  case atStart => exact ⟨0, _, Nat.zero_le _, rfl, rfl, Lib.hid (Knd.Own.nil _ _), Lib.hid (Below.refl _ _)⟩
  case round =>
    obtain ⟨k, vo, hk, rfl, rfl, hO, hB⟩ := hrel
    by_cases hlt : k < N
    · have hlt' : (k : Int) < (N : Int) := by omega
      have hkb : (k : Int) ≤ 5000 := by omega
      obtain ⟨e0, g2, off2, hda, hg2, q1, q2, q3, hjl⟩ := idCell (HRD.out.below hB.out) k hlt
      obtain ⟨⟨y1, y2, y3⟩, hX⟩ : ∃ X, l.getD k (0, 0, 0) = X := ⟨_, rfl⟩
      rw [hX] at q1 q2 q3
      have hcl := put_any w.heap.size vo (clnI (l.take k)) y1 y2 y3 wr hO.out hB.out.size (by have := len_clnI (l.take k); have := List.length_take_le k l; omega)
      rw [← clnI_take l k hjl _ hX] at hcl
      have HC := Lib.hid hcl
      subst hda
      clear hX hjl e0 hcl hO
      go_wp2_with fail
      refine HC.out.mono ?_
      rintro e w2 ⟨v2, he, ho2, hb2⟩
      rw [he.out]
      have O2 := Lib.hid ho2
      have B2 : Hid (Below w.heap.size w w2) := Lib.hid (hB.out.trans (hb2.mono hB.out.size))
      clear ho2 hb2 he hB HC q1 q2 q3
      go_wp2
      go_roundw
      case rel => exact ⟨k + 1, v2, by omega, rfl, by go_num, O2, B2⟩
      case measure => simp [intOf]; omega
    · obtain rfl : k = N := by omega
      have hO2 := hO.out
      rw [List.take_of_length_le (by rw [HN.out]; exact Nat.le_refl _)] at hO2
      have HO2 := Lib.hid hO2
      clear hO hO2
      go_wp2
      go_ret
      exact ⟨_, Lib.hid rfl, HO2.out, hB.out⟩
set_option maxRecDepth 100000 in
set_option maxHeartbeats 1000000 in
theorem runion_any (va vb : Value) (a b : List I3) (w : World) (ha : IK.Rd w va a) (hb : IK.Rd w vb b) (na : a.length ≤ 1000) (nb : b.length ≤ 1000) :
    Calls Tryd.prog 23 #[va, vb] w (RowP (uniI a b) w) := by
  obtain ⟨aa, ca, e⟩ := ha.slice
  subst e
  obtain ⟨ab, cb, e⟩ := hb.slice
  subst e
  obtain ⟨N, hN⟩ : ∃ N, a.length = N := ⟨_, rfl⟩
  obtain ⟨M, hM⟩ : ∃ N, b.length = N := ⟨_, rfl⟩
  have h1 : ([] : List I3).length + a.length ≤ 1000000 := by simp; omega
  have h2 : a.length + b.length ≤ 1000000 := by omega
  rw [hN] at ha ⊢
  rw [hM] at hb ⊢
  have HA := Lib.hid ha
  have HB := Lib.hid hb
  have HL : Hid ((a ++ b).length ≤ 5000) := Lib.hid (by rw [List.length_append]; omega)
  have H1 := Lib.hid h1
  have H2 := Lib.hid h2
  clear ha hb hN hM na nb h1 h2
  go_enter Tryd.func23, Tryd.ntmps23
  go_wp2_with (refine IK.app rfl _ _ rfl w.heap.size (.slice none 0 0) [] rfl (Knd.Own.nil _ _) _ a rfl HA.out H1.out (Nat.le_refl _) ?_)
  intro v1 w1 ho hb1 hg hn
  have O1 : Hid (IK.Own w1 w.heap.size v1 a) := Lib.hid ho
  have B1 := Lib.hid hb1
  have hz : Hid (w.heap.size ≤ w1.heap.size) := Lib.hid B1.out.size
  have HB1 := Lib.hid (HB.out.below B1.out)
  clear ho hb1 hg hn HA HB H1
  go_wp2_with (refine IK.app rfl _ _ rfl w.heap.size v1 a rfl O1.out _ b rfl HB1.out H2.out hz.out ?_)
  intro v2 w2 ho hb1 hg hn
  have O2 := Lib.hid ho
  have B2 := Lib.hid (B1.out.trans hb1)
  have HC := Lib.hid (rclean_any v2 (a ++ b) w2 ho.rd HL.out)
  have hzz : Hid (w.heap.size ≤ w2.heap.size) := Lib.hid B2.out.size
  clear ho hb1 hg hn O1 B1 hz H2 O2
  go_wp2_with fail
  refine HC.out.mono ?_
  rintro e w3 ⟨v3, he, ho3, hb3⟩
  rw [he.out]
  have O3 : Hid (IK.Own w3 w.heap.size v3 (uniI a b)) := Lib.hid (ho3.base hzz.out)
  have B3 := Lib.hid (B2.out.trans (hb3.mono hzz.out))
  clear ho3 hb3 he HC
  go_wp2
  go_ret
  exact ⟨_, Lib.hid rfl, O3.out, B3.out⟩
theorem take_filter (a b : List I3) (k : Nat) (hk : k < a.length) (X : I3) (hX : a.getD k (0, 0, 0) = X) : (a.take (k + 1)).filter (fun x => !hasI b x) = (a.take k).filter (fun x => !hasI b x) ++ (if hasI b X then [] else [X]) := by
  rw [List.take_succ_eq_append_getElem hk, List.filter_append]
  congr 1
  have : a[k] = X := by rw [← hX]; simp [List.getD, hk]
  rw [this]
  cases h : hasI b X <;> simp [h]
set_option maxRecDepth 100000 in
set_option maxHeartbeats 2000000 in
theorem rless2_any (va vb : Value) (a b : List I3) (w : World) (ha : IK.Rd w va a) (hb : IK.Rd w vb b) (na : a.length ≤ 1000) (nb : b.length ≤ 1000) :
    Calls Tryd.prog 25 #[va, vb] w (RowP (lesI a b) w) := by
  have HA := Lib.hid ha
  have HHAS : Hid (∀ x1 x2 x3 W, Below w.heap.size w W → Calls Tryd.prog 18 #[vb, .agg #[.int .i64 x1, .int .i64 x2, .int .i64 x3]] W fun e w' => e = .returned (.bool (hasI b (x1, x2, x3))) ∧ Below W.heap.size W w') := Lib.hid (fun x1 x2 x3 W hW => rhas_any vb b x1 x2 x3 W (hb.below hW) (by omega))
  obtain ⟨aa, ca, e⟩ := ha.slice
  subst e
  obtain ⟨ab, cb, e⟩ := hb.slice
  subst e
  obtain ⟨N, hN⟩ : ∃ N, a.length = N := ⟨_, rfl⟩
  rw [hN] at na HA ⊢
  have HN := Lib.hid hN
  clear ha hb hN
  go_enter Tryd.func25, Tryd.ntmps25
  go_wp2_with fail
  go_loopw [5, 6] (fun o i wr => ∃ (k : Nat) (vo : Value), k ≤ N ∧ vo = o ∧ i = .int .i64 k ∧ Hid (IK.Own wr w.heap.size vo ((a.take k).filter fun x => !hasI b x)) ∧ Hid (Below w.heap.size w wr)) (fun _ i _ => N - (intOf i).toNat)
  case atStart => exact ⟨0, _, Nat.zero_le _, rfl, rfl, Lib.hid (Knd.Own.nil _ _), Lib.hid (Below.refl _ _)⟩
  case round =>
    obtain ⟨k, vo, hk, rfl, rfl, hO, hB⟩ := hrel
    by_cases hlt : k < N
    · have hlt' : (k : Int) < (N : Int) := by omega
      have hkb : (k : Int) ≤ 5000 := by omega
      obtain ⟨e0, g2, off2, hda, hg2, q1, q2, q3, hjl⟩ := idCell (HA.out.below hB.out) k hlt
      obtain ⟨⟨y1, y2, y3⟩, hX⟩ : ∃ X, a.getD k (0, 0, 0) = X := ⟨_, rfl⟩
      rw [hX] at q1 q2 q3
      have hT := take_filter a b k hjl _ hX
      have hcl := HHAS.out y1 y2 y3 wr hB.out
      have hle : ((a.take k).filter fun x => !hasI b x).length + 1 ≤ 1000000 := by
        have h1 := List.length_filter_le (fun x => !hasI b x) (a.take k)
        have h2 := List.length_take_le k a
        omega
      obtain ⟨S, hS⟩ : ∃ S, (a.take k).filter (fun x => !hasI b x) = S := ⟨_, rfl⟩
      rw [hS] at hT hle
      have hO' := hO.out
      rw [hS] at hO'
      have HO := Lib.hid hO'
      obtain ⟨b0, hb0⟩ : ∃ b0, hasI b (y1, y2, y3) = b0 := ⟨_, rfl⟩
      rw [hb0] at hT hcl
      have HT := Lib.hid hT
      have HC := Lib.hid hcl
      subst hda
      clear hX hjl e0 hcl hO hO' hS hT hb0
      cases b0 with
      | true =>
        go_wp2_with fail
        refine HC.out.mono ?_
        rintro e w2 ⟨rfl, hb2⟩
        have O2 : Hid (IK.Own w2 w.heap.size vo ((a.take (k + 1)).filter fun x => !hasI b x)) := Lib.hid (by rw [HT.out]; simpa using HO.out.below hb2)
        have B2 : Hid (Below w.heap.size w w2) := Lib.hid (hB.out.trans (hb2.mono hB.out.size))
        clear hb2 hB HC q1 q2 q3 HO HT
        go_wp2
        go_roundw
        case rel => exact ⟨k + 1, vo, by omega, rfl, by go_num, O2, B2⟩
        case measure => simp [intOf]; omega
      | false =>
        go_wp2_with fail
        refine HC.out.mono ?_
        rintro e w2 ⟨rfl, hb2⟩
        have O2 := Lib.hid (HO.out.below hb2)
        have B2 : Hid (Below w.heap.size w w2) := Lib.hid (hB.out.trans (hb2.mono hB.out.size))
        have q1' := (hb2.cell (p := ⟨g2, off2 + k * 3, none⟩) hg2).trans q1
        have q2' := (hb2.cell (p := ⟨g2, off2 + k * 3 + 1, none⟩) hg2).trans q2
        have q3' := (hb2.cell (p := ⟨g2, off2 + k * 3 + 2, none⟩) hg2).trans q3
        have hz2 := B2.out.size
        clear hb2 hB HC q1 q2 q3 HO
        go_wp2_with (refine IK.app rfl _ _ rfl w.heap.size vo S rfl ?own _ [(y1, y2, y3)] rfl ?rd hle ?bs ?_)
        case own => exact O2.out.below ((Below.refl _ _).alloc (Nat.le_refl _) _)
        case rd => exact IK.rd_boxAt (y1, y2, y3) _ 1 _ _ (by simp)
        case bs => first | omega | (simp; omega) | fail
        intro v3 w3 ho hb hg hn
        have O3 : Hid (IK.Own w3 w.heap.size v3 ((a.take (k + 1)).filter fun x => !hasI b x)) := Lib.hid (by rw [HT.out]; simpa using ho)
        have B3 : Hid (Below w.heap.size w w3) := Lib.hid ((B2.out.alloc hz2 _).trans hb)
        clear ho hb hg hn O2 B2 HT q1' q2' q3'
        go_wp2
        go_roundw
        case rel => exact ⟨k + 1, v3, by omega, rfl, by go_num, O3, B3⟩
        case measure => simp [intOf]; omega
    · obtain rfl : k = N := by omega
      have hO2 := hO.out
      rw [List.take_of_length_le (by rw [HN.out]; exact Nat.le_refl _)] at hO2
      have HCL := Lib.hid (rclean_any vo _ wr hO2.rd (by have := List.length_filter_le (fun x => !hasI b x) a; have := HN.out; omega))
      obtain ⟨a2, c2, e2⟩ := hO2.slice
      subst e2
      have hzz := Lib.hid hB.out.size
      clear hO hO2
      go_wp2_with fail
      refine HCL.out.mono ?_
      rintro e w3 ⟨v3, he, ho3, hb3⟩
      rw [he.out]
      have O3 := Lib.hid (ho3.base hzz.out)
      have B3 := Lib.hid (hB.out.trans (hb3.mono hzz.out))
      clear ho3 hb3 he HCL hB
      go_wp2
      go_ret
      exact ⟨_, Lib.hid rfl, O3.out, B3.out⟩
end Go.Proofs.YtmkmdgehgllnbaaDoor
