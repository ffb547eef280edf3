/-
  The walk of package attr's fold.
-/
import Derived.Test.YtplplehfkfjhnaaAt0
import Derived.Test.YtplplehfkfjhnaaIds9
namespace Go.Proofs.Ytplplehfkfjhnaa
open Go.RowKit
set_option linter.unusedSimpArgs false
set_option linter.unusedVariables false

abbrev aT : TypeId := 36
/-- A row of one's own behind other blocks. -/
theorem Knd.Own.setLow {P : Program} {α : Type} {K : Knd P α} {w : World} {base : Nat} {v : Value} {l : List α} (h : K.Own w base v l) {b : Nat} (hb : b < base) (o : Nat) (u : Value) : K.Own (w.setCell ⟨b, o, none⟩ u) base v l :=
  h.keepB fun k hk => Below.heap_setCell _ _ _ k (by have := h.from k hk; show k ≠ b; omega)
theorem Knd.Rd.setOther {P : Program} {α : Type} {K : Knd P α} {w : World} {v : Value} {l : List α} (h : K.Rd w v l) (N : Nat) (hN : ∀ g off, v = .slice (some ⟨g, off, none⟩) l.length 0 → g < N) : True := trivial
/-- An attribute with a row of its own. -/
def AttP (a : At) (w : World) (e : Ending) (w' : World) : Prop := ∃ v', Hid (e = .returned (.agg #[.int .i64 a.1, v'])) ∧ IK.Own w' w.heap.size v' a.2 ∧ Below w.heap.size w w'
theorem atCell {w : World} {a : Option Addr} {n c : Nat} {rs : List (Cls 2)} {l : List At} (h : RowIs AtK atS w (.slice a n c) rs l) (k : Nat) (hk : k < n) : n = l.length ∧ ∃ (hl : k < l.length) (g off : Nat) (v : Value), a = some ⟨g, off, none⟩ ∧ g < w.heap.size ∧
    w.cell? ⟨g, off + k * 2, none⟩ = some (.int .i64 l[k].1) ∧ w.cell? ⟨g, off + k * 2 + 1, none⟩ = some v ∧ IK.Rd w v l[k].2 ∧ okL l[k].2 := by
  obtain ⟨hn, hl, g, off, cs, ha, hg, ⟨v, hcs, h1, h2⟩, hc⟩ := h.el rfl k hk
  subst hcs
  exact ⟨hn, hl, g, off, v, ha, hg, hc 0 _ rfl, hc 1 _ rfl, h1, h2⟩
theorem dpA_take (l : List At) (k : Nat) : (dpA (l.take k)).length ≤ (dpA l).length := by
  unfold dpA
  conv => rhs; rw [← List.take_append_drop k l]
  rw [List.flatMap_append, List.length_append]
  omega
set_option maxRecDepth 100000 in
set_option maxHeartbeats 4000000 in
theorem fold_any (v : Value) (rs : List (Cls 2)) (l : List At) (w : World) (h : RowIs AtK atS w v rs l) (hl : l.length ≤ 100) (hd : (dpA l).length ≤ 3000) :
    Calls Try.prog 57 #[v] w (AttP (allA l) w) := by
  obtain ⟨a, c, e⟩ := h.rd.slice
  subst e
  obtain ⟨N, hN⟩ : ∃ N, l.length = N := ⟨_, rfl⟩
  have hlen := h.len
  rw [hN] at hlen hl
  rw [hlen] at h ⊢
  have HN := Lib.hid hN
  have H := Lib.hid h
  have HDL := Lib.hid hd
  have hOK : okL (dpA l) := by
    intro x hx
    unfold dpA at hx
    rw [List.mem_flatMap] at hx
    obtain ⟨y, hy, hx⟩ := hx
    obtain ⟨j, hj, rfl⟩ := List.mem_iff_getElem.1 hy
    obtain ⟨_, _, _, h2⟩ := h.at' j (by rw [h.len]; exact hj) hj
    exact h2 x hx
  have HOK := Lib.hid hOK
  obtain ⟨A, hA⟩ : ∃ A, w.heap.size + 1 = A := ⟨_, rfl⟩
  obtain ⟨B, hB⟩ : ∃ B, A + 1 = B := ⟨_, rfl⟩
  obtain ⟨X, hX⟩ : ∃ X, (w.alloc (.cells #[.int .i64 0, .slice none 0 0] aT)).alloc (.cells #[.int .i64 0, .slice none 0 0] aT) = X := ⟨_, rfl⟩
  have hzX : X.heap.size = B := by rw [← hX, ← hB, ← hA]; simp
  have HBX : Hid (Below w.heap.size w X) := Lib.hid (by rw [← hX]; exact ((Below.refl _ _).alloc (Nat.le_refl _) _).alloc (by simp) _)
  have HR : Hid (Bk X w.heap.size aT [.int .i64 0, .slice none 0 0]) := Lib.hid (by rw [← hX]; exact (Bk.new w aT _).old _)
  have HA : Hid (Bk X A aT [.int .i64 0, .slice none 0 0]) := Lib.hid (by rw [← hX, ← hA]; have := Bk.new (w.alloc (.cells #[.int .i64 0, .slice none 0 0] aT)) aT [.int .i64 0, .slice none 0 0]; rwa [World.size_alloc] at this)
  have HZ := Lib.hid (show w.heap.size < A ∧ A < B ∧ X.heap.size = B by omega)
  clear h hN hlen hOK hd hzX
  go_enter Try.func57, Try.ntmps57
  go_wp2_with fail
  clear hX hA hB
  go_loopw [8] (fun i wr => ∃ (k : Nat) (v : Value), k ≤ N ∧ i = .int .i64 k ∧ Hid (Bk wr A aT [.int .i64 (sqA (l.take k)), v]) ∧ Hid (Bk wr w.heap.size aT [.int .i64 0, .slice none 0 0]) ∧ Hid (IK.Own wr B v (dpA (l.take k))) ∧ Hid (Below w.heap.size w wr) ∧ Hid (B ≤ wr.heap.size)) (fun i _ => N - (intOf i).toNat)
  case atStart => exact ⟨0, _, Nat.zero_le _, rfl, HA, HR, Lib.hid (Knd.Own.nil X B), HBX, Lib.hid (by rw [HZ.out.2.2]; exact Nat.le_refl _)⟩
  case round =>
    clear HA HR HBX
    obtain ⟨k, v, hk, rfl, hA, hR, hO, hB, hZ⟩ := hrel
    obtain ⟨va, vc, hve⟩ := hO.out.slice
    by_cases hlt : k < N
    · have hlt' : (k : Int) < (N : Int) := by omega
      have hkb : (k : Int) ≤ 100 := by omega
      obtain ⟨e0, hkl, g2, off2, v2, hda, hg2, q1, q2, hrd, hok⟩ := atCell H.out k hlt
      subst hda
      replace q1 := (hB.out.cell (p := ⟨g2, off2 + k * 2, none⟩) hg2).trans q1
      replace q2 := (hB.out.cell (p := ⟨g2, off2 + k * 2 + 1, none⟩) hg2).trans q2
      replace hg2 : g2 < wr.heap.size := Nat.lt_of_lt_of_le hg2 hB.out.size
      obtain ⟨⟨s2, d2⟩, hX2⟩ : ∃ x, l[k] = x := ⟨_, rfl⟩
      rw [hX2] at q1 hrd hok
      have hts : l.take (k + 1) = l.take k ++ [(s2, d2)] := by rw [List.take_succ_eq_append_getElem hkl, hX2]
      have HTS := Lib.hid hts
      have hdl : (dpA (l.take k)).length + d2.length ≤ 3000 := by
        have h1 := dpA_take l (k + 1)
        have h2 := HDL.out
        rw [hts, dpA_snoc, List.length_append] at h1
        simp only at h1
        omega
      have HDN := Lib.hid hdl
      obtain ⟨M, hM⟩ : ∃ M, (dpA (l.take k)).length = M := ⟨_, rfl⟩
      obtain ⟨M2, hM2⟩ : ∃ M2, d2.length = M2 := ⟨_, rfl⟩
      obtain ⟨S, hS⟩ : ∃ S, sqA (l.take k) = S := ⟨_, rfl⟩
      have HS := Lib.hid hS
      have HLT : Hid (l.take k = [] ↔ k = 0) := Lib.hid (by
        rw [← List.length_eq_zero_iff, List.length_take]
        omega)
      rw [hS] at hA
      rw [hM] at hve
      subst hve
      obtain ⟨a2, c2, hv2⟩ := hrd.slice
      simp only at hv2
      rw [hM2] at hv2
      subst hv2
      have HRD : Hid (IK.Rd w (.slice a2 M2 c2) d2) := Lib.hid hrd
      have HB0 := Lib.hid hB.out.size
      have HO0 := Lib.hid hO.out
      have c0 := hA.out.cell 0
      have c1 := hA.out.cell 1
      simp only [List.getElem?_cons_zero, List.getElem?_cons_succ] at c0 c1
      have f0 := hA.out.fz 0
      have f1 := hA.out.fz 1
      have z1 : A < wr.heap.size := hA.out.lt
      clear hM hM2 hS hX2 hrd hok e0 hdl hts
      cases g0 : ((k : Int) == 0) with
      | true =>
        have HK0 : Hid (k = 0) := Lib.hid (by simp at g0; omega)
        have HSQ : Hid (sqA (l.take (k + 1)) = s2) := Lib.hid (by rw [HTS.out, sqA_snoc, HS.out]; rw [if_pos (.inl (HLT.out.2 HK0.out))])
        have HWB : Hid (Below w.heap.size w ((wr.setCell ⟨A, 0, none⟩ (.int .i64 s2)).alloc (.cells #[.int .i64 s2, .slice a2 M2 c2] aT))) := Lib.hid ((hB.out.setCell (by have := HZ.out; show w.heap.size ≤ A; omega) _).alloc (by have := HB0.out; simp; try omega) _)
        have HWO : Hid (IK.Own ((wr.setCell ⟨A, 0, none⟩ (.int .i64 s2)).alloc (.cells #[.int .i64 s2, .slice a2 M2 c2] aT)) B (.slice va M vc) (dpA (l.take k))) := Lib.hid ((HO0.out.setLow (by have := HZ.out; omega) _ _).below ((Below.refl _ _).alloc (Nat.le_refl _) _))
        have HWA : Hid (Bk ((wr.setCell ⟨A, 0, none⟩ (.int .i64 s2)).alloc (.cells #[.int .i64 s2, .slice a2 M2 c2] aT)) A aT [.int .i64 s2, .slice va M vc]) := Lib.hid ((hA.out.set 0 (.int .i64 s2)).old _)
        have HWR : Hid (Bk ((wr.setCell ⟨A, 0, none⟩ (.int .i64 s2)).alloc (.cells #[.int .i64 s2, .slice a2 M2 c2] aT)) w.heap.size aT [.int .i64 0, .slice none 0 0]) := Lib.hid ((hR.out.other (by have := HZ.out; omega) _ _).old _)
        have HWD := Lib.hid (HRD.out.below HWB.out)
        have HWZ : Hid (B ≤ ((wr.setCell ⟨A, 0, none⟩ (.int .i64 s2)).alloc (.cells #[.int .i64 s2, .slice a2 M2 c2] aT)).heap.size) := Lib.hid (by have := hZ.out; simp; omega)
        clear hO hA hR hB hZ HO0 HB0 HRD
        go_wp2_with (refine IK.app rfl _ _ rfl B _ (dpA (l.take k)) rfl HWO.out _ d2 rfl HWD.out (by have := HDN.out; omega) HWZ.out ?_)
        intro v' w' ho hb hg _
        obtain ⟨a3, c3, hv3⟩ := ho.slice
        obtain ⟨M3, hM3⟩ : ∃ M3, (dpA (l.take k) ++ d2).length = M3 := ⟨_, rfl⟩
        rw [hM3] at hv3
        subst hv3
        have HO : Hid (IK.Own w' B (.slice a3 M3 c3) (dpA (l.take (k + 1)))) := Lib.hid (by rw [HTS.out, dpA_snoc]; exact ho)
        have hA2 := HWA.out.on hb (by have := HZ.out; omega)
        have HR2 := Lib.hid (HWR.out.on hb (by have := HZ.out; omega))
        have HB2 := Lib.hid (HWB.out.trans (hb.mono (by have := HZ.out; omega)))
        have HZ2 : Hid (B ≤ w'.heap.size) := Lib.hid (Nat.le_trans HWZ.out hb.size)
        have HA2 := Lib.hid hA2
        have c0 := hA2.cell 0
        have c1 := hA2.cell 1
        simp only [List.getElem?_cons_zero, List.getElem?_cons_succ] at c0 c1
        have f0 := hA2.fz 0
        have f1 := hA2.fz 1
        have z1 : A < w'.heap.size := hA2.lt
        clear ho hb hg hM3 hA2 HWB HWO HWA HWR HWD HWZ
        go_wp2
        go_roundw
        case rel => exact ⟨k + 1, _, by omega, by go_num, by rw [HSQ.out]; exact Lib.hid (HA2.out.set 1 (.slice a3 M3 c3)), Lib.hid (HR2.out.other (by have := HZ.out; omega) _ _), Lib.hid (HO.out.setLow (by have := HZ.out; omega) _ _), Lib.hid (HB2.out.setCell (by have := HZ.out; show w.heap.size ≤ A; omega) _), Lib.hid (by have := HZ2.out; simp; omega)⟩
        case measure => simp [intOf]; omega
      | false =>
        have HK0 : Hid (k ≠ 0) := Lib.hid (by simp at g0; omega)
        by_cases hs : S < s2
        · have g1 : decide (S < s2) = true := decide_eq_true hs
          have HSS := Lib.hid hs
          clear hs
          have HSQ : Hid (sqA (l.take (k + 1)) = s2) := Lib.hid (by rw [HTS.out, sqA_snoc, HS.out]; rw [if_pos (.inr HSS.out)])
          have HWB : Hid (Below w.heap.size w ((wr.setCell ⟨A, 0, none⟩ (.int .i64 s2)).alloc (.cells #[.int .i64 s2, .slice a2 M2 c2] aT))) := Lib.hid ((hB.out.setCell (by have := HZ.out; show w.heap.size ≤ A; omega) _).alloc (by have := HB0.out; simp; try omega) _)
          have HWO : Hid (IK.Own ((wr.setCell ⟨A, 0, none⟩ (.int .i64 s2)).alloc (.cells #[.int .i64 s2, .slice a2 M2 c2] aT)) B (.slice va M vc) (dpA (l.take k))) := Lib.hid ((HO0.out.setLow (by have := HZ.out; omega) _ _).below ((Below.refl _ _).alloc (Nat.le_refl _) _))
          have HWA : Hid (Bk ((wr.setCell ⟨A, 0, none⟩ (.int .i64 s2)).alloc (.cells #[.int .i64 s2, .slice a2 M2 c2] aT)) A aT [.int .i64 s2, .slice va M vc]) := Lib.hid ((hA.out.set 0 (.int .i64 s2)).old _)
          have HWR : Hid (Bk ((wr.setCell ⟨A, 0, none⟩ (.int .i64 s2)).alloc (.cells #[.int .i64 s2, .slice a2 M2 c2] aT)) w.heap.size aT [.int .i64 0, .slice none 0 0]) := Lib.hid ((hR.out.other (by have := HZ.out; omega) _ _).old _)
          have HWD := Lib.hid (HRD.out.below HWB.out)
          have HWZ : Hid (B ≤ ((wr.setCell ⟨A, 0, none⟩ (.int .i64 s2)).alloc (.cells #[.int .i64 s2, .slice a2 M2 c2] aT)).heap.size) := Lib.hid (by have := hZ.out; simp; omega)
          clear hO hA hR hB hZ HO0 HB0 HRD
          go_wp2_with (refine IK.app rfl _ _ rfl B _ (dpA (l.take k)) rfl HWO.out _ d2 rfl HWD.out (by have := HDN.out; omega) HWZ.out ?_)
          intro v' w' ho hb hg _
          obtain ⟨a3, c3, hv3⟩ := ho.slice
          obtain ⟨M3, hM3⟩ : ∃ M3, (dpA (l.take k) ++ d2).length = M3 := ⟨_, rfl⟩
          rw [hM3] at hv3
          subst hv3
          have HO : Hid (IK.Own w' B (.slice a3 M3 c3) (dpA (l.take (k + 1)))) := Lib.hid (by rw [HTS.out, dpA_snoc]; exact ho)
          have hA2 := HWA.out.on hb (by have := HZ.out; omega)
          have HR2 := Lib.hid (HWR.out.on hb (by have := HZ.out; omega))
          have HB2 := Lib.hid (HWB.out.trans (hb.mono (by have := HZ.out; omega)))
          have HZ2 : Hid (B ≤ w'.heap.size) := Lib.hid (Nat.le_trans HWZ.out hb.size)
          have HA2 := Lib.hid hA2
          have c0 := hA2.cell 0
          have c1 := hA2.cell 1
          simp only [List.getElem?_cons_zero, List.getElem?_cons_succ] at c0 c1
          have f0 := hA2.fz 0
          have f1 := hA2.fz 1
          have z1 : A < w'.heap.size := hA2.lt
          clear ho hb hg hM3 hA2 HWB HWO HWA HWR HWD HWZ
          go_wp2
          go_roundw
          case rel => exact ⟨k + 1, _, by omega, by go_num, by rw [HSQ.out]; exact Lib.hid (HA2.out.set 1 (.slice a3 M3 c3)), Lib.hid (HR2.out.other (by have := HZ.out; omega) _ _), Lib.hid (HO.out.setLow (by have := HZ.out; omega) _ _), Lib.hid (HB2.out.setCell (by have := HZ.out; show w.heap.size ≤ A; omega) _), Lib.hid (by have := HZ2.out; simp; omega)⟩
          case measure => simp [intOf]; omega
        · have g1 : decide (S < s2) = false := decide_eq_false hs
          have HSS := Lib.hid hs
          clear hs
          have HSQ : Hid (sqA (l.take (k + 1)) = S) := Lib.hid (by rw [HTS.out, sqA_snoc, HS.out]; rw [if_neg (fun q => q.elim (fun q => HK0.out (HLT.out.1 q)) HSS.out)])
          have HWB : Hid (Below w.heap.size w ((wr).alloc (.cells #[.int .i64 s2, .slice a2 M2 c2] aT))) := Lib.hid (hB.out.alloc (by have := HB0.out; simp; try omega) _)
          have HWO : Hid (IK.Own ((wr).alloc (.cells #[.int .i64 s2, .slice a2 M2 c2] aT)) B (.slice va M vc) (dpA (l.take k))) := Lib.hid (HO0.out.below ((Below.refl _ _).alloc (Nat.le_refl _) _))
          have HWA : Hid (Bk ((wr).alloc (.cells #[.int .i64 s2, .slice a2 M2 c2] aT)) A aT [.int .i64 S, .slice va M vc]) := Lib.hid (hA.out.old _)
          have HWR : Hid (Bk ((wr).alloc (.cells #[.int .i64 s2, .slice a2 M2 c2] aT)) w.heap.size aT [.int .i64 0, .slice none 0 0]) := Lib.hid (hR.out.old _)
          have HWD := Lib.hid (HRD.out.below HWB.out)
          have HWZ : Hid (B ≤ ((wr).alloc (.cells #[.int .i64 s2, .slice a2 M2 c2] aT)).heap.size) := Lib.hid (by have := hZ.out; simp; omega)
          clear hO hA hR hB hZ HO0 HB0 HRD
          go_wp2_with (refine IK.app rfl _ _ rfl B _ (dpA (l.take k)) rfl HWO.out _ d2 rfl HWD.out (by have := HDN.out; omega) HWZ.out ?_)
          intro v' w' ho hb hg _
          obtain ⟨a3, c3, hv3⟩ := ho.slice
          obtain ⟨M3, hM3⟩ : ∃ M3, (dpA (l.take k) ++ d2).length = M3 := ⟨_, rfl⟩
          rw [hM3] at hv3
          subst hv3
          have HO : Hid (IK.Own w' B (.slice a3 M3 c3) (dpA (l.take (k + 1)))) := Lib.hid (by rw [HTS.out, dpA_snoc]; exact ho)
          have hA2 := HWA.out.on hb (by have := HZ.out; omega)
          have HR2 := Lib.hid (HWR.out.on hb (by have := HZ.out; omega))
          have HB2 := Lib.hid (HWB.out.trans (hb.mono (by have := HZ.out; omega)))
          have HZ2 : Hid (B ≤ w'.heap.size) := Lib.hid (Nat.le_trans HWZ.out hb.size)
          have HA2 := Lib.hid hA2
          have c0 := hA2.cell 0
          have c1 := hA2.cell 1
          simp only [List.getElem?_cons_zero, List.getElem?_cons_succ] at c0 c1
          have f0 := hA2.fz 0
          have f1 := hA2.fz 1
          have z1 : A < w'.heap.size := hA2.lt
          clear ho hb hg hM3 hA2 HWB HWO HWA HWR HWD HWZ
          go_wp2
          go_roundw
          case rel => exact ⟨k + 1, _, by omega, by go_num, by rw [HSQ.out]; exact Lib.hid (HA2.out.set 1 (.slice a3 M3 c3)), Lib.hid (HR2.out.other (by have := HZ.out; omega) _ _), Lib.hid (HO.out.setLow (by have := HZ.out; omega) _ _), Lib.hid (HB2.out.setCell (by have := HZ.out; show w.heap.size ≤ A; omega) _), Lib.hid (by have := HZ2.out; simp; omega)⟩
          case measure => simp [intOf]; omega
    · obtain rfl : k = N := by omega
      have htk : l.take k = l := List.take_of_length_le (by rw [HN.out]; exact Nat.le_refl _)
      rw [htk] at hA hO hve
      have HC := Lib.hid (clean_any v (dpA l) wr hO.out.rd HOK.out HDL.out)
      obtain ⟨M, hM⟩ : ∃ M, (dpA l).length = M := ⟨_, rfl⟩
      rw [hM] at hve
      subst hve
      obtain ⟨S, hS⟩ : ∃ S, sqA l = S := ⟨_, rfl⟩
      have HS := Lib.hid hS
      rw [hS] at hA
      have c0 := hA.out.cell 0
      have c1 := hA.out.cell 1
      simp only [List.getElem?_cons_zero, List.getElem?_cons_succ] at c0 c1
      have HZB := Lib.hid hB.out.size
      clear hM hS htk
      go_wp2_with fail
      refine HC.out.mono ?_
      rintro e w2 ⟨v2, he, ho, hb⟩
      have he := he.out
      subst he
      obtain ⟨a2, c2, hv2⟩ := ho.slice
      obtain ⟨M2, hM2⟩ : ∃ M2, (clnI (dpA l)).length = M2 := ⟨_, rfl⟩
      rw [hM2] at hv2
      subst hv2
      have hA2 := hA.out.below hb
      have hR2 := hR.out.below hb
      have HA2 := Lib.hid hA2
      have HR2 := Lib.hid hR2
      have HO2 : Hid (IK.Own w2 B (.slice a2 M2 c2) (clnI (dpA l))) := Lib.hid (ho.base hZ.out)
      have HB2 := Lib.hid (hB.out.trans (hb.mono hB.out.size))
      have c0 := hA2.cell 0
      have c1 := hA2.cell 1
      have d0 := hR2.cell 0
      have d1 := hR2.cell 1
      simp only [List.getElem?_cons_zero, List.getElem?_cons_succ] at c0 c1 d0 d1
      have f0 : ∀ o, w2.frozen? ⟨A, o, none⟩ = false := fun o => hA2.fz o
      have f1 : ∀ o, w2.frozen? ⟨w.heap.size, o, none⟩ = false := fun o => hR2.fz o
      have z1 : A < w2.heap.size := hA2.lt
      have z2 : w.heap.size < w2.heap.size := hR2.lt
      have z3 : w.heap.size ≠ A := by have := HZ.out; omega
      have z4 : A ≠ w.heap.size := by have := HZ.out; omega
      have HM2 := Lib.hid hM2
      clear ho hb hA hO hR hB hZ hM2 HC hA2 hR2
      go_wp2
      refine bodyPost_ret (v := .agg #[.int .i64 S, .slice a2 M2 c2]) (by simp [results, Try.results57, go_sem, c0, c1, d0, d1, f0, f1, z1, z2, z3, z4]) rfl ⟨.slice a2 M2 c2, ?_, ?_, ?_⟩
      · exact Lib.hid (by show Ending.returned _ = .returned (.agg #[.int .i64 (sqA l), _]); rw [HS.out])
      · exact Knd.Own.base (((HO2.out.setLow (by have := HZ.out; omega) _ _).setLow (by have := HZ.out; omega) _ _).setLow (by have := HZ.out; omega) _ _) (by have := HZ.out; omega)
      · exact ((HB2.out.setCell (by show w.heap.size ≤ A; have := HZ.out; omega) _).setCell (Nat.le_refl _) _).setCell (Nat.le_refl _) _
end Go.Proofs.Ytplplehfkfjhnaa
