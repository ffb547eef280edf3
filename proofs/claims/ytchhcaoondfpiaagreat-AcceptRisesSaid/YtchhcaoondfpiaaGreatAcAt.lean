/-
  Texts put together: At1, At2, At3, At4.
-/
import Derived.Test.YtchhcaoondfpiaaGreatAt0
import Derived.Test.YtchhcaoondfpiaaGreatAcIb
namespace Go.Proofs.YtchhcaoondfpiaaGreat
open Go.RowKit
set_option linter.unusedSimpArgs false
set_option linter.unusedVariables false

abbrev aT : TypeId := 46
/-- A row of one's own behind other blocks. -/
theorem Knd.Own.setLow {P : Program} {α : Type} {K : Knd P α} {w : World} {base : Nat} {v : Value} {l : List α} (h : K.Own w base v l) {b : Nat} (hb : b < base) (o : Nat) (u : Value) : K.Own (w.setCell ⟨b, o, none⟩ u) base v l :=
  h.keepB fun k hk => Below.heap_setCell _ _ _ k (by have := h.from k hk; show k ≠ b; omega)
theorem Knd.Rd.setOther {P : Program} {α : Type} {K : Knd P α} {w : World} {v : Value} {l : List α} (h : K.Rd w v l) (N : Nat) (hN : ∀ g off, v = .slice (some ⟨g, off, none⟩) l.length 0 → g < N) : True := trivial
/-- An attribute with a row of its own. -/
def AttP (a : At) (w : World) (e : Ending) (w' : World) : Prop := ∃ v', Hid (e = .returned (.agg #[.int .i64 a.1, v'])) ∧ IK.Own w' w.heap.size v' a.2 ∧ Below w.heap.size w w'
theorem atCell {w : World} {a : Option Addr} {n c : Nat} {rs : List (Cls 2)} {l : List At} (h : RowIs AtK atS w (.slice a n c) rs l) (k : Nat) (hk : k < n) : n = l.length ∧ ∃ (hl : k < l.length) (g off : Nat) (v : Value), a = some ⟨g, off, none⟩ ∧ g < w.heap.size ∧
    w.cell? ⟨g, off + k * 2, none⟩ = some (.int .i64 l[k].1) ∧ w.cell? ⟨g, off + k * 2 + 1, none⟩ = some v ∧ IK.Rd w v l[k].2 ∧ okL l[k].2 := by
  obtain ⟨hn, hl, g, off, cs, ha, hg, ⟨v, hcs, h1, h2⟩, hc⟩ := h.el rfl k hk
  subst hcs
  exact ⟨hn, hl, g, off, v, ha, hg, hc 0 _ rfl, hc 1 _ rfl, h1, h2⟩
theorem dpA_take (l : List At) (k : Nat) : (dpA (l.take k)).length ≤ (dpA l).length := by
  unfold dpA
  conv => rhs; rw [← List.take_append_drop k l]
  rw [List.flatMap_append, List.length_append]
  omega
set_option maxRecDepth 100000 in
set_option maxHeartbeats 4000000 in
theorem fold_any (v : Value) (rs : List (Cls 2)) (l : List At) (w : World) (h : RowIs AtK atS w v rs l) (hl : l.length ≤ 100) (hd : (dpA l).length ≤ 1000) :
    Calls Tryz.prog 96 #[v] w (AttP (allA l) w) := by
  obtain ⟨a, c, e⟩ := h.rd.slice
  subst e
  obtain ⟨N, hN⟩ : ∃ N, l.length = N := ⟨_, rfl⟩
  have hlen := h.len
  rw [hN] at hlen hl
  rw [hlen] at h ⊢
  have HN := Lib.hid hN
  have H := Lib.hid h
  have HDL := Lib.hid hd
  have hOK : okL (dpA l) := by
    intro x hx
    unfold dpA at hx
    rw [List.mem_flatMap] at hx
    obtain ⟨y, hy, hx⟩ := hx
    obtain ⟨j, hj, rfl⟩ := List.mem_iff_getElem.1 hy
    obtain ⟨_, _, _, h2⟩ := h.at' j (by rw [h.len]; exact hj) hj
    exact h2 x hx
  have HOK := Lib.hid hOK
  obtain ⟨A, hA⟩ : ∃ A, w.heap.size + 1 = A := ⟨_, rfl⟩
  obtain ⟨B, hB⟩ : ∃ B, A + 1 = B := ⟨_, rfl⟩
  obtain ⟨X, hX⟩ : ∃ X, (w.alloc (.cells #[.int .i64 0, .slice none 0 0] aT)).alloc (.cells #[.int .i64 0, .slice none 0 0] aT) = X := ⟨_, rfl⟩
  have hzX : X.heap.size = B := by rw [← hX, ← hB, ← hA]; simp
  have HBX : Hid (Below w.heap.size w X) := Lib.hid (by rw [← hX]; exact ((Below.refl _ _).alloc (Nat.le_refl _) _).alloc (by simp) _)
  have HR : Hid (Bk X w.heap.size aT [.int .i64 0, .slice none 0 0]) := Lib.hid (by rw [← hX]; exact (Bk.new w aT _).old _)
  have HA : Hid (Bk X A aT [.int .i64 0, .slice none 0 0]) := Lib.hid (by rw [← hX, ← hA]; have := Bk.new (w.alloc (.cells #[.int .i64 0, .slice none 0 0] aT)) aT [.int .i64 0, .slice none 0 0]; rwa [World.size_alloc] at this)
  have HZ := Lib.hid (show w.heap.size < A ∧ A < B ∧ X.heap.size = B by omega)
  clear h hN hlen hOK hd hzX
  go_enter Tryz.func96, Tryz.ntmps96
  go_wp2_with fail
  clear hX hA hB
  go_loopw [8] (fun i wr => ∃ (k : Nat) (v : Value), k ≤ N ∧ i = .int .i64 k ∧ Hid (Bk wr A aT [.int .i64 (sqA (l.take k)), v]) ∧ Hid (Bk wr w.heap.size aT [.int .i64 0, .slice none 0 0]) ∧ Hid (IK.Own wr B v (dpA (l.take k))) ∧ Hid (Below w.heap.size w wr) ∧ Hid (B ≤ wr.heap.size)) (fun i _ => N - (intOf i).toNat)
  case atStart => exact ⟨0, _, Nat.zero_le _, rfl, HA, HR, Lib.hid (Knd.Own.nil X B), HBX, Lib.hid (by rw [HZ.out.2.2]; exact Nat.le_refl _)⟩
  case round =>
    clear HA HR HBX
    obtain ⟨k, v, hk, rfl, hA, hR, hO, hB, hZ⟩ := hrel
    obtain ⟨va, vc, hve⟩ := hO.out.slice
    by_cases hlt : k < N
    · have hlt' : (k : Int) < (N : Int) := by omega
      have hkb : (k : Int) ≤ 100 := by omega
      obtain ⟨e0, hkl, g2, off2, v2, hda, hg2, q1, q2, hrd, hok⟩ := atCell H.out k hlt
      subst hda
      replace q1 := (hB.out.cell (p := ⟨g2, off2 + k * 2, none⟩) hg2).trans q1
      replace q2 := (hB.out.cell (p := ⟨g2, off2 + k * 2 + 1, none⟩) hg2).trans q2
      replace hg2 : g2 < wr.heap.size := Nat.lt_of_lt_of_le hg2 hB.out.size
      obtain ⟨⟨s2, d2⟩, hX2⟩ : ∃ x, l[k] = x := ⟨_, rfl⟩
      rw [hX2] at q1 hrd hok
      have hts : l.take (k + 1) = l.take k ++ [(s2, d2)] := by rw [List.take_succ_eq_append_getElem hkl, hX2]
      have HTS := Lib.hid hts
      have hdl : (dpA (l.take k)).length + d2.length ≤ 1000 := by
        have h1 := dpA_take l (k + 1)
        have h2 := HDL.out
        rw [hts, dpA_snoc, List.length_append] at h1
        simp only at h1
        omega
      have HDN := Lib.hid hdl
      obtain ⟨M, hM⟩ : ∃ M, (dpA (l.take k)).length = M := ⟨_, rfl⟩
      obtain ⟨M2, hM2⟩ : ∃ M2, d2.length = M2 := ⟨_, rfl⟩
      obtain ⟨S, hS⟩ : ∃ S, sqA (l.take k) = S := ⟨_, rfl⟩
      have HS := Lib.hid hS
      have HLT : Hid (l.take k = [] ↔ k = 0) := Lib.hid (by
        rw [← List.length_eq_zero_iff, List.length_take]
        omega)
      rw [hS] at hA
      rw [hM] at hve
      subst hve
      obtain ⟨a2, c2, hv2⟩ := hrd.slice
      simp only at hv2
      rw [hM2] at hv2
      subst hv2
      have HRD : Hid (IK.Rd w (.slice a2 M2 c2) d2) := Lib.hid hrd
      have HB0 := Lib.hid hB.out.size
      have HO0 := Lib.hid hO.out
      have c0 := hA.out.cell 0
      have c1 := hA.out.cell 1
      simp only [List.getElem?_cons_zero, List.getElem?_cons_succ] at c0 c1
      have f0 := hA.out.fz 0
      have f1 := hA.out.fz 1
      have z1 : A < wr.heap.size := hA.out.lt
      clear hM hM2 hS hX2 hrd hok e0 hdl hts
      cases g0 : ((k : Int) == 0) with
      | true =>
        have HK0 : Hid (k = 0) := Lib.hid (by simp at g0; omega)
        have HSQ : Hid (sqA (l.take (k + 1)) = s2) := Lib.hid (by rw [HTS.out, sqA_snoc, HS.out]; rw [if_pos (.inl (HLT.out.2 HK0.out))])
        have HWB : Hid (Below w.heap.size w ((wr.setCell ⟨A, 0, none⟩ (.int .i64 s2)).alloc (.cells #[.int .i64 s2, .slice a2 M2 c2] aT))) := Lib.hid ((hB.out.setCell (by have := HZ.out; show w.heap.size ≤ A; omega) _).alloc (by have := HB0.out; simp; try omega) _)
        have HWO : Hid (IK.Own ((wr.setCell ⟨A, 0, none⟩ (.int .i64 s2)).alloc (.cells #[.int .i64 s2, .slice a2 M2 c2] aT)) B (.slice va M vc) (dpA (l.take k))) := Lib.hid ((HO0.out.setLow (by have := HZ.out; omega) _ _).below ((Below.refl _ _).alloc (Nat.le_refl _) _))
        have HWA : Hid (Bk ((wr.setCell ⟨A, 0, none⟩ (.int .i64 s2)).alloc (.cells #[.int .i64 s2, .slice a2 M2 c2] aT)) A aT [.int .i64 s2, .slice va M vc]) := Lib.hid ((hA.out.set 0 (.int .i64 s2)).old _)
        have HWR : Hid (Bk ((wr.setCell ⟨A, 0, none⟩ (.int .i64 s2)).alloc (.cells #[.int .i64 s2, .slice a2 M2 c2] aT)) w.heap.size aT [.int .i64 0, .slice none 0 0]) := Lib.hid ((hR.out.other (by have := HZ.out; omega) _ _).old _)
        have HWD := Lib.hid (HRD.out.below HWB.out)
        have HWZ : Hid (B ≤ ((wr.setCell ⟨A, 0, none⟩ (.int .i64 s2)).alloc (.cells #[.int .i64 s2, .slice a2 M2 c2] aT)).heap.size) := Lib.hid (by have := hZ.out; simp; omega)
        clear hO hA hR hB hZ HO0 HB0 HRD
        go_wp2_with (refine IK.app rfl _ _ rfl B _ (dpA (l.take k)) rfl HWO.out _ d2 rfl HWD.out (by have := HDN.out; omega) HWZ.out ?_)
        intro v' w' ho hb hg _
        obtain ⟨a3, c3, hv3⟩ := ho.slice
        obtain ⟨M3, hM3⟩ : ∃ M3, (dpA (l.take k) ++ d2).length = M3 := ⟨_, rfl⟩
        rw [hM3] at hv3
        subst hv3
        have HO : Hid (IK.Own w' B (.slice a3 M3 c3) (dpA (l.take (k + 1)))) := Lib.hid (by rw [HTS.out, dpA_snoc]; exact ho)
        have hA2 := HWA.out.on hb (by have := HZ.out; omega)
        have HR2 := Lib.hid (HWR.out.on hb (by have := HZ.out; omega))
        have HB2 := Lib.hid (HWB.out.trans (hb.mono (by have := HZ.out; omega)))
        have HZ2 : Hid (B ≤ w'.heap.size) := Lib.hid (Nat.le_trans HWZ.out hb.size)
        have HA2 := Lib.hid hA2
        have c0 := hA2.cell 0
        have c1 := hA2.cell 1
        simp only [List.getElem?_cons_zero, List.getElem?_cons_succ] at c0 c1
        have f0 := hA2.fz 0
        have f1 := hA2.fz 1
        have z1 : A < w'.heap.size := hA2.lt
        clear ho hb hg hM3 hA2 HWB HWO HWA HWR HWD HWZ
        go_wp2
        go_roundw
        case rel => exact ⟨k + 1, _, by omega, by go_num, by rw [HSQ.out]; exact Lib.hid (HA2.out.set 1 (.slice a3 M3 c3)), Lib.hid (HR2.out.other (by have := HZ.out; omega) _ _), Lib.hid (HO.out.setLow (by have := HZ.out; omega) _ _), Lib.hid (HB2.out.setCell (by have := HZ.out; show w.heap.size ≤ A; omega) _), Lib.hid (by have := HZ2.out; simp; omega)⟩
        case measure => simp [intOf]; omega
      | false =>
        have HK0 : Hid (k ≠ 0) := Lib.hid (by simp at g0; omega)
        by_cases hs : S < s2
        · have g1 : decide (S < s2) = true := decide_eq_true hs
          have HSS := Lib.hid hs
          clear hs
          have HSQ : Hid (sqA (l.take (k + 1)) = s2) := Lib.hid (by rw [HTS.out, sqA_snoc, HS.out]; rw [if_pos (.inr HSS.out)])
          have HWB : Hid (Below w.heap.size w ((wr.setCell ⟨A, 0, none⟩ (.int .i64 s2)).alloc (.cells #[.int .i64 s2, .slice a2 M2 c2] aT))) := Lib.hid ((hB.out.setCell (by have := HZ.out; show w.heap.size ≤ A; omega) _).alloc (by have := HB0.out; simp; try omega) _)
          have HWO : Hid (IK.Own ((wr.setCell ⟨A, 0, none⟩ (.int .i64 s2)).alloc (.cells #[.int .i64 s2, .slice a2 M2 c2] aT)) B (.slice va M vc) (dpA (l.take k))) := Lib.hid ((HO0.out.setLow (by have := HZ.out; omega) _ _).below ((Below.refl _ _).alloc (Nat.le_refl _) _))
          have HWA : Hid (Bk ((wr.setCell ⟨A, 0, none⟩ (.int .i64 s2)).alloc (.cells #[.int .i64 s2, .slice a2 M2 c2] aT)) A aT [.int .i64 s2, .slice va M vc]) := Lib.hid ((hA.out.set 0 (.int .i64 s2)).old _)
          have HWR : Hid (Bk ((wr.setCell ⟨A, 0, none⟩ (.int .i64 s2)).alloc (.cells #[.int .i64 s2, .slice a2 M2 c2] aT)) w.heap.size aT [.int .i64 0, .slice none 0 0]) := Lib.hid ((hR.out.other (by have := HZ.out; omega) _ _).old _)
          have HWD := Lib.hid (HRD.out.below HWB.out)
          have HWZ : Hid (B ≤ ((wr.setCell ⟨A, 0, none⟩ (.int .i64 s2)).alloc (.cells #[.int .i64 s2, .slice a2 M2 c2] aT)).heap.size) := Lib.hid (by have := hZ.out; simp; omega)
          clear hO hA hR hB hZ HO0 HB0 HRD
          go_wp2_with (refine IK.app rfl _ _ rfl B _ (dpA (l.take k)) rfl HWO.out _ d2 rfl HWD.out (by have := HDN.out; omega) HWZ.out ?_)
          intro v' w' ho hb hg _
          obtain ⟨a3, c3, hv3⟩ := ho.slice
          obtain ⟨M3, hM3⟩ : ∃ M3, (dpA (l.take k) ++ d2).length = M3 := ⟨_, rfl⟩
          rw [hM3] at hv3
          subst hv3
          have HO : Hid (IK.Own w' B (.slice a3 M3 c3) (dpA (l.take (k + 1)))) := Lib.hid (by rw [HTS.out, dpA_snoc]; exact ho)
          have hA2 := HWA.out.on hb (by have := HZ.out; omega)
          have HR2 := Lib.hid (HWR.out.on hb (by have := HZ.out; omega))
          have HB2 := Lib.hid (HWB.out.trans (hb.mono (by have := HZ.out; omega)))
          have HZ2 : Hid (B ≤ w'.heap.size) := Lib.hid (Nat.le_trans HWZ.out hb.size)
          have HA2 := Lib.hid hA2
          have c0 := hA2.cell 0
          have c1 := hA2.cell 1
          simp only [List.getElem?_cons_zero, List.getElem?_cons_succ] at c0 c1
          have f0 := hA2.fz 0
          have f1 := hA2.fz 1
          have z1 : A < w'.heap.size := hA2.lt
          clear ho hb hg hM3 hA2 HWB HWO HWA HWR HWD HWZ
          go_wp2
          go_roundw
          case rel => exact ⟨k + 1, _, by omega, by go_num, by rw [HSQ.out]; exact Lib.hid (HA2.out.set 1 (.slice a3 M3 c3)), Lib.hid (HR2.out.other (by have := HZ.out; omega) _ _), Lib.hid (HO.out.setLow (by have := HZ.out; omega) _ _), Lib.hid (HB2.out.setCell (by have := HZ.out; show w.heap.size ≤ A; omega) _), Lib.hid (by have := HZ2.out; simp; omega)⟩
          case measure => simp [intOf]; omega
        · have g1 : decide (S < s2) = false := decide_eq_false hs
          have HSS := Lib.hid hs
          clear hs
          have HSQ : Hid (sqA (l.take (k + 1)) = S) := Lib.hid (by rw [HTS.out, sqA_snoc, HS.out]; rw [if_neg (fun q => q.elim (fun q => HK0.out (HLT.out.1 q)) HSS.out)])
          have HWB : Hid (Below w.heap.size w ((wr).alloc (.cells #[.int .i64 s2, .slice a2 M2 c2] aT))) := Lib.hid (hB.out.alloc (by have := HB0.out; simp; try omega) _)
          have HWO : Hid (IK.Own ((wr).alloc (.cells #[.int .i64 s2, .slice a2 M2 c2] aT)) B (.slice va M vc) (dpA (l.take k))) := Lib.hid (HO0.out.below ((Below.refl _ _).alloc (Nat.le_refl _) _))
          have HWA : Hid (Bk ((wr).alloc (.cells #[.int .i64 s2, .slice a2 M2 c2] aT)) A aT [.int .i64 S, .slice va M vc]) := Lib.hid (hA.out.old _)
          have HWR : Hid (Bk ((wr).alloc (.cells #[.int .i64 s2, .slice a2 M2 c2] aT)) w.heap.size aT [.int .i64 0, .slice none 0 0]) := Lib.hid (hR.out.old _)
          have HWD := Lib.hid (HRD.out.below HWB.out)
          have HWZ : Hid (B ≤ ((wr).alloc (.cells #[.int .i64 s2, .slice a2 M2 c2] aT)).heap.size) := Lib.hid (by have := hZ.out; simp; omega)
          clear hO hA hR hB hZ HO0 HB0 HRD
          go_wp2_with (refine IK.app rfl _ _ rfl B _ (dpA (l.take k)) rfl HWO.out _ d2 rfl HWD.out (by have := HDN.out; omega) HWZ.out ?_)
          intro v' w' ho hb hg _
          obtain ⟨a3, c3, hv3⟩ := ho.slice
          obtain ⟨M3, hM3⟩ : ∃ M3, (dpA (l.take k) ++ d2).length = M3 := ⟨_, rfl⟩
          rw [hM3] at hv3
          subst hv3
          have HO : Hid (IK.Own w' B (.slice a3 M3 c3) (dpA (l.take (k + 1)))) := Lib.hid (by rw [HTS.out, dpA_snoc]; exact ho)
          have hA2 := HWA.out.on hb (by have := HZ.out; omega)
          have HR2 := Lib.hid (HWR.out.on hb (by have := HZ.out; omega))
          have HB2 := Lib.hid (HWB.out.trans (hb.mono (by have := HZ.out; omega)))
          have HZ2 : Hid (B ≤ w'.heap.size) := Lib.hid (Nat.le_trans HWZ.out hb.size)
          have HA2 := Lib.hid hA2
          have c0 := hA2.cell 0
          have c1 := hA2.cell 1
          simp only [List.getElem?_cons_zero, List.getElem?_cons_succ] at c0 c1
          have f0 := hA2.fz 0
          have f1 := hA2.fz 1
          have z1 : A < w'.heap.size := hA2.lt
          clear ho hb hg hM3 hA2 HWB HWO HWA HWR HWD HWZ
          go_wp2
          go_roundw
          case rel => exact ⟨k + 1, _, by omega, by go_num, by rw [HSQ.out]; exact Lib.hid (HA2.out.set 1 (.slice a3 M3 c3)), Lib.hid (HR2.out.other (by have := HZ.out; omega) _ _), Lib.hid (HO.out.setLow (by have := HZ.out; omega) _ _), Lib.hid (HB2.out.setCell (by have := HZ.out; show w.heap.size ≤ A; omega) _), Lib.hid (by have := HZ2.out; simp; omega)⟩
          case measure => simp [intOf]; omega
    · obtain rfl : k = N := by omega
      have htk : l.take k = l := List.take_of_length_le (by rw [HN.out]; exact Nat.le_refl _)
      rw [htk] at hA hO hve
      have HC := Lib.hid (clean_any v (dpA l) wr hO.out.rd HOK.out HDL.out)
      obtain ⟨M, hM⟩ : ∃ M, (dpA l).length = M := ⟨_, rfl⟩
      rw [hM] at hve
      subst hve
      obtain ⟨S, hS⟩ : ∃ S, sqA l = S := ⟨_, rfl⟩
      have HS := Lib.hid hS
      rw [hS] at hA
      have c0 := hA.out.cell 0
      have c1 := hA.out.cell 1
      simp only [List.getElem?_cons_zero, List.getElem?_cons_succ] at c0 c1
      have HZB := Lib.hid hB.out.size
      clear hM hS htk
      go_wp2_with fail
      refine HC.out.mono ?_
      rintro e w2 ⟨v2, he, ho, hb⟩
      have he := he.out
      subst he
      obtain ⟨a2, c2, hv2⟩ := ho.slice
      obtain ⟨M2, hM2⟩ : ∃ M2, (clnI (dpA l)).length = M2 := ⟨_, rfl⟩
      rw [hM2] at hv2
      subst hv2
      have hA2 := hA.out.below hb
      have hR2 := hR.out.below hb
      have HA2 := Lib.hid hA2
      have HR2 := Lib.hid hR2
      have HO2 : Hid (IK.Own w2 B (.slice a2 M2 c2) (clnI (dpA l))) := Lib.hid (ho.base hZ.out)
      have HB2 := Lib.hid (hB.out.trans (hb.mono hB.out.size))
      have c0 := hA2.cell 0
      have c1 := hA2.cell 1
      have d0 := hR2.cell 0
      have d1 := hR2.cell 1
      simp only [List.getElem?_cons_zero, List.getElem?_cons_succ] at c0 c1 d0 d1
      have f0 : ∀ o, w2.frozen? ⟨A, o, none⟩ = false := fun o => hA2.fz o
      have f1 : ∀ o, w2.frozen? ⟨w.heap.size, o, none⟩ = false := fun o => hR2.fz o
      have z1 : A < w2.heap.size := hA2.lt
      have z2 : w.heap.size < w2.heap.size := hR2.lt
      have z3 : w.heap.size ≠ A := by have := HZ.out; omega
      have z4 : A ≠ w.heap.size := by have := HZ.out; omega
      have HM2 := Lib.hid hM2
      clear ho hb hA hO hR hB hZ hM2 HC hA2 hR2
      go_wp2
      refine bodyPost_ret (v := .agg #[.int .i64 S, .slice a2 M2 c2]) (by simp [results, Tryz.results96, go_sem, c0, c1, d0, d1, f0, f1, z1, z2, z3, z4]) rfl ⟨.slice a2 M2 c2, ?_, ?_, ?_⟩
      · exact Lib.hid (by show Ending.returned _ = .returned (.agg #[.int .i64 (sqA l), _]); rw [HS.out])
      · exact Knd.Own.base (((HO2.out.setLow (by have := HZ.out; omega) _ _).setLow (by have := HZ.out; omega) _ _).setLow (by have := HZ.out; omega) _ _) (by have := HZ.out; omega)
      · exact ((HB2.out.setCell (by show w.heap.size ≤ A; have := HZ.out; omega) _).setCell (Nat.le_refl _) _).setCell (Nat.le_refl _) _
end Go.Proofs.YtchhcaoondfpiaaGreat
namespace Go.Proofs.YtchhcaoondfpiaaGreat
open Go.RowKit
set_option linter.unusedSimpArgs false
set_option linter.unusedVariables false
set_option maxRecDepth 100000

theorem below_self2 {w w1 w2 : World} (h : Below w.heap.size w w1) (k : Below w1.heap.size w1 w2) : Below w.heap.size w w2 := h.trans (k.mono h.size)
/-- A row that was just laid, of elements whose cells are known. -/
theorem rowIs_lit {P : Program} {k : Nat} {K : Knd P (Cls k)} (hE : K.enc = Cls.cs) {α : Type} {S : Shp α} (w : World) (css : List (List Value)) (l : List α) (hl : css.length = l.length) (hk : ∀ cs ∈ css, cs.length = k)
    (hs : ∀ (j : Nat) (h1 : j < css.length) (h2 : j < l.length), S.is w css[j] l[j]) (T : TypeId) (n c : Nat) (hn : l.length = n) (hm : n ≤ maxLen) (g : Nat) (hg : w.heap.size = g) :
    ∃ rs, RowIs K S (w.alloc (.cells css.flatten.toArray T)) (.slice (some ⟨g, 0, none⟩) n c) rs l := by
  obtain ⟨rs, hrs, hp⟩ := list_ofR (α := Cls k) (Pr := fun i r => ∀ h : i < css.length, r.cs = css[i]) css.length (fun i hi => ⟨⟨css[i], hk _ (List.getElem_mem hi), S.one (hs i hi (by omega))⟩, fun h => rfl⟩)
  have e : K.row rs = css.flatten := by
    unfold Knd.row
    rw [hE, List.flatMap_def]
    congr 1
    refine List.ext_getElem (by simp [hrs]) fun j h1 h2 => ?_
    simp only [List.getElem_map]
    exact hp j (by simpa using h1) h2
  refine ⟨rs, ?_, by omega, fun j h1 h2 => ?_⟩
  · have := K.rd_lit rs T n c (by omega) hm w g hg
    rwa [e] at this
  · rw [hp j h1 (by omega)]
    exact S.keep (hs j _ h2) ((Below.refl _ _).alloc (Nat.le_refl _) _)
theorem Bk.newAt {w : World} {g : Nat} (hg : w.heap.size = g) (T : TypeId) (cs : List Value) : Bk (w.alloc (.cells cs.toArray T)) g T cs := by subst hg; exact Bk.new w T cs
theorem al1 (w : World) (a : Obj) : Below w.heap.size w (w.alloc a) := (Below.refl _ _).alloc (Nat.le_refl _) _
theorem al2 (w : World) (a b : Obj) : Below w.heap.size w ((w.alloc a).alloc b) := (al1 w a).alloc (by simp) _
theorem al3 (w : World) (a b c : Obj) : Below w.heap.size w (((w.alloc a).alloc b).alloc c) := (al2 w a b).alloc (by simp; omega) _
theorem al4 (w : World) (a b c d : Obj) : Below w.heap.size w ((((w.alloc a).alloc b).alloc c).alloc d) := (al3 w a b c).alloc (by simp; omega) _
theorem fold_lit2 (W : World) (g : Nat) (hg : W.heap.size = g) (s1 s2 : Int) (v1 v2 : Value) (l1 l2 : List I3) (h1 : IK.Rd W v1 l1) (o1 : okL l1) (h2 : IK.Rd W v2 l2) (o2 : okL l2) (hl : l1.length + l2.length ≤ 1000) :
    Calls Tryz.prog 96 #[.slice (some ⟨g, 0, none⟩) 2 2] (W.alloc (.cells #[.int .i64 s1, v1, .int .i64 s2, v2] aT)) (AttP (mrgA (s1, l1) (s2, l2)) (W.alloc (.cells #[.int .i64 s1, v1, .int .i64 s2, v2] aT))) := by
  obtain ⟨rs, hr⟩ := rowIs_lit (K := AtK) (S := atS) rfl W [[.int .i64 s1, v1], [.int .i64 s2, v2]] [(s1, l1), (s2, l2)] rfl (by simp) (fun j q1 q2 => by
    obtain rfl | rfl : j = 0 ∨ j = 1 := by simp at q2; omega
    · exact ⟨v1, rfl, h1, o1⟩
    · exact ⟨v2, rfl, h2, o2⟩) aT 2 2 rfl (by simp [maxLen]) g hg
  exact fold_any _ rs _ _ hr (by simp) (by simp [dpA]; omega)
theorem fold_lit3 (W : World) (g : Nat) (hg : W.heap.size = g) (s1 s2 s3 : Int) (v1 v2 v3 : Value) (l1 l2 l3 : List I3) (h1 : IK.Rd W v1 l1) (o1 : okL l1) (h2 : IK.Rd W v2 l2) (o2 : okL l2) (h3 : IK.Rd W v3 l3) (o3 : okL l3) (hl : l1.length + l2.length + l3.length ≤ 1000) :
    ∃ rs, RowIs AtK atS (W.alloc (.cells #[.int .i64 s1, v1, .int .i64 s2, v2, .int .i64 s3, v3] aT)) (.slice (some ⟨g, 0, none⟩) 3 3) rs [(s1, l1), (s2, l2), (s3, l3)] := by
  obtain ⟨rs, hr⟩ := rowIs_lit (K := AtK) (S := atS) rfl W [[.int .i64 s1, v1], [.int .i64 s2, v2], [.int .i64 s3, v3]] [(s1, l1), (s2, l2), (s3, l3)] rfl (by simp) (fun j q1 q2 => by
    obtain rfl | rfl | rfl : j = 0 ∨ j = 1 ∨ j = 2 := by simp at q2; omega
    · exact ⟨v1, rfl, h1, o1⟩
    · exact ⟨v2, rfl, h2, o2⟩
    · exact ⟨v3, rfl, h3, o3⟩) aT 3 3 rfl (by simp [maxLen]) g hg
  exact ⟨rs, hr⟩
theorem row_lit2 (W : World) (g : Nat) (hg : W.heap.size = g) (s1 s2 : Int) (v1 v2 : Value) (l1 l2 : List I3) (h1 : IK.Rd W v1 l1) (o1 : okL l1) (h2 : IK.Rd W v2 l2) (o2 : okL l2) :
    ∃ rs, RowIs AtK atS (W.alloc (.cells #[.int .i64 s1, v1, .int .i64 s2, v2] aT)) (.slice (some ⟨g, 0, none⟩) 2 2) rs [(s1, l1), (s2, l2)] := by
  obtain ⟨rs, hr⟩ := rowIs_lit (K := AtK) (S := atS) rfl W [[.int .i64 s1, v1], [.int .i64 s2, v2]] [(s1, l1), (s2, l2)] rfl (by simp) (fun j q1 q2 => by
    obtain rfl | rfl : j = 0 ∨ j = 1 := by simp at q2; omega
    · exact ⟨v1, rfl, h1, o1⟩
    · exact ⟨v2, rfl, h2, o2⟩) aT 2 2 rfl (by simp [maxLen]) g hg
  exact ⟨rs, hr⟩
set_option maxHeartbeats 1000000 in
theorem merge_any (s1 s2 : Int) (v1 v2 : Value) (l1 l2 : List I3) (w : World) (h1 : IK.Rd w v1 l1) (o1 : okL l1) (h2 : IK.Rd w v2 l2) (o2 : okL l2) (hl : l1.length + l2.length ≤ 1000) :
    Calls Tryz.prog 87 #[.agg #[.int .i64 s1, v1], .agg #[.int .i64 s2, v2]] w (AttP (mrgA (s1, l1) (s2, l2)) w) := by
  obtain ⟨a1, c1, e1⟩ := h1.slice
  obtain ⟨a2, c2, e2⟩ := h2.slice
  subst e1
  subst e2
  have H1 := Lib.hid h1
  have H2 := Lib.hid h2
  obtain ⟨N1, hN1⟩ : ∃ N1, l1.length = N1 := ⟨_, rfl⟩
  obtain ⟨N2, hN2⟩ : ∃ N2, l2.length = N2 := ⟨_, rfl⟩
  rw [hN1] at H1 ⊢
  rw [hN2] at H2 ⊢
  have HL : Hid (l1.length + l2.length ≤ 1000) := Lib.hid hl
  clear h1 h2 hN1 hN2 hl
  go_enter Tryz.func87, Tryz.ntmps87
  go_wp2_with fail
  refine (fold_lit2 _ _ (by simp) s1 s2 _ _ l1 l2 (H1.out.below (al3 _ _ _ _)) o1 (H2.out.below (al3 _ _ _ _)) o2 HL.out).mono ?_
  rintro e w1 ⟨v', he, ho, hb⟩
  have he := he.out
  subst he
  obtain ⟨a3, c3, hv3⟩ := ho.slice
  obtain ⟨N3, hN3⟩ : ∃ N3, (mrgA (s1, l1) (s2, l2)).2.length = N3 := ⟨_, rfl⟩
  rw [hN3] at hv3
  subst hv3
  have hR : Bk w1 (w.heap.size + 1 + 1) aT [.int .i64 0, .slice none 0 0] := Bk.below ((Bk.newAt (by simp) aT _).old _) hb
  have hB : Below w.heap.size w w1 := (al4 _ _ _ _ _).trans (hb.mono (by simp; omega))
  have c0 := hR.cell 0
  have c1 := hR.cell 1
  simp only [List.getElem?_cons_zero, List.getElem?_cons_succ] at c0 c1
  have f1 : ∀ o, w1.frozen? ⟨w.heap.size + 1 + 1, o, none⟩ = false := fun o => hR.fz o
  have z1 : w.heap.size + 1 + 1 < w1.heap.size := hR.lt
  have HO : Hid (IK.Own w1 (w.heap.size + 4) (.slice a3 N3 c3) (mrgA (s1, l1) (s2, l2)).2) := Lib.hid (ho.base (by simp))
  have HB := Lib.hid hB
  obtain ⟨S, hS⟩ : ∃ S, (mrgA (s1, l1) (s2, l2)).1 = S := ⟨_, rfl⟩
  rw [hS]
  have HS := Lib.hid hS
  clear ho hb hR hB hN3 hS
  go_wp2
  refine bodyPost_ret (v := .agg #[.int .i64 S, .slice a3 N3 c3]) (by simp [results, Tryz.results87, go_sem, c0, c1, f1, z1]) rfl ⟨.slice a3 N3 c3, ?_, ?_, ?_⟩
  · exact Lib.hid (by rw [HS.out])
  · exact Knd.Own.base ((HO.out.setLow (by omega) _ _).setLow (by omega) _ _) (by omega)
  · exact (HB.out.setCell (by show w.heap.size ≤ w.heap.size + 1 + 1; omega) _).setCell (by show w.heap.size ≤ w.heap.size + 1 + 1; omega) _
end Go.Proofs.YtchhcaoondfpiaaGreat
namespace Go.Proofs.YtchhcaoondfpiaaGreat
open Go.RowKit
set_option linter.unusedSimpArgs false
set_option linter.unusedVariables false
set_option maxRecDepth 100000

/-- A known one, as a value. -/
abbrev knV (k : Kn) (v : Value) : Value := .agg #[.int .i64 k.id.1, .int .i64 k.id.2.1, .int .i64 k.id.2.2, .int .i64 k.cm.cl, .int .i64 k.cm.sq, .int .i64 k.cm.op, .string k.cm.pa, .string k.cm.va, .int .i64 k.cm.ver, .int .i64 k.cm.a, .int .i64 k.cm.b, .int .i64 k.a.1, v]
theorem knV_eq (k : Kn) (v : Value) : knV k v = .agg (knE k v).toArray := rfl
def lnkA (k1 k2 : Kn) : Bool := hasI k2.a.2 k1.id || hasI k1.a.2 k2.id
end Go.Proofs.YtchhcaoondfpiaaGreat
namespace Go.Proofs.YtchhcaoondfpiaaGreat
open Go.RowKit
set_option linter.unusedSimpArgs false
set_option linter.unusedVariables false
set_option maxRecDepth 100000

theorem vldI3_eq (x : I3) : vldI3 x = vldI x := rfl
/-- The instance that an attribute is of, in its box. -/
def IdBox (w : World) (g : Nat) (id : I3) : Prop := Bk w g 37 (idE id)
theorem idBox_cells {w : World} {g : Nat} {i1 i2 i3 : Int} (h : IdBox w g (i1, i2, i3)) : w.cell? ⟨g, 0, none⟩ = some (.int .i64 i1) ∧ w.cell? ⟨g, 1, none⟩ = some (.int .i64 i2) ∧ w.cell? ⟨g, 2, none⟩ = some (.int .i64 i3) := ⟨h.cell 0, h.cell 1, h.cell 2⟩
set_option maxHeartbeats 1000000 in
theorem aodd_any (g : Nat) (i1 i2 i3 x1 x2 x3 : Int) (w : World) (h : IdBox w g (i1, i2, i3)) :
    Calls Tryz.prog 66 #[.agg #[.int .i64 x1, .int .i64 x2, .int .i64 x3], .pointer (some ⟨g, 0, none⟩)] w fun e w' => e = .returned (.bool (oddA (i1, i2, i3) (x1, x2, x3))) ∧ Below w.heap.size w w' := by
  have hlt := h.lt
  have H := Lib.hid h
  have HV := Lib.hid (valid_any x1 x2 x3 (w.alloc (.cells #[.int .i64 x1, .int .i64 x2, .int .i64 x3] 37)))
  unfold oddA
  rw [vldI3_eq]
  obtain ⟨V, hV⟩ : ∃ V, vldI (x1, x2, x3) = V := ⟨_, rfl⟩
  rw [hV] at HV ⊢
  simp only
  clear h hV
  cases V with
  | false =>
    simp only [Bool.not_false, Bool.true_or]
    go_enter Tryz.func66, Tryz.ntmps66
    go_wp2_with fail
    refine HV.out.mono ?_
    rintro e w1 ⟨rfl, hb⟩
    have HB := Lib.hid ((al1 _ _).trans (hb.below.mono (by simp)))
    clear hb
    go_wp2
    go_ret
    exact ⟨rfl, HB.out⟩
  | true =>
    simp only [Bool.not_true, Bool.false_or]
    obtain ⟨he, hgd⟩ := eqI_run x1 x2 x3 i1 i2 i3
    cases g1 : (x1 == i1) with
    | false =>
      have e1 : decide (x1 = i1) = false := by simpa using g1
      have g2 : (x1 != i1) = true := by simpa using g1
      simp only [e1, Bool.not_false, Bool.true_or]
      clear he hgd e1
      go_enter Tryz.func66, Tryz.ntmps66
      go_wp2_with fail
      refine HV.out.mono ?_
      rintro e w1 ⟨rfl, hb⟩
      have HB := Lib.hid ((al1 w (.cells #[.int .i64 x1, .int .i64 x2, .int .i64 x3] 37)).trans (hb.below.mono (by simp)))
      have b1 : Bk w1 w.heap.size 37 _ := Bk.below (Bk.newAt rfl _ _) hb.below
      have b2 : IdBox w1 g (i1, i2, i3) := H.out.below HB.out
      obtain ⟨q0, q1, q2⟩ := idBox_cells b2
      have p0 := b1.cell 0
      have p1 := b1.cell 1
      have p2 := b1.cell 2
      simp only [List.getElem?_cons_zero, List.getElem?_cons_succ] at p0 p1 p2
      clear hb b1 b2
      go_wp2
      go_ret
      exact ⟨rfl, HB.out⟩
    | true =>
      have e1 : decide (x1 = i1) = true := by simpa using g1
      have g2 : (x1 != i1) = false := by simp at g1; simp [g1]
      simp only [e1, Bool.not_true, Bool.false_or]
      obtain ⟨D, hD⟩ : ∃ D, decide (((x1, x2, x3) : I3) = (i1, i2, i3)) = D := ⟨_, rfl⟩
      rw [hD] at he ⊢
      clear e1 hD
      go_enter Tryz.func66, Tryz.ntmps66
      go_wp2_with fail
      refine HV.out.mono ?_
      rintro e w1 ⟨rfl, hb⟩
      have HB := Lib.hid ((al1 w (.cells #[.int .i64 x1, .int .i64 x2, .int .i64 x3] 37)).trans (hb.below.mono (by simp)))
      have b1 : Bk w1 w.heap.size 37 _ := Bk.below (Bk.newAt rfl _ _) hb.below
      have b2 : IdBox w1 g (i1, i2, i3) := H.out.below HB.out
      obtain ⟨q0, q1, q2⟩ := idBox_cells b2
      have p0 := b1.cell 0
      have p1 := b1.cell 1
      have p2 := b1.cell 2
      simp only [List.getElem?_cons_zero, List.getElem?_cons_succ] at p0 p1 p2
      clear hb b1 b2
      go_wp2
      go_ret
      exact ⟨rfl, HB.out⟩
set_option maxHeartbeats 1000000 in
theorem indexOdd_any (g : Nat) (i1 i2 i3 : Int) (v : Value) (l : List I3) (w : World) (hg : IdBox w g (i1, i2, i3)) (h : IK.Rd w v l) (hl : l.length ≤ 10000) :
    Calls Tryz.prog 84 #[v, .func (.func 66) #[] #[.pointer (some ⟨g, 0, none⟩)]] w fun e w' => ∃ r : Int, Hid (e = .returned (.int .i64 r)) ∧ (0 ≤ r ↔ l.any (oddA (i1, i2, i3)) = true) ∧ Below w.heap.size w w' := by
  obtain ⟨a, c, e⟩ := h.slice
  subst e
  obtain ⟨N, hN⟩ : ∃ N, l.length = N := ⟨_, rfl⟩
  rw [hN] at h hl ⊢
  have HN := Lib.hid hN
  have HRD := Lib.hid h
  have HG := Lib.hid hg
  clear h hg hN
  go_enter Tryz.func84, Tryz.ntmps84
  go_wp2_with fail
  go_loopw [8] (fun i wr => ∃ k : Nat, k ≤ N ∧ i = .int .i64 k ∧ Hid (Below w.heap.size w wr) ∧ Hid (∀ j, j < k → oddA (i1, i2, i3) (l.getD j (0, 0, 0)) = false)) (fun i _ => N - (intOf i).toNat)
  case atStart => exact ⟨0, Nat.zero_le _, rfl, Lib.hid (Below.refl _ _), Lib.hid (fun j hj => by omega)⟩
  case round =>
    obtain ⟨k, hk, rfl, hB, hF⟩ := hrel
    by_cases hlt : k < N
    · have hlt' : (k : Int) < (N : Int) := by omega
      have hkb : (k : Int) ≤ 10000 := by omega
      obtain ⟨e0, g2, off2, hda, hg2, q1, q2, q3, hjl⟩ := idCell (HRD.out.below hB.out) k hlt
      obtain ⟨⟨y1, y2, y3⟩, hX⟩ : ∃ X, l.getD k (0, 0, 0) = X := ⟨_, rfl⟩
      rw [hX] at q1 q2 q3
      have HX := Lib.hid hX
      have HXM := Lib.hid (getD_mem hX hjl)
      subst hda
      have HO := Lib.hid (aodd_any g i1 i2 i3 y1 y2 y3 wr (HG.out.below hB.out))
      obtain ⟨R, hR⟩ : ∃ R, oddA (i1, i2, i3) (y1, y2, y3) = R := ⟨_, rfl⟩
      rw [hR] at HO
      have HR := Lib.hid hR
      clear hX hjl e0 hR
      cases R with
      | true =>
        go_wp2_with fail
        refine HO.out.mono ?_
        rintro e w1 ⟨rfl, hb⟩
        have HB := Lib.hid (below_self2 hB.out hb)
        clear hb hB
        go_wp2
        go_ret
        exact ⟨(k : Int), Lib.hid rfl, ⟨fun _ => by rw [List.any_eq_true]; exact ⟨_, HXM.out, HR.out⟩, fun _ => by omega⟩, HB.out⟩
      | false =>
        go_wp2_with fail
        refine HO.out.mono ?_
        rintro e w1 ⟨rfl, hb⟩
        have HB := Lib.hid (below_self2 hB.out hb)
        clear hb hB
        have HF2 : Hid (∀ j, j < k + 1 → oddA (i1, i2, i3) (l.getD j (0, 0, 0)) = false) := Lib.hid (fun j hj => by
          by_cases e : j = k
          · subst e; rw [HX.out]; exact HR.out
          · exact hF.out j (by omega))
        go_wp2
        go_roundw
        case rel => exact ⟨k + 1, by omega, by go_num, HB, HF2⟩
        case measure => simp [intOf]; omega
    · obtain rfl : k = N := by omega
      go_wp2
      go_ret
      refine ⟨-1, Lib.hid rfl, ⟨fun q => by omega, fun q => ?_⟩, hB.out⟩
      rw [List.any_eq_true] at q
      obtain ⟨x, hx, hq⟩ := q
      obtain ⟨j, hj, e⟩ := List.getElem_of_mem hx
      have := hF.out j (by rw [← HN.out]; exact hj)
      rw [List.getD, List.getElem?_eq_getElem hj, Option.getD_some, e, hq] at this
      cases this
set_option maxHeartbeats 1000000 in
theorem containsOdd_any (g : Nat) (i1 i2 i3 : Int) (v : Value) (l : List I3) (w : World) (hg : IdBox w g (i1, i2, i3)) (h : IK.Rd w v l) (hl : l.length ≤ 10000) :
    Calls Tryz.prog 67 #[v, .func (.func 66) #[] #[.pointer (some ⟨g, 0, none⟩)]] w fun e w' => e = .returned (.bool (l.any (oddA (i1, i2, i3)))) ∧ Below w.heap.size w w' := by
  have HC := Lib.hid (indexOdd_any g i1 i2 i3 v l w hg h hl)
  obtain ⟨a, c, e⟩ := h.slice
  obtain ⟨N, hN⟩ : ∃ N, l.length = N := ⟨_, rfl⟩
  rw [hN] at e
  subst e
  obtain ⟨R, hR⟩ : ∃ R, l.any (oddA (i1, i2, i3)) = R := ⟨_, rfl⟩
  rw [hR] at HC ⊢
  clear h hg hR hN
  go_enter Tryz.func67, Tryz.ntmps67
  go_wp2_with fail
  refine HC.out.mono ?_
  rintro e w1 ⟨r, he, hr, hb⟩
  have he := he.out
  subst he
  have HB := Lib.hid hb
  have hd : decide (0 ≤ r) = R := by cases R <;> simp_all
  clear hb hr
  go_wp2
  go_ret
  exact ⟨ret_bool (by simp), HB.out⟩
set_option maxHeartbeats 2000000 in
theorem avalid_any (i1 i2 i3 s : Int) (v : Value) (l : List I3) (w : World) (h : IK.Rd w v l) (hl : l.length ≤ 10000) :
    Calls Tryz.prog 42 #[.agg #[.int .i64 i1, .int .i64 i2, .int .i64 i3], .agg #[.int .i64 s, v]] w fun e w' => e = .returned (.bool (vldA (i1, i2, i3) (s, l))) ∧ Below w.heap.size w w' := by
  have HRT : Hid (∀ W, Below w.heap.size w W → Calls Tryz.prog 29 #[v] W fun e w' => e = .returned (.bool (rgtI l)) ∧ Below W.heap.size W w') := Lib.hid (fun W hb => right_any v l W (h.below hb) hl)
  have HCO : Hid (∀ (W : World) (g : Nat), Below w.heap.size w W → IdBox W g (i1, i2, i3) → Calls Tryz.prog 67 #[v, .func (.func 66) #[] #[.pointer (some ⟨g, 0, none⟩)]] W fun e w' => e = .returned (.bool (l.any (oddA (i1, i2, i3)))) ∧ Below W.heap.size W w') := Lib.hid (fun W g hb hg => containsOdd_any g i1 i2 i3 v l W hg (h.below hb) hl)
  obtain ⟨a, c, e⟩ := h.slice
  obtain ⟨N, hN⟩ : ∃ N, l.length = N := ⟨_, rfl⟩
  rw [hN] at e hl
  subst e
  have hv : vldA (i1, i2, i3) (s, l) = (decide (0 ≤ s) && decide (s ≤ 1099511627776) && decide (N ≤ 1024) && rgtI l && !l.any (oddA (i1, i2, i3))) := by unfold vldA; simp only; rw [hN]
  rw [hv]
  clear h hN hv
  by_cases g1 : s < 0
  · have e1 : decide (0 ≤ s) = false := by simp; omega
    have f1 : decide (s < 0) = true := decide_eq_true g1
    simp only [e1, Bool.false_and]
    clear HRT HCO
    go_enter Tryz.func42, Tryz.ntmps42
    go_wp2
    go_ret
    exact ⟨rfl, al2 _ _ _⟩
  · have e1 : decide (0 ≤ s) = true := by simp; omega
    have f1 : decide (s < 0) = false := decide_eq_false g1
    by_cases g2 : (1099511627776 : Int) < s
    · have e2 : decide (s ≤ 1099511627776) = false := by simp; omega
      have f2 : decide ((1099511627776 : Int) < s) = true := decide_eq_true g2
      simp only [e1, e2, Bool.false_and, Bool.and_false]
      clear HRT HCO
      go_enter Tryz.func42, Tryz.ntmps42
      go_wp2
      go_ret
      exact ⟨rfl, al2 _ _ _⟩
    · have e2 : decide (s ≤ 1099511627776) = true := by simp; omega
      have f2 : decide ((1099511627776 : Int) < s) = false := decide_eq_false g2
      by_cases g3 : 1024 < N
      · have e3 : decide (N ≤ 1024) = false := by simp; omega
        have f3 : decide ((1024 : Int) < (N : Int)) = true := decide_eq_true (by omega)
        have f4 : decide (1024 < N) = true := decide_eq_true g3
        simp only [e1, e2, e3, Bool.false_and, Bool.and_false]
        clear HRT HCO
        go_enter Tryz.func42, Tryz.ntmps42
        go_wp2
        go_ret
        exact ⟨rfl, al2 _ _ _⟩
      · have e3 : decide (N ≤ 1024) = true := by simp; omega
        have f3 : decide ((1024 : Int) < (N : Int)) = false := decide_eq_false (by omega)
        have f4 : decide (1024 < N) = false := decide_eq_false g3
        obtain ⟨R, hR⟩ : ∃ R, rgtI l = R := ⟨_, rfl⟩
        obtain ⟨O, hO⟩ : ∃ O, l.any (oddA (i1, i2, i3)) = O := ⟨_, rfl⟩
        rw [hR] at HRT ⊢
        rw [hO] at HCO ⊢
        simp only [e1, e2, e3, Bool.true_and]
        clear hR hO e1 e2 e3
        cases R with
        | false =>
          simp only [Bool.false_and]
          clear HCO
          go_enter Tryz.func42, Tryz.ntmps42
          go_wp2_with fail
          refine (HRT.out _ (al2 _ _ _)).mono ?_
          rintro e w1 ⟨rfl, hb⟩
          have HB := Lib.hid ((al2 _ _ _).trans (hb.mono (by simp; omega)))
          clear hb
          go_wp2
          go_ret
          exact ⟨rfl, HB.out⟩
        | true =>
          simp only [Bool.true_and]
          go_enter Tryz.func42, Tryz.ntmps42
          go_wp2_with fail
          refine (HRT.out _ (al2 _ _ _)).mono ?_
          rintro e w1 ⟨rfl, hb⟩
          have HB := Lib.hid ((al2 w (.cells #[.int .i64 i1, .int .i64 i2, .int .i64 i3] 37) (.cells #[.int .i64 s, .slice a N c] 46)).trans (hb.mono (by simp; omega)))
          have b1 : IdBox w1 w.heap.size (i1, i2, i3) := Bk.below ((Bk.newAt rfl _ _).old _) hb
          have b2 : Bk w1 (w.heap.size + 1) 46 _ := Bk.below (Bk.newAt (by simp) _ _) hb
          have HBX := Lib.hid b1
          have q0 := b2.cell 0
          have q1 := b2.cell 1
          simp only [List.getElem?_cons_zero, List.getElem?_cons_succ] at q0 q1
          clear hb b1 b2
          go_wp2_with fail
          refine (HCO.out _ _ HB.out HBX.out).mono ?_
          rintro e w2 ⟨rfl, hb⟩
          have HB2 := Lib.hid (below_self2 HB.out hb)
          clear hb
          go_wp2
          go_ret
          exact ⟨rfl, HB2.out⟩
end Go.Proofs.YtchhcaoondfpiaaGreat
