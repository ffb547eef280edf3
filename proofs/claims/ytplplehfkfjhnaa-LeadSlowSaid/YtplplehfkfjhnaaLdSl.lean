/-
  Leads: with more than half heard alike a lead is slow: the law's walk.
-/
import Derived.Test.YtplplehfkfjhnaaLdSa
import Derived.Test.YtplplehfkfjhnaaLdU3
import Derived.Test.YtplplehfkfjhnaaLdRs
import Derived.Test.YtplplehfkfjhnaaLdXm
namespace Go.Proofs.Ytplplehfkfjhnaa
open Go.RowKit
open Bb (quoN thN allB)
set_option linter.unusedSimpArgs false
set_option linter.unusedVariables false
set_option maxRecDepth 100000

set_option maxHeartbeats 16000000 in
theorem slow_law (n0 k0 s : Int) (u : Value) (l : List I3) (W : World) (hr : IK.Rd W u l) (ho : okL l) :
    Calls Try.prog 4 #[.int .i64 n0, .int .i64 k0, .agg #[.int .i64 s, u]] W fun e w' => e = .returned (.bool true) ∧ Below W.heap.size W w' := by
  obtain ⟨ua, uc, eu⟩ := hr.slice
  subst eu
  obtain ⟨M, hM⟩ : ∃ M, l.length = M := ⟨_, rfl⟩
  have hM63 : M ≤ maxLen := by rw [← hM]; exact hr.len
  unfold maxLen at hM63
  have HR := Lib.hid hr
  rw [hM] at hr HR ⊢
  have HO := Lib.hid ho
  have HM := Lib.hid hM
  obtain ⟨X0, hX0⟩ : ∃ X0, W.alloc (.cells #[.int .i64 s, .slice ua M uc] 36) = X0 := ⟨_, rfl⟩
  have HA0 : Hid (Bk X0 W.heap.size 36 [.int .i64 s, .slice ua M uc]) := Lib.hid (by rw [← hX0]; exact Bk.new W _ [.int .i64 s, .slice ua M uc])
  have HW0 : Hid (Below W.heap.size W X0) := Lib.hid (by rw [← hX0]; exact al1 W _)
  have HWk := Lib.hid (works_any X0)
  clear hr ho
  go_enter Try.func4, Try.ntmps4
  go_wp2_with fail
  try rw [hX0]
  refine HWk.out.mono ?_
  rintro e w1 ⟨rfl, hb⟩
  have HW1 := Lib.hid (HW0.out.trans (hb.mono HW0.out.size))
  have HA1 := Lib.hid (HA0.out.below hb)
  clear hX0 HWk hb HA0 HW0
  have t0 := HA1.out.cell 0
  have t1 := HA1.out.cell 1
  simp only [List.getElem?_cons_zero, List.getElem?_cons_succ] at t0 t1
  by_cases q1 : n0 < 1
  · have e1 : decide (n0 < 1) = true := decide_eq_true q1
    go_wp2
    go_ret
    exact ⟨rfl, HW1.out⟩
  have e1 : decide (n0 < 1) = false := decide_eq_false q1
  by_cases q2 : 7 < n0
  · have e2 : decide (7 < n0) = true := decide_eq_true q2
    go_wp2
    go_ret
    exact ⟨rfl, HW1.out⟩
  have e2 : decide (7 < n0) = false := decide_eq_false q2
  by_cases q3 : k0 < 0
  · have e3 : decide (k0 < 0) = true := decide_eq_true q3
    go_wp2
    go_ret
    exact ⟨rfl, HW1.out⟩
  have e3 : decide (k0 < 0) = false := decide_eq_false q3
  by_cases q4 : n0 < k0
  · have e4 : decide (n0 < k0) = true := decide_eq_true q4
    go_wp2
    go_ret
    exact ⟨rfl, HW1.out⟩
  have e4 : decide (n0 < k0) = false := decide_eq_false q4
  by_cases q5 : (40 : Int) < (M : Int)
  · have e5 : decide ((40 : Int) < (M : Int)) = true := decide_eq_true q5
    have f5 : decide (40 < M) = true := decide_eq_true (by omega)
    go_wp2
    go_ret
    exact ⟨rfl, HW1.out⟩
  have e5 : decide ((40 : Int) < (M : Int)) = false := decide_eq_false q5
  have f5 : decide (40 < M) = false := decide_eq_false (by omega)
  by_cases q6 : s < 0
  · have e6 : decide (s < 0) = true := decide_eq_true q6
    go_wp2
    go_ret
    exact ⟨rfl, HW1.out⟩
  have e6 : decide (s < 0) = false := decide_eq_false q6
  have HL40 : Hid (l.length ≤ 40) := Lib.hid (by omega)
  go_wp2_with fail
  clear e1 e2 e3 e4 e5 f5 e6 t0 t1 hM
  obtain ⟨n, rfl⟩ : ∃ n : Nat, n0 = n := ⟨n0.toNat, by omega⟩
  obtain ⟨k, rfl⟩ : ∃ k : Nat, k0 = k := ⟨k0.toNat, by omega⟩
  have hn1 : 1 ≤ n := by omega
  have hn7 : n ≤ 7 := by omega
  have hkn : k ≤ n := by omega
  clear q1 q2 q3 q4 q5 q6
  go_loopw [9] (fun i wr => ∃ (j : Nat) (va : Value), j ≤ n ∧ i = .int .i64 j ∧ Hid (Bk wr w1.heap.size 24 [.int .i64 0, va]) ∧ Hid (OwnI wr (w1.heap.size + 1) va (nds j)) ∧ Hid (Below w1.heap.size w1 wr) ∧ Hid (w1.heap.size + 1 ≤ wr.heap.size)) (fun i _ => n - (intOf i).toNat)
  case atStart => exact ⟨0, .slice none 0 0, Nat.zero_le _, rfl, Lib.hid (Bk.newAt rfl _ [.int .i64 0, .slice none 0 0]), Lib.hid (OwnI.nil _ _), Lib.hid ((Below.refl _ _).alloc (Nat.le_refl _) _), Lib.hid (by simp)⟩
  case round =>
    obtain ⟨j, va, hj, rfl, hA, hO, hB, hS⟩ := hrel
    by_cases hlt : j < n
    · have hk1 : (j : Int) < (n : Int) := by omega
      have hd1 : decide ((j : Int) < (n : Int)) = true := decide_eq_true hk1
      have c0 := hA.out.cell 0
      have c1 := hA.out.cell 1
      simp only [List.getElem?_cons_zero, List.getElem?_cons_succ] at c0 c1
      have hlw := hA.out.lt
      have HL : Hid ((nds j).length ≤ 60) := Lib.hid (by rw [nds_len]; omega)
      go_wp2_with (first
        | refine wpList_appI rfl _ _ rfl (w1.heap.size + 1) va (nds j) rfl (OwnI.alloc hO.out _) _ [(j : Int)] rfl (it_one _ (j : Int) _ rfl) (by have := HL.out; simp only [List.length_singleton]; omega) (by have := hS.out; simp; omega) ?_
        | fail)
      intro v2 w2 ho2 hb2 hz2 _
      obtain ⟨a2, c2, e2, _⟩ := (ho2.it (by simp [nds_len]; omega)).row
      obtain ⟨M2, hM2⟩ : ∃ M, (nds j ++ [(j : Int)]).length = M := ⟨_, rfl⟩
      rw [hM2] at e2
      subst e2
      have hs2 := hS.out
      have HBk2 : Hid (Bk w2 w1.heap.size 24 [.int .i64 0, va]) := Lib.hid ((hA.out.old _).on hb2 (by omega))
      have HO2 := Lib.hid ho2
      have HB2 : Hid (Below w1.heap.size w1 w2) := Lib.hid ((hB.out.alloc hB.out.size _).trans (hb2.mono (by omega)))
      have HS2 : Hid (w1.heap.size + 1 ≤ w2.heap.size) := Lib.hid (by have := hb2.size; simp at this; omega)
      have e0 := HBk2.out.cell 0
      have e1 := HBk2.out.cell 1
      have f1 := HBk2.out.fz 1
      simp only [List.getElem?_cons_zero, List.getElem?_cons_succ] at e0 e1
      clear ho2 hb2 hs2 c0 c1 hlw hz2 hM2
      go_wp2_with fail
      go_roundw
      case rel =>
        refine ⟨j + 1, _, by omega, by go_num, Lib.hid (HBk2.out.set 1 (.slice a2 M2 c2)), Lib.hid ?_, Lib.hid (HB2.out.trans (((OnlyG.refl _ _).set _ _).below.mono (Nat.le_refl _))), Lib.hid (by simpa using HS2.out)⟩
        rw [nds_snoc]
        refine HO2.out.keepB fun q hq => Below.heap_setCell _ _ _ q ?_
        have := ownI_from HO2.out q hq
        show q ≠ w1.heap.size
        omega
      case measure => simp [intOf]; omega
    · have e : j = n := by omega
      subst e
      obtain ⟨av, cv, e1, _⟩ := (hO.out.it (by rw [nds_len]; omega)).row
      have HT := Lib.hid (hO.out.it (by rw [nds_len]; omega))
      subst e1
      have hd1 : decide ((j : Int) < (j : Int)) = false := decide_eq_false (by omega)
      obtain ⟨X1, hX1⟩ : ∃ X1, wr.alloc (.cells #[.int .i64 0, .int .i64 0, .int .i64 1] 27) = X1 := ⟨_, rfl⟩
      have hwx : Below wr.heap.size wr X1 := by rw [← hX1]; exact al1 wr _
      have HI : Hid (Bk X1 wr.heap.size 27 [.int .i64 0, .int .i64 0, .int .i64 1]) := Lib.hid (by rw [← hX1]; exact Bk.new wr _ [.int .i64 0, .int .i64 0, .int .i64 1])
      have HC1 := Lib.hid (hA.out.below hwx)
      have HA2 := Lib.hid ((HA1.out.below hB.out).below hwx)
      have HT1 := Lib.hid (HT.out.below hwx)
      have HX1 := Lib.hid (hB.out.trans (hwx.mono hB.out.size))
      have HR1 := Lib.hid (HR.out.below (HW1.out.trans (HX1.out.mono HW1.out.size)))
      obtain ⟨q, hq⟩ : ∃ q, wr.heap.size = q := ⟨_, rfl⟩
      have HQ := Lib.hid hq
      rw [hq] at HI
      have c0 := HC1.out.cell 0
      have c1 := HC1.out.cell 1
      have z0 := HI.out.cell 0
      have z1 := HI.out.cell 1
      have z2 := HI.out.cell 2
      have t0 := HA2.out.cell 0
      have t1 := HA2.out.cell 1
      simp only [List.getElem?_cons_zero, List.getElem?_cons_succ] at c0 c1 z0 z1 z2 t0 t1
      clear hO hS hwx hB hA
      go_wp2_with fail
      try rw [hX1]
      try simp only [hq]
      clear hq hX1 hd1
      refine (new_any 0 av cv (nds j) 0 0 0 1 slC s (.slice ua M uc) l X1 HT1.out (by rw [nds_len]; omega) HR1.out HO.out (Nat.le_trans HL40.out (by omega))).mono ?_
      rintro e w2 ⟨g, he, hl, hb⟩
      rw [he.out]
      obtain ⟨B, hBe⟩ : ∃ B, X1.heap.size = B := ⟨_, rfl⟩
      have HL2 : Hid (LdAt w2 B g (slS j (s, l) 0)) := Lib.hid (by
        unfold slS
        rw [if_neg (by omega), ← hBe]
        exact hl)
      have hXB : X1.heap.size ≤ B := Nat.le_of_eq hBe
      have HXW : Hid (Below W.heap.size W X1) := Lib.hid (HW1.out.trans (HX1.out.mono HW1.out.size))
      have hWB : W.heap.size ≤ B := Nat.le_trans HXW.out.size hXB
      have HX := Lib.hid hb
      clear he hl hb hBe c0 c1 z0 z1 z2 t0 t1 HC1 HT HT1 HR1
      go_wp2_with fail
      obtain ⟨n, hn⟩ : ∃ n, j = n := ⟨_, rfl⟩
      subst hn
      go_loopw [12] (fun i wr => ∃ (h : Nat), h ≤ k ∧ i = .int .i64 h ∧ Hid (LdAt wr B g (slS j (s, l) h)) ∧ Hid (Below X1.heap.size X1 wr)) (fun i _ => k - (intOf i).toNat)
      case atStart => exact ⟨0, Nat.zero_le _, rfl, HL2, HX⟩
      case round =>
        clear HL2 HX
        obtain ⟨h, hh, rfl, HL, HX⟩ := hrel
        by_cases hlt2 : h < k
        · have hk1 : (h : Int) < (k : Int) := by omega
          have hd1 : decide ((h : Int) < (k : Int)) = true := decide_eq_true hk1
          have HL3 : Hid (LdAt wr B g (slL j (s, l) h)) := Lib.hid (by have q := HL.out; unfold slS at q; rw [if_neg (by omega)] at q; exact q)
          have z0 := (HI.out.below HX.out).cell 0
          have z1 := (HI.out.below HX.out).cell 1
          have z2 := (HI.out.below HX.out).cell 2
          have t0 := (HA2.out.below HX.out).cell 0
          have t1 := (HA2.out.below HX.out).cell 1
          simp only [List.getElem?_cons_zero, List.getElem?_cons_succ] at z0 z1 z2 t0 t1
          go_wp2_with fail
          refine (sl_hear (n := j) (k := h) (a := (s, l)) HL3.out hn7 (by omega) HL40.out (slM_V (a := (s, l)) HM.out HR.out HO.out (h : Int)) hWB (HXW.out.trans (HX.out.mono HXW.out.size))).mono ?_
          rintro e w6 ⟨⟨b, he⟩, hl, hb, -⟩
          rw [he.out]
          have HL4 := Lib.hid hl
          have HX4 := Lib.hid (HX.out.trans (hb.mono hXB))
          clear he hl hb z0 z1 z2 t0 t1 HL HL3 HX
          go_wp2_with fail
          go_roundw
          case rel => exact ⟨h + 1, by omega, by go_num, HL4, HX4⟩
          case measure => simp [intOf]; omega
        · have e : h = k := by omega
          subst e
          have hd1 : decide ((h : Int) < (h : Int)) = false := decide_eq_false (by omega)
          by_cases hkn2 : h = j
          · have hk1 : (h : Int) = (j : Int) := by omega
            have hk2 : ((h : Int) == (j : Int)) = true := by simp [hkn2]
            have hk3 : decide ((h : Int) = (j : Int)) = true := decide_eq_true hk1
            have HL3 : Hid (LdAt wr B g (entL (slL j (s, l) j) 3 slC (s, l))) := Lib.hid (by have q := HL.out; unfold slS at q; rw [if_pos hkn2] at q; exact q)
            have HOk : Hid (LOk (entL (slL j (s, l) j) 3 slC (s, l))) := Lib.hid ((slL_ok j (s, l) j hn7 (Nat.le_refl _) HL40.out).ent _ _ _ (Nat.le_trans HL40.out (by omega)))
            clear HL hk1 hkn2
            go_wp2_with fail
            refine (phase_any HL3.out).mono ?_
            rintro e _ ⟨rfl, rfl⟩
            rw [show (entL (slL j (s, l) j) 3 slC (s, l)).ph = 3 from rfl]
            go_wp2_with fail
            refine (slow_no HL3.out HOk.out rfl).mono ?_
            rintro e w7 ⟨he, hl, hb⟩
            rw [he.out]
            have HX4 := Lib.hid (HX.out.trans (hb.mono hXB))
            clear he hl hb
            go_wp2
            go_ret
            exact ⟨rfl, HXW.out.trans (HX4.out.mono HXW.out.size)⟩
          · have hk1 : ¬ (h : Int) = (j : Int) := by omega
            have hk2 : ((h : Int) == (j : Int)) = false := by simp; omega
            have hk3 : decide ((h : Int) = (j : Int)) = false := decide_eq_false hk1
            have HL3 : Hid (LdAt wr B g (slL j (s, l) h)) := Lib.hid (by have q := HL.out; unfold slS at q; rw [if_neg hkn2] at q; exact q)
            have HOk : Hid (LOk (slL j (s, l) h)) := Lib.hid (slL_ok j (s, l) h hn7 hkn HL40.out)
            have hwt := slL_wait j (s, l) h hkn
            have heno := slL_eno j (s, l) h hn1 hkn
            have HEn := Lib.hid heno
            have HWt := Lib.hid hwt
            clear HL hwt heno
            go_wp2_with fail
            refine (phase_any HL3.out).mono ?_
            rintro e _ ⟨rfl, rfl⟩
            rw [show (slL j (s, l) h).ph = 0 from rfl]
            go_wp2_with fail
            refine (wait_any HL3.out HOk.out).mono ?_
            rintro e w5 ⟨v, he, ho, hb⟩
            rw [he.out]
            obtain ⟨av2, cv2, ev⟩ := OwnI.slice ho
            rw [HWt.out] at ev
            have HX3 := Lib.hid (HX.out.trans (hb.mono HX.out.size))
            have HL4 := Lib.hid (HL3.out.below hb)
            obtain ⟨y, hy⟩ : ∃ y : Nat, j - h = y := ⟨_, rfl⟩
            have hy2 : (j : Int) - (h : Int) = (y : Int) := by omega
            have hwy : wrap64 (y : Int) = (y : Int) := by unfold wrap64; omega
            have hwy2 : IntKind.i64.wrap (y : Int) = (y : Int) := IntWalk.i64_in _ (by omega)
            rw [hy] at ev
            subst ev
            have hee : ((y : Int) != (y : Int)) = false := by simp
            clear he ho hb HL3 HX hy
            go_wp2_with fail
            clear hwy hwy2 hee hy2
            by_cases h2 : j < 2 * h
            · have h2i : (j : Int) < 2 * (h : Int) := by omega
              have h2d : decide ((j : Int) < 2 * (h : Int)) = true := decide_eq_true h2i
              have hh1 : 1 ≤ h := by omega
              obtain ⟨A, hA⟩ : ∃ A, allA (List.replicate h ((s, l) : At)) = A := ⟨_, rfl⟩
              have HAs : Hid (A.1 = s) := Lib.hid (by rw [← hA]; exact slA_sq1 (s, l) h hh1)
              have HAl : Hid (A.2.length ≤ 2400) := Lib.hid (by have q := HOk.out.al; rw [slL_ats, hA] at q; exact q)
              have HAc : Hid (clnI A.2 = clnI l) := Lib.hid (by rw [← hA]; exact slA_cln1 (s, l) h hh1)
              have hLe : entL (slL j (s, l) h) 1 (slL j (s, l) h).cm (allA (atsL (slL j (s, l) h))) = acS j A 0 := by
                rw [slL_ats, hA]
                unfold acS
                rw [if_neg (by omega)]
                rfl
              have HLe := Lib.hid hLe
              clear hA hLe
              refine (slow_yes HL4.out HOk.out (by
                show ((0 : Int) == 0 && (true && enoL (slL j (s, l) h))) = true
                rw [HEn.out, decide_eq_true h2]; rfl)).mono ?_
              rintro e w7 ⟨he, hl, hb⟩
              rw [he.out]
              rw [HLe.out] at hl
              have HL5 := Lib.hid hl
              have HX4 := Lib.hid (HX3.out.trans (hb.mono hXB))
              clear he hl hb HL4 HX3 HOk HWt HEn HLe
              go_wp2_with fail
              clear h2i h2d hk1 hk2 hk3 hd1
              go_loopw [14] (fun i wr => ∃ (p : Nat), p ≤ j ∧ (p = 0 ∨ ¬ j < 2 * (p - 1)) ∧ i = .int .i64 p ∧ Hid (LdAt wr B g (acS j A p)) ∧ Hid (Below X1.heap.size X1 wr)) (fun i _ => j - (intOf i).toNat)
              case atStart => exact ⟨0, Nat.zero_le _, .inl rfl, rfl, HL5, HX4⟩
              case round =>
                clear HL5 HX4
                obtain ⟨p, hp, hp2, rfl, HL, HX⟩ := hrel
                by_cases q : j < 2 * p
                · have HL3 : Hid (LdAt wr B g (entL (acL j A p) 3 slC A)) := Lib.hid (by have q2 := HL.out; unfold acS at q2; rw [if_pos q] at q2; exact q2)
                  have HOk3 : Hid (LOk (entL (acL j A p) 3 slC A)) := Lib.hid ((acL_ok j A p hn7 hp (Nat.le_trans HAl.out (by omega))).ent _ _ _ (Nat.le_trans HAl.out (by omega)))
                  have hq : ((p : Int) == IntKind.i64.wrap (IntKind.i64.wrap ((j : Int) / 2) + 1)) = true := by
                    have h1 : IntKind.i64.wrap ((j : Int) / 2) = (j : Int) / 2 := IntWalk.i64_in _ (by omega)
                    have h2 : IntKind.i64.wrap ((j : Int) / 2 + 1) = (j : Int) / 2 + 1 := IntWalk.i64_in _ (by omega)
                    rw [h1, h2]
                    simp only [beq_iff_eq]; omega
                  clear HL
                  go_wp2_with fail
                  refine (phase_any HL3.out).mono ?_
                  rintro e _ ⟨rfl, rfl⟩
                  rw [show (entL (acL j A p) 3 slC A).ph = 3 from rfl]
                  obtain ⟨Y, hY⟩ : ∃ Y, wr = Y := ⟨_, rfl⟩
                  subst hY
                  obtain ⟨mA, hmA⟩ : ∃ m, A.2.length = m := ⟨_, rfl⟩
                  have HPh : Hid (∀ V : World, Below wr.heap.size wr V → Calls Try.prog 12 #[gP g] V fun e w' => e = .returned (.int .i64 3) ∧ Below V.heap.size V w') := Lib.hid fun V hv => (phase_any (HL3.out.below hv)).mono fun e w' ⟨he, hw⟩ => ⟨he, hw ▸ Below.refl _ _⟩
                  have HAk : Hid (∀ V : World, Below wr.heap.size wr V → Calls Try.prog 19 #[gP g] V fun e w' => ∃ au cu, Hid (e = .returned (.agg #[.int .i64 4, .int .i64 0, .int .i64 0, .int .i64 0, .int .i64 0, .int .i64 1, .int .i64 0, .int .i64 0, .int .i64 3, .int .i64 0, .int .i64 0, .int .i64 0, .int .i64 0, .int .i64 1, .int .i64 0, .int .i64 0, .string ⟨#[]⟩, .string ⟨#[]⟩, .int .i64 0, .int .i64 0, .int .i64 0, .int .i64 s, .slice au mA cu, .int .i64 0, .slice none 0 0, .slice none 0 0, .slice none 0 0])) ∧ IK.Own w' V.heap.size (.slice au mA cu) A.2 ∧ Below V.heap.size V w') := Lib.hid fun V hv => (ask3_any (HL3.out.below hv) HOk3.out rfl).mono fun e w' ⟨u, he, ho, hb⟩ => by
                    obtain ⟨au, cu, eu⟩ := ho.slice
                    have eu2 : u = .slice au A.2.length cu := eu
                    rw [hmA] at eu2
                    subst eu2
                    have h1 : (msE (askL (entL (acL j A p) 3 slC A)) (.slice au mA cu) (.slice none 0 0) (.slice none 0 0) (.slice none 0 0)).toArray = #[.int .i64 4, .int .i64 0, .int .i64 0, .int .i64 0, .int .i64 0, .int .i64 1, .int .i64 0, .int .i64 0, .int .i64 3, .int .i64 0, .int .i64 0, .int .i64 0, .int .i64 0, .int .i64 1, .int .i64 0, .int .i64 0, .string ⟨#[]⟩, .string ⟨#[]⟩, .int .i64 0, .int .i64 0, .int .i64 0, .int .i64 A.1, .slice au mA cu, .int .i64 0, .slice none 0 0, .slice none 0 0, .slice none 0 0] := by kernel_rfl
                    rw [HAs.out] at h1
                    refine ⟨au, cu, ?_, ho, hb⟩
                    rw [← h1]; exact he
                  have HSm : Hid (∀ V : World, Below wr.heap.size wr V → ∀ au cu, IK.Rd V (.slice au mA cu) A.2 → Calls Try.prog 18 #[.agg #[.int .i64 s, .slice au mA cu], .agg #[.int .i64 s, .slice ua M uc]] V fun e w' => e = .returned (.bool true) ∧ Below V.heap.size V w') := Lib.hid fun V hv au cu hrd => by
                    have h1 := rsame_eq s (.slice au mA cu) (.slice ua M uc) A.2 l V hrd (Nat.le_trans HAl.out (by omega)) ((HR.out.below (HXW.out.trans (HX.out.mono HXW.out.size))).below hv) (Nat.le_trans HL40.out (by omega))
                    rw [HAc.out, decide_eq_true rfl] at h1
                    exact h1
                  have HFd : Hid (∀ au cu, (∀ V : World, (Instr.field 44 (.agg #[.int .i64 4, .int .i64 0, .int .i64 0, .int .i64 0, .int .i64 0, .int .i64 1, .int .i64 0, .int .i64 0, .int .i64 3, .int .i64 0, .int .i64 0, .int .i64 0, .int .i64 0, .int .i64 1, .int .i64 0, .int .i64 0, .string ⟨#[]⟩, .string ⟨#[]⟩, .int .i64 0, .int .i64 0, .int .i64 0, .int .i64 s, .slice au mA cu, .int .i64 0, .slice none 0 0, .slice none 0 0, .slice none 0 0]) 5).run Try.prog V = .ok (.agg #[.int .i64 3, .int .i64 0, .int .i64 0, .int .i64 0, .int .i64 0, .int .i64 1, .int .i64 0, .int .i64 0, .string ⟨#[]⟩, .string ⟨#[]⟩, .int .i64 0, .int .i64 0, .int .i64 0, .int .i64 s, .slice au mA cu]) V) ∧ (∀ V : World, (Instr.field 38 (.agg #[.int .i64 3, .int .i64 0, .int .i64 0, .int .i64 0, .int .i64 0, .int .i64 1, .int .i64 0, .int .i64 0, .string ⟨#[]⟩, .string ⟨#[]⟩, .int .i64 0, .int .i64 0, .int .i64 0, .int .i64 s, .slice au mA cu]) 4).run Try.prog V = .ok (.agg #[.int .i64 s, .slice au mA cu]) V)) := Lib.hid fun au cu => ⟨fun V => by kernel_rfl, fun V => by kernel_rfl⟩
                  have HC : Hid (∀ w' : World, Below wr.heap.size wr w' → Below wr.heap.size wr w' ∧ w'.cell? ⟨W.heap.size, 0, none⟩ = some (.int .i64 s) ∧ w'.cell? ⟨W.heap.size, 1, none⟩ = some (.slice ua M uc)) := Lib.hid fun w' hb => by
                    have q1 := (HA2.out.below HX.out).below hb
                    exact ⟨hb, q1.cell 0, q1.cell 1⟩
                  clear hmA
                  go_wp2_with fail
                  refine wp_region_held_drew (S := (fun w' => Below wr.heap.size wr w' ∧ w'.cell? ⟨W.heap.size, 0, none⟩ = some (.int .i64 s) ∧ w'.cell? ⟨W.heap.size, 1, none⟩ = some (.slice ua M uc))) (by kernel_rfl) ?_ (fun hHeld => ?_)
                  · (first
                    | exact HC.out _ hs3
                    | exact HC.out _ hs2
                    | exact HC.out _ hs1
                    | exact HC.out _ (Below.refl _ _).drew
                    | exact HC.out _ (Below.refl _ _)
                    | fail)
                  refine wpAnyH_take (i := 0) (v := ?_) rfl (by kernel_rfl) (by kernel_rfl) (by kernel_rfl) (fun _ _ _ h => h) (Or.inl ⟨by rfl, ?_⟩) (by assumption) ?_
                  rotate_left
                  · (intro w hSw; (try dsimp only at hSw); go_simp; try rfl)
                  try simp only [Act.put, List.setIfInBounds_toArray, List.set_cons_zero, List.set_cons_succ, List.getElem_toArray, List.getElem_cons_zero, List.getElem_cons_succ]
                  refine wpAnyH_take (i := 1) (v := ?_) rfl (by kernel_rfl) (by kernel_rfl) (by kernel_rfl) (fun _ _ _ h => h) (Or.inl ⟨by rfl, ?_⟩) (by assumption) ?_
                  rotate_left
                  · (intro w hSw; (try dsimp only at hSw); go_simp; try rfl)
                  try simp only [Act.put, List.setIfInBounds_toArray, List.set_cons_zero, List.set_cons_succ, List.getElem_toArray, List.getElem_cons_zero, List.getElem_cons_succ]
                  refine wpAnyH_take (i := 2) (v := ?_) rfl (by kernel_rfl) (by kernel_rfl) (by kernel_rfl) (fun _ _ _ h => h) (Or.inl ⟨by rfl, ?_⟩) (by assumption) ?_
                  rotate_left
                  · (intro w hSw; (try dsimp only at hSw); go_simp; try rfl)
                  try simp only [Act.put, List.setIfInBounds_toArray, List.set_cons_zero, List.set_cons_succ, List.getElem_toArray, List.getElem_cons_zero, List.getElem_cons_succ]
                  refine wpAnyH_ready (rs := [3]) (by kernel_rfl) (by simp) ?_
                  refine (AllReadyH.cons rfl (fun K hK => ?_) AllReadyH.nil)
                  go_simp
                  (go_at_call 12; refine (HPh.out _ hHeld.1).mono ?_; rintro e w1 ⟨rfl, hb1⟩; have hs1 : Below wr.heap.size wr w1 := below_self hHeld.1 hb1)
                  refine hK.out _ _ ?_ (fun hHeld => ?_)
                  · (first
                    | exact HC.out _ hs3
                    | exact HC.out _ hs2
                    | exact HC.out _ hs1
                    | exact HC.out _ (Below.refl _ _).drew
                    | exact HC.out _ (Below.refl _ _)
                    | fail)
                  clear hK K
                  try simp only [Act.put, List.setIfInBounds_toArray, List.set_cons_zero, List.set_cons_succ, List.getElem_toArray, List.getElem_cons_zero, List.getElem_cons_succ]
                  refine wpAnyH_take (i := 4) (v := ?_) rfl (by kernel_rfl) (by kernel_rfl) (by kernel_rfl) (fun _ _ _ h => h) (Or.inl ⟨by rfl, ?_⟩) (by assumption) ?_
                  rotate_left
                  · (intro w hSw; (try dsimp only at hSw); go_simp; try rfl)
                  try simp only [Act.put, List.setIfInBounds_toArray, List.set_cons_zero, List.set_cons_succ, List.getElem_toArray, List.getElem_cons_zero, List.getElem_cons_succ]
                  refine wpAnyH_take (i := 5) (v := ?_) rfl (by kernel_rfl) (by kernel_rfl) (by kernel_rfl) (fun _ _ _ h => h) (Or.inl ⟨by rfl, ?_⟩) (by assumption) ?_
                  rotate_left
                  · (intro w hSw; (try dsimp only at hSw); go_simp; try rfl)
                  try simp only [Act.put, List.setIfInBounds_toArray, List.set_cons_zero, List.set_cons_succ, List.getElem_toArray, List.getElem_cons_zero, List.getElem_cons_succ]
                  refine wpAnyH_take (i := 6) (v := ?_) rfl (by kernel_rfl) (by kernel_rfl) (by kernel_rfl) (fun _ _ _ h => h) (Or.inl ⟨by rfl, ?_⟩) (by assumption) ?_
                  rotate_left
                  · (intro w hSw; (try dsimp only at hSw); go_simp; try rfl)
                  try simp only [Act.put, List.setIfInBounds_toArray, List.set_cons_zero, List.set_cons_succ, List.getElem_toArray, List.getElem_cons_zero, List.getElem_cons_succ]
                  refine wpAnyH_take (i := 7) (v := ?_) rfl (by kernel_rfl) (by kernel_rfl) (by kernel_rfl) (fun _ _ _ h => h) (Or.inl ⟨by rfl, ?_⟩) (by assumption) ?_
                  rotate_left
                  · (intro w hSw; (try dsimp only at hSw); go_simp; try rfl)
                  try simp only [Act.put, List.setIfInBounds_toArray, List.set_cons_zero, List.set_cons_succ, List.getElem_toArray, List.getElem_cons_zero, List.getElem_cons_succ]
                  refine wpAnyH_take (i := 8) (v := ?_) rfl (by kernel_rfl) (by kernel_rfl) (by kernel_rfl) (fun _ _ _ h => h) (Or.inl ⟨by rfl, ?_⟩) (by assumption) ?_
                  rotate_left
                  · (intro w hSw; (try dsimp only at hSw); go_simp; try rfl)
                  try simp only [Act.put, List.setIfInBounds_toArray, List.set_cons_zero, List.set_cons_succ, List.getElem_toArray, List.getElem_cons_zero, List.getElem_cons_succ]
                  refine wpAnyH_take (i := 9) (v := ?_) rfl (by kernel_rfl) (by kernel_rfl) (by kernel_rfl) (fun _ _ _ h => h) (Or.inl ⟨by rfl, ?_⟩) (by assumption) ?_
                  rotate_left
                  · (intro w hSw; (try dsimp only at hSw); go_simp; try rfl)
                  try simp only [Act.put, List.setIfInBounds_toArray, List.set_cons_zero, List.set_cons_succ, List.getElem_toArray, List.getElem_cons_zero, List.getElem_cons_succ]
                  refine wpAnyH_take (i := 10) (v := ?_) rfl (by kernel_rfl) (by kernel_rfl) (by kernel_rfl) (fun _ _ _ h => h) (Or.inl ⟨by rfl, ?_⟩) (by assumption) ?_
                  rotate_left
                  · (intro w hSw; (try dsimp only at hSw); go_simp; try rfl)
                  try simp only [Act.put, List.setIfInBounds_toArray, List.set_cons_zero, List.set_cons_succ, List.getElem_toArray, List.getElem_cons_zero, List.getElem_cons_succ]
                  refine wpAnyH_take (i := 11) (v := ?_) rfl (by kernel_rfl) (by kernel_rfl) (by kernel_rfl) (fun _ _ _ h => h) (Or.inl ⟨by rfl, ?_⟩) (by assumption) ?_
                  rotate_left
                  · (intro w hSw; (try dsimp only at hSw); go_simp; try rfl)
                  try simp only [Act.put, List.setIfInBounds_toArray, List.set_cons_zero, List.set_cons_succ, List.getElem_toArray, List.getElem_cons_zero, List.getElem_cons_succ]
                  refine wpAnyH_take (i := 12) (v := ?_) rfl (by kernel_rfl) (by kernel_rfl) (by kernel_rfl) (fun _ _ _ h => h) (Or.inl ⟨by rfl, ?_⟩) (by assumption) ?_
                  rotate_left
                  · (intro w hSw; (try dsimp only at hSw); go_simp; try rfl)
                  try simp only [Act.put, List.setIfInBounds_toArray, List.set_cons_zero, List.set_cons_succ, List.getElem_toArray, List.getElem_cons_zero, List.getElem_cons_succ]
                  refine wpAnyH_take (i := 13) (v := ?_) rfl (by kernel_rfl) (by kernel_rfl) (by kernel_rfl) (fun _ _ _ h => h) (Or.inl ⟨by rfl, ?_⟩) (by assumption) ?_
                  rotate_left
                  · (intro w hSw; (try dsimp only at hSw); go_simp; try rfl)
                  try simp only [Act.put, List.setIfInBounds_toArray, List.set_cons_zero, List.set_cons_succ, List.getElem_toArray, List.getElem_cons_zero, List.getElem_cons_succ]
                  refine wpAnyH_take (i := 14) (v := ?_) rfl (by kernel_rfl) (by kernel_rfl) (by kernel_rfl) (fun _ _ _ h => h) (Or.inl ⟨by rfl, ?_⟩) (by assumption) ?_
                  rotate_left
                  · (intro w hSw; (try dsimp only at hSw); go_simp; try rfl)
                  try simp only [Act.put, List.setIfInBounds_toArray, List.set_cons_zero, List.set_cons_succ, List.getElem_toArray, List.getElem_cons_zero, List.getElem_cons_succ]
                  refine wpAnyH_take (i := 18) (v := ?_) rfl (by kernel_rfl) (by kernel_rfl) (by kernel_rfl) (fun _ _ _ h => h) (Or.inl ⟨by rfl, ?_⟩) (by assumption) ?_
                  rotate_left
                  · (intro w hSw; (try dsimp only at hSw); go_simp; try rfl)
                  try simp only [Act.put, List.setIfInBounds_toArray, List.set_cons_zero, List.set_cons_succ, List.getElem_toArray, List.getElem_cons_zero, List.getElem_cons_succ]
                  refine wpAnyH_ready (rs := [15]) (by kernel_rfl) (by simp) ?_
                  refine (AllReadyH.cons rfl (fun K hK => ?_) AllReadyH.nil)
                  go_simp
                  (go_at_call 19; refine (HAk.out _ hHeld.1).mono ?_; rintro e w2 ⟨au, cu, he, ho2, hb2⟩; have he := he.out; subst he; have hs2 : Below wr.heap.size wr w2 := below_self hHeld.1 hb2; obtain ⟨f1, f2⟩ := HFd.out au cu)
                  refine hK.out _ _ ?_ (fun hHeld => ?_)
                  · (first
                    | exact HC.out _ hs3
                    | exact HC.out _ hs2
                    | exact HC.out _ hs1
                    | exact HC.out _ (Below.refl _ _).drew
                    | exact HC.out _ (Below.refl _ _)
                    | fail)
                  clear hK K
                  try simp only [Act.put, List.setIfInBounds_toArray, List.set_cons_zero, List.set_cons_succ, List.getElem_toArray, List.getElem_cons_zero, List.getElem_cons_succ]
                  refine wpAnyH_take (i := 16) (v := ?_) rfl (by kernel_rfl) (by kernel_rfl) (by kernel_rfl) (fun _ _ _ h => h) (Or.inl ⟨by rfl, ?_⟩) (by assumption) ?_
                  rotate_left
                  · (intro w hSw; (try dsimp only at hSw); go_simp; try rfl)
                  try simp only [Act.put, List.setIfInBounds_toArray, List.set_cons_zero, List.set_cons_succ, List.getElem_toArray, List.getElem_cons_zero, List.getElem_cons_succ]
                  refine wpAnyH_take (i := 17) (v := ?_) rfl (by kernel_rfl) (by kernel_rfl) (by kernel_rfl) (fun _ _ _ h => h) (Or.inl ⟨by rfl, ?_⟩) (by assumption) ?_
                  rotate_left
                  · (intro w hSw; (try dsimp only at hSw); go_simp; try rfl)
                  try simp only [Act.put, List.setIfInBounds_toArray, List.set_cons_zero, List.set_cons_succ, List.getElem_toArray, List.getElem_cons_zero, List.getElem_cons_succ]
                  refine wpAnyH_ready (rs := [19]) (by kernel_rfl) (by simp) ?_
                  refine (AllReadyH.cons rfl (fun K hK => ?_) AllReadyH.nil)
                  go_simp
                  (go_at_call 18; refine (HSm.out _ hHeld.1 au cu (ho2.rd)).mono ?_; rintro e w3 ⟨rfl, hb3⟩; have hs3 : Below wr.heap.size wr w3 := below_self hHeld.1 hb3)
                  refine hK.out _ _ ?_ (fun hHeld => ?_)
                  · (first
                    | exact HC.out _ hs3
                    | exact HC.out _ hs2
                    | exact HC.out _ hs1
                    | exact HC.out _ (Below.refl _ _).drew
                    | exact HC.out _ (Below.refl _ _)
                    | fail)
                  clear hK K
                  try simp only [Act.put, List.setIfInBounds_toArray, List.set_cons_zero, List.set_cons_succ, List.getElem_toArray, List.getElem_cons_zero, List.getElem_cons_succ]
                  refine wpAnyH_take (i := 20) (v := ?_) rfl (by kernel_rfl) (by kernel_rfl) (by kernel_rfl) (fun _ _ _ h => h) (Or.inl ⟨by rfl, ?_⟩) (by assumption) ?_
                  rotate_left
                  · (intro w hSw; (try dsimp only at hSw); go_simp; try rfl)
                  try simp only [Act.put, List.setIfInBounds_toArray, List.set_cons_zero, List.set_cons_succ, List.getElem_toArray, List.getElem_cons_zero, List.getElem_cons_succ]
                  refine wpAnyH_take (i := 21) (v := ?_) rfl (by kernel_rfl) (by kernel_rfl) (by kernel_rfl) (fun _ _ _ h => h) (Or.inl ⟨by rfl, ?_⟩) (by assumption) ?_
                  rotate_left
                  · (intro w hSw; (try dsimp only at hSw); go_simp; try rfl)
                  try simp only [Act.put, List.setIfInBounds_toArray, List.set_cons_zero, List.set_cons_succ, List.getElem_toArray, List.getElem_cons_zero, List.getElem_cons_succ]
                  refine wpAnyH_done (by kernel_rfl) ?_ _
                  have HF := Lib.hid (HX.out.trans (hs3.mono HX.out.size))
                  clear HC HX
                  go_wp2
                  go_ret
                  exact ⟨rfl, HXW.out.trans (HF.out.mono HXW.out.size)⟩
                · have hpj : p < j := by omega
                  have hp1 : (p : Int) < (j : Int) := by omega
                  have hpd : decide ((p : Int) < (j : Int)) = true := decide_eq_true hp1
                  have HL3 : Hid (LdAt wr B g (acL j A p)) := Lib.hid (by have q2 := HL.out; unfold acS at q2; rw [if_neg q] at q2; exact q2)
                  have z0 := (HI.out.below HX.out).cell 0
                  have z1 := (HI.out.below HX.out).cell 1
                  have z2 := (HI.out.below HX.out).cell 2
                  simp only [List.getElem?_cons_zero, List.getElem?_cons_succ] at z0 z1 z2
                  clear HL
                  go_wp2_with fail
                  refine (phase_any HL3.out).mono ?_
                  rintro e _ ⟨rfl, rfl⟩
                  rw [show (acL j A p).ph = 1 from rfl]
                  go_wp2_with fail
                  refine (ac_hear (n := j) (k := p) (A := A) (f := (p : Int)) rfl HL3.out hn1 hn7 hpj (Nat.le_trans HAl.out (by omega))).mono ?_
                  rintro e w6 ⟨⟨b, he⟩, hl, hb, -⟩
                  rw [he.out]
                  have HL4 := Lib.hid hl
                  have HX4 := Lib.hid (HX.out.trans (hb.mono hXB))
                  clear he hl hb z0 z1 z2 HL3 HX
                  go_wp2_with fail
                  go_roundw
                  case rel => exact ⟨p + 1, by omega, by omega, by go_num, HL4, HX4⟩
                  case measure => simp [intOf]; omega
            · have h2i : ¬ (j : Int) < 2 * (h : Int) := by omega
              have h2d : decide ((j : Int) < 2 * (h : Int)) = false := decide_eq_false h2i
              refine (slow_no HL4.out HOk.out (by
                show ((0 : Int) == 0 && (true && enoL (slL j (s, l) h))) = false
                rw [HEn.out, decide_eq_false h2]; rfl)).mono ?_
              rintro e w7 ⟨he, hl, hb⟩
              rw [he.out]
              have HX4 := Lib.hid (HX3.out.trans (hb.mono hXB))
              have HL5 := Lib.hid hl
              clear he hl hb HL4 HX3
              go_wp2_with fail
              refine (phase_any HL5.out).mono ?_
              rintro e _ ⟨rfl, rfl⟩
              rw [show (slL j (s, l) h).ph = 0 from rfl]
              go_wp2
              go_ret
              exact ⟨rfl, HXW.out.trans (HX4.out.mono HXW.out.size)⟩
end Go.Proofs.Ytplplehfkfjhnaa
