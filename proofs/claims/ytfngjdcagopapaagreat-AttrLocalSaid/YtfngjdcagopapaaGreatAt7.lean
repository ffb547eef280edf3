/-
  The document's example of layer 11.
-/
import Derived.Test.YtfngjdcagopapaaGreatAt6
namespace Go.Proofs.YtfngjdcagopapaaGreat
open Tc (ML)
open Go.RowKit
set_option linter.unusedSimpArgs false
set_option linter.unusedVariables false
set_option maxRecDepth 100000

abbrev pA : ByteArray := { data := #[47, 97] }
abbrev e0 : ByteArray := { data := #[] }
def wK : Kn := ⟨(0, 1, 0), ⟨1, 0, 3, pA, e0, 0, 0, 0⟩, (4, [])⟩
def wC : CM := ⟨2, 0, 4, pA, e0, 0, 0, 0⟩
theorem wk_local : lclA [wK] (0, 2, 0) wC = (5, [(0, 1, 0)]) := by decide +kernel
theorem wk_merge : mrgA (5, [(0, 1, 0)]) (2, [(0, 3, 0)]) = (5, [(0, 1, 0), (0, 3, 0)]) := by decide +kernel
theorem wk_valid : vldA (0, 2, 0) (5, [(0, 1, 0), (0, 3, 0)]) = true := by decide +kernel
theorem wk_all : allA [(5, [(0, 1, 0)]), (5, [(0, 1, 0), (0, 3, 0)])] = (5, [(0, 1, 0), (0, 3, 0)]) := by decide +kernel
theorem wk_linked : lnkA wK ⟨(0, 2, 0), wC, (5, [(0, 1, 0)])⟩ = true := by decide +kernel
theorem ok_small {l : List I3} (h : ∀ x ∈ l, (0 ≤ x.1 ∧ x.1 ≤ 100) ∧ (0 ≤ x.2.1 ∧ x.2.1 ≤ 100) ∧ (0 ≤ x.2.2 ∧ x.2.2 ≤ 100)) : okL l := by
  intro x hx
  have := h x hx
  refine ⟨?_, ?_, ?_⟩ <;> simp [Lit.wf, IntKind.min, IntKind.max, IntKind.bits, IntKind.signed] <;> omega
set_option maxHeartbeats 8000000 in
theorem works_any (w : World) (hm : ML w) : Calls Tryz.prog 4 #[] w fun e w' => e = .returned (.bool true) ∧ Below w.heap.size w w' := by
  obtain ⟨X0, hX0⟩ : ∃ X0, ((w.alloc (.cells #[.int .i64 0, .int .i64 1, .int .i64 0, .int .i64 1, .int .i64 0, .int .i64 3, .string { data := #[47, 97] }, .string { data := #[] }, .int .i64 0, .int .i64 0, .int .i64 0, .int .i64 4, .slice none 0 0] 43)).alloc (.cells #[.int .i64 0, .int .i64 2, .int .i64 0] 24)).alloc (.cells #[.int .i64 2, .int .i64 0, .int .i64 4, .string { data := #[47, 97] }, .string { data := #[] }, .int .i64 0, .int .i64 0, .int .i64 0] 27) = X0 := ⟨_, rfl⟩
  have HZ0 : Hid (X0.heap.size = w.heap.size + 3) := Lib.hid (by rw [← hX0]; simp)
  have HB0 : Hid (Below w.heap.size w X0) := Lib.hid (by rw [← hX0]; exact al3 _ _ _ _)
  have HK0 : Hid (Bk X0 w.heap.size 43 [.int .i64 0, .int .i64 1, .int .i64 0, .int .i64 1, .int .i64 0, .int .i64 3, .string { data := #[47, 97] }, .string { data := #[] }, .int .i64 0, .int .i64 0, .int .i64 0, .int .i64 4, .slice none 0 0]) := Lib.hid (by rw [← hX0]; exact ((Bk.newAt rfl _ _).old _).old _)
  have HI0 : Hid (Bk X0 (w.heap.size + 1) 24 [.int .i64 0, .int .i64 2, .int .i64 0]) := Lib.hid (by rw [← hX0]; exact (Bk.newAt (by simp) _ _).old _)
  have HC0 : Hid (Bk X0 (w.heap.size + 1 + 1) 27 [.int .i64 2, .int .i64 0, .int .i64 4, .string { data := #[47, 97] }, .string { data := #[] }, .int .i64 0, .int .i64 0, .int .i64 0]) := Lib.hid (by rw [← hX0]; exact Bk.newAt (by simp) _ _)
  have hL : Calls Tryz.prog 8 #[.slice (some ⟨w.heap.size + 1 + 1 + 1, 0, none⟩) 1 1, .agg #[.int .i64 0, .int .i64 2, .int .i64 0], .agg #[.int .i64 2, .int .i64 0, .int .i64 4, .string { data := #[47, 97] }, .string { data := #[] }, .int .i64 0, .int .i64 0, .int .i64 0]] (X0.alloc (.cells #[.int .i64 0, .int .i64 1, .int .i64 0, .int .i64 1, .int .i64 0, .int .i64 3, .string { data := #[47, 97] }, .string { data := #[] }, .int .i64 0, .int .i64 0, .int .i64 0, .int .i64 4, .slice none 0 0] 43)) (AttP (lclA [wK] (0, 2, 0) wC) (X0.alloc (.cells #[.int .i64 0, .int .i64 1, .int .i64 0, .int .i64 1, .int .i64 0, .int .i64 3, .string { data := #[47, 97] }, .string { data := #[] }, .int .i64 0, .int .i64 0, .int .i64 0, .int .i64 4, .slice none 0 0] 43))) := by
    obtain ⟨rs, hr⟩ := rowIs_lit (K := KnK) (S := knS) rfl X0 [[.int .i64 0, .int .i64 1, .int .i64 0, .int .i64 1, .int .i64 0, .int .i64 3, .string { data := #[47, 97] }, .string { data := #[] }, .int .i64 0, .int .i64 0, .int .i64 0, .int .i64 4, .slice none 0 0]] [wK] rfl (by simp) (fun j q1 q2 => by
      obtain rfl : j = 0 := by simp at q2; omega
      exact ⟨.slice none 0 0, rfl, ok_small (l := [(0, 1, 0)]) (by simp) _ (List.mem_singleton.2 rfl), Knd.Rd.nil _, fun x hx => by cases hx⟩) 43 1 1 rfl (by simp [maxLen]) (w.heap.size + 1 + 1 + 1) HZ0.out
    exact local_any _ rs [wK] (0, 2, 0) wC _ hr (by simp) (hm.below (HB0.out.trans ((al1 _ _).mono (by have := HZ0.out; omega)))) (fun k hk => by
      simp at hk
      subst hk
      exact ⟨by decide, by decide⟩) (by decide)
  rw [wk_local] at hL
  have HL := Lib.hid hL
  have HX0 := Lib.hid hX0
  clear hL hm hX0
  go_enter Tryz.func4, Tryz.ntmps4
  go_wp2_with fail
  rw [HX0.out]
  clear HX0
  refine HL.out.mono ?_
  rintro e w1 ⟨va, he, ho, hb⟩
  have he := he.out
  subst he
  have hbx : Below X0.heap.size X0 w1 := (al1 _ _).trans (hb.mono (by simp))
  obtain ⟨aa, ca, hva⟩ := ho.slice
  have hva' : va = .slice aa 1 ca := hva
  subst hva'
  have HRa := Lib.hid ho.rd
  have HK1 := Lib.hid (HK0.out.below hbx)
  have HI1 := Lib.hid (HI0.out.below hbx)
  have HC1 := Lib.hid (HC0.out.below hbx)
  have HB1 := Lib.hid (HB0.out.trans (hbx.mono (by have := HZ0.out; omega)))
  have HZ1 : Hid (w.heap.size + 3 ≤ w1.heap.size) := Lib.hid (by have := hbx.size; have := HZ0.out; omega)
  have k0 := HK1.out.cell 0
  have k1 := HK1.out.cell 1
  have k2 := HK1.out.cell 2
  have k3 := HK1.out.cell 3
  have k4 := HK1.out.cell 4
  have k5 := HK1.out.cell 5
  have k6 := HK1.out.cell 6
  have k7 := HK1.out.cell 7
  have k8 := HK1.out.cell 8
  have k9 := HK1.out.cell 9
  have k10 := HK1.out.cell 10
  have k11 := HK1.out.cell 11
  have k12 := HK1.out.cell 12
  have i0 := HI1.out.cell 0
  have i1 := HI1.out.cell 1
  have i2 := HI1.out.cell 2
  have c0 := HC1.out.cell 0
  have c1 := HC1.out.cell 1
  have c2 := HC1.out.cell 2
  have c3 := HC1.out.cell 3
  have c4 := HC1.out.cell 4
  have c5 := HC1.out.cell 5
  have c6 := HC1.out.cell 6
  have c7 := HC1.out.cell 7
  simp only [List.getElem?_cons_zero, List.getElem?_cons_succ] at k0 k1 k2 k3 k4 k5 k6 k7 k8 k9 k10 k11 k12 i0 i1 i2 c0 c1 c2 c3 c4 c5 c6 c7
  have hz0 : w.heap.size < w1.heap.size := by have := HZ1.out; omega
  have hz1 : w.heap.size + 1 < w1.heap.size := by have := HZ1.out; omega
  have hz2 : w.heap.size + 1 + 1 < w1.heap.size := by have := HZ1.out; omega
  clear ho hb hbx HK0 HI0 HC0 HB0 HZ0 HL hva
  have HRi : Hid (IK.Rd ((w1.alloc (.cells #[.int .i64 5, .slice aa 1 ca] aT)).alloc (.cells #[.int .i64 0, .int .i64 3, .int .i64 0] 24)) (.slice (some ⟨w1.heap.size + 1, 0, none⟩) 1 1) [(0, 3, 0)]) := Lib.hid (IK.rd_boxAt (0, 3, 0) 24 1 _ _ (by simp))
  have HM := Lib.hid (merge_any 5 2 _ _ [(0, 1, 0)] [(0, 3, 0)] _ (HRa.out.below (al2 w1 (.cells #[.int .i64 5, .slice aa 1 ca] aT) (.cells #[.int .i64 0, .int .i64 3, .int .i64 0] 24))) (ok_small (by simp)) HRi.out (ok_small (by simp)) (by simp))
  rw [wk_merge] at HM
  go_wp2_with fail
  refine HM.out.mono ?_
  rintro e w2 ⟨vb, he, ho, hb⟩
  have he := he.out
  subst he
  obtain ⟨ab, cb, hvb⟩ := ho.slice
  have hvb' : vb = .slice ab 2 cb := hvb
  subst hvb'
  have hbx : Below w1.heap.size w1 w2 := (al2 _ _ _).trans (hb.mono (by simp; omega))
  have HRb := Lib.hid ho.rd
  have HRa2 := Lib.hid (HRa.out.below hbx)
  have HA2 : Hid (Bk w2 w1.heap.size aT [.int .i64 5, .slice aa 1 ca]) := Lib.hid (Bk.below ((Bk.newAt rfl _ _).old _) hb)
  have HK2 := Lib.hid (HK1.out.below hbx)
  have HI2 := Lib.hid (HI1.out.below hbx)
  have HC2 := Lib.hid (HC1.out.below hbx)
  have HB2 := Lib.hid (HB1.out.trans (hbx.mono (Nat.le_of_lt hz0)))
  have HZ2 : Hid (w1.heap.size < w2.heap.size) := Lib.hid (by have := hb.size; simp at this; omega)
  clear k0 k1 k2 k3 k4 k5 k6 k7 k8 k9 k10 k11 k12 i0 i1 i2 c0 c1 c2 c3 c4 c5 c6 c7
  clear hz0 hz1 hz2 ho hb hbx HM HRi HRa HK1 HI1 HC1 HB1 hvb
  have k0 := HK2.out.cell 0
  have k1 := HK2.out.cell 1
  have k2 := HK2.out.cell 2
  have k3 := HK2.out.cell 3
  have k4 := HK2.out.cell 4
  have k5 := HK2.out.cell 5
  have k6 := HK2.out.cell 6
  have k7 := HK2.out.cell 7
  have k8 := HK2.out.cell 8
  have k9 := HK2.out.cell 9
  have k10 := HK2.out.cell 10
  have k11 := HK2.out.cell 11
  have k12 := HK2.out.cell 12
  have i0 := HI2.out.cell 0
  have i1 := HI2.out.cell 1
  have i2 := HI2.out.cell 2
  have c0 := HC2.out.cell 0
  have c1 := HC2.out.cell 1
  have c2 := HC2.out.cell 2
  have c3 := HC2.out.cell 3
  have c4 := HC2.out.cell 4
  have c5 := HC2.out.cell 5
  have c6 := HC2.out.cell 6
  have c7 := HC2.out.cell 7
  have a0 := HA2.out.cell 0
  have a1 := HA2.out.cell 1
  simp only [List.getElem?_cons_zero, List.getElem?_cons_succ] at k0 k1 k2 k3 k4 k5 k6 k7 k8 k9 k10 k11 k12 i0 i1 i2 c0 c1 c2 c3 c4 c5 c6 c7 a0 a1
  have hz0 : w.heap.size < w2.heap.size := by have := HZ2.out; have := HZ1.out; omega
  have hz1 : w.heap.size + 1 < w2.heap.size := by have := HZ2.out; have := HZ1.out; omega
  have hz2 : w.heap.size + 1 + 1 < w2.heap.size := by have := HZ2.out; have := HZ1.out; omega
  have hz3 := HZ2.out
  go_wp2_with fail
  have HBX : Hid (Below w.heap.size w ((w2.alloc (.cells #[.int .i64 5, .slice ab 2 cb] aT)).alloc (.cells #[.int .i64 0, .int .i64 2, .int .i64 0, .int .i64 2, .int .i64 0, .int .i64 4, .string { data := #[47, 97] }, .string { data := #[] }, .int .i64 0, .int .i64 0, .int .i64 0, .int .i64 5, .slice aa 1 ca] 43))) := Lib.hid (HB2.out.trans ((al2 _ _ _).mono (Nat.le_of_lt hz0)))
  have HXB : Hid (Below w2.heap.size w2 ((w2.alloc (.cells #[.int .i64 5, .slice ab 2 cb] aT)).alloc (.cells #[.int .i64 0, .int .i64 2, .int .i64 0, .int .i64 2, .int .i64 0, .int .i64 4, .string { data := #[47, 97] }, .string { data := #[] }, .int .i64 0, .int .i64 0, .int .i64 0, .int .i64 5, .slice aa 1 ca] 43))) := Lib.hid (al2 _ _ _)
  have B1 : Bk ((w2.alloc (.cells #[.int .i64 5, .slice ab 2 cb] aT)).alloc (.cells #[.int .i64 0, .int .i64 2, .int .i64 0, .int .i64 2, .int .i64 0, .int .i64 4, .string { data := #[47, 97] }, .string { data := #[] }, .int .i64 0, .int .i64 0, .int .i64 0, .int .i64 5, .slice aa 1 ca] 43)) w2.heap.size aT [.int .i64 5, .slice ab 2 cb] := (Bk.newAt rfl _ _).old _
  have B2 : Bk ((w2.alloc (.cells #[.int .i64 5, .slice ab 2 cb] aT)).alloc (.cells #[.int .i64 0, .int .i64 2, .int .i64 0, .int .i64 2, .int .i64 0, .int .i64 4, .string { data := #[47, 97] }, .string { data := #[] }, .int .i64 0, .int .i64 0, .int .i64 0, .int .i64 5, .slice aa 1 ca] 43)) (w2.heap.size + 1) 43 [.int .i64 0, .int .i64 2, .int .i64 0, .int .i64 2, .int .i64 0, .int .i64 4, .string { data := #[47, 97] }, .string { data := #[] }, .int .i64 0, .int .i64 0, .int .i64 0, .int .i64 5, .slice aa 1 ca] := Bk.newAt (by simp) _ _
  have hsx : ((w2.alloc (.cells #[.int .i64 5, .slice ab 2 cb] aT)).alloc (.cells #[.int .i64 0, .int .i64 2, .int .i64 0, .int .i64 2, .int .i64 0, .int .i64 4, .string { data := #[47, 97] }, .string { data := #[] }, .int .i64 0, .int .i64 0, .int .i64 0, .int .i64 5, .slice aa 1 ca] 43)).heap.size = w2.heap.size + 1 + 1 := by simp
  generalize ((w2.alloc (.cells #[.int .i64 5, .slice ab 2 cb] aT)).alloc (.cells #[.int .i64 0, .int .i64 2, .int .i64 0, .int .i64 2, .int .i64 0, .int .i64 4, .string { data := #[47, 97] }, .string { data := #[] }, .int .i64 0, .int .i64 0, .int .i64 0, .int .i64 5, .slice aa 1 ca] 43)) = X at *
  clear k0 k1 k2 k3 k4 k5 k6 k7 k8 k9 k10 k11 k12 i0 i1 i2 c0 c1 c2 c3 c4 c5 c6 c7 a0 a1
  have K2 := HK2.out.below HXB.out
  have I2 := HI2.out.below HXB.out
  have A2 := HA2.out.below HXB.out
  have HRa3 := Lib.hid (HRa2.out.below HXB.out)
  have HRb3 := Lib.hid (HRb.out.below HXB.out)
  obtain ⟨-, ga, offa, haa, hga, hca⟩ := HRa3.out.at (by simp)
  have u0 := hca 0 (by omega) 0 _ rfl
  have u1 := hca 0 (by omega) 1 _ rfl
  have u2 := hca 0 (by omega) 2 _ rfl
  simp only [Nat.zero_mul, Nat.add_zero] at u0 u1 u2
  change X.cell? ⟨ga, offa, none⟩ = some (.int .i64 0) at u0
  change X.cell? ⟨ga, offa + 1, none⟩ = some (.int .i64 1) at u1
  change X.cell? ⟨ga, offa + 2, none⟩ = some (.int .i64 0) at u2
  subst haa
  have k0 := K2.cell 0
  have k1 := K2.cell 1
  have k2 := K2.cell 2
  have k3 := K2.cell 3
  have k4 := K2.cell 4
  have k5 := K2.cell 5
  have k6 := K2.cell 6
  have k7 := K2.cell 7
  have k8 := K2.cell 8
  have k9 := K2.cell 9
  have k10 := K2.cell 10
  have k11 := K2.cell 11
  have k12 := K2.cell 12
  have i0 := I2.cell 0
  have i1 := I2.cell 1
  have i2 := I2.cell 2
  have a0 := A2.cell 0
  have a1 := A2.cell 1
  have b0 := B1.cell 0
  have b1 := B1.cell 1
  have x0 := B2.cell 0
  have x1 := B2.cell 1
  have x2 := B2.cell 2
  have x3 := B2.cell 3
  have x4 := B2.cell 4
  have x5 := B2.cell 5
  have x6 := B2.cell 6
  have x7 := B2.cell 7
  have x8 := B2.cell 8
  have x9 := B2.cell 9
  have x10 := B2.cell 10
  have x11 := B2.cell 11
  have x12 := B2.cell 12
  simp only [List.getElem?_cons_zero, List.getElem?_cons_succ] at k0 k1 k2 k3 k4 k5 k6 k7 k8 k9 k10 k11 k12 i0 i1 i2 a0 a1 b0 b1 x0 x1 x2 x3 x4 x5 x6 x7 x8 x9 x10 x11 x12
  have hX0 : w.heap.size < X.heap.size := by omega
  have hX1 : w.heap.size + 1 < X.heap.size := by omega
  have hX3 : w1.heap.size < X.heap.size := by omega
  have hX4 : w2.heap.size < X.heap.size := by omega
  have hX5 : w2.heap.size + 1 < X.heap.size := by omega
  have OKa := ok_small (l := [(0, 1, 0)]) (by simp)
  have OKb := ok_small (l := [(0, 1, 0), (0, 3, 0)]) (by simp)
  have HC : Hid (∀ w' : World, Below X.heap.size X w' → (Below X.heap.size X w' ∧ w'.cell? ⟨w.heap.size, 0, none⟩ = some (.int .i64 0) ∧ w'.cell? ⟨w.heap.size, 1, none⟩ = some (.int .i64 1) ∧ w'.cell? ⟨w.heap.size, 2, none⟩ = some (.int .i64 0) ∧ w'.cell? ⟨w.heap.size, 3, none⟩ = some (.int .i64 1) ∧ w'.cell? ⟨w.heap.size, 4, none⟩ = some (.int .i64 0) ∧ w'.cell? ⟨w.heap.size, 5, none⟩ = some (.int .i64 3) ∧ w'.cell? ⟨w.heap.size, 6, none⟩ = some (.string { data := #[47, 97] }) ∧ w'.cell? ⟨w.heap.size, 7, none⟩ = some (.string { data := #[] }) ∧ w'.cell? ⟨w.heap.size, 8, none⟩ = some (.int .i64 0) ∧ w'.cell? ⟨w.heap.size, 9, none⟩ = some (.int .i64 0) ∧ w'.cell? ⟨w.heap.size, 10, none⟩ = some (.int .i64 0) ∧ w'.cell? ⟨w.heap.size, 11, none⟩ = some (.int .i64 4) ∧ w'.cell? ⟨w.heap.size, 12, none⟩ = some (.slice none 0 0) ∧ w'.cell? ⟨w.heap.size + 1, 0, none⟩ = some (.int .i64 0) ∧ w'.cell? ⟨w.heap.size + 1, 1, none⟩ = some (.int .i64 2) ∧ w'.cell? ⟨w.heap.size + 1, 2, none⟩ = some (.int .i64 0) ∧ w'.cell? ⟨w1.heap.size, 0, none⟩ = some (.int .i64 5) ∧ w'.cell? ⟨w1.heap.size, 1, none⟩ = some (.slice (some ⟨ga, offa, none⟩) 1 ca) ∧ w'.cell? ⟨w2.heap.size, 0, none⟩ = some (.int .i64 5) ∧ w'.cell? ⟨w2.heap.size, 1, none⟩ = some (.slice ab 2 cb) ∧ w'.cell? ⟨w2.heap.size + 1, 0, none⟩ = some (.int .i64 0) ∧ w'.cell? ⟨w2.heap.size + 1, 1, none⟩ = some (.int .i64 2) ∧ w'.cell? ⟨w2.heap.size + 1, 2, none⟩ = some (.int .i64 0) ∧ w'.cell? ⟨w2.heap.size + 1, 3, none⟩ = some (.int .i64 2) ∧ w'.cell? ⟨w2.heap.size + 1, 4, none⟩ = some (.int .i64 0) ∧ w'.cell? ⟨w2.heap.size + 1, 5, none⟩ = some (.int .i64 4) ∧ w'.cell? ⟨w2.heap.size + 1, 6, none⟩ = some (.string { data := #[47, 97] }) ∧ w'.cell? ⟨w2.heap.size + 1, 7, none⟩ = some (.string { data := #[] }) ∧ w'.cell? ⟨w2.heap.size + 1, 8, none⟩ = some (.int .i64 0) ∧ w'.cell? ⟨w2.heap.size + 1, 9, none⟩ = some (.int .i64 0) ∧ w'.cell? ⟨w2.heap.size + 1, 10, none⟩ = some (.int .i64 0) ∧ w'.cell? ⟨w2.heap.size + 1, 11, none⟩ = some (.int .i64 5) ∧ w'.cell? ⟨w2.heap.size + 1, 12, none⟩ = some (.slice (some ⟨ga, offa, none⟩) 1 ca) ∧ w'.cell? ⟨ga, offa, none⟩ = some (.int .i64 0) ∧ w'.cell? ⟨ga, offa + 1, none⟩ = some (.int .i64 1) ∧ w'.cell? ⟨ga, offa + 2, none⟩ = some (.int .i64 0))) := Lib.hid (fun w' hb => ⟨hb, (hb.cell (p := ⟨w.heap.size, 0, none⟩) hX0).trans k0, (hb.cell (p := ⟨w.heap.size, 1, none⟩) hX0).trans k1, (hb.cell (p := ⟨w.heap.size, 2, none⟩) hX0).trans k2, (hb.cell (p := ⟨w.heap.size, 3, none⟩) hX0).trans k3, (hb.cell (p := ⟨w.heap.size, 4, none⟩) hX0).trans k4, (hb.cell (p := ⟨w.heap.size, 5, none⟩) hX0).trans k5, (hb.cell (p := ⟨w.heap.size, 6, none⟩) hX0).trans k6, (hb.cell (p := ⟨w.heap.size, 7, none⟩) hX0).trans k7, (hb.cell (p := ⟨w.heap.size, 8, none⟩) hX0).trans k8, (hb.cell (p := ⟨w.heap.size, 9, none⟩) hX0).trans k9, (hb.cell (p := ⟨w.heap.size, 10, none⟩) hX0).trans k10, (hb.cell (p := ⟨w.heap.size, 11, none⟩) hX0).trans k11, (hb.cell (p := ⟨w.heap.size, 12, none⟩) hX0).trans k12, (hb.cell (p := ⟨w.heap.size + 1, 0, none⟩) hX1).trans i0, (hb.cell (p := ⟨w.heap.size + 1, 1, none⟩) hX1).trans i1, (hb.cell (p := ⟨w.heap.size + 1, 2, none⟩) hX1).trans i2, (hb.cell (p := ⟨w1.heap.size, 0, none⟩) hX3).trans a0, (hb.cell (p := ⟨w1.heap.size, 1, none⟩) hX3).trans a1, (hb.cell (p := ⟨w2.heap.size, 0, none⟩) hX4).trans b0, (hb.cell (p := ⟨w2.heap.size, 1, none⟩) hX4).trans b1, (hb.cell (p := ⟨w2.heap.size + 1, 0, none⟩) hX5).trans x0, (hb.cell (p := ⟨w2.heap.size + 1, 1, none⟩) hX5).trans x1, (hb.cell (p := ⟨w2.heap.size + 1, 2, none⟩) hX5).trans x2, (hb.cell (p := ⟨w2.heap.size + 1, 3, none⟩) hX5).trans x3, (hb.cell (p := ⟨w2.heap.size + 1, 4, none⟩) hX5).trans x4, (hb.cell (p := ⟨w2.heap.size + 1, 5, none⟩) hX5).trans x5, (hb.cell (p := ⟨w2.heap.size + 1, 6, none⟩) hX5).trans x6, (hb.cell (p := ⟨w2.heap.size + 1, 7, none⟩) hX5).trans x7, (hb.cell (p := ⟨w2.heap.size + 1, 8, none⟩) hX5).trans x8, (hb.cell (p := ⟨w2.heap.size + 1, 9, none⟩) hX5).trans x9, (hb.cell (p := ⟨w2.heap.size + 1, 10, none⟩) hX5).trans x10, (hb.cell (p := ⟨w2.heap.size + 1, 11, none⟩) hX5).trans x11, (hb.cell (p := ⟨w2.heap.size + 1, 12, none⟩) hX5).trans x12, (hb.cell (p := ⟨ga, offa, none⟩) hga).trans u0, (hb.cell (p := ⟨ga, offa + 1, none⟩) hga).trans u1, (hb.cell (p := ⟨ga, offa + 2, none⟩) hga).trans u2⟩)
  have CV : Hid (∀ W : World, Below X.heap.size X W → Calls Tryz.prog 11 #[.agg #[.int .i64 0, .int .i64 2, .int .i64 0], .agg #[.int .i64 5, .slice ab 2 cb]] W fun e w' => e = .returned (.bool true) ∧ Below W.heap.size W w') := Lib.hid (fun W hW => by
    have h := avalid_any 0 2 0 5 _ [(0, 1, 0), (0, 3, 0)] W (HRb3.out.below hW) (by simp)
    rw [wk_valid] at h
    exact h)
  have CS : Hid (∀ W : World, Below X.heap.size X W → Calls Tryz.prog 14 #[.agg #[.int .i64 5, .slice (some ⟨ga, offa, none⟩) 1 ca], .agg #[.int .i64 5, .slice (some ⟨ga, offa, none⟩) 1 ca]] W fun e w' => e = .returned (.bool true) ∧ Below W.heap.size W w') := Lib.hid (fun W hW => by
    have h := asame_any 5 5 _ _ [(0, 1, 0)] [(0, 1, 0)] W (HRa3.out.below hW) OKa (by simp) (HRa3.out.below hW) OKa (by simp)
    rw [sameA_self] at h
    exact h)
  have CL : Hid (∀ W : World, Below X.heap.size X W → Calls Tryz.prog 15 #[.agg #[.int .i64 0, .int .i64 1, .int .i64 0, .int .i64 1, .int .i64 0, .int .i64 3, .string { data := #[47, 97] }, .string { data := #[] }, .int .i64 0, .int .i64 0, .int .i64 0, .int .i64 4, .slice none 0 0], .agg #[.int .i64 0, .int .i64 2, .int .i64 0, .int .i64 2, .int .i64 0, .int .i64 4, .string { data := #[47, 97] }, .string { data := #[] }, .int .i64 0, .int .i64 0, .int .i64 0, .int .i64 5, .slice (some ⟨ga, offa, none⟩) 1 ca]] W fun e w' => e = .returned (.bool true) ∧ Below W.heap.size W w') := Lib.hid (fun W hW => by
    have h := linked_any wK ⟨(0, 2, 0), wC, (5, [(0, 1, 0)])⟩ (.slice none 0 0) _ W (Knd.Rd.nil _) (by simp [wK]) (HRa3.out.below hW) (by simp)
    rw [wk_linked] at h
    exact h)
  have CG : Hid (∀ W : World, Below X.heap.size X W → Calls Tryz.prog 16 #[.slice (some ⟨W.heap.size, 0, none⟩) 2 2] (W.alloc (.cells #[.int .i64 5, .slice (some ⟨ga, offa, none⟩) 1 ca, .int .i64 5, .slice (some ⟨ga, offa, none⟩) 1 ca] aT)) fun e w' => e = .returned (.bool true) ∧ Below W.heap.size W w') := Lib.hid (fun W hW => by
    have h := agree2_any 5 _ [(0, 1, 0)] W _ rfl (HRa3.out.below hW) OKa (by simp)
    exact h)
  have CA : Hid (∀ W : World, Below X.heap.size X W → Calls Tryz.prog 17 #[.slice (some ⟨W.heap.size, 0, none⟩) 2 2] (W.alloc (.cells #[.int .i64 5, .slice (some ⟨ga, offa, none⟩) 1 ca, .int .i64 5, .slice ab 2 cb] aT)) fun e w' => (∃ v, e = .returned (.agg #[.int .i64 5, v])) ∧ Below W.heap.size W w') := Lib.hid (fun W hW => by
    obtain ⟨rs, hr⟩ := row_lit2 W _ rfl 5 5 _ _ [(0, 1, 0)] [(0, 1, 0), (0, 3, 0)] (HRa3.out.below hW) OKa (HRb3.out.below hW) OKb
    have h := all_any _ rs _ _ hr (by simp) (by simp [dpA])
    rw [wk_all] at h
    exact h.mono fun e w' ⟨v, he, _, hb⟩ => ⟨⟨v, he.out⟩, (al1 _ _).trans (hb.mono (by simp))⟩)
  obtain ⟨heq, hgd⟩ := eqI_run 0 1 0 0 1 0
  rw [show decide (((0, 1, 0) : I3) = (0, 1, 0)) = true from rfl] at heq
  clear HZ1 HZ2 HRa2 HRb HA2 HK2 HI2 HC2 HB2 HXB hz0 hz1 hz2 hz3 B1 B2 hsx K2 I2 A2 HRa3 HRb3 hca OKa OKb hga hX1 hX3 hX4 hX5 k0 k1 k2 k3 k4 k5 k6 k7 k8 k9 k10 k11 k12 i0 i1 i2 a0 a1 b0 b1 x0 x1 x2 x3 x4 x5 x6 x7 x8 x9 x10 x11 x12 u0 u1 u2
  refine wp_region_held_drew (S := (fun w' => Below X.heap.size X w' ∧ w'.cell? ⟨w.heap.size, 0, none⟩ = some (.int .i64 0) ∧ w'.cell? ⟨w.heap.size, 1, none⟩ = some (.int .i64 1) ∧ w'.cell? ⟨w.heap.size, 2, none⟩ = some (.int .i64 0) ∧ w'.cell? ⟨w.heap.size, 3, none⟩ = some (.int .i64 1) ∧ w'.cell? ⟨w.heap.size, 4, none⟩ = some (.int .i64 0) ∧ w'.cell? ⟨w.heap.size, 5, none⟩ = some (.int .i64 3) ∧ w'.cell? ⟨w.heap.size, 6, none⟩ = some (.string { data := #[47, 97] }) ∧ w'.cell? ⟨w.heap.size, 7, none⟩ = some (.string { data := #[] }) ∧ w'.cell? ⟨w.heap.size, 8, none⟩ = some (.int .i64 0) ∧ w'.cell? ⟨w.heap.size, 9, none⟩ = some (.int .i64 0) ∧ w'.cell? ⟨w.heap.size, 10, none⟩ = some (.int .i64 0) ∧ w'.cell? ⟨w.heap.size, 11, none⟩ = some (.int .i64 4) ∧ w'.cell? ⟨w.heap.size, 12, none⟩ = some (.slice none 0 0) ∧ w'.cell? ⟨w.heap.size + 1, 0, none⟩ = some (.int .i64 0) ∧ w'.cell? ⟨w.heap.size + 1, 1, none⟩ = some (.int .i64 2) ∧ w'.cell? ⟨w.heap.size + 1, 2, none⟩ = some (.int .i64 0) ∧ w'.cell? ⟨w1.heap.size, 0, none⟩ = some (.int .i64 5) ∧ w'.cell? ⟨w1.heap.size, 1, none⟩ = some (.slice (some ⟨ga, offa, none⟩) 1 ca) ∧ w'.cell? ⟨w2.heap.size, 0, none⟩ = some (.int .i64 5) ∧ w'.cell? ⟨w2.heap.size, 1, none⟩ = some (.slice ab 2 cb) ∧ w'.cell? ⟨w2.heap.size + 1, 0, none⟩ = some (.int .i64 0) ∧ w'.cell? ⟨w2.heap.size + 1, 1, none⟩ = some (.int .i64 2) ∧ w'.cell? ⟨w2.heap.size + 1, 2, none⟩ = some (.int .i64 0) ∧ w'.cell? ⟨w2.heap.size + 1, 3, none⟩ = some (.int .i64 2) ∧ w'.cell? ⟨w2.heap.size + 1, 4, none⟩ = some (.int .i64 0) ∧ w'.cell? ⟨w2.heap.size + 1, 5, none⟩ = some (.int .i64 4) ∧ w'.cell? ⟨w2.heap.size + 1, 6, none⟩ = some (.string { data := #[47, 97] }) ∧ w'.cell? ⟨w2.heap.size + 1, 7, none⟩ = some (.string { data := #[] }) ∧ w'.cell? ⟨w2.heap.size + 1, 8, none⟩ = some (.int .i64 0) ∧ w'.cell? ⟨w2.heap.size + 1, 9, none⟩ = some (.int .i64 0) ∧ w'.cell? ⟨w2.heap.size + 1, 10, none⟩ = some (.int .i64 0) ∧ w'.cell? ⟨w2.heap.size + 1, 11, none⟩ = some (.int .i64 5) ∧ w'.cell? ⟨w2.heap.size + 1, 12, none⟩ = some (.slice (some ⟨ga, offa, none⟩) 1 ca) ∧ w'.cell? ⟨ga, offa, none⟩ = some (.int .i64 0) ∧ w'.cell? ⟨ga, offa + 1, none⟩ = some (.int .i64 1) ∧ w'.cell? ⟨ga, offa + 2, none⟩ = some (.int .i64 0))) (by kernel_rfl) ?_ (fun hHeld => ?_)
  · ((first
      | exact HC.out _ hS5
      | exact HC.out _ (Below.alloc hHeld.1 (Below.size hHeld.1) _)
      | exact HC.out _ (Below.drew hHeld.1)
      | exact HC.out _ (Below.refl _ _).drew
      | exact HC.out _ (Below.refl _ _)
      | fail))
  refine wpAnyH_take (i := 0) (v := ?_) rfl (by kernel_rfl) (by kernel_rfl) (by kernel_rfl) (fun _ _ _ h => h) (Or.inl ⟨by rfl, ?_⟩) (by assumption) ?_
  rotate_left
  · (intro w hSw; (try dsimp only at hSw); go_simp; try rfl)
  try simp only [Act.put, List.setIfInBounds_toArray, List.set_cons_zero, List.set_cons_succ, List.getElem_toArray, List.getElem_cons_zero, List.getElem_cons_succ]
  refine wpAnyH_take (i := 1) (v := ?_) rfl (by kernel_rfl) (by kernel_rfl) (by kernel_rfl) (fun _ _ _ h => h) (Or.inl ⟨by rfl, ?_⟩) (by assumption) ?_
  rotate_left
  · (intro w hSw; (try dsimp only at hSw); go_simp; try rfl)
  try simp only [Act.put, List.setIfInBounds_toArray, List.set_cons_zero, List.set_cons_succ, List.getElem_toArray, List.getElem_cons_zero, List.getElem_cons_succ]
  refine wpAnyH_take (i := 2) (v := ?_) rfl (by kernel_rfl) (by kernel_rfl) (by kernel_rfl) (fun _ _ _ h => h) (Or.inl ⟨by rfl, ?_⟩) (by assumption) ?_
  rotate_left
  · (intro w hSw; (try dsimp only at hSw); go_simp; try rfl)
  try simp only [Act.put, List.setIfInBounds_toArray, List.set_cons_zero, List.set_cons_succ, List.getElem_toArray, List.getElem_cons_zero, List.getElem_cons_succ]
  refine wpAnyH_take (i := 3) (v := ?_) rfl (by kernel_rfl) (by kernel_rfl) (by kernel_rfl) (fun _ _ _ h => h) (Or.inl ⟨by rfl, ?_⟩) (by assumption) ?_
  rotate_left
  · (intro w hSw; (try dsimp only at hSw); go_simp; try rfl)
  try simp only [Act.put, List.setIfInBounds_toArray, List.set_cons_zero, List.set_cons_succ, List.getElem_toArray, List.getElem_cons_zero, List.getElem_cons_succ]
  refine wpAnyH_take (i := 4) (v := ?_) rfl (by kernel_rfl) (by kernel_rfl) (by kernel_rfl) (fun _ _ _ h => h) (Or.inl ⟨by rfl, ?_⟩) (by assumption) ?_
  rotate_left
  · (intro w hSw; (try dsimp only at hSw); go_simp; try rfl)
  try simp only [Act.put, List.setIfInBounds_toArray, List.set_cons_zero, List.set_cons_succ, List.getElem_toArray, List.getElem_cons_zero, List.getElem_cons_succ]
  refine wpAnyH_take (i := 5) (v := ?_) rfl (by kernel_rfl) (by kernel_rfl) (by kernel_rfl) (fun _ _ _ h => h) (Or.inl ⟨by rfl, ?_⟩) (by assumption) ?_
  rotate_left
  · (intro w hSw; (try dsimp only at hSw); go_simp; try rfl)
  try simp only [Act.put, List.setIfInBounds_toArray, List.set_cons_zero, List.set_cons_succ, List.getElem_toArray, List.getElem_cons_zero, List.getElem_cons_succ]
  refine wpAnyH_ready (rs := [6]) (by kernel_rfl) (by simp) ?_
  refine (AllReadyH.cons rfl (fun K hK => ?_) AllReadyH.nil)
  go_simp
  refine hK.out _ _ ?_ (fun hHeldN => ?_)
  · ((first
      | exact HC.out _ hS5
      | exact HC.out _ (Below.alloc hHeld.1 (Below.size hHeld.1) _)
      | exact HC.out _ (Below.drew hHeld.1)
      | exact HC.out _ (Below.refl _ _).drew
      | exact HC.out _ (Below.refl _ _)
      | fail))
  clear hK K
  try clear hS5 hbw5
  try clear hPrev
  have hPrev := Lib.hid hHeld.1
  clear hHeld
  have hHeld := hHeldN
  clear hHeldN
  try simp only [Act.put, List.setIfInBounds_toArray, List.set_cons_zero, List.set_cons_succ, List.getElem_toArray, List.getElem_cons_zero, List.getElem_cons_succ]
  refine wpAnyH_take (i := 7) (v := ?_) rfl (by kernel_rfl) (by kernel_rfl) (by kernel_rfl) (fun _ _ _ h => h) (Or.inl ⟨by rfl, ?_⟩) (by assumption) ?_
  rotate_left
  · (intro w hSw; (try dsimp only at hSw); go_simp; try rfl)
  try simp only [Act.put, List.setIfInBounds_toArray, List.set_cons_zero, List.set_cons_succ, List.getElem_toArray, List.getElem_cons_zero, List.getElem_cons_succ]
  refine wpAnyH_take (i := 8) (v := ?_) rfl (by kernel_rfl) (by kernel_rfl) (by kernel_rfl) (fun _ _ _ h => h) (Or.inl ⟨by rfl, ?_⟩) (by assumption) ?_
  rotate_left
  · (intro w hSw; (try dsimp only at hSw); go_simp; try rfl)
  try simp only [Act.put, List.setIfInBounds_toArray, List.set_cons_zero, List.set_cons_succ, List.getElem_toArray, List.getElem_cons_zero, List.getElem_cons_succ]
  refine wpAnyH_take (i := 9) (v := ?_) rfl (by kernel_rfl) (by kernel_rfl) (by kernel_rfl) (fun _ _ _ h => h) (Or.inl ⟨by rfl, ?_⟩) (by assumption) ?_
  rotate_left
  · (intro w hSw; (try dsimp only at hSw); go_simp; try rfl)
  try simp only [Act.put, List.setIfInBounds_toArray, List.set_cons_zero, List.set_cons_succ, List.getElem_toArray, List.getElem_cons_zero, List.getElem_cons_succ]
  refine wpAnyH_take (i := 10) (v := ?_) rfl (by kernel_rfl) (by kernel_rfl) (by kernel_rfl) (fun _ _ _ h => h) (Or.inl ⟨by rfl, ?_⟩) (by assumption) ?_
  rotate_left
  · (intro w hSw; (try dsimp only at hSw); go_simp; try rfl)
  try simp only [Act.put, List.setIfInBounds_toArray, List.set_cons_zero, List.set_cons_succ, List.getElem_toArray, List.getElem_cons_zero, List.getElem_cons_succ]
  refine wpAnyH_take (i := 11) (v := ?_) rfl (by kernel_rfl) (by kernel_rfl) (by kernel_rfl) (fun _ _ _ h => h) (Or.inl ⟨by rfl, ?_⟩) (by assumption) ?_
  rotate_left
  · (intro w hSw; (try dsimp only at hSw); go_simp; try rfl)
  try simp only [Act.put, List.setIfInBounds_toArray, List.set_cons_zero, List.set_cons_succ, List.getElem_toArray, List.getElem_cons_zero, List.getElem_cons_succ]
  refine wpAnyH_take (i := 12) (v := ?_) rfl (by kernel_rfl) (by kernel_rfl) (by kernel_rfl) (fun _ _ _ h => h) (Or.inl ⟨by rfl, ?_⟩) (by assumption) ?_
  rotate_left
  · (intro w hSw; (try dsimp only at hSw); go_simp; try rfl)
  try simp only [Act.put, List.setIfInBounds_toArray, List.set_cons_zero, List.set_cons_succ, List.getElem_toArray, List.getElem_cons_zero, List.getElem_cons_succ]
  refine wpAnyH_take (i := 13) (v := ?_) rfl (by kernel_rfl) (by kernel_rfl) (by kernel_rfl) (fun _ _ _ h => h) (Or.inl ⟨by rfl, ?_⟩) (by assumption) ?_
  rotate_left
  · (intro w hSw; (try dsimp only at hSw); go_simp; try rfl)
  try simp only [Act.put, List.setIfInBounds_toArray, List.set_cons_zero, List.set_cons_succ, List.getElem_toArray, List.getElem_cons_zero, List.getElem_cons_succ]
  refine wpAnyH_take (i := 14) (v := ?_) rfl (by kernel_rfl) (by kernel_rfl) (by kernel_rfl) (fun _ _ _ h => h) (Or.inl ⟨by rfl, ?_⟩) (by assumption) ?_
  rotate_left
  · (intro w hSw; (try dsimp only at hSw); go_simp; try rfl)
  try simp only [Act.put, List.setIfInBounds_toArray, List.set_cons_zero, List.set_cons_succ, List.getElem_toArray, List.getElem_cons_zero, List.getElem_cons_succ]
  refine wpAnyH_take (i := 15) (v := ?_) rfl (by kernel_rfl) (by kernel_rfl) (by kernel_rfl) (fun _ _ _ h => h) (Or.inl ⟨by rfl, ?_⟩) (by assumption) ?_
  rotate_left
  · (intro w hSw; (try dsimp only at hSw); go_simp; try rfl)
  try simp only [Act.put, List.setIfInBounds_toArray, List.set_cons_zero, List.set_cons_succ, List.getElem_toArray, List.getElem_cons_zero, List.getElem_cons_succ]
  refine wpAnyH_take (i := 16) (v := ?_) rfl (by kernel_rfl) (by kernel_rfl) (by kernel_rfl) (fun _ _ _ h => h) (Or.inl ⟨by rfl, ?_⟩) (by assumption) ?_
  rotate_left
  · (intro w hSw; (try dsimp only at hSw); go_simp; try rfl)
  try simp only [Act.put, List.setIfInBounds_toArray, List.set_cons_zero, List.set_cons_succ, List.getElem_toArray, List.getElem_cons_zero, List.getElem_cons_succ]
  refine wpAnyH_take (i := 17) (v := ?_) rfl (by kernel_rfl) (by kernel_rfl) (by kernel_rfl) (fun _ _ _ h => h) (Or.inl ⟨by rfl, ?_⟩) (by assumption) ?_
  rotate_left
  · (intro w hSw; (try dsimp only at hSw); go_simp; try rfl)
  try simp only [Act.put, List.setIfInBounds_toArray, List.set_cons_zero, List.set_cons_succ, List.getElem_toArray, List.getElem_cons_zero, List.getElem_cons_succ]
  refine wpAnyH_take (i := 18) (v := ?_) rfl (by kernel_rfl) (by kernel_rfl) (by kernel_rfl) (fun _ _ _ h => h) (Or.inl ⟨by rfl, ?_⟩) (by assumption) ?_
  rotate_left
  · (intro w hSw; (try dsimp only at hSw); go_simp; try rfl)
  try simp only [Act.put, List.setIfInBounds_toArray, List.set_cons_zero, List.set_cons_succ, List.getElem_toArray, List.getElem_cons_zero, List.getElem_cons_succ]
  refine wpAnyH_take (i := 19) (v := ?_) rfl (by kernel_rfl) (by kernel_rfl) (by kernel_rfl) (fun _ _ _ h => h) (Or.inl ⟨by rfl, ?_⟩) (by assumption) ?_
  rotate_left
  · (intro w hSw; (try dsimp only at hSw); go_simp; try rfl)
  try simp only [Act.put, List.setIfInBounds_toArray, List.set_cons_zero, List.set_cons_succ, List.getElem_toArray, List.getElem_cons_zero, List.getElem_cons_succ]
  refine wpAnyH_take (i := 20) (v := ?_) rfl (by kernel_rfl) (by kernel_rfl) (by kernel_rfl) (fun _ _ _ h => h) (Or.inl ⟨by rfl, ?_⟩) (by assumption) ?_
  rotate_left
  · (intro w hSw; (try dsimp only at hSw); go_simp; try rfl)
  try simp only [Act.put, List.setIfInBounds_toArray, List.set_cons_zero, List.set_cons_succ, List.getElem_toArray, List.getElem_cons_zero, List.getElem_cons_succ]
  refine wpAnyH_take (i := 21) (v := ?_) rfl (by kernel_rfl) (by kernel_rfl) (by kernel_rfl) (fun _ _ _ h => h) (Or.inl ⟨by rfl, ?_⟩) (by assumption) ?_
  rotate_left
  · (intro w hSw; (try dsimp only at hSw); go_simp; try rfl)
  try simp only [Act.put, List.setIfInBounds_toArray, List.set_cons_zero, List.set_cons_succ, List.getElem_toArray, List.getElem_cons_zero, List.getElem_cons_succ]
  refine wpAnyH_take (i := 22) (v := ?_) rfl (by kernel_rfl) (by kernel_rfl) (by kernel_rfl) (fun _ _ _ h => h) (Or.inl ⟨by rfl, ?_⟩) (by assumption) ?_
  rotate_left
  · (intro w hSw; (try dsimp only at hSw); go_simp; try rfl)
  try simp only [Act.put, List.setIfInBounds_toArray, List.set_cons_zero, List.set_cons_succ, List.getElem_toArray, List.getElem_cons_zero, List.getElem_cons_succ]
  refine wpAnyH_take (i := 23) (v := ?_) rfl (by kernel_rfl) (by kernel_rfl) (by kernel_rfl) (fun _ _ _ h => h) (Or.inl ⟨by rfl, ?_⟩) (by assumption) ?_
  rotate_left
  · (intro w hSw; (try dsimp only at hSw); go_simp; try rfl)
  try simp only [Act.put, List.setIfInBounds_toArray, List.set_cons_zero, List.set_cons_succ, List.getElem_toArray, List.getElem_cons_zero, List.getElem_cons_succ]
  refine wpAnyH_take (i := 24) (v := ?_) rfl (by kernel_rfl) (by kernel_rfl) (by kernel_rfl) (fun _ _ _ h => h) (Or.inl ⟨by rfl, ?_⟩) (by assumption) ?_
  rotate_left
  · (intro w hSw; (try dsimp only at hSw); go_simp; try rfl)
  try simp only [Act.put, List.setIfInBounds_toArray, List.set_cons_zero, List.set_cons_succ, List.getElem_toArray, List.getElem_cons_zero, List.getElem_cons_succ]
  refine wpAnyH_take (i := 25) (v := ?_) rfl (by kernel_rfl) (by kernel_rfl) (by kernel_rfl) (fun _ _ _ h => h) (Or.inl ⟨by rfl, ?_⟩) (by assumption) ?_
  rotate_left
  · (intro w hSw; (try dsimp only at hSw); go_simp; try rfl)
  try simp only [Act.put, List.setIfInBounds_toArray, List.set_cons_zero, List.set_cons_succ, List.getElem_toArray, List.getElem_cons_zero, List.getElem_cons_succ]
  refine wpAnyH_ready (rs := [26]) (by kernel_rfl) (by simp) ?_
  refine (AllReadyH.cons rfl (fun K hK => ?_) AllReadyH.nil)
  go_simp
  refine hK.out _ _ ?_ (fun hHeldN => ?_)
  · ((first
      | exact HC.out _ hS5
      | exact HC.out _ (Below.alloc hHeld.1 (Below.size hHeld.1) _)
      | exact HC.out _ (Below.drew hHeld.1)
      | exact HC.out _ (Below.refl _ _).drew
      | exact HC.out _ (Below.refl _ _)
      | fail))
  clear hK K
  try clear hS5 hbw5
  try clear hPrev
  have hPrev := Lib.hid hHeld.1
  clear hHeld
  have hHeld := hHeldN
  clear hHeldN
  try simp only [Act.put, List.setIfInBounds_toArray, List.set_cons_zero, List.set_cons_succ, List.getElem_toArray, List.getElem_cons_zero, List.getElem_cons_succ]
  refine wpAnyH_take (i := 27) (v := ?_) rfl (by kernel_rfl) (by kernel_rfl) (by kernel_rfl) (fun _ _ _ h => h) (Or.inl ⟨by rfl, ?_⟩) (by assumption) ?_
  rotate_left
  · (intro w hSw; (try dsimp only at hSw); go_simp; try rfl)
  try simp only [Act.put, List.setIfInBounds_toArray, List.set_cons_zero, List.set_cons_succ, List.getElem_toArray, List.getElem_cons_zero, List.getElem_cons_succ]
  refine wpAnyH_take (i := 28) (v := ?_) rfl (by kernel_rfl) (by kernel_rfl) (by kernel_rfl) (fun _ _ _ h => h) (Or.inl ⟨by rfl, ?_⟩) (by assumption) ?_
  rotate_left
  · (intro w hSw; (try dsimp only at hSw); go_simp; try rfl)
  try simp only [Act.put, List.setIfInBounds_toArray, List.set_cons_zero, List.set_cons_succ, List.getElem_toArray, List.getElem_cons_zero, List.getElem_cons_succ]
  refine wpAnyH_take (i := 29) (v := ?_) rfl (by kernel_rfl) (by kernel_rfl) (by kernel_rfl) (fun _ _ _ h => h) (Or.inl ⟨by rfl, ?_⟩) (by assumption) ?_
  rotate_left
  · (intro w hSw; (try dsimp only at hSw); go_simp; try rfl)
  try simp only [Act.put, List.setIfInBounds_toArray, List.set_cons_zero, List.set_cons_succ, List.getElem_toArray, List.getElem_cons_zero, List.getElem_cons_succ]
  refine wpAnyH_take (i := 30) (v := ?_) rfl (by kernel_rfl) (by kernel_rfl) (by kernel_rfl) (fun _ _ _ h => h) (Or.inl ⟨by rfl, ?_⟩) (by assumption) ?_
  rotate_left
  · (intro w hSw; (try dsimp only at hSw); go_simp; try rfl)
  try simp only [Act.put, List.setIfInBounds_toArray, List.set_cons_zero, List.set_cons_succ, List.getElem_toArray, List.getElem_cons_zero, List.getElem_cons_succ]
  refine wpAnyH_take (i := 31) (v := ?_) rfl (by kernel_rfl) (by kernel_rfl) (by kernel_rfl) (fun _ _ _ h => h) (Or.inl ⟨by rfl, ?_⟩) (by assumption) ?_
  rotate_left
  · (intro w hSw; (try dsimp only at hSw); go_simp; try rfl)
  try simp only [Act.put, List.setIfInBounds_toArray, List.set_cons_zero, List.set_cons_succ, List.getElem_toArray, List.getElem_cons_zero, List.getElem_cons_succ]
  refine wpAnyH_ready (rs := [32]) (by kernel_rfl) (by simp) ?_
  refine (AllReadyH.cons rfl (fun K hK => ?_) AllReadyH.nil)
  go_simp
  (go_at_call 11; refine (CV.out _ hHeld.1).mono ?_; rintro e w5 ⟨rfl, hbw5⟩; have hS5 : Below X.heap.size X w5 := below_self hHeld.1 hbw5)
  refine hK.out _ _ ?_ (fun hHeldN => ?_)
  · ((first
      | exact HC.out _ hS5
      | exact HC.out _ (Below.alloc hHeld.1 (Below.size hHeld.1) _)
      | exact HC.out _ (Below.drew hHeld.1)
      | exact HC.out _ (Below.refl _ _).drew
      | exact HC.out _ (Below.refl _ _)
      | fail))
  clear hK K
  try clear hS5 hbw5
  try clear hPrev
  have hPrev := Lib.hid hHeld.1
  clear hHeld
  have hHeld := hHeldN
  clear hHeldN
  try simp only [Act.put, List.setIfInBounds_toArray, List.set_cons_zero, List.set_cons_succ, List.getElem_toArray, List.getElem_cons_zero, List.getElem_cons_succ]
  refine wpAnyH_take (i := 33) (v := ?_) rfl (by kernel_rfl) (by kernel_rfl) (by kernel_rfl) (fun _ _ _ h => h) (Or.inl ⟨by rfl, ?_⟩) (by assumption) ?_
  rotate_left
  · (intro w hSw; (try dsimp only at hSw); go_simp; try rfl)
  try simp only [Act.put, List.setIfInBounds_toArray, List.set_cons_zero, List.set_cons_succ, List.getElem_toArray, List.getElem_cons_zero, List.getElem_cons_succ]
  refine wpAnyH_take (i := 34) (v := ?_) rfl (by kernel_rfl) (by kernel_rfl) (by kernel_rfl) (fun _ _ _ h => h) (Or.inl ⟨by rfl, ?_⟩) (by assumption) ?_
  rotate_left
  · (intro w hSw; (try dsimp only at hSw); go_simp; try rfl)
  try simp only [Act.put, List.setIfInBounds_toArray, List.set_cons_zero, List.set_cons_succ, List.getElem_toArray, List.getElem_cons_zero, List.getElem_cons_succ]
  refine wpAnyH_take (i := 35) (v := ?_) rfl (by kernel_rfl) (by kernel_rfl) (by kernel_rfl) (fun _ _ _ h => h) (Or.inl ⟨by rfl, ?_⟩) (by assumption) ?_
  rotate_left
  · (intro w hSw; (try dsimp only at hSw); go_simp; try rfl)
  try simp only [Act.put, List.setIfInBounds_toArray, List.set_cons_zero, List.set_cons_succ, List.getElem_toArray, List.getElem_cons_zero, List.getElem_cons_succ]
  refine wpAnyH_take (i := 36) (v := ?_) rfl (by kernel_rfl) (by kernel_rfl) (by kernel_rfl) (fun _ _ _ h => h) (Or.inl ⟨by rfl, ?_⟩) (by assumption) ?_
  rotate_left
  · (intro w hSw; (try dsimp only at hSw); go_simp; try rfl)
  try simp only [Act.put, List.setIfInBounds_toArray, List.set_cons_zero, List.set_cons_succ, List.getElem_toArray, List.getElem_cons_zero, List.getElem_cons_succ]
  refine wpAnyH_ready (rs := [37]) (by kernel_rfl) (by simp) ?_
  refine (AllReadyH.cons rfl (fun K hK => ?_) AllReadyH.nil)
  go_simp
  (go_at_call 14; refine (CS.out _ hHeld.1).mono ?_; rintro e w5 ⟨rfl, hbw5⟩; have hS5 : Below X.heap.size X w5 := below_self hHeld.1 hbw5)
  refine hK.out _ _ ?_ (fun hHeldN => ?_)
  · ((first
      | exact HC.out _ hS5
      | exact HC.out _ (Below.alloc hHeld.1 (Below.size hHeld.1) _)
      | exact HC.out _ (Below.drew hHeld.1)
      | exact HC.out _ (Below.refl _ _).drew
      | exact HC.out _ (Below.refl _ _)
      | fail))
  clear hK K
  try clear hS5 hbw5
  try clear hPrev
  have hPrev := Lib.hid hHeld.1
  clear hHeld
  have hHeld := hHeldN
  clear hHeldN
  try simp only [Act.put, List.setIfInBounds_toArray, List.set_cons_zero, List.set_cons_succ, List.getElem_toArray, List.getElem_cons_zero, List.getElem_cons_succ]
  refine wpAnyH_take (i := 38) (v := ?_) rfl (by kernel_rfl) (by kernel_rfl) (by kernel_rfl) (fun _ _ _ h => h) (Or.inl ⟨by rfl, ?_⟩) (by assumption) ?_
  rotate_left
  · (intro w hSw; (try dsimp only at hSw); go_simp; try rfl)
  try simp only [Act.put, List.setIfInBounds_toArray, List.set_cons_zero, List.set_cons_succ, List.getElem_toArray, List.getElem_cons_zero, List.getElem_cons_succ]
  refine wpAnyH_take (i := 39) (v := ?_) rfl (by kernel_rfl) (by kernel_rfl) (by kernel_rfl) (fun _ _ _ h => h) (Or.inl ⟨by rfl, ?_⟩) (by assumption) ?_
  rotate_left
  · (intro w hSw; (try dsimp only at hSw); go_simp; try rfl)
  try simp only [Act.put, List.setIfInBounds_toArray, List.set_cons_zero, List.set_cons_succ, List.getElem_toArray, List.getElem_cons_zero, List.getElem_cons_succ]
  refine wpAnyH_take (i := 40) (v := ?_) rfl (by kernel_rfl) (by kernel_rfl) (by kernel_rfl) (fun _ _ _ h => h) (Or.inl ⟨by rfl, ?_⟩) (by assumption) ?_
  rotate_left
  · (intro w hSw; (try dsimp only at hSw); go_simp; try rfl)
  try simp only [Act.put, List.setIfInBounds_toArray, List.set_cons_zero, List.set_cons_succ, List.getElem_toArray, List.getElem_cons_zero, List.getElem_cons_succ]
  refine wpAnyH_take (i := 41) (v := ?_) rfl (by kernel_rfl) (by kernel_rfl) (by kernel_rfl) (fun _ _ _ h => h) (Or.inl ⟨by rfl, ?_⟩) (by assumption) ?_
  rotate_left
  · (intro w hSw; (try dsimp only at hSw); go_simp; try rfl)
  try simp only [Act.put, List.setIfInBounds_toArray, List.set_cons_zero, List.set_cons_succ, List.getElem_toArray, List.getElem_cons_zero, List.getElem_cons_succ]
  refine wpAnyH_ready (rs := [42]) (by kernel_rfl) (by simp) ?_
  refine (AllReadyH.cons rfl (fun K hK => ?_) AllReadyH.nil)
  go_simp
  (go_at_call 15; refine (CL.out _ hHeld.1).mono ?_; rintro e w5 ⟨rfl, hbw5⟩; have hS5 : Below X.heap.size X w5 := below_self hHeld.1 hbw5)
  refine hK.out _ _ ?_ (fun hHeldN => ?_)
  · ((first
      | exact HC.out _ hS5
      | exact HC.out _ (Below.alloc hHeld.1 (Below.size hHeld.1) _)
      | exact HC.out _ (Below.drew hHeld.1)
      | exact HC.out _ (Below.refl _ _).drew
      | exact HC.out _ (Below.refl _ _)
      | fail))
  clear hK K
  try clear hS5 hbw5
  try clear hPrev
  have hPrev := Lib.hid hHeld.1
  clear hHeld
  have hHeld := hHeldN
  clear hHeldN
  try simp only [Act.put, List.setIfInBounds_toArray, List.set_cons_zero, List.set_cons_succ, List.getElem_toArray, List.getElem_cons_zero, List.getElem_cons_succ]
  refine wpAnyH_take (i := 43) (v := ?_) rfl (by kernel_rfl) (by kernel_rfl) (by kernel_rfl) (fun _ _ _ h => h) (Or.inl ⟨by rfl, ?_⟩) (by assumption) ?_
  rotate_left
  · (intro w hSw; (try dsimp only at hSw); go_simp; try rfl)
  try simp only [Act.put, List.setIfInBounds_toArray, List.set_cons_zero, List.set_cons_succ, List.getElem_toArray, List.getElem_cons_zero, List.getElem_cons_succ]
  refine wpAnyH_take (i := 44) (v := ?_) rfl (by kernel_rfl) (by kernel_rfl) (by kernel_rfl) (fun _ _ _ h => h) (Or.inl ⟨by rfl, ?_⟩) (by assumption) ?_
  rotate_left
  · (intro w hSw; (try dsimp only at hSw); go_simp; try rfl)
  try simp only [Act.put, List.setIfInBounds_toArray, List.set_cons_zero, List.set_cons_succ, List.getElem_toArray, List.getElem_cons_zero, List.getElem_cons_succ]
  refine wpAnyH_take (i := 45) (v := ?_) rfl (by kernel_rfl) (by kernel_rfl) (by kernel_rfl) (fun _ _ _ h => h) (Or.inl ⟨by rfl, ?_⟩) (by assumption) ?_
  rotate_left
  · (intro w hSw; (try dsimp only at hSw); go_simp; try rfl)
  try simp only [Act.put, List.setIfInBounds_toArray, List.set_cons_zero, List.set_cons_succ, List.getElem_toArray, List.getElem_cons_zero, List.getElem_cons_succ]
  refine wpAnyH_take (i := 46) (v := ?_) rfl (by kernel_rfl) (by kernel_rfl) (by kernel_rfl) (fun _ _ _ h => h) (Or.inl ⟨by rfl, ?_⟩) (by assumption) ?_
  rotate_left
  · (intro w hSw; (try dsimp only at hSw); go_simp; try rfl)
  try simp only [Act.put, List.setIfInBounds_toArray, List.set_cons_zero, List.set_cons_succ, List.getElem_toArray, List.getElem_cons_zero, List.getElem_cons_succ]
  refine wpAnyH_ready (rs := [47]) (by kernel_rfl) (by simp) ?_
  refine (AllReadyH.cons rfl (fun K hK => ?_) AllReadyH.nil)
  go_simp
  refine hK.out _ _ ?_ (fun hHeldN => ?_)
  · ((first
      | exact HC.out _ hS5
      | exact HC.out _ (Below.alloc hHeld.1 (Below.size hHeld.1) _)
      | exact HC.out _ (Below.drew hHeld.1)
      | exact HC.out _ (Below.refl _ _).drew
      | exact HC.out _ (Below.refl _ _)
      | fail))
  clear hK K
  try clear hS5 hbw5
  try clear hPrev
  have hPrev := Lib.hid hHeld.1
  clear hHeld
  have hHeld := hHeldN
  clear hHeldN
  try simp only [Act.put, List.setIfInBounds_toArray, List.set_cons_zero, List.set_cons_succ, List.getElem_toArray, List.getElem_cons_zero, List.getElem_cons_succ]
  refine wpAnyH_ready (rs := [48]) (by kernel_rfl) (by simp) ?_
  refine (AllReadyH.cons rfl (fun K hK => ?_) AllReadyH.nil)
  go_simp
  (go_at_call 16; refine (CG.out _ hPrev.out).mono ?_; rintro e w5 ⟨rfl, hbw5⟩; have hS5 : Below X.heap.size X w5 := below_self hPrev.out hbw5)
  refine hK.out _ _ ?_ (fun hHeldN => ?_)
  · ((first
      | exact HC.out _ hS5
      | exact HC.out _ (Below.alloc hHeld.1 (Below.size hHeld.1) _)
      | exact HC.out _ (Below.drew hHeld.1)
      | exact HC.out _ (Below.refl _ _).drew
      | exact HC.out _ (Below.refl _ _)
      | fail))
  clear hK K
  try clear hS5 hbw5
  try clear hPrev
  have hPrev := Lib.hid hHeld.1
  clear hHeld
  have hHeld := hHeldN
  clear hHeldN
  try simp only [Act.put, List.setIfInBounds_toArray, List.set_cons_zero, List.set_cons_succ, List.getElem_toArray, List.getElem_cons_zero, List.getElem_cons_succ]
  refine wpAnyH_take (i := 49) (v := ?_) rfl (by kernel_rfl) (by kernel_rfl) (by kernel_rfl) (fun _ _ _ h => h) (Or.inl ⟨by rfl, ?_⟩) (by assumption) ?_
  rotate_left
  · (intro w hSw; (try dsimp only at hSw); go_simp; try rfl)
  try simp only [Act.put, List.setIfInBounds_toArray, List.set_cons_zero, List.set_cons_succ, List.getElem_toArray, List.getElem_cons_zero, List.getElem_cons_succ]
  refine wpAnyH_take (i := 50) (v := ?_) rfl (by kernel_rfl) (by kernel_rfl) (by kernel_rfl) (fun _ _ _ h => h) (Or.inl ⟨by rfl, ?_⟩) (by assumption) ?_
  rotate_left
  · (intro w hSw; (try dsimp only at hSw); go_simp; try rfl)
  try simp only [Act.put, List.setIfInBounds_toArray, List.set_cons_zero, List.set_cons_succ, List.getElem_toArray, List.getElem_cons_zero, List.getElem_cons_succ]
  refine wpAnyH_take (i := 51) (v := ?_) rfl (by kernel_rfl) (by kernel_rfl) (by kernel_rfl) (fun _ _ _ h => h) (Or.inl ⟨by rfl, ?_⟩) (by assumption) ?_
  rotate_left
  · (intro w hSw; (try dsimp only at hSw); go_simp; try rfl)
  try simp only [Act.put, List.setIfInBounds_toArray, List.set_cons_zero, List.set_cons_succ, List.getElem_toArray, List.getElem_cons_zero, List.getElem_cons_succ]
  refine wpAnyH_take (i := 52) (v := ?_) rfl (by kernel_rfl) (by kernel_rfl) (by kernel_rfl) (fun _ _ _ h => h) (Or.inl ⟨by rfl, ?_⟩) (by assumption) ?_
  rotate_left
  · (intro w hSw; (try dsimp only at hSw); go_simp; try rfl)
  try simp only [Act.put, List.setIfInBounds_toArray, List.set_cons_zero, List.set_cons_succ, List.getElem_toArray, List.getElem_cons_zero, List.getElem_cons_succ]
  refine wpAnyH_ready (rs := [53]) (by kernel_rfl) (by simp) ?_
  refine (AllReadyH.cons rfl (fun K hK => ?_) AllReadyH.nil)
  go_simp
  refine hK.out _ _ ?_ (fun hHeldN => ?_)
  · ((first
      | exact HC.out _ hS5
      | exact HC.out _ (Below.alloc hHeld.1 (Below.size hHeld.1) _)
      | exact HC.out _ (Below.drew hHeld.1)
      | exact HC.out _ (Below.refl _ _).drew
      | exact HC.out _ (Below.refl _ _)
      | fail))
  clear hK K
  try clear hS5 hbw5
  try clear hPrev
  have hPrev := Lib.hid hHeld.1
  clear hHeld
  have hHeld := hHeldN
  clear hHeldN
  try simp only [Act.put, List.setIfInBounds_toArray, List.set_cons_zero, List.set_cons_succ, List.getElem_toArray, List.getElem_cons_zero, List.getElem_cons_succ]
  refine wpAnyH_ready (rs := [54]) (by kernel_rfl) (by simp) ?_
  refine (AllReadyH.cons rfl (fun K hK => ?_) AllReadyH.nil)
  go_simp
  (go_at_call 17; refine (CA.out _ hPrev.out).mono ?_; rintro e w5 ⟨⟨v5, rfl⟩, hbw5⟩; have hS5 : Below X.heap.size X w5 := below_self hPrev.out hbw5)
  refine hK.out _ _ ?_ (fun hHeldN => ?_)
  · ((first
      | exact HC.out _ hS5
      | exact HC.out _ (Below.alloc hHeld.1 (Below.size hHeld.1) _)
      | exact HC.out _ (Below.drew hHeld.1)
      | exact HC.out _ (Below.refl _ _).drew
      | exact HC.out _ (Below.refl _ _)
      | fail))
  clear hK K
  try clear hS5 hbw5
  try clear hPrev
  have hPrev := Lib.hid hHeld.1
  clear hHeld
  have hHeld := hHeldN
  clear hHeldN
  try simp only [Act.put, List.setIfInBounds_toArray, List.set_cons_zero, List.set_cons_succ, List.getElem_toArray, List.getElem_cons_zero, List.getElem_cons_succ]
  refine wpAnyH_take (i := 55) (v := ?_) rfl (by kernel_rfl) (by kernel_rfl) (by kernel_rfl) (fun _ _ _ h => h) (Or.inl ⟨by rfl, ?_⟩) (by assumption) ?_
  rotate_left
  · (intro w hSw; (try dsimp only at hSw); go_simp; try rfl)
  try simp only [Act.put, List.setIfInBounds_toArray, List.set_cons_zero, List.set_cons_succ, List.getElem_toArray, List.getElem_cons_zero, List.getElem_cons_succ]
  refine wpAnyH_take (i := 56) (v := ?_) rfl (by kernel_rfl) (by kernel_rfl) (by kernel_rfl) (fun _ _ _ h => h) (Or.inl ⟨by rfl, ?_⟩) (by assumption) ?_
  rotate_left
  · (intro w hSw; (try dsimp only at hSw); go_simp; try rfl)
  try simp only [Act.put, List.setIfInBounds_toArray, List.set_cons_zero, List.set_cons_succ, List.getElem_toArray, List.getElem_cons_zero, List.getElem_cons_succ]
  refine wpAnyH_take (i := 57) (v := ?_) rfl (by kernel_rfl) (by kernel_rfl) (by kernel_rfl) (fun _ _ _ h => h) (Or.inl ⟨by rfl, ?_⟩) (by assumption) ?_
  rotate_left
  · (intro w hSw; (try dsimp only at hSw); go_simp; try rfl)
  try simp only [Act.put, List.setIfInBounds_toArray, List.set_cons_zero, List.set_cons_succ, List.getElem_toArray, List.getElem_cons_zero, List.getElem_cons_succ]
  refine wpAnyH_take (i := 58) (v := ?_) rfl (by kernel_rfl) (by kernel_rfl) (by kernel_rfl) (fun _ _ _ h => h) (Or.inl ⟨by rfl, ?_⟩) (by assumption) ?_
  rotate_left
  · (intro w hSw; (try dsimp only at hSw); go_simp; try rfl)
  try simp only [Act.put, List.setIfInBounds_toArray, List.set_cons_zero, List.set_cons_succ, List.getElem_toArray, List.getElem_cons_zero, List.getElem_cons_succ]
  refine wpAnyH_done (by kernel_rfl) ?_ _
  have hEND := Lib.hid hHeld.1
  clear hHeld
  go_wp2
  go_ret
  exact ⟨rfl, HBX.out.trans (hEND.out.mono (Nat.le_of_lt hX0))⟩
end Go.Proofs.YtfngjdcagopapaaGreat
