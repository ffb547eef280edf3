/-
  fits.
-/
import Derived.Test.YtoojfbeikohikaaDirF
namespace Go.Proofs.Ytoojfbeikohikaa
open Go.RowKit
set_option linter.unusedSimpArgs false
set_option linter.unusedVariables false

def fitD (l : List E3) (x : E3) : Bool := decide (0 < dpt x.1) && thrD l (par x.1) && decide (x.2.1.size ≤ 64) && decide (1 ≤ x.2.2)
set_option maxHeartbeats 2000000 in
theorem fits_any (d bk K : Nat) (l : List E3) (p v : ByteArray) (n : Int) (w : World) (hd : DirAt w d bk K l) (hp : p.size ≤ 1000) (hm : ML w) :
    Calls Try.prog 29 #[dP d, .agg #[.string p, .string v, .int .i64 n]] w fun e w' => e = .returned (.bool (fitD l (p, v, n))) ∧ Below w.heap.size w w' := by
  obtain ⟨X, hX⟩ : ∃ X, w.alloc (.cells #[.string p, .string v, .int .i64 n] 43) = X := ⟨_, rfl⟩
  have hB : Below w.heap.size w X := by rw [← hX]; exact (Below.refl _ _).alloc (Nat.le_refl _) _
  have k0 : X.cell? ⟨w.heap.size, 0, none⟩ = some (.string p) := by rw [← hX]; simp [go_sem]
  have k1 : X.cell? ⟨w.heap.size, 1, none⟩ = some (.string v) := by rw [← hX]; simp [go_sem]
  have k2 : X.cell? ⟨w.heap.size, 2, none⟩ = some (.int .i64 n) := by rw [← hX]; simp [go_sem]
  have hz : w.heap.size < X.heap.size := by rw [← hX]; simp
  have hcell : Hid (∀ W, Below X.heap.size X W → W.cell? ⟨w.heap.size, 0, none⟩ = some (.string p) ∧ W.cell? ⟨w.heap.size, 1, none⟩ = some (.string v) ∧ W.cell? ⟨w.heap.size, 2, none⟩ = some (.int .i64 n)) := Lib.hid (fun W hW => ⟨(hW.cell (p := ⟨w.heap.size, 0, none⟩) hz).trans k0, (hW.cell (p := ⟨w.heap.size, 1, none⟩) hz).trans k1, (hW.cell (p := ⟨w.heap.size, 2, none⟩) hz).trans k2⟩)
  have HB := Lib.hid hB
  have HP := Lib.hid hp
  have HDX := Lib.hid (hd.below hB)
  have HM := Lib.hid (hm.below hB)
  have HC1 := Lib.hid (depth_any p X hp (hm.below hB))
  obtain ⟨q, hq⟩ : ∃ q, dpt p = q := ⟨_, rfl⟩
  rw [hq] at HC1
  have HF : Hid (fitD l (p, v, n) = (decide (0 < q) && thrD l (par p) && decide (v.size ≤ 64) && decide (1 ≤ n))) := Lib.hid (by rw [← hq]; rfl)
  clear hB hz hd hm hp hq k1 k2
  go_enter Try.func29, Try.ntmps29
  go_wp2_with fail
  refine HC1.out.mono ?_
  rintro e w1 ⟨rfl, hb⟩
  have HB1 := Lib.hid (below_self HB.out hb)
  have HX1 := Lib.hid hb
  obtain ⟨k0, k1, k2⟩ := hcell.out w1 hb
  have HD1 := Lib.hid (HDX.out.below hb)
  have HM1 := Lib.hid (HM.out.below hb)
  clear hb hX HC1
  by_cases hq0 : 0 < q
  · have g0 : decide (0 < q) = true := decide_eq_true hq0
    go_wp2_with fail
    refine (parent_any p w1 HP.out HM1.out).mono ?_
    rintro e w2 ⟨rfl, hb⟩
    have HB2 := Lib.hid (below_self HB1.out hb)
    have HX2 := Lib.hid (below_self HX1.out hb)
    have HD2 := Lib.hid (HD1.out.below hb)
    clear hb k0 k1 k2
    go_wp2_with fail
    refine (there_any d bk K l (par p) w2 HD2.out (par_size p)).mono ?_
    rintro e w3 ⟨rfl, hb⟩
    have HB3 := Lib.hid (below_self HB2.out hb)
    have HX3 := below_self HX2.out hb
    obtain ⟨k0, k1, k2⟩ := hcell.out w3 HX3
    obtain ⟨T, hT⟩ : ∃ T, thrD l (par p) = T := ⟨_, rfl⟩
    rw [hT] at HF ⊢
    clear hb HX3 hT
    cases T with
    | false =>
      go_wp2
      go_ret
      exact ⟨by rw [HF.out]; simp, HB3.out⟩
    | true =>
      by_cases hv : v.size ≤ 64
      · have hv2 : (v.size : Int) ≤ 64 := by omega
        have g1 : decide ((v.size : Int) ≤ 64) = true := decide_eq_true hv2
        have g2 : decide (v.size ≤ 64) = true := decide_eq_true hv
        have HF2 : Hid (fitD l (p, v, n) = decide (1 ≤ n)) := Lib.hid (by rw [HF.out, g0, g2]; rfl)
        clear hv g2 HF
        go_wp2
        go_ret
        exact ⟨by rw [HF2.out]; rfl, HB3.out⟩
      · have hv2 : ¬ (v.size : Int) ≤ 64 := by omega
        have g1 : decide ((v.size : Int) ≤ 64) = false := decide_eq_false hv2
        have HF2 : Hid (fitD l (p, v, n) = false) := Lib.hid (by rw [HF.out, decide_eq_false hv]; simp)
        clear hv HF
        go_wp2
        go_ret
        exact ⟨by rw [HF2.out]; rfl, HB3.out⟩
  · have g0 : decide (0 < q) = false := decide_eq_false hq0
    have HF2 : Hid (fitD l (p, v, n) = false) := Lib.hid (by rw [HF.out, g0]; rfl)
    clear HF
    go_wp2
    go_ret
    exact ⟨by rw [HF2.out]; rfl, HB1.out⟩
end Go.Proofs.Ytoojfbeikohikaa
