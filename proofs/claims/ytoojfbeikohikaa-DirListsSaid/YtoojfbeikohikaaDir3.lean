/-
  What is right; create.
-/
import Derived.Test.YtoojfbeikohikaaDir2
namespace Go.Proofs.Ytoojfbeikohikaa
open Go.RowKit Go.Sort
open Go.WideMaps
set_option linter.unusedSimpArgs false
set_option linter.unusedVariables false

def rgt (o : Int) (p v : ByteArray) : Bool := vld p && (if o = 1 then decide (v.size ≤ 64) else if o = 3 ∨ o = 6 then decide (v.size ≤ 64) && decide (p ≠ pth []) else if o = 2 then decide (p ≠ pth []) else true)
set_option maxHeartbeats 1000000 in
theorem right_any (cl sq op : Int) (p v : ByteArray) (ver a b : Int) (w : World) (hp : p.size ≤ 1000) (hm : ML w) :
    Calls Try.prog 24 #[cmdV cl sq op p v ver a b] w fun e w' => e = .returned (.bool (rgt op p v)) ∧ Below w.heap.size w w' := by
  obtain ⟨X, hX⟩ : ∃ X, w.alloc (.cells #[.int .i64 cl, .int .i64 sq, .int .i64 op, .string p, .string v, .int .i64 ver, .int .i64 a, .int .i64 b] 34) = X := ⟨_, rfl⟩
  have hB : Below w.heap.size w X := by rw [← hX]; exact (Below.refl _ _).alloc (Nat.le_refl _) _
  have cV := valid_any p X hp (hm.below hB)
  have k2 : X.cell? ⟨w.heap.size, 2, none⟩ = some (.int .i64 op) := by rw [← hX]; simp [go_sem]
  have k3 : X.cell? ⟨w.heap.size, 3, none⟩ = some (.string p) := by rw [← hX]; simp [go_sem]
  have k4 : X.cell? ⟨w.heap.size, 4, none⟩ = some (.string v) := by rw [← hX]; simp [go_sem]
  have hz : w.heap.size < X.heap.size := by rw [← hX]; simp
  have K2 := Lib.hid k2
  have K3 := Lib.hid k3
  have K4 := Lib.hid k4
  have HB := Lib.hid hB
  have HR := Lib.hid (eqRoot p)
  have HZ := Lib.hid hz
  have HX := Lib.hid hX
  obtain ⟨V, hV⟩ : ∃ V, vld p = V := ⟨_, rfl⟩
  rw [hV] at cV
  have HV := Lib.hid hV
  clear hB k2 k4 hz hV hm hp
  go_enter Try.func24, Try.ntmps24
  go_wp2_with fail
  refine cV.mono ?_
  rintro e w1 ⟨rfl, hb⟩
  have k2 := (hb.cell (p := ⟨w.heap.size, 2, none⟩) HZ.out).trans K2.out
  have k3 := (hb.cell (p := ⟨w.heap.size, 3, none⟩) HZ.out).trans K3.out
  have k4 := (hb.cell (p := ⟨w.heap.size, 4, none⟩) HZ.out).trans K4.out
  have HB1 := Lib.hid (below_self HB.out hb)
  clear hb cV hX HX K2 K3 K4
  cases V with
  | false =>
    go_wp2
    go_ret
    exact ⟨by simp [rgt, HV.out], HB1.out⟩
  | true =>
    by_cases h1 : op = 1
    · subst h1
      go_wp2
      go_ret
      exact ⟨by simp [rgt, HV.out] <;> omega, HB1.out⟩
    by_cases h3 : op = 3
    · subst h3
      obtain ⟨B, hB⟩ : ∃ B, decide (p = pth []) = B := ⟨_, rfl⟩
      have q1 := HR.out
      rw [hB] at q1
      have HBB := Lib.hid hB
      clear hB
      by_cases hv : v.size ≤ 64
      · have HE : Hid (rgt 3 p v = !B) := Lib.hid (by simp [rgt, HV.out, hv, ← HBB.out])
        have hv2 : (v.size : Int) ≤ 64 := by omega
        have hv3 : decide ((v.size : Int) ≤ 64) = true := decide_eq_true hv2
        cases B
        all_goals
          go_wp2
          go_ret
          exact ⟨by rw [HE.out]; rfl, HB1.out⟩
      · have HE : Hid (rgt 3 p v = false) := Lib.hid (by simp [rgt, HV.out, hv])
        have hv2 : ¬ (v.size : Int) ≤ 64 := by omega
        have hv3 : decide ((v.size : Int) ≤ 64) = false := decide_eq_false hv2
        clear hv
        go_wp2
        go_ret
        exact ⟨by rw [HE.out]; rfl, HB1.out⟩
    by_cases h6 : op = 6
    · subst h6
      obtain ⟨B, hB⟩ : ∃ B, decide (p = pth []) = B := ⟨_, rfl⟩
      have q1 := HR.out
      rw [hB] at q1
      have HBB := Lib.hid hB
      clear hB
      by_cases hv : v.size ≤ 64
      · have HE : Hid (rgt 6 p v = !B) := Lib.hid (by simp [rgt, HV.out, hv, ← HBB.out])
        have hv2 : (v.size : Int) ≤ 64 := by omega
        have hv3 : decide ((v.size : Int) ≤ 64) = true := decide_eq_true hv2
        cases B
        all_goals
          go_wp2
          go_ret
          exact ⟨by rw [HE.out]; rfl, HB1.out⟩
      · have HE : Hid (rgt 6 p v = false) := Lib.hid (by simp [rgt, HV.out, hv])
        have hv2 : ¬ (v.size : Int) ≤ 64 := by omega
        have hv3 : decide ((v.size : Int) ≤ 64) = false := decide_eq_false hv2
        clear hv
        go_wp2
        go_ret
        exact ⟨by rw [HE.out]; rfl, HB1.out⟩
    by_cases h2 : op = 2
    · subst h2
      have q1 := HR.out
      obtain ⟨B, hB⟩ : ∃ B, decide (p = pth []) = B := ⟨_, rfl⟩
      rw [hB] at q1
      have HBB := Lib.hid hB
      clear hB h1 h3 h6
      cases B
      all_goals
        go_wp2
        go_ret
        exact ⟨by simpa [rgt, HV.out] using HBB.out, HB1.out⟩
    · have g1 : (op == 1) = false := by simpa using h1
      have g2 : (op == 2) = false := by simpa using h2
      have g3 : (op == 3) = false := by simpa using h3
      have g6 : (op == 6) = false := by simpa using h6
      have HE : Hid (rgt op p v = true) := Lib.hid (by simp [rgt, HV.out, h1, h2, h3, h6])
      clear h1 h2 h3 h6
      go_wp2
      go_ret
      exact ⟨by rw [HE.out]; rfl, HB1.out⟩
end Go.Proofs.Ytoojfbeikohikaa
