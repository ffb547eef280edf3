/-
  Unlike instances have unlike texts.
-/
import Derived.Test.YtmkmdgehgllnbaaDoorIdsE
namespace Go.Proofs.YtmkmdgehgllnbaaDoor
open Go.RowKit Go.Sort Go.Shelf Go.Lib
set_option linter.unusedSimpArgs false
set_option linter.unusedVariables false

def valB (l : List UInt8) : Nat := l.foldl (fun v b => v * 10 + (b.toNat - 48)) 0
theorem valB_app (l : List UInt8) (b : UInt8) : valB (l ++ [b]) = valB l * 10 + (b.toNat - 48) := by simp [valB, List.foldl_append]
theorem dig_toNat (d : Nat) (h : d < 10) : (UInt8.ofNat (48 + d)).toNat = 48 + d := by
  rw [UInt8.toNat_ofNat']
  omega
theorem valB_dec : ∀ (k u : Nat), u ≤ k → valB (Lib.decDigits u) = u
  | k, u, hk => by
    rw [Lib.decDigits]
    split
    · rename_i h
      simp only [valB, List.foldl_cons, List.foldl_nil]
      rw [dig_toNat u h]
      omega
    · rename_i h
      cases k with
      | zero => omega
      | succ k =>
        rw [valB_app, valB_dec k (u / 10) (by omega), dig_toNat _ (by omega)]
        omega
theorem dec_inj {a b : Nat} (h : Lib.decDigits a = Lib.decDigits b) : a = b := by
  rw [← valB_dec a a (Nat.le_refl _), ← valB_dec b b (Nat.le_refl _), h]
theorem dec_mem : ∀ (k u : Nat), u ≤ k → ∀ b ∈ Lib.decDigits u, 48 ≤ b.toNat ∧ b.toNat ≤ 57
  | k, u, hk => by
    intro b hb
    rw [Lib.decDigits] at hb
    split at hb
    · rename_i h
      simp only [List.mem_singleton] at hb
      subst hb
      rw [dig_toNat u h]
      omega
    · rename_i h
      cases k with
      | zero => omega
      | succ k =>
        rcases List.mem_append.1 hb with q | q
        · exact dec_mem k (u / 10) (by omega) b q
        · simp only [List.mem_singleton] at q
          subst q
          rw [dig_toNat _ (by omega)]
          omega
theorem dec_ne (u : Nat) : Lib.decDigits u ≠ [] := by
  rw [Lib.decDigits]
  split <;> simp
theorem itoa_inj {a b : Int} (h : Lib.itoa a = Lib.itoa b) : a = b := by
  have key : ∀ (x y : Nat), (45 : UInt8) :: Lib.decDigits x = Lib.decDigits y → False := by
    intro x y q
    have := dec_mem y y (Nat.le_refl _) 45 (by rw [← q]; simp)
    have h45 : (45 : UInt8).toNat = 45 := rfl
    omega
  unfold Lib.itoa at h
  split at h <;> split at h
  · have := dec_inj (List.cons.inj h).2
    omega
  · exact (key _ _ h).elim
  · exact (key _ _ h.symm).elim
  · have := dec_inj h
    omega
theorem itoa_dot (n : Int) : (46 : UInt8) ∉ Lib.itoa n := by
  intro h
  have h46 : (46 : UInt8).toNat = 46 := rfl
  unfold Lib.itoa at h
  split at h
  · rcases List.mem_cons.1 h with q | q
    · exact absurd q (by decide)
    · have := dec_mem _ _ (Nat.le_refl _) _ q
      omega
  · have := dec_mem _ _ (Nat.le_refl _) _ h
    omega
theorem cut_dot : ∀ {a b x y : List UInt8}, (46 : UInt8) ∉ a → (46 : UInt8) ∉ b → a ++ 46 :: x = b ++ 46 :: y → a = b ∧ x = y
  | [], [], x, y, _, _, h => ⟨rfl, (List.cons.inj h).2⟩
  | [], c :: b, x, y, _, hb, h => by
    have := (List.cons.inj h).1
    exact absurd (this ▸ List.mem_cons_self) hb
  | c :: a, [], x, y, ha, _, h => by
    have := (List.cons.inj h).1
    exact absurd (this ▸ List.mem_cons_self) ha
  | c :: a, d :: b, x, y, ha, hb, h => by
    have h1 := List.cons.inj h
    have := cut_dot (fun q => ha (List.mem_cons_of_mem _ q)) (fun q => hb (List.mem_cons_of_mem _ q)) h1.2
    exact ⟨by rw [h1.1, this.1], this.2⟩
theorem shw_list (x : I3) : (shw x).data.toList = Lib.itoa x.1 ++ 46 :: (Lib.itoa x.2.1 ++ 46 :: Lib.itoa x.2.2) := by
  unfold shw its dot
  simp
theorem shw_inj {x y : I3} (h : shw x = shw y) : x = y := by
  have h1 : (shw x).data.toList = (shw y).data.toList := by rw [h]
  rw [shw_list, shw_list] at h1
  obtain ⟨e1, h2⟩ := cut_dot (itoa_dot _) (itoa_dot _) h1
  obtain ⟨e2, e3⟩ := cut_dot (itoa_dot _) (itoa_dot _) h2
  exact i3_ext (itoa_inj e1) (itoa_inj e2) (itoa_inj e3)
theorem shw_eq (x y : I3) : ((shw x).toList == (shw y).toList) = decide (x = y) := by
  rw [Bool.eq_iff_iff, beq_iff_eq, decide_eq_true_iff, ByteArray.toList_eq, ByteArray.toList_eq]
  constructor
  · intro h
    exact shw_inj (ByteArray.ext (by simpa using h))
  · rintro rfl; rfl
end Go.Proofs.YtmkmdgehgllnbaaDoor
