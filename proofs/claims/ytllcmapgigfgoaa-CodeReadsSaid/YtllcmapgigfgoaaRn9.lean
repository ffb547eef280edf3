/-
  The walk of package num's Reader.Text, whatever the reader has left.
-/
import Derived.Test.YtllcmapgigfgoaaRn8
namespace Go.Proofs.Ytllcmapgigfgoaa
open Go.RowKit
set_option linter.unusedSimpArgs false
set_option linter.unusedVariables false

theorem numG_pos : ∀ (f i : Nat) (acc : Int) (l : List Int), 0 ≤ acc → 0 ≤ (numG f i acc l).1
  | 0, _, _, _, _ => by simp [numG]
  | _ + 1, _, _, [], _ => by simp [numG]
  | f + 1, i, acc, x :: r, h => by
    have p1 : (0 : Int) < 128 ^ i := Int.pow_pos (by omega)
    have m1 : 0 ≤ (128 : Int) ^ i * (x % 128) := Int.mul_nonneg (by omega) (by omega)
    unfold numG
    split
    · exact numG_pos f (i + 1) _ r (by omega)
    · split
      · simp only; omega
      · simp
/-- What Text answers: the bytes, what is left, what is wrong. -/
def textN (most : Int) (xs : List Int) : List Int × List Int × Int :=
  if (numG 8 0 0 xs).2.2 ≠ 0 then ([], xs, (numG 8 0 0 xs).2.2)
  else if most < (numG 8 0 0 xs).1 then ([], xs, 13)
  else if (xs.length : Int) - (numG 8 0 0 xs).2.1 < (numG 8 0 0 xs).1 then ([], xs, 10)
  else ((xs.drop (numG 8 0 0 xs).2.1.toNat).take (numG 8 0 0 xs).1.toNat, xs.drop ((numG 8 0 0 xs).2.1.toNat + (numG 8 0 0 xs).1.toNat), 0)
theorem txt_nil : txt [] = ⟨#[]⟩ := rfl

theorem rtext_any (b : Nat) (most : Int) (xs : List Int) (w : World) (h : RdAt w b xs 0) (hx : ∀ x ∈ xs, 0 ≤ x ∧ x ≤ 255) (hl : xs.length ≤ 1000000000) :
    Calls Try.prog 117 #[.pointer (some ⟨b, 0, none⟩), .int .i64 most] w fun e w' => e = .returned (.string (txt (textN most xs).1)) ∧ RdAt w' b (textN most xs).2.1 (textN most xs).2.2 ∧ Onl b w w' := by
  have hk : ∃ k : Nat, (numG 8 0 0 xs).2.1 = (k : Int) ∧ k ≤ xs.length := by
    rcases numG_far 8 0 0 xs with q | ⟨j, q, _, q2⟩
    · exact ⟨0, by rw [q]; rfl, by omega⟩
    · exact ⟨j, q, by omega⟩
  obtain ⟨k, hk1, hk2⟩ := hk
  have hn0 := numG_pos 8 0 0 xs (by omega)
  by_cases he : (numG 8 0 0 xs).2.2 ≠ 0
  · have ht : textN most xs = ([], xs, (numG 8 0 0 xs).2.2) := by unfold textN; rw [if_pos he]
    rw [ht, txt_nil]
    exact rtext_form b most xs w h hx hl he ⟨by omega, by omega⟩
  have he0 : (numG 8 0 0 xs).2.2 = 0 := by simpa using he
  obtain ⟨m, hm⟩ := Int.eq_ofNat_of_zero_le hn0
  have hN : numG 8 0 0 xs = ((m : Int), (k : Int), 0) := Prod.ext hm (Prod.ext hk1 he0)
  have c1 : ¬ (numG 8 0 0 xs).2.2 ≠ 0 := he
  by_cases h1 : most < (m : Int)
  · have ht : textN most xs = ([], xs, 13) := by unfold textN; rw [if_neg c1, if_pos (by rw [hm]; exact h1)]
    rw [ht, txt_nil]
    exact rtext_long b k most m xs w h hx hl hN hk2 h1
  by_cases h2 : (xs.length : Int) - (k : Int) < (m : Int)
  · have ht : textN most xs = ([], xs, 10) := by unfold textN; rw [if_neg c1, if_neg (by rw [hm]; exact h1), if_pos (by rw [hm, hk1]; exact h2)]
    rw [ht, txt_nil]
    exact rtext_short b k most m xs w h hx hl hN hk2 (by omega) h2
  have ht : textN most xs = ((xs.drop k).take m, xs.drop (k + m), 0) := by
    unfold textN
    rw [if_neg c1, if_neg (by rw [hm]; exact h1), if_neg (by rw [hm, hk1]; exact h2), hk1, hm]
    simp
  rw [ht]
  obtain ⟨a, cap, c0, hb, f1, f2, f3, f4⟩ := h.left
  cases a with
  | none =>
    obtain rfl := f1 rfl
    have hx0 : xs = [] := List.eq_nil_of_length_eq_zero (by omega)
    subst hx0
    exact absurd he0 (by simp [numG])
  | some ad =>
    have hap := h.apart ad cap c0
    obtain ⟨g, off, spot⟩ := ad
    have hsp : spot = none := f4 _ rfl
    subst hsp
    by_cases q1 : k = cap
    · exact rtext_edge b g off cap k m most xs w h hx hl hN (by omega) (by omega) f2 q1.symm (by omega) c0 hb hap f3
    · by_cases q2 : k + m = cap
      · exact rtext_rest b g off cap k m most xs w h hx hl hN (by omega) (by omega) f2 q1 q2.symm c0 hb hap f3
      · exact rtext_some b g off cap k m most xs w h hx hl hN (by omega) (by omega) f2 q1 q2 c0 hb hap f3
end Go.Proofs.Ytllcmapgigfgoaa
