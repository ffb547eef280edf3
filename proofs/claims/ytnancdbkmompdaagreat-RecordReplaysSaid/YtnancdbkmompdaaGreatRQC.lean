/-
  Texts put together: Rn7, Rn8, Rn9, NumP, NumQ, NumZ.
-/
import Derived.Test.YtnancdbkmompdaaGreatRY
import Derived.Test.YtnancdbkmompdaaGreatRQB
import Derived.Laws.BytesString
namespace Go.Proofs.YtnancdbkmompdaaGreat
open Go.RowKit
set_option linter.unusedSimpArgs false
set_option linter.unusedVariables false
set_option maxRecDepth 100000
set_option maxHeartbeats 40000000
/-- A reader whose fault is told: what it has left stays. -/
theorem rdat_fault {b : Nat} {xs : List Int} {er er2 : Int} {w : World} (h : RdAt w b xs er) : RdAt (w.setCell ⟨b, 1, none⟩ (.int .i64 er2)) b xs er2 := by
 obtain ⟨c1, f0, f1, hs, ⟨a, cap, c0, hb, hn⟩, ha⟩ := h
 have hne : ∀ x, a = some x → x.block ≠ b := fun x q => ha x cap (by rw [← q]; exact c0)
 have n01 : (⟨b, 1, none⟩ : Addr) ≠ ⟨b, 0, none⟩ := fun q => by cases q
 have e0 : (w.setCell ⟨b, 1, none⟩ (.int .i64 er2)).cell? ⟨b, 0, none⟩ = some (.slice a xs.length cap) := by rw [World.cell?_setCell_other (h := n01)]; exact c0
 refine ⟨World.cell?_setCell_same _ _ _ c1, by simpa [go_sem] using f0, by simpa [go_sem] using f1, by simpa using hs, ⟨a, cap, e0, brd_set hb hne, hn⟩, ?_⟩
 intro a2 cap2 hc
 rw [e0] at hc
 cases hc
 exact hne _ rfl
theorem rtext_wrong (b : Nat) (most : Int) (xs : List Int) (er : Int) (w : World) (h : RdAt w b xs er) (he : er ≠ 0) :
  Calls Tryz.prog 143 #[.pointer (some ⟨b, 0, none⟩), .int .i64 most] w fun e w' => e = .returned (.string ⟨#[]⟩) ∧ w = w' := by
 obtain ⟨c1, f0, f1, hs, ⟨a, cap, c0, hb, hn⟩, ha⟩ := h
 have HA := Hd ha
 clear ha hn hb
 have q : (er == 0) = false := by simpa using he
 go_enter Tryz.func143, Tryz.ntmps143
 go_wp2
 go_ret
 exact ⟨rfl, rfl⟩
/-- The number ahead of the text is no number. -/
theorem rtext_form (b : Nat) (most : Int) (xs : List Int) (w : World) (h : RdAt w b xs 0) (hx : ∀ x ∈ xs, 0 ≤ x ∧ x ≤ 255) (hl : xs.length ≤ 1000000000) (he : (numG 8 0 0 xs).2.2 ≠ 0) (hk : 0 ≤ (numG 8 0 0 xs).2.1 ∧ (numG 8 0 0 xs).2.1 ≤ 1000000000) :
  Calls Tryz.prog 143 #[.pointer (some ⟨b, 0, none⟩), .int .i64 most] w fun e w' => e = .returned (.string ⟨#[]⟩) ∧ RdAt w' b xs (numG 8 0 0 xs).2.2 ∧ Onl b w w' := by
 have H := Hd h
 obtain ⟨c1, f0, f1, hs, ⟨a, cap, c0, hb, hn⟩, ha⟩ := h
 have HB := Hd hb
 have HX := Hd hx
 clear ha hn hb hx
 generalize hN : numG 8 0 0 xs = t at *
 obtain ⟨n, k, er⟩ := t
 have HN := Hd hN
 clear hN
 simp only at he hk
 have q : (er == 0) = false := by simpa using he
 go_enter Tryz.func143, Tryz.ntmps143
 go_wp2_with (go_at_call 144; refine (number_any _ _ xs _ HB.out HX.out).mono ?_; rw [HN.out]; rintro e w1 ⟨rfl, rfl⟩)
 go_ret
 exact ⟨rfl, rdat_fault H.out, (Onl.refl b _).set 1 _⟩
theorem rtext_long (b k : Nat) (most n : Int) (xs : List Int) (w : World) (h : RdAt w b xs 0) (hx : ∀ x ∈ xs, 0 ≤ x ∧ x ≤ 255) (hl : xs.length ≤ 1000000000) (hN : numG 8 0 0 xs = (n, (k : Int), 0)) (hk : k ≤ xs.length) (hm : most < n) :
  Calls Tryz.prog 143 #[.pointer (some ⟨b, 0, none⟩), .int .i64 most] w fun e w' => e = .returned (.string ⟨#[]⟩) ∧ RdAt w' b xs 13 ∧ Onl b w w' := by
 have H := Hd h
 obtain ⟨c1, f0, f1, hs, ⟨a, cap, c0, hb, hn⟩, ha⟩ := h
 have HB := Hd hb
 have HX := Hd hx
 clear ha hn hb hx
 have HN := Hd hN
 clear hN
 go_enter Tryz.func143, Tryz.ntmps143
 go_wp2_with (go_at_call 144; refine (number_any _ _ xs _ HB.out HX.out).mono ?_; rw [HN.out]; rintro e w1 ⟨rfl, rfl⟩)
 go_ret
 exact ⟨rfl, rdat_fault H.out, (Onl.refl b _).set 1 _⟩
theorem rtext_short (b k : Nat) (most n : Int) (xs : List Int) (w : World) (h : RdAt w b xs 0) (hx : ∀ x ∈ xs, 0 ≤ x ∧ x ≤ 255) (hl : xs.length ≤ 1000000000) (hN : numG 8 0 0 xs = (n, (k : Int), 0)) (hk : k ≤ xs.length) (hm : n ≤ most) (hr : (xs.length : Int) - k < n) :
  Calls Tryz.prog 143 #[.pointer (some ⟨b, 0, none⟩), .int .i64 most] w fun e w' => e = .returned (.string ⟨#[]⟩) ∧ RdAt w' b xs 10 ∧ Onl b w w' := by
 have H := Hd h
 obtain ⟨c1, f0, f1, hs, ⟨a, cap, c0, hb, hn⟩, ha⟩ := h
 have HB := Hd hb
 have HX := Hd hx
 clear ha hn hb hx
 have HN := Hd hN
 clear hN
 go_enter Tryz.func143, Tryz.ntmps143
 go_wp2_with (go_at_call 144; refine (number_any _ _ xs _ HB.out HX.out).mono ?_; rw [HN.out]; rintro e w1 ⟨rfl, rfl⟩)
 go_ret
 exact ⟨rfl, rdat_fault H.out, (Onl.refl b _).set 1 _⟩
theorem conv_brd {w : World} {g off c : Nat} {xs : List Int} (h : BRd w (some ⟨g, off, none⟩) xs) : (convert 33 9 (.slice (some ⟨g, off, none⟩) xs.length c)).run Tryz.prog w = .ok (.string (txt xs)) w := by
 rw [run_convert_bytes_string w 33 9 5 _ _ _ Tryz.underlying33 Tryz.underlying5 Tryz.underlying9, ← txt_fold]
 refine run_bytesToString w _ _ _ xs ?_
 have := run_loadCells_list (P := Tryz.prog) (w := w) ⟨g, off, none⟩ (u8v xs) (brd_news h)
 simpa [u8v] using this
theorem brd_take {w : World} {g off m : Nat} {xs : List Int} (h : BRd w (some ⟨g, off, none⟩) xs) : BRd w (some ⟨g, off, none⟩) (xs.take m) := by
 obtain ⟨h1, h2⟩ := h
 refine ⟨by simp; omega, ?_⟩
 rcases h2 with h2 | ⟨g2, off2, ha, hg, hc⟩
 ·subst h2; left; simp
 ·cases ha
  refine .inr ⟨g, off, rfl, hg, fun i hi => ?_⟩
  have hi2 : i < xs.length ∧ i < m := by simp at hi; omega
  rw [hc i hi2.1]
  simp [List.getD, List.getElem?_take, hi2.2]
theorem rtext_some (b g off cap k m : Nat) (most : Int) (xs : List Int) (w : World) (h : RdAt w b xs 0) (hx : ∀ x ∈ xs, 0 ≤ x ∧ x ≤ 255) (hl : xs.length ≤ 1000000000) (hN : numG 8 0 0 xs = ((m : Int), (k : Int), 0)) (hk : k + m ≤ xs.length) (hm : (m : Int) ≤ most)
  (hcap : xs.length ≤ cap) (hc1 : ¬ k = cap) (hc2 : ¬ k + m = cap) (c0 : w.cell? ⟨b, 0, none⟩ = some (.slice (some ⟨g, off, none⟩) xs.length cap)) (hb : BRd w (some ⟨g, off, none⟩) xs) (hgb : g ≠ b) (hcm : cap ≤ 9223372036854775807) :
  Calls Tryz.prog 143 #[.pointer (some ⟨b, 0, none⟩), .int .i64 most] w fun e w' => e = .returned (.string (txt ((xs.drop k).take m))) ∧ RdAt w' b (xs.drop (k + m)) 0 ∧ Onl b w w' := by
 obtain ⟨c1, f0, f1, hs, _, _⟩ := h
 have HB := Hd hb
 have HX := Hd hx
 have HN := Hd hN
 have hcv := conv_brd (c := cap - k) (brd_take (m := m) (brd_drop hb (by omega : k ≤ xs.length)))
 rw [show ((xs.drop k).take m).length = m from by simp; omega] at hcv
 clear hb hx hN
 have k1 : k ≤ cap := by omega
 have k3 : ¬ cap = k := by omega
 have k5 : ¬ cap = k + m := by omega
 have k6 : k + m ≤ cap := by omega
 have t1 : decide (most < (m : Int)) = false := by simp; omega
 have t2 : decide ((xs.length : Int) - (k : Int) < (m : Int)) = false := by simp; omega
 go_enter Tryz.func143, Tryz.ntmps143
 go_wp2_with (go_at_call 144; refine (number_any _ _ xs _ HB.out HX.out).mono ?_; rw [HN.out]; rintro e w1 ⟨rfl, rfl⟩)
 go_ret
 have hd : (xs.drop (k + m)).length = xs.length - (k + m) := by simp
 refine ⟨rfl, ⟨by simp [go_sem, *], by simp [go_sem, *], by simp [go_sem, *], by simpa using hs, ⟨some ⟨g, off + (k + m), none⟩, cap - (k + m), by rw [hd]; simp [go_sem, *], ?_, (fun q => by cases q), by rw [hd]; omega, by omega, fun x q => by cases q; rfl⟩, ?_⟩, (Onl.refl b _).set0 c0 (by intro ad' q; cases q <;> exact ⟨_, rfl, rfl⟩) (by simp [go_sem, c0])⟩
 ·exact brd_set (brd_drop HB.out hk) (fun x q => by cases q; exact hgb)
 ·intro a2 cap2 hc
  rw [hd] at hc
  simp [go_sem, *] at hc
  rw [← hc.1]; exact hgb
theorem rtext_rest (b g off cap k m : Nat) (most : Int) (xs : List Int) (w : World) (h : RdAt w b xs 0) (hx : ∀ x ∈ xs, 0 ≤ x ∧ x ≤ 255) (hl : xs.length ≤ 1000000000) (hN : numG 8 0 0 xs = ((m : Int), (k : Int), 0)) (hk : k + m ≤ xs.length) (hm : (m : Int) ≤ most)
  (hcap : xs.length ≤ cap) (hc1 : ¬ k = cap) (hc2 : cap = k + m) (c0 : w.cell? ⟨b, 0, none⟩ = some (.slice (some ⟨g, off, none⟩) xs.length cap)) (hb : BRd w (some ⟨g, off, none⟩) xs) (hgb : g ≠ b) (hcm : cap ≤ 9223372036854775807) :
  Calls Tryz.prog 143 #[.pointer (some ⟨b, 0, none⟩), .int .i64 most] w fun e w' => e = .returned (.string (txt ((xs.drop k).take m))) ∧ RdAt w' b (xs.drop (k + m)) 0 ∧ Onl b w w' := by
 obtain ⟨c1, f0, f1, hs, _, _⟩ := h
 have HB := Hd hb
 have HX := Hd hx
 have HN := Hd hN
 have hcv := conv_brd (c := cap - k) (brd_take (m := m) (brd_drop hb (by omega : k ≤ xs.length)))
 rw [show ((xs.drop k).take m).length = m from by simp; omega] at hcv
 clear hb hx hN
 have k1 : k ≤ cap := by omega
 have k3 : ¬ cap = k := by omega
 have k6 : k + m ≤ cap := by omega
 have k7 : cap ≤ k + m := by omega
 have k5 := eq_true hc2
 clear hc2
 have t1 : decide (most < (m : Int)) = false := by simp; omega
 have t2 : decide ((xs.length : Int) - (k : Int) < (m : Int)) = false := by simp; omega
 go_enter Tryz.func143, Tryz.ntmps143
 go_wp2_with (go_at_call 144; refine (number_any _ _ xs _ HB.out HX.out).mono ?_; rw [HN.out]; rintro e w1 ⟨rfl, rfl⟩)
 go_ret
 have hd : (xs.drop (k + m)).length = xs.length - (k + m) := by simp
 have hz : xs.length - (k + m) = 0 := by omega
 have hz2 : cap - (k + m) = 0 := by omega
 refine ⟨rfl, ⟨by simp [go_sem, *], by simp [go_sem, *], by simp [go_sem, *], by simpa using hs, ⟨some ⟨g, off, none⟩, cap - (k + m), by rw [hd]; simp [go_sem, *], ⟨by rw [hd]; omega, .inl (List.eq_nil_of_length_eq_zero (by rw [hd]; exact hz))⟩, (fun q => by cases q), by rw [hd]; omega, by omega, fun x q => by cases q; rfl⟩, ?_⟩, (Onl.refl b _).set0 c0 (by intro ad' q; cases q <;> exact ⟨_, rfl, rfl⟩) (by simp [go_sem, c0])⟩
 intro a2 cap2 hc
 rw [hd] at hc
 simp [go_sem, *] at hc
 rw [← hc.1]; exact hgb
theorem rtext_edge (b g off cap k m : Nat) (most : Int) (xs : List Int) (w : World) (h : RdAt w b xs 0) (hx : ∀ x ∈ xs, 0 ≤ x ∧ x ≤ 255) (hl : xs.length ≤ 1000000000) (hN : numG 8 0 0 xs = ((m : Int), (k : Int), 0)) (hk : k + m ≤ xs.length) (hm : (m : Int) ≤ most)
  (hcap : xs.length ≤ cap) (hc1 : cap = k) (hc2 : cap = k + m) (c0 : w.cell? ⟨b, 0, none⟩ = some (.slice (some ⟨g, off, none⟩) xs.length cap)) (hb : BRd w (some ⟨g, off, none⟩) xs) (hgb : g ≠ b) (hcm : cap ≤ 9223372036854775807) :
  Calls Tryz.prog 143 #[.pointer (some ⟨b, 0, none⟩), .int .i64 most] w fun e w' => e = .returned (.string (txt ((xs.drop k).take m))) ∧ RdAt w' b (xs.drop (k + m)) 0 ∧ Onl b w w' := by
 obtain ⟨c1, f0, f1, hs, _, _⟩ := h
 have HB := Hd hb
 have HX := Hd hx
 have HN := Hd hN
 have hcv := conv_brd (c := cap - k) (xs := (xs.drop k).take m) (w := w) (g := g) (off := off) ⟨by simp; omega, .inl (by rw [show m = 0 from by omega]; rfl)⟩
 rw [show ((xs.drop k).take m).length = m from by simp; omega] at hcv
 clear hb hx hN
 have k1 : k ≤ cap := by omega
 have k3 := eq_true hc1
 have k6 : k + m ≤ cap := by omega
 have k7 : cap ≤ k + m := by omega
 have k5 := eq_true hc2
 clear hc2 hc1
 have t1 : decide (most < (m : Int)) = false := by simp; omega
 have t2 : decide ((xs.length : Int) - (k : Int) < (m : Int)) = false := by simp; omega
 go_enter Tryz.func143, Tryz.ntmps143
 go_wp2_with (go_at_call 144; refine (number_any _ _ xs _ HB.out HX.out).mono ?_; rw [HN.out]; rintro e w1 ⟨rfl, rfl⟩)
 go_ret
 have hd : (xs.drop (k + m)).length = xs.length - (k + m) := by simp
 have hz : xs.length - (k + m) = 0 := by omega
 have hz2 : cap - (k + m) = 0 := by omega
 refine ⟨rfl, ⟨by simp [go_sem, *], by simp [go_sem, *], by simp [go_sem, *], by simpa using hs, ⟨some ⟨g, off, none⟩, cap - (k + m), by rw [hd]; simp [go_sem, *], ⟨by rw [hd]; omega, .inl (List.eq_nil_of_length_eq_zero (by rw [hd]; exact hz))⟩, (fun q => by cases q), by rw [hd]; omega, by omega, fun x q => by cases q; rfl⟩, ?_⟩, (Onl.refl b _).set0 c0 (by intro ad' q; cases q <;> exact ⟨_, rfl, rfl⟩) (by simp [go_sem, c0])⟩
 intro a2 cap2 hc
 rw [hd] at hc
 simp [go_sem, *] at hc
 rw [← hc.1]; exact hgb
theorem numG_pos : ∀ (f i : Nat) (acc : Int) (l : List Int), 0 ≤ acc → 0 ≤ (numG f i acc l).1
 | 0, _, _, _, _ => by simp [numG]
 | _ + 1, _, _, [], _ => by simp [numG]
 | f + 1, i, acc, x :: r, h => by
  have p1 : (0 : Int) < 128 ^ i := Int.pow_pos (by omega)
  have m1 : 0 ≤ (128 : Int) ^ i * (x % 128) := Int.mul_nonneg (by omega) (by omega)
  unfold numG
  split
  ·exact numG_pos f (i + 1) _ r (by omega)
  ·split
   ·simp only; omega
   ·simp
/-- What Text answers: the bytes, what is left, what is wrong. -/
def textN (most : Int) (xs : List Int) : List Int × List Int × Int :=
 if (numG 8 0 0 xs).2.2 ≠ 0 then ([], xs, (numG 8 0 0 xs).2.2)
 else if most < (numG 8 0 0 xs).1 then ([], xs, 13)
 else if (xs.length : Int) - (numG 8 0 0 xs).2.1 < (numG 8 0 0 xs).1 then ([], xs, 10)
 else ((xs.drop (numG 8 0 0 xs).2.1.toNat).take (numG 8 0 0 xs).1.toNat, xs.drop ((numG 8 0 0 xs).2.1.toNat + (numG 8 0 0 xs).1.toNat), 0)
theorem txt_nil : txt [] = ⟨#[]⟩ := rfl
theorem rtext_any (b : Nat) (most : Int) (xs : List Int) (w : World) (h : RdAt w b xs 0) (hx : ∀ x ∈ xs, 0 ≤ x ∧ x ≤ 255) (hl : xs.length ≤ 1000000000) :
  Calls Tryz.prog 143 #[.pointer (some ⟨b, 0, none⟩), .int .i64 most] w fun e w' => e = .returned (.string (txt (textN most xs).1)) ∧ RdAt w' b (textN most xs).2.1 (textN most xs).2.2 ∧ Onl b w w' := by
 have hk : ∃ k : Nat, (numG 8 0 0 xs).2.1 = (k : Int) ∧ k ≤ xs.length := by
  rcases numG_far 8 0 0 xs with q | ⟨j, q, _, q2⟩
  ·exact ⟨0, by rw [q]; rfl, by omega⟩
  ·exact ⟨j, q, by omega⟩
 obtain ⟨k, hk1, hk2⟩ := hk
 have hn0 := numG_pos 8 0 0 xs (by omega)
 by_cases he : (numG 8 0 0 xs).2.2 ≠ 0
 ·have ht : textN most xs = ([], xs, (numG 8 0 0 xs).2.2) := by unfold textN; rw [if_pos he]
  rw [ht, txt_nil]
  exact rtext_form b most xs w h hx hl he ⟨by omega, by omega⟩
 have he0 : (numG 8 0 0 xs).2.2 = 0 := by simpa using he
 obtain ⟨m, hm⟩ := Int.eq_ofNat_of_zero_le hn0
 have hN : numG 8 0 0 xs = ((m : Int), (k : Int), 0) := Prod.ext hm (Prod.ext hk1 he0)
 have c1 : ¬ (numG 8 0 0 xs).2.2 ≠ 0 := he
 by_cases h1 : most < (m : Int)
 ·have ht : textN most xs = ([], xs, 13) := by unfold textN; rw [if_neg c1, if_pos (by rw [hm]; exact h1)]
  rw [ht, txt_nil]
  exact rtext_long b k most m xs w h hx hl hN hk2 h1
 by_cases h2 : (xs.length : Int) - (k : Int) < (m : Int)
 ·have ht : textN most xs = ([], xs, 10) := by unfold textN; rw [if_neg c1, if_neg (by rw [hm]; exact h1), if_pos (by rw [hm, hk1]; exact h2)]
  rw [ht, txt_nil]
  exact rtext_short b k most m xs w h hx hl hN hk2 (by omega) h2
 have ht : textN most xs = ((xs.drop k).take m, xs.drop (k + m), 0) := by
  unfold textN
  rw [if_neg c1, if_neg (by rw [hm]; exact h1), if_neg (by rw [hm, hk1]; exact h2), hk1, hm]
  simp
 rw [ht]
 obtain ⟨a, cap, c0, hb, f1, f2, f3, f4⟩ := h.left
 cases a with
 | none =>
  obtain rfl := f1 rfl
  have hx0 : xs = [] := List.eq_nil_of_length_eq_zero (by omega)
  subst hx0
  exact absurd he0 (by simp [numG])
 | some ad =>
  have hap := h.apart ad cap c0
  obtain ⟨g, off, spot⟩ := ad
  have hsp : spot = none := f4 _ rfl
  subst hsp
  by_cases q1 : k = cap
  ·exact rtext_edge b g off cap k m most xs w h hx hl hN (by omega) (by omega) f2 q1.symm (by omega) c0 hb hap f3
  ·by_cases q2 : k + m = cap
   ·exact rtext_rest b g off cap k m most xs w h hx hl hN (by omega) (by omega) f2 q1 q2.symm c0 hb hap f3
   ·exact rtext_some b g off cap k m most xs w h hx hl hN (by omega) (by omega) f2 q1 q2 c0 hb hap f3
end Go.Proofs.YtnancdbkmompdaaGreat
namespace Go.Proofs.YtnancdbkmompdaaGreat
set_option linter.unusedSimpArgs false
set_option linter.unusedVariables false
set_option maxRecDepth 100000
set_option maxHeartbeats 40000000
abbrev okN (n : Int) : Prop := 0 ≤ n ∧ n ≤ 281474976710656
/-- The number that digits say. -/
def valN : List Int → Int
 | [] => 0
 | x :: r => x % 128 + 128 * valN r
theorem encN_bytes : ∀ (f : Nat) (m : Int), 0 ≤ m → ∀ x ∈ encN f m, 0 ≤ x ∧ x ≤ 255
 | 0, m, _, x, hx => by simp [encN] at hx
 | f + 1, m, a, x, hx => by
  rw [encN_succ] at hx
  split at hx
  ·simp at hx; omega
  ·rcases List.mem_cons.1 hx with h | h
   ·omega
   ·exact encN_bytes f (m / 128) (by omega) x h
/-- Digits that go on, but the last one. -/
def WfD : List Int → Prop
 | [] => False
 | [x] => 0 ≤ x ∧ x < 128
 | x :: y :: r => 128 ≤ x ∧ x ≤ 255 ∧ WfD (y :: r)
theorem wfd_pos : ∀ l, WfD l → 0 ≤ valN l
 | [], h => h.elim
 | [x], h => by simp only [valN]; have := h.1; omega
 | x :: y :: r, h => by
  have := wfd_pos (y :: r) h.2.2
  simp only [valN] at this ⊢
  omega
theorem wfd_lt : ∀ l, WfD l → valN l < 128 ^ l.length
 | [], h => h.elim
 | [x], h => by simp only [valN, List.length_singleton]; have := h.2; omega
 | x :: y :: r, h => by
  have := wfd_lt (y :: r) h.2.2
  rw [List.length_cons, Int.pow_succ]
  show x % 128 + 128 * valN (y :: r) < _
  generalize valN (y :: r) = v at this
  generalize (128 : Int) ^ (y :: r).length = p at this
  omega
theorem enc_wfd : ∀ (l : List Int), WfD l → (l.length = 1 ∨ 128 ^ (l.length - 1) ≤ valN l) → encN l.length (valN l) = l
 | [], h, _ => h.elim
 | [x], h, _ => by
  have e : valN [x] = x := by simp only [valN]; have := h.1; have := h.2; omega
  rw [e]
  show encN (0 + 1) x = [x]
  rw [encN_succ, if_pos h.2]
 | x :: y :: r, h, hm => by
  have h2 := h.2.2
  have hx1 := h.1
  have hx2 := h.2.1
  have hm2 : 128 ^ (y :: r).length ≤ valN (x :: y :: r) := by
   rcases hm with q | q
   ·simp at q
   ·simpa using q
  have hv : valN (x :: y :: r) = x % 128 + 128 * valN (y :: r) := rfl
  have hp := wfd_pos (y :: r) h2
  have key : encN (y :: r).length (valN (y :: r)) = y :: r := by
   refine enc_wfd (y :: r) h2 ?_
   by_cases q : (y :: r).length = 1
   ·exact .inl q
   ·right
    have e : (y :: r).length = ((y :: r).length - 1) + 1 := by simp
    rw [e, Int.pow_succ] at hm2
    rw [hv] at hm2
    generalize (128 : Int) ^ ((y :: r).length - 1) = p at hm2
    omega
  have h1 : 1 ≤ valN (y :: r) := by
   rw [hv, List.length_cons, Int.pow_succ] at hm2
   have : (0 : Int) < 128 ^ r.length := Int.pow_pos (by decide)
   generalize (128 : Int) ^ r.length = p at hm2 this
   omega
  show encN ((y :: r).length + 1) (valN (x :: y :: r)) = x :: y :: r
  rw [encN_succ, hv, if_neg (by omega)]
  rw [show (x % 128 + 128 * valN (y :: r)) % 128 + 128 = x from by omega, show (x % 128 + 128 * valN (y :: r)) / 128 = valN (y :: r) from by omega, key]
theorem enc_fuel (f : Nat) (m : Int) (h : m < 128 ^ (f + 1)) : ∀ d, encN (f + 1) m = encN (f + 1 + d) m
 | 0 => rfl
 | d + 1 => by
  rw [enc_fuel f m h d]
  have : m < 128 ^ (f + d + 1) := by
   have e : (128 : Int) ^ (f + d + 1) = 128 ^ (f + 1) * 128 ^ d := by rw [← Int.pow_add]; congr 1; omega
   have p : (1 : Int) ≤ 128 ^ d := Int.pow_pos (by decide)
   have q : (0 : Int) < 128 ^ (f + 1) := Int.pow_pos (by decide)
   have := Int.mul_le_mul_of_nonneg_left p (Int.le_of_lt q)
   rw [e]; omega
  rw [show f + 1 + d = f + d + 1 from by omega, encN_more (f + d) m this, show f + 1 + (d + 1) = f + d + 2 from by omega]
theorem sizeN_low {n : Int} {k : Nat} (h : sizeN n = (k : Int)) (h2 : 2 ≤ k) (h8 : k ≤ 8) : 128 ^ (k - 1) ≤ n := by
 have hn : 0 ≤ n ∧ n ≤ 281474976710656 := by
  unfold sizeN at h
  by_cases q : 0 ≤ n ∧ n ≤ 281474976710656
  ·exact q
  ·rw [if_neg q] at h; omega
 unfold sizeN at h
 rw [if_pos hn] at h
 unfold remN geN at h
 obtain rfl | rfl | rfl | rfl | rfl | rfl | rfl : k = 2 ∨ k = 3 ∨ k = 4 ∨ k = 5 ∨ k = 6 ∨ k = 7 ∨ k = 8 := by omega
 ·show (128 : Int) ≤ n
  repeat' split at h
  all_goals omega
 ·show (16384 : Int) ≤ n
  repeat' split at h
  all_goals omega
 ·show (2097152 : Int) ≤ n
  repeat' split at h
  all_goals omega
 ·show (268435456 : Int) ≤ n
  repeat' split at h
  all_goals omega
 ·show (34359738368 : Int) ≤ n
  repeat' split at h
  all_goals omega
 ·show (4398046511104 : Int) ≤ n
  repeat' split at h
  all_goals omega
 ·exfalso
  repeat' split at h
  all_goals omega
theorem sizeN_ok {n : Int} (h : 1 ≤ sizeN n) : okN n := by
 unfold sizeN at h
 by_cases q : 0 ≤ n ∧ n ≤ 281474976710656
 ·exact q
 ·rw [if_neg q] at h; omega
/-- What is read as a number. -/
theorem numG_digits : ∀ (f i : Nat) (acc : Int) (l : List Int), (∀ x ∈ l, 0 ≤ x ∧ x ≤ 255) → (numG f i acc l).2.2 = 0 → ∃ m : Nat, 1 ≤ m ∧ m ≤ f ∧ m ≤ l.length ∧ (numG f i acc l).2.1 = (i : Int) + m ∧ WfD (l.take m) ∧ (numG f i acc l).1 = acc + 128 ^ i * valN (l.take m) ∧ sizeN (numG f i acc l).1 = (i : Int) + m
 | 0, _, _, _, _, h => by simp [numG] at h
 | _ + 1, _, _, [], _, h => by simp [numG] at h
 | f + 1, i, acc, x :: r, hx, h => by
  have hx0 := hx x (by simp)
  unfold numG at h ⊢
  by_cases q : 128 ≤ x
  ·rw [if_pos q] at h ⊢
   obtain ⟨m, h1, h2, h3, h4, h5, h6, h7⟩ := numG_digits f (i + 1) (acc + 128 ^ i * (x % 128)) r (fun y hy => hx y (by simp [hy])) h
   refine ⟨m + 1, by omega, by omega, by simp; omega, by rw [h4]; omega, ?_, ?_, by rw [h7]; omega⟩
   ·rw [List.take_succ_cons]
    cases hr : r.take m with
    | nil => rw [hr] at h5; exact h5.elim
    | cons y t => rw [hr] at h5; exact ⟨q, hx0.2, h5⟩
   ·rw [h6, List.take_succ_cons]
    show _ = acc + 128 ^ i * (x % 128 + 128 * valN (r.take m))
    rw [Int.mul_add, Int.pow_succ, Int.mul_assoc, Int.add_assoc]
  ·rw [if_neg q] at h ⊢
   by_cases z : sizeN (acc + 128 ^ i * (x % 128)) = (i : Int) + 1
   ·rw [if_pos z]
    refine ⟨1, by omega, by omega, by simp, rfl, ?_, ?_, z⟩
    ·exact ⟨hx0.1, by omega⟩
    ·simp [valN]
   ·rw [if_neg z] at h; simp at h
/-- A number that is read is written as it was read. -/
theorem numG_enc (xs : List Int) (hx : ∀ x ∈ xs, 0 ≤ x ∧ x ≤ 255) (h : (numG 8 0 0 xs).2.2 = 0) : ∃ m : Nat, 1 ≤ m ∧ m ≤ xs.length ∧ (numG 8 0 0 xs).2.1 = (m : Int) ∧ okN (numG 8 0 0 xs).1 ∧ enc (numG 8 0 0 xs).1 = xs.take m ∧ sizeN (numG 8 0 0 xs).1 = (m : Int) := by
 obtain ⟨m, h1, h2, h3, h4, h5, h6, h7⟩ := numG_digits 8 0 0 xs hx h
 have h4' : (numG 8 0 0 xs).2.1 = (m : Int) := by rw [h4]; omega
 have h7' : sizeN (numG 8 0 0 xs).1 = (m : Int) := by rw [h7]; omega
 have h6' : (numG 8 0 0 xs).1 = valN (xs.take m) := by rw [h6]; simp
 refine ⟨m, h1, h3, h4', sizeN_ok (by omega), ?_, h7'⟩
 have hl : (xs.take m).length = m := by simp; omega
 have hlt := wfd_lt _ h5
 have key := enc_wfd _ h5 (by
  rw [hl]
  by_cases q : m = 1
  ·exact .inl q
  ·right
   rw [← h6']
   exact sizeN_low h7' (by omega) h2)
 rw [hl] at key hlt
 rw [h6']
 unfold enc
 obtain ⟨g, rfl⟩ : ∃ g, m = g + 1 := ⟨m - 1, by omega⟩
 have := enc_fuel g _ hlt (7 - g)
 rw [show g + 1 + (7 - g) = 8 from by omega] at this
 rw [← this]
 exact key
theorem enc_len8 (n : Int) : (enc n).length ≤ 8 := by
 have key : ∀ (f : Nat) (m : Int), (encN f m).length ≤ f := by
  intro f
  induction f with
  | zero => intro m; simp [encN]
  | succ f ih =>
   intro m
   rw [encN_succ]
   split
   ·simp
   ·rw [List.length_cons]; have := ih (m / 128); omega
 exact key 8 n
theorem numG_back_g : ∀ (g f i : Nat) (acc m : Int) (R : List Int), 0 ≤ m → m < 128 ^ g → 1 ≤ g → g ≤ f → sizeN (acc + 128 ^ i * m) = (i : Int) + (encN g m).length → numG f i acc (encN g m ++ R) = (acc + 128 ^ i * m, (i : Int) + (encN g m).length, 0)
 | 0, _, _, _, _, _, _, _, h, _, _ => by omega
 | g + 1, 0, _, _, _, _, _, _, _, h, _ => by omega
 | g + 1, f + 1, i, acc, m, R, h0, hm, _, hf, hs => by
  rw [encN_succ] at hs ⊢
  by_cases q : m < 128
  ·rw [if_pos q] at hs ⊢
   simp only [List.cons_append, List.nil_append, List.length_singleton] at hs ⊢
   unfold numG
   rw [if_neg (by omega), show m % 128 = m from by omega, if_pos (by simpa using hs)]
   rfl
  ·rw [if_neg q] at hs ⊢
   simp only [List.cons_append, List.length_cons] at hs ⊢
   unfold numG
   rw [if_pos (by omega), show (m % 128 + 128) % 128 = m % 128 from by omega]
   have hg1 : 1 ≤ g := by
    by_cases z : g = 0
    ·subst z; have : (128 : Int) ^ (0 + 1) = 128 := by decide
     omega
    ·omega
   have e : acc + 128 ^ i * (m % 128) + 128 ^ (i + 1) * (m / 128) = acc + 128 ^ i * m := by
    rw [Int.pow_succ, Int.mul_assoc, Int.add_assoc, ← Int.mul_add]
    congr 2
    omega
   have hm2 : m / 128 < 128 ^ g := by rw [Int.pow_succ] at hm; omega
   have key := numG_back_g g f (i + 1) (acc + 128 ^ i * (m % 128)) (m / 128) R (by omega) hm2 hg1 (by omega) (by rw [e, hs]; omega)
   rw [key, e]
   simp only [Prod.mk.injEq, true_and, and_true]
   omega
theorem numG_back (n : Int) (R : List Int) (h : okN n) : numG 8 0 0 (enc n ++ R) = (n, sizeN n, 0) := by
 have hl := enc_length n h.1 h.2
 have p : (128 : Int) ^ 8 = 72057594037927936 := by decide
 have key := numG_back_g 8 8 0 0 n R h.1 (by rw [p]; have := h.2; omega) (by omega) (by omega) (by
  show sizeN (0 + 1 * n) = ((0 : Nat) : Int) + (enc n).length
  rw [hl, show (0 : Int) + 1 * n = n from by omega]; omega)
 show numG 8 0 0 (encN 8 n ++ R) = _
 rw [key]
 have hl2 : ((encN 8 n).length : Int) = sizeN n := hl
 rw [hl2]
 simp
theorem textN_back (s : ByteArray) (R : List Int) (most : Int) (h : s.size ≤ 100000000) (hm : (s.size : Int) ≤ most) : textN most (enc s.size ++ byt s ++ R) = (byt s, R, 0) := by
 have ok : okN (s.size : Int) := ⟨by omega, by omega⟩
 have hl := enc_length s.size ok.1 ok.2
 have hn := numG_back s.size (byt s ++ R) ok
 rw [← List.append_assoc] at hn
 have hl1 : (sizeN s.size).toNat = (enc s.size).length := by omega
 unfold textN
 rw [hn]
 simp only
 rw [if_neg (by simp), if_neg (by omega), if_neg (by simp [byt_length]; omega), hl1, Int.toNat_natCast]
 refine Prod.ext ?_ (Prod.ext ?_ rfl)
 ·simp only
  rw [List.append_assoc, List.drop_left, ← byt_length s, List.take_left]
 ·simp only
  rw [← byt_length s, ← List.length_append, List.drop_left]
end Go.Proofs.YtnancdbkmompdaaGreat
