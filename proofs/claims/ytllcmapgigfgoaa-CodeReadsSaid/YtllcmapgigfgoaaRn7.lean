/-
  The walks of package num's reader: a text.
-/
import Derived.Test.YtllcmapgigfgoaaRn6
import Derived.Laws.BytesString
namespace Go.Proofs.Ytllcmapgigfgoaa
open Go.RowKit
set_option linter.unusedSimpArgs false
set_option linter.unusedVariables false

/-- A reader whose fault is told: what it has left stays. -/
theorem rdat_fault {b : Nat} {xs : List Int} {er er2 : Int} {w : World} (h : RdAt w b xs er) : RdAt (w.setCell ⟨b, 1, none⟩ (.int .i64 er2)) b xs er2 := by
  obtain ⟨c1, f0, f1, hs, ⟨a, cap, c0, hb, hn⟩, ha⟩ := h
  have hne : ∀ x, a = some x → x.block ≠ b := fun x q => ha x cap (by rw [← q]; exact c0)
  have n01 : (⟨b, 1, none⟩ : Addr) ≠ ⟨b, 0, none⟩ := fun q => by cases q
  have e0 : (w.setCell ⟨b, 1, none⟩ (.int .i64 er2)).cell? ⟨b, 0, none⟩ = some (.slice a xs.length cap) := by rw [World.cell?_setCell_other (h := n01)]; exact c0
  refine ⟨World.cell?_setCell_same _ _ _ c1, by simpa [go_sem] using f0, by simpa [go_sem] using f1, by simpa using hs, ⟨a, cap, e0, brd_set hb hne, hn⟩, ?_⟩
  intro a2 cap2 hc
  rw [e0] at hc
  cases hc
  exact hne _ rfl

set_option maxHeartbeats 1600000 in
theorem rtext_wrong (b : Nat) (most : Int) (xs : List Int) (er : Int) (w : World) (h : RdAt w b xs er) (he : er ≠ 0) :
    Calls Try.prog 117 #[.pointer (some ⟨b, 0, none⟩), .int .i64 most] w fun e w' => e = .returned (.string ⟨#[]⟩) ∧ w = w' := by
  obtain ⟨c1, f0, f1, hs, ⟨a, cap, c0, hb, hn⟩, ha⟩ := h
  have HA := Lib.hid ha
  clear ha hn hb
  have q : (er == 0) = false := by simpa using he
  go_enter Try.func117, Try.ntmps117
  go_wp2
  go_ret
  exact ⟨rfl, rfl⟩

set_option maxHeartbeats 4000000 in
/-- The number ahead of the text is no number. -/
theorem rtext_form (b : Nat) (most : Int) (xs : List Int) (w : World) (h : RdAt w b xs 0) (hx : ∀ x ∈ xs, 0 ≤ x ∧ x ≤ 255) (hl : xs.length ≤ 1000000000) (he : (numG 8 0 0 xs).2.2 ≠ 0) (hk : 0 ≤ (numG 8 0 0 xs).2.1 ∧ (numG 8 0 0 xs).2.1 ≤ 1000000000) :
    Calls Try.prog 117 #[.pointer (some ⟨b, 0, none⟩), .int .i64 most] w fun e w' => e = .returned (.string ⟨#[]⟩) ∧ RdAt w' b xs (numG 8 0 0 xs).2.2 ∧ Onl b w w' := by
  have H := Lib.hid h
  obtain ⟨c1, f0, f1, hs, ⟨a, cap, c0, hb, hn⟩, ha⟩ := h
  have HB := Lib.hid hb
  have HX := Lib.hid hx
  clear ha hn hb hx
  generalize hN : numG 8 0 0 xs = t at *
  obtain ⟨n, k, er⟩ := t
  have HN := Lib.hid hN
  clear hN
  simp only at he hk
  have q : (er == 0) = false := by simpa using he
  go_enter Try.func117, Try.ntmps117
  go_wp2_with (go_at_call 118; refine (number_any _ _ xs _ HB.out HX.out).mono ?_; rw [HN.out]; rintro e w1 ⟨rfl, rfl⟩)
  go_ret
  exact ⟨rfl, rdat_fault H.out, (Onl.refl b _).set 1 _⟩

set_option maxHeartbeats 4000000 in
theorem rtext_long (b k : Nat) (most n : Int) (xs : List Int) (w : World) (h : RdAt w b xs 0) (hx : ∀ x ∈ xs, 0 ≤ x ∧ x ≤ 255) (hl : xs.length ≤ 1000000000) (hN : numG 8 0 0 xs = (n, (k : Int), 0)) (hk : k ≤ xs.length) (hm : most < n) :
    Calls Try.prog 117 #[.pointer (some ⟨b, 0, none⟩), .int .i64 most] w fun e w' => e = .returned (.string ⟨#[]⟩) ∧ RdAt w' b xs 13 ∧ Onl b w w' := by
  have H := Lib.hid h
  obtain ⟨c1, f0, f1, hs, ⟨a, cap, c0, hb, hn⟩, ha⟩ := h
  have HB := Lib.hid hb
  have HX := Lib.hid hx
  clear ha hn hb hx
  have HN := Lib.hid hN
  clear hN
  go_enter Try.func117, Try.ntmps117
  go_wp2_with (go_at_call 118; refine (number_any _ _ xs _ HB.out HX.out).mono ?_; rw [HN.out]; rintro e w1 ⟨rfl, rfl⟩)
  go_ret
  exact ⟨rfl, rdat_fault H.out, (Onl.refl b _).set 1 _⟩

set_option maxHeartbeats 4000000 in
theorem rtext_short (b k : Nat) (most n : Int) (xs : List Int) (w : World) (h : RdAt w b xs 0) (hx : ∀ x ∈ xs, 0 ≤ x ∧ x ≤ 255) (hl : xs.length ≤ 1000000000) (hN : numG 8 0 0 xs = (n, (k : Int), 0)) (hk : k ≤ xs.length) (hm : n ≤ most) (hr : (xs.length : Int) - k < n) :
    Calls Try.prog 117 #[.pointer (some ⟨b, 0, none⟩), .int .i64 most] w fun e w' => e = .returned (.string ⟨#[]⟩) ∧ RdAt w' b xs 10 ∧ Onl b w w' := by
  have H := Lib.hid h
  obtain ⟨c1, f0, f1, hs, ⟨a, cap, c0, hb, hn⟩, ha⟩ := h
  have HB := Lib.hid hb
  have HX := Lib.hid hx
  clear ha hn hb hx
  have HN := Lib.hid hN
  clear hN
  go_enter Try.func117, Try.ntmps117
  go_wp2_with (go_at_call 118; refine (number_any _ _ xs _ HB.out HX.out).mono ?_; rw [HN.out]; rintro e w1 ⟨rfl, rfl⟩)
  go_ret
  exact ⟨rfl, rdat_fault H.out, (Onl.refl b _).set 1 _⟩

theorem conv_brd {w : World} {g off c : Nat} {xs : List Int} (h : BRd w (some ⟨g, off, none⟩) xs) : (convert 49 9 (.slice (some ⟨g, off, none⟩) xs.length c)).run Try.prog w = .ok (.string (txt xs)) w := by
  rw [run_convert_bytes_string w 49 9 5 _ _ _ Try.underlying49 Try.underlying5 Try.underlying9, ← txt_fold]
  refine run_bytesToString w _ _ _ xs ?_
  have := run_loadCells_list (P := Try.prog) (w := w) ⟨g, off, none⟩ (u8v xs) (brd_news h)
  simpa [u8v] using this

theorem brd_take {w : World} {g off m : Nat} {xs : List Int} (h : BRd w (some ⟨g, off, none⟩) xs) : BRd w (some ⟨g, off, none⟩) (xs.take m) := by
  obtain ⟨h1, h2⟩ := h
  refine ⟨by simp; omega, ?_⟩
  rcases h2 with h2 | ⟨g2, off2, ha, hg, hc⟩
  · subst h2; left; simp
  · cases ha
    refine .inr ⟨g, off, rfl, hg, fun i hi => ?_⟩
    have hi2 : i < xs.length ∧ i < m := by simp at hi; omega
    rw [hc i hi2.1]
    simp [List.getD, List.getElem?_take, hi2.2]

set_option maxHeartbeats 4000000 in
theorem rtext_some (b g off cap k m : Nat) (most : Int) (xs : List Int) (w : World) (h : RdAt w b xs 0) (hx : ∀ x ∈ xs, 0 ≤ x ∧ x ≤ 255) (hl : xs.length ≤ 1000000000) (hN : numG 8 0 0 xs = ((m : Int), (k : Int), 0)) (hk : k + m ≤ xs.length) (hm : (m : Int) ≤ most)
    (hcap : xs.length ≤ cap) (hc1 : ¬ k = cap) (hc2 : ¬ k + m = cap) (c0 : w.cell? ⟨b, 0, none⟩ = some (.slice (some ⟨g, off, none⟩) xs.length cap)) (hb : BRd w (some ⟨g, off, none⟩) xs) (hgb : g ≠ b) (hcm : cap ≤ 9223372036854775807) :
    Calls Try.prog 117 #[.pointer (some ⟨b, 0, none⟩), .int .i64 most] w fun e w' => e = .returned (.string (txt ((xs.drop k).take m))) ∧ RdAt w' b (xs.drop (k + m)) 0 ∧ Onl b w w' := by
  obtain ⟨c1, f0, f1, hs, _, _⟩ := h
  have HB := Lib.hid hb
  have HX := Lib.hid hx
  have HN := Lib.hid hN
  have hcv := conv_brd (c := cap - k) (brd_take (m := m) (brd_drop hb (by omega : k ≤ xs.length)))
  rw [show ((xs.drop k).take m).length = m from by simp; omega] at hcv
  clear hb hx hN
  have k1 : k ≤ cap := by omega
  have k3 : ¬ cap = k := by omega
  have k5 : ¬ cap = k + m := by omega
  have k6 : k + m ≤ cap := by omega
  have t1 : decide (most < (m : Int)) = false := by simp; omega
  have t2 : decide ((xs.length : Int) - (k : Int) < (m : Int)) = false := by simp; omega
  go_enter Try.func117, Try.ntmps117
  go_wp2_with (go_at_call 118; refine (number_any _ _ xs _ HB.out HX.out).mono ?_; rw [HN.out]; rintro e w1 ⟨rfl, rfl⟩)
  go_ret
  have hd : (xs.drop (k + m)).length = xs.length - (k + m) := by simp
  refine ⟨rfl, ⟨by simp [go_sem, *], by simp [go_sem, *], by simp [go_sem, *], by simpa using hs, ⟨some ⟨g, off + (k + m), none⟩, cap - (k + m), by rw [hd]; simp [go_sem, *], ?_, (fun q => by cases q), by rw [hd]; omega, by omega, fun x q => by cases q; rfl⟩, ?_⟩, (Onl.refl b _).set0 c0 (by intro ad' q; cases q <;> exact ⟨_, rfl, rfl⟩) (by simp [go_sem, c0])⟩
  · exact brd_set (brd_drop HB.out hk) (fun x q => by cases q; exact hgb)
  · intro a2 cap2 hc
    rw [hd] at hc
    simp [go_sem, *] at hc
    rw [← hc.1]; exact hgb
end Go.Proofs.Ytllcmapgigfgoaa
