/-
  The document's example of package config.
-/
import Derived.Test.YtacjmcjmenbekaaCfgE
namespace Go.Proofs.Ytacjmcjmenbekaa
open Go.RowKit
set_option linter.unusedSimpArgs false
set_option linter.unusedVariables false

theorem wk_valid (a : Option Addr) (c : Nat) (w : World) (h : It w (.slice a 3 c) [1, 3, 7]) : Calls Try.prog 12 #[cfgV 1 a 3 c] w fun e w' => e = .returned (.bool true) ∧ Below w.heap.size w w' := by
  have := valid_any 1 a c [1, 3, 7] w (IRow.of_it h)
  rw [show valB 1 [1, 3, 7] = true from by decide] at this
  exact this
theorem wk_follows (a b : Option Addr) (c d : Nat) (w : World) (h : IRow w b [1, 2, 3]) (h2 : It w (.slice a 3 c) [1, 3, 7]) : Calls Try.prog 19 #[cfgV 0 b 3 d, cfgV 1 a 3 c] w fun e w' => e = .returned (.bool true) ∧ Below w.heap.size w w' := by
  have := follows_any 0 1 b a d c [1, 2, 3] [1, 3, 7] w h (IRow.of_it h2)
  rw [show folB 0 [1, 2, 3] 1 [1, 3, 7] = true from by decide] at this
  exact this
theorem wk_has7 (a : Option Addr) (c : Nat) (w : World) (h : It w (.slice a 3 c) [1, 3, 7]) : Calls Try.prog 15 #[cfgV 1 a 3 c, .int .i64 7] w fun e w' => e = .returned (.bool true) ∧ Below w.heap.size w w' := by
  have := has_any 1 7 a c [1, 3, 7] w (IRow.of_it h)
  rw [show inB 7 [1, 3, 7] = true from by decide] at this
  exact this
theorem wk_has2 (a : Option Addr) (c : Nat) (w : World) (h : It w (.slice a 3 c) [1, 3, 7]) : Calls Try.prog 15 #[cfgV 1 a 3 c, .int .i64 2] w fun e w' => e = .returned (.bool false) ∧ Below w.heap.size w w' := by
  have := has_any 1 2 a c [1, 3, 7] w (IRow.of_it h)
  rw [show inB 2 [1, 3, 7] = false from by decide] at this
  exact this
theorem wk_clone (a : Option Addr) (c : Nat) (w : World) (h : It w (.slice a 3 c) [1, 3, 7]) : Calls Try.prog 17 #[cfgV 1 a 3 c] w (CfPost 1 [1, 3, 7] w) := cclone_any 1 a c [1, 3, 7] w h (by simp)
theorem wk_same (a b : Option Addr) (c d : Nat) (w : World) (h : It w (.slice a 3 c) [1, 3, 7]) (h2 : It w (.slice b 3 d) [1, 3, 7]) : Calls Try.prog 20 #[cfgV 1 a 3 c, cfgV 1 b 3 d] w fun e w' => e = .returned (.bool true) ∧ Below w.heap.size w w' := by
  have := same_any 1 1 a b c d [1, 3, 7] [1, 3, 7] w (IRow.of_it h) (IRow.of_it h2)
  rw [show sameB 1 [1, 3, 7] 1 [1, 3, 7] = true from by decide] at this
  exact this
theorem wk_chg (a : Option Addr) (c : Nat) (w : World) (h : It w (.slice a 3 c) [1, 2, 3]) : Calls Try.prog 10 #[cfgV 0 a 3 c, cmdV 0 0 9 ByteArray.empty ByteArray.empty 0 2 7] w (ChgPost ⟨0, 1, [1, 3, 7]⟩ w) := by
  have := change_any 0 a c [1, 2, 3] 0 0 9 ByteArray.empty ByteArray.empty 0 2 7 w h
  have e1 : (chg 0 [1, 2, 3] 9 2 7).err = 0 := by decide
  have e2 : (chg 0 [1, 2, 3] 9 2 7).ep = 1 := by decide
  have e3 : (chg 0 [1, 2, 3] 9 2 7).ns = [1, 3, 7] := by decide
  have e4 : chg 0 [1, 2, 3] 9 2 7 = ⟨(chg 0 [1, 2, 3] 9 2 7).err, (chg 0 [1, 2, 3] 9 2 7).ep, (chg 0 [1, 2, 3] 9 2 7).ns⟩ := rfl
  rw [e4, e1, e2, e3] at this
  exact this
theorem it_lit (w : World) (xs : List Int) (e : TypeId) (fr : Nat × Nat) (hl : xs.length ≤ 9223372036854775807) : It (w.alloc (.cells (i6v xs).toArray e fr)) (.slice (some ⟨w.heap.size, 0, none⟩) xs.length xs.length) xs := by
  refine ⟨some ⟨w.heap.size, 0, none⟩, xs.length, rfl, ⟨hl, .inr ⟨w.heap.size, 0, rfl, by simp, fun i hi => ?_⟩⟩, (fun h => by cases h), by omega, hl⟩
  have hh := heap_alloc_new w (.cells (i6v xs).toArray e fr)
  rw [cell_of_row _ _ (0 + i) _ _ _ hh]
  simp [hi, List.getD]
theorem also6 {W w' : World} {p0 p1 p2 p3 p4 p5 : Addr} {x0 x1 x2 x3 x4 x5 : Value} (hb : Below W.heap.size W w') (H : Hid ((W.cell? p0 = some x0 ∧ p0.block < W.heap.size) ∧ (W.cell? p1 = some x1 ∧ p1.block < W.heap.size) ∧ (W.cell? p2 = some x2 ∧ p2.block < W.heap.size) ∧ (W.cell? p3 = some x3 ∧ p3.block < W.heap.size) ∧ (W.cell? p4 = some x4 ∧ p4.block < W.heap.size) ∧ (W.cell? p5 = some x5 ∧ p5.block < W.heap.size))) :
    w'.cell? p0 = some x0 ∧ w'.cell? p1 = some x1 ∧ w'.cell? p2 = some x2 ∧ w'.cell? p3 = some x3 ∧ w'.cell? p4 = some x4 ∧ w'.cell? p5 = some x5 ∧ Below W.heap.size W w' := by
  obtain ⟨h0, h1, h2, h3, h4, h5⟩ := H.out
  exact ⟨(hb.cell h0.2).trans h0.1, (hb.cell h1.2).trans h1.1, (hb.cell h2.2).trans h2.1, (hb.cell h3.2).trans h3.1, (hb.cell h4.2).trans h4.1, (hb.cell h5.2).trans h5.1, hb⟩
set_option maxHeartbeats 2000000 in
set_option maxRecDepth 100000 in
theorem works_any (w : World) : Calls Try.prog 9 #[] w fun e w' => e = .returned (.bool true) ∧ Below w.heap.size w w' := by
  have hr0 := it_lit w [1, 2, 3] 3 (0, 0) (by simp)
  have bx : Below w.heap.size w ((w.alloc (.cells #[.int .i64 1, .int .i64 2, .int .i64 3] 3)).alloc (.cells #[.int .i64 0, .slice (some ⟨w.heap.size, 0, none⟩) 3 3] 24)) := ((Below.refl _ _).alloc (Nat.le_refl _) _).alloc (by simp) _
  have HR : Hid (It ((w.alloc (.cells #[.int .i64 1, .int .i64 2, .int .i64 3] 3)).alloc (.cells #[.int .i64 0, .slice (some ⟨w.heap.size, 0, none⟩) 3 3] 24)) (.slice (some ⟨w.heap.size, 0, none⟩) 3 3) [1, 2, 3]) := Lib.hid (It.below hr0 ((Below.refl _ _).alloc (Nat.le_refl _) _))
  have HB := Lib.hid bx
  clear hr0 bx
  go_enter Try.func9, Try.ntmps9
  go_wp2_with fail
  refine (wk_chg _ _ _ HR.out).mono ?_
  rintro e w1 ⟨v1, he, hi, hb⟩
  subst he
  obtain ⟨a3, c3, e3, h3, f3⟩ := hi.it.row
  simp only at e3
  subst e3
  rcases h3.2 with h0 | ⟨g3, off3, rfl, hg3, hc3⟩
  · cases h0
  have HI := Lib.hid hi.it
  have hcell3 := hc3 2 (by simp)
  obtain ⟨hc, hf⟩ := bcell hb
  have hz := hb.size
  have HB1 := Lib.hid (below_self HB.out hb)
  have HR1 := Lib.hid (HR.out.below hb)
  simp at hz
  clear hb hi h3 hc3 f3
  go_wp2_with fail
  have HX : Hid (((w1.alloc (.cells #[.int .i64 1, .slice (some ⟨g3, off3, none⟩) 3 c3] 24)).cell? ⟨w.heap.size + 1, 0, none⟩ = some (.int .i64 0) ∧ w.heap.size + 1 < (w1.alloc (.cells #[.int .i64 1, .slice (some ⟨g3, off3, none⟩) 3 c3] 24)).heap.size) ∧ ((w1.alloc (.cells #[.int .i64 1, .slice (some ⟨g3, off3, none⟩) 3 c3] 24)).cell? ⟨w.heap.size + 1, 1, none⟩ = some (.slice (some ⟨w.heap.size, 0, none⟩) 3 3) ∧ w.heap.size + 1 < (w1.alloc (.cells #[.int .i64 1, .slice (some ⟨g3, off3, none⟩) 3 c3] 24)).heap.size) ∧ ((w1.alloc (.cells #[.int .i64 1, .slice (some ⟨g3, off3, none⟩) 3 c3] 24)).cell? ⟨w1.heap.size, 0, none⟩ = some (.int .i64 1) ∧ w1.heap.size < (w1.alloc (.cells #[.int .i64 1, .slice (some ⟨g3, off3, none⟩) 3 c3] 24)).heap.size) ∧ ((w1.alloc (.cells #[.int .i64 1, .slice (some ⟨g3, off3, none⟩) 3 c3] 24)).cell? ⟨w1.heap.size, 1, none⟩ = some (.slice (some ⟨g3, off3, none⟩) 3 c3) ∧ w1.heap.size < (w1.alloc (.cells #[.int .i64 1, .slice (some ⟨g3, off3, none⟩) 3 c3] 24)).heap.size) ∧ ((w1.alloc (.cells #[.int .i64 1, .slice (some ⟨g3, off3, none⟩) 3 c3] 24)).cell? ⟨w.heap.size, 1, none⟩ = some (.int .i64 2) ∧ w.heap.size < (w1.alloc (.cells #[.int .i64 1, .slice (some ⟨g3, off3, none⟩) 3 c3] 24)).heap.size) ∧ ((w1.alloc (.cells #[.int .i64 1, .slice (some ⟨g3, off3, none⟩) 3 c3] 24)).cell? ⟨g3, off3 + 2, none⟩ = some (.int .i64 7) ∧ g3 < (w1.alloc (.cells #[.int .i64 1, .slice (some ⟨g3, off3, none⟩) 3 c3] 24)).heap.size)) := by
    refine Lib.hid ⟨⟨?_, ?_⟩, ⟨?_, ?_⟩, ⟨?_, ?_⟩, ⟨?_, ?_⟩, ⟨?_, ?_⟩, ⟨?_, ?_⟩⟩
    · rw [World.cell?_of_block (Below.heap_alloc _ _ _ (by show w.heap.size + 1 < _; omega)), hc _ _ (by simp)]; simp [go_sem]
    · simp; omega
    · rw [World.cell?_of_block (Below.heap_alloc _ _ _ (by show w.heap.size + 1 < _; omega)), hc _ _ (by simp)]; simp [go_sem]
    · simp; omega
    · simp [go_sem]
    · simp
    · simp [go_sem]
    · simp
    · rw [World.cell?_of_block (Below.heap_alloc _ _ _ (by show w.heap.size < _; omega)), hc _ _ (by simp; omega)]; simp [go_sem]
    · simp; omega
    · rw [World.cell?_of_block (Below.heap_alloc _ _ _ hg3)]; exact hcell3
    · simp; omega
  have HRW : Hid (It (w1.alloc (.cells #[.int .i64 1, .slice (some ⟨g3, off3, none⟩) 3 c3] 24)) (.slice (some ⟨w.heap.size, 0, none⟩) 3 3) [1, 2, 3]) := Lib.hid (HR1.out.below ((Below.refl _ _).alloc (Nat.le_refl _) _))
  have HIW : Hid (It (w1.alloc (.cells #[.int .i64 1, .slice (some ⟨g3, off3, none⟩) 3 c3] 24)) (.slice (some ⟨g3, off3, none⟩) 3 c3) [1, 3, 7]) := Lib.hid (HI.out.below ((Below.refl _ _).alloc (Nat.le_refl _) _))
  have HBW : Hid (Below w.heap.size w (w1.alloc (.cells #[.int .i64 1, .slice (some ⟨g3, off3, none⟩) 3 c3] 24))) := Lib.hid (HB1.out.alloc HB1.out.size _)
  clear hc hf hcell3 HR HI HB HR1 HB1
  go_region_held3 (fun w' => w'.cell? ⟨w.heap.size + 1, 0, none⟩ = some (.int .i64 0) ∧ w'.cell? ⟨w.heap.size + 1, 1, none⟩ = some (.slice (some ⟨w.heap.size, 0, none⟩) 3 3) ∧ w'.cell? ⟨w1.heap.size, 0, none⟩ = some (.int .i64 1) ∧ w'.cell? ⟨w1.heap.size, 1, none⟩ = some (.slice (some ⟨g3, off3, none⟩) 3 c3) ∧ w'.cell? ⟨w.heap.size, 1, none⟩ = some (.int .i64 2) ∧ w'.cell? ⟨g3, off3 + 2, none⟩ = some (.int .i64 7) ∧ Below (w1.alloc (.cells #[.int .i64 1, .slice (some ⟨g3, off3, none⟩) 3 c3] 24)).heap.size (w1.alloc (.cells #[.int .i64 1, .slice (some ⟨g3, off3, none⟩) 3 c3] 24)) w')
    (first
      | exact also6 (Below.refl _ _) HX
      | exact also6 (Below.refl _ _).drew HX
      | (go_split_ands; first | exact also6 (below_self (by assumption) (by assumption)) HX | exact also6 (by assumption) HX))
    (first
      | (go_at_call 12; go_split_ands; refine (wk_valid _ _ _ (HIW.out.below (by assumption))).mono ?_; rintro e w4 ⟨rfl, hb4⟩)
      | (go_at_call 19; go_split_ands; refine (wk_follows _ _ _ _ _ (IRow.of_it (HRW.out.below (by assumption))) (HIW.out.below (by assumption))).mono ?_; rintro e w5 ⟨rfl, hb5⟩)
      | (go_at_call_of 15 (Value.int .i64 7); go_split_ands; refine (wk_has7 _ _ _ (HIW.out.below (by assumption))).mono ?_; rintro e w6 ⟨rfl, hb6⟩)
      | (go_at_call_of 15 (Value.int .i64 2); go_split_ands; refine (wk_has2 _ _ _ (HIW.out.below (by assumption))).mono ?_; rintro e w7 ⟨rfl, hb7⟩)
      | (go_at_call 17; go_split_ands; refine (wk_clone _ _ _ (HIW.out.below (by assumption))).mono ?_; rintro e w8 ⟨v8, rfl, hi8, hb8⟩; obtain ⟨a8, c8, e8, _⟩ := hi8.row; have e9 : v8 = .slice a8 3 c8 := e8; subst e9)
      | (go_at_call 20; go_split_ands; refine (wk_same _ _ _ _ _ (HIW.out.below (by assumption)) (by assumption)).mono ?_; rintro e w9 ⟨rfl, hb9⟩))
  all_goals
    go_split_ands
    have hw : Below w.heap.size w w9 := HBW.out.trans (Below.mono (by assumption) (by simp; omega))
    have HW := Lib.hid hw
    clear hw
    go_wp2
    go_ret
    exact ⟨rfl, HW.out⟩
end Go.Proofs.Ytacjmcjmenbekaa
