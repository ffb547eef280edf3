/-
  The walks of both Shows.
-/
import Derived.Test.YtmkmdgehgllnbaaDoorIdsD
namespace Go.Proofs.YtmkmdgehgllnbaaDoor
open Go.RowKit Go.Sort Go.Shelf Go.Lib
set_option linter.unusedSimpArgs false
set_option linter.unusedVariables false

/-- The table of powers of ten. -/
def TB (w : World) : Prop := Lib.TabIs Tryd.prog w "internal/strconv.uint64pow10" .u64 Lib.pow10Tab
theorem TB.below {w w' : World} (h : TB w) (hb : Below w.heap.size w w') : TB w' := by
  unfold TB Lib.TabIs World.var? at *
  cases hg : Tryd.prog.globalNamed "internal/strconv.uint64pow10" with
  | none => simp [hg] at h
  | some g =>
    simp only [hg, Option.bind_some] at h ⊢
    have hlt : g < w.heap.size := by
      rcases Nat.lt_or_ge g w.heap.size with h' | h'
      · exact h'
      · rw [Array.getElem?_eq_none h'] at h; simp at h
    rw [hb.block g hlt]
    exact h
def wf64 (n : Int) : Prop := -9223372036854775808 ≤ n ∧ n ≤ 9223372036854775807
theorem itoa_any (n : Int) (h : wf64 n) (w : World) (ht : TB w) :
    Calls Tryd.prog 27 #[.int .i64 n] w fun e w' => e = .returned (.string (its n)) ∧ Below w.heap.size w w' := by
  have hc := Any.strconv_Itoa Tryd.itoaM n h.1 h.2 w ht
  change Calls Tryd.prog 27 _ _ _ at hc
  exact hc.mono fun e w' ⟨he, k, os, hw⟩ => ⟨he, Grew.below ⟨k, os, hw⟩⟩
def dot : ByteArray := { data := #[46] }
/-- An instance as a text. -/
def shw (x : I3) : ByteArray := its x.1 ++ dot ++ its x.2.1 ++ dot ++ its x.2.2
theorem keep3 {wr w' : World} {b1 o1 : Nat} {x1 x2 x3 : Value} (hb1 : b1 < wr.heap.size) (d1 : wr.cell? ⟨b1, o1, none⟩ = some x1) (d2 : wr.cell? ⟨b1, o1 + 1, none⟩ = some x2) (d3 : wr.cell? ⟨b1, o1 + 2, none⟩ = some x3) (hB : Below wr.heap.size wr w') :
    w'.cell? ⟨b1, o1, none⟩ = some x1 ∧ w'.cell? ⟨b1, o1 + 1, none⟩ = some x2 ∧ w'.cell? ⟨b1, o1 + 2, none⟩ = some x3 ∧ Below wr.heap.size wr w' :=
  ⟨(hB.cell (p := ⟨b1, o1, none⟩) hb1).trans d1, (hB.cell (p := ⟨b1, o1 + 1, none⟩) hb1).trans d2, (hB.cell (p := ⟨b1, o1 + 2, none⟩) hb1).trans d3, hB⟩
set_option maxRecDepth 100000 in
set_option maxHeartbeats 4000000 in
theorem rshow_any (a1 a2 a3 : Int) (w : World) (h1 : wf64 a1) (h2 : wf64 a2) (h3 : wf64 a3) :
    Calls Tryd.prog 14 #[.agg #[.int .i64 a1, .int .i64 a2, .int .i64 a3]] w fun e w' => e = .returned (.string (shw (a1, a2, a3))) ∧ Below w.heap.size w w' := by
  obtain ⟨W0, hW0⟩ : ∃ W0, w.alloc (.cells #[.int .i64 a1, .int .i64 a2, .int .i64 a3] 23) = W0 := ⟨_, rfl⟩
  have hB0 : Below w.heap.size w W0 := by rw [← hW0]; exact (Below.refl _ _).alloc (Nat.le_refl _) _
  have hz : w.heap.size < W0.heap.size := by rw [← hW0]; simp
  have d1 : W0.cell? ⟨w.heap.size, 0, none⟩ = some (.int .i64 a1) := by rw [← hW0]; exact new_cell w _ _ 0
  have d2 : W0.cell? ⟨w.heap.size, 0 + 1, none⟩ = some (.int .i64 a2) := by rw [← hW0]; exact new_cell w _ _ 1
  have d3 : W0.cell? ⟨w.heap.size, 0 + 2, none⟩ = some (.int .i64 a3) := by rw [← hW0]; exact new_cell w _ _ 2
  have HB0 := Lib.hid hB0
  have HC : Hid (∀ n, wf64 n → ∀ W, Below W0.heap.size W0 W → Calls Tryd.prog 28 #[.int .i64 n] W fun e w' => e = .returned (.string (its n)) ∧ Below W.heap.size W w') := Lib.hid (fun n hn W hW => digits_any n hn.1 hn.2 W)
  have H1 := Lib.hid h1
  have H2 := Lib.hid h2
  have H3 := Lib.hid h3
  have HS : Hid (shw (a1, a2, a3) = its a1 ++ dot ++ its a2 ++ dot ++ its a3) := Lib.hid rfl
  have s1 := its_size a1 h1.1 h1.2
  have s2 := its_size a2 h2.1 h2.2
  have s3 := its_size a3 h3.1 h3.2
  obtain ⟨p1, e1⟩ : ∃ p, (its a1).size = p := ⟨_, rfl⟩
  obtain ⟨p2, e2⟩ : ∃ p, (its a2).size = p := ⟨_, rfl⟩
  obtain ⟨p3, e3⟩ : ∃ p, (its a3).size = p := ⟨_, rfl⟩
  rw [e1] at s1
  rw [e2] at s2
  rw [e3] at s3
  obtain ⟨R, hR⟩ : ∃ R, shw (a1, a2, a3) = R := ⟨_, rfl⟩
  rw [hR] at HS ⊢
  have z1 : ¬ (9223372036854775807 < p1 + 1) := by omega
  have z2 : ¬ (9223372036854775807 < p1 + 1 + p2) := by omega
  have z3 : ¬ (9223372036854775807 < p1 + 1 + p2 + 1) := by omega
  have z4 : ¬ (9223372036854775807 < p1 + 1 + p2 + 1 + p3) := by omega
  clear h1 h2 h3 s1 s2 s3 hR hB0
  go_enter Tryd.func14, Tryd.ntmps14
  go_wp2_with fail
  clear hW0
  go_region_held3 (fun w' => w'.cell? ⟨w.heap.size, 0, none⟩ = some (.int .i64 a1) ∧ w'.cell? ⟨w.heap.size, 0 + 1, none⟩ = some (.int .i64 a2) ∧ w'.cell? ⟨w.heap.size, 0 + 2, none⟩ = some (.int .i64 a3) ∧ Below W0.heap.size W0 w')
    (first
      | exact keep3 hz d1 d2 d3 (Below.refl _ _).drew
      | (go_split_ands; exact keep3 hz d1 d2 d3 (by assumption)))
    (first
      | (go_at_call 28; go_split_ands; refine (HC.out _ (by first | exact H1.out | exact H2.out | exact H3.out) _ (by assumption)).mono ?_; rintro e w7 ⟨rfl, hg7⟩; have hS7 : Below W0.heap.size W0 w7 := below_self (by assumption) hg7)
      | fail)
  go_split_ands
  go_wp2
  go_ret
  exact ⟨ret_str (by rw [HS.out]; rfl), HB0.out.trans (Below.mono (by assumption) HB0.out.size)⟩
set_option maxRecDepth 100000 in
set_option maxHeartbeats 4000000 in
theorem show_any (a1 a2 a3 : Int) (w : World) (h1 : wf64 a1) (h2 : wf64 a2) (h3 : wf64 a3) (ht : TB w) :
    Calls Tryd.prog 13 #[.agg #[.int .i64 a1, .int .i64 a2, .int .i64 a3]] w fun e w' => e = .returned (.string (shw (a1, a2, a3))) ∧ Below w.heap.size w w' := by
  obtain ⟨W0, hW0⟩ : ∃ W0, w.alloc (.cells #[.int .i64 a1, .int .i64 a2, .int .i64 a3] 23) = W0 := ⟨_, rfl⟩
  have hB0 : Below w.heap.size w W0 := by rw [← hW0]; exact (Below.refl _ _).alloc (Nat.le_refl _) _
  have hz : w.heap.size < W0.heap.size := by rw [← hW0]; simp
  have d1 : W0.cell? ⟨w.heap.size, 0, none⟩ = some (.int .i64 a1) := by rw [← hW0]; exact new_cell w _ _ 0
  have d2 : W0.cell? ⟨w.heap.size, 0 + 1, none⟩ = some (.int .i64 a2) := by rw [← hW0]; exact new_cell w _ _ 1
  have d3 : W0.cell? ⟨w.heap.size, 0 + 2, none⟩ = some (.int .i64 a3) := by rw [← hW0]; exact new_cell w _ _ 2
  have HB0 := Lib.hid hB0
  have HC : Hid (∀ n, wf64 n → ∀ W, Below W0.heap.size W0 W → Calls Tryd.prog 27 #[.int .i64 n] W fun e w' => e = .returned (.string (its n)) ∧ Below W.heap.size W w') := Lib.hid (fun n hn W hW => itoa_any n hn W ((ht.below hB0).below hW))
  have H1 := Lib.hid h1
  have H2 := Lib.hid h2
  have H3 := Lib.hid h3
  have HS : Hid (shw (a1, a2, a3) = its a1 ++ dot ++ its a2 ++ dot ++ its a3) := Lib.hid rfl
  have s1 := its_size a1 h1.1 h1.2
  have s2 := its_size a2 h2.1 h2.2
  have s3 := its_size a3 h3.1 h3.2
  obtain ⟨p1, e1⟩ : ∃ p, (its a1).size = p := ⟨_, rfl⟩
  obtain ⟨p2, e2⟩ : ∃ p, (its a2).size = p := ⟨_, rfl⟩
  obtain ⟨p3, e3⟩ : ∃ p, (its a3).size = p := ⟨_, rfl⟩
  rw [e1] at s1
  rw [e2] at s2
  rw [e3] at s3
  obtain ⟨R, hR⟩ : ∃ R, shw (a1, a2, a3) = R := ⟨_, rfl⟩
  rw [hR] at HS ⊢
  have z1 : ¬ (9223372036854775807 < p1 + 1) := by omega
  have z2 : ¬ (9223372036854775807 < p1 + 1 + p2) := by omega
  have z3 : ¬ (9223372036854775807 < p1 + 1 + p2 + 1) := by omega
  have z4 : ¬ (9223372036854775807 < p1 + 1 + p2 + 1 + p3) := by omega
  clear h1 h2 h3 s1 s2 s3 hR hB0 ht
  go_enter Tryd.func13, Tryd.ntmps13
  go_wp2_with fail
  clear hW0
  go_region_held3 (fun w' => w'.cell? ⟨w.heap.size, 0, none⟩ = some (.int .i64 a1) ∧ w'.cell? ⟨w.heap.size, 0 + 1, none⟩ = some (.int .i64 a2) ∧ w'.cell? ⟨w.heap.size, 0 + 2, none⟩ = some (.int .i64 a3) ∧ Below W0.heap.size W0 w')
    (first
      | exact keep3 hz d1 d2 d3 (Below.refl _ _).drew
      | (go_split_ands; exact keep3 hz d1 d2 d3 (by assumption)))
    (first
      | (go_at_call 27; go_split_ands; refine (HC.out _ (by first | exact H1.out | exact H2.out | exact H3.out) _ (by assumption)).mono ?_; rintro e w7 ⟨rfl, hg7⟩; have hS7 : Below W0.heap.size W0 w7 := below_self (by assumption) hg7)
      | fail)
  go_split_ands
  go_wp2
  go_ret
  exact ⟨ret_str (by rw [HS.out]; rfl), HB0.out.trans (Below.mono (by assumption) HB0.out.size)⟩
end Go.Proofs.YtmkmdgehgllnbaaDoor
