/-
  The walk of ConfigFollows.
-/
import Derived.Test.YtacjmcjmenbekaaCfgY
namespace Go.Proofs.Ytacjmcjmenbekaa
open Go.RowKit
set_option linter.unusedSimpArgs false
set_option linter.unusedVariables false

theorem held_two (w : World) (e1 : Int) (a1 : Option Addr) (n1 c1 : Nat) (e2 : Int) (a2 : Option Addr) (n2 c2 : Nat) : Held w (w.heap.size + 1 + 1) (LF w e1 a1 n1 c1 e2 a2 n2 c2) (box2 w e1 a1 n1 c1 e2 a2 n2 c2) := by
  have hs0 := (held_box w e1 a1 n1 c1).row #[.int .i64 e2, .slice a2 n2 c2] 24
  simpa using hs0
set_option maxHeartbeats 1000000 in
theorem follows_far (e1 e2 : Int) (a1 a2 : Option Addr) (c1 c2 : Nat) (ns ms : List Int) (w : World) (h1 : It w (.slice a1 ns.length c1) ns) (h2 : It w (.slice a2 ms.length c2) ms) (hf : (40 : Int) < ns.length ∨ (40 : Int) < ms.length) :
    Calls Try.prog 4 #[cfgV e1 a1 ns.length c1, cfgV e2 a2 ms.length c2] w fun e w' => e = .returned (.bool true) ∧ Below w.heap.size w w' := by
  have HS0 := Lib.hid (held_two w e1 a1 ns.length c1 e2 a2 ms.length c2)
  have hlen := h1.len
  have hlen2 := h2.len
  by_cases t1 : (40 : Int) < ns.length
  · clear hf
    go_enter Try.func4, Try.ntmps4
    go_wp2_with (go_at_call 9; refine (works_any _).mono ?_; rintro e w1 ⟨rfl, hb⟩; have hn := HS0.out.kept hb; clear hb; have HS := Lib.hid hn; have hc := hn.cells; simp only [AllC, rowL, Nat.reduceAdd] at hc; clear hn; go_split_ands)
    go_ret
    exact ⟨rfl, HS.out.below⟩
  · have hab : (40 : Int) < ms.length := by
      rcases hf with h | h
      · exact absurd h t1
      · exact h
    have t2 : decide ((40 : Int) < ns.length) = false := by simpa using t1
    clear hf
    go_enter Try.func4, Try.ntmps4
    go_wp2_with (go_at_call 9; refine (works_any _).mono ?_; rintro e w1 ⟨rfl, hb⟩; have hn := HS0.out.kept hb; clear hb; have HS := Lib.hid hn; have hc := hn.cells; simp only [AllC, rowL, Nat.reduceAdd] at hc; clear hn; go_split_ands)
    go_ret
    exact ⟨rfl, HS.out.below⟩
theorem also4h {W w' : World} {p0 p1 p2 p3 : Addr} {x0 x1 x2 x3 : Value} (hb : Below W.heap.size W w') (H : Hid ((W.cell? p0 = some x0 ∧ p0.block < W.heap.size) ∧ (W.cell? p1 = some x1 ∧ p1.block < W.heap.size) ∧ (W.cell? p2 = some x2 ∧ p2.block < W.heap.size) ∧ (W.cell? p3 = some x3 ∧ p3.block < W.heap.size))) :
    w'.cell? p0 = some x0 ∧ w'.cell? p1 = some x1 ∧ w'.cell? p2 = some x2 ∧ w'.cell? p3 = some x3 ∧ Below W.heap.size W w' := by
  obtain ⟨h0, h1, h2, h3⟩ := H.out
  exact ⟨(hb.cell h0.2).trans h0.1, (hb.cell h1.2).trans h1.1, (hb.cell h2.2).trans h2.1, (hb.cell h3.2).trans h3.1, hb⟩
set_option maxHeartbeats 8000000 in
theorem follows_near (e1 e2 : Int) (a1 a2 : Option Addr) (c1 c2 : Nat) (ns ms : List Int) (w : World) (h1 : It w (.slice a1 ns.length c1) ns) (h2 : It w (.slice a2 ms.length c2) ms) (hl1 : ¬ (40 : Int) < ns.length) (hl2 : ¬ (40 : Int) < ms.length) (F G : Bool) (hF : folB e1 ns e2 ms = F) (hG : sameB e1 ns e2 ms = G) :
    Calls Try.prog 4 #[cfgV e1 a1 ns.length c1, cfgV e2 a2 ms.length c2] w fun e w' => e = .returned (.bool true) ∧ Below w.heap.size w w' := by
  have HS0 := Lib.hid (held_two w e1 a1 ns.length c1 e2 a2 ms.length c2)
  have H1 := Lib.hid h1
  have H2 := Lib.hid h2
  have HF := Lib.hid hF
  have HG := Lib.hid hG
  have t1 : decide ((40 : Int) < ns.length) = false := by simpa using hl1
  have t2 : decide ((40 : Int) < ms.length) = false := by simpa using hl2
  clear h1 h2 hF hG
  go_enter Try.func4, Try.ntmps4
  go_wp2_with fail
  refine (works_any _).mono ?_
  rintro e w1 ⟨rfl, hb⟩
  have hn := HS0.out.kept hb
  clear hb HS0
  have HS1 := Lib.hid hn
  have hc1 := hn.cells
  simp only [AllC, rowL, Nat.reduceAdd] at hc1
  clear hn
  go_split_ands
  go_wp2_with fail
  refine (rfollows_any e1 e2 a1 a2 c1 c2 ns ms _ (H1.out.below HS1.out.below) (H2.out.below HS1.out.below)).mono ?_
  rw [HF.out]
  rintro e w2 ⟨rfl, hb⟩
  have hn := HS1.out.kept hb
  clear hb HS1
  have HS2 := Lib.hid hn
  have hc2 := hn.cells
  have hz2 := hn.size
  simp only [AllC, rowL, Nat.reduceAdd] at hc2
  obtain ⟨y0, y1, x0, x1, _⟩ := hc2
  have HX : Hid ((w2.cell? ⟨w.heap.size, 0, none⟩ = some (.int .i64 e1) ∧ w.heap.size < w2.heap.size) ∧ (w2.cell? ⟨w.heap.size, 1, none⟩ = some (.slice a1 ns.length c1) ∧ w.heap.size < w2.heap.size) ∧ (w2.cell? ⟨w.heap.size + 1, 0, none⟩ = some (.int .i64 e2) ∧ w.heap.size + 1 < w2.heap.size) ∧ (w2.cell? ⟨w.heap.size + 1, 1, none⟩ = some (.slice a2 ms.length c2) ∧ w.heap.size + 1 < w2.heap.size)) :=
    Lib.hid ⟨⟨x0, by omega⟩, ⟨x1, by omega⟩, ⟨y0, by omega⟩, ⟨y1, by omega⟩⟩
  have H1W : Hid (It w2 (.slice a1 ns.length c1) ns) := Lib.hid (H1.out.below hn.below)
  have H2W : Hid (It w2 (.slice a2 ms.length c2) ms) := Lib.hid (H2.out.below hn.below)
  have HBW := Lib.hid hn.below
  clear hn y0 y1 x0 x1 HS2
  go_wp2_with fail
  go_region_held3 (fun w' => w'.cell? ⟨w.heap.size, 0, none⟩ = some (.int .i64 e1) ∧ w'.cell? ⟨w.heap.size, 1, none⟩ = some (.slice a1 ns.length c1) ∧ w'.cell? ⟨w.heap.size + 1, 0, none⟩ = some (.int .i64 e2) ∧ w'.cell? ⟨w.heap.size + 1, 1, none⟩ = some (.slice a2 ms.length c2) ∧ Below w2.heap.size w2 w')
    (first
      | exact also4h (Below.refl _ _) HX
      | exact also4h (Below.refl _ _).drew HX
      | (go_split_ands; first | exact also4h (below_self (by assumption) (by assumption)) HX | exact also4h (by assumption) HX))
    (first
      | (go_at_call 19; go_split_ands; refine (follows_any _ _ _ _ _ _ ns ms _ (IRow.of_it (H1W.out.below (by assumption))) (IRow.of_it (H2W.out.below (by assumption)))).mono ?_; rw [HF.out]; rintro e w4 ⟨rfl, hb4⟩)
      | (go_at_call 20; go_split_ands; refine (same_any _ _ _ _ _ _ ns ms _ (IRow.of_it (H1W.out.below (by assumption))) (IRow.of_it (H2W.out.below (by assumption)))).mono ?_; rw [HG.out]; rintro e w5 ⟨rfl, hb5⟩)
      | (go_at_call 14; go_split_ands; refine (rsame_any _ _ _ _ _ _ ns ms _ (IRow.of_it (H1W.out.below (by assumption))) (IRow.of_it (H2W.out.below (by assumption)))).mono ?_; rw [HG.out]; rintro e w6 ⟨rfl, hb6⟩))
  all_goals
    go_split_ands
    have hw5 : Below w2.heap.size w2 w5 := by assumption
    have hw6 : Below w2.heap.size w2 w6 := by assumption
    have HW5 := Lib.hid (below_self HBW.out hw5)
    have HW6 := Lib.hid (below_self HBW.out hw6)
    clear hw5 hw6
    go_wp2
    go_ret
    first | exact ⟨rfl, HW5.out⟩ | exact ⟨rfl, HW6.out⟩
theorem follows_law (e1 e2 : Int) (a1 a2 : Option Addr) (c1 c2 : Nat) (ns ms : List Int) (w : World) (h1 : It w (.slice a1 ns.length c1) ns) (h2 : It w (.slice a2 ms.length c2) ms) :
    Calls Try.prog 4 #[cfgV e1 a1 ns.length c1, cfgV e2 a2 ms.length c2] w fun e w' => e = .returned (.bool true) ∧ Below w.heap.size w w' := by
  by_cases hf : (40 : Int) < ns.length ∨ (40 : Int) < ms.length
  · exact follows_far e1 e2 a1 a2 c1 c2 ns ms w h1 h2 hf
  · exact follows_near e1 e2 a1 a2 c1 c2 ns ms w h1 h2 (fun h => hf (.inl h)) (fun h => hf (.inr h)) _ _ rfl rfl
end Go.Proofs.Ytacjmcjmenbekaa
