/-
  The walk of ConfigBack: its beginning, and its second half.
-/
import Derived.Test.YtacjmcjmenbekaaCfgO
namespace Go.Proofs.Ytacjmcjmenbekaa
open Go.RowKit
set_option linter.unusedSimpArgs false
set_option linter.unusedVariables false

set_option maxHeartbeats 1000000 in
theorem back_far (ep : Int) (ad : Option Addr) (cap : Nat) (ns : List Int) (n m : Int) (w : World) (h : It w (.slice ad ns.length cap) ns) (hf : (40 : Int) < ns.length ∨ (524288 : Int) < ep) :
    Calls Try.prog 6 #[cfgV ep ad ns.length cap, .int .i64 n, .int .i64 m] w fun e w' => e = .returned (.bool true) ∧ Below w.heap.size w w' := by
  have HS0 := Lib.hid (held_box w ep ad ns.length cap)
  have hlen := h.len
  by_cases t1 : (40 : Int) < ns.length
  · clear hf
    go_enter Try.func6, Try.ntmps6
    go_wp2_with (go_at_call 9; refine (works_any _).mono ?_; rintro e w1 ⟨rfl, hb⟩; have hn := HS0.out.kept hb; clear hb; have HS := Lib.hid hn; have hc := hn.cells; dsimp only [AllC, rowL] at hc; clear hn; go_split_ands)
    go_ret
    exact ⟨rfl, HS.out.below⟩
  · have hab : (524288 : Int) < ep := by
      rcases hf with h | h
      · exact absurd h t1
      · exact h
    have t2 : decide ((40 : Int) < ns.length) = false := by simpa using t1
    clear hf
    go_enter Try.func6, Try.ntmps6
    go_wp2_with (go_at_call 9; refine (works_any _).mono ?_; rintro e w1 ⟨rfl, hb⟩; have hn := HS0.out.kept hb; clear hb; have HS := Lib.hid hn; have hc := hn.cells; dsimp only [AllC, rowL] at hc; clear hn; go_split_ands)
    go_ret
    exact ⟨rfl, HS.out.below⟩
-- THE FOUR WAYS
set_option maxHeartbeats 4000000 in
theorem back_nn (ep : Int) (ad : Option Addr) (cap : Nat) (ns : List Int) (n m : Int) (w : World) (h : It w (.slice ad ns.length cap) ns) (hl : ¬ (40 : Int) < ns.length) (hep : ¬ (524288 : Int) < ep) (C : Chg) (hC : chg ep ns 7 n 0 = C) (hx : C.err ≠ 0) (D : Chg) (hD : chg ep ns 9 n m = D) (hy : D.err ≠ 0) :
    Calls Try.prog 6 #[cfgV ep ad ns.length cap, .int .i64 n, .int .i64 m] w fun e w' => e = .returned (.bool true) ∧ Below w.heap.size w w' := by
  have HS0 := Lib.hid (held_box w ep ad ns.length cap)
  have H0 := Lib.hid (h.alloc (.cells #[.int .i64 ep, .slice ad ns.length cap] 24))
  have HH := Lib.hid h
  have t2 : decide ((40 : Int) < ns.length) = false := by simpa using hl
  have t3 : decide ((524288 : Int) < ep) = false := by simpa using hep
  have HC := Lib.hid hC
  have HD := Lib.hid hD
  have tx : (C.err == 0) = false := by simpa using hx
  have ty : (D.err == 0) = false := by simpa using hy
  clear h hC hD hx hy
  go_enter Try.func6, Try.ntmps6
  go_wp2_with fail
  refine (works_any _).mono ?_
  rintro e w1 ⟨rfl, hb⟩
  have hn := (HS0.out).kept hb
  have H1 := Lib.hid (H0.out.below hb)
  have hs1 := hb.size
  clear hb HS0 H0
  have HS1 := Lib.hid hn
  have hc1 := hn.cells
  have hz1 := hn.size
  try simp only [AllC, rowL, Nat.reduceAdd, World.size_alloc] at hc1
  try simp only [World.size_alloc] at hs1
  clear hn
  go_split_ands
  go_wp2_with fail
  refine (change_any ep ad cap ns _ _ 7 _ _ _ n 0 _ H1.out).mono ?_
  rw [HC.out]
  rintro e w2 ⟨v2, he, hi, hb⟩
  subst he
  obtain ⟨a2, c2, rfl, _⟩ := hi.it.row
  have hn := (HS1.out).kept hb
  have H2 := Lib.hid (H1.out.below hb)
  have I2 := Lib.hid hi.it
  have hs2 := hb.size
  clear hb HS1 H1 hi
  have HS2 := Lib.hid hn
  have hc2 := hn.cells
  have hz2 := hn.size
  try simp only [AllC, rowL, Nat.reduceAdd, World.size_alloc] at hc2
  try simp only [World.size_alloc] at hs2
  clear hn
  go_split_ands
  have kk20 : w.heap.size < w2.heap.size := by omega
  go_wp2_with fail
  refine (change_any ep ad cap ns _ _ 9 _ _ _ n m _ (H2.out.alloc _)).mono ?_
  rw [HD.out]
  rintro e w5 ⟨v5, he, hi, hb⟩
  subst he
  obtain ⟨a5, c5, rfl, _⟩ := hi.it.row
  have hf5 : Below (w2.heap.size + 1) (w2.alloc (.cells #[.int .i64 C.ep, .slice a2 C.ns.length c2] 24)) w5 := hb.mono (by simp)
  have fz0 : w5.frozen? ⟨w2.heap.size, 0, none⟩ = false := by rw [hf5.frozen (p := ⟨w2.heap.size, 0, none⟩) (by simp)]; simp [go_sem]
  have fz1 : w5.frozen? ⟨w2.heap.size, 1, none⟩ = false := by rw [hf5.frozen (p := ⟨w2.heap.size, 1, none⟩) (by simp)]; simp [go_sem]
  have cz0 : w5.cell? ⟨w2.heap.size, 0, none⟩ = some (.int .i64 C.ep) := by rw [hf5.cell (p := ⟨w2.heap.size, 0, none⟩) (by simp)]; simp [go_sem]
  have cz1 : w5.cell? ⟨w2.heap.size, 1, none⟩ = some (.slice a2 C.ns.length c2) := by rw [hf5.cell (p := ⟨w2.heap.size, 1, none⟩) (by simp)]; simp [go_sem]
  have I5 := Lib.hid (hi.mono (show w2.heap.size + 1 ≤ _ by (try simp only [World.size_alloc]); omega))
  clear hf5
  have hn := (HS2.out.alloc _).kept hb
  have H5 := Lib.hid ((H2.out.alloc _).below hb)
  have hs5 := hb.size
  clear hb HS2 H2 I2 hi
  have HS5 := Lib.hid hn
  have hc5 := hn.cells
  have hz5 := hn.size
  try simp only [AllC, rowL, Nat.reduceAdd, World.size_alloc] at hc5
  try simp only [World.size_alloc] at hs5
  clear hn
  go_split_ands
  have kk50 : w.heap.size < w5.heap.size := by omega
  have kk51 : w2.heap.size < w5.heap.size := by omega
  have HW := Lib.hid ((HS5.out.set (show w.heap.size + 1 ≤ (⟨w2.heap.size, 0, none⟩ : Addr).block by simp; omega) (.int .i64 D.ep)).set (show w.heap.size + 1 ≤ (⟨w2.heap.size, 1, none⟩ : Addr).block by simp; omega) (.slice a5 D.ns.length c5))
  go_wp2
  go_ret
  exact ⟨rfl, HW.out.below⟩
set_option maxHeartbeats 4000000 in
theorem back_yn (ep : Int) (ad : Option Addr) (cap : Nat) (ns : List Int) (n m : Int) (w : World) (h : It w (.slice ad ns.length cap) ns) (hl : ¬ (40 : Int) < ns.length) (hep : ¬ (524288 : Int) < ep) (l1 : List Int) (hC : chg ep ns 7 n 0 = ⟨0, ep + 1, l1⟩) (hB : chg (ep + 1) l1 8 n 0 = ⟨0, ep + 1 + 1, ns⟩) (D : Chg) (hD : chg ep ns 9 n m = D) (hy : D.err ≠ 0) (he0 : 0 ≤ ep) :
    Calls Try.prog 6 #[cfgV ep ad ns.length cap, .int .i64 n, .int .i64 m] w fun e w' => e = .returned (.bool true) ∧ Below w.heap.size w w' := by
  have HS0 := Lib.hid (held_box w ep ad ns.length cap)
  have H0 := Lib.hid (h.alloc (.cells #[.int .i64 ep, .slice ad ns.length cap] 24))
  have HH := Lib.hid h
  have t2 : decide ((40 : Int) < ns.length) = false := by simpa using hl
  have t3 : decide ((524288 : Int) < ep) = false := by simpa using hep
  have HC := Lib.hid hC
  have HD := Lib.hid hD
  have HB := Lib.hid hB
  have ty : (D.err == 0) = false := by simpa using hy
  have he1 : ep ≤ 524288 := by omega
  have hsm : sameB (ep + 1 + 1 - 2) ns ep ns = true := by simp only [sameB]; simp; omega
  have HSM := Lib.hid hsm
  clear hsm
  clear h hC hD hB hy
  go_enter Try.func6, Try.ntmps6
  go_wp2_with fail
  refine (works_any _).mono ?_
  rintro e w1 ⟨rfl, hb⟩
  have hn := (HS0.out).kept hb
  have H1 := Lib.hid (H0.out.below hb)
  have hs1 := hb.size
  clear hb HS0 H0
  have HS1 := Lib.hid hn
  have hc1 := hn.cells
  have hz1 := hn.size
  try simp only [AllC, rowL, Nat.reduceAdd, World.size_alloc] at hc1
  try simp only [World.size_alloc] at hs1
  clear hn
  go_split_ands
  go_wp2_with fail
  refine (change_any ep ad cap ns _ _ 7 _ _ _ n 0 _ H1.out).mono ?_
  rw [HC.out]
  rintro e w2 ⟨v2, he, hi, hb⟩
  subst he
  obtain ⟨a2, c2, rfl, _⟩ := hi.it.row
  have hn := (HS1.out).kept hb
  have H2 := Lib.hid (H1.out.below hb)
  have I2 := Lib.hid hi.it
  have hs2 := hb.size
  clear hb HS1 H1 hi
  have HS2 := Lib.hid hn
  have hc2 := hn.cells
  have hz2 := hn.size
  try simp only [AllC, rowL, Nat.reduceAdd, World.size_alloc] at hc2
  try simp only [World.size_alloc] at hs2
  clear hn
  go_split_ands
  have kk20 : w.heap.size < w2.heap.size := by omega
  go_wp2_with fail
  refine (change_any (ep + 1) a2 c2 l1 _ _ 8 _ _ _ n 0 _ (I2.out.alloc _)).mono ?_
  rw [HB.out]
  rintro e w3 ⟨v3, he, hi, hb⟩
  subst he
  obtain ⟨a3, c3, rfl, _⟩ := hi.it.row
  have HF3 : Hid (Below (w2.heap.size + 1) (w2.alloc (.cells #[.int .i64 (ep + 1), .slice a2 l1.length c2] 24)) w3) := Lib.hid (hb.mono (by simp))
  have hn := (HS2.out.alloc _).kept hb
  have H3 := Lib.hid ((H2.out.alloc _).below hb)
  have I3 := Lib.hid hi.it
  have hs3 := hb.size
  clear hb HS2 H2 I2 hi
  have HS3 := Lib.hid hn
  have hc3 := hn.cells
  have hz3 := hn.size
  try simp only [AllC, rowL, Nat.reduceAdd, World.size_alloc] at hc3
  try simp only [World.size_alloc] at hs3
  clear hn
  go_split_ands
  have kk30 : w.heap.size < w3.heap.size := by omega
  have kk31 : w2.heap.size < w3.heap.size := by omega
  go_wp2_with fail
  refine (same_any (ep + 1 + 1 - 2) ep a3 ad c3 cap ns ns _ (IRow.of_it (I3.out.alloc _)) (IRow.of_it (H3.out.alloc _))).mono ?_
  rw [HSM.out]
  rintro e w4 ⟨rfl, hb⟩
  have HF4 := Lib.hid ((HF3.out.alloc (by omega) _).trans (hb.mono (by simp; omega)))
  have hn := (HS3.out.alloc _).kept hb
  have H4 := Lib.hid ((H3.out.alloc _).below hb)
  have hs4 := hb.size
  clear hb HS3 H3 I3 HF3
  have HS4 := Lib.hid hn
  have hc4 := hn.cells
  have hz4 := hn.size
  try simp only [AllC, rowL, Nat.reduceAdd, World.size_alloc] at hc4
  try simp only [World.size_alloc] at hs4
  clear hn
  go_split_ands
  have kk40 : w.heap.size < w4.heap.size := by omega
  have kk41 : w2.heap.size < w4.heap.size := by omega
  go_wp2_with fail
  refine (change_any ep ad cap ns _ _ 9 _ _ _ n m _ H4.out).mono ?_
  rw [HD.out]
  rintro e w5 ⟨v5, he, hi, hb⟩
  subst he
  obtain ⟨a5, c5, rfl, _⟩ := hi.it.row
  have hf5 : Below (w2.heap.size + 1) (w2.alloc (.cells #[.int .i64 (ep + 1), .slice a2 l1.length c2] 24)) w5 := HF4.out.trans (hb.mono (by omega))
  have fz0 : w5.frozen? ⟨w2.heap.size, 0, none⟩ = false := by rw [hf5.frozen (p := ⟨w2.heap.size, 0, none⟩) (by simp)]; simp [go_sem]
  have fz1 : w5.frozen? ⟨w2.heap.size, 1, none⟩ = false := by rw [hf5.frozen (p := ⟨w2.heap.size, 1, none⟩) (by simp)]; simp [go_sem]
  have cz0 : w5.cell? ⟨w2.heap.size, 0, none⟩ = some (.int .i64 (ep + 1)) := by rw [hf5.cell (p := ⟨w2.heap.size, 0, none⟩) (by simp)]; simp [go_sem]
  have cz1 : w5.cell? ⟨w2.heap.size, 1, none⟩ = some (.slice a2 l1.length c2) := by rw [hf5.cell (p := ⟨w2.heap.size, 1, none⟩) (by simp)]; simp [go_sem]
  have I5 := Lib.hid (hi.mono (show w2.heap.size + 1 ≤ _ by (try simp only [World.size_alloc]); omega))
  clear hf5
  have hn := (HS4.out).kept hb
  have H5 := Lib.hid (H4.out.below hb)
  have hs5 := hb.size
  clear hb HS4 H4 HF4 hi
  have HS5 := Lib.hid hn
  have hc5 := hn.cells
  have hz5 := hn.size
  try simp only [AllC, rowL, Nat.reduceAdd, World.size_alloc] at hc5
  try simp only [World.size_alloc] at hs5
  clear hn
  go_split_ands
  have kk50 : w.heap.size < w5.heap.size := by omega
  have kk51 : w2.heap.size < w5.heap.size := by omega
  have HW := Lib.hid ((HS5.out.set (show w.heap.size + 1 ≤ (⟨w2.heap.size, 0, none⟩ : Addr).block by simp; omega) (.int .i64 D.ep)).set (show w.heap.size + 1 ≤ (⟨w2.heap.size, 1, none⟩ : Addr).block by simp; omega) (.slice a5 D.ns.length c5))
  go_wp2
  go_ret
  exact ⟨rfl, HW.out.below⟩
set_option maxHeartbeats 4000000 in
theorem back_ny (ep : Int) (ad : Option Addr) (cap : Nat) (ns : List Int) (n m : Int) (w : World) (h : It w (.slice ad ns.length cap) ns) (hl : ¬ (40 : Int) < ns.length) (hep : ¬ (524288 : Int) < ep) (C : Chg) (hC : chg ep ns 7 n 0 = C) (hx : C.err ≠ 0) (l2 : List Int) (hD : chg ep ns 9 n m = ⟨0, ep + 1, l2⟩) (hE : chg (ep + 1) l2 9 m n = ⟨0, ep + 1 + 1, ns⟩) (he0 : 0 ≤ ep) :
    Calls Try.prog 6 #[cfgV ep ad ns.length cap, .int .i64 n, .int .i64 m] w fun e w' => e = .returned (.bool true) ∧ Below w.heap.size w w' := by
  have HS0 := Lib.hid (held_box w ep ad ns.length cap)
  have H0 := Lib.hid (h.alloc (.cells #[.int .i64 ep, .slice ad ns.length cap] 24))
  have HH := Lib.hid h
  have t2 : decide ((40 : Int) < ns.length) = false := by simpa using hl
  have t3 : decide ((524288 : Int) < ep) = false := by simpa using hep
  have HC := Lib.hid hC
  have HD := Lib.hid hD
  have tx : (C.err == 0) = false := by simpa using hx
  have HE := Lib.hid hE
  have he1 : ep ≤ 524288 := by omega
  have hsm : sameB (ep + 1 + 1 - 2) ns ep ns = true := by simp only [sameB]; simp; omega
  have HSM := Lib.hid hsm
  clear hsm
  clear h hC hD hx hE
  go_enter Try.func6, Try.ntmps6
  go_wp2_with fail
  refine (works_any _).mono ?_
  rintro e w1 ⟨rfl, hb⟩
  have hn := (HS0.out).kept hb
  have H1 := Lib.hid (H0.out.below hb)
  have hs1 := hb.size
  clear hb HS0 H0
  have HS1 := Lib.hid hn
  have hc1 := hn.cells
  have hz1 := hn.size
  try simp only [AllC, rowL, Nat.reduceAdd, World.size_alloc] at hc1
  try simp only [World.size_alloc] at hs1
  clear hn
  go_split_ands
  go_wp2_with fail
  refine (change_any ep ad cap ns _ _ 7 _ _ _ n 0 _ H1.out).mono ?_
  rw [HC.out]
  rintro e w2 ⟨v2, he, hi, hb⟩
  subst he
  obtain ⟨a2, c2, rfl, _⟩ := hi.it.row
  have hn := (HS1.out).kept hb
  have H2 := Lib.hid (H1.out.below hb)
  have I2 := Lib.hid hi.it
  have hs2 := hb.size
  clear hb HS1 H1 hi
  have HS2 := Lib.hid hn
  have hc2 := hn.cells
  have hz2 := hn.size
  try simp only [AllC, rowL, Nat.reduceAdd, World.size_alloc] at hc2
  try simp only [World.size_alloc] at hs2
  clear hn
  go_split_ands
  have kk20 : w.heap.size < w2.heap.size := by omega
  go_wp2_with fail
  refine (change_any ep ad cap ns _ _ 9 _ _ _ n m _ (H2.out.alloc _)).mono ?_
  rw [HD.out]
  rintro e w5 ⟨v5, he, hi, hb⟩
  subst he
  obtain ⟨a5, c5, rfl, _⟩ := hi.it.row
  have hf5 : Below (w2.heap.size + 1) (w2.alloc (.cells #[.int .i64 C.ep, .slice a2 C.ns.length c2] 24)) w5 := hb.mono (by simp)
  have fz0 : w5.frozen? ⟨w2.heap.size, 0, none⟩ = false := by rw [hf5.frozen (p := ⟨w2.heap.size, 0, none⟩) (by simp)]; simp [go_sem]
  have fz1 : w5.frozen? ⟨w2.heap.size, 1, none⟩ = false := by rw [hf5.frozen (p := ⟨w2.heap.size, 1, none⟩) (by simp)]; simp [go_sem]
  have cz0 : w5.cell? ⟨w2.heap.size, 0, none⟩ = some (.int .i64 C.ep) := by rw [hf5.cell (p := ⟨w2.heap.size, 0, none⟩) (by simp)]; simp [go_sem]
  have cz1 : w5.cell? ⟨w2.heap.size, 1, none⟩ = some (.slice a2 C.ns.length c2) := by rw [hf5.cell (p := ⟨w2.heap.size, 1, none⟩) (by simp)]; simp [go_sem]
  have I5 := Lib.hid (hi.mono (show w2.heap.size + 1 ≤ _ by (try simp only [World.size_alloc]); omega))
  clear hf5
  have hn := (HS2.out.alloc _).kept hb
  have H5 := Lib.hid ((H2.out.alloc _).below hb)
  have hs5 := hb.size
  clear hb HS2 H2 I2 hi
  have HS5 := Lib.hid hn
  have hc5 := hn.cells
  have hz5 := hn.size
  try simp only [AllC, rowL, Nat.reduceAdd, World.size_alloc] at hc5
  try simp only [World.size_alloc] at hs5
  clear hn
  go_split_ands
  have kk50 : w.heap.size < w5.heap.size := by omega
  have kk51 : w2.heap.size < w5.heap.size := by omega
  have HW := Lib.hid ((HS5.out.set (show w.heap.size + 1 ≤ (⟨w2.heap.size, 0, none⟩ : Addr).block by simp; omega) (.int .i64 (ep + 1))).set (show w.heap.size + 1 ≤ (⟨w2.heap.size, 1, none⟩ : Addr).block by simp; omega) (.slice a5 l2.length c5))
  have IW := Lib.hid ((I5.out.set (show (⟨w2.heap.size, 0, none⟩ : Addr).block < w2.heap.size + 1 by simp) (.int .i64 (ep + 1))).set (show (⟨w2.heap.size, 1, none⟩ : Addr).block < w2.heap.size + 1 by simp) (.slice a5 l2.length c5))
  have hcw := HW.out.cells
  simp only [AllC, rowL, Nat.reduceAdd] at hcw
  go_wp2_with fail
  refine (change_any (ep + 1) a5 c5 l2 _ _ 9 _ _ _ m n _ IW.out.it).mono ?_
  rw [HE.out]
  rintro e w6 ⟨v6, he, hi, hb⟩
  subst he
  obtain ⟨a6, c6, rfl, _⟩ := hi.it.row
  have hn := HW.out.kept hb
  have I6 := Lib.hid hi.it
  have hs6 := hb.size
  clear hb HW IW HS5 hi hcw
  have HS6 := Lib.hid hn
  have hc6 := hn.cells
  simp only [AllC, rowL, Nat.reduceAdd] at hc6
  have hz6 := hn.size
  clear hn
  go_split_ands
  have kk60 : w.heap.size < w6.heap.size := by omega
  go_wp2_with fail
  refine (same_any (ep + 1 + 1 - 2) ep a6 ad c6 cap ns ns _ (IRow.of_it (I6.out.alloc _)) (IRow.of_it ((HH.out.below HS6.out.below).alloc _))).mono ?_
  rw [HSM.out]
  rintro e w7 ⟨rfl, hb⟩
  have HS7 := Lib.hid ((HS6.out.alloc _).kept hb)
  clear hb HS6 I6
  go_wp2
  go_ret
  exact ⟨rfl, HS7.out.below⟩
set_option maxHeartbeats 4000000 in
theorem back_yy (ep : Int) (ad : Option Addr) (cap : Nat) (ns : List Int) (n m : Int) (w : World) (h : It w (.slice ad ns.length cap) ns) (hl : ¬ (40 : Int) < ns.length) (hep : ¬ (524288 : Int) < ep) (l1 : List Int) (hC : chg ep ns 7 n 0 = ⟨0, ep + 1, l1⟩) (hB : chg (ep + 1) l1 8 n 0 = ⟨0, ep + 1 + 1, ns⟩) (l2 : List Int) (hD : chg ep ns 9 n m = ⟨0, ep + 1, l2⟩) (hE : chg (ep + 1) l2 9 m n = ⟨0, ep + 1 + 1, ns⟩) (he0 : 0 ≤ ep) :
    Calls Try.prog 6 #[cfgV ep ad ns.length cap, .int .i64 n, .int .i64 m] w fun e w' => e = .returned (.bool true) ∧ Below w.heap.size w w' := by
  have HS0 := Lib.hid (held_box w ep ad ns.length cap)
  have H0 := Lib.hid (h.alloc (.cells #[.int .i64 ep, .slice ad ns.length cap] 24))
  have HH := Lib.hid h
  have t2 : decide ((40 : Int) < ns.length) = false := by simpa using hl
  have t3 : decide ((524288 : Int) < ep) = false := by simpa using hep
  have HC := Lib.hid hC
  have HD := Lib.hid hD
  have HB := Lib.hid hB
  have HE := Lib.hid hE
  have he1 : ep ≤ 524288 := by omega
  have hsm : sameB (ep + 1 + 1 - 2) ns ep ns = true := by simp only [sameB]; simp; omega
  have HSM := Lib.hid hsm
  clear hsm
  clear h hC hD hB hE
  go_enter Try.func6, Try.ntmps6
  go_wp2_with fail
  refine (works_any _).mono ?_
  rintro e w1 ⟨rfl, hb⟩
  have hn := (HS0.out).kept hb
  have H1 := Lib.hid (H0.out.below hb)
  have hs1 := hb.size
  clear hb HS0 H0
  have HS1 := Lib.hid hn
  have hc1 := hn.cells
  have hz1 := hn.size
  try simp only [AllC, rowL, Nat.reduceAdd, World.size_alloc] at hc1
  try simp only [World.size_alloc] at hs1
  clear hn
  go_split_ands
  go_wp2_with fail
  refine (change_any ep ad cap ns _ _ 7 _ _ _ n 0 _ H1.out).mono ?_
  rw [HC.out]
  rintro e w2 ⟨v2, he, hi, hb⟩
  subst he
  obtain ⟨a2, c2, rfl, _⟩ := hi.it.row
  have hn := (HS1.out).kept hb
  have H2 := Lib.hid (H1.out.below hb)
  have I2 := Lib.hid hi.it
  have hs2 := hb.size
  clear hb HS1 H1 hi
  have HS2 := Lib.hid hn
  have hc2 := hn.cells
  have hz2 := hn.size
  try simp only [AllC, rowL, Nat.reduceAdd, World.size_alloc] at hc2
  try simp only [World.size_alloc] at hs2
  clear hn
  go_split_ands
  have kk20 : w.heap.size < w2.heap.size := by omega
  go_wp2_with fail
  refine (change_any (ep + 1) a2 c2 l1 _ _ 8 _ _ _ n 0 _ (I2.out.alloc _)).mono ?_
  rw [HB.out]
  rintro e w3 ⟨v3, he, hi, hb⟩
  subst he
  obtain ⟨a3, c3, rfl, _⟩ := hi.it.row
  have HF3 : Hid (Below (w2.heap.size + 1) (w2.alloc (.cells #[.int .i64 (ep + 1), .slice a2 l1.length c2] 24)) w3) := Lib.hid (hb.mono (by simp))
  have hn := (HS2.out.alloc _).kept hb
  have H3 := Lib.hid ((H2.out.alloc _).below hb)
  have I3 := Lib.hid hi.it
  have hs3 := hb.size
  clear hb HS2 H2 I2 hi
  have HS3 := Lib.hid hn
  have hc3 := hn.cells
  have hz3 := hn.size
  try simp only [AllC, rowL, Nat.reduceAdd, World.size_alloc] at hc3
  try simp only [World.size_alloc] at hs3
  clear hn
  go_split_ands
  have kk30 : w.heap.size < w3.heap.size := by omega
  have kk31 : w2.heap.size < w3.heap.size := by omega
  go_wp2_with fail
  refine (same_any (ep + 1 + 1 - 2) ep a3 ad c3 cap ns ns _ (IRow.of_it (I3.out.alloc _)) (IRow.of_it (H3.out.alloc _))).mono ?_
  rw [HSM.out]
  rintro e w4 ⟨rfl, hb⟩
  have HF4 := Lib.hid ((HF3.out.alloc (by omega) _).trans (hb.mono (by simp; omega)))
  have hn := (HS3.out.alloc _).kept hb
  have H4 := Lib.hid ((H3.out.alloc _).below hb)
  have hs4 := hb.size
  clear hb HS3 H3 I3 HF3
  have HS4 := Lib.hid hn
  have hc4 := hn.cells
  have hz4 := hn.size
  try simp only [AllC, rowL, Nat.reduceAdd, World.size_alloc] at hc4
  try simp only [World.size_alloc] at hs4
  clear hn
  go_split_ands
  have kk40 : w.heap.size < w4.heap.size := by omega
  have kk41 : w2.heap.size < w4.heap.size := by omega
  go_wp2_with fail
  refine (change_any ep ad cap ns _ _ 9 _ _ _ n m _ H4.out).mono ?_
  rw [HD.out]
  rintro e w5 ⟨v5, he, hi, hb⟩
  subst he
  obtain ⟨a5, c5, rfl, _⟩ := hi.it.row
  have hf5 : Below (w2.heap.size + 1) (w2.alloc (.cells #[.int .i64 (ep + 1), .slice a2 l1.length c2] 24)) w5 := HF4.out.trans (hb.mono (by omega))
  have fz0 : w5.frozen? ⟨w2.heap.size, 0, none⟩ = false := by rw [hf5.frozen (p := ⟨w2.heap.size, 0, none⟩) (by simp)]; simp [go_sem]
  have fz1 : w5.frozen? ⟨w2.heap.size, 1, none⟩ = false := by rw [hf5.frozen (p := ⟨w2.heap.size, 1, none⟩) (by simp)]; simp [go_sem]
  have cz0 : w5.cell? ⟨w2.heap.size, 0, none⟩ = some (.int .i64 (ep + 1)) := by rw [hf5.cell (p := ⟨w2.heap.size, 0, none⟩) (by simp)]; simp [go_sem]
  have cz1 : w5.cell? ⟨w2.heap.size, 1, none⟩ = some (.slice a2 l1.length c2) := by rw [hf5.cell (p := ⟨w2.heap.size, 1, none⟩) (by simp)]; simp [go_sem]
  have I5 := Lib.hid (hi.mono (show w2.heap.size + 1 ≤ _ by (try simp only [World.size_alloc]); omega))
  clear hf5
  have hn := (HS4.out).kept hb
  have H5 := Lib.hid (H4.out.below hb)
  have hs5 := hb.size
  clear hb HS4 H4 HF4 hi
  have HS5 := Lib.hid hn
  have hc5 := hn.cells
  have hz5 := hn.size
  try simp only [AllC, rowL, Nat.reduceAdd, World.size_alloc] at hc5
  try simp only [World.size_alloc] at hs5
  clear hn
  go_split_ands
  have kk50 : w.heap.size < w5.heap.size := by omega
  have kk51 : w2.heap.size < w5.heap.size := by omega
  have HW := Lib.hid ((HS5.out.set (show w.heap.size + 1 ≤ (⟨w2.heap.size, 0, none⟩ : Addr).block by simp; omega) (.int .i64 (ep + 1))).set (show w.heap.size + 1 ≤ (⟨w2.heap.size, 1, none⟩ : Addr).block by simp; omega) (.slice a5 l2.length c5))
  have IW := Lib.hid ((I5.out.set (show (⟨w2.heap.size, 0, none⟩ : Addr).block < w2.heap.size + 1 by simp) (.int .i64 (ep + 1))).set (show (⟨w2.heap.size, 1, none⟩ : Addr).block < w2.heap.size + 1 by simp) (.slice a5 l2.length c5))
  have hcw := HW.out.cells
  simp only [AllC, rowL, Nat.reduceAdd] at hcw
  go_wp2_with fail
  refine (change_any (ep + 1) a5 c5 l2 _ _ 9 _ _ _ m n _ IW.out.it).mono ?_
  rw [HE.out]
  rintro e w6 ⟨v6, he, hi, hb⟩
  subst he
  obtain ⟨a6, c6, rfl, _⟩ := hi.it.row
  have hn := HW.out.kept hb
  have I6 := Lib.hid hi.it
  have hs6 := hb.size
  clear hb HW IW HS5 hi hcw
  have HS6 := Lib.hid hn
  have hc6 := hn.cells
  simp only [AllC, rowL, Nat.reduceAdd] at hc6
  have hz6 := hn.size
  clear hn
  go_split_ands
  have kk60 : w.heap.size < w6.heap.size := by omega
  go_wp2_with fail
  refine (same_any (ep + 1 + 1 - 2) ep a6 ad c6 cap ns ns _ (IRow.of_it (I6.out.alloc _)) (IRow.of_it ((HH.out.below HS6.out.below).alloc _))).mono ?_
  rw [HSM.out]
  rintro e w7 ⟨rfl, hb⟩
  have HS7 := Lib.hid ((HS6.out.alloc _).kept hb)
  clear hb HS6 I6
  go_wp2
  go_ret
  exact ⟨rfl, HS7.out.below⟩
theorem back_law (ep : Int) (ad : Option Addr) (cap : Nat) (ns : List Int) (n m : Int) (w : World) (h : It w (.slice ad ns.length cap) ns) :
    Calls Try.prog 6 #[cfgV ep ad ns.length cap, .int .i64 n, .int .i64 m] w fun e w' => e = .returned (.bool true) ∧ Below w.heap.size w w' := by
  by_cases hf : (40 : Int) < ns.length ∨ (524288 : Int) < ep
  · exact back_far ep ad cap ns n m w h hf
  have hl : ¬ (40 : Int) < ns.length := fun e => hf (.inl e)
  have he : ¬ (524288 : Int) < ep := fun e => hf (.inr e)
  by_cases h1 : (chg ep ns 7 n 0).err = 0
  · have b1 := chg_back1 h1 (by omega) 0
    have e0 := (chg_val h1).1.1
    by_cases h2 : (chg ep ns 9 n m).err = 0
    · exact back_yy ep ad cap ns n m w h hl he _ (chg_add h1).1 b1 _ (chg_rep h2).1 (chg_back2 h2 (by omega)) e0
    · exact back_yn ep ad cap ns n m w h hl he _ (chg_add h1).1 b1 _ rfl h2 e0
  · by_cases h2 : (chg ep ns 9 n m).err = 0
    · exact back_ny ep ad cap ns n m w h hl he _ rfl h1 _ (chg_rep h2).1 (chg_back2 h2 (by omega)) (chg_val h2).1.1
    · exact back_nn ep ad cap ns n m w h hl he _ rfl h1 _ rfl h2
end Go.Proofs.Ytacjmcjmenbekaa
