/-
  The walk of ConfigOrder.
-/
import Derived.Test.YtacjmcjmenbekaaCfgW
import Derived.Test.YtacjmcjmenbekaaCfgN
namespace Go.Proofs.Ytacjmcjmenbekaa
open Go.RowKit
set_option linter.unusedSimpArgs false
set_option linter.unusedVariables false

theorem held_box (w : World) (ep : Int) (ad : Option Addr) (n c : Nat) : Held w (w.heap.size + 1) (rowL w.heap.size 0 [.int .i64 ep, .slice ad n c] []) (boxC w ep ad n c) := by
  have h : Held w w.heap.size [] w := ⟨by simp, trivial, Nat.le_refl _, Below.refl _ _, Nat.le_refl _⟩
  exact h.row #[.int .i64 ep, .slice ad n c] 24
theorem sameB_refl (e : Int) (l : List Int) : sameB e l e l = true := by simp [sameB]
theorem It.name {w : World} {a : Option Addr} {n c : Nat} {l : List Int} (h : It w (.slice a n c) l) : n = l.length := by
  obtain ⟨a, c, e, _⟩ := h
  simp only [Value.slice.injEq] at e
  exact e.2.1
set_option maxHeartbeats 1000000 in
theorem order_far (ep : Int) (ad : Option Addr) (cap : Nat) (ns : List Int) (a b : Int) (w : World) (h : It w (.slice ad ns.length cap) ns) (hf : 40 < ns.length ∨ a = b) :
    Calls Try.prog 8 #[cfgV ep ad ns.length cap, .int .i64 a, .int .i64 b] w fun e w' => e = .returned (.bool true) ∧ Below w.heap.size w w' := by
  have HS0 := Lib.hid (held_box w ep ad ns.length cap)
  have hlen := h.len
  by_cases t1 : (40 : Int) < ns.length
  · clear hf
    go_enter Try.func8, Try.ntmps8
    go_wp2_with (go_at_call 9; refine (works_any _).mono ?_; rintro e w1 ⟨rfl, hb⟩; have hn := HS0.out.kept hb; clear hb; have HS := Lib.hid hn; have hc := hn.cells; dsimp only [AllC, rowL] at hc; clear hn; go_split_ands)
    go_ret
    exact ⟨rfl, HS.out.below⟩
  · have hab : a = b := by omega
    have t2 : decide ((40 : Int) < ns.length) = false := by simpa using t1
    have t3 : (a == b) = true := by simpa using hab
    clear hf hab
    go_enter Try.func8, Try.ntmps8
    go_wp2_with (go_at_call 9; refine (works_any _).mono ?_; rintro e w1 ⟨rfl, hb⟩; have hn := HS0.out.kept hb; clear hb; have HS := Lib.hid hn; have hc := hn.cells; dsimp only [AllC, rowL] at hc; clear hn; go_split_ands)
    go_ret
    exact ⟨rfl, HS.out.below⟩
set_option maxHeartbeats 2000000 in
theorem order_e1 (ep : Int) (ad : Option Addr) (cap : Nat) (ns : List Int) (a b : Int) (w : World) (h : It w (.slice ad ns.length cap) ns) (hl : ¬ (40 : Int) < ns.length) (hab : a ≠ b) (C D : Chg) (hC : chg ep ns 7 a 0 = C) (hD : chg ep ns 7 b 0 = D) (hx : C.err ≠ 0) :
    Calls Try.prog 8 #[cfgV ep ad ns.length cap, .int .i64 a, .int .i64 b] w fun e w' => e = .returned (.bool true) ∧ Below w.heap.size w w' := by
  have HS0 := Lib.hid (held_box w ep ad ns.length cap)
  have H0 := Lib.hid (h.alloc (.cells #[.int .i64 ep, .slice ad ns.length cap] 24))
  have t2 : decide ((40 : Int) < ns.length) = false := by simpa using hl
  have t3 : (a == b) = false := by simpa using hab
  have HC := Lib.hid hC
  have HD := Lib.hid hD
  have tx : (C.err != 0) = true := by simpa using hx
  clear hx
  clear h hC hD hl hab
  go_enter Try.func8, Try.ntmps8
  go_wp2_with fail
  refine (works_any _).mono ?_
  rintro e w1 ⟨rfl, hb⟩
  have hn := HS0.out.kept hb
  have H1 := Lib.hid (H0.out.below hb)
  clear hb HS0
  have HS1 := Lib.hid hn
  have hc := hn.cells
  have hz1 := hn.size
  dsimp only [AllC, rowL] at hc
  clear hn
  go_split_ands
  have k1 : w.heap.size < w1.heap.size := by omega
  have k2 : w.heap.size ≤ w1.heap.size := by omega
  go_wp2_with fail
  refine (change_any ep ad cap ns _ _ 7 _ _ _ a 0 _ ((H1.out.alloc _).alloc _)).mono ?_
  rw [HC.out]
  rintro e w2 ⟨v2, he, hi, hb⟩
  subst he
  obtain ⟨a2, c2, rfl, _⟩ := hi.it.row
  have hn := ((HS1.out.row _ _).row _ _).kept hb
  have H2 := Lib.hid (((H1.out.alloc _).alloc _).below hb)
  have I2 := Lib.hid hi.it
  clear hb HS1 H1 hi
  have HS2 := Lib.hid hn
  have hc2 := hn.cells
  have hz2 := hn.size
  try simp only [AllC, rowL, Nat.reduceAdd, World.size_alloc] at hc2
  try simp only [World.size_alloc] at hz2
  clear hn
  go_split_ands
  have k3 : w1.heap.size < w2.heap.size := by omega
  have k4 : w1.heap.size + 1 < w2.heap.size := by omega
  have k5 : w.heap.size < w2.heap.size := by omega
  go_wp2_with fail
  refine (change_any ep ad cap ns _ _ 7 _ _ _ b 0 _ (H2.out.alloc _)).mono ?_
  rw [HD.out]
  rintro e w3 ⟨v3, he, hi, hb⟩
  subst he
  obtain ⟨a3, c3, rfl, _⟩ := hi.it.row
  have hn := (HS2.out.row _ _).kept hb
  have I3 := Lib.hid hi.it
  have I23 := Lib.hid ((I2.out.alloc _).below hb)
  clear hb HS2 H2 hi I2
  have HS3 := Lib.hid hn
  have hc3 := hn.cells
  have hz3 := hn.size
  try simp only [AllC, rowL, Nat.reduceAdd, World.size_alloc] at hc3
  try simp only [World.size_alloc] at hz3
  clear hn
  go_split_ands
  have k6 : w2.heap.size < w3.heap.size := by omega
  have k7 : w1.heap.size < w3.heap.size := by omega
  have k8 : w1.heap.size + 1 < w3.heap.size := by omega
  have k9 : w.heap.size < w3.heap.size := by omega
  go_wp2
  go_ret
  exact ⟨rfl, (HS3.out.alloc _).below⟩
set_option maxHeartbeats 2000000 in
theorem order_e2 (ep : Int) (ad : Option Addr) (cap : Nat) (ns : List Int) (a b : Int) (w : World) (h : It w (.slice ad ns.length cap) ns) (hl : ¬ (40 : Int) < ns.length) (hab : a ≠ b) (C D : Chg) (hC : chg ep ns 7 a 0 = C) (hD : chg ep ns 7 b 0 = D) (hx : C.err = 0) (hy : D.err ≠ 0) :
    Calls Try.prog 8 #[cfgV ep ad ns.length cap, .int .i64 a, .int .i64 b] w fun e w' => e = .returned (.bool true) ∧ Below w.heap.size w w' := by
  have HS0 := Lib.hid (held_box w ep ad ns.length cap)
  have H0 := Lib.hid (h.alloc (.cells #[.int .i64 ep, .slice ad ns.length cap] 24))
  have t2 : decide ((40 : Int) < ns.length) = false := by simpa using hl
  have t3 : (a == b) = false := by simpa using hab
  have HC := Lib.hid hC
  have HD := Lib.hid hD
  have tx : (C.err != 0) = false := by simpa using hx
  have ty : (D.err != 0) = true := by simpa using hy
  clear hx hy
  clear h hC hD hl hab
  go_enter Try.func8, Try.ntmps8
  go_wp2_with fail
  refine (works_any _).mono ?_
  rintro e w1 ⟨rfl, hb⟩
  have hn := HS0.out.kept hb
  have H1 := Lib.hid (H0.out.below hb)
  clear hb HS0
  have HS1 := Lib.hid hn
  have hc := hn.cells
  have hz1 := hn.size
  dsimp only [AllC, rowL] at hc
  clear hn
  go_split_ands
  have k1 : w.heap.size < w1.heap.size := by omega
  have k2 : w.heap.size ≤ w1.heap.size := by omega
  go_wp2_with fail
  refine (change_any ep ad cap ns _ _ 7 _ _ _ a 0 _ ((H1.out.alloc _).alloc _)).mono ?_
  rw [HC.out]
  rintro e w2 ⟨v2, he, hi, hb⟩
  subst he
  obtain ⟨a2, c2, rfl, _⟩ := hi.it.row
  have hn := ((HS1.out.row _ _).row _ _).kept hb
  have H2 := Lib.hid (((H1.out.alloc _).alloc _).below hb)
  have I2 := Lib.hid hi.it
  clear hb HS1 H1 hi
  have HS2 := Lib.hid hn
  have hc2 := hn.cells
  have hz2 := hn.size
  try simp only [AllC, rowL, Nat.reduceAdd, World.size_alloc] at hc2
  try simp only [World.size_alloc] at hz2
  clear hn
  go_split_ands
  have k3 : w1.heap.size < w2.heap.size := by omega
  have k4 : w1.heap.size + 1 < w2.heap.size := by omega
  have k5 : w.heap.size < w2.heap.size := by omega
  go_wp2_with fail
  refine (change_any ep ad cap ns _ _ 7 _ _ _ b 0 _ (H2.out.alloc _)).mono ?_
  rw [HD.out]
  rintro e w3 ⟨v3, he, hi, hb⟩
  subst he
  obtain ⟨a3, c3, rfl, _⟩ := hi.it.row
  have hn := (HS2.out.row _ _).kept hb
  have I3 := Lib.hid hi.it
  have I23 := Lib.hid ((I2.out.alloc _).below hb)
  clear hb HS2 H2 hi I2
  have HS3 := Lib.hid hn
  have hc3 := hn.cells
  have hz3 := hn.size
  try simp only [AllC, rowL, Nat.reduceAdd, World.size_alloc] at hc3
  try simp only [World.size_alloc] at hz3
  clear hn
  go_split_ands
  have k6 : w2.heap.size < w3.heap.size := by omega
  have k7 : w1.heap.size < w3.heap.size := by omega
  have k8 : w1.heap.size + 1 < w3.heap.size := by omega
  have k9 : w.heap.size < w3.heap.size := by omega
  go_wp2
  go_ret
  exact ⟨rfl, (HS3.out.alloc _).below⟩
set_option maxHeartbeats 2000000 in
theorem order_ok (ep : Int) (ad : Option Addr) (cap : Nat) (ns : List Int) (a b : Int) (w : World) (h : It w (.slice ad ns.length cap) ns) (hl : ¬ (40 : Int) < ns.length) (hab : a ≠ b) (l1 l2 : List Int) (G : Chg) (hC : chg ep ns 7 a 0 = ⟨0, ep + 1, l1⟩) (hD : chg ep ns 7 b 0 = ⟨0, ep + 1, l2⟩) (hP : chg (ep + 1) l1 7 b 0 = G) (hQ : chg (ep + 1) l2 7 a 0 = G) (hG : G.err = 0 ∨ ns.length = 6 ∨ ep + 1 = 1048576) (hb1 : 0 ≤ ep) (hb2 : ep ≤ 1048576) :
    Calls Try.prog 8 #[cfgV ep ad ns.length cap, .int .i64 a, .int .i64 b] w fun e w' => e = .returned (.bool true) ∧ Below w.heap.size w w' := by
  have HS0 := Lib.hid (held_box w ep ad ns.length cap)
  have H0 := Lib.hid (h.alloc (.cells #[.int .i64 ep, .slice ad ns.length cap] 24))
  have t2 : decide ((40 : Int) < ns.length) = false := by simpa using hl
  have t3 : (a == b) = false := by simpa using hab
  have HC := Lib.hid hC
  have HD := Lib.hid hD
  have HP := Lib.hid hP
  have HQ := Lib.hid hQ
  have HG := Lib.hid hG
  clear hP hQ hG
  clear h hC hD hl hab
  go_enter Try.func8, Try.ntmps8
  go_wp2_with fail
  refine (works_any _).mono ?_
  rintro e w1 ⟨rfl, hb⟩
  have hn := HS0.out.kept hb
  have H1 := Lib.hid (H0.out.below hb)
  clear hb HS0
  have HS1 := Lib.hid hn
  have hc := hn.cells
  have hz1 := hn.size
  dsimp only [AllC, rowL] at hc
  clear hn
  go_split_ands
  have k1 : w.heap.size < w1.heap.size := by omega
  have k2 : w.heap.size ≤ w1.heap.size := by omega
  go_wp2_with fail
  refine (change_any ep ad cap ns _ _ 7 _ _ _ a 0 _ ((H1.out.alloc _).alloc _)).mono ?_
  rw [HC.out]
  rintro e w2 ⟨v2, he, hi, hb⟩
  subst he
  obtain ⟨a2, c2, rfl, _⟩ := hi.it.row
  have hn := ((HS1.out.row _ _).row _ _).kept hb
  have H2 := Lib.hid (((H1.out.alloc _).alloc _).below hb)
  have I2 := Lib.hid hi.it
  clear hb HS1 H1 hi
  have HS2 := Lib.hid hn
  have hc2 := hn.cells
  have hz2 := hn.size
  try simp only [AllC, rowL, Nat.reduceAdd, World.size_alloc] at hc2
  try simp only [World.size_alloc] at hz2
  clear hn
  go_split_ands
  have k3 : w1.heap.size < w2.heap.size := by omega
  have k4 : w1.heap.size + 1 < w2.heap.size := by omega
  have k5 : w.heap.size < w2.heap.size := by omega
  go_wp2_with fail
  refine (change_any ep ad cap ns _ _ 7 _ _ _ b 0 _ (H2.out.alloc _)).mono ?_
  rw [HD.out]
  rintro e w3 ⟨v3, he, hi, hb⟩
  subst he
  obtain ⟨a3, c3, rfl, _⟩ := hi.it.row
  have hn := (HS2.out.row _ _).kept hb
  have I3 := Lib.hid hi.it
  have I23 := Lib.hid ((I2.out.alloc _).below hb)
  clear hb HS2 H2 hi I2
  have HS3 := Lib.hid hn
  have hc3 := hn.cells
  have hz3 := hn.size
  try simp only [AllC, rowL, Nat.reduceAdd, World.size_alloc] at hc3
  try simp only [World.size_alloc] at hz3
  clear hn
  go_split_ands
  have k6 : w2.heap.size < w3.heap.size := by omega
  have k7 : w1.heap.size < w3.heap.size := by omega
  have k8 : w1.heap.size + 1 < w3.heap.size := by omega
  have k9 : w.heap.size < w3.heap.size := by omega
  go_wp2_with fail
  refine (change_any (ep + 1) a2 c2 l1 _ _ 7 _ _ _ b 0 _ (I23.out.alloc _)).mono ?_
  rw [HP.out]
  rintro e w4 ⟨v4, he, hi, hb⟩
  subst he
  obtain ⟨a4, c4, rfl, _⟩ := hi.it.row
  have hn := (HS3.out.row _ _).kept hb
  have I4 := Lib.hid hi.it
  have I34 := Lib.hid ((I3.out.alloc _).below hb)
  clear hb HS3 hi I3 I23
  have HS4 := Lib.hid hn
  have hc4 := hn.cells
  have hz4 := hn.size
  try simp only [AllC, rowL, Nat.reduceAdd, World.size_alloc] at hc4
  try simp only [World.size_alloc] at hz4
  clear hn
  go_split_ands
  have m1 : w3.heap.size < w4.heap.size := by omega
  have m2 : w2.heap.size < w4.heap.size := by omega
  have m3 : w1.heap.size < w4.heap.size := by omega
  have m4 : w1.heap.size + 1 < w4.heap.size := by omega
  have m5 : w.heap.size < w4.heap.size := by omega
  go_wp2_with fail
  refine (change_any (ep + 1) a3 c3 l2 _ _ 7 _ _ _ a 0 _ (I34.out.alloc _)).mono ?_
  rw [HQ.out]
  rintro e w5 ⟨v5, he, hi, hb⟩
  subst he
  obtain ⟨a5, c5, rfl, _⟩ := hi.it.row
  have hn := (HS4.out.row _ _).kept hb
  have I5 := Lib.hid hi.it
  have I45 := Lib.hid ((I4.out.alloc _).below hb)
  clear hb HS4 hi I4 I34
  have HS5 := Lib.hid hn
  have hc5 := hn.cells
  have hz5 := hn.size
  try simp only [AllC, rowL, Nat.reduceAdd, World.size_alloc] at hc5
  try simp only [World.size_alloc] at hz5
  clear hn
  go_split_ands
  have n1 : w4.heap.size < w5.heap.size := by omega
  have n2 : w.heap.size < w5.heap.size := by omega
  have tg : (G.err == G.err) = true := by simp
  go_wp2_with fail
  refine (same_any G.ep G.ep a4 a5 c4 c5 G.ns G.ns _ (IRow.of_it (I45.out.alloc _)) (IRow.of_it (I5.out.alloc _))).mono ?_
  rw [sameB_refl]
  rintro e w6 ⟨rfl, hb⟩
  have hn := (HS5.out.row _ _).kept hb
  clear hb HS5
  have HS6 := Lib.hid hn
  have hc6 := hn.cells
  have hz6 := hn.size
  try simp only [AllC, rowL, Nat.reduceAdd, World.size_alloc] at hc6
  try simp only [World.size_alloc] at hz6
  clear hn
  go_split_ands
  by_cases g1 : G.err = 0
  · have u1 : (G.err == 0) = true := by simpa using g1
    clear g1
    go_wp2
    go_ret
    exact ⟨rfl, HS6.out.below⟩
  have u1 : (G.err == 0) = false := by simpa using g1
  by_cases g2 : ns.length = 6
  · have u2 : ((ns.length : Int) == 6) = true := by simp; omega
    clear g1 g2
    go_wp2
    go_ret
    exact ⟨rfl, HS6.out.below⟩
  have u2 : ((ns.length : Int) == 6) = false := by simp; omega
  have g3 : ep + 1 = 1048576 := by
    rcases HG.out with h | h | h
    · exact absurd h g1
    · exact absurd h g2
    · exact h
  have u3 : (ep + 1 == 1048576) = true := by simpa using g3
  clear g1 g2 g3
  go_wp2
  go_ret
  exact ⟨rfl, HS6.out.below⟩
theorem order_law (ep : Int) (ad : Option Addr) (cap : Nat) (ns : List Int) (a b : Int) (w : World) (h : It w (.slice ad ns.length cap) ns) :
    Calls Try.prog 8 #[cfgV ep ad ns.length cap, .int .i64 a, .int .i64 b] w fun e w' => e = .returned (.bool true) ∧ Below w.heap.size w w' := by
  by_cases hf : 40 < ns.length ∨ a = b
  · exact order_far ep ad cap ns a b w h hf
  have hl : ¬ (40 : Int) < ns.length := by omega
  have hab : a ≠ b := fun e => hf (.inr e)
  by_cases h1 : (chg ep ns 7 a 0).err = 0
  · by_cases h2 : (chg ep ns 7 b 0).err = 0
    · have hv := chg_val h1
      have ho := chg_order h1 h2 hab 0 0
      exact order_ok ep ad cap ns a b w h hl hab _ _ _ (chg_add h1).1 (chg_add h2).1 ho.1 rfl ho.2 hv.1.1 hv.1.2.1
    · exact order_e2 ep ad cap ns a b w h hl hab _ _ rfl rfl h1 h2
  · exact order_e1 ep ad cap ns a b w h hl hab _ _ rfl rfl h1
end Go.Proofs.Ytacjmcjmenbekaa
