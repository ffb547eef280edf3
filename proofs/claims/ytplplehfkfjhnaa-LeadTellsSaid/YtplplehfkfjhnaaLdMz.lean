/-
  Texts put together: LdMx, LdMy.
-/
import Derived.Test.YtplplehfkfjhnaaLdG
import Derived.Test.YtplplehfkfjhnaaLdB
namespace Go.Proofs.Ytplplehfkfjhnaa
open Go.RowKit
set_option linter.unusedSimpArgs false
set_option linter.unusedVariables false
set_option maxRecDepth 100000

theorem isnanSt (s : Int) (w : World) : Calls Try.prog 64 #[.int .i64 s] w fun e w' => e = .returned (.bool false) ∧ w = w' := by
  have q2 : (s != s) = false := by simp
  go_enter Try.func64, Try.ntmps64
  go_wp2
  go_ret
  exact ⟨rfl, rfl⟩
def cmpZ (s t : Int) : Int := if s < t then -1 else if t < s then 1 else 0
theorem cmpst_any (s t : Int) (w : World) : Calls Try.prog 55 #[.int .i64 s, .int .i64 t] w fun e w' => e = .returned (.int .i64 (cmpZ s t)) ∧ w = w' := by
  by_cases h1 : s < t
  · have e : cmpZ s t = -1 := by unfold cmpZ; rw [if_pos h1]
    rw [e]
    go_enter Try.func55, Try.ntmps55
    go_wp2_with (go_at_call 64; refine (isnanSt _ _).mono ?_; rintro e w' ⟨rfl, rfl⟩)
    go_ret
    exact ⟨rfl, rfl⟩
  · by_cases h2 : t < s
    · have e : cmpZ s t = 1 := by unfold cmpZ; rw [if_neg h1, if_pos h2]
      rw [e]
      go_enter Try.func55, Try.ntmps55
      go_wp2_with (go_at_call 64; refine (isnanSt _ _).mono ?_; rintro e w' ⟨rfl, rfl⟩)
      go_ret
      exact ⟨rfl, rfl⟩
    · have e : cmpZ s t = 0 := by unfold cmpZ; rw [if_neg h1, if_neg h2]
      rw [e]
      go_enter Try.func55, Try.ntmps55
      go_wp2_with (go_at_call 64; refine (isnanSt _ _).mono ?_; rintro e w' ⟨rfl, rfl⟩)
      go_ret
      exact ⟨rfl, rfl⟩
/-- Which of two answers is the better one. -/
def cmpX (x y : Ist) : Int := if Bb.lessB x.vo.1 x.vo.2 y.vo.1 y.vo.2 then -1 else if Bb.lessB y.vo.1 y.vo.2 x.vo.1 x.vo.2 then 1 else cmpZ x.st y.st
set_option maxHeartbeats 4000000 in
theorem asked1_any (x y : Ist) (ua ub : Option Addr) (ma mb ca cb : Nat) (w : World) : Calls Try.prog 54 #[.agg (inE x (.slice ua ma ca)).toArray, .agg (inE y (.slice ub mb cb)).toArray] w fun e w' => e = .returned (.int .i64 (cmpX x y)) ∧ Below w.heap.size w w' := by
  obtain ⟨n0, ⟨n1, n2⟩, ⟨n3, n4⟩, ⟨n5, n6, n7, n8, n9, n10, n11, n12⟩, n13, n14⟩ := x
  obtain ⟨m0, ⟨m1, m2⟩, ⟨m3, m4⟩, ⟨m5, m6, m7, m8, m9, m10, m11, m12⟩, m13, m14⟩ := y
  obtain ⟨R, hR⟩ : ∃ R, cmpX ⟨n0, (n1, n2), (n3, n4), ⟨n5, n6, n7, n8, n9, n10, n11, n12⟩, (n13, n14)⟩ ⟨m0, (m1, m2), (m3, m4), ⟨m5, m6, m7, m8, m9, m10, m11, m12⟩, (m13, m14)⟩ = R := ⟨_, rfl⟩
  rw [hR]
  have HR := Lib.hid hR
  clear hR
  simp only [inE]
  obtain ⟨X, hX⟩ : ∃ X, (w.alloc (.cells #[.int .i64 n0, .int .i64 n1, .int .i64 n2, .int .i64 n3, .int .i64 n4, .int .i64 n5, .int .i64 n6, .int .i64 n7, .string n8, .string n9, .int .i64 n10, .int .i64 n11, .int .i64 n12, .int .i64 n13, .slice ua ma ca] 38)).alloc (.cells #[.int .i64 m0, .int .i64 m1, .int .i64 m2, .int .i64 m3, .int .i64 m4, .int .i64 m5, .int .i64 m6, .int .i64 m7, .string m8, .string m9, .int .i64 m10, .int .i64 m11, .int .i64 m12, .int .i64 m13, .slice ub mb cb] 38) = X := ⟨_, rfl⟩
  have HA : Hid (Bk X w.heap.size 38 [.int .i64 n0, .int .i64 n1, .int .i64 n2, .int .i64 n3, .int .i64 n4, .int .i64 n5, .int .i64 n6, .int .i64 n7, .string n8, .string n9, .int .i64 n10, .int .i64 n11, .int .i64 n12, .int .i64 n13, .slice ua ma ca]) := Lib.hid (by rw [← hX]; exact (Bk.new w _ [.int .i64 n0, .int .i64 n1, .int .i64 n2, .int .i64 n3, .int .i64 n4, .int .i64 n5, .int .i64 n6, .int .i64 n7, .string n8, .string n9, .int .i64 n10, .int .i64 n11, .int .i64 n12, .int .i64 n13, .slice ua ma ca]).old _)
  have HB : Hid (Bk X (w.heap.size + 1) 38 [.int .i64 m0, .int .i64 m1, .int .i64 m2, .int .i64 m3, .int .i64 m4, .int .i64 m5, .int .i64 m6, .int .i64 m7, .string m8, .string m9, .int .i64 m10, .int .i64 m11, .int .i64 m12, .int .i64 m13, .slice ub mb cb]) := Lib.hid (by rw [← hX]; exact Bk.newAt (by simp) _ [.int .i64 m0, .int .i64 m1, .int .i64 m2, .int .i64 m3, .int .i64 m4, .int .i64 m5, .int .i64 m6, .int .i64 m7, .string m8, .string m9, .int .i64 m10, .int .i64 m11, .int .i64 m12, .int .i64 m13, .slice ub mb cb])
  have HX : Hid (Below w.heap.size w X) := Lib.hid (by rw [← hX]; exact al2 w _ _)
  have a3 := HA.out.cell 3
  have a4 := HA.out.cell 4
  have b3 := HB.out.cell 3
  have b4 := HB.out.cell 4
  simp only [List.getElem?_cons_zero, List.getElem?_cons_succ] at a3 a4 b3 b4
  go_enter Try.func54, Try.ntmps54
  go_wp2_with fail
  try rw [hX]
  clear hX
  refine (Bb.less_any n3 n4 m3 m4 X).mono ?_
  rintro e w1 ⟨rfl, hb⟩
  have HX1 := Lib.hid hb
  clear hb a3 a4 b3 b4
  cases q1 : Bb.lessB n3 n4 m3 m4 with
  | true =>
    go_wp2
    go_ret
    exact ⟨Bb.ret_int (by rw [← HR.out]; unfold cmpX; simp [q1]), HX.out.trans (HX1.out.mono HX.out.size)⟩
  | false =>
    have a3 := (HA.out.below HX1.out).cell 3
    have a4 := (HA.out.below HX1.out).cell 4
    have b3 := (HB.out.below HX1.out).cell 3
    have b4 := (HB.out.below HX1.out).cell 4
    simp only [List.getElem?_cons_zero, List.getElem?_cons_succ] at a3 a4 b3 b4
    go_wp2_with fail
    refine (Bb.less_any m3 m4 n3 n4 w1).mono ?_
    rintro e w2 ⟨rfl, hb⟩
    have HX2 := Lib.hid (HX1.out.trans (hb.mono HX1.out.size))
    clear hb a3 a4 b3 b4
    cases q2 : Bb.lessB m3 m4 n3 n4 with
    | true =>
      go_wp2
      go_ret
      exact ⟨Bb.ret_int (by rw [← HR.out]; unfold cmpX; simp [q1, q2]), HX.out.trans (HX2.out.mono HX.out.size)⟩
    | false =>
      have a0 := (HA.out.below HX2.out).cell 0
      have b0 := (HB.out.below HX2.out).cell 0
      simp only [List.getElem?_cons_zero, List.getElem?_cons_succ] at a0 b0
      go_wp2_with fail
      refine (cmpst_any n0 m0 w2).mono ?_
      rintro e _ ⟨rfl, rfl⟩
      go_wp2
      go_ret
      exact ⟨Bb.ret_int (by rw [← HR.out]; unfold cmpX; simp [q1, q2]), HX.out.trans (HX2.out.mono HX.out.size)⟩
end Go.Proofs.Ytplplehfkfjhnaa
namespace Go.Proofs.Ytplplehfkfjhnaa
open Go.RowKit
set_option linter.unusedSimpArgs false
set_option linter.unusedVariables false
set_option maxRecDepth 100000

theorem bk_setRow2 {w : World} {b : Nat} {T : TypeId} {cs ds : List Value} (h : Bk w b T cs) : Bk (w.setRow b ds.toArray) b T ds := heap_setRow_same w b cs.toArray ds.toArray T h
theorem bk_otherRow2 {w : World} {b c : Nat} {T : TypeId} {cs : List Value} {ds : Array Value} (h : Bk w b T cs) (hn : b ≠ c) : Bk (w.setRow c ds) b T cs := by
  unfold Bk at h ⊢
  rw [← h]
  simp only [World.setRow]
  rw [Array.getElem?_modify, if_neg (fun e => hn e.symm)]
theorem all_toL2 {l : List Value} (h : l.all (·.oneCell') = true) : l.toArray.all (·.oneCell') = true := by rw [← Array.all_toList]; exact h
theorem below_setRow2 {X w : World} {B b : Nat} (h : Below B X w) (hb : B ≤ b) (ds : Array Value) : Below B X (w.setRow b ds) :=
  ⟨h.os, h.tape, h.output, by simpa [World.setRow] using h.size, fun k hk => by
    rw [← h.block k hk]
    simp only [World.setRow]
    rw [Array.getElem?_modify, if_neg (by omega)]⟩
/-- The best one of some. -/
def bestX : List Ist → Ist
  | [] => in0
  | x :: l => l.foldl (fun m y => if 0 < cmpX y m then y else m) x
theorem bestX_snoc (l : List Ist) (y : Ist) (h : l ≠ []) : bestX (l ++ [y]) = if 0 < cmpX y (bestX l) then y else bestX l := by
  cases l with
  | nil => exact absurd rfl h
  | cons x l =>
    show List.foldl _ x (l ++ [y]) = _
    rw [List.foldl_append]
    rfl
theorem bestX_mem (l : List Ist) (h : l ≠ []) : bestX l ∈ l := by
  cases l with
  | nil => exact absurd rfl h
  | cons x l =>
    clear h
    have : ∀ (l : List Ist) (m : Ist), l.foldl (fun m y => if 0 < cmpX y m then y else m) m = m ∨ l.foldl (fun m y => if 0 < cmpX y m then y else m) m ∈ l := by
      intro l
      induction l with
      | nil => exact fun m => .inl rfl
      | cons a l ih =>
        intro m
        rw [List.foldl_cons]
        rcases ih (if 0 < cmpX a m then a else m) with q | q
        · rw [q]
          split
          · exact .inr (List.mem_cons_self ..)
          · exact .inl rfl
        · exact .inr (List.mem_cons_of_mem _ q)
    rcases this l x with q | q
    · show l.foldl _ x ∈ _
      rw [q]; exact List.mem_cons_self ..
    · exact List.mem_cons_of_mem _ q
def MxP (l : List Ist) (B : Nat) (w : World) (e : Ending) (w' : World) : Prop := ∃ u, Hid (e = .returned (.agg (inE (bestX l) u).toArray)) ∧ IK.Own w B u (bestX l).at'.2 ∧ okL (bestX l).at'.2 ∧ Below w.heap.size w w'
set_option maxHeartbeats 16000000 in
theorem max_any {w : World} {B Bw : Nat} {v : Value} {l : List Ist} (h : HRow w B Bw v l) (h0 : l ≠ []) (hl : l.length ≤ 1000) : Calls Try.prog 53 #[v, .func (.func 54) #[] #[]] w (MxP l B w) := by
  obtain ⟨a, c, e⟩ := h.slice
  subst e
  obtain ⟨N, hN⟩ : ∃ N, l.length = N := ⟨_, rfl⟩
  have hN1 : 1 ≤ N := by rw [← hN]; exact List.length_pos_iff.2 h0
  rw [hN] at h hl ⊢
  have HN := Lib.hid hN
  have HH := Lib.hid h
  have hW1 : Below w.heap.size w (w.alloc (.cells #[.int .i64 0, .int .i64 0, .int .i64 0, .int .i64 0, .int .i64 0, .int .i64 0, .int .i64 0, .int .i64 0, .string ⟨#[]⟩, .string ⟨#[]⟩, .int .i64 0, .int .i64 0, .int .i64 0, .int .i64 0, .slice none 0 0] 38)) := al1 w _
  obtain ⟨-, hl0, b, u, rfl, hb, hu, hok, hc⟩ := HH.out.el hW1 0 hN1
  have hQ0 := Bk.new w 38 [.int .i64 0, .int .i64 0, .int .i64 0, .int .i64 0, .int .i64 0, .int .i64 0, .int .i64 0, .int .i64 0, .string ⟨#[]⟩, .string ⟨#[]⟩, .int .i64 0, .int .i64 0, .int .i64 0, .int .i64 0, .slice none 0 0]
  obtain ⟨W1, hWe⟩ : ∃ W1, w.alloc (.cells #[.int .i64 0, .int .i64 0, .int .i64 0, .int .i64 0, .int .i64 0, .int .i64 0, .int .i64 0, .int .i64 0, .string ⟨#[]⟩, .string ⟨#[]⟩, .int .i64 0, .int .i64 0, .int .i64 0, .int .i64 0, .slice none 0 0] 38) = W1 := ⟨_, rfl⟩
  have hs1 : W1.heap.size = w.heap.size + 1 := by rw [← hWe]; simp
  have hQ1 : Bk W1 w.heap.size 38 [.int .i64 0, .int .i64 0, .int .i64 0, .int .i64 0, .int .i64 0, .int .i64 0, .int .i64 0, .int .i64 0, .string ⟨#[]⟩, .string ⟨#[]⟩, .int .i64 0, .int .i64 0, .int .i64 0, .int .i64 0, .slice none 0 0] := by rw [← hWe]; exact hQ0
  obtain ⟨ub, cb, hue⟩ := hu.slice
  have hx1 : l.take 1 = [l[0]] := by
    cases l with
    | nil => exact absurd rfl h0
    | cons x l => rfl
  have hbx : bestX (l.take 1) = l[0] := by rw [hx1]; rfl
  rw [hWe] at hW1 hc
  obtain ⟨x, hx⟩ : ∃ x, l[0] = x := ⟨_, rfl⟩
  rw [hx] at hc hue hbx hu hok
  obtain ⟨m0, ⟨m1, m2⟩, ⟨m3, m4⟩, ⟨m5, m6, m7, m8, m9, m10, m11, m12⟩, m13, m14⟩ := x
  obtain ⟨mb, hmb⟩ : ∃ d, m14.length = d := ⟨_, rfl⟩
  simp only [hmb] at hue
  subst hue
  have z0 : W1.cell? ⟨b, 0, none⟩ = some (.int .i64 m0) := by simpa using hc 0 _ rfl
  have z1 : W1.cell? ⟨b, 1, none⟩ = some (.int .i64 m1) := by simpa using hc 1 _ rfl
  have z2 : W1.cell? ⟨b, 2, none⟩ = some (.int .i64 m2) := by simpa using hc 2 _ rfl
  have z3 : W1.cell? ⟨b, 3, none⟩ = some (.int .i64 m3) := by simpa using hc 3 _ rfl
  have z4 : W1.cell? ⟨b, 4, none⟩ = some (.int .i64 m4) := by simpa using hc 4 _ rfl
  have z5 : W1.cell? ⟨b, 5, none⟩ = some (.int .i64 m5) := by simpa using hc 5 _ rfl
  have z6 : W1.cell? ⟨b, 6, none⟩ = some (.int .i64 m6) := by simpa using hc 6 _ rfl
  have z7 : W1.cell? ⟨b, 7, none⟩ = some (.int .i64 m7) := by simpa using hc 7 _ rfl
  have z8 : W1.cell? ⟨b, 8, none⟩ = some (.string m8) := by simpa using hc 8 _ rfl
  have z9 : W1.cell? ⟨b, 9, none⟩ = some (.string m9) := by simpa using hc 9 _ rfl
  have z10 : W1.cell? ⟨b, 10, none⟩ = some (.int .i64 m10) := by simpa using hc 10 _ rfl
  have z11 : W1.cell? ⟨b, 11, none⟩ = some (.int .i64 m11) := by simpa using hc 11 _ rfl
  have z12 : W1.cell? ⟨b, 12, none⟩ = some (.int .i64 m12) := by simpa using hc 12 _ rfl
  have z13 : W1.cell? ⟨b, 13, none⟩ = some (.int .i64 m13) := by simpa using hc 13 _ rfl
  have z14 : W1.cell? ⟨b, 14, none⟩ = some (.slice ub mb cb) := by simpa using hc 14 _ rfl
  have hb1 : b < W1.heap.size := by omega
  have HW1 := Lib.hid hW1
  have HQ1 := Lib.hid hQ1
  have HBX := Lib.hid hbx
  have HU0 : Hid (IK.Own w B (.slice ub mb cb) m14 ∧ okL m14) := Lib.hid ⟨hu, hok⟩
  have HS1 := Lib.hid hs1
  have HbW := Lib.hid hb
  have d1 : decide ((N : Int) < 1) = false := decide_eq_false (by omega)
  have d1n : decide (N < 1) = false := decide_eq_false (by omega)
  have hNx : ¬ ((N : Int) < 1) := by omega
  clear hc hu hok hx hbx hx1 hmb hQ0 hQ1 hW1 h hN hs1 hl0
  go_enter Try.func53, Try.ntmps53
  go_wp2_with fail
  try rw [hWe]
  clear d1 d1n hNx
  obtain ⟨W2, hW2⟩ : ∃ W2, W1.alloc (.cells #[.int .i64 m0, .int .i64 m1, .int .i64 m2, .int .i64 m3, .int .i64 m4, .int .i64 m5, .int .i64 m6, .int .i64 m7, .string m8, .string m9, .int .i64 m10, .int .i64 m11, .int .i64 m12, .int .i64 m13, .slice ub mb cb] 38) = W2 := ⟨_, rfl⟩
  have HK2 : Hid (Bk W2 (w.heap.size + 1) 38 [.int .i64 m0, .int .i64 m1, .int .i64 m2, .int .i64 m3, .int .i64 m4, .int .i64 m5, .int .i64 m6, .int .i64 m7, .string m8, .string m9, .int .i64 m10, .int .i64 m11, .int .i64 m12, .int .i64 m13, .slice ub mb cb]) := Lib.hid (by rw [← hW2]; exact Bk.newAt HS1.out _ [.int .i64 m0, .int .i64 m1, .int .i64 m2, .int .i64 m3, .int .i64 m4, .int .i64 m5, .int .i64 m6, .int .i64 m7, .string m8, .string m9, .int .i64 m10, .int .i64 m11, .int .i64 m12, .int .i64 m13, .slice ub mb cb])
  have HQ2 : Hid (Bk W2 w.heap.size 38 [.int .i64 0, .int .i64 0, .int .i64 0, .int .i64 0, .int .i64 0, .int .i64 0, .int .i64 0, .int .i64 0, .string ⟨#[]⟩, .string ⟨#[]⟩, .int .i64 0, .int .i64 0, .int .i64 0, .int .i64 0, .slice none 0 0]) := Lib.hid (by rw [← hW2]; exact HQ1.out.old _)
  have HB2 : Hid (Below w.heap.size w W2) := Lib.hid (by rw [← hW2]; exact HW1.out.alloc (by rw [HS1.out]; omega) _)
  try simp only [HS1.out]
  try rw [hW2]
  clear z0 z1 z2 z3 z4 z5 z6 z7 z8 z9 z10 z11 z12 z13 z14 hb1 hWe hW2 HW1 HQ1 HS1
  go_loopw [6] (fun i wr => ∃ k : Nat, 1 ≤ k ∧ k ≤ N ∧ i = .int .i64 k ∧ Hid (∃ u, Bk wr (w.heap.size + 1) 38 (inE (bestX (l.take k)) u) ∧ IK.Own w B u (bestX (l.take k)).at'.2 ∧ okL (bestX (l.take k)).at'.2) ∧ Hid (Bk wr w.heap.size 38 [.int .i64 0, .int .i64 0, .int .i64 0, .int .i64 0, .int .i64 0, .int .i64 0, .int .i64 0, .int .i64 0, .string ⟨#[]⟩, .string ⟨#[]⟩, .int .i64 0, .int .i64 0, .int .i64 0, .int .i64 0, .slice none 0 0]) ∧ Hid (Below w.heap.size w wr)) (fun i _ => N - (intOf i).toNat)
  case atStart => exact ⟨1, by omega, hN1, rfl, Lib.hid ⟨.slice ub mb cb, by rw [HBX.out]; exact HK2.out, by rw [HBX.out]; exact HU0.out.1, by rw [HBX.out]; exact HU0.out.2⟩, HQ2, HB2⟩
  case round =>
    clear HBX HU0 HK2 HQ2 HB2
    obtain ⟨k, hk1, hk, rfl, HM, HQ, HB⟩ := hrel
    obtain ⟨v, hKb, hvo, hvk⟩ := HM.out
    obtain ⟨ub, cb, hue⟩ := hvo.slice
    obtain ⟨y, hy⟩ : ∃ y, bestX (l.take k) = y := ⟨_, rfl⟩
    rw [hy] at hKb hvo hvk hue
    have hy2 := hy
    obtain ⟨m0, ⟨m1, m2⟩, ⟨m3, m4⟩, ⟨m5, m6, m7, m8, m9, m10, m11, m12⟩, m13, m14⟩ := y
    obtain ⟨mb, hmb⟩ : ∃ d, m14.length = d := ⟨_, rfl⟩
    simp only [hmb] at hue
    subst hue
    have HK : Hid (Bk wr (w.heap.size + 1) 38 [.int .i64 m0, .int .i64 m1, .int .i64 m2, .int .i64 m3, .int .i64 m4, .int .i64 m5, .int .i64 m6, .int .i64 m7, .string m8, .string m9, .int .i64 m10, .int .i64 m11, .int .i64 m12, .int .i64 m13, .slice ub mb cb]) := Lib.hid hKb
    have HU : Hid (IK.Own w B (.slice ub mb cb) m14 ∧ okL m14) := Lib.hid ⟨hvo, hvk⟩
    have HY := Lib.hid hy2
    have hkb := hKb.lt
    clear hKb hvo hvk hmb hy hy2 HM
    by_cases hlt : k < N
    · have hk2 : (k : Int) < (N : Int) := by omega
      have hd2 : decide ((k : Int) < (N : Int)) = true := decide_eq_true hk2
      have hd3 : decide (k < N) = true := decide_eq_true hlt
      obtain ⟨-, hlk, b', u, hab, hbw, hu, hok, hc⟩ := HH.out.el HB.out k hlt
      have hbe : b' = b := by injection hab with q; injection q with q1; exact q1.symm
      subst hbe
      clear hab
      obtain ⟨ua, ca, hue⟩ := hu.slice
      have hts : bestX (l.take (k + 1)) = if 0 < cmpX l[k] (bestX (l.take k)) then l[k] else bestX (l.take k) := by
        rw [List.take_succ_eq_append_getElem hlk]
        exact bestX_snoc _ _ (by intro q; have := congrArg List.length q; rw [List.length_take, HN.out, List.length_nil] at this; omega)
      rw [HY.out] at hts
      obtain ⟨x, hx⟩ : ∃ x, l[k] = x := ⟨_, rfl⟩
      rw [hx] at hc hue hts hu hok
      obtain ⟨n0, ⟨n1, n2⟩, ⟨n3, n4⟩, ⟨n5, n6, n7, n8, n9, n10, n11, n12⟩, n13, n14⟩ := x
      obtain ⟨ma, hma⟩ : ∃ d, n14.length = d := ⟨_, rfl⟩
      simp only [hma] at hue
      subst hue
      have HNU : Hid (IK.Own w B (.slice ua ma ca) n14 ∧ okL n14) := Lib.hid ⟨hu, hok⟩
      have HA1 : Hid (∀ W : World, Calls Try.prog 54 #[.agg #[.int .i64 n0, .int .i64 n1, .int .i64 n2, .int .i64 n3, .int .i64 n4, .int .i64 n5, .int .i64 n6, .int .i64 n7, .string n8, .string n9, .int .i64 n10, .int .i64 n11, .int .i64 n12, .int .i64 n13, .slice ua ma ca], .agg #[.int .i64 m0, .int .i64 m1, .int .i64 m2, .int .i64 m3, .int .i64 m4, .int .i64 m5, .int .i64 m6, .int .i64 m7, .string m8, .string m9, .int .i64 m10, .int .i64 m11, .int .i64 m12, .int .i64 m13, .slice ub mb cb]] W fun e w' => e = .returned (.int .i64 (cmpX ⟨n0, (n1, n2), (n3, n4), ⟨n5, n6, n7, n8, n9, n10, n11, n12⟩, (n13, n14)⟩ ⟨m0, (m1, m2), (m3, m4), ⟨m5, m6, m7, m8, m9, m10, m11, m12⟩, (m13, m14)⟩)) ∧ Below W.heap.size W w') := Lib.hid fun W => asked1_any ⟨n0, (n1, n2), (n3, n4), ⟨n5, n6, n7, n8, n9, n10, n11, n12⟩, (n13, n14)⟩ ⟨m0, (m1, m2), (m3, m4), ⟨m5, m6, m7, m8, m9, m10, m11, m12⟩, (m13, m14)⟩ ua ub ma mb ca cb W
      obtain ⟨R, hR⟩ : ∃ R, cmpX ⟨n0, (n1, n2), (n3, n4), ⟨n5, n6, n7, n8, n9, n10, n11, n12⟩, (n13, n14)⟩ ⟨m0, (m1, m2), (m3, m4), ⟨m5, m6, m7, m8, m9, m10, m11, m12⟩, (m13, m14)⟩ = R := ⟨_, rfl⟩
      rw [hR] at HA1 hts
      have hbr : b' < wr.heap.size := Nat.lt_of_lt_of_le hbw HB.out.size
      have z0 : wr.cell? ⟨b', k * 15, none⟩ = some (.int .i64 n0) := hc 0 _ rfl
      have z1 : wr.cell? ⟨b', k * 15 + 1, none⟩ = some (.int .i64 n1) := hc 1 _ rfl
      have z2 : wr.cell? ⟨b', k * 15 + 2, none⟩ = some (.int .i64 n2) := hc 2 _ rfl
      have z3 : wr.cell? ⟨b', k * 15 + 3, none⟩ = some (.int .i64 n3) := hc 3 _ rfl
      have z4 : wr.cell? ⟨b', k * 15 + 4, none⟩ = some (.int .i64 n4) := hc 4 _ rfl
      have z5 : wr.cell? ⟨b', k * 15 + 5, none⟩ = some (.int .i64 n5) := hc 5 _ rfl
      have z6 : wr.cell? ⟨b', k * 15 + 6, none⟩ = some (.int .i64 n6) := hc 6 _ rfl
      have z7 : wr.cell? ⟨b', k * 15 + 7, none⟩ = some (.int .i64 n7) := hc 7 _ rfl
      have z8 : wr.cell? ⟨b', k * 15 + 8, none⟩ = some (.string n8) := hc 8 _ rfl
      have z9 : wr.cell? ⟨b', k * 15 + 9, none⟩ = some (.string n9) := hc 9 _ rfl
      have z10 : wr.cell? ⟨b', k * 15 + 10, none⟩ = some (.int .i64 n10) := hc 10 _ rfl
      have z11 : wr.cell? ⟨b', k * 15 + 11, none⟩ = some (.int .i64 n11) := hc 11 _ rfl
      have z12 : wr.cell? ⟨b', k * 15 + 12, none⟩ = some (.int .i64 n12) := hc 12 _ rfl
      have z13 : wr.cell? ⟨b', k * 15 + 13, none⟩ = some (.int .i64 n13) := hc 13 _ rfl
      have z14 : wr.cell? ⟨b', k * 15 + 14, none⟩ = some (.slice ua ma ca) := hc 14 _ rfl
      have HC : Hid (∀ w' : World, Below wr.heap.size wr w' → Below wr.heap.size wr w' ∧ w'.cell? ⟨b', k * 15, none⟩ = some (.int .i64 n0) ∧ w'.cell? ⟨b', k * 15 + 1, none⟩ = some (.int .i64 n1) ∧ w'.cell? ⟨b', k * 15 + 2, none⟩ = some (.int .i64 n2) ∧ w'.cell? ⟨b', k * 15 + 3, none⟩ = some (.int .i64 n3) ∧ w'.cell? ⟨b', k * 15 + 4, none⟩ = some (.int .i64 n4) ∧ w'.cell? ⟨b', k * 15 + 5, none⟩ = some (.int .i64 n5) ∧ w'.cell? ⟨b', k * 15 + 6, none⟩ = some (.int .i64 n6) ∧ w'.cell? ⟨b', k * 15 + 7, none⟩ = some (.int .i64 n7) ∧ w'.cell? ⟨b', k * 15 + 8, none⟩ = some (.string n8) ∧ w'.cell? ⟨b', k * 15 + 9, none⟩ = some (.string n9) ∧ w'.cell? ⟨b', k * 15 + 10, none⟩ = some (.int .i64 n10) ∧ w'.cell? ⟨b', k * 15 + 11, none⟩ = some (.int .i64 n11) ∧ w'.cell? ⟨b', k * 15 + 12, none⟩ = some (.int .i64 n12) ∧ w'.cell? ⟨b', k * 15 + 13, none⟩ = some (.int .i64 n13) ∧ w'.cell? ⟨b', k * 15 + 14, none⟩ = some (.slice ua ma ca) ∧ w'.cell? ⟨w.heap.size + 1, 0, none⟩ = some (.int .i64 m0) ∧ w'.cell? ⟨w.heap.size + 1, 1, none⟩ = some (.int .i64 m1) ∧ w'.cell? ⟨w.heap.size + 1, 2, none⟩ = some (.int .i64 m2) ∧ w'.cell? ⟨w.heap.size + 1, 3, none⟩ = some (.int .i64 m3) ∧ w'.cell? ⟨w.heap.size + 1, 4, none⟩ = some (.int .i64 m4) ∧ w'.cell? ⟨w.heap.size + 1, 5, none⟩ = some (.int .i64 m5) ∧ w'.cell? ⟨w.heap.size + 1, 6, none⟩ = some (.int .i64 m6) ∧ w'.cell? ⟨w.heap.size + 1, 7, none⟩ = some (.int .i64 m7) ∧ w'.cell? ⟨w.heap.size + 1, 8, none⟩ = some (.string m8) ∧ w'.cell? ⟨w.heap.size + 1, 9, none⟩ = some (.string m9) ∧ w'.cell? ⟨w.heap.size + 1, 10, none⟩ = some (.int .i64 m10) ∧ w'.cell? ⟨w.heap.size + 1, 11, none⟩ = some (.int .i64 m11) ∧ w'.cell? ⟨w.heap.size + 1, 12, none⟩ = some (.int .i64 m12) ∧ w'.cell? ⟨w.heap.size + 1, 13, none⟩ = some (.int .i64 m13) ∧ w'.cell? ⟨w.heap.size + 1, 14, none⟩ = some (.slice ub mb cb)) := Lib.hid fun w' hb => by
        have q := HK.out.below hb
        exact ⟨hb, (hb.cell (p := ⟨b', k * 15, none⟩) hbr).trans z0, (hb.cell (p := ⟨b', k * 15 + 1, none⟩) hbr).trans z1, (hb.cell (p := ⟨b', k * 15 + 2, none⟩) hbr).trans z2, (hb.cell (p := ⟨b', k * 15 + 3, none⟩) hbr).trans z3, (hb.cell (p := ⟨b', k * 15 + 4, none⟩) hbr).trans z4, (hb.cell (p := ⟨b', k * 15 + 5, none⟩) hbr).trans z5, (hb.cell (p := ⟨b', k * 15 + 6, none⟩) hbr).trans z6, (hb.cell (p := ⟨b', k * 15 + 7, none⟩) hbr).trans z7, (hb.cell (p := ⟨b', k * 15 + 8, none⟩) hbr).trans z8, (hb.cell (p := ⟨b', k * 15 + 9, none⟩) hbr).trans z9, (hb.cell (p := ⟨b', k * 15 + 10, none⟩) hbr).trans z10, (hb.cell (p := ⟨b', k * 15 + 11, none⟩) hbr).trans z11, (hb.cell (p := ⟨b', k * 15 + 12, none⟩) hbr).trans z12, (hb.cell (p := ⟨b', k * 15 + 13, none⟩) hbr).trans z13, (hb.cell (p := ⟨b', k * 15 + 14, none⟩) hbr).trans z14, q.cell 0, q.cell 1, q.cell 2, q.cell 3, q.cell 4, q.cell 5, q.cell 6, q.cell 7, q.cell 8, q.cell 9, q.cell 10, q.cell 11, q.cell 12, q.cell 13, q.cell 14⟩
      clear hc hu hok hx hma hR
      by_cases hr : 0 < R
      · have hr1 : decide (0 < R) = true := decide_eq_true hr
        rw [if_pos hr] at hts
        have HBS := Lib.hid hts
        clear hts
        go_wp2_with fail
        refine wp_region_held_drew (S := (fun w' => Below wr.heap.size wr w' ∧ w'.cell? ⟨b', k * 15, none⟩ = some (.int .i64 n0) ∧ w'.cell? ⟨b', k * 15 + 1, none⟩ = some (.int .i64 n1) ∧ w'.cell? ⟨b', k * 15 + 2, none⟩ = some (.int .i64 n2) ∧ w'.cell? ⟨b', k * 15 + 3, none⟩ = some (.int .i64 n3) ∧ w'.cell? ⟨b', k * 15 + 4, none⟩ = some (.int .i64 n4) ∧ w'.cell? ⟨b', k * 15 + 5, none⟩ = some (.int .i64 n5) ∧ w'.cell? ⟨b', k * 15 + 6, none⟩ = some (.int .i64 n6) ∧ w'.cell? ⟨b', k * 15 + 7, none⟩ = some (.int .i64 n7) ∧ w'.cell? ⟨b', k * 15 + 8, none⟩ = some (.string n8) ∧ w'.cell? ⟨b', k * 15 + 9, none⟩ = some (.string n9) ∧ w'.cell? ⟨b', k * 15 + 10, none⟩ = some (.int .i64 n10) ∧ w'.cell? ⟨b', k * 15 + 11, none⟩ = some (.int .i64 n11) ∧ w'.cell? ⟨b', k * 15 + 12, none⟩ = some (.int .i64 n12) ∧ w'.cell? ⟨b', k * 15 + 13, none⟩ = some (.int .i64 n13) ∧ w'.cell? ⟨b', k * 15 + 14, none⟩ = some (.slice ua ma ca) ∧ w'.cell? ⟨w.heap.size + 1, 0, none⟩ = some (.int .i64 m0) ∧ w'.cell? ⟨w.heap.size + 1, 1, none⟩ = some (.int .i64 m1) ∧ w'.cell? ⟨w.heap.size + 1, 2, none⟩ = some (.int .i64 m2) ∧ w'.cell? ⟨w.heap.size + 1, 3, none⟩ = some (.int .i64 m3) ∧ w'.cell? ⟨w.heap.size + 1, 4, none⟩ = some (.int .i64 m4) ∧ w'.cell? ⟨w.heap.size + 1, 5, none⟩ = some (.int .i64 m5) ∧ w'.cell? ⟨w.heap.size + 1, 6, none⟩ = some (.int .i64 m6) ∧ w'.cell? ⟨w.heap.size + 1, 7, none⟩ = some (.int .i64 m7) ∧ w'.cell? ⟨w.heap.size + 1, 8, none⟩ = some (.string m8) ∧ w'.cell? ⟨w.heap.size + 1, 9, none⟩ = some (.string m9) ∧ w'.cell? ⟨w.heap.size + 1, 10, none⟩ = some (.int .i64 m10) ∧ w'.cell? ⟨w.heap.size + 1, 11, none⟩ = some (.int .i64 m11) ∧ w'.cell? ⟨w.heap.size + 1, 12, none⟩ = some (.int .i64 m12) ∧ w'.cell? ⟨w.heap.size + 1, 13, none⟩ = some (.int .i64 m13) ∧ w'.cell? ⟨w.heap.size + 1, 14, none⟩ = some (.slice ub mb cb))) (by kernel_rfl) ?_ (fun hHeld => ?_)
        · (first
          | exact HC.out _ hs7
          | exact HC.out _ (Below.refl _ _).drew
          | exact HC.out _ (Below.refl _ _)
          | fail)
        refine wpAnyH_take (i := 0) (v := ?_) rfl (by kernel_rfl) (by kernel_rfl) (by kernel_rfl) (fun _ _ _ h => h) (Or.inl ⟨by rfl, ?_⟩) (by assumption) ?_
        rotate_left
        · (intro w hSw; (try dsimp only at hSw); go_simp; try rfl)
        try simp only [Act.put, List.setIfInBounds_toArray, List.set_cons_zero, List.set_cons_succ, List.getElem_toArray, List.getElem_cons_zero, List.getElem_cons_succ]
        refine wpAnyH_take (i := 1) (v := ?_) rfl (by kernel_rfl) (by kernel_rfl) (by kernel_rfl) (fun _ _ _ h => h) (Or.inl ⟨by rfl, ?_⟩) (by assumption) ?_
        rotate_left
        · (intro w hSw; (try dsimp only at hSw); go_simp; try rfl)
        try simp only [Act.put, List.setIfInBounds_toArray, List.set_cons_zero, List.set_cons_succ, List.getElem_toArray, List.getElem_cons_zero, List.getElem_cons_succ]
        refine wpAnyH_take (i := 2) (v := ?_) rfl (by kernel_rfl) (by kernel_rfl) (by kernel_rfl) (fun _ _ _ h => h) (Or.inl ⟨by rfl, ?_⟩) (by assumption) ?_
        rotate_left
        · (intro w hSw; (try dsimp only at hSw); go_simp; try rfl)
        try simp only [Act.put, List.setIfInBounds_toArray, List.set_cons_zero, List.set_cons_succ, List.getElem_toArray, List.getElem_cons_zero, List.getElem_cons_succ]
        refine wpAnyH_take (i := 3) (v := ?_) rfl (by kernel_rfl) (by kernel_rfl) (by kernel_rfl) (fun _ _ _ h => h) (Or.inl ⟨by rfl, ?_⟩) (by assumption) ?_
        rotate_left
        · (intro w hSw; (try dsimp only at hSw); go_simp; try rfl)
        try simp only [Act.put, List.setIfInBounds_toArray, List.set_cons_zero, List.set_cons_succ, List.getElem_toArray, List.getElem_cons_zero, List.getElem_cons_succ]
        refine wpAnyH_take (i := 4) (v := ?_) rfl (by kernel_rfl) (by kernel_rfl) (by kernel_rfl) (fun _ _ _ h => h) (Or.inl ⟨by rfl, ?_⟩) (by assumption) ?_
        rotate_left
        · (intro w hSw; (try dsimp only at hSw); go_simp; try rfl)
        try simp only [Act.put, List.setIfInBounds_toArray, List.set_cons_zero, List.set_cons_succ, List.getElem_toArray, List.getElem_cons_zero, List.getElem_cons_succ]
        refine wpAnyH_take (i := 5) (v := ?_) rfl (by kernel_rfl) (by kernel_rfl) (by kernel_rfl) (fun _ _ _ h => h) (Or.inl ⟨by rfl, ?_⟩) (by assumption) ?_
        rotate_left
        · (intro w hSw; (try dsimp only at hSw); go_simp; try rfl)
        try simp only [Act.put, List.setIfInBounds_toArray, List.set_cons_zero, List.set_cons_succ, List.getElem_toArray, List.getElem_cons_zero, List.getElem_cons_succ]
        refine wpAnyH_ready (rs := [6]) (by kernel_rfl) (by simp) ?_
        refine (AllReadyH.cons rfl (fun K hK => ?_) AllReadyH.nil)
        go_simp
        (go_at_call 54; refine (HA1.out _).mono ?_; rintro e w7 ⟨rfl, hb7⟩; have hs7 : Below wr.heap.size wr w7 := below_self hHeld.1 hb7)
        refine hK.out _ _ ?_ (fun hHeld => ?_)
        · (first
          | exact HC.out _ hs7
          | exact HC.out _ (Below.refl _ _).drew
          | exact HC.out _ (Below.refl _ _)
          | fail)
        clear hK K
        try simp only [Act.put, List.setIfInBounds_toArray, List.set_cons_zero, List.set_cons_succ, List.getElem_toArray, List.getElem_cons_zero, List.getElem_cons_succ]
        refine wpAnyH_take (i := 7) (v := ?_) rfl (by kernel_rfl) (by kernel_rfl) (by kernel_rfl) (fun _ _ _ h => h) (Or.inl ⟨by rfl, ?_⟩) (by assumption) ?_
        rotate_left
        · (intro w hSw; (try dsimp only at hSw); go_simp; try rfl)
        try simp only [Act.put, List.setIfInBounds_toArray, List.set_cons_zero, List.set_cons_succ, List.getElem_toArray, List.getElem_cons_zero, List.getElem_cons_succ]
        refine wpAnyH_done (by kernel_rfl) ?_ _
        have HB7 := Lib.hid hs7
        have HK7 : Hid (Bk w7 (w.heap.size + 1) 38 [.int .i64 m0, .int .i64 m1, .int .i64 m2, .int .i64 m3, .int .i64 m4, .int .i64 m5, .int .i64 m6, .int .i64 m7, .string m8, .string m9, .int .i64 m10, .int .i64 m11, .int .i64 m12, .int .i64 m13, .slice ub mb cb]) := Lib.hid (HK.out.below hs7)
        have HQ7 : Hid (Bk w7 w.heap.size 38 [.int .i64 0, .int .i64 0, .int .i64 0, .int .i64 0, .int .i64 0, .int .i64 0, .int .i64 0, .int .i64 0, .string ⟨#[]⟩, .string ⟨#[]⟩, .int .i64 0, .int .i64 0, .int .i64 0, .int .i64 0, .slice none 0 0]) := Lib.hid (HQ.out.below hs7)
        have HK8 := Lib.hid (bk_setRow2 (ds := [.int .i64 n0, .int .i64 n1, .int .i64 n2, .int .i64 n3, .int .i64 n4, .int .i64 n5, .int .i64 n6, .int .i64 n7, .string n8, .string n9, .int .i64 n10, .int .i64 n11, .int .i64 n12, .int .i64 n13, .slice ua ma ca]) HK7.out)
        have HQ8 : Hid (Bk (w7.setRow (w.heap.size + 1) #[.int .i64 n0, .int .i64 n1, .int .i64 n2, .int .i64 n3, .int .i64 n4, .int .i64 n5, .int .i64 n6, .int .i64 n7, .string n8, .string n9, .int .i64 n10, .int .i64 n11, .int .i64 n12, .int .i64 n13, .slice ua ma ca]) w.heap.size 38 [.int .i64 0, .int .i64 0, .int .i64 0, .int .i64 0, .int .i64 0, .int .i64 0, .int .i64 0, .int .i64 0, .string ⟨#[]⟩, .string ⟨#[]⟩, .int .i64 0, .int .i64 0, .int .i64 0, .int .i64 0, .slice none 0 0]) := Lib.hid (bk_otherRow2 HQ7.out (by omega))
        have HB8 : Hid (Below w.heap.size w (w7.setRow (w.heap.size + 1) #[.int .i64 n0, .int .i64 n1, .int .i64 n2, .int .i64 n3, .int .i64 n4, .int .i64 n5, .int .i64 n6, .int .i64 n7, .string n8, .string n9, .int .i64 n10, .int .i64 n11, .int .i64 n12, .int .i64 n13, .slice ua ma ca])) := Lib.hid (below_setRow2 (HB.out.trans (HB7.out.mono HB.out.size)) (by omega) _)
        have y0 := (HB7.out.cell (p := ⟨b', k * 15, none⟩) hbr).trans z0
        have y1 := (HB7.out.cell (p := ⟨b', k * 15 + 1, none⟩) hbr).trans z1
        have y2 := (HB7.out.cell (p := ⟨b', k * 15 + 2, none⟩) hbr).trans z2
        have y3 := (HB7.out.cell (p := ⟨b', k * 15 + 3, none⟩) hbr).trans z3
        have y4 := (HB7.out.cell (p := ⟨b', k * 15 + 4, none⟩) hbr).trans z4
        have y5 := (HB7.out.cell (p := ⟨b', k * 15 + 5, none⟩) hbr).trans z5
        have y6 := (HB7.out.cell (p := ⟨b', k * 15 + 6, none⟩) hbr).trans z6
        have y7 := (HB7.out.cell (p := ⟨b', k * 15 + 7, none⟩) hbr).trans z7
        have y8 := (HB7.out.cell (p := ⟨b', k * 15 + 8, none⟩) hbr).trans z8
        have y9 := (HB7.out.cell (p := ⟨b', k * 15 + 9, none⟩) hbr).trans z9
        have y10 := (HB7.out.cell (p := ⟨b', k * 15 + 10, none⟩) hbr).trans z10
        have y11 := (HB7.out.cell (p := ⟨b', k * 15 + 11, none⟩) hbr).trans z11
        have y12 := (HB7.out.cell (p := ⟨b', k * 15 + 12, none⟩) hbr).trans z12
        have y13 := (HB7.out.cell (p := ⟨b', k * 15 + 13, none⟩) hbr).trans z13
        have y14 := (HB7.out.cell (p := ⟨b', k * 15 + 14, none⟩) hbr).trans z14
        clear hs7 hb7 HC HA1 HK HQ HB7
        go_wp2_with (first
          | refine _root_.Go.wpList_store_row rfl _ _ _ rfl (w.heap.size + 1) #[.int .i64 n0, .int .i64 n1, .int .i64 n2, .int .i64 n3, .int .i64 n4, .int .i64 n5, .int .i64 n6, .int .i64 n7, .string n8, .string n9, .int .i64 n10, .int .i64 n11, .int .i64 n12, .int .i64 n13, .slice ua ma ca] rfl rfl 38 _ HK7.out infoIn rfl (all_toL2 (l := [.int .i64 n0, .int .i64 n1, .int .i64 n2, .int .i64 n3, .int .i64 n4, .int .i64 n5, .int .i64 n6, .int .i64 n7, .string n8, .string n9, .int .i64 n10, .int .i64 n11, .int .i64 n12, .int .i64 n13, .slice ua ma ca]) rfl) ?_
          | fail)
        go_roundw
        case rel => exact ⟨k + 1, by omega, by omega, by go_num, Lib.hid ⟨.slice ua ma ca, by rw [HBS.out]; exact HK8.out, by rw [HBS.out]; exact HNU.out.1, by rw [HBS.out]; exact HNU.out.2⟩, HQ8, HB8⟩
        case measure => simp [intOf]; omega
      · have hr1 : decide (0 < R) = false := decide_eq_false hr
        rw [if_neg hr] at hts
        have HBS := Lib.hid hts
        clear hts z0 z1 z2 z3 z4 z5 z6 z7 z8 z9 z10 z11 z12 z13 z14
        go_wp2_with fail
        refine wp_region_held_drew (S := (fun w' => Below wr.heap.size wr w' ∧ w'.cell? ⟨b', k * 15, none⟩ = some (.int .i64 n0) ∧ w'.cell? ⟨b', k * 15 + 1, none⟩ = some (.int .i64 n1) ∧ w'.cell? ⟨b', k * 15 + 2, none⟩ = some (.int .i64 n2) ∧ w'.cell? ⟨b', k * 15 + 3, none⟩ = some (.int .i64 n3) ∧ w'.cell? ⟨b', k * 15 + 4, none⟩ = some (.int .i64 n4) ∧ w'.cell? ⟨b', k * 15 + 5, none⟩ = some (.int .i64 n5) ∧ w'.cell? ⟨b', k * 15 + 6, none⟩ = some (.int .i64 n6) ∧ w'.cell? ⟨b', k * 15 + 7, none⟩ = some (.int .i64 n7) ∧ w'.cell? ⟨b', k * 15 + 8, none⟩ = some (.string n8) ∧ w'.cell? ⟨b', k * 15 + 9, none⟩ = some (.string n9) ∧ w'.cell? ⟨b', k * 15 + 10, none⟩ = some (.int .i64 n10) ∧ w'.cell? ⟨b', k * 15 + 11, none⟩ = some (.int .i64 n11) ∧ w'.cell? ⟨b', k * 15 + 12, none⟩ = some (.int .i64 n12) ∧ w'.cell? ⟨b', k * 15 + 13, none⟩ = some (.int .i64 n13) ∧ w'.cell? ⟨b', k * 15 + 14, none⟩ = some (.slice ua ma ca) ∧ w'.cell? ⟨w.heap.size + 1, 0, none⟩ = some (.int .i64 m0) ∧ w'.cell? ⟨w.heap.size + 1, 1, none⟩ = some (.int .i64 m1) ∧ w'.cell? ⟨w.heap.size + 1, 2, none⟩ = some (.int .i64 m2) ∧ w'.cell? ⟨w.heap.size + 1, 3, none⟩ = some (.int .i64 m3) ∧ w'.cell? ⟨w.heap.size + 1, 4, none⟩ = some (.int .i64 m4) ∧ w'.cell? ⟨w.heap.size + 1, 5, none⟩ = some (.int .i64 m5) ∧ w'.cell? ⟨w.heap.size + 1, 6, none⟩ = some (.int .i64 m6) ∧ w'.cell? ⟨w.heap.size + 1, 7, none⟩ = some (.int .i64 m7) ∧ w'.cell? ⟨w.heap.size + 1, 8, none⟩ = some (.string m8) ∧ w'.cell? ⟨w.heap.size + 1, 9, none⟩ = some (.string m9) ∧ w'.cell? ⟨w.heap.size + 1, 10, none⟩ = some (.int .i64 m10) ∧ w'.cell? ⟨w.heap.size + 1, 11, none⟩ = some (.int .i64 m11) ∧ w'.cell? ⟨w.heap.size + 1, 12, none⟩ = some (.int .i64 m12) ∧ w'.cell? ⟨w.heap.size + 1, 13, none⟩ = some (.int .i64 m13) ∧ w'.cell? ⟨w.heap.size + 1, 14, none⟩ = some (.slice ub mb cb))) (by kernel_rfl) ?_ (fun hHeld => ?_)
        · (first
          | exact HC.out _ hs7
          | exact HC.out _ (Below.refl _ _).drew
          | exact HC.out _ (Below.refl _ _)
          | fail)
        refine wpAnyH_take (i := 0) (v := ?_) rfl (by kernel_rfl) (by kernel_rfl) (by kernel_rfl) (fun _ _ _ h => h) (Or.inl ⟨by rfl, ?_⟩) (by assumption) ?_
        rotate_left
        · (intro w hSw; (try dsimp only at hSw); go_simp; try rfl)
        try simp only [Act.put, List.setIfInBounds_toArray, List.set_cons_zero, List.set_cons_succ, List.getElem_toArray, List.getElem_cons_zero, List.getElem_cons_succ]
        refine wpAnyH_take (i := 1) (v := ?_) rfl (by kernel_rfl) (by kernel_rfl) (by kernel_rfl) (fun _ _ _ h => h) (Or.inl ⟨by rfl, ?_⟩) (by assumption) ?_
        rotate_left
        · (intro w hSw; (try dsimp only at hSw); go_simp; try rfl)
        try simp only [Act.put, List.setIfInBounds_toArray, List.set_cons_zero, List.set_cons_succ, List.getElem_toArray, List.getElem_cons_zero, List.getElem_cons_succ]
        refine wpAnyH_take (i := 2) (v := ?_) rfl (by kernel_rfl) (by kernel_rfl) (by kernel_rfl) (fun _ _ _ h => h) (Or.inl ⟨by rfl, ?_⟩) (by assumption) ?_
        rotate_left
        · (intro w hSw; (try dsimp only at hSw); go_simp; try rfl)
        try simp only [Act.put, List.setIfInBounds_toArray, List.set_cons_zero, List.set_cons_succ, List.getElem_toArray, List.getElem_cons_zero, List.getElem_cons_succ]
        refine wpAnyH_take (i := 3) (v := ?_) rfl (by kernel_rfl) (by kernel_rfl) (by kernel_rfl) (fun _ _ _ h => h) (Or.inl ⟨by rfl, ?_⟩) (by assumption) ?_
        rotate_left
        · (intro w hSw; (try dsimp only at hSw); go_simp; try rfl)
        try simp only [Act.put, List.setIfInBounds_toArray, List.set_cons_zero, List.set_cons_succ, List.getElem_toArray, List.getElem_cons_zero, List.getElem_cons_succ]
        refine wpAnyH_take (i := 4) (v := ?_) rfl (by kernel_rfl) (by kernel_rfl) (by kernel_rfl) (fun _ _ _ h => h) (Or.inl ⟨by rfl, ?_⟩) (by assumption) ?_
        rotate_left
        · (intro w hSw; (try dsimp only at hSw); go_simp; try rfl)
        try simp only [Act.put, List.setIfInBounds_toArray, List.set_cons_zero, List.set_cons_succ, List.getElem_toArray, List.getElem_cons_zero, List.getElem_cons_succ]
        refine wpAnyH_take (i := 5) (v := ?_) rfl (by kernel_rfl) (by kernel_rfl) (by kernel_rfl) (fun _ _ _ h => h) (Or.inl ⟨by rfl, ?_⟩) (by assumption) ?_
        rotate_left
        · (intro w hSw; (try dsimp only at hSw); go_simp; try rfl)
        try simp only [Act.put, List.setIfInBounds_toArray, List.set_cons_zero, List.set_cons_succ, List.getElem_toArray, List.getElem_cons_zero, List.getElem_cons_succ]
        refine wpAnyH_ready (rs := [6]) (by kernel_rfl) (by simp) ?_
        refine (AllReadyH.cons rfl (fun K hK => ?_) AllReadyH.nil)
        go_simp
        (go_at_call 54; refine (HA1.out _).mono ?_; rintro e w7 ⟨rfl, hb7⟩; have hs7 : Below wr.heap.size wr w7 := below_self hHeld.1 hb7)
        refine hK.out _ _ ?_ (fun hHeld => ?_)
        · (first
          | exact HC.out _ hs7
          | exact HC.out _ (Below.refl _ _).drew
          | exact HC.out _ (Below.refl _ _)
          | fail)
        clear hK K
        try simp only [Act.put, List.setIfInBounds_toArray, List.set_cons_zero, List.set_cons_succ, List.getElem_toArray, List.getElem_cons_zero, List.getElem_cons_succ]
        refine wpAnyH_take (i := 7) (v := ?_) rfl (by kernel_rfl) (by kernel_rfl) (by kernel_rfl) (fun _ _ _ h => h) (Or.inl ⟨by rfl, ?_⟩) (by assumption) ?_
        rotate_left
        · (intro w hSw; (try dsimp only at hSw); go_simp; try rfl)
        try simp only [Act.put, List.setIfInBounds_toArray, List.set_cons_zero, List.set_cons_succ, List.getElem_toArray, List.getElem_cons_zero, List.getElem_cons_succ]
        refine wpAnyH_done (by kernel_rfl) ?_ _
        have HB7 := Lib.hid hs7
        have HK7 : Hid (Bk w7 (w.heap.size + 1) 38 [.int .i64 m0, .int .i64 m1, .int .i64 m2, .int .i64 m3, .int .i64 m4, .int .i64 m5, .int .i64 m6, .int .i64 m7, .string m8, .string m9, .int .i64 m10, .int .i64 m11, .int .i64 m12, .int .i64 m13, .slice ub mb cb]) := Lib.hid (HK.out.below hs7)
        have HQ7 : Hid (Bk w7 w.heap.size 38 [.int .i64 0, .int .i64 0, .int .i64 0, .int .i64 0, .int .i64 0, .int .i64 0, .int .i64 0, .int .i64 0, .string ⟨#[]⟩, .string ⟨#[]⟩, .int .i64 0, .int .i64 0, .int .i64 0, .int .i64 0, .slice none 0 0]) := Lib.hid (HQ.out.below hs7)
        clear hs7 hb7 HC HA1 HK HQ
        go_wp2_with fail
        go_roundw
        case rel => exact ⟨k + 1, by omega, by omega, by go_num, Lib.hid ⟨.slice ub mb cb, by rw [HBS.out]; exact HK7.out, by rw [HBS.out]; exact HU.out.1, by rw [HBS.out]; exact HU.out.2⟩, HQ7, Lib.hid (HB.out.trans (HB7.out.mono HB.out.size))⟩
        case measure => simp [intOf]; omega
    · have e : k = N := by omega
      subst e
      have hd2 : decide ((k : Int) < (k : Int)) = false := decide_eq_false (by omega)
      have hd3 : decide (k < k) = false := decide_eq_false (by omega)
      have hK0 := HK.out
      have HQs := Lib.hid (bk_setRow2 (ds := [.int .i64 m0, .int .i64 m1, .int .i64 m2, .int .i64 m3, .int .i64 m4, .int .i64 m5, .int .i64 m6, .int .i64 m7, .string m8, .string m9, .int .i64 m10, .int .i64 m11, .int .i64 m12, .int .i64 m13, .slice ub mb cb]) HQ.out)
      have HY2 : Hid (bestX l = ⟨m0, (m1, m2), (m3, m4), ⟨m5, m6, m7, m8, m9, m10, m11, m12⟩, (m13, m14)⟩) := Lib.hid (by rw [← HY.out, List.take_of_length_le (by rw [HN.out]; exact Nat.le_refl _)])
      have hqs : w.heap.size < wr.heap.size := HQ.out.lt
      clear hK0
      go_wp2_with (first
        | refine _root_.Go.wpList_load_row rfl _ _ rfl (w.heap.size + 1) rfl 38 _ _ _ HK.out Try.underlying38 rfl infoIn ?_
        | refine _root_.Go.wpList_store_row rfl _ _ _ rfl w.heap.size #[.int .i64 m0, .int .i64 m1, .int .i64 m2, .int .i64 m3, .int .i64 m4, .int .i64 m5, .int .i64 m6, .int .i64 m7, .string m8, .string m9, .int .i64 m10, .int .i64 m11, .int .i64 m12, .int .i64 m13, .slice ub mb cb] rfl rfl 38 _ HQ.out infoIn rfl (all_toL2 (l := [.int .i64 m0, .int .i64 m1, .int .i64 m2, .int .i64 m3, .int .i64 m4, .int .i64 m5, .int .i64 m6, .int .i64 m7, .string m8, .string m9, .int .i64 m10, .int .i64 m11, .int .i64 m12, .int .i64 m13, .slice ub mb cb]) rfl) ?_
        | fail)
      obtain ⟨Wz, hWz⟩ : ∃ Wz, wr.setRow w.heap.size #[.int .i64 m0, .int .i64 m1, .int .i64 m2, .int .i64 m3, .int .i64 m4, .int .i64 m5, .int .i64 m6, .int .i64 m7, .string m8, .string m9, .int .i64 m10, .int .i64 m11, .int .i64 m12, .int .i64 m13, .slice ub mb cb] = Wz := ⟨_, rfl⟩
      rw [hWz]
      have HBz : Hid (Below w.heap.size w Wz) := Lib.hid (by rw [← hWz]; exact below_setRow2 HB.out (Nat.le_refl _) _)
      rw [hWz] at HQs
      have e0 := HQs.out.cell 0
      have e1 := HQs.out.cell 1
      have e2 := HQs.out.cell 2
      have e3 := HQs.out.cell 3
      have e4 := HQs.out.cell 4
      have e5 := HQs.out.cell 5
      have e6 := HQs.out.cell 6
      have e7 := HQs.out.cell 7
      have e8 := HQs.out.cell 8
      have e9 := HQs.out.cell 9
      have e10 := HQs.out.cell 10
      have e11 := HQs.out.cell 11
      have e12 := HQs.out.cell 12
      have e13 := HQs.out.cell 13
      have e14 := HQs.out.cell 14
      simp only [List.getElem?_cons_zero, List.getElem?_cons_succ] at e0 e1 e2 e3 e4 e5 e6 e7 e8 e9 e10 e11 e12 e13 e14
      clear hWz
      refine bodyPost_ret (v := .agg #[.int .i64 m0, .int .i64 m1, .int .i64 m2, .int .i64 m3, .int .i64 m4, .int .i64 m5, .int .i64 m6, .int .i64 m7, .string m8, .string m9, .int .i64 m10, .int .i64 m11, .int .i64 m12, .int .i64 m13, .slice ub mb cb]) (by simp [results, Try.results53, go_sem, e0, e1, e2, e3, e4, e5, e6, e7, e8, e9, e10, e11, e12, e13, e14]) rfl ⟨.slice ub mb cb, ?_, ?_, ?_, ?_⟩
      · rw [HY2.out]; exact Lib.hid rfl
      · rw [HY2.out]; exact HU.out.1
      · rw [HY2.out]; exact HU.out.2
      · exact HBz.out
end Go.Proofs.Ytplplehfkfjhnaa
