/-
  Texts put together: Ce4, Ce5, Ce6, Ce7, Ce8, Ce9.
-/
import Derived.Test.YtllcmapgigfgoaaWa
namespace Go.Proofs.Ytllcmapgigfgoaa
open Go.RowKit
set_option linter.unusedSimpArgs false
set_option linter.unusedVariables false

set_option maxRecDepth 100000 in
set_option maxHeartbeats 16000000 in
theorem none_any (n4 : Int) (n5 : Int) (n6 : Int) (n7 : Int) (n8 : Int) (n9 : Int) (n10 : Int) (n11 : Int) (n12 : ByteArray) (n13 : ByteArray) (n14 : Int) (n15 : Int) (n16 : Int) (n17 : Int) (a18 : Option Addr) (m18 c18 : Nat) (w : World) (hm : m18 ≤ 9223372036854775807) : Calls Try.prog 37 #[.agg #[.int .i64 n4, .int .i64 n5, .int .i64 n6, .int .i64 n7, .int .i64 n8, .int .i64 n9, .int .i64 n10, .int .i64 n11, .string n12, .string n13, .int .i64 n14, .int .i64 n15, .int .i64 n16, .int .i64 n17, .slice a18 m18 c18]] w (BoP (decide (n4 = 0 ∧ (n5 = 0 ∧ n6 = 0) ∧ (n7 = 0 ∧ n8 = 0) ∧ (n9 = 0 ∧ n10 = 0 ∧ n11 = 0 ∧ n12 = ⟨#[]⟩ ∧ n13 = ⟨#[]⟩ ∧ n14 = 0 ∧ n15 = 0 ∧ n16 = 0) ∧ n17 = 0 ∧ m18 = 0)) w) := by
  obtain ⟨e2, g2⟩ := eqB0 n5 n6
  obtain ⟨e3, g3⟩ := eqB0 n7 n8
  obtain ⟨e4, g4⟩ := eqC0 n9 n10 n11 n12 n13 n14 n15 n16
  have hm' : (m18 : Int) ≤ 9223372036854775807 := by omega
  obtain ⟨B, hBB⟩ : ∃ B, decide (n4 = 0 ∧ (n5 = 0 ∧ n6 = 0) ∧ (n7 = 0 ∧ n8 = 0) ∧ (n9 = 0 ∧ n10 = 0 ∧ n11 = 0 ∧ n12 = ⟨#[]⟩ ∧ n13 = ⟨#[]⟩ ∧ n14 = 0 ∧ n15 = 0 ∧ n16 = 0) ∧ n17 = 0 ∧ m18 = 0) = B := ⟨_, rfl⟩
  rw [hBB]
  have HBB := Lib.hid hBB
  clear hBB
  have HB1 : Hid (Below w.heap.size w (w.alloc (.cells #[.int .i64 n4, .int .i64 n5, .int .i64 n6, .int .i64 n7, .int .i64 n8, .int .i64 n9, .int .i64 n10, .int .i64 n11, .string n12, .string n13, .int .i64 n14, .int .i64 n15, .int .i64 n16, .int .i64 n17, .slice a18 m18 c18] 35))) := Lib.hid ((Below.refl _ _).alloc (Nat.le_refl _) _)
  have hi := Bk.new w 35 [.int .i64 n4, .int .i64 n5, .int .i64 n6, .int .i64 n7, .int .i64 n8, .int .i64 n9, .int .i64 n10, .int .i64 n11, .string n12, .string n13, .int .i64 n14, .int .i64 n15, .int .i64 n16, .int .i64 n17, .slice a18 m18 c18]
  have i4 := hi.cell 0
  have i5 := hi.cell 1
  have i6 := hi.cell 2
  have i7 := hi.cell 3
  have i8 := hi.cell 4
  have i9 := hi.cell 5
  have i10 := hi.cell 6
  have i11 := hi.cell 7
  have i12 := hi.cell 8
  have i13 := hi.cell 9
  have i14 := hi.cell 10
  have i15 := hi.cell 11
  have i16 := hi.cell 12
  have i17 := hi.cell 13
  have i18 := hi.cell 14
  simp only [List.getElem?_cons_zero, List.getElem?_cons_succ] at i4 i5 i6 i7 i8 i9 i10 i11 i12 i13 i14 i15 i16 i17 i18
  clear hm hi
  go_enter Try.func37, Try.ntmps37
  go_upto_region 1 with fail
  generalize w.alloc (.cells #[.int .i64 n4, .int .i64 n5, .int .i64 n6, .int .i64 n7, .int .i64 n8, .int .i64 n9, .int .i64 n10, .int .i64 n11, .string n12, .string n13, .int .i64 n14, .int .i64 n15, .int .i64 n16, .int .i64 n17, .slice a18 m18 c18] 35) = X at *
  by_cases p0 : n4 = 0
  rotate_left
  · have hB' : B = false := by
      rw [← HBB.out]
      exact decide_eq_false (fun h => p0 h.1)
    subst hB'
    have q1 : (n4 == 0) = false := by exact beq_eq_false_iff_ne.2 p0
    clear p0
    go_wp2_with fail
    go_ret
    exact ⟨rfl, HB1.out⟩
  have q1 : (n4 == 0) = true := by simp [p0]
  by_cases p1 : (n5 = 0 ∧ n6 = 0)
  rotate_left
  · have hB' : B = false := by
      rw [← HBB.out]
      exact decide_eq_false (fun h => p1 h.2.1)
    subst hB'
    have q2 := fun w => (e2 w).trans (by rw [decide_eq_false p1])
    clear e2
    have e2 := q2
    clear q2
    clear p0 p1
    go_wp2_with fail
    go_ret
    exact ⟨rfl, HB1.out⟩
  have q2 := fun w => (e2 w).trans (by rw [decide_eq_true p1])
  clear e2
  have e2 := q2
  clear q2
  by_cases p2 : (n7 = 0 ∧ n8 = 0)
  rotate_left
  · have hB' : B = false := by
      rw [← HBB.out]
      exact decide_eq_false (fun h => p2 h.2.2.1)
    subst hB'
    have q3 := fun w => (e3 w).trans (by rw [decide_eq_false p2])
    clear e3
    have e3 := q3
    clear q3
    clear p0 p1 p2
    go_wp2_with fail
    go_ret
    exact ⟨rfl, HB1.out⟩
  have q3 := fun w => (e3 w).trans (by rw [decide_eq_true p2])
  clear e3
  have e3 := q3
  clear q3
  by_cases p3 : (n9 = 0 ∧ n10 = 0 ∧ n11 = 0 ∧ n12 = ⟨#[]⟩ ∧ n13 = ⟨#[]⟩ ∧ n14 = 0 ∧ n15 = 0 ∧ n16 = 0)
  rotate_left
  · have hB' : B = false := by
      rw [← HBB.out]
      exact decide_eq_false (fun h => p3 h.2.2.2.1)
    subst hB'
    have q4 := fun w => (e4 w).trans (by rw [decide_eq_false p3])
    clear e4
    have e4 := q4
    clear q4
    clear p0 p1 p2 p3
    go_wp2_with fail
    go_ret
    exact ⟨rfl, HB1.out⟩
  have q4 := fun w => (e4 w).trans (by rw [decide_eq_true p3])
  clear e4
  have e4 := q4
  clear q4
  by_cases p4 : n17 = 0
  rotate_left
  · have hB' : B = false := by
      rw [← HBB.out]
      exact decide_eq_false (fun h => p4 h.2.2.2.2.1)
    subst hB'
    have q5 : (n17 == 0) = false := by exact beq_eq_false_iff_ne.2 p4
    clear p0 p1 p2 p3 p4
    go_wp2_with fail
    go_ret
    exact ⟨rfl, HB1.out⟩
  have q5 : (n17 == 0) = true := by simp [p4]
  by_cases p5 : m18 = 0
  rotate_left
  · have hB' : B = false := by
      rw [← HBB.out]
      exact decide_eq_false (fun h => p5 h.2.2.2.2.2)
    subst hB'
    have q6 : ((m18 : Int) == 0) = false := by exact beq_eq_false_iff_ne.2 (by omega)
    have q6' : (m18 == 0) = false := by exact beq_eq_false_iff_ne.2 p5
    clear p0 p1 p2 p3 p4 p5
    go_wp2_with fail
    go_ret
    exact ⟨rfl, HB1.out⟩
  have q6 : ((m18 : Int) == 0) = true := by simp [p5]
  have q6' : (m18 == 0) = true := by simp [p5]
  have hB' : B = true := by
    rw [← HBB.out]
    exact decide_eq_true ⟨p0, p1, p2, p3, p4, p5⟩
  subst hB'
  clear p0 p1 p2 p3 p4 p5
  go_wp2_with fail
  go_ret
  exact ⟨rfl, HB1.out⟩
theorem neI0 (a b c : Int) : ∀ w, Sem.run Try.prog (binOp .neq 24 (.agg #[.int .i64 a, .int .i64 b, .int .i64 c]) (.agg #[.int .i64 0, .int .i64 0, .int .i64 0])) w = .ok (.bool (!decide (a = 0 ∧ b = 0 ∧ c = 0))) w := by
  intro w
  have h := (eqI0 a b c).1 w
  rw [run_eql_struct] at h
  rw [run_neq_struct]
  revert h
  generalize Sem.run Try.prog (Op.equalIn 10000 24 (.agg #[.int .i64 a, .int .i64 b, .int .i64 c]) (.agg #[.int .i64 0, .int .i64 0, .int .i64 0])) w = r
  intro h
  cases r with
  | ok v w' => simp [Result.andThen] at h ⊢; simp [h]
  | halt x w' => simp [Result.andThen] at h
def MsR (x : Rec4) (w : World) (e : Ending) (w' : World) : Prop := Below w.heap.size w w' ∧ ((rcGood x ∧ Hid (e = .returned (.tuple #[.string (txt (eF (rcFs x))), .bool true]))) ∨ (¬ rcGood x ∧ Hid (e = .returned (.tuple #[.string ⟨#[]⟩, .bool false]))))
/-- Lists that are no longer than any machine's memory. -/
structure RchL (y : Snp) : Prop where
  a : y.1.2.length ≤ 140737488355328
  b : y.2.1.length ≤ 140737488355328
  c : y.2.2.length ≤ 140737488355328
end Go.Proofs.Ytllcmapgigfgoaa
namespace Go.Proofs.Ytllcmapgigfgoaa
open Go.RowKit
set_option linter.unusedSimpArgs false
set_option linter.unusedVariables false

def OfP (cs : Array Value) (w : World) (e : Ending) (w' : World) : Prop := Hid (e = .returned (.agg cs)) ∧ Below w.heap.size w w'
set_option maxRecDepth 100000 in
set_option maxHeartbeats 16000000 in
theorem ofr_any (n0 : Bool) (n1 : Int) (n2 : Int) (n3 : Int) (n4 : Int) (n5 : Int) (n6 : Int) (n7 : Int) (n8 : Int) (n9 : Int) (n10 : Int) (n11 : Int) (n12 : ByteArray) (n13 : ByteArray) (n14 : Int) (n15 : Int) (n16 : Int) (n17 : Int) (a18 : Option Addr) (m18 c18 : Nat) (n19 : Int) (a20 : Option Addr) (m20 c20 : Nat) (a21 : Option Addr) (m21 c21 : Nat) (a22 : Option Addr) (m22 c22 : Nat) (w : World) : Calls Try.prog 16 #[.agg #[.bool n0, .int .i64 n1, .int .i64 n2, .int .i64 n3, .int .i64 n4, .int .i64 n5, .int .i64 n6, .int .i64 n7, .int .i64 n8, .int .i64 n9, .int .i64 n10, .int .i64 n11, .string n12, .string n13, .int .i64 n14, .int .i64 n15, .int .i64 n16, .int .i64 n17, .slice a18 m18 c18, .int .i64 n19, .slice a20 m20 c20, .slice a21 m21 c21, .slice a22 m22 c22]] w (OfP #[.bool n0, .int .i64 n1, .int .i64 n2, .int .i64 n3, .int .i64 n4, .int .i64 n5, .int .i64 n6, .int .i64 n7, .int .i64 n8, .int .i64 n9, .int .i64 n10, .int .i64 n11, .string n12, .string n13, .int .i64 n14, .int .i64 n15, .int .i64 n16, .int .i64 n17, .slice a18 m18 c18, .int .i64 n19, .slice a20 m20 c20, .slice a21 m21 c21, .slice a22 m22 c22] w) := by
  have hbk := (Bk.new w 46 [.bool n0, .int .i64 n1, .int .i64 n2, .int .i64 n3, .int .i64 n4, .int .i64 n5, .int .i64 n6, .int .i64 n7, .int .i64 n8, .int .i64 n9, .int .i64 n10, .int .i64 n11, .string n12, .string n13, .int .i64 n14, .int .i64 n15, .int .i64 n16, .int .i64 n17, .slice a18 m18 c18, .int .i64 n19, .slice a20 m20 c20, .slice a21 m21 c21, .slice a22 m22 c22]).old (.cells #[.bool false, .int .i64 0, .int .i64 0, .int .i64 0, .int .i64 0, .int .i64 0, .int .i64 0, .int .i64 0, .int .i64 0, .int .i64 0, .int .i64 0, .int .i64 0, .string ⟨#[]⟩, .string ⟨#[]⟩, .int .i64 0, .int .i64 0, .int .i64 0, .int .i64 0, .slice none 0 0, .int .i64 0, .slice none 0 0, .slice none 0 0, .slice none 0 0] 57)
  have HA := Lib.hid (Bk.new (w.alloc (.cells #[.bool n0, .int .i64 n1, .int .i64 n2, .int .i64 n3, .int .i64 n4, .int .i64 n5, .int .i64 n6, .int .i64 n7, .int .i64 n8, .int .i64 n9, .int .i64 n10, .int .i64 n11, .string n12, .string n13, .int .i64 n14, .int .i64 n15, .int .i64 n16, .int .i64 n17, .slice a18 m18 c18, .int .i64 n19, .slice a20 m20 c20, .slice a21 m21 c21, .slice a22 m22 c22] 46)) 57 [.bool false, .int .i64 0, .int .i64 0, .int .i64 0, .int .i64 0, .int .i64 0, .int .i64 0, .int .i64 0, .int .i64 0, .int .i64 0, .int .i64 0, .int .i64 0, .string ⟨#[]⟩, .string ⟨#[]⟩, .int .i64 0, .int .i64 0, .int .i64 0, .int .i64 0, .slice none 0 0, .int .i64 0, .slice none 0 0, .slice none 0 0, .slice none 0 0])
  have HB : Hid (Below w.heap.size w (((w.alloc (.cells #[.bool n0, .int .i64 n1, .int .i64 n2, .int .i64 n3, .int .i64 n4, .int .i64 n5, .int .i64 n6, .int .i64 n7, .int .i64 n8, .int .i64 n9, .int .i64 n10, .int .i64 n11, .string n12, .string n13, .int .i64 n14, .int .i64 n15, .int .i64 n16, .int .i64 n17, .slice a18 m18 c18, .int .i64 n19, .slice a20 m20 c20, .slice a21 m21 c21, .slice a22 m22 c22] 46)).alloc (.cells #[.bool false, .int .i64 0, .int .i64 0, .int .i64 0, .int .i64 0, .int .i64 0, .int .i64 0, .int .i64 0, .int .i64 0, .int .i64 0, .int .i64 0, .int .i64 0, .string ⟨#[]⟩, .string ⟨#[]⟩, .int .i64 0, .int .i64 0, .int .i64 0, .int .i64 0, .slice none 0 0, .int .i64 0, .slice none 0 0, .slice none 0 0, .slice none 0 0] 57)).setRow (w.heap.size + 1) #[.bool n0, .int .i64 n1, .int .i64 n2, .int .i64 n3, .int .i64 n4, .int .i64 n5, .int .i64 n6, .int .i64 n7, .int .i64 n8, .int .i64 n9, .int .i64 n10, .int .i64 n11, .string n12, .string n13, .int .i64 n14, .int .i64 n15, .int .i64 n16, .int .i64 n17, .slice a18 m18 c18, .int .i64 n19, .slice a20 m20 c20, .slice a21 m21 c21, .slice a22 m22 c22])) := Lib.hid (below_setRow (((Below.refl _ _).alloc (Nat.le_refl _) _).alloc (by simp) _) (by omega) _)
  rw [World.size_alloc] at HA
  have HR : Hid ((((w.alloc (.cells #[.bool n0, .int .i64 n1, .int .i64 n2, .int .i64 n3, .int .i64 n4, .int .i64 n5, .int .i64 n6, .int .i64 n7, .int .i64 n8, .int .i64 n9, .int .i64 n10, .int .i64 n11, .string n12, .string n13, .int .i64 n14, .int .i64 n15, .int .i64 n16, .int .i64 n17, .slice a18 m18 c18, .int .i64 n19, .slice a20 m20 c20, .slice a21 m21 c21, .slice a22 m22 c22] 46)).alloc (.cells #[.bool false, .int .i64 0, .int .i64 0, .int .i64 0, .int .i64 0, .int .i64 0, .int .i64 0, .int .i64 0, .int .i64 0, .int .i64 0, .int .i64 0, .int .i64 0, .string ⟨#[]⟩, .string ⟨#[]⟩, .int .i64 0, .int .i64 0, .int .i64 0, .int .i64 0, .slice none 0 0, .int .i64 0, .slice none 0 0, .slice none 0 0, .slice none 0 0] 57)).setRow (w.heap.size + 1) #[.bool n0, .int .i64 n1, .int .i64 n2, .int .i64 n3, .int .i64 n4, .int .i64 n5, .int .i64 n6, .int .i64 n7, .int .i64 n8, .int .i64 n9, .int .i64 n10, .int .i64 n11, .string n12, .string n13, .int .i64 n14, .int .i64 n15, .int .i64 n16, .int .i64 n17, .slice a18 m18 c18, .int .i64 n19, .slice a20 m20 c20, .slice a21 m21 c21, .slice a22 m22 c22]).heap[w.heap.size + 1]? = some (.cells #[.bool n0, .int .i64 n1, .int .i64 n2, .int .i64 n3, .int .i64 n4, .int .i64 n5, .int .i64 n6, .int .i64 n7, .int .i64 n8, .int .i64 n9, .int .i64 n10, .int .i64 n11, .string n12, .string n13, .int .i64 n14, .int .i64 n15, .int .i64 n16, .int .i64 n17, .slice a18 m18 c18, .int .i64 n19, .slice a20 m20 c20, .slice a21 m21 c21, .slice a22 m22 c22] 57 (0, 0))) := Lib.hid (heap_setRow_same _ _ #[.bool false, .int .i64 0, .int .i64 0, .int .i64 0, .int .i64 0, .int .i64 0, .int .i64 0, .int .i64 0, .int .i64 0, .int .i64 0, .int .i64 0, .int .i64 0, .string ⟨#[]⟩, .string ⟨#[]⟩, .int .i64 0, .int .i64 0, .int .i64 0, .int .i64 0, .slice none 0 0, .int .i64 0, .slice none 0 0, .slice none 0 0, .slice none 0 0] #[.bool n0, .int .i64 n1, .int .i64 n2, .int .i64 n3, .int .i64 n4, .int .i64 n5, .int .i64 n6, .int .i64 n7, .int .i64 n8, .int .i64 n9, .int .i64 n10, .int .i64 n11, .string n12, .string n13, .int .i64 n14, .int .i64 n15, .int .i64 n16, .int .i64 n17, .slice a18 m18 c18, .int .i64 n19, .slice a20 m20 c20, .slice a21 m21 c21, .slice a22 m22 c22] _ HA.out)
  have y0 := hbk.cell 0
  have y1 := hbk.cell 1
  have y2 := hbk.cell 2
  have y3 := hbk.cell 3
  have y4 := hbk.cell 4
  have y5 := hbk.cell 5
  have y6 := hbk.cell 6
  have y7 := hbk.cell 7
  have y8 := hbk.cell 8
  have y9 := hbk.cell 9
  have y10 := hbk.cell 10
  have y11 := hbk.cell 11
  have y12 := hbk.cell 12
  have y13 := hbk.cell 13
  have y14 := hbk.cell 14
  have y15 := hbk.cell 15
  have y16 := hbk.cell 16
  have y17 := hbk.cell 17
  have y18 := hbk.cell 18
  have y19 := hbk.cell 19
  have y20 := hbk.cell 20
  have y21 := hbk.cell 21
  have y22 := hbk.cell 22
  simp only [List.getElem?_cons_zero, List.getElem?_cons_succ] at y0 y1 y2 y3 y4 y5 y6 y7 y8 y9 y10 y11 y12 y13 y14 y15 y16 y17 y18 y19 y20 y21 y22
  clear hbk
  go_enter Try.func16, Try.ntmps16
  go_wp2_with (refine wpList_store_row rfl 57 _ _ rfl (w.heap.size + 1) rfl #[.bool n0, .int .i64 n1, .int .i64 n2, .int .i64 n3, .int .i64 n4, .int .i64 n5, .int .i64 n6, .int .i64 n7, .int .i64 n8, .int .i64 n9, .int .i64 n10, .int .i64 n11, .string n12, .string n13, .int .i64 n14, .int .i64 n15, .int .i64 n16, .int .i64 n17, .slice a18 m18 c18, .int .i64 n19, .slice a20 m20 c20, .slice a21 m21 c21, .slice a22 m22 c22] rfl #[.bool false, .int .i64 0, .int .i64 0, .int .i64 0, .int .i64 0, .int .i64 0, .int .i64 0, .int .i64 0, .int .i64 0, .int .i64 0, .int .i64 0, .int .i64 0, .string ⟨#[]⟩, .string ⟨#[]⟩, .int .i64 0, .int .i64 0, .int .i64 0, .int .i64 0, .slice none 0 0, .int .i64 0, .slice none 0 0, .slice none 0 0, .slice none 0 0] 57 HA.out (by kernel_rfl) rfl (by rw [← Array.all_toList]; rfl) ?_)
  exact bodyPost_ret (results_cell_row rfl _ _ (w.heap.size + 1) _ _ _ _ rfl HR.out Try.underlying57 rfl (by kernel_rfl)) rfl ⟨rfl, HB.out⟩
end Go.Proofs.Ytllcmapgigfgoaa
namespace Go.Proofs.Ytllcmapgigfgoaa
open Go.RowKit
set_option linter.unusedSimpArgs false
set_option linter.unusedVariables false

set_option maxRecDepth 100000 in
set_option maxHeartbeats 16000000 in
theorem ro_put1 (v : Value) (x : Rec4) (w : World) (h : RecIs w v x) (h0 : x.1 = true) (hz : RchI x.2.2.1 x.2.2.2) (hzl : RchL x.2.2.2) :
    Calls Try.prog 15 #[v] w (MsR x w) := by
  obtain ⟨cs, rfl, hs⟩ := h
  obtain ⟨a18, m18, c18, rs18, a20, m20, c20, rs20, a21, m21, c21, rs21, a22, m22, c22, rs22, hcs, hs12, hs13, hr18, hr20, hr21, hr22⟩ := rc_is hs
  obtain ⟨n0, ⟨n1, n2, n3⟩, ⟨n4, ⟨n5, n6⟩, ⟨n7, n8⟩, ⟨n9, n10, n11, n12, n13, n14, n15, n16⟩, n17, l18⟩, ⟨n19, l20⟩, l21, l22⟩ := x
  have h0 : n0 = true := h0
  subst h0
  obtain rfl : cs = #[.bool true, .int .i64 n1, .int .i64 n2, .int .i64 n3, .int .i64 n4, .int .i64 n5, .int .i64 n6, .int .i64 n7, .int .i64 n8, .int .i64 n9, .int .i64 n10, .int .i64 n11, .string n12, .string n13, .int .i64 n14, .int .i64 n15, .int .i64 n16, .int .i64 n17, .slice a18 m18 c18, .int .i64 n19, .slice a20 m20 c20, .slice a21 m21 c21, .slice a22 m22 c22] := by
    cases cs
    simpa [idE, inV, snV] using hcs
  have hm : ∀ {k : Nat} {K : Knd Try.prog (Cls k)} {α : Type} {S : Shp α} {a : Option Addr} {m c : Nat} {rs : List (Cls k)} {l : List α}, RowIs K S w (.slice a m c) rs l → m = l.length ∧ m ≤ 9223372036854775807 := by
    intro k K α S a m c rs l hr
    obtain ⟨_, _, e⟩ := hr.rd.slice
    simp only [Value.slice.injEq] at e
    have h1 := hr.len
    have h2 := hr.rd.len
    unfold maxLen at h2
    omega
  have q18 := hm hr18
  have q20 := hm hr20
  have q21 := hm hr21
  have q22 := hm hr22
  have hz12 : n12.size ≤ 140737488355328 := hz.p
  have hz13 : n13.size ≤ 140737488355328 := hz.v
  have HRs : Hid (Rch l21 l22) := Lib.hid hz.s
  have b20 : m20 ≤ 140737488355328 := q20.1 ▸ hzl.a
  have b21 : m21 ≤ 140737488355328 := q21.1 ▸ hzl.b
  have b22 : m22 ≤ 140737488355328 := q22.1 ▸ hzl.c
  have HR18 := Lib.hid hr18
  have HR20 := Lib.hid hr20
  have HR21 := Lib.hid hr21
  have HR22 := Lib.hid hr22
  have HQ18 := Lib.hid q18.1
  have HQ20 := Lib.hid q20.1
  have HQ21 := Lib.hid q21.1
  have HQ22 := Lib.hid q22.1
  have hm18 := q18.2
  clear hs hcs hs12 hs13 hr18 hr20 hr21 hr22 hz hzl hm q18 q20 q21 q22
  have HB0 : Hid (Below w.heap.size w ((w.alloc (.cells #[.bool true, .int .i64 n1, .int .i64 n2, .int .i64 n3, .int .i64 n4, .int .i64 n5, .int .i64 n6, .int .i64 n7, .int .i64 n8, .int .i64 n9, .int .i64 n10, .int .i64 n11, .string n12, .string n13, .int .i64 n14, .int .i64 n15, .int .i64 n16, .int .i64 n17, .slice a18 m18 c18, .int .i64 n19, .slice a20 m20 c20, .slice a21 m21 c21, .slice a22 m22 c22] 57)).alloc (.cells #[.string ⟨#[]⟩, .bool false] 80))) := Lib.hid (((Below.refl _ _).alloc (Nat.le_refl _) _).alloc (by simp) _)
  obtain ⟨M, hM1, hM2⟩ : ∃ M : Nat, 100000000000 ≤ M ∧ M ≤ 100000000000 := ⟨100000000000, Nat.le_refl _, Nat.le_refl _⟩
  have HO : Hid (SO ((w.alloc (.cells #[.bool true, .int .i64 n1, .int .i64 n2, .int .i64 n3, .int .i64 n4, .int .i64 n5, .int .i64 n6, .int .i64 n7, .int .i64 n8, .int .i64 n9, .int .i64 n10, .int .i64 n11, .string n12, .string n13, .int .i64 n14, .int .i64 n15, .int .i64 n16, .int .i64 n17, .slice a18 m18 c18, .int .i64 n19, .slice a20 m20 c20, .slice a21 m21 c21, .slice a22 m22 c22] 57)).alloc (.cells #[.string ⟨#[]⟩, .bool false] 80)) ((w.alloc (.cells #[.bool true, .int .i64 n1, .int .i64 n2, .int .i64 n3, .int .i64 n4, .int .i64 n5, .int .i64 n6, .int .i64 n7, .int .i64 n8, .int .i64 n9, .int .i64 n10, .int .i64 n11, .string n12, .string n13, .int .i64 n14, .int .i64 n15, .int .i64 n16, .int .i64 n17, .slice a18 m18 c18, .int .i64 n19, .slice a20 m20 c20, .slice a21 m21 c21, .slice a22 m22 c22] 57)).alloc (.cells #[.string ⟨#[]⟩, .bool false] 80)) (w.heap.size + 1) M w.heap.size 57 [.bool true, .int .i64 n1, .int .i64 n2, .int .i64 n3, .int .i64 n4, .int .i64 n5, .int .i64 n6, .int .i64 n7, .int .i64 n8, .int .i64 n9, .int .i64 n10, .int .i64 n11, .string n12, .string n13, .int .i64 n14, .int .i64 n15, .int .i64 n16, .int .i64 n17, .slice a18 m18 c18, .int .i64 n19, .slice a20 m20 c20, .slice a21 m21 c21, .slice a22 m22 c22] (some [])) := Lib.hid
    ⟨⟨⟨#[]⟩, by have := Bk.new (w.alloc (.cells #[.bool true, .int .i64 n1, .int .i64 n2, .int .i64 n3, .int .i64 n4, .int .i64 n5, .int .i64 n6, .int .i64 n7, .int .i64 n8, .int .i64 n9, .int .i64 n10, .int .i64 n11, .string n12, .string n13, .int .i64 n14, .int .i64 n15, .int .i64 n16, .int .i64 n17, .slice a18 m18 c18, .int .i64 n19, .slice a20 m20 c20, .slice a21 m21 c21, .slice a22 m22 c22] 57)) 80 [.string ⟨#[]⟩, .bool false]; rwa [World.size_alloc] at this, (fun e => by cases e), (fun xs e => by cases e; rfl)⟩, (Bk.new w 57 [.bool true, .int .i64 n1, .int .i64 n2, .int .i64 n3, .int .i64 n4, .int .i64 n5, .int .i64 n6, .int .i64 n7, .int .i64 n8, .int .i64 n9, .int .i64 n10, .int .i64 n11, .string n12, .string n13, .int .i64 n14, .int .i64 n15, .int .i64 n16, .int .i64 n17, .slice a18 m18 c18, .int .i64 n19, .slice a20 m20 c20, .slice a21 m21 c21, .slice a22 m22 c22]).old _, Fo.refl _ _, by omega⟩
  have HK : Hid (Sh 0 (some [])) := Lib.hid (by simp [Sh, stl])
  go_enter Try.func15, Try.ntmps15
  have k0 := HO.out.bx.cell 0
  simp only [List.getElem?_cons_zero, List.getElem?_cons_succ] at k0
  go_wp2_with fail
  generalize ((w.alloc (.cells #[.bool true, .int .i64 n1, .int .i64 n2, .int .i64 n3, .int .i64 n4, .int .i64 n5, .int .i64 n6, .int .i64 n7, .int .i64 n8, .int .i64 n9, .int .i64 n10, .int .i64 n11, .string n12, .string n13, .int .i64 n14, .int .i64 n15, .int .i64 n16, .int .i64 n17, .slice a18 m18 c18, .int .i64 n19, .slice a20 m20 c20, .slice a21 m21 c21, .slice a22 m22 c22] 57)).alloc (.cells #[.string ⟨#[]⟩, .bool false] 80)) = w0 at *
  refine (ro_num _ _ 1 _ _ HO.out.oo (Nat.le_trans (HK.out.max (by omega)) (by omega)) (by omega)).mono ?_
  rintro e w1 ⟨he, h1, h2⟩
  rw [he.out]
  have HO' := Lib.hid (HO.out.call h1 h2)
  have HK' := Lib.hid (HK.out.one (.num 1))
  clear he h1 h2 HO HK k0
  have HO := HO'
  have HK := HK'
  clear HO' HK'
  have k19 := HO.out.bx.cell 19
  simp only [List.getElem?_cons_zero, List.getElem?_cons_succ] at k19
  have k20 := HO.out.bx.cell 20
  simp only [List.getElem?_cons_zero, List.getElem?_cons_succ] at k20
  have k21 := HO.out.bx.cell 21
  simp only [List.getElem?_cons_zero, List.getElem?_cons_succ] at k21
  have k22 := HO.out.bx.cell 22
  simp only [List.getElem?_cons_zero, List.getElem?_cons_succ] at k22
  go_wp2_with fail
  refine (ro_snap _ _ n19 a20 m20 c20 a21 m21 c21 a22 m22 c22 rs20 l20 rs21 l21 rs22 l22 _ _ w _ HO.out.oo (HB0.out.trans (HO.out.ft.low (by omega) HB0.out.size)) (by omega) HK.out (by omega) (by omega) HR20.out HR21.out HR22.out HRs.out).mono ?_
  rintro e w2 ⟨he, h1, h2⟩
  rw [he.out]
  have HO' := Lib.hid (HO.out.call h1 h2)
  have HK' := Lib.hid (ShC.sn _ _ ((n19, l20), l21, l22) HK.out)
  clear he h1 h2 HO HK k19 k20 k21 k22
  have HO := HO'
  have HK := HK'
  clear HO' HK'
  have HE : Hid (wrs (wr1 (some []) (.num 1)) (snC.fs ((n19, l20), l21, l22)) = wrs (some []) (rcFs (true, (n1, n2, n3), (n4, (n5, n6), (n7, n8), (n9, n10, n11, n12, n13, n14, n15, n16), n17, l18), (n19, l20), l21, l22))) := Lib.hid (by
    unfold rcFs
    simp only [rc0Fs, wrs_app, wrs_cons, if_true, if_false, Bool.false_eq_true, ite_false, ite_true])
  have HBf := Lib.hid (HB0.out.trans (HO.out.ft.low (by omega) HB0.out.size))
  have hG : rcGood (true, (n1, n2, n3), (n4, (n5, n6), (n7, n8), (n9, n10, n11, n12, n13, n14, n15, n16), n17, l18), (n19, l20), l21, l22) ↔ (noI (true, (n1, n2, n3), (n4, (n5, n6), (n7, n8), (n9, n10, n11, n12, n13, n14, n15, n16), n17, l18), (n19, l20), l21, l22)) ∧ Oks (rcFs (true, (n1, n2, n3), (n4, (n5, n6), (n7, n8), (n9, n10, n11, n12, n13, n14, n15, n16), n17, l18), (n19, l20), l21, l22)) := by unfold rcGood; simp
  have HG := Lib.hid hG
  clear hG
  obtain ⟨sk, hsk⟩ : ∃ z, wrs (wr1 (some []) (.num 1)) (snC.fs ((n19, l20), l21, l22)) = z := ⟨_, rfl⟩
  rw [hsk] at HO HE
  clear hsk HK
  have HP := Lib.hid HO.out.bx
  obtain ⟨s, hk, _, hx⟩ := HO.out.oo
  have HS := Lib.hid hk
  have HXs := Lib.hid hx
  have d0 := hk.cell 0
  have d1 := hk.cell 1
  have z1 := hk.fz 1
  simp only [List.getElem?_cons_zero, List.getElem?_cons_succ] at d0 d1
  have HNe := Lib.hid HO.out.ne
  clear hk hx HO
  obtain ⟨F, hF⟩ : ∃ F, rcFs (true, (n1, n2, n3), (n4, (n5, n6), (n7, n8), (n9, n10, n11, n12, n13, n14, n15, n16), n17, l18), (n19, l20), l21, l22) = F := ⟨_, rfl⟩
  have HF := Lib.hid hF
  rw [hF] at HE HG
  clear hF
  cases sk with
  | none =>
    simp only [Option.isNone_none] at d1
    go_wp2_with fail
    go_ret2
    exact ⟨HBf.out.setCell (by show _ ≤ w.heap.size + 1; omega) _, Or.inr ⟨(fun hh => by
      have h1 := wrs_ok _ [] (HG.out.1 hh).2
      rw [← HE.out] at h1
      cases h1), rfl⟩⟩
  | some ys =>
    simp only [Option.isNone_some] at d1
    have HOk : Hid (Oks F ∧ ys = eF F) := Lib.hid (by have h1 := wrs_some HE.out.symm; rwa [List.nil_append] at h1)
    have e1 := neI0 n1 n2 n3
    have g1 := (eqI0 n1 n2 n3).2
    have r1 := HP.out.cell 1
    have r2 := HP.out.cell 2
    have r3 := HP.out.cell 3
    simp only [List.getElem?_cons_zero, List.getElem?_cons_succ] at r1 r2 r3
    by_cases p1 : n1 = 0 ∧ n2 = 0 ∧ n3 = 0
    rotate_left
    · have q1 := fun w => (e1 w).trans (by rw [decide_eq_false p1])
      clear e1
      have e1 := q1
      have HP1 := Lib.hid p1
      clear q1 p1
      go_wp2_with fail
      go_ret2
      exact ⟨HBf.out.setCell (by show _ ≤ w.heap.size + 1; omega) _, Or.inr ⟨(fun hh => HP1.out (HG.out.1 hh).1.1), rfl⟩⟩
    have q1 := fun w => (e1 w).trans (by rw [decide_eq_true p1])
    clear e1
    have e1 := q1
    have HP1 := Lib.hid p1
    clear q1 p1
    have k4 := HP.out.cell 4
    simp only [List.getElem?_cons_zero, List.getElem?_cons_succ] at k4
    have k5 := HP.out.cell 5
    simp only [List.getElem?_cons_zero, List.getElem?_cons_succ] at k5
    have k6 := HP.out.cell 6
    simp only [List.getElem?_cons_zero, List.getElem?_cons_succ] at k6
    have k7 := HP.out.cell 7
    simp only [List.getElem?_cons_zero, List.getElem?_cons_succ] at k7
    have k8 := HP.out.cell 8
    simp only [List.getElem?_cons_zero, List.getElem?_cons_succ] at k8
    have k9 := HP.out.cell 9
    simp only [List.getElem?_cons_zero, List.getElem?_cons_succ] at k9
    have k10 := HP.out.cell 10
    simp only [List.getElem?_cons_zero, List.getElem?_cons_succ] at k10
    have k11 := HP.out.cell 11
    simp only [List.getElem?_cons_zero, List.getElem?_cons_succ] at k11
    have k12 := HP.out.cell 12
    simp only [List.getElem?_cons_zero, List.getElem?_cons_succ] at k12
    have k13 := HP.out.cell 13
    simp only [List.getElem?_cons_zero, List.getElem?_cons_succ] at k13
    have k14 := HP.out.cell 14
    simp only [List.getElem?_cons_zero, List.getElem?_cons_succ] at k14
    have k15 := HP.out.cell 15
    simp only [List.getElem?_cons_zero, List.getElem?_cons_succ] at k15
    have k16 := HP.out.cell 16
    simp only [List.getElem?_cons_zero, List.getElem?_cons_succ] at k16
    have k17 := HP.out.cell 17
    simp only [List.getElem?_cons_zero, List.getElem?_cons_succ] at k17
    have k18 := HP.out.cell 18
    simp only [List.getElem?_cons_zero, List.getElem?_cons_succ] at k18
    go_wp2_with fail
    refine (none_any n4 n5 n6 n7 n8 n9 n10 n11 n12 n13 n14 n15 n16 n17 a18 m18 c18 _ hm18).mono ?_
    rintro e wn ⟨he, hb⟩
    rw [he.out]
    clear he k4 k5 k6 k7 k8 k9 k10 k11 k12 k13 k14 k15 k16 k17 k18
    have HBn := Lib.hid (HBf.out.trans (hb.mono HBf.out.size))
    have hk := HS.out.below hb
    have d0 := hk.cell 0
    have d1 := hk.cell 1
    have z1 := hk.fz 1
    simp only [List.getElem?_cons_zero, List.getElem?_cons_succ, Option.isNone_some] at d0 d1
    clear hb hk HBf
    have HBf := HBn
    clear HBn
    by_cases p2 : n4 = 0 ∧ (n5 = 0 ∧ n6 = 0) ∧ (n7 = 0 ∧ n8 = 0) ∧ (n9 = 0 ∧ n10 = 0 ∧ n11 = 0 ∧ n12 = ⟨#[]⟩ ∧ n13 = ⟨#[]⟩ ∧ n14 = 0 ∧ n15 = 0 ∧ n16 = 0) ∧ n17 = 0 ∧ m18 = 0
    rotate_left
    · rw [decide_eq_false p2]
      have HP2 := Lib.hid p2
      clear p2
      go_wp2_with fail
      go_ret2
      exact ⟨HBf.out.setCell (by show _ ≤ w.heap.size + 1; omega) _, Or.inr ⟨(fun hh => HP2.out (by have h1 := (HG.out.1 hh).1.2; have h2 := HQ18.out; unfold noI at *; simp only at h1; rw [h2]; exact h1)), rfl⟩⟩
    rw [decide_eq_true p2]
    have HP2 := Lib.hid p2
    clear p2
    have hsx : s = txt (eF F) := eF_txt ((HXs.out ys rfl).trans HOk.out.2)
    rw [hsx] at d0
    clear hsx
    go_wp2_with fail
    go_ret2
    exact ⟨HBf.out.setCell (by show _ ≤ w.heap.size + 1; omega) _, Or.inl ⟨HG.out.2 ⟨⟨HP1.out, by have h1 := HP2.out; rw [HQ18.out] at h1; exact h1⟩, HOk.out.1⟩, Lib.hid (by rw [HF.out]; rfl)⟩⟩
end Go.Proofs.Ytllcmapgigfgoaa
namespace Go.Proofs.Ytllcmapgigfgoaa
open Go.RowKit
set_option linter.unusedSimpArgs false
set_option linter.unusedVariables false

set_option maxRecDepth 100000 in
set_option maxHeartbeats 16000000 in
theorem ro_put0 (v : Value) (x : Rec4) (w : World) (h : RecIs w v x) (h0 : x.1 = false) (hz : RchI x.2.2.1 x.2.2.2) (hzl : RchL x.2.2.2) :
    Calls Try.prog 15 #[v] w (MsR x w) := by
  obtain ⟨cs, rfl, hs⟩ := h
  obtain ⟨a18, m18, c18, rs18, a20, m20, c20, rs20, a21, m21, c21, rs21, a22, m22, c22, rs22, hcs, hs12, hs13, hr18, hr20, hr21, hr22⟩ := rc_is hs
  obtain ⟨n0, ⟨n1, n2, n3⟩, ⟨n4, ⟨n5, n6⟩, ⟨n7, n8⟩, ⟨n9, n10, n11, n12, n13, n14, n15, n16⟩, n17, l18⟩, ⟨n19, l20⟩, l21, l22⟩ := x
  have h0 : n0 = false := h0
  subst h0
  obtain rfl : cs = #[.bool false, .int .i64 n1, .int .i64 n2, .int .i64 n3, .int .i64 n4, .int .i64 n5, .int .i64 n6, .int .i64 n7, .int .i64 n8, .int .i64 n9, .int .i64 n10, .int .i64 n11, .string n12, .string n13, .int .i64 n14, .int .i64 n15, .int .i64 n16, .int .i64 n17, .slice a18 m18 c18, .int .i64 n19, .slice a20 m20 c20, .slice a21 m21 c21, .slice a22 m22 c22] := by
    cases cs
    simpa [idE, inV, snV] using hcs
  have hm : ∀ {k : Nat} {K : Knd Try.prog (Cls k)} {α : Type} {S : Shp α} {a : Option Addr} {m c : Nat} {rs : List (Cls k)} {l : List α}, RowIs K S w (.slice a m c) rs l → m = l.length ∧ m ≤ 9223372036854775807 := by
    intro k K α S a m c rs l hr
    obtain ⟨_, _, e⟩ := hr.rd.slice
    simp only [Value.slice.injEq] at e
    have h1 := hr.len
    have h2 := hr.rd.len
    unfold maxLen at h2
    omega
  have q18 := hm hr18
  have q20 := hm hr20
  have q21 := hm hr21
  have q22 := hm hr22
  have hz12 : n12.size ≤ 140737488355328 := hz.p
  have hz13 : n13.size ≤ 140737488355328 := hz.v
  have HRs : Hid (Rch l21 l22) := Lib.hid hz.s
  have b20 : m20 ≤ 140737488355328 := q20.1 ▸ hzl.a
  have b21 : m21 ≤ 140737488355328 := q21.1 ▸ hzl.b
  have b22 : m22 ≤ 140737488355328 := q22.1 ▸ hzl.c
  have HR18 := Lib.hid hr18
  have HR20 := Lib.hid hr20
  have HR21 := Lib.hid hr21
  have HR22 := Lib.hid hr22
  have HQ18 := Lib.hid q18.1
  have HQ20 := Lib.hid q20.1
  have HQ21 := Lib.hid q21.1
  have HQ22 := Lib.hid q22.1
  have hm18 := q18.2
  clear hs hcs hs12 hs13 hr18 hr20 hr21 hr22 hz hzl hm q18 q20 q21 q22
  have HB0 : Hid (Below w.heap.size w ((w.alloc (.cells #[.bool false, .int .i64 n1, .int .i64 n2, .int .i64 n3, .int .i64 n4, .int .i64 n5, .int .i64 n6, .int .i64 n7, .int .i64 n8, .int .i64 n9, .int .i64 n10, .int .i64 n11, .string n12, .string n13, .int .i64 n14, .int .i64 n15, .int .i64 n16, .int .i64 n17, .slice a18 m18 c18, .int .i64 n19, .slice a20 m20 c20, .slice a21 m21 c21, .slice a22 m22 c22] 57)).alloc (.cells #[.string ⟨#[]⟩, .bool false] 80))) := Lib.hid (((Below.refl _ _).alloc (Nat.le_refl _) _).alloc (by simp) _)
  obtain ⟨M, hM1, hM2⟩ : ∃ M : Nat, 100000000000 ≤ M ∧ M ≤ 100000000000 := ⟨100000000000, Nat.le_refl _, Nat.le_refl _⟩
  have HO : Hid (SO ((w.alloc (.cells #[.bool false, .int .i64 n1, .int .i64 n2, .int .i64 n3, .int .i64 n4, .int .i64 n5, .int .i64 n6, .int .i64 n7, .int .i64 n8, .int .i64 n9, .int .i64 n10, .int .i64 n11, .string n12, .string n13, .int .i64 n14, .int .i64 n15, .int .i64 n16, .int .i64 n17, .slice a18 m18 c18, .int .i64 n19, .slice a20 m20 c20, .slice a21 m21 c21, .slice a22 m22 c22] 57)).alloc (.cells #[.string ⟨#[]⟩, .bool false] 80)) ((w.alloc (.cells #[.bool false, .int .i64 n1, .int .i64 n2, .int .i64 n3, .int .i64 n4, .int .i64 n5, .int .i64 n6, .int .i64 n7, .int .i64 n8, .int .i64 n9, .int .i64 n10, .int .i64 n11, .string n12, .string n13, .int .i64 n14, .int .i64 n15, .int .i64 n16, .int .i64 n17, .slice a18 m18 c18, .int .i64 n19, .slice a20 m20 c20, .slice a21 m21 c21, .slice a22 m22 c22] 57)).alloc (.cells #[.string ⟨#[]⟩, .bool false] 80)) (w.heap.size + 1) M w.heap.size 57 [.bool false, .int .i64 n1, .int .i64 n2, .int .i64 n3, .int .i64 n4, .int .i64 n5, .int .i64 n6, .int .i64 n7, .int .i64 n8, .int .i64 n9, .int .i64 n10, .int .i64 n11, .string n12, .string n13, .int .i64 n14, .int .i64 n15, .int .i64 n16, .int .i64 n17, .slice a18 m18 c18, .int .i64 n19, .slice a20 m20 c20, .slice a21 m21 c21, .slice a22 m22 c22] (some [])) := Lib.hid
    ⟨⟨⟨#[]⟩, by have := Bk.new (w.alloc (.cells #[.bool false, .int .i64 n1, .int .i64 n2, .int .i64 n3, .int .i64 n4, .int .i64 n5, .int .i64 n6, .int .i64 n7, .int .i64 n8, .int .i64 n9, .int .i64 n10, .int .i64 n11, .string n12, .string n13, .int .i64 n14, .int .i64 n15, .int .i64 n16, .int .i64 n17, .slice a18 m18 c18, .int .i64 n19, .slice a20 m20 c20, .slice a21 m21 c21, .slice a22 m22 c22] 57)) 80 [.string ⟨#[]⟩, .bool false]; rwa [World.size_alloc] at this, (fun e => by cases e), (fun xs e => by cases e; rfl)⟩, (Bk.new w 57 [.bool false, .int .i64 n1, .int .i64 n2, .int .i64 n3, .int .i64 n4, .int .i64 n5, .int .i64 n6, .int .i64 n7, .int .i64 n8, .int .i64 n9, .int .i64 n10, .int .i64 n11, .string n12, .string n13, .int .i64 n14, .int .i64 n15, .int .i64 n16, .int .i64 n17, .slice a18 m18 c18, .int .i64 n19, .slice a20 m20 c20, .slice a21 m21 c21, .slice a22 m22 c22]).old _, Fo.refl _ _, by omega⟩
  have HK : Hid (Sh 0 (some [])) := Lib.hid (by simp [Sh, stl])
  go_enter Try.func15, Try.ntmps15
  have k0 := HO.out.bx.cell 0
  simp only [List.getElem?_cons_zero, List.getElem?_cons_succ] at k0
  go_wp2_with fail
  generalize ((w.alloc (.cells #[.bool false, .int .i64 n1, .int .i64 n2, .int .i64 n3, .int .i64 n4, .int .i64 n5, .int .i64 n6, .int .i64 n7, .int .i64 n8, .int .i64 n9, .int .i64 n10, .int .i64 n11, .string n12, .string n13, .int .i64 n14, .int .i64 n15, .int .i64 n16, .int .i64 n17, .slice a18 m18 c18, .int .i64 n19, .slice a20 m20 c20, .slice a21 m21 c21, .slice a22 m22 c22] 57)).alloc (.cells #[.string ⟨#[]⟩, .bool false] 80)) = w0 at *
  refine (ro_num _ _ 0 _ _ HO.out.oo (Nat.le_trans (HK.out.max (by omega)) (by omega)) (by omega)).mono ?_
  rintro e w1 ⟨he, h1, h2⟩
  rw [he.out]
  have HO' := Lib.hid (HO.out.call h1 h2)
  have HK' := Lib.hid (HK.out.one (.num 0))
  clear he h1 h2 HO HK k0
  have HO := HO'
  have HK := HK'
  clear HO' HK'
  have k1 := HO.out.bx.cell 1
  simp only [List.getElem?_cons_zero, List.getElem?_cons_succ] at k1
  have k2 := HO.out.bx.cell 2
  simp only [List.getElem?_cons_zero, List.getElem?_cons_succ] at k2
  have k3 := HO.out.bx.cell 3
  simp only [List.getElem?_cons_zero, List.getElem?_cons_succ] at k3
  go_wp2_with fail
  refine (ro_id _ _ n1 n2 n3 _ _ _ HO.out.oo HK.out (by omega) (by omega)).mono ?_
  rintro e w2 ⟨he, h1, h2⟩
  rw [he.out]
  have HO' := Lib.hid (HO.out.call h1 h2)
  have HK' := Lib.hid (ShC.id _ _ (n1, n2, n3) HK.out)
  clear he h1 h2 HO HK k1 k2 k3
  have HO := HO'
  have HK := HK'
  clear HO' HK'
  have k4 := HO.out.bx.cell 4
  simp only [List.getElem?_cons_zero, List.getElem?_cons_succ] at k4
  have k5 := HO.out.bx.cell 5
  simp only [List.getElem?_cons_zero, List.getElem?_cons_succ] at k5
  have k6 := HO.out.bx.cell 6
  simp only [List.getElem?_cons_zero, List.getElem?_cons_succ] at k6
  have k7 := HO.out.bx.cell 7
  simp only [List.getElem?_cons_zero, List.getElem?_cons_succ] at k7
  have k8 := HO.out.bx.cell 8
  simp only [List.getElem?_cons_zero, List.getElem?_cons_succ] at k8
  have k9 := HO.out.bx.cell 9
  simp only [List.getElem?_cons_zero, List.getElem?_cons_succ] at k9
  have k10 := HO.out.bx.cell 10
  simp only [List.getElem?_cons_zero, List.getElem?_cons_succ] at k10
  have k11 := HO.out.bx.cell 11
  simp only [List.getElem?_cons_zero, List.getElem?_cons_succ] at k11
  have k12 := HO.out.bx.cell 12
  simp only [List.getElem?_cons_zero, List.getElem?_cons_succ] at k12
  have k13 := HO.out.bx.cell 13
  simp only [List.getElem?_cons_zero, List.getElem?_cons_succ] at k13
  have k14 := HO.out.bx.cell 14
  simp only [List.getElem?_cons_zero, List.getElem?_cons_succ] at k14
  have k15 := HO.out.bx.cell 15
  simp only [List.getElem?_cons_zero, List.getElem?_cons_succ] at k15
  have k16 := HO.out.bx.cell 16
  simp only [List.getElem?_cons_zero, List.getElem?_cons_succ] at k16
  have k17 := HO.out.bx.cell 17
  simp only [List.getElem?_cons_zero, List.getElem?_cons_succ] at k17
  have k18 := HO.out.bx.cell 18
  simp only [List.getElem?_cons_zero, List.getElem?_cons_succ] at k18
  go_wp2_with fail
  refine (ro_inst _ _ n4 n5 n6 n7 n8 n9 n10 n11 n12 n13 n14 n15 n16 n17 a18 m18 c18 rs18 l18 _ _ w _ HO.out.oo (HB0.out.trans (HO.out.ft.low (by omega) HB0.out.size)) (by omega) HK.out (by omega) (by omega) hz12 hz13 HR18.out).mono ?_
  rintro e w3 ⟨he, h1, h2⟩
  rw [he.out]
  have HO' := Lib.hid (HO.out.call h1 h2)
  have HK' := Lib.hid (ShC.ins _ _ (n4, (n5, n6), (n7, n8), (n9, n10, n11, n12, n13, n14, n15, n16), n17, l18) HK.out)
  clear he h1 h2 HO HK k4 k5 k6 k7 k8 k9 k10 k11 k12 k13 k14 k15 k16 k17 k18
  have HO := HO'
  have HK := HK'
  clear HO' HK'
  have HE : Hid (wrs (wrs (wr1 (some []) (.num 0)) (idC.fs (n1, n2, n3))) (inC.fs (n4, (n5, n6), (n7, n8), (n9, n10, n11, n12, n13, n14, n15, n16), n17, l18)) = wrs (some []) (rcFs (false, (n1, n2, n3), (n4, (n5, n6), (n7, n8), (n9, n10, n11, n12, n13, n14, n15, n16), n17, l18), (n19, l20), l21, l22))) := Lib.hid (by
    unfold rcFs
    simp only [rc0Fs, wrs_app, wrs_cons, if_true, if_false, Bool.false_eq_true, ite_false, ite_true])
  have HBf := Lib.hid (HB0.out.trans (HO.out.ft.low (by omega) HB0.out.size))
  have hG : rcGood (false, (n1, n2, n3), (n4, (n5, n6), (n7, n8), (n9, n10, n11, n12, n13, n14, n15, n16), n17, l18), (n19, l20), l21, l22) ↔ (noS (false, (n1, n2, n3), (n4, (n5, n6), (n7, n8), (n9, n10, n11, n12, n13, n14, n15, n16), n17, l18), (n19, l20), l21, l22)) ∧ Oks (rcFs (false, (n1, n2, n3), (n4, (n5, n6), (n7, n8), (n9, n10, n11, n12, n13, n14, n15, n16), n17, l18), (n19, l20), l21, l22)) := by unfold rcGood; simp
  have HG := Lib.hid hG
  clear hG
  obtain ⟨sk, hsk⟩ : ∃ z, wrs (wrs (wr1 (some []) (.num 0)) (idC.fs (n1, n2, n3))) (inC.fs (n4, (n5, n6), (n7, n8), (n9, n10, n11, n12, n13, n14, n15, n16), n17, l18)) = z := ⟨_, rfl⟩
  rw [hsk] at HO HE
  clear hsk HK
  have HP := Lib.hid HO.out.bx
  obtain ⟨s, hk, _, hx⟩ := HO.out.oo
  have HS := Lib.hid hk
  have HXs := Lib.hid hx
  have d0 := hk.cell 0
  have d1 := hk.cell 1
  have z1 := hk.fz 1
  simp only [List.getElem?_cons_zero, List.getElem?_cons_succ] at d0 d1
  have HNe := Lib.hid HO.out.ne
  clear hk hx HO
  obtain ⟨F, hF⟩ : ∃ F, rcFs (false, (n1, n2, n3), (n4, (n5, n6), (n7, n8), (n9, n10, n11, n12, n13, n14, n15, n16), n17, l18), (n19, l20), l21, l22) = F := ⟨_, rfl⟩
  have HF := Lib.hid hF
  rw [hF] at HE HG
  clear hF
  cases sk with
  | none =>
    simp only [Option.isNone_none] at d1
    go_wp2_with fail
    go_ret2
    exact ⟨HBf.out.setCell (by show _ ≤ w.heap.size + 1; omega) _, Or.inr ⟨(fun hh => by
      have h1 := wrs_ok _ [] (HG.out.1 hh).2
      rw [← HE.out] at h1
      cases h1), rfl⟩⟩
  | some ys =>
    simp only [Option.isNone_some] at d1
    have HOk : Hid (Oks F ∧ ys = eF F) := Lib.hid (by have h1 := wrs_some HE.out.symm; rwa [List.nil_append] at h1)
    have k19 := HP.out.cell 19
    simp only [List.getElem?_cons_zero, List.getElem?_cons_succ] at k19
    have k20 := HP.out.cell 20
    simp only [List.getElem?_cons_zero, List.getElem?_cons_succ] at k20
    have k21 := HP.out.cell 21
    simp only [List.getElem?_cons_zero, List.getElem?_cons_succ] at k21
    have k22 := HP.out.cell 22
    simp only [List.getElem?_cons_zero, List.getElem?_cons_succ] at k22
    have f20 : (m20 : Int) ≤ 9223372036854775807 := by omega
    have f21 : (m21 : Int) ≤ 9223372036854775807 := by omega
    have f22 : (m22 : Int) ≤ 9223372036854775807 := by omega
    have w1 : wrap64 ((m20 : Int) + (m21 : Int)) = (m20 : Int) + (m21 : Int) := IntWalk.wrap64_in _ (by omega)
    have w2 : wrap64 ((m20 : Int) + (m21 : Int) + (m22 : Int)) = (m20 : Int) + (m21 : Int) + (m22 : Int) := IntWalk.wrap64_in _ (by omega)
    have w1' : IntKind.i64.wrap ((m20 : Int) + (m21 : Int)) = (m20 : Int) + (m21 : Int) := IntWalk.i64_in _ (by omega)
    have w2' : IntKind.i64.wrap ((m20 : Int) + (m21 : Int) + (m22 : Int)) = (m20 : Int) + (m21 : Int) + (m22 : Int) := IntWalk.i64_in _ (by omega)
    by_cases p1 : n19 = 0
    rotate_left
    · have e1 : (n19 == 0) = false := beq_eq_false_iff_ne.2 p1
      have e1' : (n19 != 0) = true := by simp [p1]
      have HP1 := Lib.hid p1
      clear p1
      go_wp2_with fail
      go_ret2
      exact ⟨HBf.out.setCell (by show _ ≤ w.heap.size + 1; omega) _, Or.inr ⟨(fun hh => HP1.out (HG.out.1 hh).1.1), rfl⟩⟩
    have e1 : (n19 == 0) = true := by simp [p1]
    have e1' : (n19 != 0) = false := by simp [p1]
    have HP1 := Lib.hid p1
    clear p1
    by_cases p2 : m20 = 0 ∧ m21 = 0 ∧ m22 = 0
    rotate_left
    · have e2 : decide ((0 : Int) < (m20 : Int) + (m21 : Int) + (m22 : Int)) = true := decide_eq_true (by omega)
      have e2' : (0 : Int) < (m20 : Int) + (m21 : Int) + (m22 : Int) := by omega
      have HP2 := Lib.hid p2
      clear p2
      go_wp2_with fail
      go_ret2
      exact ⟨HBf.out.setCell (by show _ ≤ w.heap.size + 1; omega) _, Or.inr ⟨(fun hh => HP2.out (by have h1 := (HG.out.1 hh).1.2; rw [HQ20.out, HQ21.out, HQ22.out]; exact h1)), rfl⟩⟩
    have e2 : decide ((0 : Int) < (m20 : Int) + (m21 : Int) + (m22 : Int)) = false := decide_eq_false (by omega)
    have e2' : ¬ (0 : Int) < (m20 : Int) + (m21 : Int) + (m22 : Int) := by omega
    have HP2 := Lib.hid p2
    clear p2
    have hsx : s = txt (eF F) := eF_txt ((HXs.out ys rfl).trans HOk.out.2)
    rw [hsx] at d0
    clear hsx
    go_wp2_with fail
    go_ret2
    exact ⟨HBf.out.setCell (by show _ ≤ w.heap.size + 1; omega) _, Or.inl ⟨HG.out.2 ⟨⟨HP1.out, by have h1 := HP2.out; rw [HQ20.out, HQ21.out, HQ22.out] at h1; exact h1⟩, HOk.out.1⟩, Lib.hid (by rw [HF.out]; rfl)⟩⟩
end Go.Proofs.Ytllcmapgigfgoaa
namespace Go.Proofs.Ytllcmapgigfgoaa
open Go.RowKit
set_option linter.unusedSimpArgs false
set_option linter.unusedVariables false

theorem ro_put (v : Value) (x : Rec4) (w : World) (h : RecIs w v x) (hz : RchI x.2.2.1 x.2.2.2) (hzl : RchL x.2.2.2) : Calls Try.prog 15 #[v] w (MsR x w) := by
  cases q : x.1 with
  | true => exact ro_put1 v x w h q hz hzl
  | false => exact ro_put0 v x w h q hz hzl
end Go.Proofs.Ytllcmapgigfgoaa
namespace Go.Proofs.Ytllcmapgigfgoaa
open Go.ChangeShapes Go.WideShapes Go.ChangeAt Go.RowKit Go.Joins Go.Deep
set_option linter.unusedSimpArgs false
set_option linter.unusedVariables false
set_option maxRecDepth 100000

theorem opensR_rowL {P : Program} {s : TypeId} {k : Nat} (K : Knd P (Cls k)) (hK : K.k = k) (hE : K.enc = Cls.cs) (hS : K.S = s) {α : Type} {S : Shp α} {R : α → Prop} (hC : P.cellsOf K.T = k) (hBy : 1 ≤ P.bytesOf K.T) (h : OpensR P K.T S R) : OpensR P s (rowS K S) (fun l => (∀ x ∈ l, R x) ∧ l.length ≤ 140737488355328) := .mk @fun H enc w base spare held fuel cs y hy hw => by
  rcases open_slice (hS ▸ K.und) hy with ⟨rfl, _⟩ | ⟨a, len, cap, m, n, D, Pl, rfl, hb, hl, hm, hmm, hyy, hi⟩
  · exact ⟨[], ⟨_, [], rfl, Knd.Rd.nil _, rfl, fun j h1 => by simp at h1⟩, (fun x hx => by simp at hx), Nat.zero_le _⟩
  · have hlen : len ≤ 140737488355328 := by
      have h1 := hw ((((List.range len).map D).length + ((List.range (m - len)).map fun j => D (len + j)).length) * P.bytesOf K.T) (by
        subst hyy
        simp only [DataW.weights, hS ▸ K.und]
        exact List.mem_cons_self ..)
      have h2 := reachBytes_lt
      rw [List.length_map, List.length_range] at h1
      have h3 : len * 1 ≤ (len + ((List.range (m - len)).map fun j => D (len + j)).length) * P.bytesOf K.T := Nat.mul_le_mul (Nat.le_add_right _ _) hBy
      omega
    have hlm : len ≤ m := by rw [hmm]; split <;> omega
    have key : ∀ i, i < len → ∃ t : Cls k × α, (∀ j u, t.1.cs[j]? = some u → w.cell? ((a.add (i * k)).add j) = some u) ∧ (S.is w t.1.cs t.2 ∧ R t.2) := by
      intro i hil
      obtain ⟨cs', hc, ht'⟩ := hi i (by omega)
      rw [hC] at hc
      obtain ⟨_, hcl, hat⟩ := World.cells?_some hc
      obtain ⟨x, hx, hr⟩ := h.go _ _ _ ht' (fun n hn => hw n (by
        subst hyy
        simp only [DataW.weights, hS ▸ K.und]
        refine List.mem_cons_of_mem _ (List.mem_append_left _ (weights_all hn _ (List.mem_map.2 ⟨i, List.mem_range.2 hil, rfl⟩)))))
      refine ⟨(⟨cs', hcl, S.one hx⟩, x), fun j u hu => ?_, hx, hr⟩
      have hj : j < k := by have h1 : j < cs'.length := (List.getElem?_eq_some_iff.1 hu).1; rw [hcl] at h1; exact h1
      exact (hat j hj).trans hu
    obtain ⟨ts, hts, hp⟩ := list_ofR len key
    subst hts
    refine ⟨ts.map (·.2), ⟨_, ts.map (·.1), rfl, ⟨some a, cap, by rw [List.length_map], by rw [List.length_map]; exact Nat.le_trans hl hm, (fun q => by cases q), ?_⟩, by simp, fun j h1 h2 => ?_⟩, ⟨fun x hx => ?_, by rw [List.length_map]; exact hlen⟩⟩
    · by_cases h0 : ts = []
      · left; rw [h0]; rfl
      · right
        have hpos : 0 < ts.length := List.length_pos_iff.2 h0
        have hk := K.pos
        rw [hK] at hk
        obtain ⟨b, off, spot⟩ := a
        have hc0 := (hp 0 hpos).1 0 (ts[0].1.cs[0]'(by rw [ts[0].1.len]; exact hk)) (List.getElem?_eq_getElem _)
        have hspot : spot = none := by simpa [Addr.add] using World.cell?_spot hc0
        subst hspot
        refine ⟨b, off, rfl, ?_, fun t u hu => ?_⟩
        · by_cases g : b < w.heap.size
          · exact g
          · exfalso
            have e : w.heap[b]? = none := by simp; omega
            simp [World.cell?, Addr.add, e] at hc0
        · have ht : t < (K.row (ts.map (·.1))).length := (List.getElem?_eq_some_iff.1 hu).1
          rw [K.row_flat _ t ht] at hu
          rw [K.row_len, List.length_map, hK] at ht
          rw [hE, hK] at hu
          have hil : t / k < ts.length := by rw [Nat.div_lt_iff_lt_mul hk]; exact ht
          have e1 : (ts.map (·.1)).getD (t / k) K.d = ts[t / k].1 := by simp [List.getD, hil]
          rw [e1] at hu
          have h1 := (hp (t / k) hil).1 (t % k) u hu
          rw [Go.Deep.add_add] at h1
          have hdm : t / k * k + t % k = t := by rw [Nat.mul_comm]; exact Nat.div_add_mod t k
          rw [hdm] at h1
          by_cases h0 : t = 0
          · subst h0; simpa [Addr.add] using h1
          · simpa [Addr.add, h0] using h1
    · have h1' : j < ts.length := by simpa using h1
      simpa using (hp j h1').2.1
    · obtain ⟨q, hq, rfl⟩ := List.mem_map.1 hx
      obtain ⟨j, hj, rfl⟩ := List.getElem_of_mem hq
      exact (hp j hj).2.2
theorem opensR_snL : OpensR Try.prog 42 snS (fun x => Rch x.2.1 x.2.2 ∧ RchL x) :=
  (opensR_struct (P := Try.prog) (S := snS) Try.underlying42 (n := 4) (by kernel_rfl) (opensFR_cons _ rfl rfl (k := 2) (by kernel_rfl) (OpensR.weak (opensR_struct (P := Try.prog) (S := cfS) Try.underlying38 (n := 2) (by kernel_rfl) (opensFR_cons _ rfl rfl (k := 1) (by kernel_rfl) (.of (opens_num Try.underlying3)) (opensFR_last _ rfl rfl (k := 1) (by kernel_rfl) rfl (opensR_rowL KN rfl rfl rfl (by kernel_rfl) (by decide +kernel) (.of (opens_num Try.underlying3)))))) (fun _ h => h)) (opensFR_cons _ rfl rfl (k := 1) (by kernel_rfl) (opensR_rowL KE rfl rfl rfl (by kernel_rfl) (by decide +kernel) opensR_en) (opensFR_last _ rfl rfl (k := 1) (by kernel_rfl) rfl (opensR_rowL KZ rfl rfl rfl (by kernel_rfl) (by decide +kernel) opensR_se))))).weak (fun x h => ⟨⟨fun y hy => ⟨(h.2.1.1 y hy).1, (h.2.1.1 y hy).2.1⟩, fun y hy => ⟨(h.2.2.1 y hy).2.2.2.1, (h.2.2.1 y hy).2.2.2.2.2⟩⟩, ⟨h.1.2.2, h.2.1.2, h.2.2.2⟩⟩)
theorem opensR_rcL : OpensR Try.prog 46 rcS (fun x => RchI x.2.2.1 x.2.2.2 ∧ RchL x.2.2.2) :=
  (opensR_struct (P := Try.prog) (S := rcS) Try.underlying46 (n := 23) (by kernel_rfl) (opensFR_cons _ rfl rfl (k := 1) (by kernel_rfl) (.of (opens_bool Try.underlying4)) (opensFR_cons _ rfl rfl (k := 3) (by kernel_rfl) (.of opens_id) (opensFR_cons _ rfl rfl (k := 15) (by kernel_rfl) opensR_in (opensFR_last _ rfl rfl (k := 4) (by kernel_rfl) rfl opensR_snL))))).weak (fun x h => ⟨⟨h.2.2.1.1, h.2.2.1.2, h.2.2.2.1⟩, h.2.2.2.2⟩)
theorem rec_of_argL {H : Type} {enc : TypeId × Value → H} {w : World} {r : Reach} {b0 base : Nat} {spare : Nat → Bool} {held : Bool} {v : Value} {d : DataW H} {p : List MemPlace}
    (hv : Value.okWide Try.prog w r b0 46 v) (h : DataW.Trod enc Try.prog w base spare held 46 v d p) (hw : ∀ n ∈ d.weights Try.prog 46, n ≤ reachBytes) : ∃ x : Bool × Id3 × Ins × Snp, RecIs w v x ∧ RchI x.2.2.1 x.2.2.2 ∧ RchL x.2.2.2 := by
  obtain ⟨cs, rfl, hsz⟩ := okWide_struct Try.underlying46 hv
  obtain ⟨fuel, hf⟩ := h
  obtain ⟨x, hx, hr⟩ := opensR_rcL.go fuel _ _ hf hw
  exact ⟨x, ⟨cs, rfl, by simpa [Value.cells] using hx⟩, hr⟩
end Go.Proofs.Ytllcmapgigfgoaa
