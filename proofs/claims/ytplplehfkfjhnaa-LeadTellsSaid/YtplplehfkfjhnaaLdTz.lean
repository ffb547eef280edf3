/-
  Texts put together: LdEq, LdTa, LdTb.
-/
import Derived.Test.YtplplehfkfjhnaaLdH
import Derived.Test.YtplplehfkfjhnaaLdL
import Derived.Test.YtplplehfkfjhnaaLdMz
import Derived.Test.YtplplehfkfjhnaaLdN
namespace Go.Proofs.Ytplplehfkfjhnaa
open Go.RowKit
open Bb (quoN thN allB)
set_option linter.unusedSimpArgs false
set_option linter.unusedVariables false
set_option maxRecDepth 100000

theorem eqC_self (a b c : Int) (d e : ByteArray) (f g h : Int) : (∀ w, Sem.run Try.prog (binOp .eql 33 (.agg #[.int .i64 a, .int .i64 b, .int .i64 c, .string d, .string e, .int .i64 f, .int .i64 g, .int .i64 h]) (.agg #[.int .i64 a, .int .i64 b, .int .i64 c, .string d, .string e, .int .i64 f, .int .i64 g, .int .i64 h])) w = .ok (.bool true) w) ∧ (∀ w, Sem.run Try.prog (binOp .neq 33 (.agg #[.int .i64 a, .int .i64 b, .int .i64 c, .string d, .string e, .int .i64 f, .int .i64 g, .int .i64 h]) (.agg #[.int .i64 a, .int .i64 b, .int .i64 c, .string d, .string e, .int .i64 f, .int .i64 g, .int .i64 h])) w = .ok (.bool false) w) ∧
    (∀ op x y w, Sem.run Try.prog (eqGuard op 33 x y (.agg #[.int .i64 a, .int .i64 b, .int .i64 c, .string d, .string e, .int .i64 f, .int .i64 g, .int .i64 h]) (.agg #[.int .i64 a, .int .i64 b, .int .i64 c, .string d, .string e, .int .i64 f, .int .i64 g, .int .i64 h])) w = .ok () w) := by
  have hq : ∀ w, Sem.run Try.prog (binOp .eql 33 (.agg #[.int .i64 a, .int .i64 b, .int .i64 c, .string d, .string e, .int .i64 f, .int .i64 g, .int .i64 h]) (.agg #[.int .i64 a, .int .i64 b, .int .i64 c, .string d, .string e, .int .i64 f, .int .i64 g, .int .i64 h])) w = .ok (.bool true) w := by
    intro w
    have u3 := Try.underlying9
    have a3 := Try.isAgg9
    have z3 := Try.sizeOf9
    have u4 := Try.underlying3
    have a4 := Try.isAgg3
    have z4 := Try.sizeOf3
    have u5 := Try.underlying31
    have a5 := Try.isAgg31
    have z5 := Try.sizeOf31
    have hS : Try.prog.underlying 33 = some (.struct (Try.prog.fieldsOf 33)) := by kernel_rfl
    have hp : Try.prog.stoodInHeld 33 = false := by kernel_rfl
    rw [run_eql_struct, show (10000 : Nat) = 9999 + 1 from rfl, run_equalIn_agg w 9999 33 _ _ hS hp]
    simp only [Program.fieldsOf, Try.underlying33]
    go_simp
    try simp
  refine ⟨hq, fun w => ?_, fun op x y w => run_eqGuard_agg w op 33 x y _ _ (by kernel_rfl)⟩
  have h := hq w
  rw [run_eql_struct] at h
  rw [run_neq_struct]
  revert h
  generalize Sem.run Try.prog (Op.equalIn 10000 33 (.agg #[.int .i64 a, .int .i64 b, .int .i64 c, .string d, .string e, .int .i64 f, .int .i64 g, .int .i64 h]) (.agg #[.int .i64 a, .int .i64 b, .int .i64 c, .string d, .string e, .int .i64 f, .int .i64 g, .int .i64 h])) w = r
  intro h
  cases r with
  | ok v w' => simp [Result.andThen] at h ⊢; simp [h]
  | halt x w' => simp [Result.andThen] at h
end Go.Proofs.Ytplplehfkfjhnaa
namespace Go.Proofs.Ytplplehfkfjhnaa
open Go.RowKit
open Bb (quoN thN allB)
set_option linter.unusedSimpArgs false
set_option linter.unusedVariables false
set_option maxRecDepth 100000

set_option maxHeartbeats 4000000 in
theorem eqC_ex (x0 x1 x2 : Int) (x3 x4 : ByteArray) (x5 x6 x7 y0 y1 y2 : Int) (y3 y4 : ByteArray) (y5 y6 y7 : Int) : ∃ b : Bool, ∀ w, Sem.run Try.prog (binOp .eql 33 (.agg #[.int .i64 x0, .int .i64 x1, .int .i64 x2, .string x3, .string x4, .int .i64 x5, .int .i64 x6, .int .i64 x7]) (.agg #[.int .i64 y0, .int .i64 y1, .int .i64 y2, .string y3, .string y4, .int .i64 y5, .int .i64 y6, .int .i64 y7])) w = .ok (.bool b) w := by
  by_cases h0 : x0 = y0
  rotate_left
  · refine ⟨false, fun w => ?_⟩
    have u3 := Try.underlying9
    have a3 := Try.isAgg9
    have z3 := Try.sizeOf9
    have u4 := Try.underlying3
    have a4 := Try.isAgg3
    have z4 := Try.sizeOf3
    have u5 := Try.underlying31
    have a5 := Try.isAgg31
    have z5 := Try.sizeOf31
    have hS : Try.prog.underlying 33 = some (.struct (Try.prog.fieldsOf 33)) := by kernel_rfl
    have hp : Try.prog.stoodInHeld 33 = false := by kernel_rfl
    rw [run_eql_struct, show (10000 : Nat) = 9999 + 1 from rfl, run_equalIn_agg w 9999 33 _ _ hS hp]
    simp only [Program.fieldsOf, Try.underlying33]
    go_simp
    try simp [h0]
  subst h0
  by_cases h1 : x1 = y1
  rotate_left
  · refine ⟨false, fun w => ?_⟩
    have u3 := Try.underlying9
    have a3 := Try.isAgg9
    have z3 := Try.sizeOf9
    have u4 := Try.underlying3
    have a4 := Try.isAgg3
    have z4 := Try.sizeOf3
    have u5 := Try.underlying31
    have a5 := Try.isAgg31
    have z5 := Try.sizeOf31
    have hS : Try.prog.underlying 33 = some (.struct (Try.prog.fieldsOf 33)) := by kernel_rfl
    have hp : Try.prog.stoodInHeld 33 = false := by kernel_rfl
    rw [run_eql_struct, show (10000 : Nat) = 9999 + 1 from rfl, run_equalIn_agg w 9999 33 _ _ hS hp]
    simp only [Program.fieldsOf, Try.underlying33]
    go_simp
    try simp [h1]
  subst h1
  by_cases h2 : x2 = y2
  rotate_left
  · refine ⟨false, fun w => ?_⟩
    have u3 := Try.underlying9
    have a3 := Try.isAgg9
    have z3 := Try.sizeOf9
    have u4 := Try.underlying3
    have a4 := Try.isAgg3
    have z4 := Try.sizeOf3
    have u5 := Try.underlying31
    have a5 := Try.isAgg31
    have z5 := Try.sizeOf31
    have hS : Try.prog.underlying 33 = some (.struct (Try.prog.fieldsOf 33)) := by kernel_rfl
    have hp : Try.prog.stoodInHeld 33 = false := by kernel_rfl
    rw [run_eql_struct, show (10000 : Nat) = 9999 + 1 from rfl, run_equalIn_agg w 9999 33 _ _ hS hp]
    simp only [Program.fieldsOf, Try.underlying33]
    go_simp
    try simp [h2]
  subst h2
  by_cases h3 : x3 = y3
  rotate_left
  · refine ⟨false, fun w => ?_⟩
    have q : x3.toList ≠ y3.toList := by
      intro e
      rw [ByteArray.toList_eq, ByteArray.toList_eq] at e
      exact h3 (ByteArray.ext (by simpa using e))
    have u3 := Try.underlying9
    have a3 := Try.isAgg9
    have z3 := Try.sizeOf9
    have u4 := Try.underlying3
    have a4 := Try.isAgg3
    have z4 := Try.sizeOf3
    have u5 := Try.underlying31
    have a5 := Try.isAgg31
    have z5 := Try.sizeOf31
    have hS : Try.prog.underlying 33 = some (.struct (Try.prog.fieldsOf 33)) := by kernel_rfl
    have hp : Try.prog.stoodInHeld 33 = false := by kernel_rfl
    rw [run_eql_struct, show (10000 : Nat) = 9999 + 1 from rfl, run_equalIn_agg w 9999 33 _ _ hS hp]
    simp only [Program.fieldsOf, Try.underlying33]
    go_simp
    try simp [h3, q]
  subst h3
  by_cases h4 : x4 = y4
  rotate_left
  · refine ⟨false, fun w => ?_⟩
    have q : x4.toList ≠ y4.toList := by
      intro e
      rw [ByteArray.toList_eq, ByteArray.toList_eq] at e
      exact h4 (ByteArray.ext (by simpa using e))
    have u3 := Try.underlying9
    have a3 := Try.isAgg9
    have z3 := Try.sizeOf9
    have u4 := Try.underlying3
    have a4 := Try.isAgg3
    have z4 := Try.sizeOf3
    have u5 := Try.underlying31
    have a5 := Try.isAgg31
    have z5 := Try.sizeOf31
    have hS : Try.prog.underlying 33 = some (.struct (Try.prog.fieldsOf 33)) := by kernel_rfl
    have hp : Try.prog.stoodInHeld 33 = false := by kernel_rfl
    rw [run_eql_struct, show (10000 : Nat) = 9999 + 1 from rfl, run_equalIn_agg w 9999 33 _ _ hS hp]
    simp only [Program.fieldsOf, Try.underlying33]
    go_simp
    try simp [h4, q]
  subst h4
  by_cases h5 : x5 = y5
  rotate_left
  · refine ⟨false, fun w => ?_⟩
    have u3 := Try.underlying9
    have a3 := Try.isAgg9
    have z3 := Try.sizeOf9
    have u4 := Try.underlying3
    have a4 := Try.isAgg3
    have z4 := Try.sizeOf3
    have u5 := Try.underlying31
    have a5 := Try.isAgg31
    have z5 := Try.sizeOf31
    have hS : Try.prog.underlying 33 = some (.struct (Try.prog.fieldsOf 33)) := by kernel_rfl
    have hp : Try.prog.stoodInHeld 33 = false := by kernel_rfl
    rw [run_eql_struct, show (10000 : Nat) = 9999 + 1 from rfl, run_equalIn_agg w 9999 33 _ _ hS hp]
    simp only [Program.fieldsOf, Try.underlying33]
    go_simp
    try simp [h5]
  subst h5
  by_cases h6 : x6 = y6
  rotate_left
  · refine ⟨false, fun w => ?_⟩
    have u3 := Try.underlying9
    have a3 := Try.isAgg9
    have z3 := Try.sizeOf9
    have u4 := Try.underlying3
    have a4 := Try.isAgg3
    have z4 := Try.sizeOf3
    have u5 := Try.underlying31
    have a5 := Try.isAgg31
    have z5 := Try.sizeOf31
    have hS : Try.prog.underlying 33 = some (.struct (Try.prog.fieldsOf 33)) := by kernel_rfl
    have hp : Try.prog.stoodInHeld 33 = false := by kernel_rfl
    rw [run_eql_struct, show (10000 : Nat) = 9999 + 1 from rfl, run_equalIn_agg w 9999 33 _ _ hS hp]
    simp only [Program.fieldsOf, Try.underlying33]
    go_simp
    try simp [h6]
  subst h6
  by_cases h7 : x7 = y7
  rotate_left
  · refine ⟨false, fun w => ?_⟩
    have u3 := Try.underlying9
    have a3 := Try.isAgg9
    have z3 := Try.sizeOf9
    have u4 := Try.underlying3
    have a4 := Try.isAgg3
    have z4 := Try.sizeOf3
    have u5 := Try.underlying31
    have a5 := Try.isAgg31
    have z5 := Try.sizeOf31
    have hS : Try.prog.underlying 33 = some (.struct (Try.prog.fieldsOf 33)) := by kernel_rfl
    have hp : Try.prog.stoodInHeld 33 = false := by kernel_rfl
    rw [run_eql_struct, show (10000 : Nat) = 9999 + 1 from rfl, run_equalIn_agg w 9999 33 _ _ hS hp]
    simp only [Program.fieldsOf, Try.underlying33]
    go_simp
    try simp [h7]
  subst h7
  exact ⟨true, (eqC_self x0 x1 x2 x3 x4 x5 x6 x7).1⟩
theorem neC_ex (x0 x1 x2 : Int) (x3 x4 : ByteArray) (x5 x6 x7 y0 y1 y2 : Int) (y3 y4 : ByteArray) (y5 y6 y7 : Int) : ∃ b : Bool, (∀ w, Sem.run Try.prog (binOp .neq 33 (.agg #[.int .i64 x0, .int .i64 x1, .int .i64 x2, .string x3, .string x4, .int .i64 x5, .int .i64 x6, .int .i64 x7]) (.agg #[.int .i64 y0, .int .i64 y1, .int .i64 y2, .string y3, .string y4, .int .i64 y5, .int .i64 y6, .int .i64 y7])) w = .ok (.bool b) w) ∧ (∀ op x y w, Sem.run Try.prog (eqGuard op 33 x y (.agg #[.int .i64 x0, .int .i64 x1, .int .i64 x2, .string x3, .string x4, .int .i64 x5, .int .i64 x6, .int .i64 x7]) (.agg #[.int .i64 y0, .int .i64 y1, .int .i64 y2, .string y3, .string y4, .int .i64 y5, .int .i64 y6, .int .i64 y7])) w = .ok () w) := by
  obtain ⟨b, hb⟩ := eqC_ex x0 x1 x2 x3 x4 x5 x6 x7 y0 y1 y2 y3 y4 y5 y6 y7
  refine ⟨!b, fun w => ?_, fun op x y w => run_eqGuard_agg w op 33 x y _ _ (by kernel_rfl)⟩
  have h := hb w
  rw [run_eql_struct] at h
  rw [run_neq_struct]
  revert h
  generalize Sem.run Try.prog (Op.equalIn 10000 33 (.agg #[.int .i64 x0, .int .i64 x1, .int .i64 x2, .string x3, .string x4, .int .i64 x5, .int .i64 x6, .int .i64 x7]) (.agg #[.int .i64 y0, .int .i64 y1, .int .i64 y2, .string y3, .string y4, .int .i64 y5, .int .i64 y6, .int .i64 y7])) w = r
  intro h
  cases r with
  | ok v w' => simp [Result.andThen] at h ⊢; simp [h]
  | halt x w' => simp [Result.andThen] at h
def AnP (w : World) (e : Ending) (w' : World) : Prop := ∃ R : Bool, Hid (e = .returned (.bool R)) ∧ Below w.heap.size w w'
set_option maxHeartbeats 16000000 in
theorem alike1_any {w : World} {B g c : Nat} {L : LSt} (h : LdAt w B g L) (hne : L.heard ≠ []) (hx : LBox w c g) (x : Ist) (ua : Option Addr) (ma ca : Nat) :
    Calls Try.prog 65 #[.agg (inE x (.slice ua ma ca)).toArray, .pointer (some ⟨c, 0, none⟩)] w (AnP w) := by
  obtain ⟨Bw, vn, vd, vw, vh, hV⟩ := h
  obtain ⟨ah, ch, eh⟩ := hV.heard.slice
  have hH := hV.heard
  obtain ⟨nh, hnh⟩ : ∃ nh, L.heard.length = nh := ⟨_, rfl⟩
  have hn0 : 0 < nh := by rw [← hnh]; exact List.length_pos_iff.2 hne
  rw [hnh] at eh
  subst eh
  obtain ⟨-, hl0, b, u, rfl, hb, hu, hok, hc⟩ := hH.el (Below.refl _ _) 0 hn0
  obtain ⟨ub, cb, hue⟩ := hu.slice
  obtain ⟨y, hy⟩ : ∃ y, L.heard[0] = y := ⟨_, rfl⟩
  rw [hy] at hc hue
  obtain ⟨m0, ⟨m1, m2⟩, ⟨m3, m4⟩, ⟨m5, m6, m7, m8, m9, m10, m11, m12⟩, m13, m14⟩ := y
  obtain ⟨mb, hmb⟩ : ∃ d, m14.length = d := ⟨_, rfl⟩
  simp only [hmb] at hue
  subst hue
  obtain ⟨n0, ⟨n1, n2⟩, ⟨n3, n4⟩, ⟨n5, n6, n7, n8, n9, n10, n11, n12⟩, n13, n14⟩ := x
  simp only [inE]
  obtain ⟨X, hX⟩ : ∃ X, w.alloc (.cells #[.int .i64 n0, .int .i64 n1, .int .i64 n2, .int .i64 n3, .int .i64 n4, .int .i64 n5, .int .i64 n6, .int .i64 n7, .string n8, .string n9, .int .i64 n10, .int .i64 n11, .int .i64 n12, .int .i64 n13, .slice ua ma ca] 38) = X := ⟨_, rfl⟩
  have HX : Hid (Below w.heap.size w X) := Lib.hid (by rw [← hX]; exact al1 w _)
  have HN : Hid (Bk X w.heap.size 38 [.int .i64 n0, .int .i64 n1, .int .i64 n2, .int .i64 n3, .int .i64 n4, .int .i64 n5, .int .i64 n6, .int .i64 n7, .string n8, .string n9, .int .i64 n10, .int .i64 n11, .int .i64 n12, .int .i64 n13, .slice ua ma ca]) := Lib.hid (by rw [← hX]; exact Bk.new w _ [.int .i64 n0, .int .i64 n1, .int .i64 n2, .int .i64 n3, .int .i64 n4, .int .i64 n5, .int .i64 n6, .int .i64 n7, .string n8, .string n9, .int .i64 n10, .int .i64 n11, .int .i64 n12, .int .i64 n13, .slice ua ma ca])
  have HV := Lib.hid (hV.below HX.out)
  have HBx : Hid (LBox X c g) := Lib.hid (hx.below HX.out)
  have HM : Hid (∀ j v, (inE ⟨m0, (m1, m2), (m3, m4), ⟨m5, m6, m7, m8, m9, m10, m11, m12⟩, (m13, m14)⟩ (.slice ub mb cb))[j]? = some v → X.cell? ⟨b, 0 * 15 + j, none⟩ = some v) := Lib.hid fun j v hv => (HX.out.cell (p := ⟨b, 0 * 15 + j, none⟩) hb).trans (hc j v hv)
  have HbX : Hid (b < X.heap.size) := Lib.hid (Nat.lt_of_lt_of_le hb HX.out.size)
  have HC : Hid (∀ w' : World, Below X.heap.size X w' → Below X.heap.size X w' ∧ w'.cell? ⟨w.heap.size, 0, none⟩ = some (.int .i64 n0) ∧ w'.cell? ⟨w.heap.size, 3, none⟩ = some (.int .i64 n3) ∧ w'.cell? ⟨w.heap.size, 4, none⟩ = some (.int .i64 n4) ∧ w'.cell? ⟨w.heap.size, 5, none⟩ = some (.int .i64 n5) ∧ w'.cell? ⟨w.heap.size, 6, none⟩ = some (.int .i64 n6) ∧ w'.cell? ⟨w.heap.size, 7, none⟩ = some (.int .i64 n7) ∧ w'.cell? ⟨w.heap.size, 8, none⟩ = some (.string n8) ∧ w'.cell? ⟨w.heap.size, 9, none⟩ = some (.string n9) ∧ w'.cell? ⟨w.heap.size, 10, none⟩ = some (.int .i64 n10) ∧ w'.cell? ⟨w.heap.size, 11, none⟩ = some (.int .i64 n11) ∧ w'.cell? ⟨w.heap.size, 12, none⟩ = some (.int .i64 n12) ∧ w'.cell? ⟨c, 0, none⟩ = some (gP g) ∧ w'.cell? ⟨g, 3, none⟩ = some (.int .i64 L.id.1) ∧ w'.cell? ⟨g, 4, none⟩ = some (.int .i64 L.id.2.1) ∧ w'.cell? ⟨g, 5, none⟩ = some (.int .i64 L.id.2.2) ∧ w'.cell? ⟨g, 23, none⟩ = some (.slice (some ⟨b, 0, none⟩) nh ch) ∧ w'.cell? ⟨b, 5, none⟩ = some (.int .i64 m5) ∧ w'.cell? ⟨b, 6, none⟩ = some (.int .i64 m6) ∧ w'.cell? ⟨b, 7, none⟩ = some (.int .i64 m7) ∧ w'.cell? ⟨b, 8, none⟩ = some (.string m8) ∧ w'.cell? ⟨b, 9, none⟩ = some (.string m9) ∧ w'.cell? ⟨b, 10, none⟩ = some (.int .i64 m10) ∧ w'.cell? ⟨b, 11, none⟩ = some (.int .i64 m11) ∧ w'.cell? ⟨b, 12, none⟩ = some (.int .i64 m12)) := Lib.hid fun w' hb' => by
    have q1 := HN.out.below hb'
    have q2 := HBx.out.below hb'
    have q3 := HV.out.below hb'
    have q4 : ∀ j v, (inE ⟨m0, (m1, m2), (m3, m4), ⟨m5, m6, m7, m8, m9, m10, m11, m12⟩, (m13, m14)⟩ (.slice ub mb cb))[j]? = some v → w'.cell? ⟨b, j, none⟩ = some v := fun j v hv => by
      have h1 := (hb'.cell (p := ⟨b, 0 * 15 + j, none⟩) HbX.out).trans (HM.out j v hv)
      simpa using h1
    exact ⟨hb', q1.cell 0, q1.cell 3, q1.cell 4, q1.cell 5, q1.cell 6, q1.cell 7, q1.cell 8, q1.cell 9, q1.cell 10, q1.cell 11, q1.cell 12, q2.cell 0, q3.cell 3, q3.cell 4, q3.cell 5, q3.cell 23, q4 5 _ rfl, q4 6 _ rfl, q4 7 _ rfl, q4 8 _ rfl, q4 9 _ rfl, q4 10 _ rfl, q4 11 _ rfl, q4 12 _ rfl⟩
  obtain ⟨eb, hgb⟩ := neB_run n3 n4 0 L.id.2.1
  obtain ⟨R, ec, hgc⟩ := neC_ex n5 n6 n7 n8 n9 n10 n11 n12 m5 m6 m7 m8 m9 m10 m11 m12
  obtain ⟨D, hD⟩ : ∃ D, (!decide (((n3, n4) : Bal) = (0, L.id.2.1))) = D := ⟨_, rfl⟩
  rw [hD] at eb
  clear hD hH hc hu hok hy hmb hV hx hnh hb
  go_enter Try.func65, Try.ntmps65
  go_wp2_with fail
  try rw [hX]
  clear hX
  by_cases q : n0 = 1
  · have q1 : (n0 != 1) = false := by simp [q]
    have q2 : decide (n0 = 1) = true := decide_eq_true q
    cases D with
    | true =>
      refine wp_region_held_drew (S := (fun w' => Below X.heap.size X w' ∧ w'.cell? ⟨w.heap.size, 0, none⟩ = some (.int .i64 n0) ∧ w'.cell? ⟨w.heap.size, 3, none⟩ = some (.int .i64 n3) ∧ w'.cell? ⟨w.heap.size, 4, none⟩ = some (.int .i64 n4) ∧ w'.cell? ⟨w.heap.size, 5, none⟩ = some (.int .i64 n5) ∧ w'.cell? ⟨w.heap.size, 6, none⟩ = some (.int .i64 n6) ∧ w'.cell? ⟨w.heap.size, 7, none⟩ = some (.int .i64 n7) ∧ w'.cell? ⟨w.heap.size, 8, none⟩ = some (.string n8) ∧ w'.cell? ⟨w.heap.size, 9, none⟩ = some (.string n9) ∧ w'.cell? ⟨w.heap.size, 10, none⟩ = some (.int .i64 n10) ∧ w'.cell? ⟨w.heap.size, 11, none⟩ = some (.int .i64 n11) ∧ w'.cell? ⟨w.heap.size, 12, none⟩ = some (.int .i64 n12) ∧ w'.cell? ⟨c, 0, none⟩ = some (gP g) ∧ w'.cell? ⟨g, 3, none⟩ = some (.int .i64 L.id.1) ∧ w'.cell? ⟨g, 4, none⟩ = some (.int .i64 L.id.2.1) ∧ w'.cell? ⟨g, 5, none⟩ = some (.int .i64 L.id.2.2) ∧ w'.cell? ⟨g, 23, none⟩ = some (.slice (some ⟨b, 0, none⟩) nh ch) ∧ w'.cell? ⟨b, 5, none⟩ = some (.int .i64 m5) ∧ w'.cell? ⟨b, 6, none⟩ = some (.int .i64 m6) ∧ w'.cell? ⟨b, 7, none⟩ = some (.int .i64 m7) ∧ w'.cell? ⟨b, 8, none⟩ = some (.string m8) ∧ w'.cell? ⟨b, 9, none⟩ = some (.string m9) ∧ w'.cell? ⟨b, 10, none⟩ = some (.int .i64 m10) ∧ w'.cell? ⟨b, 11, none⟩ = some (.int .i64 m11) ∧ w'.cell? ⟨b, 12, none⟩ = some (.int .i64 m12))) (by kernel_rfl) ?_ (fun hHeld => ?_)
      · (first
        | exact HC.out _ hs1
        | exact HC.out _ (Below.refl _ _).drew
        | exact HC.out _ (Below.refl _ _)
        | fail)
      refine wpAnyH_take (i := 0) (v := ?_) rfl (by kernel_rfl) (by kernel_rfl) (by kernel_rfl) (fun _ _ _ h => h) (Or.inl ⟨by rfl, ?_⟩) (by assumption) ?_
      rotate_left
      · (intro w hSw; (try dsimp only at hSw); go_simp; try rfl)
      try simp only [Act.put, List.setIfInBounds_toArray, List.set_cons_zero, List.set_cons_succ, List.getElem_toArray, List.getElem_cons_zero, List.getElem_cons_succ]
      refine wpAnyH_take (i := 1) (v := ?_) rfl (by kernel_rfl) (by kernel_rfl) (by kernel_rfl) (fun _ _ _ h => h) (Or.inl ⟨by rfl, ?_⟩) (by assumption) ?_
      rotate_left
      · (intro w hSw; (try dsimp only at hSw); go_simp; try rfl)
      try simp only [Act.put, List.setIfInBounds_toArray, List.set_cons_zero, List.set_cons_succ, List.getElem_toArray, List.getElem_cons_zero, List.getElem_cons_succ]
      refine wpAnyH_take (i := 2) (v := ?_) rfl (by kernel_rfl) (by kernel_rfl) (by kernel_rfl) (fun _ _ _ h => h) (Or.inl ⟨by rfl, ?_⟩) (by assumption) ?_
      rotate_left
      · (intro w hSw; (try dsimp only at hSw); go_simp; try rfl)
      try simp only [Act.put, List.setIfInBounds_toArray, List.set_cons_zero, List.set_cons_succ, List.getElem_toArray, List.getElem_cons_zero, List.getElem_cons_succ]
      refine wpAnyH_take (i := 3) (v := ?_) rfl (by kernel_rfl) (by kernel_rfl) (by kernel_rfl) (fun _ _ _ h => h) (Or.inl ⟨by rfl, ?_⟩) (by assumption) ?_
      rotate_left
      · (intro w hSw; (try dsimp only at hSw); go_simp; try rfl)
      try simp only [Act.put, List.setIfInBounds_toArray, List.set_cons_zero, List.set_cons_succ, List.getElem_toArray, List.getElem_cons_zero, List.getElem_cons_succ]
      refine wpAnyH_take (i := 4) (v := ?_) rfl (by kernel_rfl) (by kernel_rfl) (by kernel_rfl) (fun _ _ _ h => h) (Or.inl ⟨by rfl, ?_⟩) (by assumption) ?_
      rotate_left
      · (intro w hSw; (try dsimp only at hSw); go_simp; try rfl)
      try simp only [Act.put, List.setIfInBounds_toArray, List.set_cons_zero, List.set_cons_succ, List.getElem_toArray, List.getElem_cons_zero, List.getElem_cons_succ]
      refine wpAnyH_take (i := 5) (v := ?_) rfl (by kernel_rfl) (by kernel_rfl) (by kernel_rfl) (fun _ _ _ h => h) (Or.inl ⟨by rfl, ?_⟩) (by assumption) ?_
      rotate_left
      · (intro w hSw; (try dsimp only at hSw); go_simp; try rfl)
      try simp only [Act.put, List.setIfInBounds_toArray, List.set_cons_zero, List.set_cons_succ, List.getElem_toArray, List.getElem_cons_zero, List.getElem_cons_succ]
      refine wpAnyH_take (i := 6) (v := ?_) rfl (by kernel_rfl) (by kernel_rfl) (by kernel_rfl) (fun _ _ _ h => h) (Or.inl ⟨by rfl, ?_⟩) (by assumption) ?_
      rotate_left
      · (intro w hSw; (try dsimp only at hSw); go_simp; try rfl)
      try simp only [Act.put, List.setIfInBounds_toArray, List.set_cons_zero, List.set_cons_succ, List.getElem_toArray, List.getElem_cons_zero, List.getElem_cons_succ]
      refine wpAnyH_take (i := 7) (v := ?_) rfl (by kernel_rfl) (by kernel_rfl) (by kernel_rfl) (fun _ _ _ h => h) (Or.inl ⟨by rfl, ?_⟩) (by assumption) ?_
      rotate_left
      · (intro w hSw; (try dsimp only at hSw); go_simp; try rfl)
      try simp only [Act.put, List.setIfInBounds_toArray, List.set_cons_zero, List.set_cons_succ, List.getElem_toArray, List.getElem_cons_zero, List.getElem_cons_succ]
      refine wpAnyH_take (i := 8) (v := ?_) rfl (by kernel_rfl) (by kernel_rfl) (by kernel_rfl) (fun _ _ _ h => h) (Or.inl ⟨by rfl, ?_⟩) (by assumption) ?_
      rotate_left
      · (intro w hSw; (try dsimp only at hSw); go_simp; try rfl)
      try simp only [Act.put, List.setIfInBounds_toArray, List.set_cons_zero, List.set_cons_succ, List.getElem_toArray, List.getElem_cons_zero, List.getElem_cons_succ]
      refine wpAnyH_take (i := 9) (v := ?_) rfl (by kernel_rfl) (by kernel_rfl) (by kernel_rfl) (fun _ _ _ h => h) (Or.inl ⟨by rfl, ?_⟩) (by assumption) ?_
      rotate_left
      · (intro w hSw; (try dsimp only at hSw); go_simp; try rfl)
      try simp only [Act.put, List.setIfInBounds_toArray, List.set_cons_zero, List.set_cons_succ, List.getElem_toArray, List.getElem_cons_zero, List.getElem_cons_succ]
      refine wpAnyH_ready (rs := [10]) (by kernel_rfl) (by simp) ?_
      refine (AllReadyH.cons rfl (fun K hK => ?_) AllReadyH.nil)
      go_simp
      (go_at_call 26; refine (Bb.first_any L.id.1 L.id.2.1 L.id.2.2 _).mono ?_; rintro e w1 ⟨rfl, hb1⟩; have hs1 : Below X.heap.size X w1 := below_self hHeld.1 hb1)
      refine hK.out _ _ ?_ (fun hHeld => ?_)
      · (first
        | exact HC.out _ hs1
        | exact HC.out _ (Below.refl _ _).drew
        | exact HC.out _ (Below.refl _ _)
        | fail)
      clear hK K
      try simp only [Act.put, List.setIfInBounds_toArray, List.set_cons_zero, List.set_cons_succ, List.getElem_toArray, List.getElem_cons_zero, List.getElem_cons_succ]
      refine wpAnyH_take (i := 11) (v := ?_) rfl (by kernel_rfl) (by kernel_rfl) (by kernel_rfl) (fun _ _ _ h => h) (Or.inl ⟨by rfl, ?_⟩) (by assumption) ?_
      rotate_left
      · (intro w hSw; (try dsimp only at hSw); go_simp; try rfl)
      try simp only [Act.put, List.setIfInBounds_toArray, List.set_cons_zero, List.set_cons_succ, List.getElem_toArray, List.getElem_cons_zero, List.getElem_cons_succ]
      refine wpAnyH_take (i := 12) (v := ?_) rfl (by kernel_rfl) (by kernel_rfl) (by kernel_rfl) (fun _ _ _ h => h) (Or.inl ⟨by rfl, ?_⟩) (by assumption) ?_
      rotate_left
      · (intro w hSw; (try dsimp only at hSw); go_simp; try rfl)
      try simp only [Act.put, List.setIfInBounds_toArray, List.set_cons_zero, List.set_cons_succ, List.getElem_toArray, List.getElem_cons_zero, List.getElem_cons_succ]
      refine wpAnyH_take (i := 13) (v := ?_) rfl (by kernel_rfl) (by kernel_rfl) (by kernel_rfl) (fun _ _ _ h => h) (Or.inl ⟨by rfl, ?_⟩) (by assumption) ?_
      rotate_left
      · (intro w hSw; (try dsimp only at hSw); go_simp; try rfl)
      try simp only [Act.put, List.setIfInBounds_toArray, List.set_cons_zero, List.set_cons_succ, List.getElem_toArray, List.getElem_cons_zero, List.getElem_cons_succ]
      refine wpAnyH_take (i := 14) (v := undef) rfl (by kernel_rfl) (by kernel_rfl) (by kernel_rfl) (fun _ _ _ h => h) (Or.inr ⟨by rfl, rfl⟩) (by assumption) ?_
      try simp only [Act.put, List.setIfInBounds_toArray, List.set_cons_zero, List.set_cons_succ, List.getElem_toArray, List.getElem_cons_zero, List.getElem_cons_succ]
      refine wpAnyH_take (i := 15) (v := undef) rfl (by kernel_rfl) (by kernel_rfl) (by kernel_rfl) (fun _ _ _ h => h) (Or.inr ⟨by rfl, rfl⟩) (by assumption) ?_
      try simp only [Act.put, List.setIfInBounds_toArray, List.set_cons_zero, List.set_cons_succ, List.getElem_toArray, List.getElem_cons_zero, List.getElem_cons_succ]
      refine wpAnyH_take (i := 16) (v := undef) rfl (by kernel_rfl) (by kernel_rfl) (by kernel_rfl) (fun _ _ _ h => h) (Or.inr ⟨by rfl, rfl⟩) (by assumption) ?_
      try simp only [Act.put, List.setIfInBounds_toArray, List.set_cons_zero, List.set_cons_succ, List.getElem_toArray, List.getElem_cons_zero, List.getElem_cons_succ]
      refine wpAnyH_take (i := 17) (v := undef) rfl (by kernel_rfl) (by kernel_rfl) (by kernel_rfl) (fun _ _ _ h => h) (Or.inr ⟨by rfl, rfl⟩) (by assumption) ?_
      try simp only [Act.put, List.setIfInBounds_toArray, List.set_cons_zero, List.set_cons_succ, List.getElem_toArray, List.getElem_cons_zero, List.getElem_cons_succ]
      refine wpAnyH_take (i := 18) (v := undef) rfl (by kernel_rfl) (by kernel_rfl) (by kernel_rfl) (fun _ _ _ h => h) (Or.inr ⟨by rfl, rfl⟩) (by assumption) ?_
      try simp only [Act.put, List.setIfInBounds_toArray, List.set_cons_zero, List.set_cons_succ, List.getElem_toArray, List.getElem_cons_zero, List.getElem_cons_succ]
      refine wpAnyH_take (i := 19) (v := undef) rfl (by kernel_rfl) (by kernel_rfl) (by kernel_rfl) (fun _ _ _ h => h) (Or.inr ⟨by rfl, rfl⟩) (by assumption) ?_
      try simp only [Act.put, List.setIfInBounds_toArray, List.set_cons_zero, List.set_cons_succ, List.getElem_toArray, List.getElem_cons_zero, List.getElem_cons_succ]
      refine wpAnyH_take (i := 20) (v := undef) rfl (by kernel_rfl) (by kernel_rfl) (by kernel_rfl) (fun _ _ _ h => h) (Or.inr ⟨by rfl, rfl⟩) (by assumption) ?_
      try simp only [Act.put, List.setIfInBounds_toArray, List.set_cons_zero, List.set_cons_succ, List.getElem_toArray, List.getElem_cons_zero, List.getElem_cons_succ]
      refine wpAnyH_take (i := 21) (v := undef) rfl (by kernel_rfl) (by kernel_rfl) (by kernel_rfl) (fun _ _ _ h => h) (Or.inr ⟨by rfl, rfl⟩) (by assumption) ?_
      try simp only [Act.put, List.setIfInBounds_toArray, List.set_cons_zero, List.set_cons_succ, List.getElem_toArray, List.getElem_cons_zero, List.getElem_cons_succ]
      refine wpAnyH_take (i := 22) (v := undef) rfl (by kernel_rfl) (by kernel_rfl) (by kernel_rfl) (fun _ _ _ h => h) (Or.inr ⟨by rfl, rfl⟩) (by assumption) ?_
      try simp only [Act.put, List.setIfInBounds_toArray, List.set_cons_zero, List.set_cons_succ, List.getElem_toArray, List.getElem_cons_zero, List.getElem_cons_succ]
      refine wpAnyH_take (i := 23) (v := undef) rfl (by kernel_rfl) (by kernel_rfl) (by kernel_rfl) (fun _ _ _ h => h) (Or.inr ⟨by rfl, rfl⟩) (by assumption) ?_
      try simp only [Act.put, List.setIfInBounds_toArray, List.set_cons_zero, List.set_cons_succ, List.getElem_toArray, List.getElem_cons_zero, List.getElem_cons_succ]
      refine wpAnyH_take (i := 24) (v := ?_) rfl (by kernel_rfl) (by kernel_rfl) (by kernel_rfl) (fun _ _ _ h => h) (Or.inl ⟨by rfl, ?_⟩) (by assumption) ?_
      rotate_left
      · (intro w hSw; (try dsimp only at hSw); go_simp; try rfl)
      try simp only [Act.put, List.setIfInBounds_toArray, List.set_cons_zero, List.set_cons_succ, List.getElem_toArray, List.getElem_cons_zero, List.getElem_cons_succ]
      refine wpAnyH_take (i := 25) (v := ?_) rfl (by kernel_rfl) (by kernel_rfl) (by kernel_rfl) (fun _ _ _ h => h) (Or.inl ⟨by rfl, ?_⟩) (by assumption) ?_
      rotate_left
      · (intro w hSw; (try dsimp only at hSw); go_simp; try rfl)
      try simp only [Act.put, List.setIfInBounds_toArray, List.set_cons_zero, List.set_cons_succ, List.getElem_toArray, List.getElem_cons_zero, List.getElem_cons_succ]
      refine wpAnyH_done (by kernel_rfl) ?_ _
      have HB := Lib.hid (HX.out.trans (hs1.mono HX.out.size))
      clear HC
      go_wp2
      go_ret
      exact ⟨_, Lib.hid rfl, HB.out⟩
    | false =>
      refine wp_region_held_drew (S := (fun w' => Below X.heap.size X w' ∧ w'.cell? ⟨w.heap.size, 0, none⟩ = some (.int .i64 n0) ∧ w'.cell? ⟨w.heap.size, 3, none⟩ = some (.int .i64 n3) ∧ w'.cell? ⟨w.heap.size, 4, none⟩ = some (.int .i64 n4) ∧ w'.cell? ⟨w.heap.size, 5, none⟩ = some (.int .i64 n5) ∧ w'.cell? ⟨w.heap.size, 6, none⟩ = some (.int .i64 n6) ∧ w'.cell? ⟨w.heap.size, 7, none⟩ = some (.int .i64 n7) ∧ w'.cell? ⟨w.heap.size, 8, none⟩ = some (.string n8) ∧ w'.cell? ⟨w.heap.size, 9, none⟩ = some (.string n9) ∧ w'.cell? ⟨w.heap.size, 10, none⟩ = some (.int .i64 n10) ∧ w'.cell? ⟨w.heap.size, 11, none⟩ = some (.int .i64 n11) ∧ w'.cell? ⟨w.heap.size, 12, none⟩ = some (.int .i64 n12) ∧ w'.cell? ⟨c, 0, none⟩ = some (gP g) ∧ w'.cell? ⟨g, 3, none⟩ = some (.int .i64 L.id.1) ∧ w'.cell? ⟨g, 4, none⟩ = some (.int .i64 L.id.2.1) ∧ w'.cell? ⟨g, 5, none⟩ = some (.int .i64 L.id.2.2) ∧ w'.cell? ⟨g, 23, none⟩ = some (.slice (some ⟨b, 0, none⟩) nh ch) ∧ w'.cell? ⟨b, 5, none⟩ = some (.int .i64 m5) ∧ w'.cell? ⟨b, 6, none⟩ = some (.int .i64 m6) ∧ w'.cell? ⟨b, 7, none⟩ = some (.int .i64 m7) ∧ w'.cell? ⟨b, 8, none⟩ = some (.string m8) ∧ w'.cell? ⟨b, 9, none⟩ = some (.string m9) ∧ w'.cell? ⟨b, 10, none⟩ = some (.int .i64 m10) ∧ w'.cell? ⟨b, 11, none⟩ = some (.int .i64 m11) ∧ w'.cell? ⟨b, 12, none⟩ = some (.int .i64 m12))) (by kernel_rfl) ?_ (fun hHeld => ?_)
      · (first
        | exact HC.out _ hs1
        | exact HC.out _ (Below.refl _ _).drew
        | exact HC.out _ (Below.refl _ _)
        | fail)
      refine wpAnyH_take (i := 0) (v := ?_) rfl (by kernel_rfl) (by kernel_rfl) (by kernel_rfl) (fun _ _ _ h => h) (Or.inl ⟨by rfl, ?_⟩) (by assumption) ?_
      rotate_left
      · (intro w hSw; (try dsimp only at hSw); go_simp; try rfl)
      try simp only [Act.put, List.setIfInBounds_toArray, List.set_cons_zero, List.set_cons_succ, List.getElem_toArray, List.getElem_cons_zero, List.getElem_cons_succ]
      refine wpAnyH_take (i := 1) (v := ?_) rfl (by kernel_rfl) (by kernel_rfl) (by kernel_rfl) (fun _ _ _ h => h) (Or.inl ⟨by rfl, ?_⟩) (by assumption) ?_
      rotate_left
      · (intro w hSw; (try dsimp only at hSw); go_simp; try rfl)
      try simp only [Act.put, List.setIfInBounds_toArray, List.set_cons_zero, List.set_cons_succ, List.getElem_toArray, List.getElem_cons_zero, List.getElem_cons_succ]
      refine wpAnyH_take (i := 2) (v := ?_) rfl (by kernel_rfl) (by kernel_rfl) (by kernel_rfl) (fun _ _ _ h => h) (Or.inl ⟨by rfl, ?_⟩) (by assumption) ?_
      rotate_left
      · (intro w hSw; (try dsimp only at hSw); go_simp; try rfl)
      try simp only [Act.put, List.setIfInBounds_toArray, List.set_cons_zero, List.set_cons_succ, List.getElem_toArray, List.getElem_cons_zero, List.getElem_cons_succ]
      refine wpAnyH_take (i := 3) (v := ?_) rfl (by kernel_rfl) (by kernel_rfl) (by kernel_rfl) (fun _ _ _ h => h) (Or.inl ⟨by rfl, ?_⟩) (by assumption) ?_
      rotate_left
      · (intro w hSw; (try dsimp only at hSw); go_simp; try rfl)
      try simp only [Act.put, List.setIfInBounds_toArray, List.set_cons_zero, List.set_cons_succ, List.getElem_toArray, List.getElem_cons_zero, List.getElem_cons_succ]
      refine wpAnyH_take (i := 4) (v := ?_) rfl (by kernel_rfl) (by kernel_rfl) (by kernel_rfl) (fun _ _ _ h => h) (Or.inl ⟨by rfl, ?_⟩) (by assumption) ?_
      rotate_left
      · (intro w hSw; (try dsimp only at hSw); go_simp; try rfl)
      try simp only [Act.put, List.setIfInBounds_toArray, List.set_cons_zero, List.set_cons_succ, List.getElem_toArray, List.getElem_cons_zero, List.getElem_cons_succ]
      refine wpAnyH_take (i := 5) (v := ?_) rfl (by kernel_rfl) (by kernel_rfl) (by kernel_rfl) (fun _ _ _ h => h) (Or.inl ⟨by rfl, ?_⟩) (by assumption) ?_
      rotate_left
      · (intro w hSw; (try dsimp only at hSw); go_simp; try rfl)
      try simp only [Act.put, List.setIfInBounds_toArray, List.set_cons_zero, List.set_cons_succ, List.getElem_toArray, List.getElem_cons_zero, List.getElem_cons_succ]
      refine wpAnyH_take (i := 6) (v := ?_) rfl (by kernel_rfl) (by kernel_rfl) (by kernel_rfl) (fun _ _ _ h => h) (Or.inl ⟨by rfl, ?_⟩) (by assumption) ?_
      rotate_left
      · (intro w hSw; (try dsimp only at hSw); go_simp; try rfl)
      try simp only [Act.put, List.setIfInBounds_toArray, List.set_cons_zero, List.set_cons_succ, List.getElem_toArray, List.getElem_cons_zero, List.getElem_cons_succ]
      refine wpAnyH_take (i := 7) (v := ?_) rfl (by kernel_rfl) (by kernel_rfl) (by kernel_rfl) (fun _ _ _ h => h) (Or.inl ⟨by rfl, ?_⟩) (by assumption) ?_
      rotate_left
      · (intro w hSw; (try dsimp only at hSw); go_simp; try rfl)
      try simp only [Act.put, List.setIfInBounds_toArray, List.set_cons_zero, List.set_cons_succ, List.getElem_toArray, List.getElem_cons_zero, List.getElem_cons_succ]
      refine wpAnyH_take (i := 8) (v := ?_) rfl (by kernel_rfl) (by kernel_rfl) (by kernel_rfl) (fun _ _ _ h => h) (Or.inl ⟨by rfl, ?_⟩) (by assumption) ?_
      rotate_left
      · (intro w hSw; (try dsimp only at hSw); go_simp; try rfl)
      try simp only [Act.put, List.setIfInBounds_toArray, List.set_cons_zero, List.set_cons_succ, List.getElem_toArray, List.getElem_cons_zero, List.getElem_cons_succ]
      refine wpAnyH_take (i := 9) (v := ?_) rfl (by kernel_rfl) (by kernel_rfl) (by kernel_rfl) (fun _ _ _ h => h) (Or.inl ⟨by rfl, ?_⟩) (by assumption) ?_
      rotate_left
      · (intro w hSw; (try dsimp only at hSw); go_simp; try rfl)
      try simp only [Act.put, List.setIfInBounds_toArray, List.set_cons_zero, List.set_cons_succ, List.getElem_toArray, List.getElem_cons_zero, List.getElem_cons_succ]
      refine wpAnyH_ready (rs := [10]) (by kernel_rfl) (by simp) ?_
      refine (AllReadyH.cons rfl (fun K hK => ?_) AllReadyH.nil)
      go_simp
      (go_at_call 26; refine (Bb.first_any L.id.1 L.id.2.1 L.id.2.2 _).mono ?_; rintro e w1 ⟨rfl, hb1⟩; have hs1 : Below X.heap.size X w1 := below_self hHeld.1 hb1)
      refine hK.out _ _ ?_ (fun hHeld => ?_)
      · (first
        | exact HC.out _ hs1
        | exact HC.out _ (Below.refl _ _).drew
        | exact HC.out _ (Below.refl _ _)
        | fail)
      clear hK K
      try simp only [Act.put, List.setIfInBounds_toArray, List.set_cons_zero, List.set_cons_succ, List.getElem_toArray, List.getElem_cons_zero, List.getElem_cons_succ]
      refine wpAnyH_take (i := 11) (v := ?_) rfl (by kernel_rfl) (by kernel_rfl) (by kernel_rfl) (fun _ _ _ h => h) (Or.inl ⟨by rfl, ?_⟩) (by assumption) ?_
      rotate_left
      · (intro w hSw; (try dsimp only at hSw); go_simp; try rfl)
      try simp only [Act.put, List.setIfInBounds_toArray, List.set_cons_zero, List.set_cons_succ, List.getElem_toArray, List.getElem_cons_zero, List.getElem_cons_succ]
      refine wpAnyH_take (i := 12) (v := ?_) rfl (by kernel_rfl) (by kernel_rfl) (by kernel_rfl) (fun _ _ _ h => h) (Or.inl ⟨by rfl, ?_⟩) (by assumption) ?_
      rotate_left
      · (intro w hSw; (try dsimp only at hSw); go_simp; try rfl)
      try simp only [Act.put, List.setIfInBounds_toArray, List.set_cons_zero, List.set_cons_succ, List.getElem_toArray, List.getElem_cons_zero, List.getElem_cons_succ]
      refine wpAnyH_take (i := 13) (v := ?_) rfl (by kernel_rfl) (by kernel_rfl) (by kernel_rfl) (fun _ _ _ h => h) (Or.inl ⟨by rfl, ?_⟩) (by assumption) ?_
      rotate_left
      · (intro w hSw; (try dsimp only at hSw); go_simp; try rfl)
      try simp only [Act.put, List.setIfInBounds_toArray, List.set_cons_zero, List.set_cons_succ, List.getElem_toArray, List.getElem_cons_zero, List.getElem_cons_succ]
      refine wpAnyH_take (i := 14) (v := ?_) rfl (by kernel_rfl) (by kernel_rfl) (by kernel_rfl) (fun _ _ _ h => h) (Or.inl ⟨by rfl, ?_⟩) (by assumption) ?_
      rotate_left
      · (intro w hSw; (try dsimp only at hSw); go_simp; try rfl)
      try simp only [Act.put, List.setIfInBounds_toArray, List.set_cons_zero, List.set_cons_succ, List.getElem_toArray, List.getElem_cons_zero, List.getElem_cons_succ]
      refine wpAnyH_take (i := 15) (v := ?_) rfl (by kernel_rfl) (by kernel_rfl) (by kernel_rfl) (fun _ _ _ h => h) (Or.inl ⟨by rfl, ?_⟩) (by assumption) ?_
      rotate_left
      · (intro w hSw; (try dsimp only at hSw); go_simp; try rfl)
      try simp only [Act.put, List.setIfInBounds_toArray, List.set_cons_zero, List.set_cons_succ, List.getElem_toArray, List.getElem_cons_zero, List.getElem_cons_succ]
      refine wpAnyH_take (i := 16) (v := ?_) rfl (by kernel_rfl) (by kernel_rfl) (by kernel_rfl) (fun _ _ _ h => h) (Or.inl ⟨by rfl, ?_⟩) (by assumption) ?_
      rotate_left
      · (intro w hSw; (try dsimp only at hSw); go_simp; try rfl)
      try simp only [Act.put, List.setIfInBounds_toArray, List.set_cons_zero, List.set_cons_succ, List.getElem_toArray, List.getElem_cons_zero, List.getElem_cons_succ]
      refine wpAnyH_take (i := 17) (v := ?_) rfl (by kernel_rfl) (by kernel_rfl) (by kernel_rfl) (fun _ _ _ h => h) (Or.inl ⟨by rfl, ?_⟩) (by assumption) ?_
      rotate_left
      · (intro w hSw; (try dsimp only at hSw); go_simp; try rfl)
      try simp only [Act.put, List.setIfInBounds_toArray, List.set_cons_zero, List.set_cons_succ, List.getElem_toArray, List.getElem_cons_zero, List.getElem_cons_succ]
      refine wpAnyH_take (i := 18) (v := ?_) rfl (by kernel_rfl) (by kernel_rfl) (by kernel_rfl) (fun _ _ _ h => h) (Or.inl ⟨by rfl, ?_⟩) (by assumption) ?_
      rotate_left
      · (intro w hSw; (try dsimp only at hSw); go_simp; try rfl)
      try simp only [Act.put, List.setIfInBounds_toArray, List.set_cons_zero, List.set_cons_succ, List.getElem_toArray, List.getElem_cons_zero, List.getElem_cons_succ]
      refine wpAnyH_take (i := 19) (v := ?_) rfl (by kernel_rfl) (by kernel_rfl) (by kernel_rfl) (fun _ _ _ h => h) (Or.inl ⟨by rfl, ?_⟩) (by assumption) ?_
      rotate_left
      · (intro w hSw; (try dsimp only at hSw); go_simp; try rfl)
      try simp only [Act.put, List.setIfInBounds_toArray, List.set_cons_zero, List.set_cons_succ, List.getElem_toArray, List.getElem_cons_zero, List.getElem_cons_succ]
      refine wpAnyH_take (i := 20) (v := ?_) rfl (by kernel_rfl) (by kernel_rfl) (by kernel_rfl) (fun _ _ _ h => h) (Or.inl ⟨by rfl, ?_⟩) (by assumption) ?_
      rotate_left
      · (intro w hSw; (try dsimp only at hSw); go_simp; try rfl)
      try simp only [Act.put, List.setIfInBounds_toArray, List.set_cons_zero, List.set_cons_succ, List.getElem_toArray, List.getElem_cons_zero, List.getElem_cons_succ]
      refine wpAnyH_take (i := 21) (v := ?_) rfl (by kernel_rfl) (by kernel_rfl) (by kernel_rfl) (fun _ _ _ h => h) (Or.inl ⟨by rfl, ?_⟩) (by assumption) ?_
      rotate_left
      · (intro w hSw; (try dsimp only at hSw); go_simp; try rfl)
      try simp only [Act.put, List.setIfInBounds_toArray, List.set_cons_zero, List.set_cons_succ, List.getElem_toArray, List.getElem_cons_zero, List.getElem_cons_succ]
      refine wpAnyH_take (i := 22) (v := ?_) rfl (by kernel_rfl) (by kernel_rfl) (by kernel_rfl) (fun _ _ _ h => h) (Or.inl ⟨by rfl, ?_⟩) (by assumption) ?_
      rotate_left
      · (intro w hSw; (try dsimp only at hSw); go_simp; try rfl)
      try simp only [Act.put, List.setIfInBounds_toArray, List.set_cons_zero, List.set_cons_succ, List.getElem_toArray, List.getElem_cons_zero, List.getElem_cons_succ]
      refine wpAnyH_take (i := 23) (v := ?_) rfl (by kernel_rfl) (by kernel_rfl) (by kernel_rfl) (fun _ _ _ h => h) (Or.inl ⟨by rfl, ?_⟩) (by assumption) ?_
      rotate_left
      · (intro w hSw; (try dsimp only at hSw); go_simp; try rfl)
      try simp only [Act.put, List.setIfInBounds_toArray, List.set_cons_zero, List.set_cons_succ, List.getElem_toArray, List.getElem_cons_zero, List.getElem_cons_succ]
      refine wpAnyH_take (i := 24) (v := ?_) rfl (by kernel_rfl) (by kernel_rfl) (by kernel_rfl) (fun _ _ _ h => h) (Or.inl ⟨by rfl, ?_⟩) (by assumption) ?_
      rotate_left
      · (intro w hSw; (try dsimp only at hSw); go_simp; try rfl)
      try simp only [Act.put, List.setIfInBounds_toArray, List.set_cons_zero, List.set_cons_succ, List.getElem_toArray, List.getElem_cons_zero, List.getElem_cons_succ]
      refine wpAnyH_take (i := 25) (v := ?_) rfl (by kernel_rfl) (by kernel_rfl) (by kernel_rfl) (fun _ _ _ h => h) (Or.inl ⟨by rfl, ?_⟩) (by assumption) ?_
      rotate_left
      · (intro w hSw; (try dsimp only at hSw); go_simp; try rfl)
      try simp only [Act.put, List.setIfInBounds_toArray, List.set_cons_zero, List.set_cons_succ, List.getElem_toArray, List.getElem_cons_zero, List.getElem_cons_succ]
      refine wpAnyH_done (by kernel_rfl) ?_ _
      have HB := Lib.hid (HX.out.trans (hs1.mono HX.out.size))
      clear HC
      go_wp2
      go_ret
      exact ⟨_, Lib.hid rfl, HB.out⟩
  · have q1 : (n0 != 1) = true := by simp [q]
    have q2 : decide (n0 = 1) = false := decide_eq_false q
    refine wp_region_held_drew (S := (fun w' => Below X.heap.size X w' ∧ w'.cell? ⟨w.heap.size, 0, none⟩ = some (.int .i64 n0) ∧ w'.cell? ⟨w.heap.size, 3, none⟩ = some (.int .i64 n3) ∧ w'.cell? ⟨w.heap.size, 4, none⟩ = some (.int .i64 n4) ∧ w'.cell? ⟨w.heap.size, 5, none⟩ = some (.int .i64 n5) ∧ w'.cell? ⟨w.heap.size, 6, none⟩ = some (.int .i64 n6) ∧ w'.cell? ⟨w.heap.size, 7, none⟩ = some (.int .i64 n7) ∧ w'.cell? ⟨w.heap.size, 8, none⟩ = some (.string n8) ∧ w'.cell? ⟨w.heap.size, 9, none⟩ = some (.string n9) ∧ w'.cell? ⟨w.heap.size, 10, none⟩ = some (.int .i64 n10) ∧ w'.cell? ⟨w.heap.size, 11, none⟩ = some (.int .i64 n11) ∧ w'.cell? ⟨w.heap.size, 12, none⟩ = some (.int .i64 n12) ∧ w'.cell? ⟨c, 0, none⟩ = some (gP g) ∧ w'.cell? ⟨g, 3, none⟩ = some (.int .i64 L.id.1) ∧ w'.cell? ⟨g, 4, none⟩ = some (.int .i64 L.id.2.1) ∧ w'.cell? ⟨g, 5, none⟩ = some (.int .i64 L.id.2.2) ∧ w'.cell? ⟨g, 23, none⟩ = some (.slice (some ⟨b, 0, none⟩) nh ch) ∧ w'.cell? ⟨b, 5, none⟩ = some (.int .i64 m5) ∧ w'.cell? ⟨b, 6, none⟩ = some (.int .i64 m6) ∧ w'.cell? ⟨b, 7, none⟩ = some (.int .i64 m7) ∧ w'.cell? ⟨b, 8, none⟩ = some (.string m8) ∧ w'.cell? ⟨b, 9, none⟩ = some (.string m9) ∧ w'.cell? ⟨b, 10, none⟩ = some (.int .i64 m10) ∧ w'.cell? ⟨b, 11, none⟩ = some (.int .i64 m11) ∧ w'.cell? ⟨b, 12, none⟩ = some (.int .i64 m12))) (by kernel_rfl) ?_ (fun hHeld => ?_)
    · (first
      | exact HC.out _ hs1
      | exact HC.out _ (Below.refl _ _).drew
      | exact HC.out _ (Below.refl _ _)
      | fail)
    refine wpAnyH_take (i := 0) (v := ?_) rfl (by kernel_rfl) (by kernel_rfl) (by kernel_rfl) (fun _ _ _ h => h) (Or.inl ⟨by rfl, ?_⟩) (by assumption) ?_
    rotate_left
    · (intro w hSw; (try dsimp only at hSw); go_simp; try rfl)
    try simp only [Act.put, List.setIfInBounds_toArray, List.set_cons_zero, List.set_cons_succ, List.getElem_toArray, List.getElem_cons_zero, List.getElem_cons_succ]
    refine wpAnyH_take (i := 1) (v := ?_) rfl (by kernel_rfl) (by kernel_rfl) (by kernel_rfl) (fun _ _ _ h => h) (Or.inl ⟨by rfl, ?_⟩) (by assumption) ?_
    rotate_left
    · (intro w hSw; (try dsimp only at hSw); go_simp; try rfl)
    try simp only [Act.put, List.setIfInBounds_toArray, List.set_cons_zero, List.set_cons_succ, List.getElem_toArray, List.getElem_cons_zero, List.getElem_cons_succ]
    refine wpAnyH_take (i := 2) (v := ?_) rfl (by kernel_rfl) (by kernel_rfl) (by kernel_rfl) (fun _ _ _ h => h) (Or.inl ⟨by rfl, ?_⟩) (by assumption) ?_
    rotate_left
    · (intro w hSw; (try dsimp only at hSw); go_simp; try rfl)
    try simp only [Act.put, List.setIfInBounds_toArray, List.set_cons_zero, List.set_cons_succ, List.getElem_toArray, List.getElem_cons_zero, List.getElem_cons_succ]
    refine wpAnyH_take (i := 3) (v := ?_) rfl (by kernel_rfl) (by kernel_rfl) (by kernel_rfl) (fun _ _ _ h => h) (Or.inl ⟨by rfl, ?_⟩) (by assumption) ?_
    rotate_left
    · (intro w hSw; (try dsimp only at hSw); go_simp; try rfl)
    try simp only [Act.put, List.setIfInBounds_toArray, List.set_cons_zero, List.set_cons_succ, List.getElem_toArray, List.getElem_cons_zero, List.getElem_cons_succ]
    refine wpAnyH_take (i := 4) (v := undef) rfl (by kernel_rfl) (by kernel_rfl) (by kernel_rfl) (fun _ _ _ h => h) (Or.inr ⟨by rfl, rfl⟩) (by assumption) ?_
    try simp only [Act.put, List.setIfInBounds_toArray, List.set_cons_zero, List.set_cons_succ, List.getElem_toArray, List.getElem_cons_zero, List.getElem_cons_succ]
    refine wpAnyH_take (i := 5) (v := undef) rfl (by kernel_rfl) (by kernel_rfl) (by kernel_rfl) (fun _ _ _ h => h) (Or.inr ⟨by rfl, rfl⟩) (by assumption) ?_
    try simp only [Act.put, List.setIfInBounds_toArray, List.set_cons_zero, List.set_cons_succ, List.getElem_toArray, List.getElem_cons_zero, List.getElem_cons_succ]
    refine wpAnyH_take (i := 6) (v := undef) rfl (by kernel_rfl) (by kernel_rfl) (by kernel_rfl) (fun _ _ _ h => h) (Or.inr ⟨by rfl, rfl⟩) (by assumption) ?_
    try simp only [Act.put, List.setIfInBounds_toArray, List.set_cons_zero, List.set_cons_succ, List.getElem_toArray, List.getElem_cons_zero, List.getElem_cons_succ]
    refine wpAnyH_take (i := 7) (v := undef) rfl (by kernel_rfl) (by kernel_rfl) (by kernel_rfl) (fun _ _ _ h => h) (Or.inr ⟨by rfl, rfl⟩) (by assumption) ?_
    try simp only [Act.put, List.setIfInBounds_toArray, List.set_cons_zero, List.set_cons_succ, List.getElem_toArray, List.getElem_cons_zero, List.getElem_cons_succ]
    refine wpAnyH_take (i := 8) (v := undef) rfl (by kernel_rfl) (by kernel_rfl) (by kernel_rfl) (fun _ _ _ h => h) (Or.inr ⟨by rfl, rfl⟩) (by assumption) ?_
    try simp only [Act.put, List.setIfInBounds_toArray, List.set_cons_zero, List.set_cons_succ, List.getElem_toArray, List.getElem_cons_zero, List.getElem_cons_succ]
    refine wpAnyH_take (i := 9) (v := undef) rfl (by kernel_rfl) (by kernel_rfl) (by kernel_rfl) (fun _ _ _ h => h) (Or.inr ⟨by rfl, rfl⟩) (by assumption) ?_
    try simp only [Act.put, List.setIfInBounds_toArray, List.set_cons_zero, List.set_cons_succ, List.getElem_toArray, List.getElem_cons_zero, List.getElem_cons_succ]
    refine wpAnyH_take (i := 10) (v := undef) rfl (by kernel_rfl) (by kernel_rfl) (by kernel_rfl) (fun _ _ _ h => h) (Or.inr ⟨by rfl, rfl⟩) (by assumption) ?_
    try simp only [Act.put, List.setIfInBounds_toArray, List.set_cons_zero, List.set_cons_succ, List.getElem_toArray, List.getElem_cons_zero, List.getElem_cons_succ]
    refine wpAnyH_take (i := 11) (v := undef) rfl (by kernel_rfl) (by kernel_rfl) (by kernel_rfl) (fun _ _ _ h => h) (Or.inr ⟨by rfl, rfl⟩) (by assumption) ?_
    try simp only [Act.put, List.setIfInBounds_toArray, List.set_cons_zero, List.set_cons_succ, List.getElem_toArray, List.getElem_cons_zero, List.getElem_cons_succ]
    refine wpAnyH_take (i := 12) (v := ?_) rfl (by kernel_rfl) (by kernel_rfl) (by kernel_rfl) (fun _ _ _ h => h) (Or.inl ⟨by rfl, ?_⟩) (by assumption) ?_
    rotate_left
    · (intro w hSw; (try dsimp only at hSw); go_simp; try rfl)
    try simp only [Act.put, List.setIfInBounds_toArray, List.set_cons_zero, List.set_cons_succ, List.getElem_toArray, List.getElem_cons_zero, List.getElem_cons_succ]
    refine wpAnyH_take (i := 13) (v := ?_) rfl (by kernel_rfl) (by kernel_rfl) (by kernel_rfl) (fun _ _ _ h => h) (Or.inl ⟨by rfl, ?_⟩) (by assumption) ?_
    rotate_left
    · (intro w hSw; (try dsimp only at hSw); go_simp; try rfl)
    try simp only [Act.put, List.setIfInBounds_toArray, List.set_cons_zero, List.set_cons_succ, List.getElem_toArray, List.getElem_cons_zero, List.getElem_cons_succ]
    refine wpAnyH_take (i := 14) (v := undef) rfl (by kernel_rfl) (by kernel_rfl) (by kernel_rfl) (fun _ _ _ h => h) (Or.inr ⟨by rfl, rfl⟩) (by assumption) ?_
    try simp only [Act.put, List.setIfInBounds_toArray, List.set_cons_zero, List.set_cons_succ, List.getElem_toArray, List.getElem_cons_zero, List.getElem_cons_succ]
    refine wpAnyH_take (i := 15) (v := undef) rfl (by kernel_rfl) (by kernel_rfl) (by kernel_rfl) (fun _ _ _ h => h) (Or.inr ⟨by rfl, rfl⟩) (by assumption) ?_
    try simp only [Act.put, List.setIfInBounds_toArray, List.set_cons_zero, List.set_cons_succ, List.getElem_toArray, List.getElem_cons_zero, List.getElem_cons_succ]
    refine wpAnyH_take (i := 16) (v := undef) rfl (by kernel_rfl) (by kernel_rfl) (by kernel_rfl) (fun _ _ _ h => h) (Or.inr ⟨by rfl, rfl⟩) (by assumption) ?_
    try simp only [Act.put, List.setIfInBounds_toArray, List.set_cons_zero, List.set_cons_succ, List.getElem_toArray, List.getElem_cons_zero, List.getElem_cons_succ]
    refine wpAnyH_take (i := 17) (v := undef) rfl (by kernel_rfl) (by kernel_rfl) (by kernel_rfl) (fun _ _ _ h => h) (Or.inr ⟨by rfl, rfl⟩) (by assumption) ?_
    try simp only [Act.put, List.setIfInBounds_toArray, List.set_cons_zero, List.set_cons_succ, List.getElem_toArray, List.getElem_cons_zero, List.getElem_cons_succ]
    refine wpAnyH_take (i := 18) (v := undef) rfl (by kernel_rfl) (by kernel_rfl) (by kernel_rfl) (fun _ _ _ h => h) (Or.inr ⟨by rfl, rfl⟩) (by assumption) ?_
    try simp only [Act.put, List.setIfInBounds_toArray, List.set_cons_zero, List.set_cons_succ, List.getElem_toArray, List.getElem_cons_zero, List.getElem_cons_succ]
    refine wpAnyH_take (i := 19) (v := undef) rfl (by kernel_rfl) (by kernel_rfl) (by kernel_rfl) (fun _ _ _ h => h) (Or.inr ⟨by rfl, rfl⟩) (by assumption) ?_
    try simp only [Act.put, List.setIfInBounds_toArray, List.set_cons_zero, List.set_cons_succ, List.getElem_toArray, List.getElem_cons_zero, List.getElem_cons_succ]
    refine wpAnyH_take (i := 20) (v := undef) rfl (by kernel_rfl) (by kernel_rfl) (by kernel_rfl) (fun _ _ _ h => h) (Or.inr ⟨by rfl, rfl⟩) (by assumption) ?_
    try simp only [Act.put, List.setIfInBounds_toArray, List.set_cons_zero, List.set_cons_succ, List.getElem_toArray, List.getElem_cons_zero, List.getElem_cons_succ]
    refine wpAnyH_take (i := 21) (v := undef) rfl (by kernel_rfl) (by kernel_rfl) (by kernel_rfl) (fun _ _ _ h => h) (Or.inr ⟨by rfl, rfl⟩) (by assumption) ?_
    try simp only [Act.put, List.setIfInBounds_toArray, List.set_cons_zero, List.set_cons_succ, List.getElem_toArray, List.getElem_cons_zero, List.getElem_cons_succ]
    refine wpAnyH_take (i := 22) (v := undef) rfl (by kernel_rfl) (by kernel_rfl) (by kernel_rfl) (fun _ _ _ h => h) (Or.inr ⟨by rfl, rfl⟩) (by assumption) ?_
    try simp only [Act.put, List.setIfInBounds_toArray, List.set_cons_zero, List.set_cons_succ, List.getElem_toArray, List.getElem_cons_zero, List.getElem_cons_succ]
    refine wpAnyH_take (i := 23) (v := undef) rfl (by kernel_rfl) (by kernel_rfl) (by kernel_rfl) (fun _ _ _ h => h) (Or.inr ⟨by rfl, rfl⟩) (by assumption) ?_
    try simp only [Act.put, List.setIfInBounds_toArray, List.set_cons_zero, List.set_cons_succ, List.getElem_toArray, List.getElem_cons_zero, List.getElem_cons_succ]
    refine wpAnyH_take (i := 24) (v := ?_) rfl (by kernel_rfl) (by kernel_rfl) (by kernel_rfl) (fun _ _ _ h => h) (Or.inl ⟨by rfl, ?_⟩) (by assumption) ?_
    rotate_left
    · (intro w hSw; (try dsimp only at hSw); go_simp; try rfl)
    try simp only [Act.put, List.setIfInBounds_toArray, List.set_cons_zero, List.set_cons_succ, List.getElem_toArray, List.getElem_cons_zero, List.getElem_cons_succ]
    refine wpAnyH_take (i := 25) (v := ?_) rfl (by kernel_rfl) (by kernel_rfl) (by kernel_rfl) (fun _ _ _ h => h) (Or.inl ⟨by rfl, ?_⟩) (by assumption) ?_
    rotate_left
    · (intro w hSw; (try dsimp only at hSw); go_simp; try rfl)
    try simp only [Act.put, List.setIfInBounds_toArray, List.set_cons_zero, List.set_cons_succ, List.getElem_toArray, List.getElem_cons_zero, List.getElem_cons_succ]
    refine wpAnyH_done (by kernel_rfl) ?_ _
    have HB := Lib.hid (HX.out.trans ((Below.refl X.heap.size X).drew.mono HX.out.size))
    clear HC
    go_wp2
    go_ret
    exact ⟨_, Lib.hid rfl, HB.out⟩
structure AlAt (w : World) (B g c : Nat) (L : LSt) : Prop where
  ld : LdAt w B g L
  ne : L.heard ≠ []
  bx : LBox w c g
theorem AlAt.below {w w' : World} {B g c : Nat} {L : LSt} (h : AlAt w B g c L) (hb : Below w.heap.size w w') : AlAt w' B g c L := ⟨h.ld.below hb, h.ne, h.bx.below hb⟩
def IaP (w : World) (e : Ending) (w' : World) : Prop := ∃ r : Int, Hid (e = .returned (.int .i64 r)) ∧ Below w.heap.size w w'
set_option maxHeartbeats 4000000 in
theorem ixal_any {w : World} {B g c Bw : Nat} {L : LSt} (h : AlAt w B g c L) (v : Value) (l : List Ist) (hr : HRow w B Bw v l) (hl : l.length ≤ 100) :
    Calls Try.prog 72 #[v, .func (.func 65) #[] #[.pointer (some ⟨c, 0, none⟩)]] w (IaP w) := by
  obtain ⟨a, k0, e⟩ := hr.slice
  subst e
  obtain ⟨N, hN⟩ : ∃ N, l.length = N := ⟨_, rfl⟩
  rw [hN] at hr hl ⊢
  have HR := Lib.hid hr
  have HG := Lib.hid h
  clear h hr hN
  go_enter Try.func72, Try.ntmps72
  go_wp2_with fail
  go_loopw [8] (fun i wr => ∃ k : Nat, k ≤ N ∧ i = .int .i64 k ∧ Hid (Below w.heap.size w wr)) (fun i _ => N - (intOf i).toNat)
  case atStart => exact ⟨0, Nat.zero_le _, rfl, Lib.hid (Below.refl _ _)⟩
  case round =>
    obtain ⟨k, hk, rfl, hB⟩ := hrel
    by_cases hlt : k < N
    · have hlt' : (k : Int) < (N : Int) := by omega
      have hd1 : decide ((k : Int) < (N : Int)) = true := decide_eq_true hlt'
      have hd2 : decide (k < N) = true := decide_eq_true hlt
      obtain ⟨-, hlk, b, u, rfl, hb, hu, hok, hc⟩ := HR.out.el hB.out k hlt
      obtain ⟨ua, ca, hue⟩ := hu.slice
      obtain ⟨x, hx⟩ : ∃ x, l[k] = x := ⟨_, rfl⟩
      rw [hx] at hc hue
      obtain ⟨ma, hma⟩ : ∃ d, x.at'.2.length = d := ⟨_, rfl⟩
      rw [hma] at hue
      subst hue
      have HA := Lib.hid (alike1_any (HG.out.below hB.out).ld HG.out.ne (HG.out.below hB.out).bx x ua ma ca)
      obtain ⟨n0, ⟨n1, n2⟩, ⟨n3, n4⟩, ⟨n5, n6, n7, n8, n9, n10, n11, n12⟩, n13, n14⟩ := x
      have hbr : b < wr.heap.size := Nat.lt_of_lt_of_le hb hB.out.size
      have z0 : wr.cell? ⟨b, k * 15, none⟩ = some (.int .i64 n0) := hc 0 _ rfl
      have z1 : wr.cell? ⟨b, k * 15 + 1, none⟩ = some (.int .i64 n1) := hc 1 _ rfl
      have z2 : wr.cell? ⟨b, k * 15 + 2, none⟩ = some (.int .i64 n2) := hc 2 _ rfl
      have z3 : wr.cell? ⟨b, k * 15 + 3, none⟩ = some (.int .i64 n3) := hc 3 _ rfl
      have z4 : wr.cell? ⟨b, k * 15 + 4, none⟩ = some (.int .i64 n4) := hc 4 _ rfl
      have z5 : wr.cell? ⟨b, k * 15 + 5, none⟩ = some (.int .i64 n5) := hc 5 _ rfl
      have z6 : wr.cell? ⟨b, k * 15 + 6, none⟩ = some (.int .i64 n6) := hc 6 _ rfl
      have z7 : wr.cell? ⟨b, k * 15 + 7, none⟩ = some (.int .i64 n7) := hc 7 _ rfl
      have z8 : wr.cell? ⟨b, k * 15 + 8, none⟩ = some (.string n8) := hc 8 _ rfl
      have z9 : wr.cell? ⟨b, k * 15 + 9, none⟩ = some (.string n9) := hc 9 _ rfl
      have z10 : wr.cell? ⟨b, k * 15 + 10, none⟩ = some (.int .i64 n10) := hc 10 _ rfl
      have z11 : wr.cell? ⟨b, k * 15 + 11, none⟩ = some (.int .i64 n11) := hc 11 _ rfl
      have z12 : wr.cell? ⟨b, k * 15 + 12, none⟩ = some (.int .i64 n12) := hc 12 _ rfl
      have z13 : wr.cell? ⟨b, k * 15 + 13, none⟩ = some (.int .i64 n13) := hc 13 _ rfl
      have z14 : wr.cell? ⟨b, k * 15 + 14, none⟩ = some (.slice ua ma ca) := hc 14 _ rfl
      clear hc hu hok hx hma
      go_wp2_with fail
      refine HA.out.mono ?_
      rintro e w1 ⟨R, he, hb1⟩
      rw [he.out]
      have HB := Lib.hid (below_self hB.out hb1)
      clear hb1 hB he z0 z1 z2 z3 z4 z5 z6 z7 z8 z9 z10 z11 z12 z13 z14 hbr
      cases R with
      | true =>
        go_wp2
        go_ret
        exact ⟨_, Lib.hid rfl, HB.out⟩
      | false =>
        go_wp2_with fail
        go_roundw
        case rel => exact ⟨k + 1, by omega, by go_num, HB⟩
        case measure => simp [intOf]; omega
    · have e : k = N := by omega
      subst e
      have hd1 : decide ((k : Int) < (k : Int)) = false := decide_eq_false (by omega)
      have hd2 : decide (k < k) = false := decide_eq_false (by omega)
      go_wp2
      go_ret
      exact ⟨_, Lib.hid rfl, hB.out⟩
theorem ctal_any {w : World} {B g c Bw : Nat} {L : LSt} (h : AlAt w B g c L) (v : Value) (l : List Ist) (hr : HRow w B Bw v l) (hl : l.length ≤ 100) :
    Calls Try.prog 66 #[v, .func (.func 65) #[] #[.pointer (some ⟨c, 0, none⟩)]] w (AnP w) := by
  have HC := Lib.hid (ixal_any h v l hr hl)
  obtain ⟨a, k0, e⟩ := hr.slice
  obtain ⟨N, hN⟩ : ∃ N, l.length = N := ⟨_, rfl⟩
  rw [hN] at e
  subst e
  clear h hr hN
  go_enter Try.func66, Try.ntmps66
  go_wp2_with fail
  refine HC.out.mono ?_
  rintro e w1 ⟨r, he, hb⟩
  have he := he.out
  subst he
  have HB := Lib.hid hb
  clear hb
  go_wp2
  go_ret
  exact ⟨_, Lib.hid rfl, HB.out⟩
set_option maxHeartbeats 8000000 in
theorem agree_any (v : Value) (rs : List (Cls 2)) (l : List At) (w : World) (h : RowIs AtK atS w v rs l) (hl : l.length ≤ 100) (hd : ∀ a ∈ l, a.2.length ≤ 1000) :
    Calls Try.prog 67 #[v] w (AnP w) := by
  obtain ⟨a, k0, e⟩ := h.rd.slice
  rw [h.len] at e
  subst e
  obtain ⟨N, hN⟩ : ∃ N, l.length = N := ⟨_, rfl⟩
  rw [hN] at h hl ⊢
  have HR := Lib.hid h
  have HD := Lib.hid hd
  clear h hN hd
  go_enter Try.func67, Try.ntmps67
  go_wp2_with fail
  go_loopw [7] (fun i wr => ∃ k : Nat, k ≤ N ∧ i = .int .i64 k ∧ Hid (Below w.heap.size w wr)) (fun i _ => N - (intOf i).toNat)
  case atStart => exact ⟨0, Nat.zero_le _, rfl, Lib.hid (Below.refl _ _)⟩
  case round =>
    obtain ⟨k, hk, rfl, hB⟩ := hrel
    by_cases hlt : k < N
    · have hlt' : (k : Int) < (N : Int) := by omega
      have hd1 : decide ((k : Int) < (N : Int)) = true := decide_eq_true hlt'
      have hd2 : decide (k < N) = true := decide_eq_true hlt
      obtain ⟨-, hk0, g0, off0, v0, ha0, hg0, p0, p1, hr0, ho0⟩ := atCell (HR.out.on hB.out) 0 (by omega)
      obtain ⟨-, hkl, g2, off2, v2, hda, hg2, q0, q1, hrd, hok⟩ := atCell (HR.out.on hB.out) k hlt
      subst hda
      have e2 : g2 = g0 ∧ off2 = off0 := by injection ha0 with q; injection q with q1 q2; exact ⟨q1, q2⟩
      obtain ⟨rfl, rfl⟩ := e2
      clear ha0
      simp only [Nat.zero_mul, Nat.add_zero] at p0 p1
      obtain ⟨a5, c5, e5⟩ := hrd.slice
      obtain ⟨a6, c6, e6⟩ := hr0.slice
      have n5 := HD.out _ (List.getElem_mem hkl)
      have n6 := HD.out _ (List.getElem_mem hk0)
      obtain ⟨⟨s, dl⟩, hx⟩ : ∃ x, l[k] = x := ⟨_, rfl⟩
      obtain ⟨⟨s0, dl0⟩, hx0⟩ : ∃ x, l[0] = x := ⟨_, rfl⟩
      rw [hx] at q0 hrd hok e5 n5
      rw [hx0] at p0 hr0 ho0 e6 n6
      obtain ⟨m5, hm5⟩ : ∃ m, dl.length = m := ⟨_, rfl⟩
      obtain ⟨m6, hm6⟩ : ∃ m, dl0.length = m := ⟨_, rfl⟩
      simp only [hm5] at e5
      simp only [hm6] at e6
      subst e5
      subst e6
      simp only at q0 p0
      obtain ⟨Y, hY⟩ : ∃ Y, wr.alloc (.cells #[.int .i64 s, .slice a5 m5 c5] 36) = Y := ⟨_, rfl⟩
      have hwy : Below wr.heap.size wr Y := by rw [← hY]; exact al1 wr _
      have hbk : Bk Y wr.heap.size 36 [.int .i64 s, .slice a5 m5 c5] := by rw [← hY]; exact Bk.new wr _ [.int .i64 s, .slice a5 m5 c5]
      have HY := Lib.hid (hB.out.trans (hwy.mono hB.out.size))
      obtain ⟨R, hR⟩ : ∃ R, sameA (s, dl) (s0, dl0) = R := ⟨_, rfl⟩
      have HSm : Hid (∀ V : World, Below Y.heap.size Y V → Calls Try.prog 49 #[.agg #[.int .i64 s, .slice a5 m5 c5], .agg #[.int .i64 s0, .slice a6 m6 c6]] V fun e w' => e = .returned (.bool R) ∧ Below V.heap.size V w') := Lib.hid fun V hv => by
        have q := asame_any s s0 (.slice a5 m5 c5) (.slice a6 m6 c6) dl dl0 V ((hrd.below hwy).below hv) hok (Nat.le_trans n5 (by omega)) ((hr0.below hwy).below hv) ho0 (Nat.le_trans n6 (by omega))
        rw [hR] at q
        exact q
      have p0' := (hwy.cell (p := ⟨g2, off2, none⟩) hg2).trans p0
      have p1' := (hwy.cell (p := ⟨g2, off2 + 1, none⟩) hg2).trans p1
      have hg3 : g2 < Y.heap.size := Nat.lt_of_lt_of_le hg2 hwy.size
      have HC : Hid (∀ w' : World, Below Y.heap.size Y w' → Below Y.heap.size Y w' ∧ w'.cell? ⟨wr.heap.size, 0, none⟩ = some (.int .i64 s) ∧ w'.cell? ⟨wr.heap.size, 1, none⟩ = some (.slice a5 m5 c5) ∧ w'.cell? ⟨g2, off2, none⟩ = some (.int .i64 s0) ∧ w'.cell? ⟨g2, off2 + 1, none⟩ = some (.slice a6 m6 c6)) := Lib.hid fun w' hb => ⟨hb, (hbk.below hb).cell 0, (hbk.below hb).cell 1, (hb.cell (p := ⟨g2, off2, none⟩) hg3).trans p0', (hb.cell (p := ⟨g2, off2 + 1, none⟩) hg3).trans p1'⟩
      clear hwy hbk hR hrd hr0 hok ho0 n5 n6 hm5 hm6 hx hx0 p0 p1 p0' p1' hg3
      go_wp2_with fail
      try rw [hY]
      have hN0 : 0 < N := by omega
      have hN1 : (0 : Int) < (N : Int) := by omega
      have hN2 : decide (0 < N) = true := decide_eq_true hN0
      clear hY q0 q1 hg2 hg0
      refine wp_region_held_drew (S := (fun w' => Below Y.heap.size Y w' ∧ w'.cell? ⟨wr.heap.size, 0, none⟩ = some (.int .i64 s) ∧ w'.cell? ⟨wr.heap.size, 1, none⟩ = some (.slice a5 m5 c5) ∧ w'.cell? ⟨g2, off2, none⟩ = some (.int .i64 s0) ∧ w'.cell? ⟨g2, off2 + 1, none⟩ = some (.slice a6 m6 c6))) (by kernel_rfl) ?_ (fun hHeld => ?_)
      · (first
        | exact HC.out _ hs1
        | exact HC.out _ (Below.refl _ _).drew
        | exact HC.out _ (Below.refl _ _)
        | fail)
      refine wpAnyH_take (i := 0) (v := ?_) rfl (by kernel_rfl) (by kernel_rfl) (by kernel_rfl) (fun _ _ _ h => h) (Or.inl ⟨by rfl, ?_⟩) (by assumption) ?_
      rotate_left
      · (intro w hSw; (try dsimp only at hSw); go_simp; try rfl)
      try simp only [Act.put, List.setIfInBounds_toArray, List.set_cons_zero, List.set_cons_succ, List.getElem_toArray, List.getElem_cons_zero, List.getElem_cons_succ]
      refine wpAnyH_take (i := 1) (v := ?_) rfl (by kernel_rfl) (by kernel_rfl) (by kernel_rfl) (fun _ _ _ h => h) (Or.inl ⟨by rfl, ?_⟩) (by assumption) ?_
      rotate_left
      · (intro w hSw; (try dsimp only at hSw); go_simp; try rfl)
      try simp only [Act.put, List.setIfInBounds_toArray, List.set_cons_zero, List.set_cons_succ, List.getElem_toArray, List.getElem_cons_zero, List.getElem_cons_succ]
      refine wpAnyH_take (i := 2) (v := ?_) rfl (by kernel_rfl) (by kernel_rfl) (by kernel_rfl) (fun _ _ _ h => h) (Or.inl ⟨by rfl, ?_⟩) (by assumption) ?_
      rotate_left
      · (intro w hSw; (try dsimp only at hSw); go_simp; try rfl)
      try simp only [Act.put, List.setIfInBounds_toArray, List.set_cons_zero, List.set_cons_succ, List.getElem_toArray, List.getElem_cons_zero, List.getElem_cons_succ]
      refine wpAnyH_take (i := 3) (v := ?_) rfl (by kernel_rfl) (by kernel_rfl) (by kernel_rfl) (fun _ _ _ h => h) (Or.inl ⟨by rfl, ?_⟩) (by assumption) ?_
      rotate_left
      · (intro w hSw; (try dsimp only at hSw); go_simp; try rfl)
      try simp only [Act.put, List.setIfInBounds_toArray, List.set_cons_zero, List.set_cons_succ, List.getElem_toArray, List.getElem_cons_zero, List.getElem_cons_succ]
      refine wpAnyH_ready (rs := [4]) (by kernel_rfl) (by simp) ?_
      refine (AllReadyH.cons rfl (fun K hK => ?_) AllReadyH.nil)
      go_simp
      (go_at_call 49; refine (HSm.out _ hHeld.1).mono ?_; rintro e w1 ⟨rfl, hb1⟩; have hs1 : Below Y.heap.size Y w1 := below_self hHeld.1 hb1)
      refine hK.out _ _ ?_ (fun hHeld => ?_)
      · (first
        | exact HC.out _ hs1
        | exact HC.out _ (Below.refl _ _).drew
        | exact HC.out _ (Below.refl _ _)
        | fail)
      clear hK K
      try simp only [Act.put, List.setIfInBounds_toArray, List.set_cons_zero, List.set_cons_succ, List.getElem_toArray, List.getElem_cons_zero, List.getElem_cons_succ]
      refine wpAnyH_take (i := 5) (v := ?_) rfl (by kernel_rfl) (by kernel_rfl) (by kernel_rfl) (fun _ _ _ h => h) (Or.inl ⟨by rfl, ?_⟩) (by assumption) ?_
      rotate_left
      · (intro w hSw; (try dsimp only at hSw); go_simp; try rfl)
      try simp only [Act.put, List.setIfInBounds_toArray, List.set_cons_zero, List.set_cons_succ, List.getElem_toArray, List.getElem_cons_zero, List.getElem_cons_succ]
      refine wpAnyH_done (by kernel_rfl) ?_ _
      have HB := Lib.hid (HY.out.trans (hs1.mono HY.out.size))
      clear HC hs1 hb1 HSm HY hB
      cases R with
      | true =>
        go_wp2_with fail
        go_roundw
        case rel => exact ⟨k + 1, by omega, by go_num, HB⟩
        case measure => simp [intOf]; omega
      | false =>
        go_wp2
        go_ret
        exact ⟨_, Lib.hid rfl, HB.out⟩
    · have e : k = N := by omega
      subst e
      have hd1 : decide ((k : Int) < (k : Int)) = false := decide_eq_false (by omega)
      have hd2 : decide (k < k) = false := decide_eq_false (by omega)
      go_wp2
      go_ret
      exact ⟨_, Lib.hid rfl, hB.out⟩
set_option maxHeartbeats 8000000 in
theorem alike_any {w : World} {B g : Nat} {L : LSt} (h : LdAt w B g L) (ho : LOk L) (hne : L.heard ≠ []) : Calls Try.prog 56 #[gP g] w (AnP w) := by
  obtain ⟨X, hX⟩ : ∃ X, w.alloc (.cells #[gP g] 48) = X := ⟨_, rfl⟩
  have hB : Below w.heap.size w X := by rw [← hX]; exact (Below.refl _ _).alloc (Nat.le_refl _) _
  have hx : LBox X w.heap.size g := by rw [← hX]; exact Bk.new w _ _
  have HBX := Lib.hid hB
  have HAl := Lib.hid (show AlAt X B g w.heap.size L from ⟨h.below hB, hne, hx⟩)
  have HO := Lib.hid ho
  have HLX := Lib.hid (h.below hB)
  have hcx := hx.lt
  have cx := hx.cell 0
  simp only [List.getElem?_cons_zero] at cx
  obtain ⟨Bw, vn, vd, vw, vh, hV⟩ := h.below hB
  obtain ⟨ah, ch, eh⟩ := hV.heard.slice
  obtain ⟨nh, hnh⟩ : ∃ nh, L.heard.length = nh := ⟨_, rfl⟩
  have hH := hV.heard
  rw [hnh] at eh
  subst eh
  have HCt := Lib.hid (ctal_any HAl.out _ L.heard hH (by rw [ho.hl]; have := ho.wl; omega))
  have c23 := hV.cell 23
  have hgl := hV.bk.lt
  simp only [ldE, List.getElem?_cons_zero, List.getElem?_cons_succ] at c23
  clear h hB hx ho hV hH hnh
  go_enter Try.func56, Try.ntmps56
  go_wp2_with fail
  try rw [hX]
  clear hX
  refine HCt.out.mono ?_
  rintro e w1 ⟨R, he, hb⟩
  rw [he.out]
  have HB1 := Lib.hid hb
  clear he hb c23 cx
  cases R with
  | true =>
    go_wp2
    go_ret
    exact ⟨_, Lib.hid rfl, HBX.out.trans (HB1.out.mono HBX.out.size)⟩
  | false =>
    have cx := (HAl.out.bx.below HB1.out).cell 0
    simp only [List.getElem?_cons_zero] at cx
    go_wp2_with fail
    refine (attrs_any (HLX.out.below HB1.out) HO.out).mono ?_
    rintro e w2 ⟨v2, rs2, he, hr2, hb⟩
    rw [he.out]
    have HR2 := Lib.hid hr2
    have HB2 := Lib.hid (HB1.out.trans (hb.mono HB1.out.size))
    clear he hr2 hb cx
    obtain ⟨a2, c2, e2⟩ := HR2.out.rd.slice
    obtain ⟨k2, hk2⟩ : ∃ k, rs2.length = k := ⟨_, rfl⟩
    rw [hk2] at e2
    subst e2
    clear hk2
    go_wp2_with fail
    refine (agree_any _ rs2 _ _ HR2.out (by rw [List.length_map, HO.out.hl]; have := HO.out.wl; omega) (fun a ha => by
      obtain ⟨y, hy, rfl⟩ := List.mem_map.1 ha
      exact Nat.le_trans (HO.out.hd y hy) (by omega))).mono ?_
    rintro e w3 ⟨R, he, hb⟩
    rw [he.out]
    have HB3 := Lib.hid (HB2.out.trans (hb.mono HB2.out.size))
    clear he hb
    go_wp2
    go_ret
    exact ⟨_, Lib.hid rfl, HBX.out.trans (HB3.out.mono HBX.out.size)⟩
end Go.Proofs.Ytplplehfkfjhnaa
namespace Go.Proofs.Ytplplehfkfjhnaa
open Go.RowKit
open Bb (quoN thN allB)
set_option linter.unusedSimpArgs false
set_option linter.unusedVariables false
set_option maxRecDepth 100000

/-- An own row of answers that were taken out of those that were heard. -/
def VRow (w wr : World) (B : Nat) (sl : Value) (vl : List Ist) : Prop := ∃ rs, KX.Own wr w.heap.size sl rs ∧ rs.length = vl.length ∧ ∀ (j : Nat) (h : j < rs.length) (h2 : j < vl.length), HIs w B rs[j].cs vl[j]
theorem VRow.hrow {w wr : World} {B : Nat} {sl : Value} {vl : List Ist} (h : VRow w wr B sl vl) (hb : Below w.heap.size w wr) : HRow wr B w.heap.size sl vl := by
  obtain ⟨rs, h1, h2, h3⟩ := h
  exact ⟨rs, h1, h2, fun j a b => (h3 j a b).keep fun k cs fr q => hb.block k (Array.getElem?_eq_some_iff.1 q).1⟩
theorem VRow.more {w w' : World} {B : Nat} {v' : Value} {vl : List Ist} {rs : List (Cls 15)} (hl : rs.length = vl.length) (h3 : ∀ (j : Nat) (h : j < rs.length) (h2 : j < vl.length), HIs w B rs[j].cs vl[j]) (y : Cls 15) (x : Ist) (hy : HIs w B y.cs x) (ho : KX.Own w' w.heap.size v' (rs ++ [y])) : VRow w w' B v' (vl ++ [x]) := by
  refine ⟨rs ++ [y], ho, by simp [hl], fun j a b => ?_⟩
  by_cases q : j < rs.length
  · rw [List.getElem_append_left q, List.getElem_append_left (by omega)]
    exact h3 j q (by omega)
  · have hj : j = rs.length := by simp at a; omega
    subst hj
    rw [List.getElem_append_right (Nat.le_refl _), List.getElem_append_right (by omega)]
    simpa [hl] using hy
def PaP (L : LSt) (B g : Nat) (w : World) (e : Ending) (w' : World) : Prop := ∃ (p : Int) (cm : CM) (a : At), (p = 0 ∨ p = 1) ∧ a.2.length ≤ 60 ∧ PrP (entL L p cm a) B g w e w'
def votd (l : List Ist) : List Ist := l.filter fun x => decide (1 ≤ x.st)
theorem votd_take (l : List Ist) (k : Nat) (hk : k < l.length) : votd (l.take (k + 1)) = if 1 ≤ l[k].st then votd (l.take k) ++ [l[k]] else votd (l.take k) := by
  unfold votd
  rw [List.take_succ_eq_append_getElem hk, List.filter_append]
  by_cases q : 1 ≤ l[k].st
  · rw [if_pos q]; simp [q]
  · rw [if_neg q]; simp [q]
set_option maxHeartbeats 16000000 in
theorem asked_any {w : World} {B g : Nat} {L : LSt} (h : LdAt w B g L) (ho : LOk L) : Calls Try.prog 36 #[gP g] w (PaP L B g w) := by
  have HL := Lib.hid h
  have HOk := Lib.hid ho
  obtain ⟨Bw, vn, vd, vw, vh, h⟩ := h
  have hNL : L.heard.length ≤ 40 := by rw [ho.hl]; exact ho.wl
  obtain ⟨a, c, e⟩ := h.heard.slice
  subst e
  obtain ⟨N, hN⟩ : ∃ N, L.heard.length = N := ⟨_, rfl⟩
  have c23 := h.cell 23
  simp only [ldE, List.getElem?_cons_zero, List.getElem?_cons_succ] at c23
  have hH := h.heard
  rw [hN] at c23 hH hNL
  have hlt := h.bk.lt
  have HLo : Hid (B ≤ g) := Lib.hid h.lo
  have HBz : Hid (B ≤ w.heap.size) := Lib.hid (Nat.le_trans h.lo (Nat.le_of_lt h.bk.lt))
  have HH := Lib.hid hH
  have HN := Lib.hid hN
  have HG : Hid (w.cell? ⟨g, 23, none⟩ = some (.slice a N c)) := Lib.hid c23
  have HGl := Lib.hid hlt
  have HD := Lib.hid ho.hd
  clear h hH hN ho
  go_enter Try.func36, Try.ntmps36
  go_wp2_with fail
  clear c23
  go_loopw [2, 11] (fun sl i wr => ∃ (k : Nat), k ≤ N ∧ i = .int .i64 k ∧ Hid (VRow w wr B sl (votd (L.heard.take k))) ∧ Hid (Below w.heap.size w wr)) (fun _ i _ => N - (intOf i).toNat)
  case atStart => exact ⟨0, Nat.zero_le _, rfl, Lib.hid ⟨[], Knd.Own.nil _ _, rfl, fun j h => by simp at h⟩, Lib.hid (Below.refl _ _)⟩
  case round =>
    obtain ⟨k, hk, rfl, hV, hB⟩ := hrel
    by_cases hlt2 : k < N
    · have hk1 : (k : Int) < (N : Int) := by omega
      have hd1 : decide ((k : Int) < (N : Int)) = true := decide_eq_true hk1
      have hd2 : decide (k < N) = true := decide_eq_true hlt2
      obtain ⟨-, hl, b, u, rfl, hb, hu, hok, hc⟩ := HH.out.el hB.out k hlt2
      have htk := votd_take L.heard k hl
      obtain ⟨ua, uc, hue⟩ := hu.slice
      obtain ⟨x, hx⟩ : ∃ x, L.heard[k] = x := ⟨_, rfl⟩
      rw [hx] at hc hue htk hu hok
      obtain ⟨n0, ⟨n1, n2⟩, ⟨n3, n4⟩, ⟨n5, n6, n7, n8, n9, n10, n11, n12⟩, n13, n14⟩ := x
      obtain ⟨d, hd⟩ : ∃ d, n14.length = d := ⟨_, rfl⟩
      simp only [hd] at hue
      subst hue
      simp only at htk
      have HIx : Hid (HIs w B (inE ⟨n0, (n1, n2), (n3, n4), ⟨n5, n6, n7, n8, n9, n10, n11, n12⟩, (n13, n14)⟩ (.slice ua d uc)) ⟨n0, (n1, n2), (n3, n4), ⟨n5, n6, n7, n8, n9, n10, n11, n12⟩, (n13, n14)⟩) := Lib.hid ⟨_, rfl, hu, hok⟩
      clear hd hx hu hok
      have z0 : wr.cell? ⟨b, k * 15, none⟩ = some (.int .i64 n0) := hc 0 _ rfl
      have z1 : wr.cell? ⟨b, k * 15 + 1, none⟩ = some (.int .i64 n1) := hc 1 _ rfl
      have z2 : wr.cell? ⟨b, k * 15 + 2, none⟩ = some (.int .i64 n2) := hc 2 _ rfl
      have z3 : wr.cell? ⟨b, k * 15 + 3, none⟩ = some (.int .i64 n3) := hc 3 _ rfl
      have z4 : wr.cell? ⟨b, k * 15 + 4, none⟩ = some (.int .i64 n4) := hc 4 _ rfl
      have z5 : wr.cell? ⟨b, k * 15 + 5, none⟩ = some (.int .i64 n5) := hc 5 _ rfl
      have z6 : wr.cell? ⟨b, k * 15 + 6, none⟩ = some (.int .i64 n6) := hc 6 _ rfl
      have z7 : wr.cell? ⟨b, k * 15 + 7, none⟩ = some (.int .i64 n7) := hc 7 _ rfl
      have z8 : wr.cell? ⟨b, k * 15 + 8, none⟩ = some (.string n8) := hc 8 _ rfl
      have z9 : wr.cell? ⟨b, k * 15 + 9, none⟩ = some (.string n9) := hc 9 _ rfl
      have z10 : wr.cell? ⟨b, k * 15 + 10, none⟩ = some (.int .i64 n10) := hc 10 _ rfl
      have z11 : wr.cell? ⟨b, k * 15 + 11, none⟩ = some (.int .i64 n11) := hc 11 _ rfl
      have z12 : wr.cell? ⟨b, k * 15 + 12, none⟩ = some (.int .i64 n12) := hc 12 _ rfl
      have z13 : wr.cell? ⟨b, k * 15 + 13, none⟩ = some (.int .i64 n13) := hc 13 _ rfl
      have z14 : wr.cell? ⟨b, k * 15 + 14, none⟩ = some (.slice ua d uc) := hc 14 _ rfl
      have hbr : b < wr.heap.size := Nat.lt_of_lt_of_le hb hB.out.size
      have hz := hB.out.size
      have HB2 := Lib.hid (hB.out.alloc hz (.cells #[.int .i64 n0, .int .i64 n1, .int .i64 n2, .int .i64 n3, .int .i64 n4, .int .i64 n5, .int .i64 n6, .int .i64 n7, .string n8, .string n9, .int .i64 n10, .int .i64 n11, .int .i64 n12, .int .i64 n13, .slice ua d uc] 38))
      have HZ := Lib.hid hz
      clear hc hb hz
      by_cases hst : 1 ≤ n0
      · have hst3 : decide (1 ≤ n0) = true := decide_eq_true hst
        rw [if_pos hst] at htk
        have HT := Lib.hid htk
        obtain ⟨rs, hown, hrl, hrs⟩ := hV.out
        have HOWN := Lib.hid (hown.below (al2 wr (.cells #[.int .i64 n0, .int .i64 n1, .int .i64 n2, .int .i64 n3, .int .i64 n4, .int .i64 n5, .int .i64 n6, .int .i64 n7, .string n8, .string n9, .int .i64 n10, .int .i64 n11, .int .i64 n12, .int .i64 n13, .slice ua d uc] 38) (.cells #[.int .i64 n0, .int .i64 n1, .int .i64 n2, .int .i64 n3, .int .i64 n4, .int .i64 n5, .int .i64 n6, .int .i64 n7, .string n8, .string n9, .int .i64 n10, .int .i64 n11, .int .i64 n12, .int .i64 n13, .slice ua d uc] 38)))
        have HKS : Hid (KX.Rd ((wr.alloc (.cells #[.int .i64 n0, .int .i64 n1, .int .i64 n2, .int .i64 n3, .int .i64 n4, .int .i64 n5, .int .i64 n6, .int .i64 n7, .string n8, .string n9, .int .i64 n10, .int .i64 n11, .int .i64 n12, .int .i64 n13, .slice ua d uc] 38)).alloc (.cells #[.int .i64 n0, .int .i64 n1, .int .i64 n2, .int .i64 n3, .int .i64 n4, .int .i64 n5, .int .i64 n6, .int .i64 n7, .string n8, .string n9, .int .i64 n10, .int .i64 n11, .int .i64 n12, .int .i64 n13, .slice ua d uc] 38)) (.slice (some ⟨wr.heap.size + 1, 0, none⟩) 1 1) [(⟨inE ⟨n0, (n1, n2), (n3, n4), ⟨n5, n6, n7, n8, n9, n10, n11, n12⟩, (n13, n14)⟩ (.slice ua d uc), rfl, inE_one rfl⟩ : Cls 15)]) := Lib.hid (KX.rd_boxAt (⟨inE ⟨n0, (n1, n2), (n3, n4), ⟨n5, n6, n7, n8, n9, n10, n11, n12⟩, (n13, n14)⟩ (.slice ua d uc), rfl, inE_one rfl⟩ : Cls 15) 38 1 (wr.alloc (.cells #[.int .i64 n0, .int .i64 n1, .int .i64 n2, .int .i64 n3, .int .i64 n4, .int .i64 n5, .int .i64 n6, .int .i64 n7, .string n8, .string n9, .int .i64 n10, .int .i64 n11, .int .i64 n12, .int .i64 n13, .slice ua d uc] 38)) (wr.heap.size + 1) (by simp))
        have HRL := Lib.hid hrl
        have HRS := Lib.hid hrs
        have HLEN : Hid (rs.length ≤ 1000) := Lib.hid (by
          rw [hrl]
          have h1 : (votd (L.heard.take k)).length ≤ (L.heard.take k).length := List.length_filter_le _ _
          have h2 : (L.heard.take k).length ≤ L.heard.length := by rw [List.length_take]; omega
          have h3 := HN.out
          omega)
        clear hown hrl hrs htk hV
        go_wp2_with (first
          | refine KX.app rfl _ _ rfl w.heap.size _ rs rfl HOWN.out _ [(⟨inE ⟨n0, (n1, n2), (n3, n4), ⟨n5, n6, n7, n8, n9, n10, n11, n12⟩, (n13, n14)⟩ (.slice ua d uc), rfl, inE_one rfl⟩ : Cls 15)] rfl HKS.out (by have := HLEN.out; simp only [List.length_singleton]; omega) (by have := HZ.out; simp; omega) ?_
          | fail)
        intro v' w' hown hbel hgr hnil
        have HV2 : Hid (VRow w w' B v' (votd (L.heard.take (k + 1)))) := Lib.hid (by rw [HT.out]; exact VRow.more HRL.out HRS.out _ _ HIx.out hown)
        have HB3 : Hid (Below w.heap.size w w') := Lib.hid ((hB.out.trans ((al2 wr (.cells #[.int .i64 n0, .int .i64 n1, .int .i64 n2, .int .i64 n3, .int .i64 n4, .int .i64 n5, .int .i64 n6, .int .i64 n7, .string n8, .string n9, .int .i64 n10, .int .i64 n11, .int .i64 n12, .int .i64 n13, .slice ua d uc] 38) (.cells #[.int .i64 n0, .int .i64 n1, .int .i64 n2, .int .i64 n3, .int .i64 n4, .int .i64 n5, .int .i64 n6, .int .i64 n7, .string n8, .string n9, .int .i64 n10, .int .i64 n11, .int .i64 n12, .int .i64 n13, .slice ua d uc] 38)).mono HZ.out)).trans hbel)
        clear hown hbel hgr hnil z0 z1 z2 z3 z4 z5 z6 z7 z8 z9 z10 z11 z12 z13 z14 hbr HOWN HRL HRS HLEN
        go_wp2_with fail
        go_roundw
        case rel => exact ⟨k + 1, by omega, by go_num, HV2, HB3⟩
        case measure => simp [intOf]; omega
      · have hst3 : decide (1 ≤ n0) = false := decide_eq_false hst
        rw [if_neg hst] at htk
        have HV2 : Hid (VRow w (wr.alloc (.cells #[.int .i64 n0, .int .i64 n1, .int .i64 n2, .int .i64 n3, .int .i64 n4, .int .i64 n5, .int .i64 n6, .int .i64 n7, .string n8, .string n9, .int .i64 n10, .int .i64 n11, .int .i64 n12, .int .i64 n13, .slice ua d uc] 38)) B u2 (votd (L.heard.take (k + 1)))) := Lib.hid (by
          rw [htk]
          obtain ⟨rs, h1, h2, h3⟩ := hV.out
          exact ⟨rs, h1.below (al1 wr _), h2, h3⟩)
        clear htk
        go_wp2_with fail
        go_roundw
        case rel => exact ⟨k + 1, by omega, by go_num, HV2, HB2⟩
        case measure => simp [intOf]; omega
    · have e : k = N := by omega
      subst e
      have hd1 : decide ((k : Int) < (k : Int)) = false := decide_eq_false (by omega)
      have hd2 : decide (k < k) = false := decide_eq_false (by omega)
      have hHr := hV.out.hrow hB.out
      rw [List.take_of_length_le (by rw [HN.out]; exact Nat.le_refl _)] at hHr
      obtain ⟨va, vc, ve⟩ := hHr.slice
      obtain ⟨M, hM⟩ : ∃ M, (votd L.heard).length = M := ⟨_, rfl⟩
      rw [hM] at ve
      subst ve
      have HMl := Lib.hid hM
      have HHr := Lib.hid hHr
      clear hM hHr hV
      have HLw := Lib.hid (HL.out.below hB.out)
      by_cases hM0 : M = 0
      · subst hM0
        have HBd : Hid (Below B w wr) := Lib.hid (hB.out.mono HBz.out)
        have HKd := hB
        have HLd := HLw
        go_wp2_with fail
        refine (enter_any HLd.out 1 cm0 0 (.slice none 0 0) [] (Knd.Rd.nil _) (fun x hx => by cases hx) (by simp)).mono ?_
        rintro e w6 ⟨he, hL6, hb6, hs6⟩
        rw [he.out]
        clear he
        have HL6 := Lib.hid hL6
        have HB6 := Lib.hid (HBd.out.trans hb6)
        have HK6 := Lib.hid ((Kt.below HKd.out).trans (Kt.ent hs6 HLd.out))
        clear hL6 hb6 hs6
        go_wp2
        go_end0
        exact ⟨1, cm0, (0, []), .inr rfl, Nat.zero_le _, rfl, HL6.out, HB6.out, HK6.out⟩
      · have hM1 : ¬ (M : Int) = 0 := by omega
        have hM2 : ((M : Int) == 0) = false := by simp; omega
        have hM3 : decide ((M : Int) = 0) = false := decide_eq_false hM1
        have hne : votd L.heard ≠ [] := by intro q; have := HMl.out; rw [q] at this; simp at this; omega
        have hlv : (votd L.heard).length ≤ 1000 := by
          have h1 : (votd L.heard).length ≤ L.heard.length := List.length_filter_le _ _
          have h2 := HN.out
          omega
        have HMx := Lib.hid (max_any HHr.out hne hlv)
        have hmem : bestX (votd L.heard) ∈ L.heard := (List.mem_filter.1 (bestX_mem _ hne)).1
        have hne2 : L.heard ≠ [] := by intro q; rw [q] at hmem; cases hmem
        have hbl := HD.out _ hmem
        have HNE := Lib.hid hne2
        clear hne hlv hmem hne2
        go_wp2_with fail
        refine HMx.out.mono ?_
        rintro e w2 ⟨u, he, hu, hok, hb⟩
        rw [he.out]
        obtain ⟨ub, uc2, eu⟩ := hu.slice
        obtain ⟨y, hy⟩ : ∃ y, bestX (votd L.heard) = y := ⟨_, rfl⟩
        rw [hy] at hu hok eu hbl ⊢
        obtain ⟨p0, ⟨p1, p2⟩, ⟨p3, p4⟩, ⟨p5, p6, p7, p8, p9, p10, p11, p12⟩, p13, p14⟩ := y
        obtain ⟨e0, he0⟩ : ∃ d, p14.length = d := ⟨_, rfl⟩
        simp only [he0] at eu
        subst eu
        simp only [inE]
        have hb2 : Below w.heap.size w w2 := hB.out.trans (hb.mono hB.out.size)
        have HRp : Hid (IK.Rd w2 (.slice ub e0 uc2) p14 ∧ okL p14 ∧ p14.length ≤ 60) := Lib.hid ⟨(hu.below hb).rd, hok, hbl⟩
        obtain ⟨X, hX⟩ : ∃ X, w2.alloc (.cells #[.int .i64 p0, .int .i64 p1, .int .i64 p2, .int .i64 p3, .int .i64 p4, .int .i64 p5, .int .i64 p6, .int .i64 p7, .string p8, .string p9, .int .i64 p10, .int .i64 p11, .int .i64 p12, .int .i64 p13, .slice ub e0 uc2] 38) = X := ⟨_, rfl⟩
        have hwx : Below w2.heap.size w2 X := by rw [← hX]; exact al1 w2 _
        have HPb : Hid (Bk X w2.heap.size 38 [.int .i64 p0, .int .i64 p1, .int .i64 p2, .int .i64 p3, .int .i64 p4, .int .i64 p5, .int .i64 p6, .int .i64 p7, .string p8, .string p9, .int .i64 p10, .int .i64 p11, .int .i64 p12, .int .i64 p13, .slice ub e0 uc2]) := Lib.hid (by rw [← hX]; exact Bk.new w2 _ [.int .i64 p0, .int .i64 p1, .int .i64 p2, .int .i64 p3, .int .i64 p4, .int .i64 p5, .int .i64 p6, .int .i64 p7, .string p8, .string p9, .int .i64 p10, .int .i64 p11, .int .i64 p12, .int .i64 p13, .slice ub e0 uc2])
        have HRq : Hid (IK.Rd X (.slice ub e0 uc2) p14 ∧ okL p14 ∧ p14.length ≤ 60) := Lib.hid ⟨HRp.out.1.below hwx, HRp.out.2.1, HRp.out.2.2⟩
        have HXw : Hid (Below w.heap.size w X) := Lib.hid (hb2.trans (hwx.mono hb2.size))
        have HLX := Lib.hid (HL.out.below HXw.out)
        obtain ⟨q, hq⟩ : ∃ q, w2.heap.size = q := ⟨_, rfl⟩
        rw [hq] at HPb
        have x0 := HPb.out.cell 0
        have x5 := HPb.out.cell 5
        have x6 := HPb.out.cell 6
        have x7 := HPb.out.cell 7
        have x8 := HPb.out.cell 8
        have x9 := HPb.out.cell 9
        have x10 := HPb.out.cell 10
        have x11 := HPb.out.cell 11
        have x12 := HPb.out.cell 12
        have x13 := HPb.out.cell 13
        have x14 := HPb.out.cell 14
        simp only [List.getElem?_cons_zero, List.getElem?_cons_succ] at x0 x5 x6 x7 x8 x9 x10 x11 x12 x13 x14
        clear he hu hok hy hbl he0 hb hb2 hwx HRp HMx
        by_cases hs2 : 2 ≤ p0
        · have hs3 : decide (2 ≤ p0) = true := decide_eq_true hs2
          have HBd : Hid (Below B w X) := Lib.hid (HXw.out.mono HBz.out)
          have HKd := HXw
          have HLd := HLX
          go_wp2_with fail
          try rw [hX]
          try simp only [hq]
          clear hX hq
          refine (enter_any HLd.out 1 ⟨p5, p6, p7, p8, p9, p10, p11, p12⟩ p13 _ p14 HRq.out.1 HRq.out.2.1 (Nat.le_trans HRq.out.2.2 (by omega))).mono ?_
          rintro e w6 ⟨he, hL6, hb6, hs6⟩
          rw [he.out]
          clear he x0 x5 x6 x7 x8 x9 x10 x11 x12 x13 x14
          have HL6 := Lib.hid hL6
          have HB6 := Lib.hid (HBd.out.trans hb6)
          have HK6 := Lib.hid ((Kt.below HKd.out).trans (Kt.ent hs6 HLd.out))
          clear hL6 hb6 hs6
          go_wp2
          go_end0
          exact ⟨1, ⟨p5, p6, p7, p8, p9, p10, p11, p12⟩, (p13, p14), .inr rfl, HRq.out.2.2, rfl, HL6.out, HB6.out, HK6.out⟩
        · have hs3 : decide (2 ≤ p0) = false := decide_eq_false hs2
          have HAl := Lib.hid (alike_any HLX.out HOk.out HNE.out)
          go_wp2_with fail
          try rw [hX]
          try simp only [hq]
          clear hX hq
          refine HAl.out.mono ?_
          rintro e w7 ⟨R, he, hb⟩
          rw [he.out]
          have HX7 := Lib.hid (HXw.out.trans (hb.mono HXw.out.size))
          have HP7 := Lib.hid (HPb.out.below hb)
          clear he hb x0 x5 x6 x7 x8 x9 x10 x11 x12 x13 x14 HAl
          cases R with
          | false =>
            have HBd : Hid (Below B w w7) := Lib.hid (HX7.out.mono HBz.out)
            have HKd := HX7
            have HLd := Lib.hid (HL.out.below HX7.out)
            have x5 := HP7.out.cell 5
            have x6 := HP7.out.cell 6
            have x7 := HP7.out.cell 7
            have x8 := HP7.out.cell 8
            have x9 := HP7.out.cell 9
            have x10 := HP7.out.cell 10
            have x11 := HP7.out.cell 11
            have x12 := HP7.out.cell 12
            simp only [List.getElem?_cons_zero, List.getElem?_cons_succ] at x5 x6 x7 x8 x9 x10 x11 x12
            go_wp2_with fail
            refine (enter_any HLd.out 0 ⟨p5, p6, p7, p8, p9, p10, p11, p12⟩ 0 (.slice none 0 0) [] (Knd.Rd.nil _) (fun x hx => by cases hx) (by simp)).mono ?_
            rintro e w6 ⟨he, hL6, hb6, hs6⟩
            rw [he.out]
            clear he x5 x6 x7 x8 x9 x10 x11 x12
            have HL6 := Lib.hid hL6
            have HB6 := Lib.hid (HBd.out.trans hb6)
            have HK6 := Lib.hid ((Kt.below HKd.out).trans (Kt.ent hs6 HLd.out))
            clear hL6 hb6 hs6
            go_wp2
            go_end0
            exact ⟨0, ⟨p5, p6, p7, p8, p9, p10, p11, p12⟩, (0, []), .inl rfl, Nat.zero_le _, rfl, HL6.out, HB6.out, HK6.out⟩
          | true =>
            have hN0 : 0 < k := by have := HN.out; rw [← this]; exact List.length_pos_iff.2 HNE.out
            have hN1 : (0 : Int) < (k : Int) := by omega
            have hN2 : decide (0 < k) = true := decide_eq_true hN0
            have HXd : Hid (Below w.heap.size w w7.drew) := Lib.hid (Below.drewB HX7.out)
            have HBd : Hid (Below B w w7.drew) := Lib.hid (HXd.out.mono HBz.out)
            have HKd := HXd
            have HLd := Lib.hid (HL.out.below HXd.out)
            obtain ⟨-, hl0, b, u, rfl, hb, hu, hok, hc⟩ := HH.out.el HXd.out 0 hN0
            obtain ⟨um, cm, hue⟩ := hu.slice
            have hbl := HD.out _ (List.getElem_mem hl0)
            obtain ⟨x, hx⟩ : ∃ x, L.heard[0] = x := ⟨_, rfl⟩
            rw [hx] at hc hue hu hok hbl
            obtain ⟨m0, ⟨m1, m2⟩, ⟨m3, m4⟩, ⟨m5, m6, m7, m8, m9, m10, m11, m12⟩, m13, m14⟩ := x
            obtain ⟨dm, hdm⟩ : ∃ d, m14.length = d := ⟨_, rfl⟩
            simp only [hdm] at hue
            subst hue
            have HRm : Hid (IK.Rd w7.drew (.slice um dm cm) m14 ∧ okL m14 ∧ m14.length ≤ 60) := Lib.hid ⟨(hu.rd).below HXd.out, hok, hbl⟩
            have y23 : w7.drew.cell? ⟨g, 23, none⟩ = some (.slice (some ⟨b, 0, none⟩) k c) := (HXd.out.cell (p := ⟨g, 23, none⟩) HGl.out).trans HG.out
            have y5 : w7.drew.cell? ⟨b, 5, none⟩ = some (.int .i64 m5) := by simpa using hc 5 _ rfl
            have y6 : w7.drew.cell? ⟨b, 6, none⟩ = some (.int .i64 m6) := by simpa using hc 6 _ rfl
            have y7 : w7.drew.cell? ⟨b, 7, none⟩ = some (.int .i64 m7) := by simpa using hc 7 _ rfl
            have y8 : w7.drew.cell? ⟨b, 8, none⟩ = some (.string m8) := by simpa using hc 8 _ rfl
            have y9 : w7.drew.cell? ⟨b, 9, none⟩ = some (.string m9) := by simpa using hc 9 _ rfl
            have y10 : w7.drew.cell? ⟨b, 10, none⟩ = some (.int .i64 m10) := by simpa using hc 10 _ rfl
            have y11 : w7.drew.cell? ⟨b, 11, none⟩ = some (.int .i64 m11) := by simpa using hc 11 _ rfl
            have y12 : w7.drew.cell? ⟨b, 12, none⟩ = some (.int .i64 m12) := by simpa using hc 12 _ rfl
            have y13 : w7.drew.cell? ⟨b, 13, none⟩ = some (.int .i64 m13) := by simpa using hc 13 _ rfl
            have y14 : w7.drew.cell? ⟨b, 14, none⟩ = some (.slice um dm cm) := by simpa using hc 14 _ rfl
            clear hc hu hok hx hbl hdm HPb HP7
            go_wp2_with fail
            refine wp_region_held_drew (S := (fun _ => True)) (by kernel_rfl) ?_ (fun hHeld => ?_)
            · (trivial)
            refine wpAnyH_take (i := 0) (v := ?_) rfl (by kernel_rfl) (by kernel_rfl) (by kernel_rfl) (fun _ _ _ h => h) (Or.inl ⟨by rfl, ?_⟩) (by assumption) ?_
            rotate_left
            · (intro w hSw; (try dsimp only at hSw); go_simp; try rfl)
            try simp only [Act.put, List.setIfInBounds_toArray, List.set_cons_zero, List.set_cons_succ, List.getElem_toArray, List.getElem_cons_zero, List.getElem_cons_succ]
            refine wpAnyH_take (i := 1) (v := ?_) rfl (by kernel_rfl) (by kernel_rfl) (by kernel_rfl) (fun _ _ _ h => h) (Or.inl ⟨by rfl, ?_⟩) (by assumption) ?_
            rotate_left
            · (intro w hSw; (try dsimp only at hSw); go_simp; try rfl)
            try simp only [Act.put, List.setIfInBounds_toArray, List.set_cons_zero, List.set_cons_succ, List.getElem_toArray, List.getElem_cons_zero, List.getElem_cons_succ]
            refine wpAnyH_take (i := 2) (v := ?_) rfl (by kernel_rfl) (by kernel_rfl) (by kernel_rfl) (fun _ _ _ h => h) (Or.inl ⟨by rfl, ?_⟩) (by assumption) ?_
            rotate_left
            · (intro w hSw; (try dsimp only at hSw); go_simp; try rfl)
            try simp only [Act.put, List.setIfInBounds_toArray, List.set_cons_zero, List.set_cons_succ, List.getElem_toArray, List.getElem_cons_zero, List.getElem_cons_succ]
            refine wpAnyH_take (i := 3) (v := ?_) rfl (by kernel_rfl) (by kernel_rfl) (by kernel_rfl) (fun _ _ _ h => h) (Or.inl ⟨by rfl, ?_⟩) (by assumption) ?_
            rotate_left
            · (intro w hSw; (try dsimp only at hSw); go_simp; try rfl)
            try simp only [Act.put, List.setIfInBounds_toArray, List.set_cons_zero, List.set_cons_succ, List.getElem_toArray, List.getElem_cons_zero, List.getElem_cons_succ]
            refine wpAnyH_take (i := 8) (v := ?_) rfl (by kernel_rfl) (by kernel_rfl) (by kernel_rfl) (fun _ _ _ h => h) (Or.inl ⟨by rfl, ?_⟩) (by assumption) ?_
            rotate_left
            · (intro w hSw; (try dsimp only at hSw); go_simp; try rfl)
            try simp only [Act.put, List.setIfInBounds_toArray, List.set_cons_zero, List.set_cons_succ, List.getElem_toArray, List.getElem_cons_zero, List.getElem_cons_succ]
            refine wpAnyH_take (i := 9) (v := ?_) rfl (by kernel_rfl) (by kernel_rfl) (by kernel_rfl) (fun _ _ _ h => h) (Or.inl ⟨by rfl, ?_⟩) (by assumption) ?_
            rotate_left
            · (intro w hSw; (try dsimp only at hSw); go_simp; try rfl)
            try simp only [Act.put, List.setIfInBounds_toArray, List.set_cons_zero, List.set_cons_succ, List.getElem_toArray, List.getElem_cons_zero, List.getElem_cons_succ]
            refine wpAnyH_take (i := 10) (v := ?_) rfl (by kernel_rfl) (by kernel_rfl) (by kernel_rfl) (fun _ _ _ h => h) (Or.inl ⟨by rfl, ?_⟩) (by assumption) ?_
            rotate_left
            · (intro w hSw; (try dsimp only at hSw); go_simp; try rfl)
            try simp only [Act.put, List.setIfInBounds_toArray, List.set_cons_zero, List.set_cons_succ, List.getElem_toArray, List.getElem_cons_zero, List.getElem_cons_succ]
            refine wpAnyH_ready (rs := [4, 11]) (by kernel_rfl) (by simp) ?_
            refine (AllReadyH.cons rfl (fun K hK => ?_) (AllReadyH.cons rfl (fun K hK => ?_) AllReadyH.nil))
            ·
              go_simp
              refine hK.out _ _ ?_ (fun hHeld => ?_)
              · (trivial)
              clear hK K
              try simp only [Act.put, List.setIfInBounds_toArray, List.set_cons_zero, List.set_cons_succ, List.getElem_toArray, List.getElem_cons_zero, List.getElem_cons_succ]
              refine wpAnyH_take (i := 5) (v := ?_) rfl (by kernel_rfl) (by kernel_rfl) (by kernel_rfl) (fun _ _ _ h => h) (Or.inl ⟨by rfl, ?_⟩) (by assumption) ?_
              rotate_left
              · (intro w hSw; (try dsimp only at hSw); go_simp; try rfl)
              try simp only [Act.put, List.setIfInBounds_toArray, List.set_cons_zero, List.set_cons_succ, List.getElem_toArray, List.getElem_cons_zero, List.getElem_cons_succ]
              refine wpAnyH_take (i := 6) (v := ?_) rfl (by kernel_rfl) (by kernel_rfl) (by kernel_rfl) (fun _ _ _ h => h) (Or.inl ⟨by rfl, ?_⟩) (by assumption) ?_
              rotate_left
              · (intro w hSw; (try dsimp only at hSw); go_simp; try rfl)
              try simp only [Act.put, List.setIfInBounds_toArray, List.set_cons_zero, List.set_cons_succ, List.getElem_toArray, List.getElem_cons_zero, List.getElem_cons_succ]
              refine wpAnyH_ready (rs := [7, 11]) (by kernel_rfl) (by simp) ?_
              refine (AllReadyH.cons rfl (fun K hK => ?_) (AllReadyH.cons rfl (fun K hK => ?_) AllReadyH.nil))
              ·
                go_simp
                refine hK.out _ _ ?_ (fun hHeld => ?_)
                · (trivial)
                clear hK K
                try simp only [Act.put, List.setIfInBounds_toArray, List.set_cons_zero, List.set_cons_succ, List.getElem_toArray, List.getElem_cons_zero, List.getElem_cons_succ]
                refine wpAnyH_ready (rs := [11]) (by kernel_rfl) (by simp) ?_
                refine (AllReadyH.cons rfl (fun K hK => ?_) AllReadyH.nil)
                go_simp
                refine hK.out _ _ ?_ (fun hHeld => ?_)
                · (trivial)
                clear hK K
                try simp only [Act.put, List.setIfInBounds_toArray, List.set_cons_zero, List.set_cons_succ, List.getElem_toArray, List.getElem_cons_zero, List.getElem_cons_succ]
                refine wpAnyH_take (i := 12) (v := ?_) rfl (by kernel_rfl) (by kernel_rfl) (by kernel_rfl) (fun _ _ _ h => h) (Or.inl ⟨by rfl, ?_⟩) (by assumption) ?_
                rotate_left
                · (intro w hSw; (try dsimp only at hSw); go_simp; try rfl)
                try simp only [Act.put, List.setIfInBounds_toArray, List.set_cons_zero, List.set_cons_succ, List.getElem_toArray, List.getElem_cons_zero, List.getElem_cons_succ]
                refine wpAnyH_take (i := 13) (v := ?_) rfl (by kernel_rfl) (by kernel_rfl) (by kernel_rfl) (fun _ _ _ h => h) (Or.inl ⟨by rfl, ?_⟩) (by assumption) ?_
                rotate_left
                · (intro w hSw; (try dsimp only at hSw); go_simp; try rfl)
                try simp only [Act.put, List.setIfInBounds_toArray, List.set_cons_zero, List.set_cons_succ, List.getElem_toArray, List.getElem_cons_zero, List.getElem_cons_succ]
                refine wpAnyH_ready (rs := [14]) (by kernel_rfl) (by simp) ?_
                refine (AllReadyH.cons rfl (fun K hK => ?_) AllReadyH.nil)
                go_simp
                refine hK.out _ _ ?_ (fun hHeld => ?_)
                · (trivial)
                clear hK K
                try simp only [Act.put, List.setIfInBounds_toArray, List.set_cons_zero, List.set_cons_succ, List.getElem_toArray, List.getElem_cons_zero, List.getElem_cons_succ]
                refine wpAnyH_ready (rs := [15]) (by kernel_rfl) (by simp) ?_
                refine (AllReadyH.cons rfl (fun K hK => ?_) AllReadyH.nil)
                go_simp
                (go_at_call 32; refine (enter_any HLd.out 1 ⟨m5, m6, m7, m8, m9, m10, m11, m12⟩ m13 _ m14 HRm.out.1 HRm.out.2.1 (Nat.le_trans HRm.out.2.2 (by omega))).mono ?_; rintro e w6 ⟨he, hL6, hb6, hs6⟩; have he := he.out; subst he)
                refine hK.out _ _ ?_ (fun hHeld => ?_)
                · (trivial)
                clear hK K
                try simp only [Act.put, List.setIfInBounds_toArray, List.set_cons_zero, List.set_cons_succ, List.getElem_toArray, List.getElem_cons_zero, List.getElem_cons_succ]
                refine wpAnyH_done (by kernel_rfl) ?_ _
                have HL6 := Lib.hid hL6
                have HB6 := Lib.hid (HBd.out.trans hb6)
                have HK6 := Lib.hid ((Kt.below HKd.out).trans (Kt.ent hs6 HLd.out))
                clear hL6 hb6 hs6
                go_wp2
                go_end0
                exact ⟨1, ⟨m5, m6, m7, m8, m9, m10, m11, m12⟩, (m13, m14), .inr rfl, HRm.out.2.2, rfl, HL6.out, HB6.out, HK6.out⟩
              ·
                go_simp
                refine hK.out _ _ ?_ (fun hHeld => ?_)
                · (trivial)
                clear hK K
                try simp only [Act.put, List.setIfInBounds_toArray, List.set_cons_zero, List.set_cons_succ, List.getElem_toArray, List.getElem_cons_zero, List.getElem_cons_succ]
                refine wpAnyH_take (i := 12) (v := ?_) rfl (by kernel_rfl) (by kernel_rfl) (by kernel_rfl) (fun _ _ _ h => h) (Or.inl ⟨by rfl, ?_⟩) (by assumption) ?_
                rotate_left
                · (intro w hSw; (try dsimp only at hSw); go_simp; try rfl)
                try simp only [Act.put, List.setIfInBounds_toArray, List.set_cons_zero, List.set_cons_succ, List.getElem_toArray, List.getElem_cons_zero, List.getElem_cons_succ]
                refine wpAnyH_take (i := 13) (v := ?_) rfl (by kernel_rfl) (by kernel_rfl) (by kernel_rfl) (fun _ _ _ h => h) (Or.inl ⟨by rfl, ?_⟩) (by assumption) ?_
                rotate_left
                · (intro w hSw; (try dsimp only at hSw); go_simp; try rfl)
                try simp only [Act.put, List.setIfInBounds_toArray, List.set_cons_zero, List.set_cons_succ, List.getElem_toArray, List.getElem_cons_zero, List.getElem_cons_succ]
                refine wpAnyH_ready (rs := [7, 14]) (by kernel_rfl) (by simp) ?_
                refine (AllReadyH.cons rfl (fun K hK => ?_) (AllReadyH.cons rfl (fun K hK => ?_) AllReadyH.nil))
                ·
                  go_simp
                  refine hK.out _ _ ?_ (fun hHeld => ?_)
                  · (trivial)
                  clear hK K
                  try simp only [Act.put, List.setIfInBounds_toArray, List.set_cons_zero, List.set_cons_succ, List.getElem_toArray, List.getElem_cons_zero, List.getElem_cons_succ]
                  refine wpAnyH_ready (rs := [14]) (by kernel_rfl) (by simp) ?_
                  refine (AllReadyH.cons rfl (fun K hK => ?_) AllReadyH.nil)
                  go_simp
                  refine hK.out _ _ ?_ (fun hHeld => ?_)
                  · (trivial)
                  clear hK K
                  try simp only [Act.put, List.setIfInBounds_toArray, List.set_cons_zero, List.set_cons_succ, List.getElem_toArray, List.getElem_cons_zero, List.getElem_cons_succ]
                  refine wpAnyH_ready (rs := [15]) (by kernel_rfl) (by simp) ?_
                  refine (AllReadyH.cons rfl (fun K hK => ?_) AllReadyH.nil)
                  go_simp
                  (go_at_call 32; refine (enter_any HLd.out 1 ⟨m5, m6, m7, m8, m9, m10, m11, m12⟩ m13 _ m14 HRm.out.1 HRm.out.2.1 (Nat.le_trans HRm.out.2.2 (by omega))).mono ?_; rintro e w6 ⟨he, hL6, hb6, hs6⟩; have he := he.out; subst he)
                  refine hK.out _ _ ?_ (fun hHeld => ?_)
                  · (trivial)
                  clear hK K
                  try simp only [Act.put, List.setIfInBounds_toArray, List.set_cons_zero, List.set_cons_succ, List.getElem_toArray, List.getElem_cons_zero, List.getElem_cons_succ]
                  refine wpAnyH_done (by kernel_rfl) ?_ _
                  have HL6 := Lib.hid hL6
                  have HB6 := Lib.hid (HBd.out.trans hb6)
                  have HK6 := Lib.hid ((Kt.below HKd.out).trans (Kt.ent hs6 HLd.out))
                  clear hL6 hb6 hs6
                  go_wp2
                  go_end0
                  exact ⟨1, ⟨m5, m6, m7, m8, m9, m10, m11, m12⟩, (m13, m14), .inr rfl, HRm.out.2.2, rfl, HL6.out, HB6.out, HK6.out⟩
                ·
                  go_simp
                  refine hK.out _ _ ?_ (fun hHeld => ?_)
                  · (trivial)
                  clear hK K
                  try simp only [Act.put, List.setIfInBounds_toArray, List.set_cons_zero, List.set_cons_succ, List.getElem_toArray, List.getElem_cons_zero, List.getElem_cons_succ]
                  refine wpAnyH_ready (rs := [7]) (by kernel_rfl) (by simp) ?_
                  refine (AllReadyH.cons rfl (fun K hK => ?_) AllReadyH.nil)
                  go_simp
                  refine hK.out _ _ ?_ (fun hHeld => ?_)
                  · (trivial)
                  clear hK K
                  try simp only [Act.put, List.setIfInBounds_toArray, List.set_cons_zero, List.set_cons_succ, List.getElem_toArray, List.getElem_cons_zero, List.getElem_cons_succ]
                  refine wpAnyH_ready (rs := [15]) (by kernel_rfl) (by simp) ?_
                  refine (AllReadyH.cons rfl (fun K hK => ?_) AllReadyH.nil)
                  go_simp
                  (go_at_call 32; refine (enter_any HLd.out 1 ⟨m5, m6, m7, m8, m9, m10, m11, m12⟩ m13 _ m14 HRm.out.1 HRm.out.2.1 (Nat.le_trans HRm.out.2.2 (by omega))).mono ?_; rintro e w6 ⟨he, hL6, hb6, hs6⟩; have he := he.out; subst he)
                  refine hK.out _ _ ?_ (fun hHeld => ?_)
                  · (trivial)
                  clear hK K
                  try simp only [Act.put, List.setIfInBounds_toArray, List.set_cons_zero, List.set_cons_succ, List.getElem_toArray, List.getElem_cons_zero, List.getElem_cons_succ]
                  refine wpAnyH_done (by kernel_rfl) ?_ _
                  have HL6 := Lib.hid hL6
                  have HB6 := Lib.hid (HBd.out.trans hb6)
                  have HK6 := Lib.hid ((Kt.below HKd.out).trans (Kt.ent hs6 HLd.out))
                  clear hL6 hb6 hs6
                  go_wp2
                  go_end0
                  exact ⟨1, ⟨m5, m6, m7, m8, m9, m10, m11, m12⟩, (m13, m14), .inr rfl, HRm.out.2.2, rfl, HL6.out, HB6.out, HK6.out⟩
            ·
              go_simp
              refine hK.out _ _ ?_ (fun hHeld => ?_)
              · (trivial)
              clear hK K
              try simp only [Act.put, List.setIfInBounds_toArray, List.set_cons_zero, List.set_cons_succ, List.getElem_toArray, List.getElem_cons_zero, List.getElem_cons_succ]
              refine wpAnyH_take (i := 12) (v := ?_) rfl (by kernel_rfl) (by kernel_rfl) (by kernel_rfl) (fun _ _ _ h => h) (Or.inl ⟨by rfl, ?_⟩) (by assumption) ?_
              rotate_left
              · (intro w hSw; (try dsimp only at hSw); go_simp; try rfl)
              try simp only [Act.put, List.setIfInBounds_toArray, List.set_cons_zero, List.set_cons_succ, List.getElem_toArray, List.getElem_cons_zero, List.getElem_cons_succ]
              refine wpAnyH_take (i := 13) (v := ?_) rfl (by kernel_rfl) (by kernel_rfl) (by kernel_rfl) (fun _ _ _ h => h) (Or.inl ⟨by rfl, ?_⟩) (by assumption) ?_
              rotate_left
              · (intro w hSw; (try dsimp only at hSw); go_simp; try rfl)
              try simp only [Act.put, List.setIfInBounds_toArray, List.set_cons_zero, List.set_cons_succ, List.getElem_toArray, List.getElem_cons_zero, List.getElem_cons_succ]
              refine wpAnyH_ready (rs := [4, 14]) (by kernel_rfl) (by simp) ?_
              refine (AllReadyH.cons rfl (fun K hK => ?_) (AllReadyH.cons rfl (fun K hK => ?_) AllReadyH.nil))
              ·
                go_simp
                refine hK.out _ _ ?_ (fun hHeld => ?_)
                · (trivial)
                clear hK K
                try simp only [Act.put, List.setIfInBounds_toArray, List.set_cons_zero, List.set_cons_succ, List.getElem_toArray, List.getElem_cons_zero, List.getElem_cons_succ]
                refine wpAnyH_take (i := 5) (v := ?_) rfl (by kernel_rfl) (by kernel_rfl) (by kernel_rfl) (fun _ _ _ h => h) (Or.inl ⟨by rfl, ?_⟩) (by assumption) ?_
                rotate_left
                · (intro w hSw; (try dsimp only at hSw); go_simp; try rfl)
                try simp only [Act.put, List.setIfInBounds_toArray, List.set_cons_zero, List.set_cons_succ, List.getElem_toArray, List.getElem_cons_zero, List.getElem_cons_succ]
                refine wpAnyH_take (i := 6) (v := ?_) rfl (by kernel_rfl) (by kernel_rfl) (by kernel_rfl) (fun _ _ _ h => h) (Or.inl ⟨by rfl, ?_⟩) (by assumption) ?_
                rotate_left
                · (intro w hSw; (try dsimp only at hSw); go_simp; try rfl)
                try simp only [Act.put, List.setIfInBounds_toArray, List.set_cons_zero, List.set_cons_succ, List.getElem_toArray, List.getElem_cons_zero, List.getElem_cons_succ]
                refine wpAnyH_ready (rs := [7, 14]) (by kernel_rfl) (by simp) ?_
                refine (AllReadyH.cons rfl (fun K hK => ?_) (AllReadyH.cons rfl (fun K hK => ?_) AllReadyH.nil))
                ·
                  go_simp
                  refine hK.out _ _ ?_ (fun hHeld => ?_)
                  · (trivial)
                  clear hK K
                  try simp only [Act.put, List.setIfInBounds_toArray, List.set_cons_zero, List.set_cons_succ, List.getElem_toArray, List.getElem_cons_zero, List.getElem_cons_succ]
                  refine wpAnyH_ready (rs := [14]) (by kernel_rfl) (by simp) ?_
                  refine (AllReadyH.cons rfl (fun K hK => ?_) AllReadyH.nil)
                  go_simp
                  refine hK.out _ _ ?_ (fun hHeld => ?_)
                  · (trivial)
                  clear hK K
                  try simp only [Act.put, List.setIfInBounds_toArray, List.set_cons_zero, List.set_cons_succ, List.getElem_toArray, List.getElem_cons_zero, List.getElem_cons_succ]
                  refine wpAnyH_ready (rs := [15]) (by kernel_rfl) (by simp) ?_
                  refine (AllReadyH.cons rfl (fun K hK => ?_) AllReadyH.nil)
                  go_simp
                  (go_at_call 32; refine (enter_any HLd.out 1 ⟨m5, m6, m7, m8, m9, m10, m11, m12⟩ m13 _ m14 HRm.out.1 HRm.out.2.1 (Nat.le_trans HRm.out.2.2 (by omega))).mono ?_; rintro e w6 ⟨he, hL6, hb6, hs6⟩; have he := he.out; subst he)
                  refine hK.out _ _ ?_ (fun hHeld => ?_)
                  · (trivial)
                  clear hK K
                  try simp only [Act.put, List.setIfInBounds_toArray, List.set_cons_zero, List.set_cons_succ, List.getElem_toArray, List.getElem_cons_zero, List.getElem_cons_succ]
                  refine wpAnyH_done (by kernel_rfl) ?_ _
                  have HL6 := Lib.hid hL6
                  have HB6 := Lib.hid (HBd.out.trans hb6)
                  have HK6 := Lib.hid ((Kt.below HKd.out).trans (Kt.ent hs6 HLd.out))
                  clear hL6 hb6 hs6
                  go_wp2
                  go_end0
                  exact ⟨1, ⟨m5, m6, m7, m8, m9, m10, m11, m12⟩, (m13, m14), .inr rfl, HRm.out.2.2, rfl, HL6.out, HB6.out, HK6.out⟩
                ·
                  go_simp
                  refine hK.out _ _ ?_ (fun hHeld => ?_)
                  · (trivial)
                  clear hK K
                  try simp only [Act.put, List.setIfInBounds_toArray, List.set_cons_zero, List.set_cons_succ, List.getElem_toArray, List.getElem_cons_zero, List.getElem_cons_succ]
                  refine wpAnyH_ready (rs := [7]) (by kernel_rfl) (by simp) ?_
                  refine (AllReadyH.cons rfl (fun K hK => ?_) AllReadyH.nil)
                  go_simp
                  refine hK.out _ _ ?_ (fun hHeld => ?_)
                  · (trivial)
                  clear hK K
                  try simp only [Act.put, List.setIfInBounds_toArray, List.set_cons_zero, List.set_cons_succ, List.getElem_toArray, List.getElem_cons_zero, List.getElem_cons_succ]
                  refine wpAnyH_ready (rs := [15]) (by kernel_rfl) (by simp) ?_
                  refine (AllReadyH.cons rfl (fun K hK => ?_) AllReadyH.nil)
                  go_simp
                  (go_at_call 32; refine (enter_any HLd.out 1 ⟨m5, m6, m7, m8, m9, m10, m11, m12⟩ m13 _ m14 HRm.out.1 HRm.out.2.1 (Nat.le_trans HRm.out.2.2 (by omega))).mono ?_; rintro e w6 ⟨he, hL6, hb6, hs6⟩; have he := he.out; subst he)
                  refine hK.out _ _ ?_ (fun hHeld => ?_)
                  · (trivial)
                  clear hK K
                  try simp only [Act.put, List.setIfInBounds_toArray, List.set_cons_zero, List.set_cons_succ, List.getElem_toArray, List.getElem_cons_zero, List.getElem_cons_succ]
                  refine wpAnyH_done (by kernel_rfl) ?_ _
                  have HL6 := Lib.hid hL6
                  have HB6 := Lib.hid (HBd.out.trans hb6)
                  have HK6 := Lib.hid ((Kt.below HKd.out).trans (Kt.ent hs6 HLd.out))
                  clear hL6 hb6 hs6
                  go_wp2
                  go_end0
                  exact ⟨1, ⟨m5, m6, m7, m8, m9, m10, m11, m12⟩, (m13, m14), .inr rfl, HRm.out.2.2, rfl, HL6.out, HB6.out, HK6.out⟩
              ·
                go_simp
                refine hK.out _ _ ?_ (fun hHeld => ?_)
                · (trivial)
                clear hK K
                try simp only [Act.put, List.setIfInBounds_toArray, List.set_cons_zero, List.set_cons_succ, List.getElem_toArray, List.getElem_cons_zero, List.getElem_cons_succ]
                refine wpAnyH_ready (rs := [4]) (by kernel_rfl) (by simp) ?_
                refine (AllReadyH.cons rfl (fun K hK => ?_) AllReadyH.nil)
                go_simp
                refine hK.out _ _ ?_ (fun hHeld => ?_)
                · (trivial)
                clear hK K
                try simp only [Act.put, List.setIfInBounds_toArray, List.set_cons_zero, List.set_cons_succ, List.getElem_toArray, List.getElem_cons_zero, List.getElem_cons_succ]
                refine wpAnyH_take (i := 5) (v := ?_) rfl (by kernel_rfl) (by kernel_rfl) (by kernel_rfl) (fun _ _ _ h => h) (Or.inl ⟨by rfl, ?_⟩) (by assumption) ?_
                rotate_left
                · (intro w hSw; (try dsimp only at hSw); go_simp; try rfl)
                try simp only [Act.put, List.setIfInBounds_toArray, List.set_cons_zero, List.set_cons_succ, List.getElem_toArray, List.getElem_cons_zero, List.getElem_cons_succ]
                refine wpAnyH_take (i := 6) (v := ?_) rfl (by kernel_rfl) (by kernel_rfl) (by kernel_rfl) (fun _ _ _ h => h) (Or.inl ⟨by rfl, ?_⟩) (by assumption) ?_
                rotate_left
                · (intro w hSw; (try dsimp only at hSw); go_simp; try rfl)
                try simp only [Act.put, List.setIfInBounds_toArray, List.set_cons_zero, List.set_cons_succ, List.getElem_toArray, List.getElem_cons_zero, List.getElem_cons_succ]
                refine wpAnyH_ready (rs := [7]) (by kernel_rfl) (by simp) ?_
                refine (AllReadyH.cons rfl (fun K hK => ?_) AllReadyH.nil)
                go_simp
                refine hK.out _ _ ?_ (fun hHeld => ?_)
                · (trivial)
                clear hK K
                try simp only [Act.put, List.setIfInBounds_toArray, List.set_cons_zero, List.set_cons_succ, List.getElem_toArray, List.getElem_cons_zero, List.getElem_cons_succ]
                refine wpAnyH_ready (rs := [15]) (by kernel_rfl) (by simp) ?_
                refine (AllReadyH.cons rfl (fun K hK => ?_) AllReadyH.nil)
                go_simp
                (go_at_call 32; refine (enter_any HLd.out 1 ⟨m5, m6, m7, m8, m9, m10, m11, m12⟩ m13 _ m14 HRm.out.1 HRm.out.2.1 (Nat.le_trans HRm.out.2.2 (by omega))).mono ?_; rintro e w6 ⟨he, hL6, hb6, hs6⟩; have he := he.out; subst he)
                refine hK.out _ _ ?_ (fun hHeld => ?_)
                · (trivial)
                clear hK K
                try simp only [Act.put, List.setIfInBounds_toArray, List.set_cons_zero, List.set_cons_succ, List.getElem_toArray, List.getElem_cons_zero, List.getElem_cons_succ]
                refine wpAnyH_done (by kernel_rfl) ?_ _
                have HL6 := Lib.hid hL6
                have HB6 := Lib.hid (HBd.out.trans hb6)
                have HK6 := Lib.hid ((Kt.below HKd.out).trans (Kt.ent hs6 HLd.out))
                clear hL6 hb6 hs6
                go_wp2
                go_end0
                exact ⟨1, ⟨m5, m6, m7, m8, m9, m10, m11, m12⟩, (m13, m14), .inr rfl, HRm.out.2.2, rfl, HL6.out, HB6.out, HK6.out⟩
end Go.Proofs.Ytplplehfkfjhnaa
