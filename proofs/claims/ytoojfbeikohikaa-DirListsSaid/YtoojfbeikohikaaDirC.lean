/-
  New, Len, Clone.
-/
import Derived.Test.YtoojfbeikohikaaDirB
import Derived.Shelf.SlMaps.Clone
import Derived.Shelf.Lay
import Derived.Ground.SlmcProg
namespace Go.Proofs.Ytoojfbeikohikaa
open Go.RowKit
open Go.MapKept Go.Shelf
set_option linter.unusedSimpArgs false
set_option linter.unusedVariables false

shelf_lay_g SlLaysW.n5 Slmc 5 at Try 32 as Try.cloneD
theorem new_any (w : World) : Calls Try.prog 12 #[] w fun e w' => e = .returned (dP (w.heap.size + 1)) ∧ DirAt w' (w.heap.size + 1) w.heap.size 0 [] ∧ Below w.heap.size w w' := by
  have hmm := @run_makeMap Try.prog
  go_enter Try.func12, Try.ntmps12
  go_wp2
  go_ret
  refine ⟨rfl, ⟨by simp [go_sem], ⟨.map [], 0, Nat.le_refl _, ?_, DirIs.empty⟩, List.Pairwise.nil, (fun e he => by cases he)⟩, ((Below.refl _ _).alloc (Nat.le_refl _) _).alloc (by simp) _⟩
  exact (World.ownsMap_made (H := Unit) w Try.prog 9 heldElem).alloc _
theorem len_any (d bk K : Nat) (l : List E3) (w : World) (hd : DirAt w d bk K l) : Calls Try.prog 17 #[dP d] w fun e w' => e = .returned (.int .i64 l.length) ∧ Below w.heap.size w w' := by
  obtain ⟨D, m, hm, hM, hI⟩ := hd.map
  have c0 := hd.cell
  have HM := Lib.hid hM
  have HS := Lib.hid hI.size
  clear hM hI hd hm
  go_enter Try.func17, Try.ntmps17
  go_wp2_with (at_len; refine wpList_len_own _ rfl _ 53 rfl 9 63 Try.underlying53 heldElem bk m D rfl HM.out ?_; rw [HS.out])
  go_ret
  exact ⟨rfl, Below.refl _ _⟩
def ClP (K : Nat) (l : List E3) (w : World) (e : Ending) (w' : World) : Prop := ∃ d2 b2, Hid (e = .returned (dP d2)) ∧ DirAt w' d2 b2 K l ∧ w.heap.size ≤ d2 ∧ w.heap.size ≤ b2 ∧ Below w.heap.size w w'
theorem clone_any (d bk K : Nat) (l : List E3) (w : World) (hd : DirAt w d bk K l) : Calls Try.prog 19 #[dP d] w (ClP K l w) := by
  obtain ⟨D, m, hm, hM, hI⟩ := hd.map
  have c0 := hd.cell
  have HC := Lib.hid (AnyW.maps_Clone_owns Try.cloneD 9 heldElem bk m D w hM)
  have HI := Lib.hid hI
  have HMM := Lib.hid hm
  have HD := Lib.hid hd
  clear hM hI hd hm
  go_enter Try.func19, Try.ntmps19
  go_wp2_with (go_at_call 32; refine HC.out.mono ?_; rintro e w1 ⟨rfl, ho, _, hb⟩; have HO := Lib.hid ho; have HB := Lib.hid hb; clear ho hb)
  go_ret
  refine ⟨w1.heap.size, w.heap.size, rfl, ⟨by simp [go_sem], ⟨D, m, HMM.out, HO.out.alloc _, HI.out⟩, HD.out.rise, HD.out.keys⟩, HB.out.size, Nat.le_refl _, HB.out.alloc HB.out.size _⟩
end Go.Proofs.Ytoojfbeikohikaa
