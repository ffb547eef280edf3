/-
  The walks of package config: who is without, and who is lacking; the search of the library.
-/
import Derived.Test.YtacjmcjmenbekaaCfg2
import Derived.IntWalk
namespace Go.Proofs.Ytacjmcjmenbekaa
open Go.RowKit
set_option linter.unusedSimpArgs false
set_option linter.unusedVariables false

set_option maxHeartbeats 400000 in
theorem wo1_any (n x : Int) (g : Nat) (w : World) (hc : w.cell? ⟨g, 0, none⟩ = some (.int .i64 x)) : Calls Try.prog 38 #[.int .i64 n, .pointer (some ⟨g, 0, none⟩)] w fun e w' => e = .returned (.bool (!(n == x))) ∧ w = w' := by
  by_cases h : n = x
  · subst h
    have e1 : (!(n == n)) = false := by simp
    rw [e1]; clear e1
    have e2 : (n != n) = false := by simp
    go_enter Try.func38, Try.ntmps38
    go_wp2
    go_ret
    exact ⟨rfl, rfl⟩
  · have e1 : (!(n == x)) = true := by simpa using h
    rw [e1]; clear e1
    have e2 : (n != x) = true := by simpa using h
    go_enter Try.func38, Try.ntmps38
    go_wp2
    go_ret
    exact ⟨rfl, rfl⟩
set_option maxHeartbeats 400000 in
theorem la1_any (n ep : Int) (a : Option Addr) (cap : Nat) (ms : List Int) (g : Nat) (w : World) (c0 : w.cell? ⟨g, 0, none⟩ = some (.int .i64 ep)) (c1 : w.cell? ⟨g, 1, none⟩ = some (.slice a ms.length cap)) (hr : IRow w a ms) :
    Calls Try.prog 34 #[.int .i64 n, .pointer (some ⟨g, 0, none⟩)] w fun e w' => e = .returned (.bool (!inB n ms)) ∧ Below w.heap.size w w' := by
  have HR := Lib.hid hr
  clear hr
  cases q : inB n ms
  · have Q := Lib.hid q
    clear q
    go_enter Try.func34, Try.ntmps34
    go_wp2_with (go_at_call 15; refine (has_any _ _ _ _ ms _ HR.out).mono ?_; rw [Q.out]; rintro e w' ⟨rfl, hb⟩; have HB := Lib.hid hb; clear hb)
    go_ret
    exact ⟨rfl, HB.out⟩
  · have Q := Lib.hid q
    clear q
    go_enter Try.func34, Try.ntmps34
    go_wp2_with (go_at_call 15; refine (has_any _ _ _ _ ms _ HR.out).mono ?_; rw [Q.out]; rintro e w' ⟨rfl, hb⟩; have HB := Lib.hid hb; clear hb)
    go_ret
    exact ⟨rfl, HB.out⟩
set_option maxHeartbeats 400000 in
theorem without_any (x : Int) (a : Option Addr) (cap : Nat) (ns : List Int) (w : World) (hr : IRow w a ns) (hn : ns.length ≤ 1000) : Calls Try.prog 36 #[.slice a ns.length cap, .int .i64 x] w (PickPost (del x ns) w) := by
  have hbel : Below w.heap.size w (w.alloc (.cells #[.int .i64 x] 3)) := (Below.refl _ _).alloc (Nat.le_refl _) _
  have HR := Lib.hid (hr.below hbel)
  have HB := Lib.hid hbel
  clear hbel hr
  have hc0 : Hid ((w.alloc (.cells #[.int .i64 x] 3)).cell? ⟨w.heap.size, 0, none⟩ = some (.int .i64 x)) := by
    have := cell_of_row _ _ 0 _ _ _ (heap_alloc_new w (.cells #[.int .i64 x] 3))
    simp only [Hid]
    exact this
  go_enter Try.func36, Try.ntmps36
  go_wp2_with fail
  refine (pick_w (fun n => !(n == x)) w.heap.size a cap ns _ HR.out hn (fun n W hb => (wo1_any n x _ W ((hb.cell (by simp)).trans hc0.out)).mono (by rintro e w' ⟨rfl, rfl⟩; exact ⟨rfl, Below.refl _ _⟩))).mono ?_
  rintro e w1 ⟨v, he, hi, hb⟩
  subst he
  have HI := Lib.hid (hi.mono (show w.heap.size ≤ _ by simp))
  have HB1 := Lib.hid (HB.out.trans (hb.mono (by simp)))
  clear hi hb
  go_wp2
  go_ret
  exact ⟨v, rfl, HI.out, HB1.out⟩
set_option maxHeartbeats 1000000 in
theorem lacking_any (ep1 ep2 : Int) (a1 a2 : Option Addr) (c1 c2 : Nat) (ns ms : List Int) (w : World) (h1 : IRow w a1 ns) (h2 : IRow w a2 ms) (hn : ns.length ≤ 1000) :
    Calls Try.prog 27 #[cfgV ep1 a1 ns.length c1, cfgV ep2 a2 ms.length c2] w (PickPost (lacks ns ms) w) := by
  have hb1 : Below w.heap.size w (boxC w ep1 a1 ns.length c1) := (Below.refl _ _).alloc (Nat.le_refl _) _
  have hb2 : Below w.heap.size w (boxC (boxC w ep1 a1 ns.length c1) ep2 a2 ms.length c2) := hb1.alloc (by simp) _
  have H1 := Lib.hid (h1.below hb2)
  have H2 := Lib.hid (h2.below hb2)
  have HB := Lib.hid hb2
  have hc0 : Hid ((boxC (boxC w ep1 a1 ns.length c1) ep2 a2 ms.length c2).cell? ⟨w.heap.size + 1, 0, none⟩ = some (.int .i64 ep2)) := by simp [Hid, go_sem]
  have hc1 : Hid ((boxC (boxC w ep1 a1 ns.length c1) ep2 a2 ms.length c2).cell? ⟨w.heap.size + 1, 1, none⟩ = some (.slice a2 ms.length c2)) := by simp [Hid, go_sem]
  clear hb1 hb2 h1 h2
  go_enter Try.func27, Try.ntmps27
  go_wp2_with fail
  refine (pick_l (fun n => !inB n ms) (w.heap.size + 1) a1 c1 ns _ H1.out hn (fun n W hb => la1_any n ep2 a2 c2 ms _ W ((hb.cell (by simp)).trans hc0.out) ((hb.cell (by simp)).trans hc1.out) (H2.out.below hb))).mono ?_
  rintro e w1 ⟨v, he, hi, hb⟩
  subst he
  have HI := Lib.hid (hi.mono (show w.heap.size ≤ _ by simp; omega))
  have HB1 := Lib.hid (HB.out.trans (hb.mono (by simp; omega)))
  clear hi hb
  go_wp2
  go_ret
  exact ⟨v, rfl, HI.out, HB1.out⟩
end Go.Proofs.Ytacjmcjmenbekaa
