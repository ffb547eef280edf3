/-
  The walks of package config: replacing one; the table of the commands.
-/
import Derived.Test.YtacjmcjmenbekaaCfg6
import Derived.Maps.Own
namespace Go.Proofs.Ytacjmcjmenbekaa
open Go.RowKit
open Go.MapKept
set_option linter.unusedSimpArgs false
set_option linter.unusedVariables false

theorem keepR {w w' : World} {N : Nat} {g0 g1 g2 g3 : Addr} {x0 x1 x2 x3 v : Value} {ns : List Int} (h : Held w N [(g0, x0), (g1, x1), (g2, x2), (g3, x3)] w') (hi : It w' v ns) :
    w'.cell? g0 = some x0 ∧ w'.cell? g1 = some x1 ∧ w'.cell? g2 = some x2 ∧ w'.cell? g3 = some x3 ∧ It w' v ns ∧ Held w N [(g0, x0), (g1, x1), (g2, x2), (g3, x3)] w' :=
  ⟨h.cells.1, h.cells.2.1, h.cells.2.2.1, h.cells.2.2.2.1, hi, h⟩
set_option maxHeartbeats 1000000 in
theorem replace_any (ep : Int) (ad : Option Addr) (cap : Nat) (ns : List Int) (cl sq op : Int) (p v : ByteArray) (ver a b : Int) (w : World) (h : It w (.slice ad ns.length cap) ns) (hv : Nodes ns) :
    Calls Try.prog 31 #[cfgV ep ad ns.length cap, cmdV cl sq op p v ver a b] w (EdPost (chgRep ep ns a b) w) := by
  have bx := boxes w ep ad ns.length cap cl sq op p v ver a b
  have hs : Held w (w.heap.size + 1 + 1) [(⟨w.heap.size, 0, none⟩, .int .i64 ep), (⟨w.heap.size, 1, none⟩, .slice ad ns.length cap), (⟨w.heap.size + 1, 6, none⟩, .int .i64 a), (⟨w.heap.size + 1, 7, none⟩, .int .i64 b)] (boxX (boxC w ep ad ns.length cap) cl sq op p v ver a b) := by
    refine ⟨by simp; omega, ?_, by simp, bx, by omega⟩
    simp [AllC, go_sem]
  have HS0 := Lib.hid hs
  have HB := Lib.hid bx
  have HR := Lib.hid (h.below bx)
  have HV := Lib.hid hv
  have hl := hv.2.2.2
  have hl1 := hv.2.2.1
  have hrow : Hid (∀ {w' : World}, It w' (.slice ad ns.length cap) ns → IRow w' ad ns) := by
    rintro w' ⟨a, c, e, h1, h2⟩
    simp only [Value.slice.injEq] at e
    rw [e.1]; exact h1
  clear bx h hv hs
  cases q2 : inB a ns
  · have Q2 := Lib.hid q2
    have HE : Hid (chgRep ep ns a b = no 2) := Lib.hid (by simp [chgRep, (inB_not a ns).1 q2])
    clear q2
    go_enter Try.func31, Try.ntmps31
    go_wp2_with (go_at_call 15; refine (has_any _ _ _ _ ns _ (hrow.out HR.out)).mono ?_; rw [Q2.out]; rintro e w1 ⟨rfl, hb⟩; have HB1 := Lib.hid (below_self HB.out hb); clear hb)
    go_ret2
    rw [HE.out]
    exact ⟨_, rfl, ItF.nil _ _, HB1.out⟩
  have Q2 := Lib.hid q2
  cases q1 : isN b
  · have Q1 := Lib.hid q1
    have HE : Hid (chgRep ep ns a b = no 1) := Lib.hid (by simp [chgRep, (inB_iff a ns).1 q2, q1])
    clear q1 q2
    go_enter Try.func31, Try.ntmps31
    go_wp2_with (first
      | (go_at_call 23; refine (isNode_any _ _).mono ?_; rw [Q1.out]; rintro e w' ⟨rfl, rfl⟩)
      | (go_at_call 15; refine (has_any _ _ _ _ ns _ (hrow.out HR.out)).mono ?_; rw [Q2.out]; rintro e w1 ⟨rfl, hb⟩; obtain ⟨hc, hf⟩ := bcell hb; have hz := hb.size; have HB1 := Lib.hid (below_self HB.out hb); clear hb; simp at hz))
    go_ret2
    rw [HE.out]
    exact ⟨_, rfl, ItF.nil _ _, HB1.out⟩
  have Q1 := Lib.hid q1
  cases q3 : inB b ns
  · have Q3 := Lib.hid q3
    have HE : Hid (chgRep ep ns a b = ⟨0, ep + 1, ins b (del a ns)⟩) := Lib.hid (by simp [chgRep, (inB_iff a ns).1 q2, q1, (inB_not b ns).1 q3])
    have HD : Hid ((del a ns).length + 1 = ns.length) := Lib.hid (del_length a HV.out.1 ((inB_iff a ns).1 q2))
    clear q1 q2 q3
    go_enter Try.func31, Try.ntmps31
    go_wp2_with fail
    refine (has_any _ _ _ _ ns _ (hrow.out HR.out)).mono ?_
    rw [Q2.out]
    rintro e w1 ⟨rfl, hb⟩
    obtain ⟨hc, hf⟩ := bcell hb
    have hz := hb.size
    have HB1 := Lib.hid (below_self HB.out hb)
    have HR1 := Lib.hid (HR.out.below hb)
    have HS1 := Lib.hid (HS0.out.kept hb)
    clear hb
    simp at hz
    go_wp2_with fail
    refine (isNode_any _ _).mono ?_
    rw [Q1.out]
    rintro e w' ⟨rfl, rfl⟩
    go_wp2_with fail
    refine (has_any _ _ _ _ ns _ (hrow.out HR1.out)).mono ?_
    rw [Q3.out]
    rintro e w2 ⟨rfl, hb⟩
    have HB2 := Lib.hid (below_self HB1.out hb)
    have HR2 := Lib.hid (HR1.out.below hb)
    have HS2 := Lib.hid (HS1.out.kept hb)
    clear hb hc hf hz
    go_wp2_with fail
    go_region_held3 (fun w' => w'.cell? ⟨w.heap.size, 0, none⟩ = some (.int .i64 ep) ∧ w'.cell? ⟨w.heap.size, 1, none⟩ = some (.slice ad ns.length cap) ∧ w'.cell? ⟨w.heap.size + 1, 6, none⟩ = some (.int .i64 a) ∧ w'.cell? ⟨w.heap.size + 1, 7, none⟩ = some (.int .i64 b) ∧ It w' (.slice ad ns.length cap) ns ∧ Held w (w.heap.size + 1 + 1) [(⟨w.heap.size, 0, none⟩, .int .i64 ep), (⟨w.heap.size, 1, none⟩, .slice ad ns.length cap), (⟨w.heap.size + 1, 6, none⟩, .int .i64 a), (⟨w.heap.size + 1, 7, none⟩, .int .i64 b)] w')
      (first
        | exact keepR HS2.out HR2.out
        | exact keepR HS2.out.drew (HR2.out.below (Below.refl _ _).drew)
        | (go_split_ands; first | exact keepR (Held.kept (by assumption) (by assumption)) (It.below (by assumption) (by assumption)) | exact keepR (by assumption) (by assumption)))
      (first
        | (go_at_call 36; go_split_ands; refine (without_any a _ _ ns _ (hrow.out (by assumption)) (by omega)).mono ?_; rintro e w3 ⟨v3, rfl, ⟨hi3, _, hfl3⟩, hb3⟩)
        | (go_at_call 35; go_split_ands; refine (with_any b _ (del a ns) _ (by assumption) (del_rises a HV.out.1) (by have := HD.out; omega) hfl3).mono ?_; rintro e w4 ⟨v4, rfl, hi4, hb4⟩))
    all_goals
      go_split_ands
      have hh : Held w (w.heap.size + 1 + 1) [(⟨w.heap.size, 0, none⟩, .int .i64 ep), (⟨w.heap.size, 1, none⟩, .slice ad ns.length cap), (⟨w.heap.size + 1, 6, none⟩, .int .i64 a), (⟨w.heap.size + 1, 7, none⟩, .int .i64 b)] w4 := by assumption
      have HH := Lib.hid hh.below
      have hz3 : w.heap.size + 1 + 1 ≤ w3.heap.size := Held.size (by assumption)
      have HI := Lib.hid (hi4.mono (show w.heap.size ≤ _ by omega))
      clear hh hi4
      go_wp2
      go_ret2
      rw [HE.out]
      exact ⟨_, rfl, HI.out, HH.out⟩
  · have Q3 := Lib.hid q3
    have HE : Hid (chgRep ep ns a b = no 3) := Lib.hid (by simp [chgRep, (inB_iff a ns).1 q2, q1, (inB_iff b ns).1 q3])
    clear q1 q2 q3
    go_enter Try.func31, Try.ntmps31
    go_wp2_with fail
    refine (has_any _ _ _ _ ns _ (hrow.out HR.out)).mono ?_
    rw [Q2.out]
    rintro e w1 ⟨rfl, hb⟩
    obtain ⟨hc, hf⟩ := bcell hb
    have hz := hb.size
    have HB1 := Lib.hid (below_self HB.out hb)
    have HR1 := Lib.hid (HR.out.below hb)
    clear hb
    simp at hz
    go_wp2_with fail
    refine (isNode_any _ _).mono ?_
    rw [Q1.out]
    rintro e w' ⟨rfl, rfl⟩
    go_wp2_with fail
    refine (has_any _ _ _ _ ns _ (hrow.out HR1.out)).mono ?_
    rw [Q3.out]
    rintro e w2 ⟨rfl, hb⟩
    have HB2 := Lib.hid (below_self HB1.out hb)
    clear hb
    go_wp2
    go_ret2
    rw [HE.out]
    exact ⟨_, rfl, ItF.nil _ _, HB2.out⟩
end Go.Proofs.Ytacjmcjmenbekaa
