/-
  The walks of package config: what each command makes of the nodes.
-/
import Derived.Test.YtacjmcjmenbekaaCfg5
import Derived.Test.YtacjmcjmenbekaaHeld
namespace Go.Proofs.Ytacjmcjmenbekaa
open Go.RowKit
set_option linter.unusedSimpArgs false
set_option linter.unusedVariables false

abbrev cmdV (cl sq op : Int) (p v : ByteArray) (ver a b : Int) : Value := .agg #[.int .i64 cl, .int .i64 sq, .int .i64 op, .string p, .string v, .int .i64 ver, .int .i64 a, .int .i64 b]
abbrev boxX (w : World) (cl sq op : Int) (p v : ByteArray) (ver a b : Int) : World := w.alloc (.cells #[.int .i64 cl, .int .i64 sq, .int .i64 op, .string p, .string v, .int .i64 ver, .int .i64 a, .int .i64 b] 27)
def EdPost (c : Chg) (w : World) (e : Ending) (w' : World) : Prop := ∃ v', Hid (e = .returned (.tuple #[v', .int .i64 c.err])) ∧ ItF w' w.heap.size v' c.ns ∧ Below w.heap.size w w'
theorem flat_of {w : World} {v : Value} {ns : List Int} (h : It w v ns) (h0 : 0 < ns.length) : ∀ ad n c, v = .slice (some ad) n c → ad.spot = none := by
  intro ad n c e
  obtain ⟨g, off, c', e', _⟩ := h.cell h0
  rw [e'] at e
  simp only [Value.slice.injEq, Option.some.injEq] at e
  rw [← e.1]
theorem inB_iff (x : Int) (l : List Int) : inB x l = true ↔ x ∈ l := by simp [inB]
theorem inB_not (x : Int) (l : List Int) : inB x l = false ↔ x ∉ l := by simp [inB]
theorem boxes (w : World) (ep : Int) (ad : Option Addr) (n c : Nat) (cl sq op : Int) (p v : ByteArray) (ver a b : Int) : Below w.heap.size w (boxX (boxC w ep ad n c) cl sq op p v ver a b) := ((Below.refl _ _).alloc (Nat.le_refl _) _).alloc (by simp) _
set_option maxHeartbeats 1000000 in
theorem add_any (ep : Int) (ad : Option Addr) (cap : Nat) (ns : List Int) (cl sq op : Int) (p v : ByteArray) (ver a b : Int) (w : World) (h : It w (.slice ad ns.length cap) ns) (hv : Nodes ns) :
    Calls Try.prog 29 #[cfgV ep ad ns.length cap, cmdV cl sq op p v ver a b] w (EdPost (chgAdd ep ns a) w) := by
  have bx := boxes w ep ad ns.length cap cl sq op p v ver a b
  have HB := Lib.hid bx
  have HR := Lib.hid (h.below bx)
  have HV := Lib.hid hv
  have hl := hv.2.2.2
  have hl1 := hv.2.2.1
  have hrow : Hid (∀ {w' : World}, It w' (.slice ad ns.length cap) ns → IRow w' ad ns) := by
    rintro w' ⟨a, c, e, h1, h2⟩
    simp only [Value.slice.injEq] at e
    rw [e.1]; exact h1
  clear bx h hv
  cases q1 : isN a
  · have Q1 := Lib.hid q1
    have HE : Hid (chgAdd ep ns a = no 1) := Lib.hid (by simp [chgAdd, q1])
    clear q1
    go_enter Try.func29, Try.ntmps29
    go_wp2_with (go_at_call 23; refine (isNode_any _ _).mono ?_; rw [Q1.out]; rintro e w' ⟨rfl, rfl⟩)
    go_ret2
    rw [HE.out]
    exact ⟨_, rfl, ItF.nil _ _, HB.out⟩
  have Q1 := Lib.hid q1
  cases q2 : inB a ns
  · have Q2 := Lib.hid q2
    by_cases q3 : ns.length = 7
    · have HE : Hid (chgAdd ep ns a = no 7) := Lib.hid (by simp [chgAdd, q1, (inB_not a ns).1 q2, q3])
      have d3 : ((ns.length : Int) == 7) = true := by simp; omega
      clear q1 q2 q3
      go_enter Try.func29, Try.ntmps29
      go_wp2_with (first
        | (go_at_call 23; refine (isNode_any _ _).mono ?_; rw [Q1.out]; rintro e w' ⟨rfl, rfl⟩)
        | (go_at_call 15; refine (has_any _ _ _ _ ns _ (hrow.out HR.out)).mono ?_; rw [Q2.out]; rintro e w1 ⟨rfl, hb⟩; obtain ⟨hc, hf⟩ := bcell hb; have hz := hb.size; have HB1 := Lib.hid (below_self HB.out hb); clear hb; simp at hz))
      go_ret2
      rw [HE.out]
      exact ⟨_, rfl, ItF.nil _ _, HB1.out⟩
    · have HE : Hid (chgAdd ep ns a = ⟨0, ep + 1, ins a ns⟩) := Lib.hid (by simp [chgAdd, q1, (inB_not a ns).1 q2, q3])
      have d3 : ((ns.length : Int) == 7) = false := by simp; omega
      clear q1 q2 q3
      go_enter Try.func29, Try.ntmps29
      go_wp2_with fail
      refine (isNode_any _ _).mono ?_
      rw [Q1.out]
      rintro e w' ⟨rfl, rfl⟩
      go_wp2_with fail
      refine (has_any _ _ _ _ ns _ (hrow.out HR.out)).mono ?_
      rw [Q2.out]
      rintro e w1 ⟨rfl, hb⟩
      obtain ⟨hc, hf⟩ := bcell hb
      have hz := hb.size
      have HB1 := Lib.hid (below_self HB.out hb)
      have HR1 := Lib.hid (HR.out.below hb)
      clear hb HR
      simp at hz
      go_wp2_with fail
      refine (with_any a _ ns _ HR1.out HV.out.1 (by omega) (flat_of HR1.out (by omega))).mono ?_
      rintro e w2 ⟨v, he, hi, hb⟩
      subst he
      have HI := Lib.hid (hi.mono HB1.out.size)
      have HB2 := Lib.hid (below_self HB1.out hb)
      clear hi hb
      go_wp2
      go_ret2
      rw [HE.out]
      exact ⟨_, rfl, HI.out, HB2.out⟩
  · have Q2 := Lib.hid q2
    have HE : Hid (chgAdd ep ns a = no 3) := Lib.hid (by simp [chgAdd, q1, (inB_iff a ns).1 q2])
    clear q1 q2
    go_enter Try.func29, Try.ntmps29
    go_wp2_with (first
      | (go_at_call 23; refine (isNode_any _ _).mono ?_; rw [Q1.out]; rintro e w' ⟨rfl, rfl⟩)
      | (go_at_call 15; refine (has_any _ _ _ _ ns _ (hrow.out HR.out)).mono ?_; rw [Q2.out]; rintro e w1 ⟨rfl, hb⟩; have HB1 := Lib.hid (below_self HB.out hb); clear hb))
    go_ret2
    rw [HE.out]
    exact ⟨_, rfl, ItF.nil _ _, HB1.out⟩
set_option maxHeartbeats 1000000 in
theorem remove_any (ep : Int) (ad : Option Addr) (cap : Nat) (ns : List Int) (cl sq op : Int) (p v : ByteArray) (ver a b : Int) (w : World) (h : It w (.slice ad ns.length cap) ns) (hv : Nodes ns) :
    Calls Try.prog 30 #[cfgV ep ad ns.length cap, cmdV cl sq op p v ver a b] w (EdPost (chgRem ep ns a) w) := by
  have bx := boxes w ep ad ns.length cap cl sq op p v ver a b
  have HB := Lib.hid bx
  have HR := Lib.hid (h.below bx)
  have hl := hv.2.2.2
  have hl1 := hv.2.2.1
  have hrow : Hid (∀ {w' : World}, It w' (.slice ad ns.length cap) ns → IRow w' ad ns) := by
    rintro w' ⟨a, c, e, h1, h2⟩
    simp only [Value.slice.injEq] at e
    rw [e.1]; exact h1
  clear bx h hv
  cases q2 : inB a ns
  · have Q2 := Lib.hid q2
    have HE : Hid (chgRem ep ns a = no 2) := Lib.hid (by simp [chgRem, (inB_not a ns).1 q2])
    clear q2
    go_enter Try.func30, Try.ntmps30
    go_wp2_with (go_at_call 15; refine (has_any _ _ _ _ ns _ (hrow.out HR.out)).mono ?_; rw [Q2.out]; rintro e w1 ⟨rfl, hb⟩; have HB1 := Lib.hid (below_self HB.out hb); clear hb)
    go_ret2
    rw [HE.out]
    exact ⟨_, rfl, ItF.nil _ _, HB1.out⟩
  · have Q2 := Lib.hid q2
    by_cases q3 : ns.length = 1
    · have HE : Hid (chgRem ep ns a = no 4) := Lib.hid (by simp [chgRem, (inB_iff a ns).1 q2, q3])
      have d3 : ((ns.length : Int) == 1) = true := by simp; omega
      clear q2 q3
      go_enter Try.func30, Try.ntmps30
      go_wp2_with (go_at_call 15; refine (has_any _ _ _ _ ns _ (hrow.out HR.out)).mono ?_; rw [Q2.out]; rintro e w1 ⟨rfl, hb⟩; obtain ⟨hc, hf⟩ := bcell hb; have hz := hb.size; have HB1 := Lib.hid (below_self HB.out hb); clear hb; simp at hz)
      go_ret2
      rw [HE.out]
      exact ⟨_, rfl, ItF.nil _ _, HB1.out⟩
    · have HE : Hid (chgRem ep ns a = ⟨0, ep + 1, del a ns⟩) := Lib.hid (by simp [chgRem, (inB_iff a ns).1 q2, q3])
      have d3 : ((ns.length : Int) == 1) = false := by simp; omega
      clear q2 q3
      go_enter Try.func30, Try.ntmps30
      go_wp2_with fail
      refine (has_any _ _ _ _ ns _ (hrow.out HR.out)).mono ?_
      rw [Q2.out]
      rintro e w1 ⟨rfl, hb⟩
      obtain ⟨hc, hf⟩ := bcell hb
      have hz := hb.size
      have HB1 := Lib.hid (below_self HB.out hb)
      have HR1 := Lib.hid (HR.out.below hb)
      clear hb HR
      simp at hz
      go_wp2_with fail
      refine (without_any a _ _ ns _ (hrow.out HR1.out) (by omega)).mono ?_
      rintro e w2 ⟨v, he, hi, hb⟩
      subst he
      have HI := Lib.hid (hi.mono HB1.out.size)
      have HB2 := Lib.hid (below_self HB1.out hb)
      clear hi hb
      go_wp2
      go_ret2
      rw [HE.out]
      exact ⟨_, rfl, HI.out, HB2.out⟩
end Go.Proofs.Ytacjmcjmenbekaa
