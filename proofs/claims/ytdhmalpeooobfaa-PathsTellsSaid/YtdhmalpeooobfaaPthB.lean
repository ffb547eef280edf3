/-
  The walks of package paths: names, and what cuts a path.
-/
import Derived.Test.YtdhmalpeooobfaaPthA
import Derived.Test.YtdhmalpeooobfaaShelf
namespace Go.Proofs.Ytdhmalpeooobfaa
open Go.RowKit
set_option linter.unusedSimpArgs false
set_option linter.unusedVariables false

def nmS (s : ByteArray) : Bool := nmB s.data.toList
theorem enters42 : ∀ args w, (callFunc 42 args).run Try.prog w = .ok (.enter 42 args) w := enters_of Try.func42 (by kernel_rfl) rfl
theorem enters32 : ∀ args w, (callFunc 32 args).run Try.prog w = .ok (.enter 32 args) w := enters_of Try.func32 (by kernel_rfl) rfl
theorem nmS_len (s : ByteArray) : nmS s = (s.data.toList.all okc && decide (1 ≤ s.size) && decide (s.size ≤ 16)) := by
  unfold nmS nmB
  rw [← Lib.size_eq]
theorem isname_any (s : ByteArray) (w : World) : Calls Try.prog 33 #[.string s] w fun e w' => e = .returned (.bool (nmS s)) ∧ Below w.heap.size w w' := by
  have cC := Try.strings_ContainsFunc 42 #[] enters42 oddR s w (odd_pays w)
  rw [idx_all] at cC
  have e := nmS_len s
  by_cases h1 : 1 ≤ s.size
  · by_cases h2 : s.size ≤ 16
    · have e2 : nmS s = s.data.toList.all okc := by rw [e]; simp [h1, h2]
      rw [e2]
      obtain ⟨B, hB⟩ : ∃ B, s.data.toList.all okc = B := ⟨_, rfl⟩
      rw [hB] at cC ⊢
      have k1 : (0 : Int) < (s.size : Int) := by omega
      have k2 : (s.size : Int) ≤ 16 := by omega
      clear e e2 hB h1 h2
      go_enter Try.func33, Try.ntmps33
      go_wp2_with (go_at_call 43; refine cC.mono ?_; rintro e w1 ⟨rfl, hb⟩; have HB := Lib.hid hb; clear hb)
      go_ret
      exact ⟨by simp, HB.out⟩
    · have e2 : nmS s = false := by rw [e]; simp [h2]
      rw [e2]
      have k1 : (0 : Int) < (s.size : Int) := by omega
      have k2 : ¬ (s.size : Int) ≤ 16 := by omega
      clear e e2 cC h1 h2
      go_enter Try.func33, Try.ntmps33
      go_wp2
      go_ret
      exact ⟨rfl, Below.refl _ _⟩
  · have e2 : nmS s = false := by rw [e]; simp [h1]
    rw [e2]
    have k1 : ¬ (0 : Int) < (s.size : Int) := by omega
    clear e e2 cC h1
    go_enter Try.func33, Try.ntmps33
    go_wp2
    go_ret
    exact ⟨rfl, Below.refl _ _⟩
theorem oddname_any (s : ByteArray) (w : World) : Calls Try.prog 32 #[.string s] w fun e w' => e = .returned (.bool (!nmS s)) ∧ Below w.heap.size w w' := by
  have cC := isname_any s w
  obtain ⟨B, hB⟩ : ∃ B, nmS s = B := ⟨_, rfl⟩
  rw [hB] at cC ⊢
  clear hB
  go_enter Try.func32, Try.ntmps32
  go_wp2_with (go_at_call 33; refine cC.mono ?_; rintro e w1 ⟨rfl, hb⟩; have HB := Lib.hid hb; clear hb)
  go_ret
  exact ⟨rfl, HB.out⟩
/-- Is there a text that is no name? -/
def oddIn (ss : List ByteArray) : Bool := ss.any (fun s => !nmS s)
def IxP (ss : List ByteArray) (w : World) (e : Ending) (w' : World) : Prop := ∃ n : Int, Hid (e = .returned (.int .i64 n)) ∧ (0 ≤ n ↔ oddIn ss = true) ∧ Below w.heap.size w w'
set_option maxHeartbeats 1000000 in
theorem indexfunc_any (a : Option Addr) (cap : Nat) (ss : List ByteArray) (w : World) (hs : SRd w a ss) :
    Calls Try.prog 44 #[.slice a ss.length cap, .func (.func 32) #[] #[]] w (IxP ss w) := by
  have HS := Lib.hid hs
  have hn := hs.1
  clear hs
  go_enter Try.func44, Try.ntmps44
  go_wp2_with fail
  go_loopw [8] (fun c wr => ∃ k : Nat, k ≤ ss.length ∧ c = .int .i64 k ∧ Hid (∀ j, j < k → nmS (ss.getD j ByteArray.empty) = true) ∧ Hid (Below w.heap.size w wr)) (fun c _ => ss.length - (intOf c).toNat)
  case atStart => exact ⟨0, by omega, rfl, fun j h => by omega, Below.refl _ _⟩
  case round =>
    obtain ⟨k, hk, rfl, hF, hB⟩ := hrel
    by_cases hlt : k < ss.length
    · obtain ⟨g, off, rfl, hg, hc⟩ := HS.out.cell k hlt
      obtain ⟨s, hs⟩ : ∃ s, ss.getD k ByteArray.empty = s := ⟨_, rfl⟩
      rw [hs] at hc
      have hc' := (hB.out.cell (p := ⟨g, off + k, none⟩) hg).trans hc
      have HE := Lib.hid hs
      have cO := oddname_any s wr
      obtain ⟨B, hB'⟩ : ∃ B, nmS s = B := ⟨_, rfl⟩
      rw [hB'] at cO
      have HBB := Lib.hid hB'
      clear hs hc hB'
      have hlt' : (k : Int) < (ss.length : Int) := by omega
      cases B with
      | false =>
        go_wp2_with (go_at_call 32; refine cO.mono ?_; rintro e w1 ⟨rfl, hb⟩; have HB1 := Lib.hid (below_self hB.out hb); clear hb)
        go_ret
        refine ⟨k, rfl, ⟨fun _ => ?_, fun _ => by omega⟩, HB1.out⟩
        unfold oddIn
        rw [List.any_eq_true]
        refine ⟨s, ?_, by rw [HBB.out]; rfl⟩
        have := HE.out
        simp only [List.getD, List.getElem?_eq_getElem hlt, Option.getD_some] at this
        rw [← this]; exact List.getElem_mem hlt
      | true =>
        go_wp2_with (go_at_call 32; refine cO.mono ?_; rintro e w1 ⟨rfl, hb⟩; have HB1 := Lib.hid (below_self hB.out hb); clear hb)
        go_roundw
        case rel =>
          refine ⟨k + 1, by omega, by go_num, fun j hj => ?_, HB1⟩
          by_cases q : j = k
          · subst q; rw [HE.out, HBB.out]
          · exact hF.out j (by omega)
        case measure => simp [intOf]; omega
    · have hlt' : ¬ (k : Int) < (ss.length : Int) := by omega
      go_wp2
      go_ret
      refine ⟨-1, rfl, ⟨fun h => by omega, fun h => ?_⟩, hB.out⟩
      exfalso
      unfold oddIn at h
      rw [List.any_eq_true] at h
      obtain ⟨s, q1, q2⟩ := h
      obtain ⟨j, hj, rfl⟩ := List.getElem_of_mem q1
      have := hF.out j (by omega)
      simp only [List.getD, List.getElem?_eq_getElem hj, Option.getD_some] at this
      rw [this] at q2
      cases q2
theorem containsfunc_any (a : Option Addr) (cap : Nat) (ss : List ByteArray) (w : World) (hs : SRd w a ss) :
    Calls Try.prog 34 #[.slice a ss.length cap, .func (.func 32) #[] #[]] w fun e w' => e = .returned (.bool (oddIn ss)) ∧ Below w.heap.size w w' := by
  have cI := indexfunc_any a cap ss w hs
  clear hs
  cases hO : oddIn ss with
  | true =>
    go_enter Try.func34, Try.ntmps34
    go_wp2_with fail
    refine cI.mono ?_
    rintro e w1 ⟨n, he, hn, hb⟩
    subst he
    have h0 : (0 : Int) ≤ n := hn.2 hO
    have HB := Lib.hid hb
    clear hn hb hO
    go_wp2
    go_ret
    exact ⟨rfl, HB.out⟩
  | false =>
    go_enter Try.func34, Try.ntmps34
    go_wp2_with fail
    refine cI.mono ?_
    rintro e w1 ⟨n, he, hn, hb⟩
    subst he
    have h0 : ¬ (0 : Int) ≤ n := fun h => by have := hn.1 h; rw [hO] at this; cases this
    have HB := Lib.hid hb
    have hd : Hid (decide ((0 : Int) ≤ n) = false) := Lib.hid (by simpa using h0)
    clear hn hb hO
    go_wp2
    go_ret
    exact ⟨by rw [← hd.out]; rfl, HB.out⟩
end Go.Proofs.Ytdhmalpeooobfaa
