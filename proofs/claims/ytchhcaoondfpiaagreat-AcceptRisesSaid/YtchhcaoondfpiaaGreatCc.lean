/-
  Package config: who is in it, and a copy.
-/
import Derived.Test.YtchhcaoondfpiaaGreatOwI
import Derived.IntWalk
import Derived.Lib.LazyBuf
import Derived.WalkKit
import Derived.WalkSpells
import Derived.WalkLawsBesides
import Derived.StillTactics
import Derived.Laws.Pointers
import Derived.Deep.RegionHeld3
import Derived.RowKit3
import Derived.Lib.Hide
import Derived.LoopTactic
namespace Go.Proofs.YtchhcaoondfpiaaGreat.Cc
open Go.RowKit
set_option linter.unusedSimpArgs false
set_option linter.unusedVariables false

abbrev cfgV (ep : Int) (a : Option Addr) (n c : Nat) : Value := .agg #[.int .i64 ep, .slice a n c]
set_option maxHeartbeats 400000 in
theorem has_any (ep n : Int) (a : Option Addr) (cap : Nat) (ns : List Int) (w : World) (hr : IRow w a ns) : Calls Tryz.prog 39 #[cfgV ep a ns.length cap, .int .i64 n] w fun e w' => e = .returned (.bool (inB n ns)) ∧ Below w.heap.size w w' := by
  have hbel : Below w.heap.size w (w.alloc (.cells #[.int .i64 ep, .slice a ns.length cap] 24)) := (Below.refl _ _).alloc (Nat.le_refl _) _
  have HR := Lib.hid (hr.below hbel)
  have HB := Lib.hid hbel
  clear hbel hr
  go_enter Tryz.func39, Tryz.ntmps39
  go_wp2_with (go_at_call 64; refine (contains_any _ _ ns _ _ HR.out).mono ?_; rintro e w' ⟨rfl, rfl⟩)
  go_ret
  exact ⟨rfl, HB.out⟩
/-- The world that a configuration was laid in. -/
abbrev boxC (w : World) (ep : Int) (a : Option Addr) (n c : Nat) : World := w.alloc (.cells #[.int .i64 ep, .slice a n c] 24)
def ItPost (xs : List Int) (w : World) (e : Ending) (w' : World) : Prop := ∃ v', Hid (e = .returned v') ∧ OwnI w' w.heap.size v' xs ∧ Below w.heap.size w w'
set_option maxHeartbeats 400000 in
theorem clone_any (v : Value) (xs : List Int) (w : World) (h : It w v xs) (hl : xs.length ≤ 100000) : Calls Tryz.prog 61 #[v] w (ItPost xs w) := by
  have H := Lib.hid h
  have knil := fun (w : World) (a : Option Addr) (l c : Nat) => run_eql_slice_nil (P := Tryz.prog) w 22 3 a l c Tryz.underlying22
  obtain ⟨a, c, rfl, h1, h2⟩ := h.row
  cases a with
  | none =>
    have hxs : xs = [] := by
      rcases h1.2 with h0 | ⟨g, off, ha, _⟩
      · exact h0
      · cases ha
    subst hxs
    obtain rfl := h2.1 rfl
    clear h h1 h2
    go_enter Tryz.func61, Tryz.ntmps61
    go_wp2
    go_ret
    exact ⟨_, rfl, OwnI.nil _ _, Below.refl _ _⟩
  | some ad =>
    clear h h1 h2
    go_enter Tryz.func61, Tryz.ntmps61
    have HO : Hid (OwnI (w.alloc (.cells #[] 3)) w.heap.size (.slice (some ⟨w.heap.size, 0, none⟩) 0 0) []) := World.ownsRow_lit w #[] 0 (Nat.le_refl _) (by simp) rfl
    have HH := Lib.hid (H.out.below ((Below.refl w.heap.size w).alloc (Nat.le_refl _) (.cells #[] 3)))
    have hz : w.heap.size ≤ (w.alloc (.cells #[] 3)).heap.size := by simp
    go_wp2_with (refine wpList_appI rfl _ _ rfl w.heap.size _ [] rfl HO.out _ xs rfl HH.out (by simp; omega) hz ?_)
    intro v' w' ho hb hz2 _
    have HI := Lib.hid ho
    have HB := Lib.hid (((Below.refl w.heap.size w).alloc (Nat.le_refl _) (.cells #[] 3)).trans hb)
    clear ho hb
    go_wp2
    go_ret
    exact ⟨_, rfl, by simpa using HI.out, HB.out⟩
def CfPost (ep : Int) (xs : List Int) (w : World) (e : Ending) (w' : World) : Prop := ∃ v', Hid (e = .returned (.agg #[.int .i64 ep, v'])) ∧ OwnI w' w.heap.size v' xs ∧ Below w.heap.size w w'
set_option maxHeartbeats 400000 in
theorem cclone_any (ep : Int) (ad : Option Addr) (cap : Nat) (ns : List Int) (w : World) (h : It w (.slice ad ns.length cap) ns) (hl : ns.length ≤ 100000) :
    Calls Tryz.prog 33 #[cfgV ep ad ns.length cap] w (CfPost ep ns w) := by
  have bx : Below w.heap.size w ((boxC w ep ad ns.length cap).alloc (.cells #[.int .i64 0, .slice none 0 0] 24)) := ((Below.refl _ _).alloc (Nat.le_refl _) _).alloc (by simp) _
  have H := Lib.hid (h.below bx)
  have HB := Lib.hid bx
  clear bx h
  go_enter Tryz.func33, Tryz.ntmps33
  go_wp2_with fail
  refine (clone_any _ ns _ H.out hl).mono ?_
  rintro e w1 ⟨v1, he, hi, hb⟩
  subst he
  obtain ⟨a1, c1, rfl⟩ := OwnI.slice hi
  obtain ⟨hc, hf⟩ := bcell hb
  have hz := hb.size
  have HI := Lib.hid (OwnI.base hi (show w.heap.size + 1 + 1 ≤ _ by simp))
  have HB1 := Lib.hid (below_self HB.out hb)
  simp at hz
  clear hb hi
  have hset : (w1.setCell ⟨w.heap.size, 1, none⟩ (.slice a1 ns.length c1)).cell? ⟨w.heap.size, 1, none⟩ = some (.slice a1 ns.length c1) := World.cell?_setCell_same' _ _ _ (by rw [hc _ _ (by simp <;> omega)]; simp [go_sem])
  go_wp2
  exact bodyPost_ret (v := .agg #[.int .i64 ep, .slice a1 ns.length c1]) (by simp [results, Tryz.results33, go_sem, hc, hf, hz]) rfl ⟨_, rfl, OwnI.base (OwnI.setB (OwnI.setB (OwnI.setB HI.out (by omega) _ _) (by omega) _ _) (by omega) _ _) (by omega), ((HB1.out.setCell (by simp <;> omega) _).setCell (by simp <;> omega) _).setCell (by simp <;> omega) _⟩
end Go.Proofs.YtchhcaoondfpiaaGreat.Cc
