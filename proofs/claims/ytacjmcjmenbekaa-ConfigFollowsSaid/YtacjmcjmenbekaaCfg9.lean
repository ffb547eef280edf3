/-
  The walk of config.Change.
-/
import Derived.Test.YtacjmcjmenbekaaCfg8
namespace Go.Proofs.Ytacjmcjmenbekaa
open Go.RowKit
set_option linter.unusedSimpArgs false
set_option linter.unusedVariables false

/-- What a change comes to, in memory. -/
def ChgPost (c : Chg) (w : World) (e : Ending) (w' : World) : Prop := ∃ v', Hid (e = .returned (.tuple #[.agg #[.int .i64 c.ep, v'], .int .i64 c.err])) ∧ ItF w' w.heap.size v' c.ns ∧ Below w.heap.size w w'
theorem zeroF (w : World) : (zeroValue 40).run Try.prog w = .ok .nilFunc w := by kernel_rfl
/-- The three boxes of Change. -/
abbrev box3 (w : World) (ep : Int) (ad : Option Addr) (n c : Nat) (cl sq op : Int) (p v : ByteArray) (ver a b : Int) : World := (boxX (boxC w ep ad n c) cl sq op p v ver a b).alloc (.cells #[.int .i64 0, .slice none 0 0] 24)
theorem box3_below (w : World) (ep : Int) (ad : Option Addr) (n c : Nat) (cl sq op : Int) (p v : ByteArray) (ver a b : Int) : Below w.heap.size w (box3 w ep ad n c cl sq op p v ver a b) := (boxes w ep ad n c cl sq op p v ver a b).alloc (by simp; omega) _
theorem also3 {W w' : World} {q : Addr} {x : Value} (hb : Below W.heap.size W w') (hq : W.cell? q = some x) (hlt : q.block < W.heap.size) : w'.cell? q = some x ∧ Below W.heap.size W w' := ⟨(hb.cell hlt).trans hq, hb⟩
/-- A return of a configuration and a number. -/
theorem chg_none (w w' : World) (e : Ending) (n : Int) (h : e = .returned (.tuple #[.agg #[.int .i64 0, .slice none 0 0], .int .i64 n])) (hb : Below w.heap.size w w') : ChgPost (no n) w e w' := ⟨_, h, ItF.nil _ _, hb⟩
set_option maxHeartbeats 1000000 in
theorem change_none (ep : Int) (ad : Option Addr) (cap : Nat) (ns : List Int) (cl sq op : Int) (p v : ByteArray) (ver a b : Int) (w : World) (h7 : (op == 7) = false) (h8 : (op == 8) = false) (h9 : (op == 9) = false) :
    Calls Try.prog 10 #[cfgV ep ad ns.length cap, cmdV cl sq op p v ver a b] w (ChgPost (no 1) w) := by
  have hf : Hid (Instr.findNow (.int .i64) (.int .i64 op) tabE.toList 0 = some none) := by
    simp [Hid, Instr.findNow, Instr.sameNow, h7, h8, h9]
  clear h7 h8 h9
  go_enter Try.func10, Try.ntmps10
  go_wp2_with fail
  go_region_held3 (fun w' => w'.cell? ⟨w.heap.size + 1, 2, none⟩ = some (.int .i64 op) ∧ Below (box3 w ep ad ns.length cap cl sq op p v ver a b).heap.size (box3 w ep ad ns.length cap cl sq op p v ver a b) w')
    (first
      | exact also3 (Below.refl _ _) (by simp [go_sem]) (by simp)
      | exact also3 (Below.refl _ _).drew (by simp [go_sem]) (by simp)
      | (go_split_ands; first | exact also3 (below_self (by assumption) (by assumption)) (by simp [go_sem]) (by simp) | exact also3 (by assumption) (by simp [go_sem]) (by simp)))
    (first
      | (go_at_call 21; refine (changes_any _).mono ?_; rintro e w1 ⟨b1, rfl, hb1, hb⟩; have hrun : (Instr.lookup 42 (.map (some b1)) (.int .i64 op) true).run Try.prog w1 = .ok (.tuple #[.nilFunc, .bool false]) w1 := run_look w1 b1 hb1 op none hf.out _ zeroF; clear hb1))
  all_goals
    go_split_ands
    have hb' : Below (box3 w ep ad ns.length cap cl sq op p v ver a b).heap.size (box3 w ep ad ns.length cap cl sq op p v ver a b) w1 := by assumption
    obtain ⟨hc, hfz⟩ := bcell hb'
    have HB := Lib.hid hb'
    have HB1 := Lib.hid ((box3_below w ep ad ns.length cap cl sq op p v ver a b).trans (hb'.mono (box3_below w ep ad ns.length cap cl sq op p v ver a b).size))
    have hz := hb'.size
    simp at hz
    clear hb' hb
    go_wp2
    exact bodyPost_ret (v := .tuple #[.agg #[.int .i64 0, .slice none 0 0], .int .i64 1]) (by simp [results, Try.results10, go_sem, hc, hfz, hz]) rfl (chg_none _ _ _ _ rfl ((HB1.out.setCell (by simp; omega) _).setCell (by simp; omega) _))
end Go.Proofs.Ytacjmcjmenbekaa
