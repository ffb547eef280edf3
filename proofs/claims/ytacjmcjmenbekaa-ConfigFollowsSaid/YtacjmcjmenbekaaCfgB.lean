/-
  The walk of config.Change, at a command that is 'remove'.
-/
import Derived.Test.YtacjmcjmenbekaaCfg9
namespace Go.Proofs.Ytacjmcjmenbekaa
open Go.RowKit
set_option linter.unusedSimpArgs false
set_option linter.unusedVariables false

set_option maxHeartbeats 1000000 in
theorem change_remove_bad (ep : Int) (ad : Option Addr) (cap : Nat) (ns : List Int) (cl sq : Int) (p v : ByteArray) (ver a b : Int) (w : World) (h : It w (.slice ad ns.length cap) ns) (hv : valB ep ns = false) :
    Calls Try.prog 10 #[cfgV ep ad ns.length cap, cmdV cl sq 8 p v ver a b] w (ChgPost (no 1) w) := by
  have hf : Hid (Instr.findNow (.int .i64) (.int .i64 8) tabE.toList 0 = some (some (1, fnV 30))) := rfl
  have hrow : Hid (∀ {w' : World}, It w' (.slice ad ns.length cap) ns → IRow w' ad ns) := by
    rintro w' ⟨a, c, e, h1, h2⟩
    simp only [Value.slice.injEq] at e
    rw [e.1]; exact h1
  have HR := Lib.hid (h.below (box3_below w ep ad ns.length cap cl sq 8 p v ver a b))
  have HV := Lib.hid hv
  clear hv h
  go_enter Try.func10, Try.ntmps10
  go_wp2_with fail
  go_region_held3 (fun w' => w'.cell? ⟨w.heap.size + 1, 2, none⟩ = some (.int .i64 8) ∧ Below (box3 w ep ad ns.length cap cl sq 8 p v ver a b).heap.size (box3 w ep ad ns.length cap cl sq 8 p v ver a b) w')
    (first
      | exact also3 (Below.refl _ _) (by simp [go_sem]) (by simp)
      | exact also3 (Below.refl _ _).drew (by simp [go_sem]) (by simp)
      | (go_split_ands; first | exact also3 (below_self (by assumption) (by assumption)) (by simp [go_sem]) (by simp) | exact also3 (by assumption) (by simp [go_sem]) (by simp)))
    (first
      | (go_at_call 21; refine (changes_any _).mono ?_; rintro e w1 ⟨b1, rfl, hb1, hb⟩; have hrun : (Instr.lookup 42 (.map (some b1)) (.int .i64 8) true).run Try.prog w1 = .ok (.tuple #[fnV 30, .bool true]) w1 := run_look w1 b1 hb1 8 (some (1, fnV 30)) hf.out _ zeroF; clear hb1))
  all_goals
    go_split_ands
    have hb' : Below (box3 w ep ad ns.length cap cl sq 8 p v ver a b).heap.size (box3 w ep ad ns.length cap cl sq 8 p v ver a b) w1 := by assumption
    obtain ⟨hc, hfz⟩ := bcell hb'
    have HB := Lib.hid hb'
    have HB1 := Lib.hid ((box3_below w ep ad ns.length cap cl sq 8 p v ver a b).trans (hb'.mono (box3_below w ep ad ns.length cap cl sq 8 p v ver a b).size))
    have hz := hb'.size
    simp at hz
    clear hb' hb
    have HR1 := Lib.hid (HR.out.below HB.out)
    go_wp2_with fail
    refine (valid_any _ _ _ ns _ (hrow.out HR1.out)).mono ?_
    rw [HV.out]
    rintro e w2 ⟨rfl, hb⟩
    have HB2 := Lib.hid (below_self HB1.out hb)
    have HR2 := Lib.hid (HR1.out.below hb)
    have hb3 := below_self HB.out hb
    obtain ⟨hc2, hfz2⟩ := bcell hb3
    have HB3 := Lib.hid hb3
    have hz2 := hb3.size
    simp at hz2
    clear hb hb3 hc hfz hz HB HB1 HR1
    go_wp2
    exact bodyPost_ret (v := .tuple #[.agg #[.int .i64 0, .slice none 0 0], .int .i64 1]) (by simp [results, Try.results10, go_sem, hc2, hfz2, hz2]) rfl (chg_none _ _ _ _ rfl ((HB2.out.setCell (by simp; omega) _).setCell (by simp; omega) _))
set_option maxHeartbeats 1000000 in
theorem change_remove_end (ep : Int) (ad : Option Addr) (cap : Nat) (ns : List Int) (cl sq : Int) (p v : ByteArray) (ver a b : Int) (w : World) (h : It w (.slice ad ns.length cap) ns) (hv : valB ep ns = true) (he : ep = 1048576) :
    Calls Try.prog 10 #[cfgV ep ad ns.length cap, cmdV cl sq 8 p v ver a b] w (ChgPost (no 1) w) := by
  have hf : Hid (Instr.findNow (.int .i64) (.int .i64 8) tabE.toList 0 = some (some (1, fnV 30))) := rfl
  have hrow : Hid (∀ {w' : World}, It w' (.slice ad ns.length cap) ns → IRow w' ad ns) := by
    rintro w' ⟨a, c, e, h1, h2⟩
    simp only [Value.slice.injEq] at e
    rw [e.1]; exact h1
  have HR := Lib.hid (h.below (box3_below w ep ad ns.length cap cl sq 8 p v ver a b))
  have HV := Lib.hid hv
  have te : (ep == 1048576) = true := by simpa using he
  clear hv h he
  go_enter Try.func10, Try.ntmps10
  go_wp2_with fail
  go_region_held3 (fun w' => w'.cell? ⟨w.heap.size + 1, 2, none⟩ = some (.int .i64 8) ∧ Below (box3 w ep ad ns.length cap cl sq 8 p v ver a b).heap.size (box3 w ep ad ns.length cap cl sq 8 p v ver a b) w')
    (first
      | exact also3 (Below.refl _ _) (by simp [go_sem]) (by simp)
      | exact also3 (Below.refl _ _).drew (by simp [go_sem]) (by simp)
      | (go_split_ands; first | exact also3 (below_self (by assumption) (by assumption)) (by simp [go_sem]) (by simp) | exact also3 (by assumption) (by simp [go_sem]) (by simp)))
    (first
      | (go_at_call 21; refine (changes_any _).mono ?_; rintro e w1 ⟨b1, rfl, hb1, hb⟩; have hrun : (Instr.lookup 42 (.map (some b1)) (.int .i64 8) true).run Try.prog w1 = .ok (.tuple #[fnV 30, .bool true]) w1 := run_look w1 b1 hb1 8 (some (1, fnV 30)) hf.out _ zeroF; clear hb1))
  all_goals
    go_split_ands
    have hb' : Below (box3 w ep ad ns.length cap cl sq 8 p v ver a b).heap.size (box3 w ep ad ns.length cap cl sq 8 p v ver a b) w1 := by assumption
    obtain ⟨hc, hfz⟩ := bcell hb'
    have HB := Lib.hid hb'
    have HB1 := Lib.hid ((box3_below w ep ad ns.length cap cl sq 8 p v ver a b).trans (hb'.mono (box3_below w ep ad ns.length cap cl sq 8 p v ver a b).size))
    have hz := hb'.size
    simp at hz
    clear hb' hb
    have HR1 := Lib.hid (HR.out.below HB.out)
    go_wp2_with fail
    refine (valid_any _ _ _ ns _ (hrow.out HR1.out)).mono ?_
    rw [HV.out]
    rintro e w2 ⟨rfl, hb⟩
    have HB2 := Lib.hid (below_self HB1.out hb)
    have HR2 := Lib.hid (HR1.out.below hb)
    have hb3 := below_self HB.out hb
    obtain ⟨hc2, hfz2⟩ := bcell hb3
    have HB3 := Lib.hid hb3
    have hz2 := hb3.size
    simp at hz2
    clear hb hb3 hc hfz hz HB HB1 HR1
    go_wp2
    exact bodyPost_ret (v := .tuple #[.agg #[.int .i64 0, .slice none 0 0], .int .i64 1]) (by simp [results, Try.results10, go_sem, hc2, hfz2, hz2]) rfl (chg_none _ _ _ _ rfl ((HB2.out.setCell (by simp; omega) _).setCell (by simp; omega) _))
set_option maxHeartbeats 1000000 in
theorem change_remove_err (ep : Int) (ad : Option Addr) (cap : Nat) (ns : List Int) (cl sq : Int) (p v : ByteArray) (ver a b : Int) (w : World) (h : It w (.slice ad ns.length cap) ns) (hv : valB ep ns = true) (he : ¬ ep = 1048576) (hx : (chgRem ep ns a).err ≠ 0) :
    Calls Try.prog 10 #[cfgV ep ad ns.length cap, cmdV cl sq 8 p v ver a b] w (ChgPost (chgRem ep ns a) w) := by
  have hf : Hid (Instr.findNow (.int .i64) (.int .i64 8) tabE.toList 0 = some (some (1, fnV 30))) := rfl
  have hrow : Hid (∀ {w' : World}, It w' (.slice ad ns.length cap) ns → IRow w' ad ns) := by
    rintro w' ⟨a, c, e, h1, h2⟩
    simp only [Value.slice.injEq] at e
    rw [e.1]; exact h1
  have HR := Lib.hid (h.below (box3_below w ep ad ns.length cap cl sq 8 p v ver a b))
  have HV := Lib.hid hv
  have te : (ep == 1048576) = false := by simpa using he
  have hN : Val ep ns := by simpa [valB] using hv
  have HN := Lib.hid hN.2.2
  obtain ⟨C, hC⟩ : ∃ C, chgRem ep ns a = C := ⟨_, rfl⟩
  have HE : Hid (chg ep ns 8 a b = C) := Lib.hid (by rw [← hC]; simp [chg, hN, he])
  have HC := Lib.hid hC
  have hno : C.ep = 0 ∧ C.ns = [] := by rw [← HE.out]; exact chg_no (by rw [HE.out, ← hC]; exact hx)
  have tx : (C.err != 0) = true := by rw [← hC]; simpa using hx
  rw [hC]
  have HX := Lib.hid hno
  clear hv h he hN hC hx hno
  go_enter Try.func10, Try.ntmps10
  go_wp2_with fail
  go_region_held3 (fun w' => w'.cell? ⟨w.heap.size + 1, 2, none⟩ = some (.int .i64 8) ∧ Below (box3 w ep ad ns.length cap cl sq 8 p v ver a b).heap.size (box3 w ep ad ns.length cap cl sq 8 p v ver a b) w')
    (first
      | exact also3 (Below.refl _ _) (by simp [go_sem]) (by simp)
      | exact also3 (Below.refl _ _).drew (by simp [go_sem]) (by simp)
      | (go_split_ands; first | exact also3 (below_self (by assumption) (by assumption)) (by simp [go_sem]) (by simp) | exact also3 (by assumption) (by simp [go_sem]) (by simp)))
    (first
      | (go_at_call 21; refine (changes_any _).mono ?_; rintro e w1 ⟨b1, rfl, hb1, hb⟩; have hrun : (Instr.lookup 42 (.map (some b1)) (.int .i64 8) true).run Try.prog w1 = .ok (.tuple #[fnV 30, .bool true]) w1 := run_look w1 b1 hb1 8 (some (1, fnV 30)) hf.out _ zeroF; clear hb1))
  all_goals
    go_split_ands
    have hb' : Below (box3 w ep ad ns.length cap cl sq 8 p v ver a b).heap.size (box3 w ep ad ns.length cap cl sq 8 p v ver a b) w1 := by assumption
    obtain ⟨hc, hfz⟩ := bcell hb'
    have HB := Lib.hid hb'
    have HB1 := Lib.hid ((box3_below w ep ad ns.length cap cl sq 8 p v ver a b).trans (hb'.mono (box3_below w ep ad ns.length cap cl sq 8 p v ver a b).size))
    have hz := hb'.size
    simp at hz
    clear hb' hb
    have HR1 := Lib.hid (HR.out.below HB.out)
    go_wp2_with fail
    refine (valid_any _ _ _ ns _ (hrow.out HR1.out)).mono ?_
    rw [HV.out]
    rintro e w2 ⟨rfl, hb⟩
    have HB2 := Lib.hid (below_self HB1.out hb)
    have HR2 := Lib.hid (HR1.out.below hb)
    have hb3 := below_self HB.out hb
    obtain ⟨hc2, hfz2⟩ := bcell hb3
    have HB3 := Lib.hid hb3
    have hz2 := hb3.size
    simp at hz2
    clear hb hb3 hc hfz hz HB HB1 HR1
    go_wp2_with fail
    refine (remove_any ep ad cap ns _ _ _ _ _ _ _ _ _ HR2.out HN.out).mono ?_
    rintro e w3 ⟨v3, he, hi, hb⟩
    subst he
    rw [HC.out] at hi ⊢
    have HI := Lib.hid (hi.mono (show w.heap.size + 1 + 1 + 1 ≤ _ by omega))
    have HB4 := Lib.hid (below_self HB2.out hb)
    have hb5 := below_self HB3.out hb
    obtain ⟨hc3, hfz3⟩ := bcell hb5
    have hz3 := hb5.size
    simp at hz3
    clear hb hb5 hc2 hfz2 hz2 HB2 HB3 hi
    go_wp2
    refine bodyPost_ret (v := .tuple #[.agg #[.int .i64 0, .slice none 0 0], .int .i64 C.err]) (by simp [results, Try.results10, go_sem, hc3, hfz3, hz3]) rfl ⟨.slice none 0 0, by rw [HX.out.1]; rfl, by rw [HX.out.2]; exact ItF.nil _ _, (HB4.out.setCell (by simp; omega) _).setCell (by simp; omega) _⟩
set_option maxHeartbeats 1000000 in
theorem change_remove_ok (ep : Int) (ad : Option Addr) (cap : Nat) (ns : List Int) (cl sq : Int) (p v : ByteArray) (ver a b : Int) (w : World) (h : It w (.slice ad ns.length cap) ns) (hv : valB ep ns = true) (he : ¬ ep = 1048576) (hx : (chgRem ep ns a).err = 0) :
    Calls Try.prog 10 #[cfgV ep ad ns.length cap, cmdV cl sq 8 p v ver a b] w (ChgPost (chgRem ep ns a) w) := by
  have hf : Hid (Instr.findNow (.int .i64) (.int .i64 8) tabE.toList 0 = some (some (1, fnV 30))) := rfl
  have hrow : Hid (∀ {w' : World}, It w' (.slice ad ns.length cap) ns → IRow w' ad ns) := by
    rintro w' ⟨a, c, e, h1, h2⟩
    simp only [Value.slice.injEq] at e
    rw [e.1]; exact h1
  have HR := Lib.hid (h.below (box3_below w ep ad ns.length cap cl sq 8 p v ver a b))
  have HV := Lib.hid hv
  have te : (ep == 1048576) = false := by simpa using he
  have hN : Val ep ns := by simpa [valB] using hv
  have HN := Lib.hid hN.2.2
  obtain ⟨C, hC⟩ : ∃ C, chgRem ep ns a = C := ⟨_, rfl⟩
  have HE : Hid (chg ep ns 8 a b = C) := Lib.hid (by rw [← hC]; simp [chg, hN, he])
  have HC := Lib.hid hC
  have hno : C.ep = ep + 1 := by rw [← HE.out]; exact (chg_val (by rw [HE.out, ← hC]; exact hx)).2.2.2
  have tx : (C.err != 0) = false := by rw [← hC]; simpa using hx
  have tz : C.err = 0 := by rw [← hC]; exact hx
  have te1 : 0 ≤ ep := hN.1
  have te2 : ep ≤ 1048576 := hN.2.1
  rw [hC]
  have HX := Lib.hid hno
  have HZ := Lib.hid tz
  clear hv h he hN hC hx hno tz
  go_enter Try.func10, Try.ntmps10
  go_wp2_with fail
  go_region_held3 (fun w' => w'.cell? ⟨w.heap.size + 1, 2, none⟩ = some (.int .i64 8) ∧ Below (box3 w ep ad ns.length cap cl sq 8 p v ver a b).heap.size (box3 w ep ad ns.length cap cl sq 8 p v ver a b) w')
    (first
      | exact also3 (Below.refl _ _) (by simp [go_sem]) (by simp)
      | exact also3 (Below.refl _ _).drew (by simp [go_sem]) (by simp)
      | (go_split_ands; first | exact also3 (below_self (by assumption) (by assumption)) (by simp [go_sem]) (by simp) | exact also3 (by assumption) (by simp [go_sem]) (by simp)))
    (first
      | (go_at_call 21; refine (changes_any _).mono ?_; rintro e w1 ⟨b1, rfl, hb1, hb⟩; have hrun : (Instr.lookup 42 (.map (some b1)) (.int .i64 8) true).run Try.prog w1 = .ok (.tuple #[fnV 30, .bool true]) w1 := run_look w1 b1 hb1 8 (some (1, fnV 30)) hf.out _ zeroF; clear hb1))
  all_goals
    go_split_ands
    have hb' : Below (box3 w ep ad ns.length cap cl sq 8 p v ver a b).heap.size (box3 w ep ad ns.length cap cl sq 8 p v ver a b) w1 := by assumption
    obtain ⟨hc, hfz⟩ := bcell hb'
    have HB := Lib.hid hb'
    have HB1 := Lib.hid ((box3_below w ep ad ns.length cap cl sq 8 p v ver a b).trans (hb'.mono (box3_below w ep ad ns.length cap cl sq 8 p v ver a b).size))
    have hz := hb'.size
    simp at hz
    clear hb' hb
    have HR1 := Lib.hid (HR.out.below HB.out)
    go_wp2_with fail
    refine (valid_any _ _ _ ns _ (hrow.out HR1.out)).mono ?_
    rw [HV.out]
    rintro e w2 ⟨rfl, hb⟩
    have HB2 := Lib.hid (below_self HB1.out hb)
    have HR2 := Lib.hid (HR1.out.below hb)
    have hb3 := below_self HB.out hb
    obtain ⟨hc2, hfz2⟩ := bcell hb3
    have HB3 := Lib.hid hb3
    have hz2 := hb3.size
    simp at hz2
    clear hb hb3 hc hfz hz HB HB1 HR1
    go_wp2_with fail
    refine (remove_any ep ad cap ns _ _ _ _ _ _ _ _ _ HR2.out HN.out).mono ?_
    rintro e w3 ⟨v3, he, hi, hb⟩
    subst he
    rw [HC.out] at hi ⊢
    obtain ⟨a3, c3, rfl, _⟩ := hi.it.row
    have HI := Lib.hid (hi.mono (show w.heap.size + 1 + 1 + 1 ≤ _ by omega))
    have HB4 := Lib.hid (below_self HB2.out hb)
    have hb5 := below_self HB3.out hb
    obtain ⟨hc3, hfz3⟩ := bcell hb5
    have hz3 := hb5.size
    simp at hz3
    clear hb hb5 hc2 hfz2 hz2 HB2 HB3 hi
    go_wp2
    refine bodyPost_ret (v := .tuple #[.agg #[.int .i64 (ep + 1), .slice a3 C.ns.length c3], .int .i64 0]) (by simp [results, Try.results10, go_sem, hc3, hfz3, hz3]) rfl ⟨.slice a3 C.ns.length c3, by rw [HX.out, HZ.out]; rfl, ((HI.out.set (by simp <;> omega) _).set (by simp <;> omega) _).mono (by omega), (HB4.out.setCell (by simp; omega) _).setCell (by simp; omega) _⟩
end Go.Proofs.Ytacjmcjmenbekaa
