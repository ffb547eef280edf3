/-
  The walk of the document's Change, way by way.
-/
import Derived.Test.YtacjmcjmenbekaaCfgT
namespace Go.Proofs.Ytacjmcjmenbekaa
open Go.RowKit
set_option linter.unusedSimpArgs false
set_option linter.unusedVariables false

set_option maxHeartbeats 1000000 in
theorem rc_bad (ep : Int) (ad : Option Addr) (cap : Nat) (ns : List Int) (cl sq op : Int) (p v : ByteArray) (ver a b : Int) (w : World) (h : It w (.slice ad ns.length cap) ns) (hv : valB ep ns = false) :
    Calls Try.prog 11 #[cfgV ep ad ns.length cap, cmdV cl sq op p v ver a b] w (ChgPost (no 1) w) := by
  have HH := Lib.hid h
  have bx := box3_below w ep ad ns.length cap cl sq op p v ver a b
  have HB0 := Lib.hid bx
  have HB := Lib.hid (Below.refl (box3 w ep ad ns.length cap cl sq op p v ver a b).heap.size (box3 w ep ad ns.length cap cl sq op p v ver a b))
  have HV := Lib.hid hv
  clear h bx hv
  go_enter Try.func11, Try.ntmps11
  go_wp2_with fail
  refine (rvalid_any _ _ _ ns _ (IRow.of_it (HH.out.below (HB0.out.trans (HB.out.mono HB0.out.size))))).mono ?_
  rw [HV.out]
  rintro e w1 ⟨rfl, hb⟩
  have hb' := below_self HB.out hb
  clear hb HB 
  have HB := Lib.hid hb'
  obtain ⟨hc, hfz⟩ := bcell hb'
  have hz := hb'.size
  simp at hz
  clear hb'
  have HB1 := Lib.hid (HB0.out.trans (HB.out.mono HB0.out.size))
  go_wp2
  exact bodyPost_ret (v := .tuple #[.agg #[.int .i64 0, .slice none 0 0], .int .i64 1]) (by simp [results, Try.results11, go_sem, hc, hfz, hz]) rfl (chg_none _ _ _ _ rfl ((HB1.out.setCell (by simp; omega) _).setCell (by simp; omega) _))
set_option maxHeartbeats 1000000 in
theorem rc_end (ep : Int) (ad : Option Addr) (cap : Nat) (ns : List Int) (cl sq op : Int) (p v : ByteArray) (ver a b : Int) (w : World) (h : It w (.slice ad ns.length cap) ns) (hv : valB ep ns = true) (he : ep = 1048576) :
    Calls Try.prog 11 #[cfgV ep ad ns.length cap, cmdV cl sq op p v ver a b] w (ChgPost (no 1) w) := by
  have HH := Lib.hid h
  have bx := box3_below w ep ad ns.length cap cl sq op p v ver a b
  have HB0 := Lib.hid bx
  have HB := Lib.hid (Below.refl (box3 w ep ad ns.length cap cl sq op p v ver a b).heap.size (box3 w ep ad ns.length cap cl sq op p v ver a b))
  have HV := Lib.hid hv
  have te : (ep == 1048576) = true := by simpa using he
  clear h bx hv he
  go_enter Try.func11, Try.ntmps11
  go_wp2_with fail
  refine (rvalid_any _ _ _ ns _ (IRow.of_it (HH.out.below (HB0.out.trans (HB.out.mono HB0.out.size))))).mono ?_
  rw [HV.out]
  rintro e w1 ⟨rfl, hb⟩
  have hb' := below_self HB.out hb
  clear hb HB 
  have HB := Lib.hid hb'
  obtain ⟨hc, hfz⟩ := bcell hb'
  have hz := hb'.size
  simp at hz
  clear hb'
  have HB1 := Lib.hid (HB0.out.trans (HB.out.mono HB0.out.size))
  go_wp2
  exact bodyPost_ret (v := .tuple #[.agg #[.int .i64 0, .slice none 0 0], .int .i64 1]) (by simp [results, Try.results11, go_sem, hc, hfz, hz]) rfl (chg_none _ _ _ _ rfl ((HB1.out.setCell (by simp; omega) _).setCell (by simp; omega) _))
set_option maxHeartbeats 1000000 in
theorem rc_none (ep : Int) (ad : Option Addr) (cap : Nat) (ns : List Int) (cl sq op : Int) (p v : ByteArray) (ver a b : Int) (w : World) (h : It w (.slice ad ns.length cap) ns) (hv : valB ep ns = true) (he : ¬ ep = 1048576) (h7 : (op == 7) = false) (h8 : (op == 8) = false) (h9 : (op == 9) = false) :
    Calls Try.prog 11 #[cfgV ep ad ns.length cap, cmdV cl sq op p v ver a b] w (ChgPost (no 1) w) := by
  have HH := Lib.hid h
  have bx := box3_below w ep ad ns.length cap cl sq op p v ver a b
  have HB0 := Lib.hid bx
  have HB := Lib.hid (Below.refl (box3 w ep ad ns.length cap cl sq op p v ver a b).heap.size (box3 w ep ad ns.length cap cl sq op p v ver a b))
  have HV := Lib.hid hv
  have te : (ep == 1048576) = false := by simpa using he
  have hval : Val ep ns := by simpa [valB] using hv
  have te1 : 0 ≤ ep := hval.1
  have te2 : ep ≤ 1048576 := hval.2.1
  have tl1 : 1 ≤ ns.length := hval.2.2.2.2.1
  have tl7 : ns.length ≤ 7 := hval.2.2.2.2.2
  clear h bx hv he hval 
  go_enter Try.func11, Try.ntmps11
  go_wp2_with fail
  refine (rvalid_any _ _ _ ns _ (IRow.of_it (HH.out.below (HB0.out.trans (HB.out.mono HB0.out.size))))).mono ?_
  rw [HV.out]
  rintro e w1 ⟨rfl, hb⟩
  have hb' := below_self HB.out hb
  clear hb HB 
  have HB := Lib.hid hb'
  obtain ⟨hc, hfz⟩ := bcell hb'
  have hz := hb'.size
  simp at hz
  clear hb'
  have HB1 := Lib.hid (HB0.out.trans (HB.out.mono HB0.out.size))
  go_wp2
  exact bodyPost_ret (v := .tuple #[.agg #[.int .i64 0, .slice none 0 0], .int .i64 1]) (by simp [results, Try.results11, go_sem, hc, hfz, hz]) rfl (chg_none _ _ _ _ rfl ((HB1.out.setCell (by simp; omega) _).setCell (by simp; omega) _))
set_option maxHeartbeats 1000000 in
theorem rc_add1 (ep : Int) (ad : Option Addr) (cap : Nat) (ns : List Int) (cl sq : Int) (p v : ByteArray) (ver a b : Int) (w : World) (h : It w (.slice ad ns.length cap) ns) (hv : valB ep ns = true) (he : ¬ ep = 1048576) (ha : a < 0) :
    Calls Try.prog 11 #[cfgV ep ad ns.length cap, cmdV cl sq 7 p v ver a b] w (ChgPost (no 1) w) := by
  have HH := Lib.hid h
  have bx := box3_below w ep ad ns.length cap cl sq 7 p v ver a b
  have HB0 := Lib.hid bx
  have HB := Lib.hid (Below.refl (box3 w ep ad ns.length cap cl sq 7 p v ver a b).heap.size (box3 w ep ad ns.length cap cl sq 7 p v ver a b))
  have HV := Lib.hid hv
  have te : (ep == 1048576) = false := by simpa using he
  have hval : Val ep ns := by simpa [valB] using hv
  have te1 : 0 ≤ ep := hval.1
  have te2 : ep ≤ 1048576 := hval.2.1
  have tl1 : 1 ≤ ns.length := hval.2.2.2.2.1
  have tl7 : ns.length ≤ 7 := hval.2.2.2.2.2
  clear h bx hv he hval 
  go_enter Try.func11, Try.ntmps11
  go_wp2_with fail
  refine (rvalid_any _ _ _ ns _ (IRow.of_it (HH.out.below (HB0.out.trans (HB.out.mono HB0.out.size))))).mono ?_
  rw [HV.out]
  rintro e w1 ⟨rfl, hb⟩
  have hb' := below_self HB.out hb
  clear hb HB 
  have HB := Lib.hid hb'
  obtain ⟨hc, hfz⟩ := bcell hb'
  have hz := hb'.size
  simp at hz
  clear hb'
  have HB1 := Lib.hid (HB0.out.trans (HB.out.mono HB0.out.size))
  go_wp2
  exact bodyPost_ret (v := .tuple #[.agg #[.int .i64 0, .slice none 0 0], .int .i64 1]) (by simp [results, Try.results11, go_sem, hc, hfz, hz]) rfl (chg_none _ _ _ _ rfl ((HB1.out.setCell (by simp; omega) _).setCell (by simp; omega) _))
set_option maxHeartbeats 1000000 in
theorem rc_add2 (ep : Int) (ad : Option Addr) (cap : Nat) (ns : List Int) (cl sq : Int) (p v : ByteArray) (ver a b : Int) (w : World) (h : It w (.slice ad ns.length cap) ns) (hv : valB ep ns = true) (he : ¬ ep = 1048576) (ha : ¬ a < 0) (hb : 31 < a) :
    Calls Try.prog 11 #[cfgV ep ad ns.length cap, cmdV cl sq 7 p v ver a b] w (ChgPost (no 1) w) := by
  have HH := Lib.hid h
  have bx := box3_below w ep ad ns.length cap cl sq 7 p v ver a b
  have HB0 := Lib.hid bx
  have HB := Lib.hid (Below.refl (box3 w ep ad ns.length cap cl sq 7 p v ver a b).heap.size (box3 w ep ad ns.length cap cl sq 7 p v ver a b))
  have HV := Lib.hid hv
  have te : (ep == 1048576) = false := by simpa using he
  have hval : Val ep ns := by simpa [valB] using hv
  have te1 : 0 ≤ ep := hval.1
  have te2 : ep ≤ 1048576 := hval.2.1
  have tl1 : 1 ≤ ns.length := hval.2.2.2.2.1
  have tl7 : ns.length ≤ 7 := hval.2.2.2.2.2
  have ta : decide (a < 0) = false := by simpa using ha
  clear h bx hv he hval 
  go_enter Try.func11, Try.ntmps11
  go_wp2_with fail
  refine (rvalid_any _ _ _ ns _ (IRow.of_it (HH.out.below (HB0.out.trans (HB.out.mono HB0.out.size))))).mono ?_
  rw [HV.out]
  rintro e w1 ⟨rfl, hb⟩
  have hb' := below_self HB.out hb
  clear hb HB 
  have HB := Lib.hid hb'
  obtain ⟨hc, hfz⟩ := bcell hb'
  have hz := hb'.size
  simp at hz
  clear hb'
  have HB1 := Lib.hid (HB0.out.trans (HB.out.mono HB0.out.size))
  go_wp2
  exact bodyPost_ret (v := .tuple #[.agg #[.int .i64 0, .slice none 0 0], .int .i64 1]) (by simp [results, Try.results11, go_sem, hc, hfz, hz]) rfl (chg_none _ _ _ _ rfl ((HB1.out.setCell (by simp; omega) _).setCell (by simp; omega) _))
set_option maxHeartbeats 1000000 in
theorem rc_add3 (ep : Int) (ad : Option Addr) (cap : Nat) (ns : List Int) (cl sq : Int) (p v : ByteArray) (ver a b : Int) (w : World) (h : It w (.slice ad ns.length cap) ns) (hv : valB ep ns = true) (he : ¬ ep = 1048576) (ha : ¬ a < 0) (hb : ¬ 31 < a) (hm : inB a ns = true) :
    Calls Try.prog 11 #[cfgV ep ad ns.length cap, cmdV cl sq 7 p v ver a b] w (ChgPost (no 3) w) := by
  have HH := Lib.hid h
  have bx := box3_below w ep ad ns.length cap cl sq 7 p v ver a b
  have HB0 := Lib.hid bx
  have HB := Lib.hid (Below.refl (box3 w ep ad ns.length cap cl sq 7 p v ver a b).heap.size (box3 w ep ad ns.length cap cl sq 7 p v ver a b))
  have HV := Lib.hid hv
  have te : (ep == 1048576) = false := by simpa using he
  have hval : Val ep ns := by simpa [valB] using hv
  have te1 : 0 ≤ ep := hval.1
  have te2 : ep ≤ 1048576 := hval.2.1
  have tl1 : 1 ≤ ns.length := hval.2.2.2.2.1
  have tl7 : ns.length ≤ 7 := hval.2.2.2.2.2
  have ta : decide (a < 0) = false := by simpa using ha
  have tb : decide (31 < a) = false := by simpa using hb
  have HM := Lib.hid hm
  clear h bx hv he hval hm
  go_enter Try.func11, Try.ntmps11
  go_wp2_with fail
  refine (rvalid_any _ _ _ ns _ (IRow.of_it (HH.out.below (HB0.out.trans (HB.out.mono HB0.out.size))))).mono ?_
  rw [HV.out]
  rintro e w1 ⟨rfl, hb⟩
  have hb' := below_self HB.out hb
  clear hb HB 
  have HB := Lib.hid hb'
  obtain ⟨hc, hfz⟩ := bcell hb'
  have hz := hb'.size
  simp at hz
  clear hb'
  go_wp2_with fail
  refine (rhas_any _ a _ _ ns _ (IRow.of_it (HH.out.below (HB0.out.trans (HB.out.mono HB0.out.size))))).mono ?_
  rw [HM.out]
  rintro e w2 ⟨rfl, hb⟩
  have hb' := below_self HB.out hb
  clear hb HB hc hfz hz
  have HB := Lib.hid hb'
  obtain ⟨hc, hfz⟩ := bcell hb'
  have hz := hb'.size
  simp at hz
  clear hb'
  have HB1 := Lib.hid (HB0.out.trans (HB.out.mono HB0.out.size))
  go_wp2
  exact bodyPost_ret (v := .tuple #[.agg #[.int .i64 0, .slice none 0 0], .int .i64 3]) (by simp [results, Try.results11, go_sem, hc, hfz, hz]) rfl (chg_none _ _ _ _ rfl ((HB1.out.setCell (by simp; omega) _).setCell (by simp; omega) _))
set_option maxHeartbeats 1000000 in
theorem rc_add7 (ep : Int) (ad : Option Addr) (cap : Nat) (ns : List Int) (cl sq : Int) (p v : ByteArray) (ver a b : Int) (w : World) (h : It w (.slice ad ns.length cap) ns) (hv : valB ep ns = true) (he : ¬ ep = 1048576) (ha : ¬ a < 0) (hb : ¬ 31 < a) (hm : inB a ns = false) (hl : ns.length = 7) :
    Calls Try.prog 11 #[cfgV ep ad ns.length cap, cmdV cl sq 7 p v ver a b] w (ChgPost (no 7) w) := by
  have HH := Lib.hid h
  have bx := box3_below w ep ad ns.length cap cl sq 7 p v ver a b
  have HB0 := Lib.hid bx
  have HB := Lib.hid (Below.refl (box3 w ep ad ns.length cap cl sq 7 p v ver a b).heap.size (box3 w ep ad ns.length cap cl sq 7 p v ver a b))
  have HV := Lib.hid hv
  have te : (ep == 1048576) = false := by simpa using he
  have hval : Val ep ns := by simpa [valB] using hv
  have te1 : 0 ≤ ep := hval.1
  have te2 : ep ≤ 1048576 := hval.2.1
  have tl1 : 1 ≤ ns.length := hval.2.2.2.2.1
  have tl7 : ns.length ≤ 7 := hval.2.2.2.2.2
  have ta : decide (a < 0) = false := by simpa using ha
  have tb : decide (31 < a) = false := by simpa using hb
  have HM := Lib.hid hm
  have tl : (7 : Int) ≤ (ns.length : Int) := by omega
  clear h bx hv he hval hm hl
  go_enter Try.func11, Try.ntmps11
  go_wp2_with fail
  refine (rvalid_any _ _ _ ns _ (IRow.of_it (HH.out.below (HB0.out.trans (HB.out.mono HB0.out.size))))).mono ?_
  rw [HV.out]
  rintro e w1 ⟨rfl, hb⟩
  have hb' := below_self HB.out hb
  clear hb HB 
  have HB := Lib.hid hb'
  obtain ⟨hc, hfz⟩ := bcell hb'
  have hz := hb'.size
  simp at hz
  clear hb'
  go_wp2_with fail
  refine (rhas_any _ a _ _ ns _ (IRow.of_it (HH.out.below (HB0.out.trans (HB.out.mono HB0.out.size))))).mono ?_
  rw [HM.out]
  rintro e w2 ⟨rfl, hb⟩
  have hb' := below_self HB.out hb
  clear hb HB hc hfz hz
  have HB := Lib.hid hb'
  obtain ⟨hc, hfz⟩ := bcell hb'
  have hz := hb'.size
  simp at hz
  clear hb'
  have HB1 := Lib.hid (HB0.out.trans (HB.out.mono HB0.out.size))
  go_wp2
  exact bodyPost_ret (v := .tuple #[.agg #[.int .i64 0, .slice none 0 0], .int .i64 7]) (by simp [results, Try.results11, go_sem, hc, hfz, hz]) rfl (chg_none _ _ _ _ rfl ((HB1.out.setCell (by simp; omega) _).setCell (by simp; omega) _))
set_option maxHeartbeats 1000000 in
theorem rc_add0 (ep : Int) (ad : Option Addr) (cap : Nat) (ns : List Int) (cl sq : Int) (p v : ByteArray) (ver a b : Int) (w : World) (h : It w (.slice ad ns.length cap) ns) (hv : valB ep ns = true) (he : ¬ ep = 1048576) (ha : ¬ a < 0) (hb : ¬ 31 < a) (hm : inB a ns = false) (hl : ¬ ns.length = 7) (l9 : List Int) (hq : rl ns (-1) a 32 = l9) :
    Calls Try.prog 11 #[cfgV ep ad ns.length cap, cmdV cl sq 7 p v ver a b] w (ChgPost ⟨0, ep + 1, l9⟩ w) := by
  have HH := Lib.hid h
  have bx := box3_below w ep ad ns.length cap cl sq 7 p v ver a b
  have HB0 := Lib.hid bx
  have HB := Lib.hid (Below.refl (box3 w ep ad ns.length cap cl sq 7 p v ver a b).heap.size (box3 w ep ad ns.length cap cl sq 7 p v ver a b))
  have HV := Lib.hid hv
  have te : (ep == 1048576) = false := by simpa using he
  have hval : Val ep ns := by simpa [valB] using hv
  have te1 : 0 ≤ ep := hval.1
  have te2 : ep ≤ 1048576 := hval.2.1
  have tl1 : 1 ≤ ns.length := hval.2.2.2.2.1
  have tl7 : ns.length ≤ 7 := hval.2.2.2.2.2
  have ta : decide (a < 0) = false := by simpa using ha
  have tb : decide (31 < a) = false := by simpa using hb
  have HM := Lib.hid hm
  have HL := Lib.hid hq
  have tl : decide ((7 : Int) ≤ (ns.length : Int)) = false := by simp; omega
  clear h bx hv he hval hm hl hq
  go_enter Try.func11, Try.ntmps11
  go_wp2_with fail
  refine (rvalid_any _ _ _ ns _ (IRow.of_it (HH.out.below (HB0.out.trans (HB.out.mono HB0.out.size))))).mono ?_
  rw [HV.out]
  rintro e w1 ⟨rfl, hb⟩
  have hb' := below_self HB.out hb
  clear hb HB 
  have HB := Lib.hid hb'
  obtain ⟨hc, hfz⟩ := bcell hb'
  have hz := hb'.size
  simp at hz
  clear hb'
  go_wp2_with fail
  refine (rhas_any _ a _ _ ns _ (IRow.of_it (HH.out.below (HB0.out.trans (HB.out.mono HB0.out.size))))).mono ?_
  rw [HM.out]
  rintro e w2 ⟨rfl, hb⟩
  have hb' := below_self HB.out hb
  clear hb HB hc hfz hz
  have HB := Lib.hid hb'
  obtain ⟨hc, hfz⟩ := bcell hb'
  have hz := hb'.size
  simp at hz
  clear hb'
  go_wp2_with fail
  refine (rwith_any ep ad cap ns (-1) a _ (HH.out.below (HB0.out.trans (HB.out.mono HB0.out.size))) te1 te2).mono ?_
  rw [HL.out]
  rintro e w9 ⟨v9, he, hi, hb⟩
  subst he
  obtain ⟨a9, c9, rfl, _⟩ := hi.it.row
  have hI := Lib.hid (hi.mono (show w.heap.size + 1 + 1 + 1 ≤ _ by omega))
  have hb' := below_self HB.out hb
  clear hb HB hi hc hfz hz
  have HB := Lib.hid hb'
  obtain ⟨hc, hfz⟩ := bcell hb'
  have hz := hb'.size
  simp at hz
  clear hb'
  have HB1 := Lib.hid (HB0.out.trans (HB.out.mono HB0.out.size))
  go_wp2
  exact bodyPost_ret (v := .tuple #[.agg #[.int .i64 (ep + 1), .slice a9 l9.length c9], .int .i64 0]) (by simp [results, Try.results11, go_sem, hc, hfz, hz]) rfl ⟨.slice a9 l9.length c9, rfl, ((hI.out.set (by simp) _).set (by simp) _).mono (by omega), (HB1.out.setCell (by simp; omega) _).setCell (by simp; omega) _⟩
set_option maxHeartbeats 1000000 in
theorem rc_rem2 (ep : Int) (ad : Option Addr) (cap : Nat) (ns : List Int) (cl sq : Int) (p v : ByteArray) (ver a b : Int) (w : World) (h : It w (.slice ad ns.length cap) ns) (hv : valB ep ns = true) (he : ¬ ep = 1048576) (hm : inB a ns = false) :
    Calls Try.prog 11 #[cfgV ep ad ns.length cap, cmdV cl sq 8 p v ver a b] w (ChgPost (no 2) w) := by
  have HH := Lib.hid h
  have bx := box3_below w ep ad ns.length cap cl sq 8 p v ver a b
  have HB0 := Lib.hid bx
  have HB := Lib.hid (Below.refl (box3 w ep ad ns.length cap cl sq 8 p v ver a b).heap.size (box3 w ep ad ns.length cap cl sq 8 p v ver a b))
  have HV := Lib.hid hv
  have te : (ep == 1048576) = false := by simpa using he
  have hval : Val ep ns := by simpa [valB] using hv
  have te1 : 0 ≤ ep := hval.1
  have te2 : ep ≤ 1048576 := hval.2.1
  have tl1 : 1 ≤ ns.length := hval.2.2.2.2.1
  have tl7 : ns.length ≤ 7 := hval.2.2.2.2.2
  have HM := Lib.hid hm
  clear h bx hv he hval hm
  go_enter Try.func11, Try.ntmps11
  go_wp2_with fail
  refine (rvalid_any _ _ _ ns _ (IRow.of_it (HH.out.below (HB0.out.trans (HB.out.mono HB0.out.size))))).mono ?_
  rw [HV.out]
  rintro e w1 ⟨rfl, hb⟩
  have hb' := below_self HB.out hb
  clear hb HB 
  have HB := Lib.hid hb'
  obtain ⟨hc, hfz⟩ := bcell hb'
  have hz := hb'.size
  simp at hz
  clear hb'
  go_wp2_with fail
  refine (rhas_any _ a _ _ ns _ (IRow.of_it (HH.out.below (HB0.out.trans (HB.out.mono HB0.out.size))))).mono ?_
  rw [HM.out]
  rintro e w2 ⟨rfl, hb⟩
  have hb' := below_self HB.out hb
  clear hb HB hc hfz hz
  have HB := Lib.hid hb'
  obtain ⟨hc, hfz⟩ := bcell hb'
  have hz := hb'.size
  simp at hz
  clear hb'
  have HB1 := Lib.hid (HB0.out.trans (HB.out.mono HB0.out.size))
  go_wp2
  exact bodyPost_ret (v := .tuple #[.agg #[.int .i64 0, .slice none 0 0], .int .i64 2]) (by simp [results, Try.results11, go_sem, hc, hfz, hz]) rfl (chg_none _ _ _ _ rfl ((HB1.out.setCell (by simp; omega) _).setCell (by simp; omega) _))
set_option maxHeartbeats 1000000 in
theorem rc_rem4 (ep : Int) (ad : Option Addr) (cap : Nat) (ns : List Int) (cl sq : Int) (p v : ByteArray) (ver a b : Int) (w : World) (h : It w (.slice ad ns.length cap) ns) (hv : valB ep ns = true) (he : ¬ ep = 1048576) (hm : inB a ns = true) (hl : ns.length = 1) :
    Calls Try.prog 11 #[cfgV ep ad ns.length cap, cmdV cl sq 8 p v ver a b] w (ChgPost (no 4) w) := by
  have HH := Lib.hid h
  have bx := box3_below w ep ad ns.length cap cl sq 8 p v ver a b
  have HB0 := Lib.hid bx
  have HB := Lib.hid (Below.refl (box3 w ep ad ns.length cap cl sq 8 p v ver a b).heap.size (box3 w ep ad ns.length cap cl sq 8 p v ver a b))
  have HV := Lib.hid hv
  have te : (ep == 1048576) = false := by simpa using he
  have hval : Val ep ns := by simpa [valB] using hv
  have te1 : 0 ≤ ep := hval.1
  have te2 : ep ≤ 1048576 := hval.2.1
  have tl1 : 1 ≤ ns.length := hval.2.2.2.2.1
  have tl7 : ns.length ≤ 7 := hval.2.2.2.2.2
  have HM := Lib.hid hm
  have tl : ((ns.length : Int) == 1) = true := by simp; omega
  clear h bx hv he hval hm hl
  go_enter Try.func11, Try.ntmps11
  go_wp2_with fail
  refine (rvalid_any _ _ _ ns _ (IRow.of_it (HH.out.below (HB0.out.trans (HB.out.mono HB0.out.size))))).mono ?_
  rw [HV.out]
  rintro e w1 ⟨rfl, hb⟩
  have hb' := below_self HB.out hb
  clear hb HB 
  have HB := Lib.hid hb'
  obtain ⟨hc, hfz⟩ := bcell hb'
  have hz := hb'.size
  simp at hz
  clear hb'
  go_wp2_with fail
  refine (rhas_any _ a _ _ ns _ (IRow.of_it (HH.out.below (HB0.out.trans (HB.out.mono HB0.out.size))))).mono ?_
  rw [HM.out]
  rintro e w2 ⟨rfl, hb⟩
  have hb' := below_self HB.out hb
  clear hb HB hc hfz hz
  have HB := Lib.hid hb'
  obtain ⟨hc, hfz⟩ := bcell hb'
  have hz := hb'.size
  simp at hz
  clear hb'
  have HB1 := Lib.hid (HB0.out.trans (HB.out.mono HB0.out.size))
  go_wp2
  exact bodyPost_ret (v := .tuple #[.agg #[.int .i64 0, .slice none 0 0], .int .i64 4]) (by simp [results, Try.results11, go_sem, hc, hfz, hz]) rfl (chg_none _ _ _ _ rfl ((HB1.out.setCell (by simp; omega) _).setCell (by simp; omega) _))
set_option maxHeartbeats 1000000 in
theorem rc_rem0 (ep : Int) (ad : Option Addr) (cap : Nat) (ns : List Int) (cl sq : Int) (p v : ByteArray) (ver a b : Int) (w : World) (h : It w (.slice ad ns.length cap) ns) (hv : valB ep ns = true) (he : ¬ ep = 1048576) (hm : inB a ns = true) (hl : ¬ ns.length = 1) (l9 : List Int) (hq : rl ns a (-1) 32 = l9) :
    Calls Try.prog 11 #[cfgV ep ad ns.length cap, cmdV cl sq 8 p v ver a b] w (ChgPost ⟨0, ep + 1, l9⟩ w) := by
  have HH := Lib.hid h
  have bx := box3_below w ep ad ns.length cap cl sq 8 p v ver a b
  have HB0 := Lib.hid bx
  have HB := Lib.hid (Below.refl (box3 w ep ad ns.length cap cl sq 8 p v ver a b).heap.size (box3 w ep ad ns.length cap cl sq 8 p v ver a b))
  have HV := Lib.hid hv
  have te : (ep == 1048576) = false := by simpa using he
  have hval : Val ep ns := by simpa [valB] using hv
  have te1 : 0 ≤ ep := hval.1
  have te2 : ep ≤ 1048576 := hval.2.1
  have tl1 : 1 ≤ ns.length := hval.2.2.2.2.1
  have tl7 : ns.length ≤ 7 := hval.2.2.2.2.2
  have HM := Lib.hid hm
  have HL := Lib.hid hq
  have tl : ((ns.length : Int) == 1) = false := by simp; omega
  clear h bx hv he hval hm hl hq
  go_enter Try.func11, Try.ntmps11
  go_wp2_with fail
  refine (rvalid_any _ _ _ ns _ (IRow.of_it (HH.out.below (HB0.out.trans (HB.out.mono HB0.out.size))))).mono ?_
  rw [HV.out]
  rintro e w1 ⟨rfl, hb⟩
  have hb' := below_self HB.out hb
  clear hb HB 
  have HB := Lib.hid hb'
  obtain ⟨hc, hfz⟩ := bcell hb'
  have hz := hb'.size
  simp at hz
  clear hb'
  go_wp2_with fail
  refine (rhas_any _ a _ _ ns _ (IRow.of_it (HH.out.below (HB0.out.trans (HB.out.mono HB0.out.size))))).mono ?_
  rw [HM.out]
  rintro e w2 ⟨rfl, hb⟩
  have hb' := below_self HB.out hb
  clear hb HB hc hfz hz
  have HB := Lib.hid hb'
  obtain ⟨hc, hfz⟩ := bcell hb'
  have hz := hb'.size
  simp at hz
  clear hb'
  go_wp2_with fail
  refine (rwith_any ep ad cap ns a (-1) _ (HH.out.below (HB0.out.trans (HB.out.mono HB0.out.size))) te1 te2).mono ?_
  rw [HL.out]
  rintro e w9 ⟨v9, he, hi, hb⟩
  subst he
  obtain ⟨a9, c9, rfl, _⟩ := hi.it.row
  have hI := Lib.hid (hi.mono (show w.heap.size + 1 + 1 + 1 ≤ _ by omega))
  have hb' := below_self HB.out hb
  clear hb HB hi hc hfz hz
  have HB := Lib.hid hb'
  obtain ⟨hc, hfz⟩ := bcell hb'
  have hz := hb'.size
  simp at hz
  clear hb'
  have HB1 := Lib.hid (HB0.out.trans (HB.out.mono HB0.out.size))
  go_wp2
  exact bodyPost_ret (v := .tuple #[.agg #[.int .i64 (ep + 1), .slice a9 l9.length c9], .int .i64 0]) (by simp [results, Try.results11, go_sem, hc, hfz, hz]) rfl ⟨.slice a9 l9.length c9, rfl, ((hI.out.set (by simp) _).set (by simp) _).mono (by omega), (HB1.out.setCell (by simp; omega) _).setCell (by simp; omega) _⟩
set_option maxHeartbeats 1000000 in
theorem rc_rep2 (ep : Int) (ad : Option Addr) (cap : Nat) (ns : List Int) (cl sq : Int) (p v : ByteArray) (ver a b : Int) (w : World) (h : It w (.slice ad ns.length cap) ns) (hv : valB ep ns = true) (he : ¬ ep = 1048576) (hm : inB a ns = false) :
    Calls Try.prog 11 #[cfgV ep ad ns.length cap, cmdV cl sq 9 p v ver a b] w (ChgPost (no 2) w) := by
  have HH := Lib.hid h
  have bx := box3_below w ep ad ns.length cap cl sq 9 p v ver a b
  have HB0 := Lib.hid bx
  have HB := Lib.hid (Below.refl (box3 w ep ad ns.length cap cl sq 9 p v ver a b).heap.size (box3 w ep ad ns.length cap cl sq 9 p v ver a b))
  have HV := Lib.hid hv
  have te : (ep == 1048576) = false := by simpa using he
  have hval : Val ep ns := by simpa [valB] using hv
  have te1 : 0 ≤ ep := hval.1
  have te2 : ep ≤ 1048576 := hval.2.1
  have tl1 : 1 ≤ ns.length := hval.2.2.2.2.1
  have tl7 : ns.length ≤ 7 := hval.2.2.2.2.2
  have HM := Lib.hid hm
  clear h bx hv he hval hm
  go_enter Try.func11, Try.ntmps11
  go_wp2_with fail
  refine (rvalid_any _ _ _ ns _ (IRow.of_it (HH.out.below (HB0.out.trans (HB.out.mono HB0.out.size))))).mono ?_
  rw [HV.out]
  rintro e w1 ⟨rfl, hb⟩
  have hb' := below_self HB.out hb
  clear hb HB 
  have HB := Lib.hid hb'
  obtain ⟨hc, hfz⟩ := bcell hb'
  have hz := hb'.size
  simp at hz
  clear hb'
  go_wp2_with fail
  refine (rhas_any _ a _ _ ns _ (IRow.of_it (HH.out.below (HB0.out.trans (HB.out.mono HB0.out.size))))).mono ?_
  rw [HM.out]
  rintro e w2 ⟨rfl, hb⟩
  have hb' := below_self HB.out hb
  clear hb HB hc hfz hz
  have HB := Lib.hid hb'
  obtain ⟨hc, hfz⟩ := bcell hb'
  have hz := hb'.size
  simp at hz
  clear hb'
  have HB1 := Lib.hid (HB0.out.trans (HB.out.mono HB0.out.size))
  go_wp2
  exact bodyPost_ret (v := .tuple #[.agg #[.int .i64 0, .slice none 0 0], .int .i64 2]) (by simp [results, Try.results11, go_sem, hc, hfz, hz]) rfl (chg_none _ _ _ _ rfl ((HB1.out.setCell (by simp; omega) _).setCell (by simp; omega) _))
set_option maxHeartbeats 1000000 in
theorem rc_rep1 (ep : Int) (ad : Option Addr) (cap : Nat) (ns : List Int) (cl sq : Int) (p v : ByteArray) (ver a b : Int) (w : World) (h : It w (.slice ad ns.length cap) ns) (hv : valB ep ns = true) (he : ¬ ep = 1048576) (hm : inB a ns = true) (ha : b < 0) :
    Calls Try.prog 11 #[cfgV ep ad ns.length cap, cmdV cl sq 9 p v ver a b] w (ChgPost (no 1) w) := by
  have HH := Lib.hid h
  have bx := box3_below w ep ad ns.length cap cl sq 9 p v ver a b
  have HB0 := Lib.hid bx
  have HB := Lib.hid (Below.refl (box3 w ep ad ns.length cap cl sq 9 p v ver a b).heap.size (box3 w ep ad ns.length cap cl sq 9 p v ver a b))
  have HV := Lib.hid hv
  have te : (ep == 1048576) = false := by simpa using he
  have hval : Val ep ns := by simpa [valB] using hv
  have te1 : 0 ≤ ep := hval.1
  have te2 : ep ≤ 1048576 := hval.2.1
  have tl1 : 1 ≤ ns.length := hval.2.2.2.2.1
  have tl7 : ns.length ≤ 7 := hval.2.2.2.2.2
  have HM := Lib.hid hm
  clear h bx hv he hval hm
  go_enter Try.func11, Try.ntmps11
  go_wp2_with fail
  refine (rvalid_any _ _ _ ns _ (IRow.of_it (HH.out.below (HB0.out.trans (HB.out.mono HB0.out.size))))).mono ?_
  rw [HV.out]
  rintro e w1 ⟨rfl, hb⟩
  have hb' := below_self HB.out hb
  clear hb HB 
  have HB := Lib.hid hb'
  obtain ⟨hc, hfz⟩ := bcell hb'
  have hz := hb'.size
  simp at hz
  clear hb'
  go_wp2_with fail
  refine (rhas_any _ a _ _ ns _ (IRow.of_it (HH.out.below (HB0.out.trans (HB.out.mono HB0.out.size))))).mono ?_
  rw [HM.out]
  rintro e w2 ⟨rfl, hb⟩
  have hb' := below_self HB.out hb
  clear hb HB hc hfz hz
  have HB := Lib.hid hb'
  obtain ⟨hc, hfz⟩ := bcell hb'
  have hz := hb'.size
  simp at hz
  clear hb'
  have HB1 := Lib.hid (HB0.out.trans (HB.out.mono HB0.out.size))
  go_wp2
  exact bodyPost_ret (v := .tuple #[.agg #[.int .i64 0, .slice none 0 0], .int .i64 1]) (by simp [results, Try.results11, go_sem, hc, hfz, hz]) rfl (chg_none _ _ _ _ rfl ((HB1.out.setCell (by simp; omega) _).setCell (by simp; omega) _))
set_option maxHeartbeats 1000000 in
theorem rc_rep1b (ep : Int) (ad : Option Addr) (cap : Nat) (ns : List Int) (cl sq : Int) (p v : ByteArray) (ver a b : Int) (w : World) (h : It w (.slice ad ns.length cap) ns) (hv : valB ep ns = true) (he : ¬ ep = 1048576) (hm : inB a ns = true) (ha : ¬ b < 0) (hb : 31 < b) :
    Calls Try.prog 11 #[cfgV ep ad ns.length cap, cmdV cl sq 9 p v ver a b] w (ChgPost (no 1) w) := by
  have HH := Lib.hid h
  have bx := box3_below w ep ad ns.length cap cl sq 9 p v ver a b
  have HB0 := Lib.hid bx
  have HB := Lib.hid (Below.refl (box3 w ep ad ns.length cap cl sq 9 p v ver a b).heap.size (box3 w ep ad ns.length cap cl sq 9 p v ver a b))
  have HV := Lib.hid hv
  have te : (ep == 1048576) = false := by simpa using he
  have hval : Val ep ns := by simpa [valB] using hv
  have te1 : 0 ≤ ep := hval.1
  have te2 : ep ≤ 1048576 := hval.2.1
  have tl1 : 1 ≤ ns.length := hval.2.2.2.2.1
  have tl7 : ns.length ≤ 7 := hval.2.2.2.2.2
  have HM := Lib.hid hm
  have ta : decide (b < 0) = false := by simpa using ha
  clear h bx hv he hval hm
  go_enter Try.func11, Try.ntmps11
  go_wp2_with fail
  refine (rvalid_any _ _ _ ns _ (IRow.of_it (HH.out.below (HB0.out.trans (HB.out.mono HB0.out.size))))).mono ?_
  rw [HV.out]
  rintro e w1 ⟨rfl, hb⟩
  have hb' := below_self HB.out hb
  clear hb HB 
  have HB := Lib.hid hb'
  obtain ⟨hc, hfz⟩ := bcell hb'
  have hz := hb'.size
  simp at hz
  clear hb'
  go_wp2_with fail
  refine (rhas_any _ a _ _ ns _ (IRow.of_it (HH.out.below (HB0.out.trans (HB.out.mono HB0.out.size))))).mono ?_
  rw [HM.out]
  rintro e w2 ⟨rfl, hb⟩
  have hb' := below_self HB.out hb
  clear hb HB hc hfz hz
  have HB := Lib.hid hb'
  obtain ⟨hc, hfz⟩ := bcell hb'
  have hz := hb'.size
  simp at hz
  clear hb'
  have HB1 := Lib.hid (HB0.out.trans (HB.out.mono HB0.out.size))
  go_wp2
  exact bodyPost_ret (v := .tuple #[.agg #[.int .i64 0, .slice none 0 0], .int .i64 1]) (by simp [results, Try.results11, go_sem, hc, hfz, hz]) rfl (chg_none _ _ _ _ rfl ((HB1.out.setCell (by simp; omega) _).setCell (by simp; omega) _))
set_option maxHeartbeats 1000000 in
theorem rc_rep3 (ep : Int) (ad : Option Addr) (cap : Nat) (ns : List Int) (cl sq : Int) (p v : ByteArray) (ver a b : Int) (w : World) (h : It w (.slice ad ns.length cap) ns) (hv : valB ep ns = true) (he : ¬ ep = 1048576) (hm : inB a ns = true) (ha : ¬ b < 0) (hb : ¬ 31 < b) (hk : inB b ns = true) :
    Calls Try.prog 11 #[cfgV ep ad ns.length cap, cmdV cl sq 9 p v ver a b] w (ChgPost (no 3) w) := by
  have HH := Lib.hid h
  have bx := box3_below w ep ad ns.length cap cl sq 9 p v ver a b
  have HB0 := Lib.hid bx
  have HB := Lib.hid (Below.refl (box3 w ep ad ns.length cap cl sq 9 p v ver a b).heap.size (box3 w ep ad ns.length cap cl sq 9 p v ver a b))
  have HV := Lib.hid hv
  have te : (ep == 1048576) = false := by simpa using he
  have hval : Val ep ns := by simpa [valB] using hv
  have te1 : 0 ≤ ep := hval.1
  have te2 : ep ≤ 1048576 := hval.2.1
  have tl1 : 1 ≤ ns.length := hval.2.2.2.2.1
  have tl7 : ns.length ≤ 7 := hval.2.2.2.2.2
  have HM := Lib.hid hm
  have ta : decide (b < 0) = false := by simpa using ha
  have tb : decide (31 < b) = false := by simpa using hb
  have HK := Lib.hid hk
  clear h bx hv he hval hm hk
  go_enter Try.func11, Try.ntmps11
  go_wp2_with fail
  refine (rvalid_any _ _ _ ns _ (IRow.of_it (HH.out.below (HB0.out.trans (HB.out.mono HB0.out.size))))).mono ?_
  rw [HV.out]
  rintro e w1 ⟨rfl, hb⟩
  have hb' := below_self HB.out hb
  clear hb HB 
  have HB := Lib.hid hb'
  obtain ⟨hc, hfz⟩ := bcell hb'
  have hz := hb'.size
  simp at hz
  clear hb'
  go_wp2_with fail
  refine (rhas_any _ a _ _ ns _ (IRow.of_it (HH.out.below (HB0.out.trans (HB.out.mono HB0.out.size))))).mono ?_
  rw [HM.out]
  rintro e w2 ⟨rfl, hb⟩
  have hb' := below_self HB.out hb
  clear hb HB hc hfz hz
  have HB := Lib.hid hb'
  obtain ⟨hc, hfz⟩ := bcell hb'
  have hz := hb'.size
  simp at hz
  clear hb'
  go_wp2_with fail
  refine (rhas_any _ b _ _ ns _ (IRow.of_it (HH.out.below (HB0.out.trans (HB.out.mono HB0.out.size))))).mono ?_
  rw [HK.out]
  rintro e w3 ⟨rfl, hb⟩
  have hb' := below_self HB.out hb
  clear hb HB hc hfz hz
  have HB := Lib.hid hb'
  obtain ⟨hc, hfz⟩ := bcell hb'
  have hz := hb'.size
  simp at hz
  clear hb'
  have HB1 := Lib.hid (HB0.out.trans (HB.out.mono HB0.out.size))
  go_wp2
  exact bodyPost_ret (v := .tuple #[.agg #[.int .i64 0, .slice none 0 0], .int .i64 3]) (by simp [results, Try.results11, go_sem, hc, hfz, hz]) rfl (chg_none _ _ _ _ rfl ((HB1.out.setCell (by simp; omega) _).setCell (by simp; omega) _))
set_option maxHeartbeats 1000000 in
theorem rc_rep0 (ep : Int) (ad : Option Addr) (cap : Nat) (ns : List Int) (cl sq : Int) (p v : ByteArray) (ver a b : Int) (w : World) (h : It w (.slice ad ns.length cap) ns) (hv : valB ep ns = true) (he : ¬ ep = 1048576) (hm : inB a ns = true) (ha : ¬ b < 0) (hb : ¬ 31 < b) (hk : inB b ns = false) (l9 : List Int) (hq : rl ns a b 32 = l9) :
    Calls Try.prog 11 #[cfgV ep ad ns.length cap, cmdV cl sq 9 p v ver a b] w (ChgPost ⟨0, ep + 1, l9⟩ w) := by
  have HH := Lib.hid h
  have bx := box3_below w ep ad ns.length cap cl sq 9 p v ver a b
  have HB0 := Lib.hid bx
  have HB := Lib.hid (Below.refl (box3 w ep ad ns.length cap cl sq 9 p v ver a b).heap.size (box3 w ep ad ns.length cap cl sq 9 p v ver a b))
  have HV := Lib.hid hv
  have te : (ep == 1048576) = false := by simpa using he
  have hval : Val ep ns := by simpa [valB] using hv
  have te1 : 0 ≤ ep := hval.1
  have te2 : ep ≤ 1048576 := hval.2.1
  have tl1 : 1 ≤ ns.length := hval.2.2.2.2.1
  have tl7 : ns.length ≤ 7 := hval.2.2.2.2.2
  have HM := Lib.hid hm
  have ta : decide (b < 0) = false := by simpa using ha
  have tb : decide (31 < b) = false := by simpa using hb
  have HK := Lib.hid hk
  have HL := Lib.hid hq
  clear h bx hv he hval hm hk hq
  go_enter Try.func11, Try.ntmps11
  go_wp2_with fail
  refine (rvalid_any _ _ _ ns _ (IRow.of_it (HH.out.below (HB0.out.trans (HB.out.mono HB0.out.size))))).mono ?_
  rw [HV.out]
  rintro e w1 ⟨rfl, hb⟩
  have hb' := below_self HB.out hb
  clear hb HB 
  have HB := Lib.hid hb'
  obtain ⟨hc, hfz⟩ := bcell hb'
  have hz := hb'.size
  simp at hz
  clear hb'
  go_wp2_with fail
  refine (rhas_any _ a _ _ ns _ (IRow.of_it (HH.out.below (HB0.out.trans (HB.out.mono HB0.out.size))))).mono ?_
  rw [HM.out]
  rintro e w2 ⟨rfl, hb⟩
  have hb' := below_self HB.out hb
  clear hb HB hc hfz hz
  have HB := Lib.hid hb'
  obtain ⟨hc, hfz⟩ := bcell hb'
  have hz := hb'.size
  simp at hz
  clear hb'
  go_wp2_with fail
  refine (rhas_any _ b _ _ ns _ (IRow.of_it (HH.out.below (HB0.out.trans (HB.out.mono HB0.out.size))))).mono ?_
  rw [HK.out]
  rintro e w3 ⟨rfl, hb⟩
  have hb' := below_self HB.out hb
  clear hb HB hc hfz hz
  have HB := Lib.hid hb'
  obtain ⟨hc, hfz⟩ := bcell hb'
  have hz := hb'.size
  simp at hz
  clear hb'
  go_wp2_with fail
  refine (rwith_any ep ad cap ns a b _ (HH.out.below (HB0.out.trans (HB.out.mono HB0.out.size))) te1 te2).mono ?_
  rw [HL.out]
  rintro e w9 ⟨v9, he, hi, hb⟩
  subst he
  obtain ⟨a9, c9, rfl, _⟩ := hi.it.row
  have hI := Lib.hid (hi.mono (show w.heap.size + 1 + 1 + 1 ≤ _ by omega))
  have hb' := below_self HB.out hb
  clear hb HB hi hc hfz hz
  have HB := Lib.hid hb'
  obtain ⟨hc, hfz⟩ := bcell hb'
  have hz := hb'.size
  simp at hz
  clear hb'
  have HB1 := Lib.hid (HB0.out.trans (HB.out.mono HB0.out.size))
  go_wp2
  exact bodyPost_ret (v := .tuple #[.agg #[.int .i64 (ep + 1), .slice a9 l9.length c9], .int .i64 0]) (by simp [results, Try.results11, go_sem, hc, hfz, hz]) rfl ⟨.slice a9 l9.length c9, rfl, ((hI.out.set (by simp) _).set (by simp) _).mono (by omega), (HB1.out.setCell (by simp; omega) _).setCell (by simp; omega) _⟩
theorem rchange_any (ep : Int) (ad : Option Addr) (cap : Nat) (ns : List Int) (cl sq op : Int) (p v : ByteArray) (ver a b : Int) (w : World) (h : It w (.slice ad ns.length cap) ns) :
    Calls Try.prog 11 #[cfgV ep ad ns.length cap, cmdV cl sq op p v ver a b] w (ChgPost (chg ep ns op a b) w) := by
  cases hv : valB ep ns
  · have hN : ¬ Val ep ns := by simpa [valB] using hv
    have e1 : chg ep ns op a b = no 1 := by simp [chg, hN]
    rw [e1]
    exact rc_bad ep ad cap ns cl sq op p v ver a b w h hv
  have hN : Val ep ns := by simpa [valB] using hv
  by_cases he : ep = 1048576
  · have e1 : chg ep ns op a b = no 1 := by simp [chg, he]
    rw [e1]
    exact rc_end ep ad cap ns cl sq op p v ver a b w h hv he
  have hi : ∀ x : Int, isN x = (decide (0 ≤ x) && decide (x ≤ 31)) := fun x => rfl
  by_cases h7 : op = 7
  · subst h7
    have e1 : chg ep ns 7 a b = chgAdd ep ns a := by simp [chg, he, hN]
    rw [e1]
    by_cases ha : a < 0
    · have e2 : chgAdd ep ns a = no 1 := by
        have : isN a = false := by rw [hi]; simp; omega
        simp [chgAdd, this]
      rw [e2]; exact rc_add1 ep ad cap ns cl sq p v ver a b w h hv he ha
    by_cases hb : 31 < a
    · have e2 : chgAdd ep ns a = no 1 := by
        have : isN a = false := by rw [hi]; simp; omega
        simp [chgAdd, this]
      rw [e2]; exact rc_add2 ep ad cap ns cl sq p v ver a b w h hv he ha hb
    have hia : isN a = true := by rw [hi]; simp; omega
    cases hm : inB a ns
    · have hm' := (inB_not a ns).1 hm
      by_cases hl : ns.length = 7
      · have e2 : chgAdd ep ns a = no 7 := by simp [chgAdd, hia, hm', hl]
        rw [e2]; exact rc_add7 ep ad cap ns cl sq p v ver a b w h hv he ha hb hm hl
      · have e2 : chgAdd ep ns a = ⟨0, ep + 1, ins a ns⟩ := by simp [chgAdd, hia, hm', hl]
        rw [e2]; exact rc_add0 ep ad cap ns cl sq p v ver a b w h hv he ha hb hm hl _ (rl_add hN.2.2 (by omega) (by omega) hm')
    · have hm' := (inB_iff a ns).1 hm
      have e2 : chgAdd ep ns a = no 3 := by simp [chgAdd, hia, hm']
      rw [e2]; exact rc_add3 ep ad cap ns cl sq p v ver a b w h hv he ha hb hm
  by_cases h8 : op = 8
  · subst h8
    have e1 : chg ep ns 8 a b = chgRem ep ns a := by simp [chg, he, hN]
    rw [e1]
    cases hm : inB a ns
    · have hm' := (inB_not a ns).1 hm
      have e2 : chgRem ep ns a = no 2 := by simp [chgRem, hm']
      rw [e2]; exact rc_rem2 ep ad cap ns cl sq p v ver a b w h hv he hm
    · have hm' := (inB_iff a ns).1 hm
      by_cases hl : ns.length = 1
      · have e2 : chgRem ep ns a = no 4 := by simp [chgRem, hm', hl]
        rw [e2]; exact rc_rem4 ep ad cap ns cl sq p v ver a b w h hv he hm hl
      · have e2 : chgRem ep ns a = ⟨0, ep + 1, del a ns⟩ := by simp [chgRem, hm', hl]
        rw [e2]; exact rc_rem0 ep ad cap ns cl sq p v ver a b w h hv he hm hl _ (rl_del hN.2.2)
  by_cases h9 : op = 9
  · subst h9
    have e1 : chg ep ns 9 a b = chgRep ep ns a b := by simp [chg, he, hN]
    rw [e1]
    cases hm : inB a ns
    · have hm' := (inB_not a ns).1 hm
      have e2 : chgRep ep ns a b = no 2 := by simp [chgRep, hm']
      rw [e2]; exact rc_rep2 ep ad cap ns cl sq p v ver a b w h hv he hm
    have hm' := (inB_iff a ns).1 hm
    by_cases ha : b < 0
    · have e2 : chgRep ep ns a b = no 1 := by
        have : isN b = false := by rw [hi]; simp; omega
        simp [chgRep, hm', this]
      rw [e2]; exact rc_rep1 ep ad cap ns cl sq p v ver a b w h hv he hm ha
    by_cases hb : 31 < b
    · have e2 : chgRep ep ns a b = no 1 := by
        have : isN b = false := by rw [hi]; simp; omega
        simp [chgRep, hm', this]
      rw [e2]; exact rc_rep1b ep ad cap ns cl sq p v ver a b w h hv he hm ha hb
    have hib : isN b = true := by rw [hi]; simp; omega
    cases hk : inB b ns
    · have hk' := (inB_not b ns).1 hk
      have e2 : chgRep ep ns a b = ⟨0, ep + 1, ins b (del a ns)⟩ := by simp [chgRep, hm', hib, hk']
      rw [e2]; exact rc_rep0 ep ad cap ns cl sq p v ver a b w h hv he hm ha hb hk _ (rl_rep hN.2.2 (by omega) (by omega) hk')
    · have hk' := (inB_iff b ns).1 hk
      have e2 : chgRep ep ns a b = no 3 := by simp [chgRep, hm', hib, hk']
      rw [e2]; exact rc_rep3 ep ad cap ns cl sq p v ver a b w h hv he hm ha hb hk
  · have e1 : chg ep ns op a b = no 1 := by simp [chg, he, hN, h7, h8, h9]
    rw [e1]
    exact rc_none ep ad cap ns cl sq op p v ver a b w h hv he (by simpa using h7) (by simpa using h8) (by simpa using h9)
end Go.Proofs.Ytacjmcjmenbekaa
