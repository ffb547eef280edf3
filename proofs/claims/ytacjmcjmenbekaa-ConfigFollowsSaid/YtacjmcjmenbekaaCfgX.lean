/-
  The walk of ConfigChanges.
-/
import Derived.Test.YtacjmcjmenbekaaCfgU
namespace Go.Proofs.Ytacjmcjmenbekaa
open Go.RowKit
set_option linter.unusedSimpArgs false
set_option linter.unusedVariables false

set_option maxHeartbeats 1000000 in
theorem changes_far (ep : Int) (ad : Option Addr) (cap : Nat) (ns : List Int) (cl sq op : Int) (p v : ByteArray) (ver a b : Int) (w : World) (h : It w (.slice ad ns.length cap) ns) (hf : (40 : Int) < ns.length) :
    Calls Try.prog 3 #[cfgV ep ad ns.length cap, cmdV cl sq op p v ver a b] w fun e w' => e = .returned (.bool true) ∧ Below w.heap.size w w' := by
  have HS0 := Lib.hid ((held_box w ep ad ns.length cap).row #[.int .i64 cl, .int .i64 sq, .int .i64 op, .string p, .string v, .int .i64 ver, .int .i64 a, .int .i64 b] 27)
  have hlen := h.len
  go_enter Try.func3, Try.ntmps3
  go_wp2_with (go_at_call 9; refine (works_any _).mono ?_; rintro e w1 ⟨rfl, hb⟩; have hn := HS0.out.kept hb; clear hb; have HS := Lib.hid hn; have hc := hn.cells; simp only [AllC, rowL, Nat.reduceAdd, World.size_alloc] at hc; clear hn; go_split_ands)
  go_ret
  exact ⟨rfl, HS.out.below⟩
theorem also7 {W w' : World} {p0 p1 p2 p3 p4 p5 p6 : Addr} {x0 x1 x2 x3 x4 x5 x6 : Value} (hb : Below W.heap.size W w') (H : Hid ((W.cell? p0 = some x0 ∧ p0.block < W.heap.size) ∧ (W.cell? p1 = some x1 ∧ p1.block < W.heap.size) ∧ (W.cell? p2 = some x2 ∧ p2.block < W.heap.size) ∧ (W.cell? p3 = some x3 ∧ p3.block < W.heap.size) ∧ (W.cell? p4 = some x4 ∧ p4.block < W.heap.size) ∧ (W.cell? p5 = some x5 ∧ p5.block < W.heap.size) ∧ (W.cell? p6 = some x6 ∧ p6.block < W.heap.size))) :
    w'.cell? p0 = some x0 ∧ w'.cell? p1 = some x1 ∧ w'.cell? p2 = some x2 ∧ w'.cell? p3 = some x3 ∧ w'.cell? p4 = some x4 ∧ w'.cell? p5 = some x5 ∧ w'.cell? p6 = some x6 ∧ Below W.heap.size W w' := by
  obtain ⟨h0, h1, h2, h3, h4, h5, h6⟩ := H.out
  exact ⟨(hb.cell h0.2).trans h0.1, (hb.cell h1.2).trans h1.1, (hb.cell h2.2).trans h2.1, (hb.cell h3.2).trans h3.1, (hb.cell h4.2).trans h4.1, (hb.cell h5.2).trans h5.1, (hb.cell h6.2).trans h6.1, hb⟩
set_option maxRecDepth 100000 in
set_option maxHeartbeats 8000000 in
theorem changes_near (ep : Int) (ad : Option Addr) (cap : Nat) (ns : List Int) (cl sq op : Int) (p v : ByteArray) (ver a b : Int) (w : World) (h : It w (.slice ad ns.length cap) ns) (hl : ¬ (40 : Int) < ns.length) (C : Chg) (hC : chg ep ns op a b = C) (V I : Bool) (hV : valB ep ns = V) (hI : inB a ns = I) :
    Calls Try.prog 3 #[cfgV ep ad ns.length cap, cmdV cl sq op p v ver a b] w fun e w' => e = .returned (.bool true) ∧ Below w.heap.size w w' := by
  have HS0 := Lib.hid ((held_box w ep ad ns.length cap).row #[.int .i64 cl, .int .i64 sq, .int .i64 op, .string p, .string v, .int .i64 ver, .int .i64 a, .int .i64 b] 27)
  have HH := Lib.hid h
  have HC := Lib.hid hC
  have HV := Lib.hid hV
  have HI := Lib.hid hI
  have hle : ns.length ≤ 100000 := by omega
  clear h hC hV hI
  go_enter Try.func3, Try.ntmps3
  go_wp2_with fail
  refine (works_any _).mono ?_
  rintro e w1 ⟨rfl, hb⟩
  have hn := HS0.out.kept hb
  clear hb HS0
  have HS1 := Lib.hid hn
  have hc1 := hn.cells
  have hz1 := hn.size
  simp only [AllC, rowL, Nat.reduceAdd, World.size_alloc] at hc1
  try simp only [World.size_alloc] at hz1
  clear hn
  go_split_ands
  go_wp2_with fail
  refine (change_any ep ad cap ns _ _ op _ _ _ a b _ (HH.out.below HS1.out.below)).mono ?_
  rw [HC.out]
  rintro e w2 ⟨v2, he, hi, hb⟩
  subst he
  obtain ⟨a2, c2, rfl, _⟩ := hi.it.row
  have hn := HS1.out.kept hb
  have hz12 := hb.size
  have I2 := Lib.hid hi.it
  clear hb HS1 hi
  have HS2 := Lib.hid hn
  have hc2 := hn.cells
  simp only [AllC, rowL, Nat.reduceAdd, World.size_alloc] at hc2
  clear hn
  go_split_ands
  have k1 : w.heap.size < w2.heap.size := by omega
  have k2 : w.heap.size + 1 < w2.heap.size := by omega
  go_wp2_with fail
  refine (rchange_any ep ad cap ns _ _ op _ _ _ a b _ ((HH.out.below HS2.out.below).alloc _)).mono ?_
  rw [HC.out]
  rintro e w3 ⟨v3, he, hi, hb⟩
  subst he
  obtain ⟨a3, c3, rfl, _⟩ := hi.it.row
  have hn := (HS2.out.row _ _).kept hb
  have hz23 := hb.size
  have I3 := Lib.hid hi.it
  have I23 := Lib.hid ((I2.out.alloc _).below hb)
  clear hb HS2 hi I2
  have HS3 := Lib.hid hn
  have hc3 := hn.cells
  simp only [AllC, rowL, Nat.reduceAdd, World.size_alloc] at hc3
  try simp only [World.size_alloc] at hz23
  clear hn
  go_split_ands
  have k3 : w.heap.size < w3.heap.size := by omega
  have k4 : w.heap.size + 1 < w3.heap.size := by omega
  have k5 : w2.heap.size < w3.heap.size := by omega
  go_wp2_with fail
  have hw := (HS3.out.row #[.int .i64 C.ep, .slice a3 C.ns.length c3] 24)
  have hwc := hw.cells
  have HBW := Lib.hid hw.below
  simp only [AllC, rowL, Nat.reduceAdd, World.size_alloc] at hwc
  obtain ⟨q0, q1, q2, q3, x0, x1, x2, x3, x4, x5, x6, x7, y0, y1, _⟩ := hwc
  have HX : Hid (((w3.alloc (.cells #[.int .i64 C.ep, .slice a3 C.ns.length c3] 24)).cell? ⟨w.heap.size, 0, none⟩ = some (.int .i64 ep) ∧ w.heap.size < (w3.alloc (.cells #[.int .i64 C.ep, .slice a3 C.ns.length c3] 24)).heap.size) ∧ ((w3.alloc (.cells #[.int .i64 C.ep, .slice a3 C.ns.length c3] 24)).cell? ⟨w.heap.size, 1, none⟩ = some (.slice ad ns.length cap) ∧ w.heap.size < (w3.alloc (.cells #[.int .i64 C.ep, .slice a3 C.ns.length c3] 24)).heap.size) ∧ ((w3.alloc (.cells #[.int .i64 C.ep, .slice a3 C.ns.length c3] 24)).cell? ⟨w.heap.size + 1, 6, none⟩ = some (.int .i64 a) ∧ w.heap.size + 1 < (w3.alloc (.cells #[.int .i64 C.ep, .slice a3 C.ns.length c3] 24)).heap.size) ∧ ((w3.alloc (.cells #[.int .i64 C.ep, .slice a3 C.ns.length c3] 24)).cell? ⟨w2.heap.size, 0, none⟩ = some (.int .i64 C.ep) ∧ w2.heap.size < (w3.alloc (.cells #[.int .i64 C.ep, .slice a3 C.ns.length c3] 24)).heap.size) ∧ ((w3.alloc (.cells #[.int .i64 C.ep, .slice a3 C.ns.length c3] 24)).cell? ⟨w2.heap.size, 1, none⟩ = some (.slice a2 C.ns.length c2) ∧ w2.heap.size < (w3.alloc (.cells #[.int .i64 C.ep, .slice a3 C.ns.length c3] 24)).heap.size) ∧ ((w3.alloc (.cells #[.int .i64 C.ep, .slice a3 C.ns.length c3] 24)).cell? ⟨w3.heap.size, 0, none⟩ = some (.int .i64 C.ep) ∧ w3.heap.size < (w3.alloc (.cells #[.int .i64 C.ep, .slice a3 C.ns.length c3] 24)).heap.size) ∧ ((w3.alloc (.cells #[.int .i64 C.ep, .slice a3 C.ns.length c3] 24)).cell? ⟨w3.heap.size, 1, none⟩ = some (.slice a3 C.ns.length c3) ∧ w3.heap.size < (w3.alloc (.cells #[.int .i64 C.ep, .slice a3 C.ns.length c3] 24)).heap.size)) := by
    have z : (w3.alloc (.cells #[.int .i64 C.ep, .slice a3 C.ns.length c3] 24)).heap.size = w3.heap.size + 1 := by simp
    refine Lib.hid ⟨⟨y0, ?_⟩, ⟨y1, ?_⟩, ⟨x6, ?_⟩, ⟨q2, ?_⟩, ⟨q3, ?_⟩, ⟨q0, ?_⟩, ⟨q1, ?_⟩⟩ <;> rw [z] <;> omega
  have HHW : Hid (It (w3.alloc (.cells #[.int .i64 C.ep, .slice a3 C.ns.length c3] 24)) (.slice ad ns.length cap) ns) := Lib.hid (HH.out.below hw.below)
  have I2W : Hid (It (w3.alloc (.cells #[.int .i64 C.ep, .slice a3 C.ns.length c3] 24)) (.slice a2 C.ns.length c2) C.ns) := Lib.hid (I23.out.alloc _)
  have I3W : Hid (It (w3.alloc (.cells #[.int .i64 C.ep, .slice a3 C.ns.length c3] 24)) (.slice a3 C.ns.length c3) C.ns) := Lib.hid (I3.out.alloc _)
  clear hw q0 q1 q2 q3 x0 x1 x2 x3 x4 x5 x6 x7 y0 y1 HS3 I3 I23 HH
  go_region_held3 (fun w' => w'.cell? ⟨w.heap.size, 0, none⟩ = some (.int .i64 ep) ∧ w'.cell? ⟨w.heap.size, 1, none⟩ = some (.slice ad ns.length cap) ∧ w'.cell? ⟨w.heap.size + 1, 6, none⟩ = some (.int .i64 a) ∧ w'.cell? ⟨w2.heap.size, 0, none⟩ = some (.int .i64 C.ep) ∧ w'.cell? ⟨w2.heap.size, 1, none⟩ = some (.slice a2 C.ns.length c2) ∧ w'.cell? ⟨w3.heap.size, 0, none⟩ = some (.int .i64 C.ep) ∧ w'.cell? ⟨w3.heap.size, 1, none⟩ = some (.slice a3 C.ns.length c3) ∧ Below (w3.alloc (.cells #[.int .i64 C.ep, .slice a3 C.ns.length c3] 24)).heap.size (w3.alloc (.cells #[.int .i64 C.ep, .slice a3 C.ns.length c3] 24)) w')
    (first
      | exact also7 (Below.refl _ _) HX
      | exact also7 (Below.refl _ _).drew HX
      | (go_split_ands; first | exact also7 (below_self (by assumption) (by assumption)) HX | exact also7 (by assumption) HX))
    (first
      | (go_at_call 12; go_split_ands; refine (valid_any _ _ _ ns _ (IRow.of_it (HHW.out.below (by assumption)))).mono ?_; rw [HV.out]; rintro e w4 ⟨rfl, hb4⟩)
      | (go_at_call 13; go_split_ands; refine (rvalid_any _ _ _ ns _ (IRow.of_it (HHW.out.below (by assumption)))).mono ?_; rw [HV.out]; rintro e w5 ⟨rfl, hb5⟩)
      | (go_at_call_of 14 (Value.agg #[Value.int .i64 C.ep, Value.slice a2 C.ns.length c2]); go_split_ands; refine (rsame_any C.ep C.ep a2 a3 c2 c3 C.ns C.ns _ (IRow.of_it (I2W.out.below (by assumption))) (IRow.of_it (I3W.out.below (by assumption)))).mono ?_; rw [sameB_refl]; rintro e w6 ⟨rfl, hb6⟩)
      | (go_at_call 15; go_split_ands; refine (has_any _ _ _ _ ns _ (IRow.of_it (HHW.out.below (by assumption)))).mono ?_; rw [HI.out]; rintro e w7 ⟨rfl, hb7⟩)
      | (go_at_call 16; go_split_ands; refine (rhas_any _ _ _ _ ns _ (IRow.of_it (HHW.out.below (by assumption)))).mono ?_; rw [HI.out]; rintro e w8 ⟨rfl, hb8⟩)
      | (go_at_call 17; go_split_ands; refine (cclone_any _ _ _ ns _ (HHW.out.below (by assumption)) hle).mono ?_; rintro e w9 ⟨v9, rfl, hi9, hb9⟩; obtain ⟨a9, c9, rfl, _⟩ := hi9.row)
      | (go_at_call 14; go_split_ands; refine (rsame_any ep ep _ ad _ cap ns ns _ (IRow.of_it (by assumption)) (IRow.of_it (HHW.out.below (by assumption)))).mono ?_; rw [sameB_refl]; rintro e w10 ⟨rfl, hb10⟩))
  all_goals
    go_split_ands
    have hf := HBW.out.trans (Below.mono (show Below (w3.alloc (.cells #[.int .i64 C.ep, .slice a3 C.ns.length c3] 24)).heap.size (w3.alloc (.cells #[.int .i64 C.ep, .slice a3 C.ns.length c3] 24)) w10 by assumption) (by simp; omega))
    have HF := Lib.hid hf
    clear hf
    go_wp2
    go_ret
    exact ⟨rfl, HF.out⟩
theorem changes_law (ep : Int) (ad : Option Addr) (cap : Nat) (ns : List Int) (cl sq op : Int) (p v : ByteArray) (ver a b : Int) (w : World) (h : It w (.slice ad ns.length cap) ns) :
    Calls Try.prog 3 #[cfgV ep ad ns.length cap, cmdV cl sq op p v ver a b] w fun e w' => e = .returned (.bool true) ∧ Below w.heap.size w w' := by
  by_cases hf : (40 : Int) < ns.length
  · exact changes_far ep ad cap ns cl sq op p v ver a b w h hf
  · exact changes_near ep ad cap ns cl sq op p v ver a b w h hf _ rfl _ _ rfl rfl
end Go.Proofs.Ytacjmcjmenbekaa
