/-
  The walk of CodeApart.
-/
import Derived.Test.YtllcmapgigfgoaaCdH
import Derived.Test.YtllcmapgigfgoaaWr
import Derived.Deep.RegionHeld3
import Derived.Deep.Cut
import Derived.Deep.CutRange
namespace Go.Proofs.Ytllcmapgigfgoaa
open Go.RowKit
set_option linter.unusedSimpArgs false
set_option linter.unusedVariables false

section
variable {ops : Array Oper} {o : Oper} {a : Act} {w : World} {K : Act → World → Prop} {Q : Exit → Act → World → Prop}
theorem step_loadC (hw : Region.wanted o (yielded ops a.tmps) = true) (ty : TypeId) (x : Operand) (ho : o.op = .load ty x) (g : Nat) (hx : a.eval x = .pointer (some ⟨g, 0, none⟩)) (t : TypeId) (cs : Array Value) (fr : Nat × Nat) (d : Array Field) (hg : w.heap[g]? = some (.cells cs t fr))
    (hu : Try.prog.underlying ty = some (.struct d)) (hi : (Try.prog.info? ty).map (·.size) = some cs.size)
    (h : K (a.put o.dst (.agg cs)) w) : if Region.wanted o (yielded ops a.tmps) = true then Oper.wp Try.prog o a w K Q else K (a.put o.dst undef) w := by
  rw [if_pos hw]
  exact wp_load_row ty x ho g hx t cs fr (.struct d) hg hu rfl hi h
end
theorem txt_eqC {xs ys : List Int} (hx : ∀ x ∈ xs, 0 ≤ x ∧ x ≤ 255) (hy : ∀ x ∈ ys, 0 ≤ x ∧ x ≤ 255) : ((txt xs).toList == (txt ys).toList) = decide (xs = ys) := by
  rw [toList_eq_iff, byt_txt hx, byt_txt hy]
theorem txM_byt {l : List Fd} (h : Oks l) : byt (txM l) = 61 :: eF l := by
  unfold txM
  rw [if_pos h, byt_append, byt_txt (eF_byte h)]
  rfl
theorem txM_eq {l k : List Fd} (h : Oks l) (hk : Oks k) : ((txM l).toList == (txM k).toList) = decide (eF l = eF k) := by
  rw [toList_eq_iff, txM_byt h, txM_byt hk]
  simp
theorem frm_inj {xs ys : List Int} : frm xs = frm ys ↔ xs = ys := by
  constructor
  · intro h
    have h1 := congrArg (List.drop 8) h
    simpa [frm, f4] using h1
  · rintro rfl; rfl
/-- 'string(b)', as an equation. -/
theorem bt_str {w : World} {v : Value} {xs : List Int} (h : Bt w v xs) : (convert 49 9 v).run Try.prog w = .ok (.string (txt xs)) w := by
  obtain ⟨ad, cap, rfl, h1, h2⟩ := h.row
  exact run_text h1 h2 Try.underlying49 Try.underlying5 Try.underlying9
set_option maxRecDepth 100000 in
set_option maxHeartbeats 8000000 in
theorem apart_bad0 (v0 v1 : Value) (x0 x1 : Msg7) (w : World) (h0 : MsgIs w v0 x0) (h1 : MsgIs w v1 x1) (z0 : RchI x0.2.2.2.2.2.1 x0.2.2.2.2.2.2) (z1 : RchI x1.2.2.2.2.2.1 x1.2.2.2.2.2.2) (q0 : ¬ Oks (msC.fs x0)) (q1 : Oks (msC.fs x1)) :
    Calls Try.prog 8 #[v0, v1] w (TruP w) := by
  have HM0 := Lib.hid h0
  have HM1 := Lib.hid h1
  have HZ0 := Lib.hid z0
  have HZ1 := Lib.hid z1
  obtain ⟨cs0, rfl, hs0⟩ := h0
  obtain ⟨cs1, rfl, hs1⟩ := h1
  have HI0 : Hid ((Try.prog.info? 44).map (·.size) = some cs0.size) := Lib.hid (by rw [ms_size hs0]; kernel_rfl)
  have HI1 : Hid ((Try.prog.info? 44).map (·.size) = some cs1.size) := Lib.hid (by rw [ms_size hs1]; kernel_rfl)
  have HX0 : Hid (((w.alloc (.cells cs0 44)).alloc (.cells cs1 44)).heap[w.heap.size]? = some (.cells cs0 44 (0, 0))) := Lib.hid ((Below.heap_alloc _ _ _ (by simp)).trans (bka_new w 44 cs0))
  have HX1 : Hid (((w.alloc (.cells cs0 44)).alloc (.cells cs1 44)).heap[w.heap.size + 1]? = some (.cells cs1 44 (0, 0))) := Lib.hid (by have := bka_new (w.alloc (.cells cs0 44)) 44 cs1; rwa [World.size_alloc] at this)
  have HB : Hid (Below w.heap.size w ((w.alloc (.cells cs0 44)).alloc (.cells cs1 44))) := Lib.hid (((Below.refl _ _).alloc (Nat.le_refl _) _).alloc (by simp) _)
  have HS : Hid (w.heap.size + 2 ≤ ((w.alloc (.cells cs0 44)).alloc (.cells cs1 44)).heap.size) := Lib.hid (by simp)
  clear hs0 hs1 z0 z1
  have Q0 := Lib.hid q0
  have Q1 := Lib.hid q1
  clear q0 q1
  go_enter Try.func8, Try.ntmps8
  go_wp2_with fail
  refine (works_any _).mono ?_
  rintro e w1 ⟨rfl, hb⟩
  have HX0' := Lib.hid ((hb.block _ (by have := HS.out; omega)).trans HX0.out)
  have HX1' := Lib.hid ((hb.block _ (by have := HS.out; omega)).trans HX1.out)
  have HB' := Lib.hid (HB.out.trans (hb.mono HB.out.size))
  have HS' : Hid (w.heap.size + 2 ≤ _) := Lib.hid (Nat.le_trans HS.out hb.size)
  clear hb HX0 HX1 HB HS 
  have HX0 := HX0'
  have HX1 := HX1'
  have HB := HB'
  have HS := HS'
  clear HX0' HX1' HB' HS' 
  go_wp2_with (first | refine wpList_load_rowG rfl _ _ rfl (w.heap.size) rfl 44 cs0 (0, 0) _ HX0.out Try.underlying44 rfl HI0.out ?_ | refine wpList_load_rowG rfl _ _ rfl (w.heap.size + 1) rfl 44 cs1 (0, 0) _ HX1.out Try.underlying44 rfl HI1.out ?_)
  refine (few_any _ x0 _ (HM0.out.on HB.out)).mono ?_
  rintro e wf0 ⟨R0, he, hF, hb⟩
  rw [he.out]
  clear he
  have HF0 := Lib.hid hF
  clear hF
  have HX0' := Lib.hid ((hb.block _ (by have := HS.out; omega)).trans HX0.out)
  have HX1' := Lib.hid ((hb.block _ (by have := HS.out; omega)).trans HX1.out)
  have HB' := Lib.hid (HB.out.trans (hb.mono HB.out.size))
  have HS' : Hid (w.heap.size + 2 ≤ _) := Lib.hid (Nat.le_trans HS.out hb.size)
  clear hb HX0 HX1 HB HS 
  have HX0 := HX0'
  have HX1 := HX1'
  have HB := HB'
  have HS := HS'
  clear HX0' HX1' HB' HS' 
  cases R0 with
  | false =>
    go_wp2_with fail
    go_ret
    exact ⟨rfl, HB.out⟩
  | true =>
  go_wp2_with (first | refine wpList_load_rowG rfl _ _ rfl (w.heap.size) rfl 44 cs0 (0, 0) _ HX0.out Try.underlying44 rfl HI0.out ?_ | refine wpList_load_rowG rfl _ _ rfl (w.heap.size + 1) rfl 44 cs1 (0, 0) _ HX1.out Try.underlying44 rfl HI1.out ?_)
  refine (few_any _ x1 _ (HM1.out.on HB.out)).mono ?_
  rintro e wf1 ⟨R1, he, hF, hb⟩
  rw [he.out]
  clear he
  have HF1 := Lib.hid hF
  clear hF
  have HX0' := Lib.hid ((hb.block _ (by have := HS.out; omega)).trans HX0.out)
  have HX1' := Lib.hid ((hb.block _ (by have := HS.out; omega)).trans HX1.out)
  have HB' := Lib.hid (HB.out.trans (hb.mono HB.out.size))
  have HS' : Hid (w.heap.size + 2 ≤ _) := Lib.hid (Nat.le_trans HS.out hb.size)
  clear hb HX0 HX1 HB HS 
  have HX0 := HX0'
  have HX1 := HX1'
  have HB := HB'
  have HS := HS'
  clear HX0' HX1' HB' HS' 
  cases R1 with
  | false =>
    go_wp2_with fail
    go_ret
    exact ⟨rfl, HB.out⟩
  | true =>
  go_wp2_with (first | refine wpList_load_rowG rfl _ _ rfl (w.heap.size) rfl 44 cs0 (0, 0) _ HX0.out Try.underlying44 rfl HI0.out ?_ | refine wpList_load_rowG rfl _ _ rfl (w.heap.size + 1) rfl 44 cs1 (0, 0) _ HX1.out Try.underlying44 rfl HI1.out ?_)
  refine (msg_any _ x0 _ (HM0.out.on HB.out)).mono ?_
  rintro e wm0 hP
  obtain ⟨_, he, hb⟩ := hP.resolve_left (fun h => Q0.out h.1)
  rw [he.out]
  clear he hP
  have HX0' := Lib.hid ((hb.block _ (by have := HS.out; omega)).trans HX0.out)
  have HX1' := Lib.hid ((hb.block _ (by have := HS.out; omega)).trans HX1.out)
  have HB' := Lib.hid (HB.out.trans (hb.mono HB.out.size))
  have HS' : Hid (w.heap.size + 2 ≤ _) := Lib.hid (Nat.le_trans HS.out hb.size)
  clear hb HX0 HX1 HB HS 
  have HX0 := HX0'
  have HX1 := HX1'
  have HB := HB'
  have HS := HS'
  clear HX0' HX1' HB' HS' 
  go_wp2_with (first | refine wpList_load_rowG rfl _ _ rfl (w.heap.size) rfl 44 cs0 (0, 0) _ HX0.out Try.underlying44 rfl HI0.out ?_ | refine wpList_load_rowG rfl _ _ rfl (w.heap.size + 1) rfl 44 cs1 (0, 0) _ HX1.out Try.underlying44 rfl HI1.out ?_)
  refine (msg_any _ x1 _ (HM1.out.on HB.out)).mono ?_
  rintro e wm1 hP
  obtain ⟨_, u1, he, ho, hb⟩ := hP.resolve_right (fun h => h.1 Q1.out)
  rw [he.out]
  clear he hP
  obtain ⟨am1, cm1, hv⟩ := ho.slice
  subst hv
  have HU1 := Lib.hid (ho.bt (by have := few_len Q1.out (HF1.out (by first | rfl | trivial)); omega))
  clear ho
  have HX0' := Lib.hid ((hb.block _ (by have := HS.out; omega)).trans HX0.out)
  have HX1' := Lib.hid ((hb.block _ (by have := HS.out; omega)).trans HX1.out)
  have HB' := Lib.hid (HB.out.trans (hb.mono HB.out.size))
  have HS' : Hid (w.heap.size + 2 ≤ _) := Lib.hid (Nat.le_trans HS.out hb.size)
  clear hb HX0 HX1 HB HS 
  have HX0 := HX0'
  have HX1 := HX1'
  have HB := HB'
  have HS := HS'
  clear HX0' HX1' HB' HS' 
  go_wp2_with (first | refine wpList_load_rowG rfl _ _ rfl (w.heap.size) rfl 44 cs0 (0, 0) _ HX0.out Try.underlying44 rfl HI0.out ?_ | refine wpList_load_rowG rfl _ _ rfl (w.heap.size + 1) rfl 44 cs1 (0, 0) _ HX1.out Try.underlying44 rfl HI1.out ?_)
  refine (frame_any _ x0 _ (HM0.out.on HB.out)).mono ?_
  rintro e wr0 hP
  obtain ⟨_, he, hb⟩ := (hP.resolve_left (fun h => Q0.out h.1)).resolve_left (fun h => Q0.out h.1)
  rw [he.out]
  clear he hP
  have HX0' := Lib.hid ((hb.block _ (by have := HS.out; omega)).trans HX0.out)
  have HX1' := Lib.hid ((hb.block _ (by have := HS.out; omega)).trans HX1.out)
  have HB' := Lib.hid (HB.out.trans (hb.mono HB.out.size))
  have HS' : Hid (w.heap.size + 2 ≤ _) := Lib.hid (Nat.le_trans HS.out hb.size)
  have HU1' := Lib.hid (HU1.out.below hb)
  clear hb HX0 HX1 HB HS HU1
  have HX0 := HX0'
  have HX1 := HX1'
  have HB := HB'
  have HS := HS'
  have HU1 := HU1'
  clear HX0' HX1' HB' HS' HU1'
  go_wp2_with (first | refine wpList_load_rowG rfl _ _ rfl (w.heap.size) rfl 44 cs0 (0, 0) _ HX0.out Try.underlying44 rfl HI0.out ?_ | refine wpList_load_rowG rfl _ _ rfl (w.heap.size + 1) rfl 44 cs1 (0, 0) _ HX1.out Try.underlying44 rfl HI1.out ?_)
  refine (frame_any _ x1 _ (HM1.out.on HB.out)).mono ?_
  rintro e wr1 hP
  obtain ⟨_, _, t1, he, ho, hb⟩ := hP.resolve_right (fun h => h.elim (fun k => k.2.1 (by have := few_len Q1.out (HF1.out (by first | rfl | trivial)); omega)) (fun k => k.1 Q1.out))
  rw [he.out]
  clear he hP
  obtain ⟨ar1, cr1, hv, _⟩ := ho.row
  subst hv
  have HT1 := Lib.hid ho
  clear ho
  have HX0' := Lib.hid ((hb.block _ (by have := HS.out; omega)).trans HX0.out)
  have HX1' := Lib.hid ((hb.block _ (by have := HS.out; omega)).trans HX1.out)
  have HB' := Lib.hid (HB.out.trans (hb.mono HB.out.size))
  have HS' : Hid (w.heap.size + 2 ≤ _) := Lib.hid (Nat.le_trans HS.out hb.size)
  have HU1' := Lib.hid (HU1.out.below hb)
  clear hb HX0 HX1 HB HS HU1
  have HX0 := HX0'
  have HX1 := HX1'
  have HB := HB'
  have HS := HS'
  have HU1 := HU1'
  clear HX0' HX1' HB' HS' HU1'
  go_wp2_with fail
  go_ret
  exact ⟨rfl, HB.out⟩
set_option maxRecDepth 100000 in
set_option maxHeartbeats 8000000 in
theorem apart_bad1 (v0 v1 : Value) (x0 x1 : Msg7) (w : World) (h0 : MsgIs w v0 x0) (h1 : MsgIs w v1 x1) (z0 : RchI x0.2.2.2.2.2.1 x0.2.2.2.2.2.2) (z1 : RchI x1.2.2.2.2.2.1 x1.2.2.2.2.2.2) (q0 : Oks (msC.fs x0)) (q1 : ¬ Oks (msC.fs x1)) :
    Calls Try.prog 8 #[v0, v1] w (TruP w) := by
  have HM0 := Lib.hid h0
  have HM1 := Lib.hid h1
  have HZ0 := Lib.hid z0
  have HZ1 := Lib.hid z1
  obtain ⟨cs0, rfl, hs0⟩ := h0
  obtain ⟨cs1, rfl, hs1⟩ := h1
  have HI0 : Hid ((Try.prog.info? 44).map (·.size) = some cs0.size) := Lib.hid (by rw [ms_size hs0]; kernel_rfl)
  have HI1 : Hid ((Try.prog.info? 44).map (·.size) = some cs1.size) := Lib.hid (by rw [ms_size hs1]; kernel_rfl)
  have HX0 : Hid (((w.alloc (.cells cs0 44)).alloc (.cells cs1 44)).heap[w.heap.size]? = some (.cells cs0 44 (0, 0))) := Lib.hid ((Below.heap_alloc _ _ _ (by simp)).trans (bka_new w 44 cs0))
  have HX1 : Hid (((w.alloc (.cells cs0 44)).alloc (.cells cs1 44)).heap[w.heap.size + 1]? = some (.cells cs1 44 (0, 0))) := Lib.hid (by have := bka_new (w.alloc (.cells cs0 44)) 44 cs1; rwa [World.size_alloc] at this)
  have HB : Hid (Below w.heap.size w ((w.alloc (.cells cs0 44)).alloc (.cells cs1 44))) := Lib.hid (((Below.refl _ _).alloc (Nat.le_refl _) _).alloc (by simp) _)
  have HS : Hid (w.heap.size + 2 ≤ ((w.alloc (.cells cs0 44)).alloc (.cells cs1 44)).heap.size) := Lib.hid (by simp)
  clear hs0 hs1 z0 z1
  have Q0 := Lib.hid q0
  have Q1 := Lib.hid q1
  clear q0 q1
  go_enter Try.func8, Try.ntmps8
  go_wp2_with fail
  refine (works_any _).mono ?_
  rintro e w1 ⟨rfl, hb⟩
  have HX0' := Lib.hid ((hb.block _ (by have := HS.out; omega)).trans HX0.out)
  have HX1' := Lib.hid ((hb.block _ (by have := HS.out; omega)).trans HX1.out)
  have HB' := Lib.hid (HB.out.trans (hb.mono HB.out.size))
  have HS' : Hid (w.heap.size + 2 ≤ _) := Lib.hid (Nat.le_trans HS.out hb.size)
  clear hb HX0 HX1 HB HS 
  have HX0 := HX0'
  have HX1 := HX1'
  have HB := HB'
  have HS := HS'
  clear HX0' HX1' HB' HS' 
  go_wp2_with (first | refine wpList_load_rowG rfl _ _ rfl (w.heap.size) rfl 44 cs0 (0, 0) _ HX0.out Try.underlying44 rfl HI0.out ?_ | refine wpList_load_rowG rfl _ _ rfl (w.heap.size + 1) rfl 44 cs1 (0, 0) _ HX1.out Try.underlying44 rfl HI1.out ?_)
  refine (few_any _ x0 _ (HM0.out.on HB.out)).mono ?_
  rintro e wf0 ⟨R0, he, hF, hb⟩
  rw [he.out]
  clear he
  have HF0 := Lib.hid hF
  clear hF
  have HX0' := Lib.hid ((hb.block _ (by have := HS.out; omega)).trans HX0.out)
  have HX1' := Lib.hid ((hb.block _ (by have := HS.out; omega)).trans HX1.out)
  have HB' := Lib.hid (HB.out.trans (hb.mono HB.out.size))
  have HS' : Hid (w.heap.size + 2 ≤ _) := Lib.hid (Nat.le_trans HS.out hb.size)
  clear hb HX0 HX1 HB HS 
  have HX0 := HX0'
  have HX1 := HX1'
  have HB := HB'
  have HS := HS'
  clear HX0' HX1' HB' HS' 
  cases R0 with
  | false =>
    go_wp2_with fail
    go_ret
    exact ⟨rfl, HB.out⟩
  | true =>
  go_wp2_with (first | refine wpList_load_rowG rfl _ _ rfl (w.heap.size) rfl 44 cs0 (0, 0) _ HX0.out Try.underlying44 rfl HI0.out ?_ | refine wpList_load_rowG rfl _ _ rfl (w.heap.size + 1) rfl 44 cs1 (0, 0) _ HX1.out Try.underlying44 rfl HI1.out ?_)
  refine (few_any _ x1 _ (HM1.out.on HB.out)).mono ?_
  rintro e wf1 ⟨R1, he, hF, hb⟩
  rw [he.out]
  clear he
  have HF1 := Lib.hid hF
  clear hF
  have HX0' := Lib.hid ((hb.block _ (by have := HS.out; omega)).trans HX0.out)
  have HX1' := Lib.hid ((hb.block _ (by have := HS.out; omega)).trans HX1.out)
  have HB' := Lib.hid (HB.out.trans (hb.mono HB.out.size))
  have HS' : Hid (w.heap.size + 2 ≤ _) := Lib.hid (Nat.le_trans HS.out hb.size)
  clear hb HX0 HX1 HB HS 
  have HX0 := HX0'
  have HX1 := HX1'
  have HB := HB'
  have HS := HS'
  clear HX0' HX1' HB' HS' 
  cases R1 with
  | false =>
    go_wp2_with fail
    go_ret
    exact ⟨rfl, HB.out⟩
  | true =>
  go_wp2_with (first | refine wpList_load_rowG rfl _ _ rfl (w.heap.size) rfl 44 cs0 (0, 0) _ HX0.out Try.underlying44 rfl HI0.out ?_ | refine wpList_load_rowG rfl _ _ rfl (w.heap.size + 1) rfl 44 cs1 (0, 0) _ HX1.out Try.underlying44 rfl HI1.out ?_)
  refine (msg_any _ x0 _ (HM0.out.on HB.out)).mono ?_
  rintro e wm0 hP
  obtain ⟨_, u0, he, ho, hb⟩ := hP.resolve_right (fun h => h.1 Q0.out)
  rw [he.out]
  clear he hP
  obtain ⟨am0, cm0, hv⟩ := ho.slice
  subst hv
  have HU0 := Lib.hid (ho.bt (by have := few_len Q0.out (HF0.out (by first | rfl | trivial)); omega))
  clear ho
  have HX0' := Lib.hid ((hb.block _ (by have := HS.out; omega)).trans HX0.out)
  have HX1' := Lib.hid ((hb.block _ (by have := HS.out; omega)).trans HX1.out)
  have HB' := Lib.hid (HB.out.trans (hb.mono HB.out.size))
  have HS' : Hid (w.heap.size + 2 ≤ _) := Lib.hid (Nat.le_trans HS.out hb.size)
  clear hb HX0 HX1 HB HS 
  have HX0 := HX0'
  have HX1 := HX1'
  have HB := HB'
  have HS := HS'
  clear HX0' HX1' HB' HS' 
  go_wp2_with (first | refine wpList_load_rowG rfl _ _ rfl (w.heap.size) rfl 44 cs0 (0, 0) _ HX0.out Try.underlying44 rfl HI0.out ?_ | refine wpList_load_rowG rfl _ _ rfl (w.heap.size + 1) rfl 44 cs1 (0, 0) _ HX1.out Try.underlying44 rfl HI1.out ?_)
  refine (msg_any _ x1 _ (HM1.out.on HB.out)).mono ?_
  rintro e wm1 hP
  obtain ⟨_, he, hb⟩ := hP.resolve_left (fun h => Q1.out h.1)
  rw [he.out]
  clear he hP
  have HX0' := Lib.hid ((hb.block _ (by have := HS.out; omega)).trans HX0.out)
  have HX1' := Lib.hid ((hb.block _ (by have := HS.out; omega)).trans HX1.out)
  have HB' := Lib.hid (HB.out.trans (hb.mono HB.out.size))
  have HS' : Hid (w.heap.size + 2 ≤ _) := Lib.hid (Nat.le_trans HS.out hb.size)
  have HU0' := Lib.hid (HU0.out.below hb)
  clear hb HX0 HX1 HB HS HU0
  have HX0 := HX0'
  have HX1 := HX1'
  have HB := HB'
  have HS := HS'
  have HU0 := HU0'
  clear HX0' HX1' HB' HS' HU0'
  go_wp2_with (first | refine wpList_load_rowG rfl _ _ rfl (w.heap.size) rfl 44 cs0 (0, 0) _ HX0.out Try.underlying44 rfl HI0.out ?_ | refine wpList_load_rowG rfl _ _ rfl (w.heap.size + 1) rfl 44 cs1 (0, 0) _ HX1.out Try.underlying44 rfl HI1.out ?_)
  refine (frame_any _ x0 _ (HM0.out.on HB.out)).mono ?_
  rintro e wr0 hP
  obtain ⟨_, _, t0, he, ho, hb⟩ := hP.resolve_right (fun h => h.elim (fun k => k.2.1 (by have := few_len Q0.out (HF0.out (by first | rfl | trivial)); omega)) (fun k => k.1 Q0.out))
  rw [he.out]
  clear he hP
  obtain ⟨ar0, cr0, hv, _⟩ := ho.row
  subst hv
  have HT0 := Lib.hid ho
  clear ho
  have HX0' := Lib.hid ((hb.block _ (by have := HS.out; omega)).trans HX0.out)
  have HX1' := Lib.hid ((hb.block _ (by have := HS.out; omega)).trans HX1.out)
  have HB' := Lib.hid (HB.out.trans (hb.mono HB.out.size))
  have HS' : Hid (w.heap.size + 2 ≤ _) := Lib.hid (Nat.le_trans HS.out hb.size)
  have HU0' := Lib.hid (HU0.out.below hb)
  clear hb HX0 HX1 HB HS HU0
  have HX0 := HX0'
  have HX1 := HX1'
  have HB := HB'
  have HS := HS'
  have HU0 := HU0'
  clear HX0' HX1' HB' HS' HU0'
  go_wp2_with (first | refine wpList_load_rowG rfl _ _ rfl (w.heap.size) rfl 44 cs0 (0, 0) _ HX0.out Try.underlying44 rfl HI0.out ?_ | refine wpList_load_rowG rfl _ _ rfl (w.heap.size + 1) rfl 44 cs1 (0, 0) _ HX1.out Try.underlying44 rfl HI1.out ?_)
  refine (frame_any _ x1 _ (HM1.out.on HB.out)).mono ?_
  rintro e wr1 hP
  obtain ⟨_, he, hb⟩ := (hP.resolve_left (fun h => Q1.out h.1)).resolve_left (fun h => Q1.out h.1)
  rw [he.out]
  clear he hP
  have HX0' := Lib.hid ((hb.block _ (by have := HS.out; omega)).trans HX0.out)
  have HX1' := Lib.hid ((hb.block _ (by have := HS.out; omega)).trans HX1.out)
  have HB' := Lib.hid (HB.out.trans (hb.mono HB.out.size))
  have HS' : Hid (w.heap.size + 2 ≤ _) := Lib.hid (Nat.le_trans HS.out hb.size)
  have HU0' := Lib.hid (HU0.out.below hb)
  have HT0' := Lib.hid (HT0.out.below hb)
  clear hb HX0 HX1 HB HS HU0 HT0
  have HX0 := HX0'
  have HX1 := HX1'
  have HB := HB'
  have HS := HS'
  have HU0 := HU0'
  have HT0 := HT0'
  clear HX0' HX1' HB' HS' HU0' HT0'
  go_wp2_with fail
  go_ret
  exact ⟨rfl, HB.out⟩
set_option maxRecDepth 100000 in
set_option maxHeartbeats 8000000 in
theorem apart_bad2 (v0 v1 : Value) (x0 x1 : Msg7) (w : World) (h0 : MsgIs w v0 x0) (h1 : MsgIs w v1 x1) (z0 : RchI x0.2.2.2.2.2.1 x0.2.2.2.2.2.2) (z1 : RchI x1.2.2.2.2.2.1 x1.2.2.2.2.2.2) (q0 : ¬ Oks (msC.fs x0)) (q1 : ¬ Oks (msC.fs x1)) :
    Calls Try.prog 8 #[v0, v1] w (TruP w) := by
  have HM0 := Lib.hid h0
  have HM1 := Lib.hid h1
  have HZ0 := Lib.hid z0
  have HZ1 := Lib.hid z1
  obtain ⟨cs0, rfl, hs0⟩ := h0
  obtain ⟨cs1, rfl, hs1⟩ := h1
  have HI0 : Hid ((Try.prog.info? 44).map (·.size) = some cs0.size) := Lib.hid (by rw [ms_size hs0]; kernel_rfl)
  have HI1 : Hid ((Try.prog.info? 44).map (·.size) = some cs1.size) := Lib.hid (by rw [ms_size hs1]; kernel_rfl)
  have HX0 : Hid (((w.alloc (.cells cs0 44)).alloc (.cells cs1 44)).heap[w.heap.size]? = some (.cells cs0 44 (0, 0))) := Lib.hid ((Below.heap_alloc _ _ _ (by simp)).trans (bka_new w 44 cs0))
  have HX1 : Hid (((w.alloc (.cells cs0 44)).alloc (.cells cs1 44)).heap[w.heap.size + 1]? = some (.cells cs1 44 (0, 0))) := Lib.hid (by have := bka_new (w.alloc (.cells cs0 44)) 44 cs1; rwa [World.size_alloc] at this)
  have HB : Hid (Below w.heap.size w ((w.alloc (.cells cs0 44)).alloc (.cells cs1 44))) := Lib.hid (((Below.refl _ _).alloc (Nat.le_refl _) _).alloc (by simp) _)
  have HS : Hid (w.heap.size + 2 ≤ ((w.alloc (.cells cs0 44)).alloc (.cells cs1 44)).heap.size) := Lib.hid (by simp)
  clear hs0 hs1 z0 z1
  have Q0 := Lib.hid q0
  have Q1 := Lib.hid q1
  clear q0 q1
  go_enter Try.func8, Try.ntmps8
  go_wp2_with fail
  refine (works_any _).mono ?_
  rintro e w1 ⟨rfl, hb⟩
  have HX0' := Lib.hid ((hb.block _ (by have := HS.out; omega)).trans HX0.out)
  have HX1' := Lib.hid ((hb.block _ (by have := HS.out; omega)).trans HX1.out)
  have HB' := Lib.hid (HB.out.trans (hb.mono HB.out.size))
  have HS' : Hid (w.heap.size + 2 ≤ _) := Lib.hid (Nat.le_trans HS.out hb.size)
  clear hb HX0 HX1 HB HS 
  have HX0 := HX0'
  have HX1 := HX1'
  have HB := HB'
  have HS := HS'
  clear HX0' HX1' HB' HS' 
  go_wp2_with (first | refine wpList_load_rowG rfl _ _ rfl (w.heap.size) rfl 44 cs0 (0, 0) _ HX0.out Try.underlying44 rfl HI0.out ?_ | refine wpList_load_rowG rfl _ _ rfl (w.heap.size + 1) rfl 44 cs1 (0, 0) _ HX1.out Try.underlying44 rfl HI1.out ?_)
  refine (few_any _ x0 _ (HM0.out.on HB.out)).mono ?_
  rintro e wf0 ⟨R0, he, hF, hb⟩
  rw [he.out]
  clear he
  have HF0 := Lib.hid hF
  clear hF
  have HX0' := Lib.hid ((hb.block _ (by have := HS.out; omega)).trans HX0.out)
  have HX1' := Lib.hid ((hb.block _ (by have := HS.out; omega)).trans HX1.out)
  have HB' := Lib.hid (HB.out.trans (hb.mono HB.out.size))
  have HS' : Hid (w.heap.size + 2 ≤ _) := Lib.hid (Nat.le_trans HS.out hb.size)
  clear hb HX0 HX1 HB HS 
  have HX0 := HX0'
  have HX1 := HX1'
  have HB := HB'
  have HS := HS'
  clear HX0' HX1' HB' HS' 
  cases R0 with
  | false =>
    go_wp2_with fail
    go_ret
    exact ⟨rfl, HB.out⟩
  | true =>
  go_wp2_with (first | refine wpList_load_rowG rfl _ _ rfl (w.heap.size) rfl 44 cs0 (0, 0) _ HX0.out Try.underlying44 rfl HI0.out ?_ | refine wpList_load_rowG rfl _ _ rfl (w.heap.size + 1) rfl 44 cs1 (0, 0) _ HX1.out Try.underlying44 rfl HI1.out ?_)
  refine (few_any _ x1 _ (HM1.out.on HB.out)).mono ?_
  rintro e wf1 ⟨R1, he, hF, hb⟩
  rw [he.out]
  clear he
  have HF1 := Lib.hid hF
  clear hF
  have HX0' := Lib.hid ((hb.block _ (by have := HS.out; omega)).trans HX0.out)
  have HX1' := Lib.hid ((hb.block _ (by have := HS.out; omega)).trans HX1.out)
  have HB' := Lib.hid (HB.out.trans (hb.mono HB.out.size))
  have HS' : Hid (w.heap.size + 2 ≤ _) := Lib.hid (Nat.le_trans HS.out hb.size)
  clear hb HX0 HX1 HB HS 
  have HX0 := HX0'
  have HX1 := HX1'
  have HB := HB'
  have HS := HS'
  clear HX0' HX1' HB' HS' 
  cases R1 with
  | false =>
    go_wp2_with fail
    go_ret
    exact ⟨rfl, HB.out⟩
  | true =>
  go_wp2_with (first | refine wpList_load_rowG rfl _ _ rfl (w.heap.size) rfl 44 cs0 (0, 0) _ HX0.out Try.underlying44 rfl HI0.out ?_ | refine wpList_load_rowG rfl _ _ rfl (w.heap.size + 1) rfl 44 cs1 (0, 0) _ HX1.out Try.underlying44 rfl HI1.out ?_)
  refine (msg_any _ x0 _ (HM0.out.on HB.out)).mono ?_
  rintro e wm0 hP
  obtain ⟨_, he, hb⟩ := hP.resolve_left (fun h => Q0.out h.1)
  rw [he.out]
  clear he hP
  have HX0' := Lib.hid ((hb.block _ (by have := HS.out; omega)).trans HX0.out)
  have HX1' := Lib.hid ((hb.block _ (by have := HS.out; omega)).trans HX1.out)
  have HB' := Lib.hid (HB.out.trans (hb.mono HB.out.size))
  have HS' : Hid (w.heap.size + 2 ≤ _) := Lib.hid (Nat.le_trans HS.out hb.size)
  clear hb HX0 HX1 HB HS 
  have HX0 := HX0'
  have HX1 := HX1'
  have HB := HB'
  have HS := HS'
  clear HX0' HX1' HB' HS' 
  go_wp2_with (first | refine wpList_load_rowG rfl _ _ rfl (w.heap.size) rfl 44 cs0 (0, 0) _ HX0.out Try.underlying44 rfl HI0.out ?_ | refine wpList_load_rowG rfl _ _ rfl (w.heap.size + 1) rfl 44 cs1 (0, 0) _ HX1.out Try.underlying44 rfl HI1.out ?_)
  refine (msg_any _ x1 _ (HM1.out.on HB.out)).mono ?_
  rintro e wm1 hP
  obtain ⟨_, he, hb⟩ := hP.resolve_left (fun h => Q1.out h.1)
  rw [he.out]
  clear he hP
  have HX0' := Lib.hid ((hb.block _ (by have := HS.out; omega)).trans HX0.out)
  have HX1' := Lib.hid ((hb.block _ (by have := HS.out; omega)).trans HX1.out)
  have HB' := Lib.hid (HB.out.trans (hb.mono HB.out.size))
  have HS' : Hid (w.heap.size + 2 ≤ _) := Lib.hid (Nat.le_trans HS.out hb.size)
  clear hb HX0 HX1 HB HS 
  have HX0 := HX0'
  have HX1 := HX1'
  have HB := HB'
  have HS := HS'
  clear HX0' HX1' HB' HS' 
  go_wp2_with (first | refine wpList_load_rowG rfl _ _ rfl (w.heap.size) rfl 44 cs0 (0, 0) _ HX0.out Try.underlying44 rfl HI0.out ?_ | refine wpList_load_rowG rfl _ _ rfl (w.heap.size + 1) rfl 44 cs1 (0, 0) _ HX1.out Try.underlying44 rfl HI1.out ?_)
  refine (frame_any _ x0 _ (HM0.out.on HB.out)).mono ?_
  rintro e wr0 hP
  obtain ⟨_, he, hb⟩ := (hP.resolve_left (fun h => Q0.out h.1)).resolve_left (fun h => Q0.out h.1)
  rw [he.out]
  clear he hP
  have HX0' := Lib.hid ((hb.block _ (by have := HS.out; omega)).trans HX0.out)
  have HX1' := Lib.hid ((hb.block _ (by have := HS.out; omega)).trans HX1.out)
  have HB' := Lib.hid (HB.out.trans (hb.mono HB.out.size))
  have HS' : Hid (w.heap.size + 2 ≤ _) := Lib.hid (Nat.le_trans HS.out hb.size)
  clear hb HX0 HX1 HB HS 
  have HX0 := HX0'
  have HX1 := HX1'
  have HB := HB'
  have HS := HS'
  clear HX0' HX1' HB' HS' 
  go_wp2_with (first | refine wpList_load_rowG rfl _ _ rfl (w.heap.size) rfl 44 cs0 (0, 0) _ HX0.out Try.underlying44 rfl HI0.out ?_ | refine wpList_load_rowG rfl _ _ rfl (w.heap.size + 1) rfl 44 cs1 (0, 0) _ HX1.out Try.underlying44 rfl HI1.out ?_)
  refine (frame_any _ x1 _ (HM1.out.on HB.out)).mono ?_
  rintro e wr1 hP
  obtain ⟨_, he, hb⟩ := (hP.resolve_left (fun h => Q1.out h.1)).resolve_left (fun h => Q1.out h.1)
  rw [he.out]
  clear he hP
  have HX0' := Lib.hid ((hb.block _ (by have := HS.out; omega)).trans HX0.out)
  have HX1' := Lib.hid ((hb.block _ (by have := HS.out; omega)).trans HX1.out)
  have HB' := Lib.hid (HB.out.trans (hb.mono HB.out.size))
  have HS' : Hid (w.heap.size + 2 ≤ _) := Lib.hid (Nat.le_trans HS.out hb.size)
  clear hb HX0 HX1 HB HS 
  have HX0 := HX0'
  have HX1 := HX1'
  have HB := HB'
  have HS := HS'
  clear HX0' HX1' HB' HS' 
  go_wp2_with fail
  go_ret
  exact ⟨rfl, HB.out⟩
set_option maxRecDepth 100000 in
set_option maxHeartbeats 8000000 in
theorem apart_good (v0 v1 : Value) (x0 x1 : Msg7) (w : World) (h0 : MsgIs w v0 x0) (h1 : MsgIs w v1 x1) (z0 : RchI x0.2.2.2.2.2.1 x0.2.2.2.2.2.2) (z1 : RchI x1.2.2.2.2.2.1 x1.2.2.2.2.2.2) (q0 : Oks (msC.fs x0)) (q1 : Oks (msC.fs x1)) :
    Calls Try.prog 8 #[v0, v1] w (TruP w) := by
  have HM0 := Lib.hid h0
  have HM1 := Lib.hid h1
  have HZ0 := Lib.hid z0
  have HZ1 := Lib.hid z1
  obtain ⟨cs0, rfl, hs0⟩ := h0
  obtain ⟨cs1, rfl, hs1⟩ := h1
  have HI0 : Hid ((Try.prog.info? 44).map (·.size) = some cs0.size) := Lib.hid (by rw [ms_size hs0]; kernel_rfl)
  have HI1 : Hid ((Try.prog.info? 44).map (·.size) = some cs1.size) := Lib.hid (by rw [ms_size hs1]; kernel_rfl)
  have HX0 : Hid (((w.alloc (.cells cs0 44)).alloc (.cells cs1 44)).heap[w.heap.size]? = some (.cells cs0 44 (0, 0))) := Lib.hid ((Below.heap_alloc _ _ _ (by simp)).trans (bka_new w 44 cs0))
  have HX1 : Hid (((w.alloc (.cells cs0 44)).alloc (.cells cs1 44)).heap[w.heap.size + 1]? = some (.cells cs1 44 (0, 0))) := Lib.hid (by have := bka_new (w.alloc (.cells cs0 44)) 44 cs1; rwa [World.size_alloc] at this)
  have HB : Hid (Below w.heap.size w ((w.alloc (.cells cs0 44)).alloc (.cells cs1 44))) := Lib.hid (((Below.refl _ _).alloc (Nat.le_refl _) _).alloc (by simp) _)
  have HS : Hid (w.heap.size + 2 ≤ ((w.alloc (.cells cs0 44)).alloc (.cells cs1 44)).heap.size) := Lib.hid (by simp)
  clear hs0 hs1 z0 z1
  have Q0 := Lib.hid q0
  have Q1 := Lib.hid q1
  clear q0 q1
  go_enter Try.func8, Try.ntmps8
  go_wp2_with fail
  refine (works_any _).mono ?_
  rintro e w1 ⟨rfl, hb⟩
  have HX0' := Lib.hid ((hb.block _ (by have := HS.out; omega)).trans HX0.out)
  have HX1' := Lib.hid ((hb.block _ (by have := HS.out; omega)).trans HX1.out)
  have HB' := Lib.hid (HB.out.trans (hb.mono HB.out.size))
  have HS' : Hid (w.heap.size + 2 ≤ _) := Lib.hid (Nat.le_trans HS.out hb.size)
  clear hb HX0 HX1 HB HS 
  have HX0 := HX0'
  have HX1 := HX1'
  have HB := HB'
  have HS := HS'
  clear HX0' HX1' HB' HS' 
  go_wp2_with (first | refine wpList_load_rowG rfl _ _ rfl (w.heap.size) rfl 44 cs0 (0, 0) _ HX0.out Try.underlying44 rfl HI0.out ?_ | refine wpList_load_rowG rfl _ _ rfl (w.heap.size + 1) rfl 44 cs1 (0, 0) _ HX1.out Try.underlying44 rfl HI1.out ?_)
  refine (few_any _ x0 _ (HM0.out.on HB.out)).mono ?_
  rintro e wf0 ⟨R0, he, hF, hb⟩
  rw [he.out]
  clear he
  have HF0 := Lib.hid hF
  clear hF
  have HX0' := Lib.hid ((hb.block _ (by have := HS.out; omega)).trans HX0.out)
  have HX1' := Lib.hid ((hb.block _ (by have := HS.out; omega)).trans HX1.out)
  have HB' := Lib.hid (HB.out.trans (hb.mono HB.out.size))
  have HS' : Hid (w.heap.size + 2 ≤ _) := Lib.hid (Nat.le_trans HS.out hb.size)
  clear hb HX0 HX1 HB HS 
  have HX0 := HX0'
  have HX1 := HX1'
  have HB := HB'
  have HS := HS'
  clear HX0' HX1' HB' HS' 
  cases R0 with
  | false =>
    go_wp2_with fail
    go_ret
    exact ⟨rfl, HB.out⟩
  | true =>
  go_wp2_with (first | refine wpList_load_rowG rfl _ _ rfl (w.heap.size) rfl 44 cs0 (0, 0) _ HX0.out Try.underlying44 rfl HI0.out ?_ | refine wpList_load_rowG rfl _ _ rfl (w.heap.size + 1) rfl 44 cs1 (0, 0) _ HX1.out Try.underlying44 rfl HI1.out ?_)
  refine (few_any _ x1 _ (HM1.out.on HB.out)).mono ?_
  rintro e wf1 ⟨R1, he, hF, hb⟩
  rw [he.out]
  clear he
  have HF1 := Lib.hid hF
  clear hF
  have HX0' := Lib.hid ((hb.block _ (by have := HS.out; omega)).trans HX0.out)
  have HX1' := Lib.hid ((hb.block _ (by have := HS.out; omega)).trans HX1.out)
  have HB' := Lib.hid (HB.out.trans (hb.mono HB.out.size))
  have HS' : Hid (w.heap.size + 2 ≤ _) := Lib.hid (Nat.le_trans HS.out hb.size)
  clear hb HX0 HX1 HB HS 
  have HX0 := HX0'
  have HX1 := HX1'
  have HB := HB'
  have HS := HS'
  clear HX0' HX1' HB' HS' 
  cases R1 with
  | false =>
    go_wp2_with fail
    go_ret
    exact ⟨rfl, HB.out⟩
  | true =>
  go_wp2_with (first | refine wpList_load_rowG rfl _ _ rfl (w.heap.size) rfl 44 cs0 (0, 0) _ HX0.out Try.underlying44 rfl HI0.out ?_ | refine wpList_load_rowG rfl _ _ rfl (w.heap.size + 1) rfl 44 cs1 (0, 0) _ HX1.out Try.underlying44 rfl HI1.out ?_)
  refine (msg_any _ x0 _ (HM0.out.on HB.out)).mono ?_
  rintro e wm0 hP
  obtain ⟨_, u0, he, ho, hb⟩ := hP.resolve_right (fun h => h.1 Q0.out)
  rw [he.out]
  clear he hP
  obtain ⟨am0, cm0, hv⟩ := ho.slice
  subst hv
  have HU0 := Lib.hid (ho.bt (by have := few_len Q0.out (HF0.out (by first | rfl | trivial)); omega))
  clear ho
  have HX0' := Lib.hid ((hb.block _ (by have := HS.out; omega)).trans HX0.out)
  have HX1' := Lib.hid ((hb.block _ (by have := HS.out; omega)).trans HX1.out)
  have HB' := Lib.hid (HB.out.trans (hb.mono HB.out.size))
  have HS' : Hid (w.heap.size + 2 ≤ _) := Lib.hid (Nat.le_trans HS.out hb.size)
  clear hb HX0 HX1 HB HS 
  have HX0 := HX0'
  have HX1 := HX1'
  have HB := HB'
  have HS := HS'
  clear HX0' HX1' HB' HS' 
  go_wp2_with (first | refine wpList_load_rowG rfl _ _ rfl (w.heap.size) rfl 44 cs0 (0, 0) _ HX0.out Try.underlying44 rfl HI0.out ?_ | refine wpList_load_rowG rfl _ _ rfl (w.heap.size + 1) rfl 44 cs1 (0, 0) _ HX1.out Try.underlying44 rfl HI1.out ?_)
  refine (msg_any _ x1 _ (HM1.out.on HB.out)).mono ?_
  rintro e wm1 hP
  obtain ⟨_, u1, he, ho, hb⟩ := hP.resolve_right (fun h => h.1 Q1.out)
  rw [he.out]
  clear he hP
  obtain ⟨am1, cm1, hv⟩ := ho.slice
  subst hv
  have HU1 := Lib.hid (ho.bt (by have := few_len Q1.out (HF1.out (by first | rfl | trivial)); omega))
  clear ho
  have HX0' := Lib.hid ((hb.block _ (by have := HS.out; omega)).trans HX0.out)
  have HX1' := Lib.hid ((hb.block _ (by have := HS.out; omega)).trans HX1.out)
  have HB' := Lib.hid (HB.out.trans (hb.mono HB.out.size))
  have HS' : Hid (w.heap.size + 2 ≤ _) := Lib.hid (Nat.le_trans HS.out hb.size)
  have HU0' := Lib.hid (HU0.out.below hb)
  clear hb HX0 HX1 HB HS HU0
  have HX0 := HX0'
  have HX1 := HX1'
  have HB := HB'
  have HS := HS'
  have HU0 := HU0'
  clear HX0' HX1' HB' HS' HU0'
  go_wp2_with (first | refine wpList_load_rowG rfl _ _ rfl (w.heap.size) rfl 44 cs0 (0, 0) _ HX0.out Try.underlying44 rfl HI0.out ?_ | refine wpList_load_rowG rfl _ _ rfl (w.heap.size + 1) rfl 44 cs1 (0, 0) _ HX1.out Try.underlying44 rfl HI1.out ?_)
  refine (frame_any _ x0 _ (HM0.out.on HB.out)).mono ?_
  rintro e wr0 hP
  obtain ⟨_, _, t0, he, ho, hb⟩ := hP.resolve_right (fun h => h.elim (fun k => k.2.1 (by have := few_len Q0.out (HF0.out (by first | rfl | trivial)); omega)) (fun k => k.1 Q0.out))
  rw [he.out]
  clear he hP
  obtain ⟨ar0, cr0, hv, _⟩ := ho.row
  subst hv
  have HT0 := Lib.hid ho
  clear ho
  have HX0' := Lib.hid ((hb.block _ (by have := HS.out; omega)).trans HX0.out)
  have HX1' := Lib.hid ((hb.block _ (by have := HS.out; omega)).trans HX1.out)
  have HB' := Lib.hid (HB.out.trans (hb.mono HB.out.size))
  have HS' : Hid (w.heap.size + 2 ≤ _) := Lib.hid (Nat.le_trans HS.out hb.size)
  have HU0' := Lib.hid (HU0.out.below hb)
  have HU1' := Lib.hid (HU1.out.below hb)
  clear hb HX0 HX1 HB HS HU0 HU1
  have HX0 := HX0'
  have HX1 := HX1'
  have HB := HB'
  have HS := HS'
  have HU0 := HU0'
  have HU1 := HU1'
  clear HX0' HX1' HB' HS' HU0' HU1'
  go_wp2_with (first | refine wpList_load_rowG rfl _ _ rfl (w.heap.size) rfl 44 cs0 (0, 0) _ HX0.out Try.underlying44 rfl HI0.out ?_ | refine wpList_load_rowG rfl _ _ rfl (w.heap.size + 1) rfl 44 cs1 (0, 0) _ HX1.out Try.underlying44 rfl HI1.out ?_)
  refine (frame_any _ x1 _ (HM1.out.on HB.out)).mono ?_
  rintro e wr1 hP
  obtain ⟨_, _, t1, he, ho, hb⟩ := hP.resolve_right (fun h => h.elim (fun k => k.2.1 (by have := few_len Q1.out (HF1.out (by first | rfl | trivial)); omega)) (fun k => k.1 Q1.out))
  rw [he.out]
  clear he hP
  obtain ⟨ar1, cr1, hv, _⟩ := ho.row
  subst hv
  have HT1 := Lib.hid ho
  clear ho
  have HX0' := Lib.hid ((hb.block _ (by have := HS.out; omega)).trans HX0.out)
  have HX1' := Lib.hid ((hb.block _ (by have := HS.out; omega)).trans HX1.out)
  have HB' := Lib.hid (HB.out.trans (hb.mono HB.out.size))
  have HS' : Hid (w.heap.size + 2 ≤ _) := Lib.hid (Nat.le_trans HS.out hb.size)
  have HU0' := Lib.hid (HU0.out.below hb)
  have HU1' := Lib.hid (HU1.out.below hb)
  have HT0' := Lib.hid (HT0.out.below hb)
  clear hb HX0 HX1 HB HS HU0 HU1 HT0
  have HX0 := HX0'
  have HX1 := HX1'
  have HB := HB'
  have HS := HS'
  have HU0 := HU0'
  have HU1 := HU1'
  have HT0 := HT0'
  clear HX0' HX1' HB' HS' HU0' HU1' HT0'
  go_upto_region 12 with fail
  go_cut [14] from 54 to 58 (fun s wx => s = .bool ((txM (msC.fs x0)).toList == (txM (msC.fs x1)).toList) ∧ Hid (Below wr1.heap.size wr1 wx))
  case first =>
    have HC0 : Hid (∀ W, Below wr1.heap.size wr1 W → Calls Try.prog 21 #[.agg cs0] W (TxP (msC.fs x0) W)) := Lib.hid (fun W hW => ro_texts _ x0 W (HM0.out.on (HB.out.trans (hW.mono HB.out.size))) HZ0.out)
    have HC1 : Hid (∀ W, Below wr1.heap.size wr1 W → Calls Try.prog 21 #[.agg cs1] W (TxP (msC.fs x1) W)) := Lib.hid (fun W hW => ro_texts _ x1 W (HM1.out.on (HB.out.trans (hW.mono HB.out.size))) HZ1.out)
    refine wp_region_held_drew (S := fun w' => Below wr1.heap.size wr1 w') (by kernel_rfl) ?_ (fun hHeld => ?_)
    · (first | exact Below.refl _ _ | exact (Below.refl _ _).drew | assumption | exact below_self (by assumption) (by assumption))
    refine wpAnyH_ready (rs := [0, 2]) (by kernel_rfl) (by simp) ?_
    refine (AllReadyH.cons rfl (fun K hK => ?_) (AllReadyH.cons rfl (fun K hK => ?_) AllReadyH.nil))
    ·
      refine step_loadC (by rfl) _ _ rfl (w.heap.size) rfl 44 cs0 (0, 0) _ (((by assumption : Below wr1.heap.size wr1 _).block _ (by have := HS.out; omega)).trans HX0.out) Try.underlying44 HI0.out ?_
      refine hK.out _ _ ?_ (fun hHeld => ?_)
      · (first | exact Below.refl _ _ | exact (Below.refl _ _).drew | assumption | exact below_self (by assumption) (by assumption))
      clear hK K
      try simp only [Act.put, List.setIfInBounds_toArray, List.set_cons_zero, List.set_cons_succ, List.getElem_toArray, List.getElem_cons_zero, List.getElem_cons_succ]
      refine wpAnyH_ready (rs := [1, 2]) (by kernel_rfl) (by simp) ?_
      refine (AllReadyH.cons rfl (fun K hK => ?_) (AllReadyH.cons rfl (fun K hK => ?_) AllReadyH.nil))
      ·
        go_simp
        (go_at_call 21; refine (HC0.out _ (by assumption)).mono ?_; rintro e y ⟨he, hy⟩; rw [he.out]; clear he; have hy := below_self (by assumption) hy)
        refine hK.out _ _ ?_ (fun hHeld => ?_)
        · (first | exact Below.refl _ _ | exact (Below.refl _ _).drew | assumption | exact below_self (by assumption) (by assumption))
        clear hK K
        try simp only [Act.put, List.setIfInBounds_toArray, List.set_cons_zero, List.set_cons_succ, List.getElem_toArray, List.getElem_cons_zero, List.getElem_cons_succ]
        refine wpAnyH_ready (rs := [2]) (by kernel_rfl) (by simp) ?_
        refine (AllReadyH.cons rfl (fun K hK => ?_) AllReadyH.nil)
        refine step_loadC (by rfl) _ _ rfl (w.heap.size + 1) rfl 44 cs1 (0, 0) _ (((by assumption : Below wr1.heap.size wr1 _).block _ (by have := HS.out; omega)).trans HX1.out) Try.underlying44 HI1.out ?_
        refine hK.out _ _ ?_ (fun hHeld => ?_)
        · (first | exact Below.refl _ _ | exact (Below.refl _ _).drew | assumption | exact below_self (by assumption) (by assumption))
        clear hK K
        try simp only [Act.put, List.setIfInBounds_toArray, List.set_cons_zero, List.set_cons_succ, List.getElem_toArray, List.getElem_cons_zero, List.getElem_cons_succ]
        refine wpAnyH_ready (rs := [3]) (by kernel_rfl) (by simp) ?_
        refine (AllReadyH.cons rfl (fun K hK => ?_) AllReadyH.nil)
        go_simp
        (go_at_call 21; refine (HC1.out _ (by assumption)).mono ?_; rintro e y ⟨he, hy⟩; rw [he.out]; clear he; have hy := below_self (by assumption) hy)
        refine hK.out _ _ ?_ (fun hHeld => ?_)
        · (first | exact Below.refl _ _ | exact (Below.refl _ _).drew | assumption | exact below_self (by assumption) (by assumption))
        clear hK K
        try simp only [Act.put, List.setIfInBounds_toArray, List.set_cons_zero, List.set_cons_succ, List.getElem_toArray, List.getElem_cons_zero, List.getElem_cons_succ]
        refine wpAnyH_take (i := 4) (v := ?_) rfl (by kernel_rfl) (by kernel_rfl) (by kernel_rfl) (fun _ _ _ h => h) (Or.inl ⟨by rfl, ?_⟩) (by assumption) ?_
        rotate_left
        · (intro w hSw; (try dsimp only at hSw); go_simp; try rfl)
        try simp only [Act.put, List.setIfInBounds_toArray, List.set_cons_zero, List.set_cons_succ, List.getElem_toArray, List.getElem_cons_zero, List.getElem_cons_succ]
        refine wpAnyH_take (i := 5) (v := ?_) rfl (by kernel_rfl) (by kernel_rfl) (by kernel_rfl) (fun _ _ _ h => h) (Or.inl ⟨by rfl, ?_⟩) (by assumption) ?_
        rotate_left
        · (intro w hSw; (try dsimp only at hSw); go_simp; try rfl)
        try simp only [Act.put, List.setIfInBounds_toArray, List.set_cons_zero, List.set_cons_succ, List.getElem_toArray, List.getElem_cons_zero, List.getElem_cons_succ]
        refine wpAnyH_done (by kernel_rfl) ?_ _
        go_wp2_with fail
        go_meet
        exact ⟨rfl, Lib.hid (by assumption)⟩
      ·
        refine step_loadC (by rfl) _ _ rfl (w.heap.size + 1) rfl 44 cs1 (0, 0) _ (((by assumption : Below wr1.heap.size wr1 _).block _ (by have := HS.out; omega)).trans HX1.out) Try.underlying44 HI1.out ?_
        refine hK.out _ _ ?_ (fun hHeld => ?_)
        · (first | exact Below.refl _ _ | exact (Below.refl _ _).drew | assumption | exact below_self (by assumption) (by assumption))
        clear hK K
        try simp only [Act.put, List.setIfInBounds_toArray, List.set_cons_zero, List.set_cons_succ, List.getElem_toArray, List.getElem_cons_zero, List.getElem_cons_succ]
        refine wpAnyH_ready (rs := [1]) (by kernel_rfl) (by simp) ?_
        refine (AllReadyH.cons rfl (fun K hK => ?_) AllReadyH.nil)
        go_simp
        (go_at_call 21; refine (HC0.out _ (by assumption)).mono ?_; rintro e y ⟨he, hy⟩; rw [he.out]; clear he; have hy := below_self (by assumption) hy)
        refine hK.out _ _ ?_ (fun hHeld => ?_)
        · (first | exact Below.refl _ _ | exact (Below.refl _ _).drew | assumption | exact below_self (by assumption) (by assumption))
        clear hK K
        try simp only [Act.put, List.setIfInBounds_toArray, List.set_cons_zero, List.set_cons_succ, List.getElem_toArray, List.getElem_cons_zero, List.getElem_cons_succ]
        refine wpAnyH_ready (rs := [3]) (by kernel_rfl) (by simp) ?_
        refine (AllReadyH.cons rfl (fun K hK => ?_) AllReadyH.nil)
        go_simp
        (go_at_call 21; refine (HC1.out _ (by assumption)).mono ?_; rintro e y ⟨he, hy⟩; rw [he.out]; clear he; have hy := below_self (by assumption) hy)
        refine hK.out _ _ ?_ (fun hHeld => ?_)
        · (first | exact Below.refl _ _ | exact (Below.refl _ _).drew | assumption | exact below_self (by assumption) (by assumption))
        clear hK K
        try simp only [Act.put, List.setIfInBounds_toArray, List.set_cons_zero, List.set_cons_succ, List.getElem_toArray, List.getElem_cons_zero, List.getElem_cons_succ]
        refine wpAnyH_take (i := 4) (v := ?_) rfl (by kernel_rfl) (by kernel_rfl) (by kernel_rfl) (fun _ _ _ h => h) (Or.inl ⟨by rfl, ?_⟩) (by assumption) ?_
        rotate_left
        · (intro w hSw; (try dsimp only at hSw); go_simp; try rfl)
        try simp only [Act.put, List.setIfInBounds_toArray, List.set_cons_zero, List.set_cons_succ, List.getElem_toArray, List.getElem_cons_zero, List.getElem_cons_succ]
        refine wpAnyH_take (i := 5) (v := ?_) rfl (by kernel_rfl) (by kernel_rfl) (by kernel_rfl) (fun _ _ _ h => h) (Or.inl ⟨by rfl, ?_⟩) (by assumption) ?_
        rotate_left
        · (intro w hSw; (try dsimp only at hSw); go_simp; try rfl)
        try simp only [Act.put, List.setIfInBounds_toArray, List.set_cons_zero, List.set_cons_succ, List.getElem_toArray, List.getElem_cons_zero, List.getElem_cons_succ]
        refine wpAnyH_done (by kernel_rfl) ?_ _
        go_wp2_with fail
        go_meet
        exact ⟨rfl, Lib.hid (by assumption)⟩
    ·
      refine step_loadC (by rfl) _ _ rfl (w.heap.size + 1) rfl 44 cs1 (0, 0) _ (((by assumption : Below wr1.heap.size wr1 _).block _ (by have := HS.out; omega)).trans HX1.out) Try.underlying44 HI1.out ?_
      refine hK.out _ _ ?_ (fun hHeld => ?_)
      · (first | exact Below.refl _ _ | exact (Below.refl _ _).drew | assumption | exact below_self (by assumption) (by assumption))
      clear hK K
      try simp only [Act.put, List.setIfInBounds_toArray, List.set_cons_zero, List.set_cons_succ, List.getElem_toArray, List.getElem_cons_zero, List.getElem_cons_succ]
      refine wpAnyH_ready (rs := [0]) (by kernel_rfl) (by simp) ?_
      refine (AllReadyH.cons rfl (fun K hK => ?_) AllReadyH.nil)
      refine step_loadC (by rfl) _ _ rfl (w.heap.size) rfl 44 cs0 (0, 0) _ (((by assumption : Below wr1.heap.size wr1 _).block _ (by have := HS.out; omega)).trans HX0.out) Try.underlying44 HI0.out ?_
      refine hK.out _ _ ?_ (fun hHeld => ?_)
      · (first | exact Below.refl _ _ | exact (Below.refl _ _).drew | assumption | exact below_self (by assumption) (by assumption))
      clear hK K
      try simp only [Act.put, List.setIfInBounds_toArray, List.set_cons_zero, List.set_cons_succ, List.getElem_toArray, List.getElem_cons_zero, List.getElem_cons_succ]
      refine wpAnyH_ready (rs := [1]) (by kernel_rfl) (by simp) ?_
      refine (AllReadyH.cons rfl (fun K hK => ?_) AllReadyH.nil)
      go_simp
      (go_at_call 21; refine (HC0.out _ (by assumption)).mono ?_; rintro e y ⟨he, hy⟩; rw [he.out]; clear he; have hy := below_self (by assumption) hy)
      refine hK.out _ _ ?_ (fun hHeld => ?_)
      · (first | exact Below.refl _ _ | exact (Below.refl _ _).drew | assumption | exact below_self (by assumption) (by assumption))
      clear hK K
      try simp only [Act.put, List.setIfInBounds_toArray, List.set_cons_zero, List.set_cons_succ, List.getElem_toArray, List.getElem_cons_zero, List.getElem_cons_succ]
      refine wpAnyH_ready (rs := [3]) (by kernel_rfl) (by simp) ?_
      refine (AllReadyH.cons rfl (fun K hK => ?_) AllReadyH.nil)
      go_simp
      (go_at_call 21; refine (HC1.out _ (by assumption)).mono ?_; rintro e y ⟨he, hy⟩; rw [he.out]; clear he; have hy := below_self (by assumption) hy)
      refine hK.out _ _ ?_ (fun hHeld => ?_)
      · (first | exact Below.refl _ _ | exact (Below.refl _ _).drew | assumption | exact below_self (by assumption) (by assumption))
      clear hK K
      try simp only [Act.put, List.setIfInBounds_toArray, List.set_cons_zero, List.set_cons_succ, List.getElem_toArray, List.getElem_cons_zero, List.getElem_cons_succ]
      refine wpAnyH_take (i := 4) (v := ?_) rfl (by kernel_rfl) (by kernel_rfl) (by kernel_rfl) (fun _ _ _ h => h) (Or.inl ⟨by rfl, ?_⟩) (by assumption) ?_
      rotate_left
      · (intro w hSw; (try dsimp only at hSw); go_simp; try rfl)
      try simp only [Act.put, List.setIfInBounds_toArray, List.set_cons_zero, List.set_cons_succ, List.getElem_toArray, List.getElem_cons_zero, List.getElem_cons_succ]
      refine wpAnyH_take (i := 5) (v := ?_) rfl (by kernel_rfl) (by kernel_rfl) (by kernel_rfl) (fun _ _ _ h => h) (Or.inl ⟨by rfl, ?_⟩) (by assumption) ?_
      rotate_left
      · (intro w hSw; (try dsimp only at hSw); go_simp; try rfl)
      try simp only [Act.put, List.setIfInBounds_toArray, List.set_cons_zero, List.set_cons_succ, List.getElem_toArray, List.getElem_cons_zero, List.getElem_cons_succ]
      refine wpAnyH_done (by kernel_rfl) ?_ _
      go_wp2_with fail
      go_meet
      exact ⟨rfl, Lib.hid (by assumption)⟩
  case rest =>
  obtain ⟨rfl, hbc⟩ := hcut
  have hb := hbc.out
  clear hbc
  have h1 := bt_str (HU0.out.below hb)
  have h2 := bt_str (HU1.out.below hb)
  have h3 := bt_str (HT0.out.below hb)
  have h4 := bt_str (HT1.out.below hb)
  have HBF := Lib.hid (HB.out.trans (hb.mono HB.out.size))
  have e1 := txM_eq Q0.out Q1.out
  have e2 := txt_eqC (eF_byte Q0.out) (eF_byte Q1.out)
  have l0 := few_len Q0.out (HF0.out (by first | rfl | trivial))
  have l1 := few_len Q1.out (HF1.out (by first | rfl | trivial))
  have e3 : ((txt (frm (eF (msC.fs x0)))).toList == (txt (frm (eF (msC.fs x1)))).toList) = decide (eF (msC.fs x0) = eF (msC.fs x1)) := by
    rw [txt_eqC (frm_range (eF_byte Q0.out) (by omega)) (frm_range (eF_byte Q1.out) (by omega))]
    exact decide_eq_decide.2 frm_inj
  rw [e1]
  obtain ⟨B, hB⟩ : ∃ B, decide (eF (msC.fs x0) = eF (msC.fs x1)) = B := ⟨_, rfl⟩
  rw [hB] at e1 e2 e3 ⊢
  clear hB l0 l1 hb HX0 HX1 HU0 HU1 HT0 HT1
  go_wp2_with fail
  go_ret
  exact ⟨by simp, HBF.out⟩
theorem apart_law (v0 v1 : Value) (x0 x1 : Msg7) (w : World) (h0 : MsgIs w v0 x0) (h1 : MsgIs w v1 x1) (z0 : RchI x0.2.2.2.2.2.1 x0.2.2.2.2.2.2) (z1 : RchI x1.2.2.2.2.2.1 x1.2.2.2.2.2.2) :
    Calls Try.prog 8 #[v0, v1] w (TruP w) := by
  by_cases q0 : Oks (msC.fs x0)
  · by_cases q1 : Oks (msC.fs x1)
    · exact apart_good v0 v1 x0 x1 w h0 h1 z0 z1 q0 q1
    · exact apart_bad1 v0 v1 x0 x1 w h0 h1 z0 z1 q0 q1
  · by_cases q1 : Oks (msC.fs x1)
    · exact apart_bad0 v0 v1 x0 x1 w h0 h1 z0 z1 q0 q1
    · exact apart_bad2 v0 v1 x0 x1 w h0 h1 z0 z1 q0 q1
end Go.Proofs.Ytllcmapgigfgoaa
