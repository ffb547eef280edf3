/-
  Texts put together: AcW, AcY.
-/
import Derived.Test.YtchhcaoondfpiaaGreatAcVa
import Derived.Test.YtchhcaoondfpiaaGreatAcVb
import Derived.Test.YtchhcaoondfpiaaGreatAcVc
namespace Go.Proofs.YtchhcaoondfpiaaGreat
open Go.RowKit Go.Sort
open Go.WideMaps
set_option linter.unusedSimpArgs false
set_option linter.unusedVariables false
set_option maxRecDepth 100000

theorem bpre_any {w : World} {B g mb K : Nat} {b : BSt} (h : BkAt w B g mb K b) {v : Value} {m : Mg} (hm : MgA w v m) (x : Ist) (u : Value) (hr : IK.Rd w u x.at'.2) (hl : x.at'.2.length ≤ 100000) (hK : K ≤ 800) (hml : Tc.ML w) (hs : ∀ e ∈ b.l, okL e.2.at'.2) (hz : ∀ k ∈ knB b.l, k.cm.pa.size ≤ 1000 ∧ k.a.1 ≤ 1125899906842624) (hp : m.ins.cm.pa.size ≤ 1000) (hd : m.ins.at'.2.length ≤ 100) : Calls Tryz.prog 68 #[bP g, v, .agg (inE x u).toArray] w (HrP (preV b m x) B g mb K w) := by
  by_cases g2 : x.vo = m.bal
  · by_cases g1 : 1 < x.st
    · rw [show preV b m x = (b, []) from if_pos ⟨g1, g2⟩]
      exact bpre_none h hm x u hr hl g1 g2
    · by_cases g3 : x.st < 1
      · rw [show preV b m x = preW b m (mrgA m.ins.at' (lclA (knB b.l) m.id m.ins.cm)) by unfold preV; rw [if_neg (fun q => g1 q.1), if_pos (.inl g3)]; rfl]
        exact bpre_v2 h hm x u hr hl hK hml hs hz hp hd g3
      · rw [show preV b m x = (b, [ansB b 1 m m.bal x]) by unfold preV; rw [if_neg (fun q => g1 q.1), if_neg (fun q => q.elim g3 (fun r => r g2))]]
        exact bpre_same h hm x u hr hl (by omega) g2
  · by_cases g1 : 1 < x.st
    · rw [show preV b m x = preW b m (mrgA m.ins.at' (lclA (knB b.l) m.id m.ins.cm)) by unfold preV; rw [if_neg (fun q => g2 q.2), if_pos (.inr g2)]; rfl]
      exact bpre_v1 h hm x u hr hl hK hml hs hz hp hd g1 g2
    · by_cases g3 : x.st < 1
      · rw [show preV b m x = preW b m (mrgA m.ins.at' (lclA (knB b.l) m.id m.ins.cm)) by unfold preV; rw [if_neg (fun q => g2 q.2), if_pos (.inr g2)]; rfl]
        exact bpre_v2 h hm x u hr hl hK hml hs hz hp hd g3
      · rw [show preV b m x = preW b m (mrgA m.ins.at' (lclA (knB b.l) m.id m.ins.cm)) by unfold preV; rw [if_neg (fun q => g2 q.2), if_pos (.inr g2)]; rfl]
        exact bpre_v3 h hm x u hr hl hK hml hs hz hp hd (by omega) g2
end Go.Proofs.YtchhcaoondfpiaaGreat
namespace Go.Proofs.YtchhcaoondfpiaaGreat
open Go.RowKit Go.Sort
open Go.WideMaps
open Go.MapKept
set_option linter.unusedSimpArgs false
set_option linter.unusedVariables false
set_option maxRecDepth 100000

theorem run_insA (w : World) (b : Nat) (es : Array MapEntry) (clock : Nat) (hb : w.heap[b]? = some (.map es clock)) (k : Int) (val : Value) (hf : Instr.findNow (.int .i64) (.int .i64 k) es.toList 0 = some none) :
    (Instr.mapUpdate 93 (.map (some b)) (.int .i64 k) val).run Tryz.prog w = .ok () { w with heap := w.heap.setIfInBounds b (.map (es.push ⟨.int .i64 k, val, clock⟩) (clock + 1)) } := by
  have hd : Tryz.prog.underlying 35 = some (.int .i64) := Tryz.underlying35
  simp only [Instr.mapUpdate, Sem.run_bind, run_underlying Tryz.underlying93, Result.andThen_ok, Go.MapKept.run_getObj_map hb, Go.MapKept.run_checkKey (n := 9999) hd (show IsKey (.int .i64) (.int .i64 k) from rfl), Go.MapKept.run_findKey hd hf, Go.MapKept.run_setObj_map _ hb]
theorem heap_setmA {w : World} {b : Nat} {es es' : Array MapEntry} {c c' : Nat} (hb : w.heap[b]? = some (.map es c)) : (w.heap.setIfInBounds b (.map es' c'))[b]? = some (.map es' c') ∧ ∀ k, k ≠ b → (w.heap.setIfInBounds b (.map es' c'))[k]? = w.heap[k]? := by
  have hl := (Array.getElem?_eq_some_iff.1 hb).1
  refine ⟨by simp [hl], fun k hk => ?_⟩
  rw [Array.getElem?_setIfInBounds]
  simp [Ne.symm hk]
theorem wpList_insA {ops : Array Oper} {rest : List Oper} {o : Oper} {a : Act} {w : World} {Q : Exit → Act → World → Prop} (hgd : o.guard = none) (m x v : Operand)
    (ho : o.op = .insert 93 m x v) (b : Nat) (es : Array MapEntry) (clock : Nat) (hm : a.eval m = .map (some b)) (hb : w.heap[b]? = some (.map es clock)) (k : Int) (val : Value) (hx : a.eval x = .int .i64 k) (hv : a.eval v = val)
    (hf : Instr.findNow (.int .i64) (.int .i64 k) es.toList 0 = some none)
    (h : ∀ w', w'.heap[b]? = some (.map (es.push ⟨.int .i64 k, val, clock⟩) (clock + 1)) → Below b w w' → w'.heap.size = w.heap.size → wpList Tryz.prog ops Q rest (a.put o.dst undef) w') : wpList Tryz.prog ops Q (o :: rest) a w := by
  refine wpList_done (by simp [Region.wanted, hgd]) _ ?_ (h { w with heap := w.heap.setIfInBounds b (.map (es.push ⟨.int .i64 k, val, clock⟩) (clock + 1)) } (heap_setmA hb).1 ((Below.refl b w).grown (row := some b) ⟨rfl, rfl, rfl, by simp, fun k _ hk => (heap_setmA hb).2 k (fun e => hk (by rw [e]))⟩ (Nat.le_of_lt (Array.getElem?_eq_some_iff.1 hb).1) (fun k e => by cases e; exact Nat.le_refl _)) (by simp))
  unfold execOp
  simp only [ho, hm, hx, hv, Sem.run_bind, run_insA w b es clock hb k val hf, Result.andThen_ok, Sem.run_pure]
abbrev fnV (n : Nat) : Value := .func (.func n) #[] #[]
abbrev tabE : Array MapEntry := #[⟨.int .i64 0, fnV 68, 0⟩, ⟨.int .i64 2, fnV 69, 1⟩, ⟨.int .i64 5, fnV 70, 2⟩, ⟨.int .i64 4, fnV 71, 3⟩]
theorem run_lookA (w : World) (b : Nat) (hb : w.heap[b]? = some (.map tabE 4)) (k : Int) (r : Option (Nat × Value)) (hf : Instr.findNow (.int .i64) (.int .i64 k) tabE.toList 0 = some r) (z : Value) (hz : ∀ w, (zeroValue 91).run Tryz.prog w = .ok z w) :
    (Instr.lookup 93 (.map (some b)) (.int .i64 k) true).run Tryz.prog w = .ok (.tuple #[(r.map (·.2)).getD z, .bool r.isSome]) w := by
  have hd : Tryz.prog.underlying 35 = some (.int .i64) := Tryz.underlying35
  simp only [Instr.lookup, Sem.run_bind, run_underlying Tryz.underlying93, Result.andThen_ok, Go.MapKept.run_getObj_map hb, Sem.run_pure, Go.MapKept.run_checkKey (n := 9999) hd (show IsKey (.int .i64) (.int .i64 k) from rfl), Go.MapKept.run_findKey hd hf]
  cases r with
  | none => simp [hz]
  | some p => simp
def TabP (w : World) (e : Ending) (w' : World) : Prop := ∃ b, Hid (e = .returned (.map (some b))) ∧ w'.heap[b]? = some (.map tabE 4) ∧ Below w.heap.size w w'
set_option maxHeartbeats 800000 in
theorem votes_any (w : World) : Calls Tryz.prog 43 #[] w (TabP w) := by
  have hmm := @run_makeMap Tryz.prog
  have hA : Hid ((w.alloc (.map #[] 0)).heap[w.heap.size]? = some (.map #[] 0)) := Lib.hid (heap_alloc_new w _)
  have hB : Hid (Below w.heap.size w (w.alloc (.map #[] 0))) := Lib.hid ((Below.refl _ _).alloc (Nat.le_refl _) _)
  go_enter Tryz.func43, Tryz.ntmps43
  go_wp2_with (refine wpList_insA rfl _ _ _ rfl w.heap.size #[] 0 rfl hA.out 0 _ rfl rfl rfl ?_)
  intro w1 h1 b1 z1
  have H1 := Lib.hid h1
  have B1 := Lib.hid (hB.out.trans b1)
  clear h1 b1 z1 hA
  go_wp2_with (refine wpList_insA rfl _ _ _ rfl w.heap.size _ 1 rfl H1.out 2 _ rfl rfl rfl ?_)
  intro w2 h2 b2 z2
  have H2 := Lib.hid h2
  have B2 := Lib.hid (B1.out.trans b2)
  clear h2 b2 z2 H1
  go_wp2_with (refine wpList_insA rfl _ _ _ rfl w.heap.size _ 2 rfl H2.out 5 _ rfl rfl rfl ?_)
  intro w3 h3 b3 z3
  have H3 := Lib.hid h3
  have B3 := Lib.hid (B2.out.trans b3)
  clear h3 b3 z3 H2
  go_wp2_with (refine wpList_insA rfl _ _ _ rfl w.heap.size _ 3 rfl H3.out 4 _ rfl rfl rfl ?_)
  intro w4 h4 b4 z4
  have H4 := Lib.hid h4
  have B4 := Lib.hid (B3.out.trans b4)
  clear h4 b4 z4 H3
  go_wp2
  go_ret
  exact ⟨_, rfl, H4.out, B4.out⟩
theorem zeroFA (w : World) : (zeroValue 91).run Tryz.prog w = .ok .nilFunc w := by kernel_rfl
theorem HrP.from {R : BSt × List Mg} {B g mb K : Nat} {w Y : World} {e : Ending} {w' : World} (h : HrP R B g mb K Y e w') (hb : Below w.heap.size w Y) : HrP R B g mb K w e w' := by
  obtain ⟨v, h1, h2, h3, h4⟩ := h
  refine ⟨v, h1, h2, grown_out hb h3, ?_⟩
  rcases h4 with q | ⟨M, g', u, q1, q2, q3, q4, q5⟩
  · exact .inl q
  · exact .inr ⟨M, g', u, q1, q2, q3, q4.base hb.size, Nat.le_trans hb.size q5⟩
theorem hrP_nil {b : BSt} {B g mb K : Nat} {w Y : World} (h : BkAt w B g mb K b) (hb : Below w.heap.size w Y) : HrP (b, []) B g mb K w (.returned (.slice none 0 0)) Y :=
  ⟨_, Lib.hid rfl, (h.below hb).mono (Nat.le_succ _), ⟨hb.os, hb.tape, hb.output, hb.size, fun k hk _ => hb.block k hk⟩, .inl ⟨rfl, rfl⟩⟩
set_option maxHeartbeats 4000000 in
theorem bhear_off {w : World} {B g mb K : Nat} {b : BSt} (h : BkAt w B g mb K b) {v : Value} {m : Mg} (hm : MgA w v m) (g0 : m.kind ≠ 0) (g2 : m.kind ≠ 2) (g4 : m.kind ≠ 4) (g5 : m.kind ≠ 5) : Calls Tryz.prog 16 #[bP g, v] w (HrP (b, []) B g mb K w) := by
  have HMV := Lib.hid hm
  obtain ⟨ua, uc, a1, d1, c1, a2, d2, c2, a3, d3, c3, rfl, hrd, hokl, hid⟩ := hm
  obtain ⟨n0, n1, n2, ⟨n3, n4, n5⟩, ⟨n6, n7⟩, ⟨n8, ⟨n9, n10⟩, ⟨n11, n12⟩, ⟨n13, n14, n15, n16, n17, n18, n19, n20⟩, n21, dl⟩, sn0⟩ := m
  obtain ⟨n23, sn1⟩ : ∃ q, sn0.1.1 = q := ⟨_, rfl⟩
  obtain ⟨M, hM⟩ : ∃ M, dl.length = M := ⟨_, rfl⟩
  have HMl := Lib.hid hM
  simp only at hrd hokl hid
  simp only [msE, inE, snV, hM, sn1, List.cons_append, List.nil_append] at hrd HMV ⊢
  clear hM sn1
  simp only at g0 g2 g4 g5
  obtain ⟨X, hX⟩ : ∃ X, w.alloc (.cells #[.int .i64 n0, .int .i64 n1, .int .i64 n2, .int .i64 n3, .int .i64 n4, .int .i64 n5, .int .i64 n6, .int .i64 n7, .int .i64 n8, .int .i64 n9, .int .i64 n10, .int .i64 n11, .int .i64 n12, .int .i64 n13, .int .i64 n14, .int .i64 n15, .string n16, .string n17, .int .i64 n18, .int .i64 n19, .int .i64 n20, .int .i64 n21, .slice ua M uc, .int .i64 n23, .slice a1 d1 c1, .slice a2 d2 c2, .slice a3 d3 c3] 54) = X := ⟨_, rfl⟩
  have hBX : Below w.heap.size w X := by rw [← hX]; exact (Below.refl _ _).alloc (Nat.le_refl _) _
  have HMX : Hid (Bk X w.heap.size 54 [.int .i64 n0, .int .i64 n1, .int .i64 n2, .int .i64 n3, .int .i64 n4, .int .i64 n5, .int .i64 n6, .int .i64 n7, .int .i64 n8, .int .i64 n9, .int .i64 n10, .int .i64 n11, .int .i64 n12, .int .i64 n13, .int .i64 n14, .int .i64 n15, .string n16, .string n17, .int .i64 n18, .int .i64 n19, .int .i64 n20, .int .i64 n21, .slice ua M uc, .int .i64 n23, .slice a1 d1 c1, .slice a2 d2 c2, .slice a3 d3 c3]) := Lib.hid (by rw [← hX]; exact Bk.new w _ _)
  have HBX := Lib.hid hBX
  have HKP : Hid (∀ w', Below X.heap.size X w' → Bk w' w.heap.size 54 [.int .i64 n0, .int .i64 n1, .int .i64 n2, .int .i64 n3, .int .i64 n4, .int .i64 n5, .int .i64 n6, .int .i64 n7, .int .i64 n8, .int .i64 n9, .int .i64 n10, .int .i64 n11, .int .i64 n12, .int .i64 n13, .int .i64 n14, .int .i64 n15, .string n16, .string n17, .int .i64 n18, .int .i64 n19, .int .i64 n20, .int .i64 n21, .slice ua M uc, .int .i64 n23, .slice a1 d1 c1, .slice a2 d2 c2, .slice a3 d3 c3]) := Lib.hid fun w' hb => HMX.out.below hb
  have H := Lib.hid h
  have HF : Hid (Instr.findNow (.int .i64) (.int .i64 n0) tabE.toList 0 = some none) := by
    have e0 : (n0 == 0) = false := by simpa using g0
    have e2 : (n0 == 2) = false := by simpa using g2
    have e4 : (n0 == 4) = false := by simpa using g4
    have e5 : (n0 == 5) = false := by simpa using g5
    simp [Hid, Instr.findNow, Instr.sameNow, e0, e2, e4, e5]
  clear h hBX hrd hokl hid g0 g2 g4 g5
  go_enter Tryz.func16, Tryz.ntmps16
  go_wp2_with fail
  try rw [hX]
  clear hX
  refine wp_region_held_drew (S := (fun w' => Bk w' w.heap.size 54 [.int .i64 n0, .int .i64 n1, .int .i64 n2, .int .i64 n3, .int .i64 n4, .int .i64 n5, .int .i64 n6, .int .i64 n7, .int .i64 n8, .int .i64 n9, .int .i64 n10, .int .i64 n11, .int .i64 n12, .int .i64 n13, .int .i64 n14, .int .i64 n15, .string n16, .string n17, .int .i64 n18, .int .i64 n19, .int .i64 n20, .int .i64 n21, .slice ua M uc, .int .i64 n23, .slice a1 d1 c1, .slice a2 d2 c2, .slice a3 d3 c3])) (by kernel_rfl) ?_ (fun hHeld => ?_)
  · ((first
    | exact HKP.out _ hbT
    | exact HKP.out _ (Below.refl X.heap.size X).drew
    | exact HKP.out _ (Below.refl _ _)
    | fail))
  refine tkA 1 (v := ?_) ?_ ?_
  rotate_left
  · (intro w' hSw; clear hSw; go_simp; try rfl)
  try simp only [Act.put, gA1, gA2, gA3, gA4, gA5, gA6]
  refine tkA 2 (v := ?_) ?_ ?_
  rotate_left
  · (intro w' hSw; have e0 := Bk.cell hSw 0; simp only [List.getElem?_cons_zero, List.getElem?_cons_succ] at e0; clear hSw; go_simp; try rfl)
  try simp only [Act.put, gA1, gA2, gA3, gA4, gA5, gA6]
  refine wpAnyH_ready (rs := [0]) (by kernel_rfl) (by simp) ?_
  refine (AllReadyH.cons rfl (fun K hK => ?_) AllReadyH.nil)
  go_simp
  (go_at_call 43; refine (votes_any _).mono ?_; rintro e wt ⟨bt, he, hbt, hbq⟩; have he := he.out; subst he; have hbT : Below X.heap.size X wt := (Below.refl X.heap.size X).drew.trans hbq; have hrun : (Instr.lookup 93 (.map (some bt)) (.int .i64 n0) true).run Tryz.prog wt = .ok (.tuple #[.nilFunc, .bool false]) wt := run_lookA wt bt hbt (n0) (none) HF.out _ zeroFA; clear hbt hbq)
  refine hK.out _ _ ?_ (fun hHeld => ?_)
  · ((first
    | exact HKP.out _ hbT
    | exact HKP.out _ (Below.refl X.heap.size X).drew
    | exact HKP.out _ (Below.refl _ _)
    | fail))
  clear hK K
  try simp only [Act.put, gA1, gA2, gA3, gA4, gA5, gA6]
  refine wpAnyH_ready (rs := [3]) (by kernel_rfl) (by simp) ?_
  refine (AllReadyH.cons rfl (fun K hK => ?_) AllReadyH.nil)
  go_simp
  refine hK.out _ _ ?_ (fun hHeld => ?_)
  · ((first
    | exact HKP.out _ hbT
    | exact HKP.out _ (Below.refl X.heap.size X).drew
    | exact HKP.out _ (Below.refl _ _)
    | fail))
  clear hK K
  try simp only [Act.put, gA1, gA2, gA3, gA4, gA5, gA6]
  refine tkA 4 (v := ?_) ?_ ?_
  rotate_left
  · (intro w' hSw; clear hSw; go_simp; try rfl)
  try simp only [Act.put, gA1, gA2, gA3, gA4, gA5, gA6]
  refine tkA 5 (v := ?_) ?_ ?_
  rotate_left
  · (intro w' hSw; clear hSw; go_simp; try rfl)
  try simp only [Act.put, gA1, gA2, gA3, gA4, gA5, gA6]
  refine tkA 6 (v := ?_) ?_ ?_
  rotate_left
  · (intro w' hSw; clear hSw; go_simp; try rfl)
  try simp only [Act.put, gA1, gA2, gA3, gA4, gA5, gA6]
  refine tkA 7 (v := ?_) ?_ ?_
  rotate_left
  · (intro w' hSw; clear hSw; go_simp; try rfl)
  try simp only [Act.put, gA1, gA2, gA3, gA4, gA5, gA6]
  refine tkA 8 (v := ?_) ?_ ?_
  rotate_left
  · (intro w' hSw; clear hSw; go_simp; try rfl)
  try simp only [Act.put, gA1, gA2, gA3, gA4, gA5, gA6]
  refine wpAnyH_done (by kernel_rfl) ?_ _
  go_split_ands
  clear HKP hrun
  have HBT := Lib.hid hbT
  clear hbT
  go_wp2
  go_ret
  exact hrP_nil H.out (HBX.out.trans (HBT.out.mono HBX.out.size))
end Go.Proofs.YtchhcaoondfpiaaGreat
