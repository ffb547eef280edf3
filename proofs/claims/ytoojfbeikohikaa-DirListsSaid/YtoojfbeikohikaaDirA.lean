/-
  The table of operations; Apply where the operation is none's.
-/
import Derived.Test.YtoojfbeikohikaaDir9
namespace Go.Proofs.Ytoojfbeikohikaa
open Go.RowKit
open Go.MapKept
set_option linter.unusedSimpArgs false
set_option linter.unusedVariables false

abbrev opT : TypeId := 32
theorem run_ins (w : World) (b : Nat) (es : Array MapEntry) (clock : Nat) (hb : w.heap[b]? = some (.map es clock)) (k : Int) (val : Value) (hf : Instr.findNow (.int .i64) (.int .i64 k) es.toList 0 = some none) :
    (Instr.mapUpdate 58 (.map (some b)) (.int .i64 k) val).run Try.prog w = .ok () { w with heap := w.heap.setIfInBounds b (.map (es.push ⟨.int .i64 k, val, clock⟩) (clock + 1)) } := by
  have hd : Try.prog.underlying opT = some (.int .i64) := Try.underlying32
  simp only [Instr.mapUpdate, Sem.run_bind, run_underlying Try.underlying58, Result.andThen_ok, Go.MapKept.run_getObj_map hb, Go.MapKept.run_checkKey (n := 9999) hd (show IsKey (.int .i64) (.int .i64 k) from rfl), Go.MapKept.run_findKey hd hf, Go.MapKept.run_setObj_map _ hb]
theorem heap_setm {w : World} {b : Nat} {es es' : Array MapEntry} {c c' : Nat} (hb : w.heap[b]? = some (.map es c)) : (w.heap.setIfInBounds b (.map es' c'))[b]? = some (.map es' c') ∧ ∀ k, k ≠ b → (w.heap.setIfInBounds b (.map es' c'))[k]? = w.heap[k]? := by
  have hl := (Array.getElem?_eq_some_iff.1 hb).1
  refine ⟨by simp [hl], fun k hk => ?_⟩
  rw [Array.getElem?_setIfInBounds]
  simp [Ne.symm hk]
theorem wpList_ins {ops : Array Oper} {rest : List Oper} {o : Oper} {a : Act} {w : World} {Q : Exit → Act → World → Prop} (hgd : o.guard = none) (m x v : Operand)
    (ho : o.op = .insert 58 m x v) (b : Nat) (es : Array MapEntry) (clock : Nat) (hm : a.eval m = .map (some b)) (hb : w.heap[b]? = some (.map es clock)) (k : Int) (val : Value) (hx : a.eval x = .int .i64 k) (hv : a.eval v = val)
    (hf : Instr.findNow (.int .i64) (.int .i64 k) es.toList 0 = some none)
    (h : ∀ w', w'.heap[b]? = some (.map (es.push ⟨.int .i64 k, val, clock⟩) (clock + 1)) → Below b w w' → w'.heap.size = w.heap.size → wpList Try.prog ops Q rest (a.put o.dst undef) w') : wpList Try.prog ops Q (o :: rest) a w := by
  refine wpList_done (by simp [Region.wanted, hgd]) _ ?_ (h { w with heap := w.heap.setIfInBounds b (.map (es.push ⟨.int .i64 k, val, clock⟩) (clock + 1)) } (heap_setm hb).1 ((Below.refl b w).grown (row := some b) ⟨rfl, rfl, rfl, by simp, fun k _ hk => (heap_setm hb).2 k (fun e => hk (by rw [e]))⟩ (Nat.le_of_lt (Array.getElem?_eq_some_iff.1 hb).1) (fun k e => by cases e; exact Nat.le_refl _)) (by simp))
  unfold execOp
  simp only [ho, hm, hx, hv, Sem.run_bind, run_ins w b es clock hb k val hf, Result.andThen_ok, Sem.run_pure]
abbrev fnV (n : Nat) : Value := .func (.func n) #[] #[]
abbrev tabE : Array MapEntry := #[⟨.int .i64 1, fnV 36, 0⟩, ⟨.int .i64 2, fnV 37, 1⟩, ⟨.int .i64 3, fnV 38, 2⟩, ⟨.int .i64 4, fnV 39, 3⟩, ⟨.int .i64 5, fnV 40, 4⟩, ⟨.int .i64 6, fnV 41, 5⟩]
theorem run_look (w : World) (b : Nat) (hb : w.heap[b]? = some (.map tabE 6)) (k : Int) (r : Option (Nat × Value)) (hf : Instr.findNow (.int .i64) (.int .i64 k) tabE.toList 0 = some r) (z : Value) (hz : ∀ w, (zeroValue 56).run Try.prog w = .ok z w) :
    (Instr.lookup 58 (.map (some b)) (.int .i64 k) true).run Try.prog w = .ok (.tuple #[(r.map (·.2)).getD z, .bool r.isSome]) w := by
  have hd : Try.prog.underlying opT = some (.int .i64) := Try.underlying32
  simp only [Instr.lookup, Sem.run_bind, run_underlying Try.underlying58, Result.andThen_ok, Go.MapKept.run_getObj_map hb, Sem.run_pure, Go.MapKept.run_checkKey (n := 9999) hd (show IsKey (.int .i64) (.int .i64 k) from rfl), Go.MapKept.run_findKey hd hf]
  cases r with
  | none => simp [hz]
  | some p => simp
def TabP (w : World) (e : Ending) (w' : World) : Prop := ∃ b, Hid (e = .returned (.map (some b))) ∧ w'.heap[b]? = some (.map tabE 6) ∧ Below w.heap.size w w'
set_option maxHeartbeats 800000 in
theorem operations_any (w : World) : Calls Try.prog 23 #[] w (TabP w) := by
  have hmm := @run_makeMap Try.prog
  have hA : Hid ((w.alloc (.map #[] 0)).heap[w.heap.size]? = some (.map #[] 0)) := Lib.hid (heap_alloc_new w _)
  have hB : Hid (Below w.heap.size w (w.alloc (.map #[] 0))) := Lib.hid ((Below.refl _ _).alloc (Nat.le_refl _) _)
  go_enter Try.func23, Try.ntmps23
  go_wp2_with (refine wpList_ins rfl _ _ _ rfl w.heap.size #[] 0 rfl hA.out 1 _ rfl rfl rfl ?_)
  intro w1 h1 b1 z1
  have H1 := Lib.hid h1
  have B1 := Lib.hid (hB.out.trans b1)
  clear h1 b1 z1 hA
  go_wp2_with (refine wpList_ins rfl _ _ _ rfl w.heap.size _ 1 rfl H1.out 2 _ rfl rfl rfl ?_)
  intro w2 h2 b2 z2
  have H2 := Lib.hid h2
  have B2 := Lib.hid (B1.out.trans b2)
  clear h2 b2 z2 H1
  go_wp2_with (refine wpList_ins rfl _ _ _ rfl w.heap.size _ 2 rfl H2.out 3 _ rfl rfl rfl ?_)
  intro w3 h3 b3 z3
  have H3 := Lib.hid h3
  have B3 := Lib.hid (B2.out.trans b3)
  clear h3 b3 z3 H2
  go_wp2_with (refine wpList_ins rfl _ _ _ rfl w.heap.size _ 3 rfl H3.out 4 _ rfl rfl rfl ?_)
  intro w4 h4 b4 z4
  have H4 := Lib.hid h4
  have B4 := Lib.hid (B3.out.trans b4)
  clear h4 b4 z4 H3
  go_wp2_with (refine wpList_ins rfl _ _ _ rfl w.heap.size _ 4 rfl H4.out 5 _ rfl rfl rfl ?_)
  intro w5 h5 b5 z5
  have H5 := Lib.hid h5
  have B5 := Lib.hid (B4.out.trans b5)
  clear h5 b5 z5 H4
  go_wp2_with (refine wpList_ins rfl _ _ _ rfl w.heap.size _ 5 rfl H5.out 6 _ rfl rfl rfl ?_)
  intro w6 h6 b6 z6
  have H6 := Lib.hid h6
  have B6 := Lib.hid (B5.out.trans b6)
  clear h6 b6 z6 H5
  go_wp2
  go_ret
  exact ⟨_, rfl, H6.out, B6.out⟩
theorem zeroF (w : World) : (zeroValue 56).run Try.prog w = .ok .nilFunc w := by kernel_rfl
theorem also3 {W w' : World} {q : Addr} {x : Value} (hb : Below W.heap.size W w') (hq : W.cell? q = some x) (hlt : q.block < W.heap.size) : w'.cell? q = some x ∧ Below W.heap.size W w' := ⟨(hb.cell hlt).trans hq, hb⟩
/-- A command, done. -/
def appD (l : List E3) (op : Int) (p v : ByteArray) (ver : Int) : Rep × List E3 :=
  if !rgt op p v then (bad 1, l) else if op = 1 then crD l p v else if op = 2 then rmD l p else if op = 3 then setD l p v else if op = 4 then gtD l p else if op = 5 then lsD l p else if op = 6 then casD l p v ver else (bad 1, l)
set_option maxRecDepth 100000 in
set_option maxHeartbeats 2000000 in
theorem apply_none (d bk K : Nat) (l : List E3) (cl sq op : Int) (p v : ByteArray) (ver a b : Int) (w : World) (hd : DirAt w d bk K l) (ho : ∀ k : Int, 1 ≤ k → k ≤ 6 → op ≠ k) :
    Calls Try.prog 13 #[dP d, cmdV cl sq op p v ver a b] w (AppP (appD l op p v ver) d bk K w) := by
  have g1 : (op == 1) = false := by simpa using ho 1 (by omega) (by omega)
  have g2 : (op == 2) = false := by simpa using ho 2 (by omega) (by omega)
  have g3 : (op == 3) = false := by simpa using ho 3 (by omega) (by omega)
  have g4 : (op == 4) = false := by simpa using ho 4 (by omega) (by omega)
  have g5 : (op == 5) = false := by simpa using ho 5 (by omega) (by omega)
  have g6 : (op == 6) = false := by simpa using ho 6 (by omega) (by omega)
  have HF : Hid (Instr.findNow (.int .i64) (.int .i64 op) tabE.toList 0 = some none) := by
    simp [Hid, Instr.findNow, Instr.sameNow, g1, g2, g3, g4, g5, g6]
  have HE : Hid (appD l op p v ver = (bad 1, l)) := Lib.hid (by
    have e1 := ho 1 (by omega) (by omega)
    have e2 := ho 2 (by omega) (by omega)
    have e3 := ho 3 (by omega) (by omega)
    have e4 := ho 4 (by omega) (by omega)
    have e5 := ho 5 (by omega) (by omega)
    have e6 := ho 6 (by omega) (by omega)
    simp [appD, e1, e2, e3, e4, e5, e6])
  clear g1 g2 g3 g4 g5 g6 ho
  obtain ⟨X, hX⟩ : ∃ X, box2 w cl sq op p v ver a b = X := ⟨_, rfl⟩
  have hB : Below w.heap.size w X := by rw [← hX]; exact box2_below ..
  have hBX : BX w.heap.size cl sq op p v ver a b X := by rw [← hX]; exact BX.mk0 ..
  have HD := Lib.hid hd
  have HDX := Lib.hid (hd.below hB)
  have HB := Lib.hid hB
  have HBX := Lib.hid hBX
  have HK2 := Lib.hid hBX.c.2.2.1
  have HLT : Hid ((⟨w.heap.size, 2, none⟩ : Addr).block < X.heap.size) := Lib.hid (by have := hBX.z; show w.heap.size < _; omega)
  go_enter Try.func13, Try.ntmps13
  clear hd hB hBX
  go_wp2_with fail
  go_region_held3 (fun w' => w'.cell? ⟨w.heap.size, 2, none⟩ = some (.int .i64 op) ∧ Below X.heap.size X w')
    (first
      | exact also3 (Below.refl _ _) HK2.out HLT.out
      | exact also3 (Below.refl _ _).drew HK2.out HLT.out
      | (go_split_ands; first | exact also3 (below_self (by assumption) (by assumption)) HK2.out HLT.out | exact also3 (by assumption) HK2.out HLT.out))
    (first
      | (go_at_call 23; refine (operations_any _).mono ?_; rintro e w1 ⟨b1, rfl, hb1, hb⟩; have hrun : (Instr.lookup 58 (.map (some b1)) (.int .i64 op) true).run Try.prog w1 = .ok (.tuple #[.nilFunc, .bool false]) w1 := run_look w1 b1 hb1 op (none) HF.out _ zeroF; clear hb1))
  all_goals
    go_split_ands
    have hb' : Below X.heap.size X w1 := by assumption
    have HB1 := Lib.hid (below_self HB.out hb')
    have HBX1 := Lib.hid (HBX.out.below hb')
    have HD1 := Lib.hid (HDX.out.below hb')
    clear hb' HBX HDX HB
    go_wp2_with fail
    refine (failed_any 1 w1).mono ?_
    rintro e w9 ⟨rfl, hb⟩
    have HB9 := Lib.hid (below_self HB1.out hb)
    have HBX9 := HBX1.out.below hb
    obtain ⟨r0, r1, r2, r3⟩ := HBX9.r
    obtain ⟨f0, f1⟩ := HBX9.f
    have z9 := HBX9.z
    clear hb HBX9 
    go_wp2
    refine bodyPost_ret (v := repV (bad 1) (.slice none 0 0)) (by simp [results, Try.results13, go_sem, bad, r0, r1, r2, r3, f1, show w.heap.size + 1 < w9.heap.size by omega]) rfl ?_
    rw [HE.out]
    exact AppP.bad HD.out (below4 HB9.out _ _ _ _) _ rfl
end Go.Proofs.Ytoojfbeikohikaa
