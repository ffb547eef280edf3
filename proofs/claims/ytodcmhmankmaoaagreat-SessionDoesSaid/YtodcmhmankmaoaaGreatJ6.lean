/-
  Texts put together: Dl1, Dl2.
-/
import Derived.Test.YtodcmhmankmaoaaGreatJ5
import Derived.Laws.StructEq
import Derived.Deep.QuietTactic
import Derived.BigQuiet
namespace Go.Proofs.YtodcmhmankmaoaaGreat
open Go.RowKit
set_option linter.unusedSimpArgs false
set_option linter.unusedVariables false

theorem below_drewN_q {B : Nat} {a w : World} (h : Below B a w) (n : Nat) : Below B a (w.drewN n) := h.trans ⟨rfl, rfl, rfl, Nat.le_refl _, fun _ _ => rfl⟩
def ovB (ts : List Cm) : Bool := decide (60 < ts.length) || ts.any fun t => decide (300 < t.pa.size) || decide (300 < t.va.size)
theorem ovB_far {ts : List Cm} {k : Nat} (hk : k < ts.length) (h : 300 < (ts.getD k default).pa.size ∨ 300 < (ts.getD k default).va.size) : ovB ts = true := by
  have hm : ts.getD k default ∈ ts := by rw [List.getD, List.getElem?_eq_getElem hk]; exact List.getElem_mem hk
  unfold ovB
  rw [Bool.or_eq_true, List.any_eq_true]
  exact .inr ⟨_, hm, by rw [Bool.or_eq_true, decide_eq_true_eq, decide_eq_true_eq]; exact h⟩
theorem ovB_long {ts : List Cm} (h : 60 < ts.length) : ovB ts = true := by unfold ovB; simp [h]
theorem ovB_all {ts : List Cm} (h : ts.length ≤ 60) (ha : ∀ j, j < ts.length → (ts.getD j default).pa.size ≤ 300 ∧ (ts.getD j default).va.size ≤ 300) : ovB ts = false := by
  unfold ovB
  rw [Bool.or_eq_false_iff, List.any_eq_false]
  refine ⟨by simpa using h, fun t ht => ?_⟩
  obtain ⟨j, hj, rfl⟩ := List.getElem_of_mem ht
  have := ha j hj
  rw [List.getD, List.getElem?_eq_getElem hj] at this
  simp only [Option.getD_some] at this
  simp [this]
theorem ovB_no {ts : List Cm} (h : ovB ts = false) : ts.length ≤ 60 ∧ ∀ j, j < ts.length → (ts.getD j default).pa.size ≤ 300 ∧ (ts.getD j default).va.size ≤ 300 := by
  unfold ovB at h
  rw [Bool.or_eq_false_iff, List.any_eq_false] at h
  refine ⟨by simpa using h.1, fun j hj => ?_⟩
  have hm : ts.getD j default ∈ ts := by rw [List.getD, List.getElem?_eq_getElem hj]; exact List.getElem_mem hj
  have := h.2 _ hm
  simp only [Bool.or_eq_true, decide_eq_true_eq, not_or, Nat.not_lt] at this
  exact this
set_option maxHeartbeats 2000000 in
theorem over_any (a : Option Addr) (n c : Nat) (ts : List Cm) (w : World) (hn : n = ts.length) (h : CRd w a ts) :
    Calls Tryz.prog 6 #[.slice a n c] w fun e w' => e = .returned (.bool (ovB ts)) ∧ w = w' := by
  obtain ⟨R, hR⟩ : ∃ R, ovB ts = R := ⟨_, rfl⟩
  rw [hR]
  have HR := Lib.hid hR
  have HN := Lib.hid hn
  have HC := Lib.hid h
  have hn1 : (n : Int) ≤ 9223372036854775807 := by have := h.1; omega
  clear hR hn h
  go_enter Tryz.func6, Tryz.ntmps6
  go_wp2_with fail
  go_loop [3] (fun i => ∃ k : Nat, k ≤ n ∧ k ≤ 61 ∧ i = .int .i64 k ∧ Hid (∀ j, j < k → (ts.getD j default).pa.size ≤ 300 ∧ (ts.getD j default).va.size ≤ 300)) (fun i => 61 - (intOf i).toNat)
  case atStart => exact ⟨0, by omega, by omega, rfl, Lib.hid (fun j hj => by omega)⟩
  case round =>
    obtain ⟨k, hk, hk2, rfl, hF⟩ := hrel
    by_cases hlt : k < n
    · have hlt' : (k : Int) < (n : Int) := by omega
      by_cases h60 : k ≤ 60
      · have h60' : (k : Int) ≤ 60 := by omega
        rcases HC.out.2 with h0 | ⟨g, off, rfl, hg, hcm⟩
        · exfalso
          have := HN.out
          rw [h0] at this
          simp at this
          omega
        have hkl : k < ts.length := by have := HN.out; omega
        have hcm1 := hcm k hkl
        obtain ⟨t, ht⟩ : ∃ t, ts.getD k default = t := ⟨_, rfl⟩
        rw [ht] at hcm1
        obtain ⟨_, _, _, m3, m4, _⟩ := hcm1
        have HFAR : Hid (300 < t.pa.size ∨ 300 < t.va.size → ovB ts = true) := Lib.hid (fun q => ovB_far hkl (by rw [ht]; exact q))
        have HT := Lib.hid ht
        clear hcm ht hg
        by_cases y1 : (300 : Int) < t.pa.size
        · have e : R = true := by rw [← HR.out]; exact HFAR.out (.inl (by omega))
          subst e
          clear hF HFAR HR
          go_wp2
          go_ret
          exact ⟨rfl, rfl⟩
        · by_cases y2 : (300 : Int) < t.va.size
          · have e : R = true := by rw [← HR.out]; exact HFAR.out (.inr (by omega))
            subst e
            clear hF HFAR HR
            go_wp2
            go_ret
            exact ⟨rfl, rfl⟩
          · have hF2 : Hid (∀ j, j < k + 1 → (ts.getD j default).pa.size ≤ 300 ∧ (ts.getD j default).va.size ≤ 300) := Lib.hid (fun j hj => by
              by_cases e : j = k
              · subst e; rw [HT.out]; omega
              · exact hF.out j (by omega))
            clear hF HFAR
            go_wp2
            go_round
            case rel => exact ⟨k + 1, by omega, by omega, by go_num, hF2⟩
            case measure => simp [intOf]; omega
      · have h60' : ¬ (k : Int) ≤ 60 := by omega
        have g1 : ((60 : Int) < (n : Int)) := by omega
        have g2 : 60 < n := by omega
        have e : R = true := by rw [← HR.out]; exact ovB_long (by have := HN.out; omega)
        subst e
        clear hF HR
        go_wp2
        go_ret
        exact ⟨ret_bool (by simp <;> omega), rfl⟩
    · have hlt' : ¬ (k : Int) < (n : Int) := by omega
      by_cases h60 : 60 < n
      · have g1 : ((60 : Int) < (n : Int)) := by omega
        have e : R = true := by rw [← HR.out]; exact ovB_long (by have := HN.out; omega)
        subst e
        clear hF HR
        go_wp2
        go_ret
        exact ⟨ret_bool (by simp <;> omega), rfl⟩
      · have g1 : ¬ ((60 : Int) < (n : Int)) := by omega
        have e : R = false := by
          rw [← HR.out]
          exact ovB_all (by have := HN.out; omega) (fun j hj => hF.out j (by have := HN.out; omega))
        subst e
        clear hF HR
        go_wp2
        go_ret
        exact ⟨ret_bool (by simp <;> omega), rfl⟩
theorem crd_one (t : Cm) (w : World) (T : TypeId) : CRd (w.alloc (.cells #[.int .i64 t.cl, .int .i64 t.sq, .int .i64 t.op, .string t.pa, .string t.va, .int .i64 t.ver, .int .i64 t.a, .int .i64 t.b] T)) (some ⟨w.heap.size, 0, none⟩) [t] := by
  refine ⟨by simp, .inr ⟨w.heap.size, 0, rfl, by simp, fun i hi => ?_⟩⟩
  obtain rfl : i = 0 := by simpa using hi
  refine ⟨?_, ?_, ?_, ?_, ?_, ?_, ?_, ?_⟩ <;> simp [new_cell]
/-- Two entries compared. -/
theorem eqE_run (a1 a2 : ByteArray) (a3 : Int) (b1 b2 : ByteArray) (b3 : Int) : (∀ w, Sem.run Tryz.prog (binOp .eql 49 (.agg #[.string a1, .string a2, .int .i64 a3]) (.agg #[.string b1, .string b2, .int .i64 b3])) w = .ok (.bool (decide (((a1, a2, a3) : E3) = (b1, b2, b3)))) w) ∧
    (∀ op x y w, Sem.run Tryz.prog (eqGuard op 49 x y (.agg #[.string a1, .string a2, .int .i64 a3]) (.agg #[.string b1, .string b2, .int .i64 b3])) w = .ok () w) := by
  refine ⟨fun w => ?_, fun op x y w => run_eqGuard_agg w op 49 x y _ _ (by kernel_rfl)⟩
  have u3 := Tryz.underlying9
  have a3' := Tryz.isAgg9
  have z3 := Tryz.sizeOf9
  have u4 := Tryz.underlying3
  have a4 := Tryz.isAgg3
  have z4 := Tryz.sizeOf3
  have hS : Tryz.prog.underlying 49 = some (.struct (Tryz.prog.fieldsOf 49)) := by kernel_rfl
  have hp : Tryz.prog.stoodInHeld 49 = false := by kernel_rfl
  have key : ∀ x y : ByteArray, x ≠ y → x.toList ≠ y.toList := fun x y h e => by
    rw [ByteArray.toList_eq, ByteArray.toList_eq] at e
    exact h (ByteArray.ext (by simpa using e))
  rw [run_eql_struct, show (10000 : Nat) = 9999 + 1 from rfl, run_equalIn_agg w 9999 49 _ _ hS hp]
  simp only [Program.fieldsOf, Tryz.underlying49]
  go_simp
  by_cases h1 : a1 = b1
  · subst h1
    by_cases h2 : a2 = b2
    · subst h2
      by_cases h3 : a3 = b3 <;> simp [h3]
    · have h3 := key _ _ h2
      simp [h2, h3]
  · have h3 := key _ _ h1
    simp [h1, h3]
theorem neE_run (a1 a2 : ByteArray) (a3 : Int) (b1 b2 : ByteArray) (b3 : Int) : (∀ w, Sem.run Tryz.prog (binOp .neq 49 (.agg #[.string a1, .string a2, .int .i64 a3]) (.agg #[.string b1, .string b2, .int .i64 b3])) w = .ok (.bool (!decide (((a1, a2, a3) : E3) = (b1, b2, b3)))) w) ∧
    (∀ op x y w, Sem.run Tryz.prog (eqGuard op 49 x y (.agg #[.string a1, .string a2, .int .i64 a3]) (.agg #[.string b1, .string b2, .int .i64 b3])) w = .ok () w) := by
  refine ⟨fun w => ?_, (eqE_run a1 a2 a3 b1 b2 b3).2⟩
  have h := (eqE_run a1 a2 a3 b1 b2 b3).1 w
  rw [run_eql_struct] at h
  rw [run_neq_struct]
  revert h
  generalize Sem.run Tryz.prog (Op.equalIn 10000 49 (.agg #[.string a1, .string a2, .int .i64 a3]) (.agg #[.string b1, .string b2, .int .i64 b3])) w = r
  intro h
  cases r with
  | ok v w' => simp [Result.andThen] at h ⊢; simp [h]
  | halt x w' => simp [Result.andThen] at h
set_option maxRecDepth 100000 in
set_option maxHeartbeats 1000000 in
theorem rowD_any (va vb : Value) (a b : List E3) (w : World) (ha : EK.Rd w va a) (hb : EK.Rd w vb b) (na : a.length ≤ 10000) (nb : b.length ≤ 10000) :
    Calls Tryz.prog 14 #[va, vb] w fun e w' => e = .returned (.bool (decide (a = b))) ∧ Below w.heap.size w w' := by
  obtain ⟨aa, ca, e⟩ := ha.slice
  subst e
  obtain ⟨ab, cb, e⟩ := hb.slice
  subst e
  obtain ⟨N, hN⟩ : ∃ N, a.length = N := ⟨_, rfl⟩
  obtain ⟨M, hM⟩ : ∃ M, b.length = M := ⟨_, rfl⟩
  obtain ⟨R, hR⟩ : ∃ R, decide (a = b) = R := ⟨_, rfl⟩
  rw [hN] at ha na ⊢
  rw [hM] at hb nb ⊢
  rw [hR]
  have HN := Lib.hid hN
  have HM := Lib.hid hM
  have HR := Lib.hid hR
  have HA := Lib.hid ha
  have HB := Lib.hid hb
  clear hN hM hR ha hb
  by_cases hne : N = M
  · subst hne
    go_enter Tryz.func14, Tryz.ntmps14
    go_wp2_with fail
    go_loopw [5] (fun i wr => ∃ k : Nat, k ≤ N ∧ i = .int .i64 k ∧ Hid (Below w.heap.size w wr) ∧ Hid (∀ j, j < k → a.getD j EK.d = b.getD j EK.d)) (fun i _ => N - (intOf i).toNat)
    case atStart => exact ⟨0, Nat.zero_le _, rfl, Lib.hid (Below.refl _ _), Lib.hid (fun j hj => by omega)⟩
    case round =>
      obtain ⟨k, hk, rfl, hBl, hF⟩ := hrel
      by_cases hlt : k < N
      · have hlt' : (k : Int) < (N : Int) := by omega
        have hkb : (k : Int) ≤ 10000 := by omega
        obtain ⟨e0, g2, off2, hda, hg2, q1, q2, q3, hjl⟩ := entCell (HA.out.below hBl.out) k hlt
        obtain ⟨e1, g3, off3, hdb, hg3, p1, p2, p3, hjm⟩ := entCell (HB.out.below hBl.out) k hlt
        obtain ⟨⟨y1, y2, y3⟩, hX⟩ : ∃ X, a.getD k EK.d = X := ⟨_, rfl⟩
        obtain ⟨⟨x1, x2, x3⟩, hY⟩ : ∃ X, b.getD k EK.d = X := ⟨_, rfl⟩
        rw [hX] at q1 q2 q3
        rw [hY] at p1 p2 p3
        have HX := Lib.hid hX
        have HY := Lib.hid hY
        have HJL := Lib.hid hjl
        have HJM := Lib.hid hjm
        obtain ⟨he, hgd⟩ := neE_run y1 y2 y3 x1 x2 x3
        subst hda
        subst hdb
        cases hb : decide (((y1, y2, y3) : E3) = (x1, x2, x3)) with
        | true =>
          rw [hb] at he
          have HF2 : Hid (∀ j, j < k + 1 → a.getD j EK.d = b.getD j EK.d) := Lib.hid (fun j hj => by
            by_cases e : j = k
            · subst e; rw [HX.out, HY.out]; exact of_decide_eq_true hb
            · exact hF.out j (by omega))
          clear hX hY hjl hjm e0 e1 hb
          go_wp2_with fail
          go_quiet (fail)
          go_wp2
          go_roundw
          case rel => exact ⟨k + 1, by omega, by go_num, Lib.hid (below_drewN_q hBl.out _), HF2⟩
          case measure => simp [intOf]; omega
        | false =>
          rw [hb] at he
          have HE := Lib.hid (of_decide_eq_false hb)
          clear hX hY hjl hjm e0 e1 hb
          go_wp2_with fail
          go_quiet (fail)
          go_wp2
          go_ret
          refine ⟨ret_bool ?_, below_drewN_q hBl.out _⟩
          rw [← HR.out]
          symm
          rw [decide_eq_false_iff_not]
          intro e
          exact HE.out (by rw [← HX.out, ← HY.out, e])
      · obtain rfl : k = N := by omega
        have hlt' : ¬ (k : Int) < (k : Int) := by omega
        go_wp2
        go_ret
        refine ⟨ret_bool ?_, hBl.out⟩
        rw [← HR.out]
        symm
        rw [decide_eq_true_iff]
        refine List.ext_getElem (by rw [HN.out, HM.out]) fun j h1 h2 => ?_
        have := hF.out j (by rw [← HN.out]; exact h1)
        simpa [List.getD, h1, h2] using this
  · have hneI : ¬ (N : Int) = (M : Int) := by omega
    go_enter Tryz.func14, Tryz.ntmps14
    go_wp2
    go_ret
    refine ⟨ret_bool ?_, Below.refl _ _⟩
    rw [← HR.out]
    first
      | (symm; rw [decide_eq_false_iff_not]; intro e; exact hne (by rw [← HN.out, ← HM.out, e]))
      | (have : decide (a = b) = false := by rw [decide_eq_false_iff_not]; intro e; exact hne (by rw [← HN.out, ← HM.out, e])
         rw [this]; simp; omega)
      | fail
end Go.Proofs.YtodcmhmankmaoaaGreat
namespace Go.Proofs.YtodcmhmankmaoaaGreat
open Go.RowKit
set_option linter.unusedSimpArgs false
set_option linter.unusedVariables false

/-- A block of cells is not the map's. -/
theorem DirAt.cellNe {w : World} {d b K g o : Nat} {l : List E3} {x : Value} (h : DirAt w d b K l) (hc : w.cell? ⟨g, o, none⟩ = some x) : g ≠ b := by
  rintro rfl
  obtain ⟨D, m, _, ⟨es, ck, hb, _⟩, _⟩ := h.map
  simp [World.cell?, hb] at hc
theorem DirAt.blkNe {w : World} {d b K g : Nat} {l : List E3} {cs : Array Value} {T : TypeId} {fr : Nat × Nat} (h : DirAt w d b K l) (hc : w.heap[g]? = some (.cells cs T fr)) : g ≠ b := by
  rintro rfl
  obtain ⟨D, m, _, ⟨es, ck, hb, _⟩, _⟩ := h.map
  rw [hb] at hc
  cases hc
/-- What becomes of the entries, command by command. -/
def runD (l : List E3) (ts : List Cm) : List E3 := ts.foldl (fun l t => (appD l t.op t.pa t.va t.ver).2) l
theorem runD_succ (l : List E3) (ts : List Cm) (k : Nat) (hk : k < ts.length) : runD l (ts.take (k + 1)) = (appD (runD l (ts.take k)) (ts.getD k default).op (ts.getD k default).pa (ts.getD k default).va (ts.getD k default).ver).2 := by
  unfold runD
  rw [List.take_succ_eq_append_getElem hk, List.foldl_append]
  have e : ts.getD k default = ts[k] := by rw [List.getD, List.getElem?_eq_getElem hk]; rfl
  rw [e]
  rfl
/-- A directory that was made since X. -/
structure LW (X : World) (d bk K : Nat) (l : List E3) (w : World) : Prop where
  dir : DirAt w d bk K l
  ml : ML w
  below : Below X.heap.size X w
  lo : X.heap.size ≤ d ∧ X.heap.size ≤ bk
  right : RightD l
  ver : verB (1099511627776 + K) l
theorem LW.on {X w w' : World} {d bk K : Nat} {l : List E3} (h : LW X d bk K l w) (hb : Below w.heap.size w w') : LW X d bk K l w' :=
  ⟨h.dir.below hb, h.ml.below hb, h.below.trans (hb.mono h.below.size), h.lo, h.right, h.ver⟩
theorem LW.app {X w w' : World} {d bk K : Nat} {l : List E3} {op : Int} {p v : ByteArray} {ver : Int} (h : LW X d bk K l w) (hd : DirAt w' d bk (K + 1) (appD l op p v ver).2) (hg : w.grownBy w' (some bk)) : LW X d bk (K + 1) (appD l op p v ver).2 w' := by
  refine ⟨hd, ?_, h.below.grown hg h.below.size (fun j hj => by cases hj; exact h.lo.2), h.lo, h.right.app op p v ver, app_ver h.right.rise h.right.keys h.ver op p v ver⟩
  obtain ⟨m, hm⟩ := h.ml
  exact ⟨m, hg.cell hm (by simpa using h.dir.cellNe hm)⟩
/-- Another directory, while this one turns. -/
theorem LW.other {X w w' : World} {d bk K d2 b2 K2 : Nat} {l l2 : List E3} (h : LW X d bk K l w) (h2 : LW X d2 b2 K2 l2 w) (hne : b2 ≠ bk) (hg : w.grownBy w' (some bk)) : LW X d2 b2 K2 l2 w' := by
  have hdb : d2 ≠ bk := h.dir.cellNe h2.dir.cell
  refine ⟨h2.dir.out hg hdb hne, ?_, h.below.grown hg h.below.size (fun j hj => by cases hj; exact h.lo.2), h2.lo, h2.right, h2.ver⟩
  obtain ⟨m, hm⟩ := h.ml
  exact ⟨m, hg.cell hm (by simpa using h.dir.cellNe hm)⟩
/-- A command, done: the reply, and the directory behind. -/
def LwP (R : Rep × List E3) (X : World) (d bk K : Nat) (w : World) (e : Ending) (w' : World) : Prop := ∃ v, Hid (e = .returned (repV R.1 v)) ∧ Own1 w' w.heap.size 9 v (R.1.names.map .string) ∧ LW X d bk (K + 1) R.2 w' ∧ w.grownBy w' (some bk)
theorem lw_apply {X w : World} {d bk K : Nat} {l : List E3} (h : LW X d bk K l w) (cl sq op : Int) (p v : ByteArray) (ver a b : Int) (hK : K ≤ 1000000) (hp : p.size ≤ 1000) :
    Calls Tryz.prog 10 #[dP d, cmdV cl sq op p v ver a b] w (LwP (appD l op p v ver) X d bk K w) := by
  refine (apply_any d bk K l cl sq op p v ver a b w h.dir hK hp h.ml (fun e he => by have := h.ver e he; exact ⟨this.1, by omega⟩)).mono ?_
  rintro e w' ⟨⟨u, he, ho⟩, hd, hg⟩
  exact ⟨u, he, ho, h.app hd hg, hg⟩
def NewP (X w : World) (e : Ending) (w' : World) : Prop := ∃ d bk, Hid (e = .returned (dP d)) ∧ LW X d bk 0 [] w'
theorem lw_new {X w : World} (hb : Below X.heap.size X w) (hm : ML w) : Calls Tryz.prog 27 #[] w (NewP X w) := by
  refine (new_any w).mono ?_
  rintro e w' ⟨he, hd, hB⟩
  have := hb.size
  exact ⟨_, _, Lib.hid he, hd, hm.below hB, hb.trans (hB.mono this), ⟨by omega, this⟩, RightD.empty, fun e he => by cases he⟩
/-- A row of texts that can be read. -/
def Nms (w : World) (v : Value) (ns : List ByteArray) : Prop := ∃ a c, v = .slice a ns.length c ∧ SRd w a ns
theorem Nms.below {w w' : World} {v : Value} {ns : List ByteArray} (h : Nms w v ns) (hb : Below w.heap.size w w') : Nms w' v ns := by
  obtain ⟨a, c, e, h⟩ := h
  exact ⟨a, c, e, h.below hb⟩
theorem Nms.out {w w' : World} {v : Value} {ns : List ByteArray} {bk : Nat} (h : Nms w v ns) (hg : w.grownBy w' (some bk)) (hne : ∀ g o x, w.cell? ⟨g, o, none⟩ = some x → g ≠ bk) : Nms w' v ns := by
  obtain ⟨a, c, e, h1, h2⟩ := h
  refine ⟨a, c, e, h1, ?_⟩
  rcases h2 with h2 | ⟨g, off, ha, hl, hc⟩
  · exact .inl h2
  · refine .inr ⟨g, off, ha, Nat.lt_of_lt_of_le hl hg.size, fun i hi => ?_⟩
    have := hc i hi
    exact hg.cell this (by simpa using hne _ _ _ this)
theorem Own1.nms {w : World} {base : Nat} {v : Value} {ns : List ByteArray} (h : Own1 w base 9 v (ns.map .string)) (hl : ns.length ≤ 9223372036854775807) : Nms w v ns := by
  obtain ⟨a, c, rfl⟩ := h.slice
  rw [List.length_map] at h ⊢
  refine ⟨a, c, rfl, hl, ?_⟩
  by_cases h0 : ns = []
  · exact .inl h0
  · right
    have hp : 0 < (ns.map Value.string).length := by simpa using List.length_pos_iff.2 h0
    obtain ⟨g, c2, e, hg, _⟩ := h.cell 0 hp
    refine ⟨g, 0, by simpa using (Value.slice.inj e).1, hg, fun i hi => ?_⟩
    obtain ⟨g2, c3, e2, _, hc⟩ := h.cell i (by simpa using hi)
    have hgg : g2 = g := by
      have := (Value.slice.inj (e.symm.trans e2)).1
      simp at this
      exact this.symm
    subst hgg
    rw [Nat.zero_add, hc]
    simp [List.getD, hi]
theorem repN_small {l : List E3} (op : Int) (p v : ByteArray) (ver : Int) : (appD l op p v ver).1.names.length ≤ l.length := by
  have hk : (kidD l p).length ≤ l.length := by unfold kidD; rw [List.length_map]; exact List.length_filter_le _ _
  have hs : ∀ l p v, (setD l p v).1.names = [] := fun l p v => by unfold setD; cases fndD l p <;> rfl
  unfold appD
  split
  · simp [bad]
  · split
    · unfold crD; split; · simp [bad]
      split <;> simp [bad]
    · split
      · unfold rmD; split
        · split <;> simp [bad]
        · simp [bad]
      · split
        · rw [hs]; simp
        · split
          · unfold gtD; split <;> simp [bad]
          · split
            · unfold lsD; split
              · exact hk
              · simp [bad]
            · split
              · unfold casD; split
                · simp
                · rw [hs]; simp
              · simp [bad]
theorem own1_small {w : World} {base : Nat} {v : Value} {vs : List Value} (h : Own1 w base 9 v vs) : vs.length ≤ 9223372036854775807 := by
  rcases h.2 with ⟨_, h0⟩ | ⟨g, cap, cur, _, _, _, hn, hm, _⟩
  · omega
  · unfold maxLen at hm; omega
/-- A box that holds a reply. -/
structure RB (g : Nat) (r : Rep) (w : World) : Prop where
  c0 : w.cell? ⟨g, 0, none⟩ = some (.int .i64 r.err)
  c1 : w.cell? ⟨g, 1, none⟩ = some (.string r.val)
  c2 : w.cell? ⟨g, 2, none⟩ = some (.int .i64 r.ver)
  c3 : ∃ v, w.cell? ⟨g, 3, none⟩ = some v ∧ Nms w v r.names
theorem RB.lt {g : Nat} {r : Rep} {w : World} (h : RB g r w) : g < w.heap.size := World.block_lt_of_cell? w _ h.c0
theorem RB.on {g : Nat} {r : Rep} {w w' : World} (h : RB g r w) (hb : Below w.heap.size w w') : RB g r w' := by
  have hl := h.lt
  obtain ⟨v, h3, hn⟩ := h.c3
  exact ⟨(hb.cell (p := ⟨g, 0, none⟩) hl).trans h.c0, (hb.cell (p := ⟨g, 1, none⟩) hl).trans h.c1, (hb.cell (p := ⟨g, 2, none⟩) hl).trans h.c2, v, (hb.cell (p := ⟨g, 3, none⟩) hl).trans h3, hn.below hb⟩
theorem RB.out {g : Nat} {r : Rep} {w w' : World} {bk : Nat} (h : RB g r w) (hg : w.grownBy w' (some bk)) (hne : ∀ g o x, w.cell? ⟨g, o, none⟩ = some x → g ≠ bk) : RB g r w' := by
  obtain ⟨v, h3, hn⟩ := h.c3
  exact ⟨hg.cell h.c0 (by simpa using hne _ _ _ h.c0), hg.cell h.c1 (by simpa using hne _ _ _ h.c1), hg.cell h.c2 (by simpa using hne _ _ _ h.c2), v, hg.cell h3 (by simpa using hne _ _ _ h3), hn.out hg hne⟩
theorem LW.ne {X w : World} {d bk K : Nat} {l : List E3} (h : LW X d bk K l w) : ∀ g o x, w.cell? ⟨g, o, none⟩ = some x → g ≠ bk := fun _ _ _ hc => h.dir.cellNe hc
theorem RB.mk' {w : World} {r : Rep} {v : Value} (T : TypeId) (h : Nms w v r.names) : RB w.heap.size r (w.alloc (.cells #[.int .i64 r.err, .string r.val, .int .i64 r.ver, v] T)) := by
  refine ⟨?_, ?_, ?_, v, ?_, h.below ((Below.refl _ _).alloc (Nat.le_refl _) _)⟩ <;> simp [new_cell]
theorem RB.step {g : Nat} {r : Rep} {X W w' : World} {d bk K : Nat} {l : List E3} (h : RB g r W) (hL : LW X d bk K l W) (hg : W.grownBy w' (some bk)) : RB g r w' := h.out hg hL.ne
theorem LW.box {X w : World} {d bk K : Nat} {l : List E3} (h : LW X d bk K l w) (cs : Array Value) (T : TypeId) : LW X d bk K l (w.alloc (.cells cs T)) := h.on ((Below.refl _ _).alloc (Nat.le_refl _) _)
theorem RB.box {g : Nat} {r : Rep} {w : World} (h : RB g r w) (cs : Array Value) (T : TypeId) : RB g r (w.alloc (.cells cs T)) := h.on ((Below.refl _ _).alloc (Nat.le_refl _) _)
theorem LW.mono {X w : World} {d bk K K2 : Nat} {l : List E3} (h : LW X d bk K l w) (hK : K ≤ K2) : LW X d bk K2 l w :=
  ⟨h.dir.mono hK, h.ml, h.below, h.lo, h.right, fun e he => by have := h.ver e he; exact ⟨this.1, by omega⟩⟩
theorem LW.len {X w : World} {d bk K : Nat} {l : List E3} (h : LW X d bk K l w) : l.length ≤ K := by
  obtain ⟨D, m, hm, hM, hI⟩ := h.dir.map
  rw [← hI.size]
  exact Nat.le_trans hM.size_le hm
theorem gt_ver {l : List E3} {K : Nat} (hr : RisesD l) (hv : verB K l) (p u : ByteArray) (q : Int) : 0 ≤ (appD l 4 p u q).1.ver ∧ (appD l 4 p u q).1.ver ≤ (K : Int) := by
  have key : 0 ≤ ((fndD l p).getD zH).2 ∧ ((fndD l p).getD zH).2 ≤ (K : Int) := by
    cases h : fndD l p with
    | none => exact ⟨by simp, by simp⟩
    | some x => exact hv _ ((fndD_some (v := x.1) (n := x.2) hr).1 h)
  unfold appD
  cases rgt 4 p u with
  | false => exact ⟨by simp [bad], by simp [bad]⟩
  | true =>
    simp [gtD]
    split
    · exact key
    · exact ⟨by simp [bad], by simp [bad]⟩
/-- A box that holds a command. -/
structure CB (g : Nat) (t : Cm) (w : World) : Prop where
  c0 : w.cell? ⟨g, 0, none⟩ = some (.int .i64 t.cl)
  c1 : w.cell? ⟨g, 1, none⟩ = some (.int .i64 t.sq)
  c2 : w.cell? ⟨g, 2, none⟩ = some (.int .i64 t.op)
  c3 : w.cell? ⟨g, 3, none⟩ = some (.string t.pa)
  c4 : w.cell? ⟨g, 4, none⟩ = some (.string t.va)
  c5 : w.cell? ⟨g, 5, none⟩ = some (.int .i64 t.ver)
  c6 : w.cell? ⟨g, 6, none⟩ = some (.int .i64 t.a)
  c7 : w.cell? ⟨g, 7, none⟩ = some (.int .i64 t.b)
theorem CB.mk' (t : Cm) (w : World) (T : TypeId) : CB w.heap.size t (w.alloc (.cells #[.int .i64 t.cl, .int .i64 t.sq, .int .i64 t.op, .string t.pa, .string t.va, .int .i64 t.ver, .int .i64 t.a, .int .i64 t.b] T)) := by
  constructor <;> simp [new_cell]
theorem CB.lt {g : Nat} {t : Cm} {w : World} (h : CB g t w) : g < w.heap.size := World.block_lt_of_cell? w _ h.c0
theorem CB.low {g : Nat} {t : Cm} {w w' : World} (h : CB g t w) (hb : Below w.heap.size w w') : CB g t w' := by
  have hl := h.lt
  exact ⟨(hb.cell (p := ⟨g, 0, none⟩) hl).trans h.c0, (hb.cell (p := ⟨g, 1, none⟩) hl).trans h.c1, (hb.cell (p := ⟨g, 2, none⟩) hl).trans h.c2, (hb.cell (p := ⟨g, 3, none⟩) hl).trans h.c3, (hb.cell (p := ⟨g, 4, none⟩) hl).trans h.c4, (hb.cell (p := ⟨g, 5, none⟩) hl).trans h.c5, (hb.cell (p := ⟨g, 6, none⟩) hl).trans h.c6, (hb.cell (p := ⟨g, 7, none⟩) hl).trans h.c7⟩
theorem CB.out {g : Nat} {t : Cm} {w w' : World} {bk : Nat} (h : CB g t w) (hg : w.grownBy w' (some bk)) (hne : ∀ g o x, w.cell? ⟨g, o, none⟩ = some x → g ≠ bk) : CB g t w' :=
  ⟨hg.cell h.c0 (by simpa using hne _ _ _ h.c0), hg.cell h.c1 (by simpa using hne _ _ _ h.c0), hg.cell h.c2 (by simpa using hne _ _ _ h.c0), hg.cell h.c3 (by simpa using hne _ _ _ h.c0), hg.cell h.c4 (by simpa using hne _ _ _ h.c0), hg.cell h.c5 (by simpa using hne _ _ _ h.c0), hg.cell h.c6 (by simpa using hne _ _ _ h.c0), hg.cell h.c7 (by simpa using hne _ _ _ h.c0)⟩
theorem Knd.Rd.out {P : Program} {α : Type} {K : Knd P α} {w w' : World} {v : Value} {l : List α} {bk : Nat} (h : K.Rd w v l) (hg : w.grownBy w' (some bk)) (hne : ∀ g o x, w.cell? ⟨g, o, none⟩ = some x → g ≠ bk) : K.Rd w' v l := by
  obtain ⟨a, c, e, h1, h2, h3⟩ := h
  refine ⟨a, c, e, h1, h2, ?_⟩
  rcases h3 with h3 | ⟨g, off, ha, hl, hc⟩
  · exact .inl h3
  · exact .inr ⟨g, off, ha, Nat.lt_of_lt_of_le hl hg.size, fun t u hu => by
      have := hc t u hu
      exact hg.cell this (by simpa using hne _ _ _ this)⟩
set_option maxRecDepth 100000 in
set_option maxHeartbeats 2000000 in
theorem same_any (r : Rep) (va vb : Value) (w : World) (ha : Nms w va r.names) (hb : Nms w vb r.names) :
    Calls Tryz.prog 12 #[repV r va, repV r vb] w fun e w' => e = .returned (.bool true) ∧ Below w.heap.size w w' := by
  obtain ⟨a, v, n, ns⟩ := r
  obtain ⟨a1, c1, rfl, s1⟩ := ha
  obtain ⟨a2, c2, rfl, s2⟩ := hb
  simp only at s1 s2 ⊢
  obtain ⟨N, hN⟩ : ∃ N, ns.length = N := ⟨_, rfl⟩
  rw [hN]
  have hn1 : (N : Int) ≤ 9223372036854775807 := by have := s1.1; omega
  have HN := Lib.hid hN
  obtain ⟨X, hX⟩ : ∃ X, (w.alloc (.cells #[.int .i64 a, .string v, .int .i64 n, .slice a1 N c1] 36)).alloc (.cells #[.int .i64 a, .string v, .int .i64 n, .slice a2 N c2] 36) = X := ⟨_, rfl⟩
  have hB : Below w.heap.size w X := by rw [← hX]; exact ((Below.refl _ _).alloc (Nat.le_refl _) _).alloc (by simp) _
  have hcs : (∀ j, X.cell? ⟨w.heap.size, j, none⟩ = #[Value.int .i64 a, .string v, .int .i64 n, .slice a1 N c1][j]?) ∧ (∀ j, X.cell? ⟨w.heap.size + 1, j, none⟩ = #[Value.int .i64 a, .string v, .int .i64 n, .slice a2 N c2][j]?) := by rw [← hX]; exact two_cells _ _ _ _ _
  have k0 := hcs.1 0
  have k1 := hcs.1 1
  have k2 := hcs.1 2
  have k3 := hcs.1 3
  have l0 := hcs.2 0
  have l1 := hcs.2 1
  have l2 := hcs.2 2
  have l3 := hcs.2 3
  simp only [List.getElem?_toArray, List.getElem?_cons_zero, List.getElem?_cons_succ] at k0 k1 k2 k3 l0 l1 l2 l3
  have HB := Lib.hid hB
  have HS1 := Lib.hid (s1.below hB)
  have HS2 := Lib.hid (s2.below hB)
  have q1 : (v.toList == v.toList) = true := by simp
  have g1 : (a == a) = true := by simp
  have g2 : (a != a) = false := by simp
  have g3 : (n == n) = true := by simp
  have g4 : (n != n) = false := by simp
  have q2 : (v.toList != v.toList) = false := by simp
  have HZ : Hid (w.heap.size + 1 < X.heap.size) := Lib.hid (World.block_lt_of_cell? X _ l0)
  clear s1 s2 hN hcs hB
  go_enter Tryz.func12, Tryz.ntmps12
  go_wp2_with fail
  have K3 := Lib.hid k3
  have L3 := Lib.hid l3
  clear k0 k1 k2 k3 l0 l1 l2 l3 q1 q2 g1 g2 g3 g4 hX
  go_loopw [5] (fun i wr => ∃ k : Nat, k ≤ N ∧ i = .int .i64 k ∧ Hid (Below X.heap.size X wr)) (fun i _ => N - (intOf i).toNat)
  case atStart => exact ⟨0, Nat.zero_le _, rfl, Lib.hid (Below.refl _ _)⟩
  case round =>
    obtain ⟨k, hk, rfl, hBl⟩ := hrel
    have k3 := (hBl.out.cell (p := ⟨w.heap.size, 3, none⟩) (by have := HZ.out; show w.heap.size < _; omega)).trans K3.out
    have l3 := (hBl.out.cell (p := ⟨w.heap.size + 1, 3, none⟩) HZ.out).trans L3.out
    by_cases hlt : k < N
    · have hlt' : (k : Int) < (N : Int) := by omega
      obtain ⟨g2, off2, hda, hg2, q1⟩ := (HS1.out.below hBl.out).cell k (by rw [HN.out]; exact hlt)
      obtain ⟨g3, off3, hdb, hg3, p1⟩ := (HS2.out.below hBl.out).cell k (by rw [HN.out]; exact hlt)
      obtain ⟨u, hu⟩ : ∃ u, ns.getD k ByteArray.empty = u := ⟨_, rfl⟩
      rw [hu] at q1 p1
      have e1 : (u.toList == u.toList) = true := by simp
      have e2 : (u.toList != u.toList) = false := by simp
      subst hda
      subst hdb
      clear hu
      go_wp2_with fail
      go_quiet (fail)
      go_wp2
      go_roundw
      case rel => exact ⟨k + 1, by omega, by go_num, Lib.hid (below_drewN_q hBl.out _)⟩
      case measure => simp [intOf]; omega
    · have hlt' : ¬ (k : Int) < (N : Int) := by omega
      go_wp2
      go_ret
      exact ⟨rfl, HB.out.trans (hBl.out.mono HB.out.size)⟩
end Go.Proofs.YtodcmhmankmaoaaGreat
