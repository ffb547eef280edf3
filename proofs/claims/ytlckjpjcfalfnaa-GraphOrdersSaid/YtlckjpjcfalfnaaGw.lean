/-
  Graph: webOf, Valid.
-/
import Derived.Test.YtlckjpjcfalfnaaGn
import Derived.Deep.MidRow
import Derived.Deep.CutBlock
import Derived.WalkKit
namespace Go.Proofs.Ytlckjpjcfalfnaa
open Go.RowKit Go.Sort
open Go.WideMaps
set_option linter.unusedSimpArgs false
set_option linter.unusedVariables false
set_option maxRecDepth 100000

theorem Bk.newAg {w : World} {g : Nat} (hg : w.heap.size = g) (T : TypeId) (cs : List Value) : Bk (w.alloc (.cells cs.toArray T)) g T cs := by subst hg; exact Bk.new w T cs
section
variable {P : Program} {ops : Array Oper} {rest : List Oper} {o : Oper} {a : Act} {w : World} {Q : Exit → Act → World → Prop}
theorem wpList_load_rowGg (hw : Region.wanted o (yielded ops a.tmps) = true) (ty : TypeId) (x : Operand) (ho : o.op = .load ty x) (g : Nat) (hx : a.eval x = .pointer (some ⟨g, 0, none⟩)) (t : TypeId) (cs : Array Value) (fr : Nat × Nat) (d : TypeDesc) (hg : w.heap[g]? = some (.cells cs t fr))
    (hu : P.underlying ty = some d) (hd : (match d with | .struct _ | .array _ _ => true | _ => false) = true) (hi : (P.info? ty).map (·.size) = some cs.size)
    (h : wpList P ops Q rest (a.put o.dst (.agg cs)) w) : wpList P ops Q (o :: rest) a w := by
  refine wpList_value hw (.agg cs) w ?_ h
  unfold execOp
  simp only [ho, hx, Instr.loadAt, Instr.sureAddr, Sem.run_bind, Sem.run_pure, Result.andThen_ok, run_loadVar_row w g t ty cs fr d hg hu hd hi]
end
theorem Knd.Own.setA {P : Program} {α : Type} {K : Knd P α} {w : World} {base : Nat} {v : Value} {l : List α} (h : K.Own w base v l) {b : Nat} (hb : b < base) (o : Nat) (u : Value) : K.Own (w.setCell ⟨b, o, none⟩ u) base v l :=
  h.keepB fun k hk => Below.heap_setCell _ _ _ k (by have := h.from k hk; show k ≠ b; omega)
theorem Knd.Own.outA {P : Program} {α : Type} {K : Knd P α} {w w' : World} {base bk : Nat} {v : Value} {l : List α} (h : K.Own w base v l) (hg : w.grownBy w' (some bk)) (hne : ∀ g cs T fr, w.heap[g]? = some (.cells cs T fr) → g ≠ bk) : K.Own w' base v l :=
  h.keepB fun k hk => by
    obtain ⟨hlt, cs, fr, hc⟩ := h.blk k hk
    exact hg.block k hlt (by have := hne k cs _ fr hc; simpa using this)
abbrev ndC (n : NV) : List Value := ndE n.d (.slice n.a n.d.dl.length n.c)
/-- A row of nodes. -/
structure NRow (W : World) (v : Value) (nv : List NV) : Prop where
  el : ∃ a c, v = .slice a nv.length c ∧ nv.length ≤ maxLen ∧ ∀ (j : Nat) (hj : j < nv.length), ∃ g off, a = some ⟨g, off, none⟩ ∧ g < W.heap.size ∧ W.rangeAt g (off + j * 5) (ndC nv[j])
  ok : ∀ n ∈ nv, n.Ok W
theorem NV.Ok.below {W W' : World} {n : NV} (h : n.Ok W) (hb : Below W.heap.size W W') : n.Ok W' := ⟨h.1, h.2.1, h.2.2.below hb⟩
theorem NRow.below {W W' : World} {v : Value} {nv : List NV} (h : NRow W v nv) (hb : Below W.heap.size W W') : NRow W' v nv := by
  obtain ⟨a, c, h1, h2, h3⟩ := h.el
  refine ⟨⟨a, c, h1, h2, fun j hj => ?_⟩, fun n hn => (h.ok n hn).below hb⟩
  obtain ⟨g, off, e1, e2, e3⟩ := h3 j hj
  exact ⟨g, off, e1, Nat.lt_of_lt_of_le e2 hb.size, fun i u hu => (hb.cell (p := ⟨g, off + j * 5 + i, none⟩) e2).trans (e3 i u hu)⟩
theorem nrow_of {W : World} {v : Value} {rs : List (Cls 5)} {l : List Nd} (h : RowIs NK ndS W v rs l) : ∃ nv : List NV, nv.map (·.d) = l ∧ NRow W v nv := by
  have key : ∀ j : Fin l.length, ∃ n : NV, n.d = l[j] ∧ n.Ok W ∧ ∀ hj : j.1 < rs.length, rs[j.1].cs = ndC n := by
    intro j
    have hj : j.1 < rs.length := by rw [h.len]; exact j.2
    obtain ⟨u, h1, h2, h3, h4⟩ := h.at' j.1 hj j.2
    obtain ⟨a, c, hu⟩ := h3.slice
    subst hu
    exact ⟨⟨l[j], a, c⟩, rfl, ⟨h2, h4, h3⟩, fun _ => h1⟩
  have key2 := fun j => Classical.choose_spec (key j)
  refine ⟨List.ofFn fun j => Classical.choose (key j), ?_, ?_⟩
  · rw [List.map_ofFn]
    refine List.ext_getElem (by simp) fun j h1 h2 => ?_
    simp only [List.getElem_ofFn, Function.comp]
    exact (key2 ⟨j, h2⟩).1
  · obtain ⟨a, c, hv⟩ := h.rd.slice
    refine ⟨⟨a, c, by rw [hv]; exact congrArg (fun n => Value.slice a n c) (h.len.trans (by simp)), by have := h.rd.len; rw [h.len] at this; simpa using this, fun j hj => ?_⟩, fun n hn => ?_⟩
    · have hjl : j < l.length := by simpa using hj
      subst hv
      obtain ⟨-, hlk, g, off, cs, ha, hg, hcs, hc⟩ := h.el rfl j (by rw [h.len]; exact hjl)
      have eK : NK.k = 5 := rfl
      rw [eK] at hc
      refine ⟨g, off, ha, hg, fun i u hu => ?_⟩
      rw [List.getElem_ofFn] at hu
      obtain ⟨u', e1, e2, e3, e4⟩ := hcs
      have hj : j < rs.length := by rw [h.len]; exact hjl
      have q := (key2 ⟨j, hjl⟩).2.2 hj
      obtain ⟨_, g', off', ha', _, hc'⟩ := h.rd.at (by intro e; rw [e] at hj; simp at hj)
      rw [ha] at ha'
      obtain ⟨rfl, rfl⟩ : g = g' ∧ off = off' := by simpa using ha'
      have e5 : rs.getD j NK.d = rs[j] := by simp [List.getD, hj]
      have := hc' j hj i u (by rw [e5]; show rs[j].cs[i]? = some u; rw [q]; exact hu)
      rwa [eK] at this
    · obtain ⟨j, hj, rfl⟩ := List.mem_iff_getElem.1 hn
      rw [List.getElem_ofFn]
      exact (key2 ⟨j, by simpa using hj⟩).2.1
def WebP (W0 : World) (nv : List NV) (w : World) (e : Ending) (w' : World) : Prop := ∃ b, Hid (e = .returned (.agg #[.map (some b)])) ∧ MV ndV w' b (webL nv) ∧ w.heap.size ≤ b ∧ Below w.heap.size w w'
set_option maxHeartbeats 4000000 in
theorem webOf_any {w : World} {v : Value} {nv : List NV} (h : NRow w v nv) (hl : nv.length ≤ 100000) : Calls Try.prog 28 #[v] w (WebP w nv w) := by
  have hmm := @run_makeMap Try.prog
  obtain ⟨a, c, hv, hlen, hel⟩ := h.el
  subst hv
  have HEl := Lib.hid hel
  have HOk := Lib.hid h.ok
  obtain ⟨N, hN⟩ : ∃ N, nv.length = N := ⟨_, rfl⟩
  have HN := Lib.hid hN
  rw [hN] at hl ⊢
  clear h hlen hel hN
  go_enter Try.func28, Try.ntmps28
  go_wp2_with fail
  obtain ⟨X0, hX0⟩ : ∃ X0, ((w.alloc (.cells #[.map none] 55)).alloc (.map #[] 0)).alloc (.cells #[.map (some (w.heap.size + 1))] 55) = X0 := ⟨_, rfl⟩
  have hm0 : MV ndV ((w.alloc (.cells #[.map none] 55)).alloc (.map #[] 0)) (w.heap.size + 1) [] := by
    have q := MV.made ndV (w.alloc (.cells #[.map none] 55))
    rwa [World.size_alloc] at q
  have HB0 : Hid (Bk X0 w.heap.size 55 [.map none]) := Lib.hid (by rw [← hX0]; exact ((Bk.new w _ [.map none]).old _).old _)
  have HB2 : Hid (Bk X0 (w.heap.size + 1 + 1) 55 [.map (some (w.heap.size + 1))]) := Lib.hid (by
    rw [← hX0]
    have q := Bk.new ((w.alloc (.cells #[.map none] 55)).alloc (.map #[] 0)) 55 [.map (some (w.heap.size + 1))]
    rwa [World.size_alloc, World.size_alloc] at q)
  have HM0 : Hid (MV ndV X0 (w.heap.size + 1) (webL (nv.take 0))) := Lib.hid (by
    rw [← hX0, List.take_zero]
    exact hm0.below ((Below.refl _ _).alloc (Nat.le_refl _) _))
  have HX0 : Hid (Below w.heap.size w X0) := Lib.hid (by rw [← hX0]; exact (((Below.refl _ _).alloc (Nat.le_refl _) _).alloc (by simp) _).alloc (by simp <;> omega) _)
  rw [hX0]
  clear hX0 hm0 hmm
  go_loopw [10] (fun i wr => ∃ k : Nat, k ≤ N ∧ i = .int .i64 k ∧ Hid (Bk wr w.heap.size 55 [.map none]) ∧ Hid (Bk wr (w.heap.size + 1 + 1) 55 [.map (some (w.heap.size + 1))]) ∧ Hid (MV ndV wr (w.heap.size + 1) (webL (nv.take k))) ∧ Hid (Below w.heap.size w wr)) (fun i _ => N - (intOf i).toNat)
  case atStart => exact ⟨0, Nat.zero_le _, rfl, HB0, HB2, HM0, HX0⟩
  case round =>
    clear HB0 HB2 HM0 HX0
    obtain ⟨k, hk, rfl, HB0, HB2, HM, HX⟩ := hrel
    by_cases hlt : k < N
    · have hk1 : (k : Int) < (N : Int) := by omega
      have hk2 : decide ((k : Int) < (N : Int)) = true := decide_eq_true hk1
      have hk3 : decide (k < N) = true := decide_eq_true hlt
      have hkl : k < nv.length := by rw [HN.out]; exact hlt
      obtain ⟨g, off, ha, hg, hc⟩ := HEl.out k hkl
      subst ha
      have HSn : Hid (webL (nv.take (k + 1)) = putV (webL (nv.take k)) nv[k].d.id nv[k]) := Lib.hid (by rw [List.take_succ_eq_append_getElem hkl, webL_snoc])
      have hok := (HOk.out _ (List.getElem_mem hkl)).1
      have hlw : Hid ((webL (nv.take k)).length < maxLen) := Lib.hid (by have q := webL_len (nv.take k); rw [List.length_take] at q; unfold maxLen; omega)
      obtain ⟨x, hx⟩ : ∃ x, nv[k] = x := ⟨_, rfl⟩
      rw [hx] at HSn hok hc
      obtain ⟨⟨⟨i1, i2, i3⟩, sq, dl⟩, na, nc⟩ := x
      obtain ⟨D, hD⟩ : ∃ D, dl.length = D := ⟨_, rfl⟩
      have HEn : Hid (ndV ⟨⟨(i1, i2, i3), sq, dl⟩, na, nc⟩ = .agg #[.int .i64 i1, .int .i64 i2, .int .i64 i3, .int .i64 sq, .slice na D nc]) := Lib.hid (by simp only [ndV, hD])
      simp only [ndC, ndE, idE, hD, List.cons_append, List.nil_append] at hc
      have HRG : Hid (wr.rangeAt g (off + k * 5) [.int .i64 i1, .int .i64 i2, .int .i64 i3, .int .i64 sq, .slice na D nc]) := Lib.hid fun j v hv => (HX.out.cell (p := ⟨g, off + k * 5 + j, none⟩) hg).trans (hc j v hv)
      have HI5 : Hid ((Try.prog.info? 46).map (·.size) = some ([.int .i64 i1, .int .i64 i2, .int .i64 i3, .int .i64 sq, .slice na D nc] : List Value).length) := Lib.hid (by kernel_rfl)
      obtain ⟨bn, hbn⟩ : ∃ q, wr.heap.size = q := ⟨_, rfl⟩
      obtain ⟨wf, hwf⟩ : ∃ q, wr.alloc (.cells #[.int .i64 i1, .int .i64 i2, .int .i64 i3, .int .i64 sq, .slice na D nc] 46) = q := ⟨_, rfl⟩
      have HBn : Hid (Bk wf bn 46 [.int .i64 i1, .int .i64 i2, .int .i64 i3, .int .i64 sq, .slice na D nc]) := Lib.hid (by rw [← hwf]; exact Bk.newAg hbn _ [.int .i64 i1, .int .i64 i2, .int .i64 i3, .int .i64 sq, .slice na D nc])
      have hb : Below wr.heap.size wr wf := by rw [← hwf]; exact (Below.refl _ _).alloc (Nat.le_refl _) _
      have HM' := Lib.hid (HM.out.below hb)
      have HB0' := Lib.hid (Bk.below HB0.out hb)
      have HB2' := Lib.hid (Bk.below HB2.out hb)
      have HX' := Lib.hid (HX.out.trans (hb.mono HX.out.size))
      have HOK := Lib.hid hok
      clear hc hg hx hD hok hb HM HB0 HB2 HX
      go_upto_region 5 with (first | refine wpList_load_mid rfl _ _ rfl g (off + k * 5) rfl _ _ HRG.out Try.underlying46 rfl HI5.out ?_ | fail)
      try rw [hwf]
      try rw [hbn]
      clear hwf hbn HRG HI5 hkl
      have c0 := Bk.cell HB2'.out 0
      have n0 := Bk.cell HBn.out 0
      have n1 := Bk.cell HBn.out 1
      have n2 := Bk.cell HBn.out 2
      simp only [List.getElem?_cons_zero, List.getElem?_cons_succ] at c0 n0 n1 n2
      go_wp2_with (first
        | refine wpList_load_rowGg rfl _ _ rfl bn rfl 46 _ (0, 0) _ HBn.out Try.underlying46 rfl (by kernel_rfl) ?_
        | refine wpList_put_mv rfl _ _ _ 53 rfl 46 Try.underlying53 ndV (w.heap.size + 1) _ rfl HM'.out hlw.out (i1, i2, i3) ⟨⟨(i1, i2, i3), sq, dl⟩, na, nc⟩ rfl HOK.out HEn.out.symm ?_
        | fail)
      intro w9 hm9 ht9
      have hne : ∀ k cs T fr, wf.heap[k]? = some (.cells cs T fr) → k ≠ w.heap.size + 1 := HM'.out.blkNe
      have hg9 := ht9.grown
      have HB0n := Lib.hid (HB0'.out.grown hg9 (by have := hne _ _ _ _ HB0'.out; simp))
      have HB2n := Lib.hid (HB2'.out.grown hg9 (by simp))
      have HX9 : Hid (Below w.heap.size w w9) := Lib.hid (HX'.out.grown hg9 HX'.out.size (fun k e => by cases e; omega))
      have HM9 : Hid (MV ndV w9 (w.heap.size + 1) (webL (nv.take (k + 1)))) := Lib.hid (by rw [HSn.out]; exact hm9)
      clear hm9 ht9 hne hg9 HB0' HB2' HX' HM' c0 n0 n1 n2 HBn HEn
      go_wp2_with fail
      go_roundw
      case rel => exact ⟨k + 1, by omega, by go_num, HB0n, HB2n, HM9, HX9⟩
      case measure => simp [intOf]; omega
    · have e : N = k := by omega
      subst e
      have hk2 : decide ((N : Int) < (N : Int)) = false := decide_eq_false (by omega)
      have hk3 : decide (N < N) = false := decide_eq_false (by omega)
      have c0 := Bk.cell HB2.out 0
      have c1 := Bk.cell HB0.out 0
      have f0 := HB0.out.fz 0
      simp only [List.getElem?_cons_zero, List.getElem?_cons_succ] at c0 c1
      have HMf : Hid (MV ndV wr (w.heap.size + 1) (webL nv)) := Lib.hid (by have h := HM.out; rwa [List.take_of_length_le (by rw [HN.out]; exact Nat.le_refl _)] at h)
      obtain ⟨V, hV⟩ : ∃ V, wr.setCell ⟨w.heap.size, 0, none⟩ (.map (some (w.heap.size + 1))) = V := ⟨_, rfl⟩
      have HBV : Hid (Bk V w.heap.size 55 [.map (some (w.heap.size + 1))]) := Lib.hid (by rw [← hV]; exact HB0.out.set 0 _)
      have HMV : Hid (MV ndV V (w.heap.size + 1) (webL nv)) := Lib.hid (by rw [← hV]; exact HMf.out.setCell (by simp) _)
      have HXV : Hid (Below w.heap.size w V) := Lib.hid (by rw [← hV]; exact HX.out.setCell (Nat.le_refl _) _)
      have hlv := run_loadVar_row (P := Try.prog) V w.heap.size 55 55 #[.map (some (w.heap.size + 1))] (0, 0) _ HBV.out Try.underlying55 rfl (by kernel_rfl)
      clear HM HMf HX HB2 HB0
      go_wp2
      try rw [hV]
      clear c0 c1 f0 hV
      exact bodyPost_ret (v := .agg #[.map (some (w.heap.size + 1))]) (by simp [results, Try.results28, asAddr, Act.put, hlv]) rfl ⟨_, Lib.hid rfl, HMV.out, Nat.le_succ _, HXV.out⟩
theorem field_web (b : Nat) (w : World) : Sem.run Try.prog (Instr.field 55 (.agg #[.map (some b)]) 0) w = .ok (.map (some b)) w := by kernel_rfl
set_option maxHeartbeats 2000000 in
theorem gvalid_any {w : World} {v : Value} {nv : List NV} (h : NRow w v nv) (hl : nv.length ≤ 100000) : Calls Try.prog 16 #[v] w fun e w' => e = .returned (.bool (decide (nv.length ≤ 1024 ∧ (nv.map (·.d.id)).Nodup))) ∧ Below w.heap.size w w' := by
  have HW := Lib.hid (webOf_any h hl)
  obtain ⟨a, c, hv, hlen, _⟩ := h.el
  subst hv
  have hfu := webL_full nv
  have hfl := webL_len nv
  obtain ⟨N, hN⟩ : ∃ N, nv.length = N := ⟨_, rfl⟩
  obtain ⟨M, hM⟩ : ∃ M, (webL nv).length = M := ⟨_, rfl⟩
  have HMl := Lib.hid hM
  rw [hN] at HW hfu hl hfl ⊢
  rw [hM] at hfu hfl
  clear hN hM h hlen
  have hN63 : N ≤ 9223372036854775807 := by omega
  by_cases h1 : N ≤ 1024
  · have d1 : decide ((N : Int) ≤ 1024) = true := decide_eq_true (by omega)
    have d1n : decide (N ≤ 1024) = true := decide_eq_true h1
    obtain ⟨q, hq⟩ : ∃ q, decide (N ≤ 1024 ∧ (nv.map (·.d.id)).Nodup) = q := ⟨_, rfl⟩
    rw [hq]
    have hqq : ((M : Int) == (N : Int)) = q := by
      rw [← hq]
      by_cases e : M = N
      · rw [decide_eq_true ⟨h1, hfu.1 e⟩]; exact beq_iff_eq.2 (by omega)
      · rw [decide_eq_false (fun r => e (hfu.2 r.2))]; exact beq_eq_false_iff_ne.2 (by omega)
    have hqn : (M == N) = q := by rw [← hqq, Bool.eq_iff_iff, beq_iff_eq, beq_iff_eq]; omega
    have hqd : decide (M = N) = q := by rw [← hqn, Bool.eq_iff_iff, beq_iff_eq, decide_eq_true_eq]
    have hqi : decide ((M : Int) = (N : Int)) = q := by rw [← hqq, Bool.eq_iff_iff, beq_iff_eq, decide_eq_true_eq]
    clear hq hfu
    go_enter Try.func16, Try.ntmps16
    go_wp2_with fail
    refine HW.out.mono ?_
    rintro e w1 ⟨b, he, hm, -, hb⟩
    rw [he.out]
    have HM := Lib.hid hm
    have HB := Lib.hid hb
    have hfw := field_web b
    clear he hm hb HW
    go_wp2_with (first
      | refine wpList_len_mvG (by kernel_rfl) _ 53 rfl 46 Try.underlying53 ndV b _ rfl HM.out M HMl.out ?_
      | fail)
    go_ret
    exact ⟨rfl, HB.out⟩
  · have d1 : decide ((N : Int) ≤ 1024) = false := decide_eq_false (by omega)
    have d1n : decide (N ≤ 1024) = false := decide_eq_false h1
    rw [decide_eq_false (fun r => h1 r.1)]
    clear HW hfu
    go_enter Try.func16, Try.ntmps16
    go_wp2
    go_ret
    exact ⟨rfl, Below.refl _ _⟩
end Go.Proofs.Ytlckjpjcfalfnaa
