/-
  The walks of package touch: what a command reads.
-/
import Derived.Test.YtphddigohmdbnaaTchC
import Derived.Deep.RegionHeld3
namespace Go.Proofs.Ytphddigohmdbnaa
open Go.RowKit
set_option linter.unusedSimpArgs false
set_option linter.unusedVariables false

theorem bcell {W w1 : World} (hb : Below W.heap.size W w1) : (∀ b o, b < W.heap.size → w1.cell? ⟨b, o, none⟩ = W.cell? ⟨b, o, none⟩) ∧ (∀ b o, b < W.heap.size → w1.frozen? ⟨b, o, none⟩ = W.frozen? ⟨b, o, none⟩) :=
  ⟨fun b o h => hb.cell (p := ⟨b, o, none⟩) h, fun b o h => hb.frozen (p := ⟨b, o, none⟩) h⟩
theorem step_value {P : Program} {ops : Array Oper} {o : Oper} {a : Act} {w : World} {K : Act → World → Prop} {Q : Exit → Act → World → Prop} {E : Prop} (hg : o.guard = none) (v : Value) (w' : World)
    (hr : (execOp a.eval o).run P w = .ok (.value v) w') (h : K (a.put o.dst v) w') : if Region.wanted o (yielded ops a.tmps) = true then Oper.wp P o a w K Q else E := by
  have hw : Region.wanted o (yielded ops a.tmps) = true := by simp [Region.wanted, hg]
  rw [if_pos hw]
  unfold Oper.wp
  rw [hr]
  exact h
theorem step_app2 {ops : Array Oper} {o : Oper} {a : Act} {w : World} {K : Act → World → Prop} {Q : Exit → Act → World → Prop} {E : Prop} (hg : o.guard = none) (s x : Operand) (ho : o.op = .call { callee := .builtin .append, args := #[s, x], argTypes := #[32, 32] })
    (base : Nat) (v : Value) (l : List Cl) (hs : a.eval s = v) (hown : Own2 w base v l) (g c n : Nat) (ks : List Cl) (hn : ks.length = n) (hx : a.eval x = .slice (some ⟨g, 0, none⟩) n c) (hcl : ∀ (j : Nat) (u : Value), (vcs ks)[j]? = some u → w.cell? ⟨g, j, none⟩ = some u)
    (hl : l.length + ks.length ≤ 1000000) (hbase : base ≤ w.heap.size)
    (hK : ∀ v' w', Own2 w' base v' (l ++ ks) → Below base w w' → w.heap.size ≤ w'.heap.size → K (a.put o.dst v') w') :
    if Region.wanted o (yielded ops a.tmps) = true then Oper.wp Try.prog o a w K Q else E := by
  subst hn
  obtain ⟨v', w', hr, q1, q2, q3⟩ := run_app2 hown g c ks hcl hl hbase o.type
  refine step_value hg v' w' ?_ (hK v' w' q1 q2 q3)
  unfold execOp
  simp only [ho, resolve, invoke, builtin, Sem.run_bind, Sem.run_pure, Result.andThen_ok, List.map_toArray, List.map_cons, List.map_nil, hs, hx, hr]
/-- A command in a box. -/
abbrev cbox (w : World) (cl sq op : Int) (pa va : ByteArray) (ver ca cb : Int) : World := w.alloc (.cells #[.int .i64 cl, .int .i64 sq, .int .i64 op, .string pa, .string va, .int .i64 ver, .int .i64 ca, .int .i64 cb] 24)
abbrev cval (cl sq op : Int) (pa va : ByteArray) (ver ca cb : Int) : Value := .agg #[.int .i64 cl, .int .i64 sq, .int .i64 op, .string pa, .string va, .int .i64 ver, .int .i64 ca, .int .i64 cb]
theorem root_pth : rt = { data := #[47] } := rfl
theorem keepT {w1 w' : World} {b o : Nat} {x : Value} (hc : w1.cell? ⟨b, o, none⟩ = some x) (hb : b < w1.heap.size) (hB : Below w1.heap.size w1 w') : w'.cell? ⟨b, o, none⟩ = some x ∧ Below w1.heap.size w1 w' :=
  ⟨(hB.cell (p := ⟨b, o, none⟩) hb).trans hc, hB⟩
theorem rds_none {op : Int} {p : ByteArray} (h : vld p = false) : rds op p = [] := by unfold rds; rw [if_pos h]
set_option maxHeartbeats 2000000 in
theorem reads_no (cl sq op : Int) (pa va : ByteArray) (ver ca cb : Int) (w : World) (hp : pa.size ≤ 1000) (hm : ML w) (hv : vld pa = false) :
    Calls Try.prog 12 #[.agg #[.int .i64 cl, .int .i64 sq, .int .i64 op, .string pa, .string va, .int .i64 ver, .int .i64 ca, .int .i64 cb]] w (ClP (rds op pa) w) := by
  have hM1 : ML (cbox w cl sq op pa va ver ca cb) := hm.below ((Below.refl _ _).alloc (Nat.le_refl _) _)
  have cV := valid_any pa _ hp hM1
  rw [hv] at cV
  rw [rds_none hv]
  clear hm hM1 hp hv
  go_enter Try.func12, Try.ntmps12
  go_wp2_with (go_at_call 27; refine cV.mono ?_; rintro e w1 ⟨rfl, hb⟩; have HB := Lib.hid hb; clear hb)
  go_ret
  exact ⟨_, rfl, Own2.nil _ _, ((Below.refl _ _).alloc (Nat.le_refl _) _).trans (HB.out.mono (by simp))⟩
end Go.Proofs.Ytphddigohmdbnaa
