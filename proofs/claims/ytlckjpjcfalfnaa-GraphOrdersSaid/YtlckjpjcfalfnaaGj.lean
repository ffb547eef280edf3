/-
  Graph: keys of structs, collected: slices.AppendSeq, slices.Collect, maps.Keys.
-/
import Derived.Test.YtlckjpjcfalfnaaGw
import Derived.Test.YtlckjpjcfalfnaaRng
import Derived.Test.YtlckjpjcfalfnaaAcR
import Derived.TacticsInMore
import Derived.RegionIn
import Derived.LoopNIn
import Derived.LoopIn
namespace Go.Proofs.Ytlckjpjcfalfnaa
open Go.RowKit Go.Sort Go.Maps
open Go.WideMaps
set_option linter.unusedSimpArgs false
set_option linter.unusedVariables false
set_option maxRecDepth 100000
attribute [local go_sem] Oper.semAt_some

section
variable {F : Fence} {n : Nat} {P : Program} {α : Type} {ops : Array Oper} {rest : List Oper} {o : Oper} {a : Act} {w : World} {Q : Exit → Act → World → Prop}
/-- 'append(l, x...)', inside a fence. -/
theorem Knd.appIn (K : Knd P α) (hg : o.guard = none) (s x : Operand) (ho : o.op = .call { callee := .builtin .append, args := #[s, x], argTypes := #[K.S, K.S] })
    (base : Nat) (v : Value) (l : List α) (hs : a.eval s = v) (hown : K.Own w base v l) (vy : Value) (ks : List α) (hx : a.eval x = vy) (hks : K.Rd w vy ks)
    (hl : l.length + ks.length ≤ 1000000) (hbase : base ≤ w.heap.size)
    (h : ∀ v' w', K.Own w' base v' (l ++ ks) → Below base w w' → w.grownBy w' v.ownBlock → wpListIn F n P ops Q rest (a.put o.dst v') w') : wpListIn F n P ops Q (o :: rest) a w := by
  obtain ⟨v', w', hr, q1, q2, q3, q4⟩ := K.run_app hown vy ks hks (fun _ _ => trivial) hl hbase o.type
  refine wpListIn_plain hg fun k hk => ?_
  unfold Oper.wpIn
  refine ⟨?_, ?_⟩
  · simp [Oper.about, ho, resolve, Target.leads, Sem.run_pure]
  · rw [Oper.semAt_plain F _ _ (by rw [ho]; intro c hc'; cases hc')]
    simp [execOp, ho, resolve, invoke, builtin, hs, hx, hr, Result.andThen]
    exact hk _ _ (h v' w' q1 q2 q3)
end
theorem bk_grown {w w' : World} {b : Nat} {T : TypeId} {cs : List Value} {row : Option Nat} (h : Bk w b T cs) (hg : w.grownBy w' row) (hr : ∀ r, row = some r → ∃ o : Obj, w.heap[r]? = some o ∧ o.isCells = false) : Bk w' b T cs := by
  refine (hg.block b h.lt fun e => ?_).trans h
  obtain ⟨o, ho, hc⟩ := hr b e.symm
  rw [h] at ho
  cases ho
  cases hc
theorem own_grownC {w w' : World} {base : Nat} {v : Value} {l : List I3} {row : Option Nat} (h : IK.Own w base v l) (hg : w.grownBy w' row) (hr : ∀ r, row = some r → ∃ o : Obj, w.heap[r]? = some o ∧ o.isCells = false) : IK.Own w' base v l := by
  refine h.keepB fun k hk => ?_
  obtain ⟨hlt, cs, fr, hc⟩ := h.blk k hk
  refine hg.block k hlt fun e => ?_
  obtain ⟨o, ho, hn⟩ := hr k e.symm
  rw [hc] at ho
  cases ho
  cases hn
/-- What slices.AppendSeq keeps of its own between two rounds. -/
def ApI (w : World) (ss : List I3) (W : World) : Prop := ∃ v, Bk W w.heap.size 23 [v] ∧ IK.Own W (w.heap.size + 1) v ss ∧ Below w.heap.size w W ∧ w.heap.size + 1 ≤ W.heap.size
theorem apI_own (w : World) (B : Nat) (hB : w.heap.size ≤ B) : OwnFrom B (ApI w) := by
  rintro s W W' row ⟨v, h1, h2, h3, h4⟩ hg hr
  have hr2 : ∀ r, row = some r → ∃ o : Obj, W.heap[r]? = some o ∧ o.isCells = false := fun r e => (hr r e).2
  exact ⟨v, bk_grown h1 hg hr2, own_grownC h2 hg hr2, h3.grown hg h3.size (fun k e => Nat.le_trans hB (hr k e).1), Nat.le_trans h4 hg.size⟩
def ColP (S : List I3 → Prop) (w : World) (e : Ending) (w' : World) : Prop := ∃ v ss, Hid (e = .returned v) ∧ S ss ∧ IK.Own w' w.heap.size v ss ∧ Below w.heap.size w w'
set_option maxHeartbeats 4000000 in
theorem appSeqA {n N : Nat} (hn : 2 ≤ n) (gf : Nat) (lb : Array Value) (eg : ∀ args w, (callFunc gf args).run Try.prog w = .ok (.enter gf args) w) (S : List I3 → Prop) (hN : N ≤ 100000) (w : World)
    (hseq : SeqGives Fence.wide (n - 1) Try.prog gf lb idV S N w) : CallsIn Fence.wide n Try.prog 58 #[.slice none 0 0, .func (.func gf) #[] lb] w (ColP S w) := by
  refine callsIn_of_wp_marks Try.func58 rfl trivial ?_ rfl
  simp only [Try.ntmps58, List.size_toArray, List.length_cons, List.length_nil, Nat.reduceAdd, Nat.reduceSub, Array.replicate_succ, Array.replicate_zero, List.push_toArray, List.append_toArray, List.nil_append, List.cons_append]
  gi_wp2
  obtain ⟨W0, hW0⟩ : ∃ W0, w.alloc (.cells #[.slice none 0 0] 23) = W0 := ⟨_, rfl⟩
  have hz0 : W0.heap.size = w.heap.size + 1 := by rw [← hW0]; simp
  have hb0 : Below w.heap.size w W0 := by rw [← hW0]; exact (Below.refl _ _).alloc (Nat.le_refl _) _
  have hI0 : ApI w [] W0 := ⟨.slice none 0 0, by rw [← hW0]; exact Bk.new w _ _, Knd.Own.nil _ _, hb0, Nat.le_of_eq hz0.symm⟩
  rw [hW0]
  clear hW0
  refine wpIn_range_gives (F := Fence.wide) (P := Try.prog) rfl (by omega) (gf := gf) (lb := lb) rfl trivial eg (N := N) hseq hb0 rfl (ApI w) (apI_own w _ hb0.size) hI0
    (fun x W => { tmps := #[.slice none 0 0, .func (.func gf) #[] lb, .pointer (some ⟨w.heap.size, 0, none⟩), undef, .slice none 0 0, .pointer (some ⟨W.heap.size, 0, none⟩), .func (.func gf) #[] lb, idV x, undef, undef, undef, undef, undef], defers := [] })
    (fun x => .cells #[.int .i64 x.1, .int .i64 x.2.1, .int .i64 x.2.2] 25) ?assign (fun _ => rfl) ?body ?done
  case assign =>
    intro l x W K hK
    gi_wp2
    exact hK
  case body =>
    intro l pre x W W2 hI hp hzW hox
    obtain ⟨x1, x2, x3⟩ := x
    obtain ⟨v, hbx, ho, hb, hz2⟩ := hI
    have hbi : Bk W2 W.heap.size 25 [.int .i64 x1, .int .i64 x2, .int .i64 x3] := hox
    have c2 := hbx.cell 0
    have f2 := hbx.fz 0
    have d0 := hbi.cell 0
    have d1 := hbi.cell 1
    have d2 := hbi.cell 2
    simp only [List.getElem?_cons_zero, List.getElem?_cons_succ] at c2 d0 d1 d2
    obtain ⟨W3, hW3⟩ : ∃ W3, W2.alloc (.cells #[.int .i64 x1, .int .i64 x2, .int .i64 x3] 25) = W3 := ⟨_, rfl⟩
    have hb3 : Below W2.heap.size W2 W3 := by rw [← hW3]; exact (Below.refl _ _).alloc (Nat.le_refl _) _
    have HO3 := Lib.hid (ho.below hb3)
    have HBX3 := Lib.hid (hbx.below hb3)
    have HB3 := Lib.hid (hb.trans (hb3.mono hb.size))
    have HRD : Hid (IK.Rd W3 (.slice (some ⟨W2.heap.size, 0, none⟩) 1 1) [(x1, x2, x3)]) := Lib.hid (by rw [← hW3]; exact IK.rd_box (x1, x2, x3) _ 1 W2)
    have HLN : Hid (pre.length + 1 ≤ 1000000) := Lib.hid (by omega)
    have HBS : Hid (w.heap.size + 1 ≤ W3.heap.size) := Lib.hid (Nat.le_trans hz2 hb3.size)
    have HKO3 : Hid (KeepsOthers W2 W3) := Lib.hid (by rw [← hW3]; exact KeepsOthers.alloc _ _)
    clear hbx ho hb hz2 hbi hox hb3 hzW hp hz0 hb0 hI0 hseq
    gi_wp2_with (gi_at_builtin; (refine Knd.appIn IK rfl (.tmp 8) (.tmp 10) rfl (w.heap.size + 1) v pre rfl HO3.out (.slice (some ⟨W2.heap.size, 0, none⟩) 1 1) [(x1, x2, x3)] rfl HRD.out HLN.out HBS.out ?_))
    intro v' w' ho' hb' hg'
    obtain ⟨a5, k5, hv5⟩ := ho'.slice
    obtain ⟨L5, hL5⟩ : ∃ L, (pre ++ [(x1, x2, x3)]).length = L := ⟨_, rfl⟩
    rw [hL5] at hv5
    subst hv5
    clear hL5
    have hko : KeepsOthers W3 w' := KeepsOthers.of_grownBy hg' (fun j o hj ho2 => by
      obtain ⟨_, cs, fr, hc⟩ := HO3.out.blk j hj
      rw [hc] at ho2
      cases ho2
      rfl)
    have HKO := Lib.hid (HKO3.out.trans hko)
    have hbx' : Bk w' w.heap.size 23 [v] := (hb'.block _ (Nat.lt_succ_self _)).trans HBX3.out
    have HO' := Lib.hid ho'
    have HB' := Lib.hid (HB3.out.trans (hb'.mono (Nat.le_succ _)))
    have HZ' := Lib.hid (Nat.le_trans HBS.out hb'.size)
    have c2' := hbx'.cell 0
    have f2' := hbx'.fz 0
    have z2' := hbx'.lt
    simp only [List.getElem?_cons_zero] at c2'
    have HBX' := Lib.hid hbx'
    clear ho' hb' hg' hko hbx' HO3 HBX3 HB3 HRD HLN HBS HKO3 c2 f2 d0 d1 d2 hW3
    gi_wp2
    refine ⟨HKO.out.trans (KeepsOthers.setCell _ _ _), (HKO.out.trans (KeepsOthers.setCell _ _ _)).walks, .slice a5 L5 k5, HBX'.out.set 0 _, ?_, HB'.out.setCell (Nat.le_refl _) _, ?_⟩
    · exact HO'.out.setA (Nat.lt_succ_self _) _ _
    · simpa using HZ'.out
  case done =>
    rintro D xs W hD hS ⟨v, hbx, ho, hb, hz2⟩ hK
    have c2 := hbx.cell 0
    simp only [List.getElem?_cons_zero] at c2
    have HO := Lib.hid ho
    have HS := Lib.hid hS
    have HB := Lib.hid hb
    have HK := Lib.hid hK
    clear hbx ho hb hz2 hK hS
    gi_wp2
    have hK2 : W.heap[D]? = some (.deferred (some [])) := HK.out
    refine ⟨(by simp), .inl ⟨_, _, rfl, run_takeDeferred hK2, ?_⟩⟩
    refine ⟨v, (by simp [results, Try.f58, go_sem]), v, xs, rfl, HS.out, ?_, ?_⟩
    · exact (own_grownC HO.out (grownBy_putObj' W D _) (fun r e => by cases e; exact ⟨_, hK2, rfl⟩)).base (Nat.le_succ _)
    · exact HB.out.grown (grownBy_putObj' W D _) HB.out.size (fun k e => by cases e; exact Nat.le_trans hb0.size hD)
set_option maxHeartbeats 4000000 in
theorem collectA {n N : Nat} (hn : 3 ≤ n) (gf : Nat) (lb : Array Value) (eg : ∀ args w, (callFunc gf args).run Try.prog w = .ok (.enter gf args) w) (S : List I3 → Prop) (hN : N ≤ 100000) (w : World)
    (hseq : SeqGives Fence.wide (n - 1 - 1) Try.prog gf lb idV S N w) : CallsIn Fence.wide n Try.prog 45 #[.func (.func gf) #[] lb] w (ColP S w) := by
  refine callsIn_of_wp Try.func45 rfl trivial ?_ rfl
  simp only [Try.ntmps45, List.size_toArray, List.length_cons, List.length_nil, Nat.reduceAdd, Nat.reduceSub, Array.replicate_succ, Array.replicate_zero, List.push_toArray, List.append_toArray, List.nil_append, List.cons_append]
  have HA := Lib.hid (appSeqA (n := n - 1) (by omega) gf lb eg S hN w hseq)
  clear hseq
  gi_wp2
  refine ⟨trivial, (fun h => by omega), ?_⟩
  refine HA.out.mono ?_
  rintro e w' ⟨v, ss, he, hS, ho, hb⟩
  rw [he.out]
  gi_wp2
  go_ret
  exact ⟨v, ss, rfl, hS, ho, hb⟩
end Go.Proofs.Ytlckjpjcfalfnaa
