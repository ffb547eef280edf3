/-
 The document's machine: any command.
-/
import Derived.Test.YtodcmhmankmaoaaGreatRs2a
import Derived.Test.YtodcmhmankmaoaaGreatRs2b
import Derived.Test.YtodcmhmankmaoaaGreatRs2c
import Derived.Test.YtodcmhmankmaoaaGreatRs2d
import Derived.Deep.RegionLaw
namespace Go.Proofs.YtodcmhmankmaoaaGreat
open Go.RowKit Go.Sort
set_option linter.unusedSimpArgs false
set_option linter.unusedVariables false
set_option maxRecDepth 100000

theorem rmapply_any {X w : World} {base r : Nat} {v0 u : Value} {xs : List SG} {m : Mac} (h : RM X w base r v0 u xs m) (hX : Below X.heap.size X w) (hXr : X.heap.size ≤ r) (hbw : base ≤ w.heap.size) (hRm : RightM m) (hl : m.l.length ≤ 900) (hs : m.s.length ≤ 1000) (hz : ∀ x ∈ m.l, x.1.size ≤ 1000) (hver : ∀ x ∈ m.l, 0 ≤ x.2.2 ∧ x.2.2 ≤ 4000000000000) (t : Cm) (c : Rep) (vc : Value) (hvc : SK.Rd X vc c.names) (hp : t.pa.size ≤ 1000) :
  Calls Tryz.prog 21 #[.pointer (some ⟨r, 0, none⟩), cmV t, repV c vc] w (RMP (appM m t c) X w base r v0 u) := by
 by_cases ho : t.op = 0
 ·exact rmapply_none h hX hXr hbw hRm hl hs hz hver t c vc hvc hp ho
 cases hval : valS t.cl t.sq with
 | false => exact rmapply_bad h hX hXr hbw hRm hl hs hz hver t c vc hvc hp ho hval
 | true =>
  cases hf : fndS m.s t.cl with
  | none =>
   cases hct : Tc.ctl t.op with
   | true => exact rmapply_new_c h hX hXr hbw hRm hl hs hz hver t c vc hvc hp ho hval hf hct
   | false => exact rmapply_new_d h hX hXr hbw hRm hl hs hz hver t c vc hvc hp ho hval hf hct
  | some y =>
   obtain ⟨q, r5⟩ := y
   by_cases h1 : t.sq < q
   ·exact rmapply_old h hX hXr hbw hRm hl hs hz hver t c vc hvc hp ho hval hf h1
   by_cases h2 : q = t.sq
   ·exact rmapply_same h hX hXr hbw hRm hl hs hz hver t c vc hvc hp ho hval hf h2
   cases hct : Tc.ctl t.op with
   | true => exact rmapply_newer_c h hX hXr hbw hRm hl hs hz hver t c vc hvc hp ho hval hf (by omega) hct
   | false => exact rmapply_newer_d h hX hXr hbw hRm hl hs hz hver t c vc hvc hp ho hval hf (by omega) hct
end Go.Proofs.YtodcmhmankmaoaaGreat
