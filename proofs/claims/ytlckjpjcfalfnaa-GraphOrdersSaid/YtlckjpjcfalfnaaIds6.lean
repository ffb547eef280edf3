/-
  The walks of package ids' Clean, Union, Less2, Same, Has, Right.
-/
import Derived.Test.YtlckjpjcfalfnaaIds5
import Derived.Shelf.SlicesQ.Contains
import Derived.Laws.StructEq
import Derived.Ground.SlgqProg
namespace Go.Proofs.Ytlckjpjcfalfnaa
open Go.RowKit Go.Sort Go.Shelf Go.Lib
set_option linter.unusedSimpArgs false
set_option linter.unusedVariables false

/-- One row laid in a row of rows. -/
theorem setOf_one (v : Value) (l : List I3) (w : World) (h : IK.Rd w v l) (ho : okL l) (hl : l.length ≤ 1000) :
    Calls Try.prog 43 #[.slice (some ⟨w.heap.size, 0, none⟩) 1 1] (w.alloc (.cells #[v] 23)) (SetP l (w.alloc (.cells #[v] 23))) := by
  have cS := setOf_any w.heap.size 1 1 [v] [l] (w.alloc (.cells #[v] 23)) rfl rfl (by omega) (by simp)
    (fun i hi => by obtain rfl : i = 0 := by omega
                    exact new_cell w #[v] 23 0)
    (fun i hi => by obtain rfl : i = 0 := by omega
                    exact h.below ((Below.refl _ _).alloc (Nat.le_refl _) _))
    (fun i hi => by obtain rfl : i = 0 := by omega
                    exact ho)
    (fun i hi => by obtain rfl : i = 0 := by omega
                    exact hl)
  simpa using cS
theorem setOf_two (v1 v2 : Value) (l1 l2 : List I3) (w : World) (h1 : IK.Rd w v1 l1) (o1 : okL l1) (n1 : l1.length ≤ 1000) (h2 : IK.Rd w v2 l2) (o2 : okL l2) (n2 : l2.length ≤ 1000) :
    Calls Try.prog 43 #[.slice (some ⟨w.heap.size, 0, none⟩) 2 2] (w.alloc (.cells #[v1, v2] 23)) (SetP (l1 ++ l2) (w.alloc (.cells #[v1, v2] 23))) := by
  have cS := setOf_any w.heap.size 2 2 [v1, v2] [l1, l2] (w.alloc (.cells #[v1, v2] 23)) rfl rfl (by omega) (by simp)
    (fun i hi => by
      obtain rfl | rfl : i = 0 ∨ i = 1 := by omega
      · exact new_cell w #[v1, v2] 23 0
      · exact new_cell w #[v1, v2] 23 1)
    (fun i hi => by
      obtain rfl | rfl : i = 0 ∨ i = 1 := by omega
      · exact h1.below ((Below.refl _ _).alloc (Nat.le_refl _) _)
      · exact h2.below ((Below.refl _ _).alloc (Nat.le_refl _) _))
    (fun i hi => by
      obtain rfl | rfl : i = 0 ∨ i = 1 := by omega
      · exact o1
      · exact o2)
    (fun i hi => by
      obtain rfl | rfl : i = 0 ∨ i = 1 := by omega
      · exact n1
      · exact n2)
  simpa using cS
theorem okL_app {a b : List I3} (h : okL a) (k : okL b) : okL (a ++ b) := fun x hx => by
  rcases List.mem_append.1 hx with q | q
  · exact h x q
  · exact k x q
theorem okL_cln {a : List I3} (h : okL a) : okL (clnI a) := fun x hx => h x ((mem_clnI a x).1 hx)
theorem okL_filter {a : List I3} (h : okL a) (p : I3 → Bool) : okL (a.filter p) := fun x hx => h x (List.mem_filter.1 hx).1
set_option maxRecDepth 100000 in
theorem clean_any (v : Value) (l : List I3) (w : World) (h : IK.Rd w v l) (ho : okL l) (hl : l.length ≤ 1000) :
    Calls Try.prog 25 #[v] w (RowP (clnI l) w) := by
  have HC := Lib.hid (setOf_one v l w h ho hl)
  obtain ⟨a, c, e⟩ := h.slice
  subst e
  have HO := Lib.hid ho
  clear h ho hl
  go_enter Try.func25, Try.ntmps25
  go_wp2_with fail
  refine HC.out.mono ?_
  rintro e w1 ⟨rfl, hs1, hb1⟩
  have hz1 := hb1.size
  simp only [World.size_alloc] at hs1 hb1 hz1
  have HR := Lib.hid (risen_any _ l w1 hs1 HO.out)
  have HB1 : Hid (Below w.heap.size w w1) := Lib.hid (((Below.refl w.heap.size w).alloc (Nat.le_refl _) _).trans (hb1.mono (by omega)))
  have HZ1 : Hid (w.heap.size ≤ w1.heap.size) := Lib.hid (by omega)
  simp only [World.size_alloc]
  clear hs1 hb1 hz1 HC
  go_wp2_with fail
  refine HR.out.mono ?_
  rintro e w2 ⟨v2, he, ho2, hb2⟩
  rw [he.out]
  have HO2 := Lib.hid (ho2.base HZ1.out)
  have HB2 := Lib.hid (HB1.out.trans (hb2.mono HZ1.out))
  clear ho2 hb2 he HR
  go_wp2
  go_ret
  exact ⟨_, Lib.hid rfl, HO2.out, HB2.out⟩
theorem wpList_len_g {H : Type} {P : Program} {ops : Array Oper} {rest : List Oper} {o : Oper} {a : Act} {w : World} {Q : Exit → Act → World → Prop} (hw : Region.wanted o (yielded ops a.tmps) = true) (m : Operand) (t : TypeId) (hop : o.op = Op.call { callee := Callee.builtin Builtin.len, args := #[m], argTypes := #[t] })
    (k e : TypeId) (ht : P.underlying t = some (.map k e)) (R : Value → Option (DataW H × List MemPlace)) (b n : Nat) (D : DataW H) (hm : a.eval m = .map (some b)) (hown : w.ownsMap P k R b n D)
    (hK : wpList P ops Q rest (a.put o.dst (.int .i64 (Maps.size D))) w) : wpList P ops Q (o :: rest) a w := by
  refine wpList_value hw _ w ?_ hK
  unfold execOp
  simp [hop, resolve, invoke, builtin, hm, hown.len ht o.type, Result.andThen]
theorem samI_len (a b : List I3) : samI a b = (decide ((a.filter fun x => !hasI b x) = []) && decide ((b.filter fun x => !hasI a x) = [])) := by
  unfold samI
  rw [Bool.eq_iff_iff]
  simp [List.filter_eq_nil_iff]
set_option maxRecDepth 100000 in
set_option maxHeartbeats 1000000 in
theorem same_any (v1 v2 : Value) (l1 l2 : List I3) (w : World) (h1 : IK.Rd w v1 l1) (o1 : okL l1) (n1 : l1.length ≤ 1000) (h2 : IK.Rd w v2 l2) (o2 : okL l2) (n2 : l2.length ≤ 1000) :
    Calls Try.prog 24 #[v1, v2] w fun e w' => e = .returned (.bool (samI l1 l2)) ∧ Below w.heap.size w w' := by
  have HC := Lib.hid (without_any v1 v2 l1 l2 w h1 h2 o1 o2 n1 n2)
  have HD : Hid (∀ W, Below w.heap.size w W → Calls Try.prog 41 #[v2, v1] W (SetQ (l2.filter fun x => !hasI l1 x) W)) := Lib.hid (fun W hB => without_any v2 v1 l2 l1 W (h2.below hB) (h1.below hB) o2 o1 n2 n1)
  obtain ⟨a1, c1, e1⟩ := h1.slice
  obtain ⟨a2, c2, e2⟩ := h2.slice
  subst e1
  subst e2
  obtain ⟨R, hR⟩ : ∃ R, samI l1 l2 = R := ⟨_, rfl⟩
  rw [hR]
  rw [samI_len] at hR
  have HR := Lib.hid hR
  clear hR
  clear h1 o1 n1 h2 o2 n2
  go_enter Try.func24, Try.ntmps24
  go_wp2_with fail
  refine HC.out.mono ?_
  rintro e w1 ⟨b, hbb, rfl, hs1, hb1⟩
  obtain ⟨D, m, hm, hM, hD⟩ := hs1
  have hnone := hD.none
  obtain ⟨C, hC⟩ : ∃ C, Maps.size D = C := ⟨_, rfl⟩
  have HCZ := Lib.hid hC
  rw [hC] at hnone
  have HM := Lib.hid hM
  have HCD := Lib.hid (HD.out w1 hb1)
  have HB1 := Lib.hid hb1
  by_cases hz : C = 0
  · have e : decide ((l1.filter fun x => !hasI l2 x) = []) = true := decide_eq_true (hnone.1 hz)
    have E1 := Lib.hid e
    subst hz
    clear hbb hb1 hM hD hm hnone hC HC HD e
    go_wp2_with (first
      | (at_len; refine wpList_len_own _ rfl _ 70 rfl 25 71 Try.underlying70 unitElem b m D rfl HM.out ?_; rw [HCZ.out])
      | fail)
    refine HCD.out.mono ?_
    rintro e w2 ⟨b2, hbb, rfl, hs2, hb2⟩
    obtain ⟨D2, m2, hm, hM, hD⟩ := hs2
    have hnone := hD.none
    obtain ⟨C2, hC⟩ : ∃ C, Maps.size D2 = C := ⟨_, rfl⟩
    have HCZ2 := Lib.hid hC
    rw [hC] at hnone
    have HM2 := Lib.hid hM
    have HB2 := Lib.hid (HB1.out.trans (hb2.mono HB1.out.size))
    have e : decide ((l2.filter fun x => !hasI l1 x) = []) = decide (C2 = 0) := by rw [decide_eq_decide]; exact hnone.symm
    have E2 := Lib.hid e
    clear hbb hb2 hM hD hm hnone hC HCD HM HCZ e
    by_cases hz : C2 = 0
    · subst hz
      go_wp2_with (first
        | (at_len; refine wpList_len_g rfl _ 70 rfl 25 71 Try.underlying70 unitElem b2 m2 D2 rfl HM2.out ?_; rw [HCZ2.out])
        | fail)
      go_ret
      exact ⟨ret_bool (by rw [← HR.out, E1.out, E2.out]; rfl), HB2.out⟩
    · have hzI : ¬ (C2 : Int) = 0 := by omega
      have E3 := Lib.hid (decide_eq_false hz)
      go_wp2_with (first
        | (at_len; refine wpList_len_g rfl _ 70 rfl 25 71 Try.underlying70 unitElem b2 m2 D2 rfl HM2.out ?_; rw [HCZ2.out])
        | fail)
      go_ret
      exact ⟨ret_bool (by rw [← HR.out, E1.out, E2.out, E3.out]; first | rfl | (simp; omega)), HB2.out⟩
  · have e : decide ((l1.filter fun x => !hasI l2 x) = []) = false := decide_eq_false (fun q => hz (hnone.2 q))
    have E1 := Lib.hid e
    have hzI : ¬ (C : Int) = 0 := by omega
    clear hbb hb1 hM hD hm hnone hC HC HD e HCD
    go_wp2_with (first
      | (at_len; refine wpList_len_own _ rfl _ 70 rfl 25 71 Try.underlying70 unitElem b m D rfl HM.out ?_; rw [HCZ.out])
      | fail)
    go_ret
    exact ⟨ret_bool (by rw [← HR.out, E1.out]; rfl), HB1.out⟩
theorem eqIds : EqlAt Try.prog 25 (fun x => .agg (idE x).toArray) (fun x y : I3 => decide (x = y)) := by
  refine ⟨fun x y w => ?_, GuardAt.agg _ (by kernel_rfl)⟩
  have u3 := Try.underlying3
  have a3 := Try.isAgg3
  have z3 := Try.sizeOf3
  have hS : Try.prog.underlying 25 = some (.struct (Try.prog.fieldsOf 25)) := by kernel_rfl
  have hp : Try.prog.stoodInHeld 25 = false := by kernel_rfl
  simp only [idE]
  rw [run_eql_struct, show (10000 : Nat) = 9999 + 1 from rfl, run_equalIn_agg w 9999 25 _ _ hS hp]
  simp only [Program.fieldsOf, Try.underlying25]
  go_simp
  by_cases h1 : x.1 = y.1 <;> by_cases h2 : x.2.1 = y.2.1 <;> by_cases h3 : x.2.2 = y.2.2 <;> simp [h1, h2, h3, Prod.ext_iff]
end Go.Proofs.Ytlckjpjcfalfnaa
