/-
  Graph: the keys of maps, collected and made rising.
-/
import Derived.Test.YtlckjpjcfalfnaaGj
import Derived.Test.YtlckjpjcfalfnaaIds6
import Derived.Sort.MapsRangeIn
namespace Go.Proofs.Ytlckjpjcfalfnaa
open Go.RowKit Go.Sort Go.Maps
open Go.WideMaps
set_option linter.unusedSimpArgs false
set_option linter.unusedVariables false
set_option maxRecDepth 100000
attribute [local go_sem] Oper.semAt_some

theorem cln_same {l k : List I3} (h : ∀ x, x ∈ l ↔ x ∈ k) : clnI l = clnI k := clnI_eq (clnI_rises k) fun x => by rw [mem_clnI]; exact (h x).symm
theorem perm_len {l k : List I3} (hl : l.Nodup) (hk : k.Nodup) (h : ∀ x, x ∈ l ↔ x ∈ k) : l.length = k.length :=
  ((List.perm_ext_iff_of_nodup hl hk).2 h).length_eq
theorem MV.met {α : Type} {enc : α → Value} {w : World} {b : Nat} {l : List (I3 × α)} (h : MV enc w b l) : ∀ {H : Type} {D : DataW H}, (∀ x, okI x → Maps.has D (kf x) = (getV l x).isSome) → Met (keysV l) (Maps.has D) [] := fun hh =>
  ⟨List.nodup_nil, (fun x h => by cases h), (fun x h => by cases h), (fun x hx => by rw [hh x hx, getV_isSome]; simp [hasI])⟩
abbrev encU : Unit → Value := fun _ => .agg #[]
set_option maxHeartbeats 4000000 in
theorem keysN_gives (n : Nat) (hn : 1 ≤ n) {w : World} {Bm b nn : Nat} {D : DataW Value} {l : List I3} (hBm : Bm < w.heap.size) (hc : w.cell? ⟨Bm, 0, none⟩ = some (.map (some b))) (hown : w.ownsMap (H := Value) Try.prog 25 vR b nn D) (hM : Met l (Maps.has D) []) (ol : okL l) :
    SeqGives Fence.wide n Try.prog 59 #[.pointer (some ⟨Bm, 0, none⟩)] idV (fun ss => ss.Nodup ∧ ∀ x, x ∈ ss ↔ x ∈ l) (Maps.size D) w := by
  intro ll J W hb hJ hY h0
  have hownW : W.ownsMap (H := Value) Try.prog 25 vR b nn D := hown.kept (row := none) ⟨hb.os, hb.tape, hb.output, hb.size, fun k hk _ => hb.block k hk⟩ (by simp)
  have hcW : W.cell? ⟨Bm, 0, none⟩ = some (.map (some b)) := (hb.cell (p := ⟨Bm, 0, none⟩) hBm).trans hc
  have HY := Lib.hid hY
  have HJ := Lib.hid hJ
  have HM := Lib.hid hM
  have HOL := Lib.hid ol
  have HOW := Lib.hid hownW
  have H0 := Lib.hid h0
  obtain ⟨C, hC⟩ : ∃ C, Maps.size D = C := ⟨_, rfl⟩
  have HC := Lib.hid hC
  clear hY hJ hM ol hownW h0 hown hc hb hC
  refine callsIn_of_wp Try.func59 rfl trivial ?_ rfl
  simp only [Try.ntmps59, List.size_toArray, List.length_cons, List.length_nil, Nat.reduceAdd, Nat.reduceSub, Array.replicate_succ, Array.replicate_zero, List.push_toArray, List.append_toArray, List.nil_append, List.cons_append]
  gi_wp2_with (first
    | (gi_at_range; refine wpListIn_range_own _ rfl _ 53 rfl 25 46 idLaw Try.underlying53 _ b nn _ rfl HOW.out ?_; intro w0 hrg0 hg0 hs0)
    | gi_in)
  go_frame
  have HR0 : Hid (w0.ranges (H := Value) Try.prog 25 vR b W.heap.size nn D (Maps.has D) C) := Lib.hid (by have h := hrg0; rw [HC.out] at h; exact h)
  have HJ0 := Lib.hid (HJ.out [] W w0 none H0.out hg0 (fun r e => by cases e))
  clear hrg0 hg0 hs0 H0 hcW
  gi_loopw [3] (fun _ wr => ∃ (left : Lit → Bool) (cnt : Nat) (ss : List I3), Hid (wr.ranges (H := Value) Try.prog 25 vR b W.heap.size nn D left cnt) ∧ Hid (ss.length + cnt ≤ C) ∧ Hid (Met l left ss) ∧ Hid (J ss wr))
    (fun _ wr => wr.rangeLeft b W.heap.size)
  case atStart => exact ⟨_, _, [], HR0, Lib.hid (by simp), HM, HJ0⟩
  case round =>
    clear HR0 HJ0 HM
    obtain ⟨left, cnt, ss, hR, hcs, hMet, hJs⟩ := hrel
    gi_wp2_with (first
      | (gi_at_next; refine wpListIn_next_ranges _ rfl _ rfl 25 idLaw vR idV (fun v : Value => v) (fun key kl hk => by obtain ⟨x, hx, _⟩ := idKey_inv key kl hk; exact ⟨x, hx⟩) (fun v y hv => ⟨v, rfl⟩) b W.heap.size nn _ _ _ rfl hR.out ?_ ?_)
      | gi_in)
    · intro hc0 hl0
      have HF : Hid (ss.Nodup ∧ ∀ x, x ∈ ss ↔ x ∈ l) := Lib.hid ⟨hMet.out.nodup, hMet.out.done hl0 HOL.out⟩
      clear hl0 hc0
      gi_wp2
      go_end0
      exact ⟨⟨_, rfl⟩, ss, HF.out, hJs.out⟩
    · intro x1 x2 x3 c kl yd yp w2 cnt2 hkey hlk hv hat hrg2 hlt hg2 hs2 hen
      obtain ⟨x', ex, hxo⟩ := idKey_inv _ _ hkey
      have e : ((x1, x2, x3) : I3) = x' := by
        simp only [Value.agg.injEq, Array.mk.injEq, List.cons.injEq, Value.int.injEq, true_and, and_true] at ex
        exact i3_ext ex.1 ex.2.1 ex.2.2
      rw [← e] at hxo
      obtain rfl : kl = kf (x1, x2, x3) := Option.some.inj (hkey.symm.trans (kf_key hxo))
      have hJ2 : J ss w2 := HJ.out ss wr w2 (some W.heap.size) hJs.out hg2 (fun r e => by cases e; exact ⟨Nat.le_refl _, hR.out.iter_walk⟩)
      obtain ⟨w5, hw5⟩ : ∃ w5, w2.alloc (.cells #[.int .i64 x1, .int .i64 x2, .int .i64 x3] 25) = w5 := ⟨_, rfl⟩
      have hJ5 : J ss w5 := by rw [← hw5]; exact HJ.out ss w2 _ none hJ2 (World.grownBy_alloc w2 _ none) (fun r e => by cases e)
      have hb5 : Bk w5 w2.heap.size 25 [.int .i64 x1, .int .i64 x2, .int .i64 x3] := by rw [← hw5]; exact Bk.new w2 _ _
      have d0 := hb5.cell 0
      have d1 := hb5.cell 1
      have d2 := hb5.cell 2
      simp only [List.getElem?_cons_zero, List.getElem?_cons_succ] at d0 d1 d2
      have hk5 : KeepsWalks w2 w5 := by rw [← hw5]; exact KeepsWalks.alloc _ _
      obtain ⟨fn, tmps, assign, body, hy, hRn⟩ := HY.out ss (x1, x2, x3) w5 hJ5 (by have := hcs.out; have := HC.out; omega)
      have HRn := Lib.hid hRn
      have HR2 := Lib.hid hrg2
      have HK5 := Lib.hid hk5
      have HMet2 := Lib.hid (hMet.out.step hxo hlk)
      have HLT : Hid (cnt2 < cnt) := Lib.hid hlt
      have HLE := Lib.hid hR.out.left_eq
      simp only [idV] at hy
      clear hs2 hkey hlk hv hat hrg2 hg2 hJ2 hJ5 hk5 hRn hR hMet hJs ex e hlt
      gi_wp2
      try rw [hw5]
      refine HRn.out.mono ?_
      rintro e W3 ⟨rfl, hJ3, hk3⟩
      have hr3 := Lib.hid ((HR2.out.of_walks HK5.out).of_walks hk3)
      have HJ3 := Lib.hid hJ3
      have HC3 : Hid ((ss ++ [(x1, x2, x3)]).length + cnt2 ≤ C) := Lib.hid (by have := hcs.out; have := HLT.out; simp; omega)
      clear hJ3 hk3 hw5 hy d0 d1 d2 hb5 HRn HK5 HR2
      gi_wp2
      go_roundw
      case rel => exact ⟨_, cnt2, ss ++ [(x1, x2, x3)], hr3, HC3, HMet2, HJ3⟩
      case measure => rw [hr3.out.left_eq, HLE.out]; exact HLT.out
set_option maxHeartbeats 1600000 in
theorem keysN_any (mb : Nat) (w : World) : Calls Try.prog 46 #[.map (some mb)] w fun e w' => e = .returned (.func (.func 59) #[] #[.pointer (some ⟨w.heap.size, 0, none⟩)]) ∧ w.alloc (.cells #[.map (some mb)] 53) = w' := by
  go_enter Try.func46, Try.ntmps46
  go_wp2
  go_ret
  exact ⟨rfl, rfl⟩
set_option maxHeartbeats 4000000 in
theorem risenN_any {w : World} {b : Nat} {l : List (I3 × NV)} (h : MV ndV w b l) (hK : l.length ≤ 1000) : Calls Try.prog 30 #[.map (some b)] w (RowP (clnI (keysV l)) w) := by
  obtain ⟨D, hM, htd, hsz0, hhas, hval⟩ := h.own
  have HM := Lib.hid hM
  have hsz : Maps.size D ≤ 1000 := by omega
  have hlen : (keysV l).length ≤ 1000 := by rw [List.length_map]; exact hK
  have HMet := Lib.hid (h.met hhas)
  have HOL : Hid (okL (keysV l)) := Lib.hid (fun x hx => by obtain ⟨e, he, rfl⟩ := List.mem_map.1 hx; exact h.keys e he)
  have HNd := Lib.hid h.nodup
  have HLen := Lib.hid hlen
  have HSz := Lib.hid hsz
  clear h hM htd hsz0 hhas hval hsz hlen hK
  go_enter Try.func30, Try.ntmps30
  go_wp2_with fail
  refine (keysN_any b w).mono ?_
  rintro e w1 ⟨rfl, hw1⟩
  have hb1 : Below w.heap.size w w1 := by rw [← hw1]; exact (Below.refl _ _).alloc (Nat.le_refl _) _
  have HCol : Hid (Calls Try.prog 45 #[.func (.func 59) #[] #[.pointer (some ⟨w.heap.size, 0, none⟩)]] w1 (ColP (fun ss => ss.Nodup ∧ ∀ x, x ∈ ss ↔ x ∈ keysV l) w1)) := Lib.hid ((callsIn_wide (n := 6)).1 (collectA (by omega) _ _ (enters_of Try.func59 (by kernel_rfl) rfl) _ (N := Maps.size D) (by have := HSz.out; omega) w1
    (keysN_gives 4 (by omega) (by rw [← hw1]; simp) (by rw [← hw1]; simp [go_sem]) (HM.out.kept (row := none) ⟨hb1.os, hb1.tape, hb1.output, hb1.size, fun k hk _ => hb1.block k hk⟩ (by simp)) HMet.out HOL.out)))
  have HB1 := Lib.hid hb1
  clear hb1 hw1
  go_wp2_with fail
  refine HCol.out.mono ?_
  rintro e w2 ⟨v2, ss, he, hS, ho, hb⟩
  rw [he.out]
  have hss : ss.length = (keysV l).length := (perm_len hS.1 HNd.out hS.2)
  have HCl := Lib.hid (clean_any v2 ss w2 ho.rd (fun x hx => HOL.out x ((hS.2 x).1 hx)) (by have := HLen.out; omega))
  rw [cln_same hS.2] at HCl
  have HB2 := Lib.hid (HB1.out.trans (hb.mono HB1.out.size))
  obtain ⟨a2, k2, hv2⟩ := ho.slice
  obtain ⟨M2, hM2⟩ : ∃ M2, ss.length = M2 := ⟨_, rfl⟩
  rw [hM2] at hv2
  subst hv2
  clear he hS ho hb hM2 HCol hss
  go_wp2_with fail
  refine HCl.out.mono ?_
  rintro e w3 ⟨v3, he, ho, hb⟩
  rw [he.out]
  have HO3 := Lib.hid (ho.base HB2.out.size)
  have HB3 := Lib.hid (HB2.out.trans (hb.mono HB2.out.size))
  clear he ho hb
  go_wp2
  go_ret
  exact ⟨v3, rfl, HO3.out, HB3.out⟩
set_option maxHeartbeats 4000000 in
theorem keysU_gives (n : Nat) (hn : 1 ≤ n) {w : World} {Bm b nn : Nat} {D : DataW Value} {l : List I3} (hBm : Bm < w.heap.size) (hc : w.cell? ⟨Bm, 0, none⟩ = some (.map (some b))) (hown : w.ownsMap (H := Value) Try.prog 25 vR b nn D) (hM : Met l (Maps.has D) []) (ol : okL l) :
    SeqGives Fence.wide n Try.prog 64 #[.pointer (some ⟨Bm, 0, none⟩)] idV (fun ss => ss.Nodup ∧ ∀ x, x ∈ ss ↔ x ∈ l) (Maps.size D) w := by
  intro ll J W hb hJ hY h0
  have hownW : W.ownsMap (H := Value) Try.prog 25 vR b nn D := hown.kept (row := none) ⟨hb.os, hb.tape, hb.output, hb.size, fun k hk _ => hb.block k hk⟩ (by simp)
  have hcW : W.cell? ⟨Bm, 0, none⟩ = some (.map (some b)) := (hb.cell (p := ⟨Bm, 0, none⟩) hBm).trans hc
  have HY := Lib.hid hY
  have HJ := Lib.hid hJ
  have HM := Lib.hid hM
  have HOL := Lib.hid ol
  have HOW := Lib.hid hownW
  have H0 := Lib.hid h0
  obtain ⟨C, hC⟩ : ∃ C, Maps.size D = C := ⟨_, rfl⟩
  have HC := Lib.hid hC
  clear hY hJ hM ol hownW h0 hown hc hb hC
  refine callsIn_of_wp Try.func64 rfl trivial ?_ rfl
  simp only [Try.ntmps64, List.size_toArray, List.length_cons, List.length_nil, Nat.reduceAdd, Nat.reduceSub, Array.replicate_succ, Array.replicate_zero, List.push_toArray, List.append_toArray, List.nil_append, List.cons_append]
  gi_wp2_with (first
    | (gi_at_range; refine wpListIn_range_own _ rfl _ 70 rfl 25 71 idLaw Try.underlying70 _ b nn _ rfl HOW.out ?_; intro w0 hrg0 hg0 hs0)
    | gi_in)
  go_frame
  have HR0 : Hid (w0.ranges (H := Value) Try.prog 25 vR b W.heap.size nn D (Maps.has D) C) := Lib.hid (by have h := hrg0; rw [HC.out] at h; exact h)
  have HJ0 := Lib.hid (HJ.out [] W w0 none H0.out hg0 (fun r e => by cases e))
  clear hrg0 hg0 hs0 H0 hcW
  gi_loopw [3] (fun _ wr => ∃ (left : Lit → Bool) (cnt : Nat) (ss : List I3), Hid (wr.ranges (H := Value) Try.prog 25 vR b W.heap.size nn D left cnt) ∧ Hid (ss.length + cnt ≤ C) ∧ Hid (Met l left ss) ∧ Hid (J ss wr))
    (fun _ wr => wr.rangeLeft b W.heap.size)
  case atStart => exact ⟨_, _, [], HR0, Lib.hid (by simp), HM, HJ0⟩
  case round =>
    clear HR0 HJ0 HM
    obtain ⟨left, cnt, ss, hR, hcs, hMet, hJs⟩ := hrel
    gi_wp2_with (first
      | (gi_at_next; refine wpListIn_next_ranges _ rfl _ rfl 25 idLaw vR idV (fun v : Value => v) (fun key kl hk => by obtain ⟨x, hx, _⟩ := idKey_inv key kl hk; exact ⟨x, hx⟩) (fun v y hv => ⟨v, rfl⟩) b W.heap.size nn _ _ _ rfl hR.out ?_ ?_)
      | gi_in)
    · intro hc0 hl0
      have HF : Hid (ss.Nodup ∧ ∀ x, x ∈ ss ↔ x ∈ l) := Lib.hid ⟨hMet.out.nodup, hMet.out.done hl0 HOL.out⟩
      clear hl0 hc0
      gi_wp2
      go_end0
      exact ⟨⟨_, rfl⟩, ss, HF.out, hJs.out⟩
    · intro x1 x2 x3 c kl yd yp w2 cnt2 hkey hlk hv hat hrg2 hlt hg2 hs2 hen
      obtain ⟨x', ex, hxo⟩ := idKey_inv _ _ hkey
      have e : ((x1, x2, x3) : I3) = x' := by
        simp only [Value.agg.injEq, Array.mk.injEq, List.cons.injEq, Value.int.injEq, true_and, and_true] at ex
        exact i3_ext ex.1 ex.2.1 ex.2.2
      rw [← e] at hxo
      obtain rfl : kl = kf (x1, x2, x3) := Option.some.inj (hkey.symm.trans (kf_key hxo))
      have hJ2 : J ss w2 := HJ.out ss wr w2 (some W.heap.size) hJs.out hg2 (fun r e => by cases e; exact ⟨Nat.le_refl _, hR.out.iter_walk⟩)
      obtain ⟨w5, hw5⟩ : ∃ w5, w2.alloc (.cells #[.int .i64 x1, .int .i64 x2, .int .i64 x3] 25) = w5 := ⟨_, rfl⟩
      have hJ5 : J ss w5 := by rw [← hw5]; exact HJ.out ss w2 _ none hJ2 (World.grownBy_alloc w2 _ none) (fun r e => by cases e)
      have hb5 : Bk w5 w2.heap.size 25 [.int .i64 x1, .int .i64 x2, .int .i64 x3] := by rw [← hw5]; exact Bk.new w2 _ _
      have d0 := hb5.cell 0
      have d1 := hb5.cell 1
      have d2 := hb5.cell 2
      simp only [List.getElem?_cons_zero, List.getElem?_cons_succ] at d0 d1 d2
      have hk5 : KeepsWalks w2 w5 := by rw [← hw5]; exact KeepsWalks.alloc _ _
      obtain ⟨fn, tmps, assign, body, hy, hRn⟩ := HY.out ss (x1, x2, x3) w5 hJ5 (by have := hcs.out; have := HC.out; omega)
      have HRn := Lib.hid hRn
      have HR2 := Lib.hid hrg2
      have HK5 := Lib.hid hk5
      have HMet2 := Lib.hid (hMet.out.step hxo hlk)
      have HLT : Hid (cnt2 < cnt) := Lib.hid hlt
      have HLE := Lib.hid hR.out.left_eq
      simp only [idV] at hy
      clear hs2 hkey hlk hv hat hrg2 hg2 hJ2 hJ5 hk5 hRn hR hMet hJs ex e hlt
      gi_wp2
      try rw [hw5]
      refine HRn.out.mono ?_
      rintro e W3 ⟨rfl, hJ3, hk3⟩
      have hr3 := Lib.hid ((HR2.out.of_walks HK5.out).of_walks hk3)
      have HJ3 := Lib.hid hJ3
      have HC3 : Hid ((ss ++ [(x1, x2, x3)]).length + cnt2 ≤ C) := Lib.hid (by have := hcs.out; have := HLT.out; simp; omega)
      clear hJ3 hk3 hw5 hy d0 d1 d2 hb5 HRn HK5 HR2
      gi_wp2
      go_roundw
      case rel => exact ⟨_, cnt2, ss ++ [(x1, x2, x3)], hr3, HC3, HMet2, HJ3⟩
      case measure => rw [hr3.out.left_eq, HLE.out]; exact HLT.out
set_option maxHeartbeats 1600000 in
theorem keysU_any (mb : Nat) (w : World) : Calls Try.prog 53 #[.map (some mb)] w fun e w' => e = .returned (.func (.func 64) #[] #[.pointer (some ⟨w.heap.size, 0, none⟩)]) ∧ w.alloc (.cells #[.map (some mb)] 70) = w' := by
  go_enter Try.func53, Try.ntmps53
  go_wp2
  go_ret
  exact ⟨rfl, rfl⟩
set_option maxHeartbeats 4000000 in
theorem risenU_any {w : World} {b : Nat} {l : List (I3 × Unit)} (h : MV encU w b l) (hK : l.length ≤ 1000) : Calls Try.prog 37 #[.map (some b)] w (RowP (clnI (keysV l)) w) := by
  obtain ⟨D, hM, htd, hsz0, hhas, hval⟩ := h.own
  have HM := Lib.hid hM
  have hsz : Maps.size D ≤ 1000 := by omega
  have hlen : (keysV l).length ≤ 1000 := by rw [List.length_map]; exact hK
  have HMet := Lib.hid (h.met hhas)
  have HOL : Hid (okL (keysV l)) := Lib.hid (fun x hx => by obtain ⟨e, he, rfl⟩ := List.mem_map.1 hx; exact h.keys e he)
  have HNd := Lib.hid h.nodup
  have HLen := Lib.hid hlen
  have HSz := Lib.hid hsz
  clear h hM htd hsz0 hhas hval hsz hlen hK
  go_enter Try.func37, Try.ntmps37
  go_wp2_with fail
  refine (keysU_any b w).mono ?_
  rintro e w1 ⟨rfl, hw1⟩
  have hb1 : Below w.heap.size w w1 := by rw [← hw1]; exact (Below.refl _ _).alloc (Nat.le_refl _) _
  have HCol : Hid (Calls Try.prog 45 #[.func (.func 64) #[] #[.pointer (some ⟨w.heap.size, 0, none⟩)]] w1 (ColP (fun ss => ss.Nodup ∧ ∀ x, x ∈ ss ↔ x ∈ keysV l) w1)) := Lib.hid ((callsIn_wide (n := 6)).1 (collectA (by omega) _ _ (enters_of Try.func64 (by kernel_rfl) rfl) _ (N := Maps.size D) (by have := HSz.out; omega) w1
    (keysU_gives 4 (by omega) (by rw [← hw1]; simp) (by rw [← hw1]; simp [go_sem]) (HM.out.kept (row := none) ⟨hb1.os, hb1.tape, hb1.output, hb1.size, fun k hk _ => hb1.block k hk⟩ (by simp)) HMet.out HOL.out)))
  have HB1 := Lib.hid hb1
  clear hb1 hw1
  go_wp2_with fail
  refine HCol.out.mono ?_
  rintro e w2 ⟨v2, ss, he, hS, ho, hb⟩
  rw [he.out]
  have hss : ss.length = (keysV l).length := (perm_len hS.1 HNd.out hS.2)
  have HCl := Lib.hid (clean_any v2 ss w2 ho.rd (fun x hx => HOL.out x ((hS.2 x).1 hx)) (by have := HLen.out; omega))
  rw [cln_same hS.2] at HCl
  have HB2 := Lib.hid (HB1.out.trans (hb.mono HB1.out.size))
  obtain ⟨a2, k2, hv2⟩ := ho.slice
  obtain ⟨M2, hM2⟩ : ∃ M2, ss.length = M2 := ⟨_, rfl⟩
  rw [hM2] at hv2
  subst hv2
  clear he hS ho hb hM2 HCol hss
  go_wp2_with fail
  refine HCl.out.mono ?_
  rintro e w3 ⟨v3, he, ho, hb⟩
  rw [he.out]
  have HO3 := Lib.hid (ho.base HB2.out.size)
  have HB3 := Lib.hid (HB2.out.trans (hb.mono HB2.out.size))
  clear he ho hb
  go_wp2
  go_ret
  exact ⟨v3, rfl, HO3.out, HB3.out⟩
end Go.Proofs.Ytlckjpjcfalfnaa
