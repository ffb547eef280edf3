/-
  The walks of the laws' of and same; the document's Valid and Local of attributes.
-/
import Derived.Test.YtfngjdcagopapaaGreatAtA
import Derived.Test.YtfngjdcagopapaaGreatIdsB
import Derived.RegionTactic
namespace Go.Proofs.YtfngjdcagopapaaGreat
open Tc (ML)
open Go.RowKit
set_option linter.unusedSimpArgs false
set_option linter.unusedVariables false
set_option maxRecDepth 100000

theorem Knd.step_app {P : Program} {α : Type} {ops : Array Oper} {o : Oper} {a : Act} {w : World} {K : Act → World → Prop} {Q : Exit → Act → World → Prop} {E : Prop} (N : Knd P α) (hw : Region.wanted o (yielded ops a.tmps) = true) (s x : Operand) (ho : o.op = .call { callee := .builtin .append, args := #[s, x], argTypes := #[N.S, N.S] })
    (base : Nat) (v : Value) (l : List α) (hs : a.eval s = v) (hown : N.Own w base v l) (vy : Value) (ks : List α) (hx : a.eval x = vy) (hks : N.Rd w vy ks)
    (hl : l.length + ks.length ≤ 1000000) (hbase : base ≤ w.heap.size)
    (h : ∀ v' w', N.Own w' base v' (l ++ ks) → Below base w w' → w.grownBy w' v.ownBlock → K (a.put o.dst v') w') : if Region.wanted o (yielded ops a.tmps) = true then Oper.wp P o a w K Q else E := by
  obtain ⟨v', w', hr, q1, q2, q3, _⟩ := N.run_app hown vy ks hks (fun _ _ => trivial) hl hbase o.type
  rw [if_pos hw]
  unfold Oper.wp execOp
  simp only [ho, resolve, invoke, builtin, Sem.run_bind, Sem.run_pure, Result.andThen_ok, List.map_toArray, List.map_cons, List.map_nil, hs, hx, hr]
  exact h _ _ q1 q2 q3
theorem rowIs_lit2 {P : Program} {k : Nat} {K : Knd P (Cls k)} (hE : K.enc = Cls.cs) {α : Type} {S : Shp α} (w : World) (cs : List Value) (x : α) (hk : cs.length = k) (hs : S.is w cs x) (T : TypeId) (c : Nat) (g : Nat) (hg : w.heap.size = g) :
    ∃ r : Cls k, r.cs = cs ∧ RowIs K S (w.alloc (.cells cs.toArray T)) (.slice (some ⟨g, 0, none⟩) 1 c) [r] [x] := by
  refine ⟨⟨cs, hk, S.one hs⟩, rfl, ?_, rfl, fun j h1 h2 => ?_⟩
  · have e : K.row [(⟨cs, hk, S.one hs⟩ : Cls k)] = cs := by unfold Knd.row; rw [hE]; simp
    have := K.rd_lit [(⟨cs, hk, S.one hs⟩ : Cls k)] T 1 c rfl (by simp [maxLen]) w g hg
    rwa [e] at this
  · obtain rfl : j = 0 := by simp at h1; omega
    exact S.keep hs ((Below.refl _ _).alloc (Nat.le_refl _) _)
noncomputable def KrK : Knd Tryz.prog (Cls 13) := rawK Tryz.prog 53 38 13 136 (.agg (knE kn0 (.slice none 0 0)).toArray) Tryz.underlying38 (by kernel_rfl) rfl (by omega) (by omega) clsK
theorem krCell {w : World} {a : Option Addr} {n c : Nat} {rs : List (Cls 13)} {l : List Kn} (h : RowIs KrK knS w (.slice a n c) rs l) (k : Nat) (hk : k < n) : n = l.length ∧ ∃ (hl : k < l.length) (g off : Nat) (v : Value), a = some ⟨g, off, none⟩ ∧ g < w.heap.size ∧
    (∀ j u, (knE l[k] v)[j]? = some u → w.cell? ⟨g, off + k * 13 + j, none⟩ = some u) ∧ okI l[k].id ∧ IK.Rd w v l[k].a.2 ∧ okL l[k].a.2 := by
  obtain ⟨hn, hl, g, off, cs, ha, hg, ⟨v, hcs, h0, h1, h2⟩, hc⟩ := h.el rfl k hk
  subst hcs
  exact ⟨hn, hl, g, off, v, ha, hg, hc, h0, h1, h2⟩
set_option maxHeartbeats 1000000 in
theorem lsame_any (s1 s2 : Int) (v1 v2 : Value) (l1 l2 : List I3) (w : World) (h1 : IK.Rd w v1 l1) (n1 : l1.length ≤ 1000) (h2 : IK.Rd w v2 l2) (n2 : l2.length ≤ 1000) :
    Calls Tryz.prog 7 #[.agg #[.int .i64 s1, v1], .agg #[.int .i64 s2, v2]] w fun e w' => e = .returned (.bool (decide (s1 = s2) && decide (l1 = l2))) ∧ Below w.heap.size w w' := by
  obtain ⟨a1, c1, e1⟩ := h1.slice
  obtain ⟨a2, c2, e2⟩ := h2.slice
  subst e1
  subst e2
  have HC : Hid (∀ W, Below w.heap.size w W → Calls Tryz.prog 18 #[.slice a1 l1.length c1, .slice a2 l2.length c2] W fun e w' => e = .returned (.bool (decide (l1 = l2))) ∧ Below W.heap.size W w') := Lib.hid (fun W hb => row_any _ _ l1 l2 W (h1.below hb) (h2.below hb) (by omega) (by omega))
  obtain ⟨N1, hN1⟩ : ∃ N1, l1.length = N1 := ⟨_, rfl⟩
  obtain ⟨N2, hN2⟩ : ∃ N2, l2.length = N2 := ⟨_, rfl⟩
  rw [hN1, hN2] at HC
  rw [hN1, hN2]
  clear h1 h2 hN1 hN2 n1 n2
  obtain ⟨R, hR⟩ : ∃ R, decide (l1 = l2) = R := ⟨_, rfl⟩
  rw [hR] at HC ⊢
  clear hR
  cases g : (s1 == s2) with
  | true =>
    have e : decide (s1 = s2) = true := by simpa using g
    rw [e, Bool.true_and]
    clear e
    go_enter Tryz.func7, Tryz.ntmps7
    go_wp2_with fail
    refine (HC.out _ (al2 _ _ _)).mono ?_
    rintro e w1 ⟨rfl, hb⟩
    have HB := Lib.hid ((al2 _ _ _).trans (hb.mono (by simp; omega)))
    clear hb
    go_wp2
    go_ret
    exact ⟨rfl, HB.out⟩
  | false =>
    have e : decide (s1 = s2) = false := by simpa using g
    rw [e, Bool.false_and]
    clear e HC
    go_enter Tryz.func7, Tryz.ntmps7
    go_wp2
    go_ret
    exact ⟨rfl, al2 _ _ _⟩
theorem cls_ext {k : Nat} {a b : Cls k} (h : a.cs = b.cs) : a = b := by cases a; cases b; simp only at h; subst h; rfl
def OfP (l : List Kn) (w : World) (e : Ending) (w' : World) : Prop := ∃ v rs, Hid (e = .returned v) ∧ RowIs KrK knS w' v rs l ∧ Below w.heap.size w w'
set_option maxHeartbeats 8000000 in
theorem of_any (v : Value) (rs : List (Cls 13)) (l : List Kn) (w : World) (h : RowIs KnK knS w v rs l) (hl : l.length ≤ 1000) :
    Calls Tryz.prog 10 #[v] w (OfP l w) := by
  obtain ⟨a, ca, e⟩ := h.rd.slice
  subst e
  obtain ⟨N, hN⟩ : ∃ N, l.length = N := ⟨_, rfl⟩
  have hlen := h.len
  rw [hN] at hlen hl
  rw [hlen] at h ⊢
  have HN := Lib.hid hN
  have H := Lib.hid h
  have HLR := Lib.hid hlen
  clear h hN hlen
  go_enter Tryz.func10, Tryz.ntmps10
  go_wp2_with fail
  go_loopw [3, 4] (fun d i wr => ∃ (k : Nat) (v0 : Value) (ros : List (Cls 13)), k ≤ N ∧ v0 = d ∧ i = .int .i64 k ∧ Hid (KrK.Own wr w.heap.size v0 ros) ∧ Hid (ros = rs.take k) ∧ Hid (Below w.heap.size w wr)) (fun _ i _ => N - (intOf i).toNat)
  case atStart => exact ⟨0, _, [], Nat.zero_le _, rfl, rfl, Lib.hid (Knd.Own.nil _ _), Lib.hid rfl, Lib.hid (Below.refl _ _)⟩
  case round =>
    obtain ⟨k, v0, ros, hk, rfl, rfl, hO, hRO, hB⟩ := hrel
    have HO := Lib.hid hO.out
    have HBR := Lib.hid hB.out
    have HRO := Lib.hid hRO.out
    obtain ⟨va, vc, hve⟩ := HO.out.slice
    obtain ⟨M, hM⟩ : ∃ M, ros.length = M := ⟨_, rfl⟩
    rw [hM] at hve
    have HRL : Hid (ros.length ≤ 1000) := Lib.hid (by rw [HRO.out, List.length_take]; omega)
    clear hO hRO hB hM
    by_cases hlt : k < N
    · have hlt' : (k : Int) < (N : Int) := by omega
      have hkb : (k : Int) ≤ 1000 := by omega
      have hkr : k < rs.length := by rw [HLR.out]; exact hlt
      obtain ⟨e0, hkl, g2, off2, v2, hda, hg2, hc, hi0, hrd, hok2⟩ := knCell H.out k hlt
      subst hda
      obtain ⟨av, cv, hv2⟩ := hrd.slice
      obtain ⟨nv, hnv⟩ : ∃ nv, l[k].a.2.length = nv := ⟨_, rfl⟩
      rw [hnv] at hv2
      subst hv2
      obtain ⟨K1, hK1⟩ : ∃ K1, l[k] = K1 := ⟨_, rfl⟩
      rw [hK1] at hc hi0 hrd hok2
      have HRK : Hid (rs[k].cs = knE K1 (.slice av nv cv)) := Lib.hid (by
        obtain ⟨v3, q3, _⟩ := H.out.at' k hkr hkl
        rw [hK1] at q3
        have hcell : ∀ j u, rs[k].cs[j]? = some u → w.cell? ⟨g2, off2 + k * 13 + j, none⟩ = some u := by
          obtain ⟨_, gg, oo, haa, _, hcc⟩ := H.out.rd.at (by intro e; rw [e] at hkr; simp at hkr)
          simp only [Option.some.injEq, Addr.mk.injEq, and_true] at haa
          obtain ⟨rfl, rfl⟩ := haa
          intro j u hu
          refine hcc k hlt j u ?_
          have e1 : rs.getD k KnK.d = rs[k] := by simp [List.getD, hkr]
          rw [e1]
          exact hu
        rw [q3] at hcell ⊢
        have h12 := (hcell 12 v3 rfl).symm.trans (hc 12 (.slice av nv cv) rfl)
        simp only [Option.some.injEq] at h12
        rw [h12])
      obtain ⟨⟨x1, x2, x3⟩, ⟨d1, d2, d3, d4, d5, d6, d7, d8⟩, s2, l2⟩ := K1
      have q0 : w.cell? ⟨g2, off2 + k * 13, none⟩ = some (.int .i64 x1) := hc 0 _ rfl
      have q1 : w.cell? ⟨g2, off2 + k * 13 + 1, none⟩ = some (.int .i64 x2) := hc 1 _ rfl
      have q2 : w.cell? ⟨g2, off2 + k * 13 + 2, none⟩ = some (.int .i64 x3) := hc 2 _ rfl
      have q3 : w.cell? ⟨g2, off2 + k * 13 + 3, none⟩ = some (.int .i64 d1) := hc 3 _ rfl
      have q4 : w.cell? ⟨g2, off2 + k * 13 + 4, none⟩ = some (.int .i64 d2) := hc 4 _ rfl
      have q5 : w.cell? ⟨g2, off2 + k * 13 + 5, none⟩ = some (.int .i64 d3) := hc 5 _ rfl
      have q6 : w.cell? ⟨g2, off2 + k * 13 + 6, none⟩ = some (.string d4) := hc 6 _ rfl
      have q7 : w.cell? ⟨g2, off2 + k * 13 + 7, none⟩ = some (.string d5) := hc 7 _ rfl
      have q8 : w.cell? ⟨g2, off2 + k * 13 + 8, none⟩ = some (.int .i64 d6) := hc 8 _ rfl
      have q9 : w.cell? ⟨g2, off2 + k * 13 + 9, none⟩ = some (.int .i64 d7) := hc 9 _ rfl
      have q10 : w.cell? ⟨g2, off2 + k * 13 + 10, none⟩ = some (.int .i64 d8) := hc 10 _ rfl
      have q11 : w.cell? ⟨g2, off2 + k * 13 + 11, none⟩ = some (.int .i64 s2) := hc 11 _ rfl
      have q12 : w.cell? ⟨g2, off2 + k * 13 + 12, none⟩ = some (.slice av nv cv) := hc 12 _ rfl
      subst hve
      clear e0 hnv hK1
      have HC : Hid (∀ w' : World, Below w.heap.size w w' → (Below w.heap.size w w' ∧ w'.cell? ⟨g2, off2 + k * 13, none⟩ = some (.int .i64 x1) ∧ w'.cell? ⟨g2, off2 + k * 13 + 1, none⟩ = some (.int .i64 x2) ∧ w'.cell? ⟨g2, off2 + k * 13 + 2, none⟩ = some (.int .i64 x3) ∧ w'.cell? ⟨g2, off2 + k * 13 + 3, none⟩ = some (.int .i64 d1) ∧ w'.cell? ⟨g2, off2 + k * 13 + 4, none⟩ = some (.int .i64 d2) ∧ w'.cell? ⟨g2, off2 + k * 13 + 5, none⟩ = some (.int .i64 d3) ∧ w'.cell? ⟨g2, off2 + k * 13 + 6, none⟩ = some (.string d4) ∧ w'.cell? ⟨g2, off2 + k * 13 + 7, none⟩ = some (.string d5) ∧ w'.cell? ⟨g2, off2 + k * 13 + 8, none⟩ = some (.int .i64 d6) ∧ w'.cell? ⟨g2, off2 + k * 13 + 9, none⟩ = some (.int .i64 d7) ∧ w'.cell? ⟨g2, off2 + k * 13 + 10, none⟩ = some (.int .i64 d8) ∧ w'.cell? ⟨g2, off2 + k * 13 + 11, none⟩ = some (.int .i64 s2) ∧ w'.cell? ⟨g2, off2 + k * 13 + 12, none⟩ = some (.slice av nv cv))) := Lib.hid (fun w' hb => ⟨hb, (hb.cell (p := ⟨g2, off2 + k * 13, none⟩) hg2).trans q0, (hb.cell (p := ⟨g2, off2 + k * 13 + 1, none⟩) hg2).trans q1, (hb.cell (p := ⟨g2, off2 + k * 13 + 2, none⟩) hg2).trans q2, (hb.cell (p := ⟨g2, off2 + k * 13 + 3, none⟩) hg2).trans q3, (hb.cell (p := ⟨g2, off2 + k * 13 + 4, none⟩) hg2).trans q4, (hb.cell (p := ⟨g2, off2 + k * 13 + 5, none⟩) hg2).trans q5, (hb.cell (p := ⟨g2, off2 + k * 13 + 6, none⟩) hg2).trans q6, (hb.cell (p := ⟨g2, off2 + k * 13 + 7, none⟩) hg2).trans q7, (hb.cell (p := ⟨g2, off2 + k * 13 + 8, none⟩) hg2).trans q8, (hb.cell (p := ⟨g2, off2 + k * 13 + 9, none⟩) hg2).trans q9, (hb.cell (p := ⟨g2, off2 + k * 13 + 10, none⟩) hg2).trans q10, (hb.cell (p := ⟨g2, off2 + k * 13 + 11, none⟩) hg2).trans q11, (hb.cell (p := ⟨g2, off2 + k * 13 + 12, none⟩) hg2).trans q12⟩)
      obtain ⟨r1, hr1, hrx⟩ := rowIs_lit2 (K := KrK) (S := knS) rfl wr.drew [.int .i64 x1, .int .i64 x2, .int .i64 x3, .int .i64 d1, .int .i64 d2, .int .i64 d3, .string d4, .string d5, .int .i64 d6, .int .i64 d7, .int .i64 d8, .int .i64 s2, .slice av nv cv] (⟨(x1, x2, x3), ⟨d1, d2, d3, d4, d5, d6, d7, d8⟩, s2, l2⟩ : Kn) rfl ⟨.slice av nv cv, rfl, hi0, hrd.below (HBR.out.drew), hok2⟩ 53 1 wr.heap.size rfl
      have HRX := Lib.hid hrx
      have HR1 : Hid (r1 = rs[k]) := Lib.hid (cls_ext (hr1.trans HRK.out.symm))
      have hz0 : w.heap.size ≤ wr.heap.size := HBR.out.size
      have i1 : k < N := hlt
      clear hc hi0 hrd hok2 hr1 hrx q0 q1 q2 q3 q4 q5 q6 q7 q8 q9 q10 q11 q12
      go_wp2_with fail
      refine wp_region_held_drew (S := (fun w' => Below w.heap.size w w' ∧ w'.cell? ⟨g2, off2 + k * 13, none⟩ = some (.int .i64 x1) ∧ w'.cell? ⟨g2, off2 + k * 13 + 1, none⟩ = some (.int .i64 x2) ∧ w'.cell? ⟨g2, off2 + k * 13 + 2, none⟩ = some (.int .i64 x3) ∧ w'.cell? ⟨g2, off2 + k * 13 + 3, none⟩ = some (.int .i64 d1) ∧ w'.cell? ⟨g2, off2 + k * 13 + 4, none⟩ = some (.int .i64 d2) ∧ w'.cell? ⟨g2, off2 + k * 13 + 5, none⟩ = some (.int .i64 d3) ∧ w'.cell? ⟨g2, off2 + k * 13 + 6, none⟩ = some (.string d4) ∧ w'.cell? ⟨g2, off2 + k * 13 + 7, none⟩ = some (.string d5) ∧ w'.cell? ⟨g2, off2 + k * 13 + 8, none⟩ = some (.int .i64 d6) ∧ w'.cell? ⟨g2, off2 + k * 13 + 9, none⟩ = some (.int .i64 d7) ∧ w'.cell? ⟨g2, off2 + k * 13 + 10, none⟩ = some (.int .i64 d8) ∧ w'.cell? ⟨g2, off2 + k * 13 + 11, none⟩ = some (.int .i64 s2) ∧ w'.cell? ⟨g2, off2 + k * 13 + 12, none⟩ = some (.slice av nv cv))) (by kernel_rfl) ?_ (fun hHeld => ?_)
      · ((first
      | exact HC.out _ HBR.out.drew
      | exact HC.out _ hS5
      | exact HC.out _ (Below.alloc hHeld.1 (Below.size hHeld.1) _)
      | exact HC.out _ (Below.drew hHeld.1)
      | exact HC.out _ (Below.refl _ _).drew
      | exact HC.out _ (Below.refl _ _)
      | fail))
      refine wpAnyH_take (i := 0) (v := ?_) rfl (by kernel_rfl) (by kernel_rfl) (by kernel_rfl) (fun _ _ _ h => h) (Or.inl ⟨by rfl, ?_⟩) (by assumption) ?_
      rotate_left
      · (intro w hSw; (try dsimp only at hSw); go_simp; try rfl)
      try simp only [Act.put, List.setIfInBounds_toArray, List.set_cons_zero, List.set_cons_succ, List.getElem_toArray, List.getElem_cons_zero, List.getElem_cons_succ]
      refine wpAnyH_take (i := 1) (v := ?_) rfl (by kernel_rfl) (by kernel_rfl) (by kernel_rfl) (fun _ _ _ h => h) (Or.inl ⟨by rfl, ?_⟩) (by assumption) ?_
      rotate_left
      · (intro w hSw; (try dsimp only at hSw); go_simp; try rfl)
      try simp only [Act.put, List.setIfInBounds_toArray, List.set_cons_zero, List.set_cons_succ, List.getElem_toArray, List.getElem_cons_zero, List.getElem_cons_succ]
      refine wpAnyH_take (i := 2) (v := ?_) rfl (by kernel_rfl) (by kernel_rfl) (by kernel_rfl) (fun _ _ _ h => h) (Or.inl ⟨by rfl, ?_⟩) (by assumption) ?_
      rotate_left
      · (intro w hSw; (try dsimp only at hSw); go_simp; try rfl)
      try simp only [Act.put, List.setIfInBounds_toArray, List.set_cons_zero, List.set_cons_succ, List.getElem_toArray, List.getElem_cons_zero, List.getElem_cons_succ]
      refine wpAnyH_take (i := 3) (v := ?_) rfl (by kernel_rfl) (by kernel_rfl) (by kernel_rfl) (fun _ _ _ h => h) (Or.inl ⟨by rfl, ?_⟩) (by assumption) ?_
      rotate_left
      · (intro w hSw; (try dsimp only at hSw); go_simp; try rfl)
      try simp only [Act.put, List.setIfInBounds_toArray, List.set_cons_zero, List.set_cons_succ, List.getElem_toArray, List.getElem_cons_zero, List.getElem_cons_succ]
      refine wpAnyH_take (i := 4) (v := ?_) rfl (by kernel_rfl) (by kernel_rfl) (by kernel_rfl) (fun _ _ _ h => h) (Or.inl ⟨by rfl, ?_⟩) (by assumption) ?_
      rotate_left
      · (intro w hSw; (try dsimp only at hSw); go_simp; try rfl)
      try simp only [Act.put, List.setIfInBounds_toArray, List.set_cons_zero, List.set_cons_succ, List.getElem_toArray, List.getElem_cons_zero, List.getElem_cons_succ]
      refine wpAnyH_take (i := 5) (v := ?_) rfl (by kernel_rfl) (by kernel_rfl) (by kernel_rfl) (fun _ _ _ h => h) (Or.inl ⟨by rfl, ?_⟩) (by assumption) ?_
      rotate_left
      · (intro w hSw; (try dsimp only at hSw); go_simp; try rfl)
      try simp only [Act.put, List.setIfInBounds_toArray, List.set_cons_zero, List.set_cons_succ, List.getElem_toArray, List.getElem_cons_zero, List.getElem_cons_succ]
      refine wpAnyH_take (i := 6) (v := ?_) rfl (by kernel_rfl) (by kernel_rfl) (by kernel_rfl) (fun _ _ _ h => h) (Or.inl ⟨by rfl, ?_⟩) (by assumption) ?_
      rotate_left
      · (intro w hSw; (try dsimp only at hSw); go_simp; try rfl)
      try simp only [Act.put, List.setIfInBounds_toArray, List.set_cons_zero, List.set_cons_succ, List.getElem_toArray, List.getElem_cons_zero, List.getElem_cons_succ]
      refine wpAnyH_take (i := 7) (v := ?_) rfl (by kernel_rfl) (by kernel_rfl) (by kernel_rfl) (fun _ _ _ h => h) (Or.inl ⟨by rfl, ?_⟩) (by assumption) ?_
      rotate_left
      · (intro w hSw; (try dsimp only at hSw); go_simp; try rfl)
      try simp only [Act.put, List.setIfInBounds_toArray, List.set_cons_zero, List.set_cons_succ, List.getElem_toArray, List.getElem_cons_zero, List.getElem_cons_succ]
      refine wpAnyH_take (i := 8) (v := ?_) rfl (by kernel_rfl) (by kernel_rfl) (by kernel_rfl) (fun _ _ _ h => h) (Or.inl ⟨by rfl, ?_⟩) (by assumption) ?_
      rotate_left
      · (intro w hSw; (try dsimp only at hSw); go_simp; try rfl)
      try simp only [Act.put, List.setIfInBounds_toArray, List.set_cons_zero, List.set_cons_succ, List.getElem_toArray, List.getElem_cons_zero, List.getElem_cons_succ]
      refine wpAnyH_take (i := 9) (v := ?_) rfl (by kernel_rfl) (by kernel_rfl) (by kernel_rfl) (fun _ _ _ h => h) (Or.inl ⟨by rfl, ?_⟩) (by assumption) ?_
      rotate_left
      · (intro w hSw; (try dsimp only at hSw); go_simp; try rfl)
      try simp only [Act.put, List.setIfInBounds_toArray, List.set_cons_zero, List.set_cons_succ, List.getElem_toArray, List.getElem_cons_zero, List.getElem_cons_succ]
      refine wpAnyH_take (i := 10) (v := ?_) rfl (by kernel_rfl) (by kernel_rfl) (by kernel_rfl) (fun _ _ _ h => h) (Or.inl ⟨by rfl, ?_⟩) (by assumption) ?_
      rotate_left
      · (intro w hSw; (try dsimp only at hSw); go_simp; try rfl)
      try simp only [Act.put, List.setIfInBounds_toArray, List.set_cons_zero, List.set_cons_succ, List.getElem_toArray, List.getElem_cons_zero, List.getElem_cons_succ]
      refine wpAnyH_take (i := 11) (v := ?_) rfl (by kernel_rfl) (by kernel_rfl) (by kernel_rfl) (fun _ _ _ h => h) (Or.inl ⟨by rfl, ?_⟩) (by assumption) ?_
      rotate_left
      · (intro w hSw; (try dsimp only at hSw); go_simp; try rfl)
      try simp only [Act.put, List.setIfInBounds_toArray, List.set_cons_zero, List.set_cons_succ, List.getElem_toArray, List.getElem_cons_zero, List.getElem_cons_succ]
      refine wpAnyH_take (i := 12) (v := ?_) rfl (by kernel_rfl) (by kernel_rfl) (by kernel_rfl) (fun _ _ _ h => h) (Or.inl ⟨by rfl, ?_⟩) (by assumption) ?_
      rotate_left
      · (intro w hSw; (try dsimp only at hSw); go_simp; try rfl)
      try simp only [Act.put, List.setIfInBounds_toArray, List.set_cons_zero, List.set_cons_succ, List.getElem_toArray, List.getElem_cons_zero, List.getElem_cons_succ]
      refine wpAnyH_take (i := 13) (v := ?_) rfl (by kernel_rfl) (by kernel_rfl) (by kernel_rfl) (fun _ _ _ h => h) (Or.inl ⟨by rfl, ?_⟩) (by assumption) ?_
      rotate_left
      · (intro w hSw; (try dsimp only at hSw); go_simp; try rfl)
      try simp only [Act.put, List.setIfInBounds_toArray, List.set_cons_zero, List.set_cons_succ, List.getElem_toArray, List.getElem_cons_zero, List.getElem_cons_succ]
      refine wpAnyH_take (i := 14) (v := ?_) rfl (by kernel_rfl) (by kernel_rfl) (by kernel_rfl) (fun _ _ _ h => h) (Or.inl ⟨by rfl, ?_⟩) (by assumption) ?_
      rotate_left
      · (intro w hSw; (try dsimp only at hSw); go_simp; try rfl)
      try simp only [Act.put, List.setIfInBounds_toArray, List.set_cons_zero, List.set_cons_succ, List.getElem_toArray, List.getElem_cons_zero, List.getElem_cons_succ]
      refine wpAnyH_take (i := 15) (v := ?_) rfl (by kernel_rfl) (by kernel_rfl) (by kernel_rfl) (fun _ _ _ h => h) (Or.inl ⟨by rfl, ?_⟩) (by assumption) ?_
      rotate_left
      · (intro w hSw; (try dsimp only at hSw); go_simp; try rfl)
      try simp only [Act.put, List.setIfInBounds_toArray, List.set_cons_zero, List.set_cons_succ, List.getElem_toArray, List.getElem_cons_zero, List.getElem_cons_succ]
      refine wpAnyH_take (i := 16) (v := ?_) rfl (by kernel_rfl) (by kernel_rfl) (by kernel_rfl) (fun _ _ _ h => h) (Or.inl ⟨by rfl, ?_⟩) (by assumption) ?_
      rotate_left
      · (intro w hSw; (try dsimp only at hSw); go_simp; try rfl)
      try simp only [Act.put, List.setIfInBounds_toArray, List.set_cons_zero, List.set_cons_succ, List.getElem_toArray, List.getElem_cons_zero, List.getElem_cons_succ]
      refine wpAnyH_ready (rs := [17]) (by kernel_rfl) (by simp) ?_
      refine (AllReadyH.cons rfl (fun K hK => ?_) AllReadyH.nil)
      go_simp
      refine hK.out _ _ ?_ (fun hHeldN => ?_)
      · ((first
      | exact HC.out _ HBR.out.drew
      | exact HC.out _ hS5
      | exact HC.out _ (Below.alloc hHeld.1 (Below.size hHeld.1) _)
      | exact HC.out _ (Below.drew hHeld.1)
      | exact HC.out _ (Below.refl _ _).drew
      | exact HC.out _ (Below.refl _ _)
      | fail))
      clear hK K
      try clear hS5 hbw5
      try clear hPrev
      have hPrev := Lib.hid hHeld.1
      clear hHeld
      have hHeld := hHeldN
      clear hHeldN
      try simp only [Act.put, List.setIfInBounds_toArray, List.set_cons_zero, List.set_cons_succ, List.getElem_toArray, List.getElem_cons_zero, List.getElem_cons_succ]
      refine wpAnyH_ready (rs := [18]) (by kernel_rfl) (by simp) ?_
      refine (AllReadyH.cons rfl (fun K hK => ?_) AllReadyH.nil)
      refine Knd.step_app KrK (by rfl) _ _ rfl w.heap.size (.slice va M vc) ros rfl (HO.out.below (((Below.refl _ _).drew).alloc (Nat.le_refl _) _)) (.slice (some ⟨wr.heap.size, 0, none⟩) 1 1) [r1] rfl HRX.out.rd (by have := HRL.out; simp only [List.length_cons, List.length_nil]; omega) (by have := HBR.out.size; simp; omega) ?_
      intro v6 w6 ho6 hb6 hg6
      have hS5 : Below w.heap.size w w6 := (Below.alloc hPrev.out (Below.size hPrev.out) _).trans hb6
      have HO6 := Lib.hid ho6
      clear ho6 hb6 hg6
      refine hK.out _ _ ?_ (fun hHeldN => ?_)
      · ((first
      | exact HC.out _ HBR.out.drew
      | exact HC.out _ hS5
      | exact HC.out _ (Below.alloc hHeld.1 (Below.size hHeld.1) _)
      | exact HC.out _ (Below.drew hHeld.1)
      | exact HC.out _ (Below.refl _ _).drew
      | exact HC.out _ (Below.refl _ _)
      | fail))
      clear hK K
      try clear hS5 hbw5
      try clear hPrev
      have hPrev := Lib.hid hHeld.1
      clear hHeld
      have hHeld := hHeldN
      clear hHeldN
      try simp only [Act.put, List.setIfInBounds_toArray, List.set_cons_zero, List.set_cons_succ, List.getElem_toArray, List.getElem_cons_zero, List.getElem_cons_succ]
      refine wpAnyH_take (i := 19) (v := ?_) rfl (by kernel_rfl) (by kernel_rfl) (by kernel_rfl) (fun _ _ _ h => h) (Or.inl ⟨by rfl, ?_⟩) (by assumption) ?_
      rotate_left
      · (intro w hSw; (try dsimp only at hSw); go_simp; try rfl)
      try simp only [Act.put, List.setIfInBounds_toArray, List.set_cons_zero, List.set_cons_succ, List.getElem_toArray, List.getElem_cons_zero, List.getElem_cons_succ]
      refine wpAnyH_done (by kernel_rfl) ?_ _
      have HBE := Lib.hid hHeld.1
      clear hHeld hPrev HC
      obtain ⟨a6, c6, hv6⟩ := HO6.out.slice
      obtain ⟨M6, hM6⟩ : ∃ M, (ros ++ [r1]).length = M := ⟨_, rfl⟩
      rw [hM6] at hv6
      subst hv6
      clear hM6
      go_wp2
      go_roundw
      case rel => exact ⟨k + 1, _, ros ++ [r1], by omega, rfl, by go_num, HO6, Lib.hid (by rw [HRO.out, HR1.out, List.take_succ_eq_append_getElem hkr]), HBE⟩
      case measure => simp [intOf]; omega
    · obtain rfl : k = N := by omega
      subst hve
      go_wp2
      go_ret
      refine ⟨_, _, Lib.hid rfl, ⟨HO.out.rd, by rw [HRO.out, List.length_take, HLR.out, HN.out]; omega, fun j h1 h2 => ?_⟩, HBR.out⟩
      have hjr : j < rs.length := by rw [HLR.out, ← HN.out]; exact h2
      have e1 : ros[j] = rs[j] := by simp [HRO.out]
      rw [e1]
      exact knS.keep (H.out.at' j hjr h2) HBR.out
end Go.Proofs.YtfngjdcagopapaaGreat
