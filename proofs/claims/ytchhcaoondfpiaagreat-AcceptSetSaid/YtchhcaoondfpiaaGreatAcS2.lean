/-
  Package accept's laws: two rows of answers that are the same.
-/
import Derived.Test.YtchhcaoondfpiaaGreatAcLl
import Derived.Test.YtchhcaoondfpiaaGreatLex
import Derived.Deep.QuietTactic
import Derived.BigQuiet
namespace Go.Proofs.YtchhcaoondfpiaaGreat
open Go.RowKit Go.Sort
open Go.WideMaps
set_option linter.unusedSimpArgs false
set_option linter.unusedVariables false
set_option maxRecDepth 100000

theorem neI_self (a b c : Int) : ∀ w, Sem.run Tryz.prog (binOp .neq 37 (.agg #[.int .i64 a, .int .i64 b, .int .i64 c]) (.agg #[.int .i64 a, .int .i64 b, .int .i64 c])) w = .ok (.bool false) w := by
  intro w
  have h := (eqI_run a b c a b c).1 w
  rw [run_eql_struct] at h
  rw [run_neq_struct]
  revert h
  generalize Sem.run Tryz.prog (Op.equalIn 10000 37 (.agg #[.int .i64 a, .int .i64 b, .int .i64 c]) (.agg #[.int .i64 a, .int .i64 b, .int .i64 c])) w = r
  intro h
  cases r with
  | ok v w' => simp [Result.andThen] at h ⊢; simp [h]
  | halt x w' => simp [Result.andThen] at h
structure MsS (ga gb : Nat) (cs ds : List Value) (w' : World) : Prop where
  a : Bk w' ga 54 cs
  b : Bk w' gb 54 ds
set_option maxHeartbeats 8000000 in
theorem msgs_one (M : Mg) (ga gb : Nat) (u u2 : Value) (w : World) (hsn : M.sn = snp0) (ha : Bk w ga 54 (msE M u (.slice none 0 0) (.slice none 0 0) (.slice none 0 0))) (hb : Bk w gb 54 (msE M u2 (.slice none 0 0) (.slice none 0 0) (.slice none 0 0))) (h : IK.Rd w u M.ins.at'.2) (k : IK.Rd w u2 M.ins.at'.2) (hl : M.ins.at'.2.length ≤ 10000) : Calls Tryz.prog 18 #[.slice (some ⟨ga, 0, none⟩) 1 1, .slice (some ⟨gb, 0, none⟩) 1 1] w fun e w' => e = .returned (.bool true) ∧ Below w.heap.size w w' := by
  have HSx := sameI_any M.ins u u2
  obtain ⟨q0, q1, q2, ⟨q3, q4, q5⟩, ⟨q6, q7⟩, ⟨p0, ⟨p1, p2⟩, ⟨p3, p4⟩, ⟨p5, p6, p7, p8, p9, p10, p11, p12⟩, ps, pl⟩, sn0⟩ := M
  simp only at h k hl hsn ha hb HSx
  subst hsn
  obtain ⟨pa, pk, hs⟩ := h.slice
  obtain ⟨pb, pj, hs2⟩ := k.slice
  obtain ⟨P, hP⟩ : ∃ P, pl.length = P := ⟨_, rfl⟩
  rw [hP] at hs hs2
  subst hs hs2
  simp only [msE, inE, snV, snp0, List.cons_append, List.nil_append] at ha hb HSx
  have HA := Lib.hid ha
  have HB := Lib.hid hb
  have HSX : Hid (∀ w', Below w.heap.size w w' → Calls Tryz.prog 19 #[.agg #[.int .i64 p0, .int .i64 p1, .int .i64 p2, .int .i64 p3, .int .i64 p4, .int .i64 p5, .int .i64 p6, .int .i64 p7, .string p8, .string p9, .int .i64 p10, .int .i64 p11, .int .i64 p12, .int .i64 ps, .slice pa P pk], .agg #[.int .i64 p0, .int .i64 p1, .int .i64 p2, .int .i64 p3, .int .i64 p4, .int .i64 p5, .int .i64 p6, .int .i64 p7, .string p8, .string p9, .int .i64 p10, .int .i64 p11, .int .i64 p12, .int .i64 ps, .slice pb P pj]] w' (fun e w'' => e = .returned (.bool true) ∧ Below w'.heap.size w' w'')) := Lib.hid fun w' hb => HSx w' (h.below hb) (k.below hb) hl
  obtain ⟨_, gi⟩ := eqB_runA q6 q7 q6 q7 true (by simp)
  have ni := neB_runA q6 q7 q6 q7 true (by simp)
  have nd := neI_self q3 q4 q5
  obtain ⟨_, gd⟩ := eqI_run q3 q4 q5 q3 q4 q5
  clear ha hb h k hl hP HSx
  go_enter Tryz.func18, Tryz.ntmps18
  go_wp2_with fail
  go_loopw [5] (fun i wr => ∃ k : Nat, k ≤ 1 ∧ i = .int .i64 k ∧ Hid (Below w.heap.size w wr)) (fun i _ => 1 - (intOf i).toNat)
  case atStart => exact ⟨0, by omega, rfl, Lib.hid (Below.refl _ _)⟩
  case round =>
    obtain ⟨k, hk, rfl, hB⟩ := hrel
    by_cases hk0 : k = 0
    · subst hk0
      have HKP : Hid (∀ w', Below wr.heap.size wr w' → MsS ga gb [.int .i64 q0, .int .i64 q1, .int .i64 q2, .int .i64 q3, .int .i64 q4, .int .i64 q5, .int .i64 q6, .int .i64 q7, .int .i64 p0, .int .i64 p1, .int .i64 p2, .int .i64 p3, .int .i64 p4, .int .i64 p5, .int .i64 p6, .int .i64 p7, .string p8, .string p9, .int .i64 p10, .int .i64 p11, .int .i64 p12, .int .i64 ps, .slice pa P pk, .int .i64 0, .slice none 0 0, .slice none 0 0, .slice none 0 0] [.int .i64 q0, .int .i64 q1, .int .i64 q2, .int .i64 q3, .int .i64 q4, .int .i64 q5, .int .i64 q6, .int .i64 q7, .int .i64 p0, .int .i64 p1, .int .i64 p2, .int .i64 p3, .int .i64 p4, .int .i64 p5, .int .i64 p6, .int .i64 p7, .string p8, .string p9, .int .i64 p10, .int .i64 p11, .int .i64 p12, .int .i64 ps, .slice pb P pj, .int .i64 0, .slice none 0 0, .slice none 0 0, .slice none 0 0] w') := Lib.hid fun w' hb => ⟨(HA.out.below hB.out).below hb, (HB.out.below hB.out).below hb⟩
      have HSA : Hid (∀ w', Below wr.heap.size wr w' → Calls Tryz.prog 19 #[.agg #[.int .i64 p0, .int .i64 p1, .int .i64 p2, .int .i64 p3, .int .i64 p4, .int .i64 p5, .int .i64 p6, .int .i64 p7, .string p8, .string p9, .int .i64 p10, .int .i64 p11, .int .i64 p12, .int .i64 ps, .slice pa P pk], .agg #[.int .i64 p0, .int .i64 p1, .int .i64 p2, .int .i64 p3, .int .i64 p4, .int .i64 p5, .int .i64 p6, .int .i64 p7, .string p8, .string p9, .int .i64 p10, .int .i64 p11, .int .i64 p12, .int .i64 ps, .slice pb P pj]] w' (fun e w'' => e = .returned (.bool true) ∧ Below w'.heap.size w' w'')) := Lib.hid fun w' hb => HSX.out w' (hB.out.trans (hb.mono hB.out.size))
      go_wp2_with fail
      refine wp_region_held_drew (S := (MsS ga gb [.int .i64 q0, .int .i64 q1, .int .i64 q2, .int .i64 q3, .int .i64 q4, .int .i64 q5, .int .i64 q6, .int .i64 q7, .int .i64 p0, .int .i64 p1, .int .i64 p2, .int .i64 p3, .int .i64 p4, .int .i64 p5, .int .i64 p6, .int .i64 p7, .string p8, .string p9, .int .i64 p10, .int .i64 p11, .int .i64 p12, .int .i64 ps, .slice pa P pk, .int .i64 0, .slice none 0 0, .slice none 0 0, .slice none 0 0] [.int .i64 q0, .int .i64 q1, .int .i64 q2, .int .i64 q3, .int .i64 q4, .int .i64 q5, .int .i64 q6, .int .i64 q7, .int .i64 p0, .int .i64 p1, .int .i64 p2, .int .i64 p3, .int .i64 p4, .int .i64 p5, .int .i64 p6, .int .i64 p7, .string p8, .string p9, .int .i64 p10, .int .i64 p11, .int .i64 p12, .int .i64 ps, .slice pb P pj, .int .i64 0, .slice none 0 0, .slice none 0 0, .slice none 0 0])) (by kernel_rfl) ?_ (fun hHeld => ?_)
      · ((first
        | exact HKP.out _ hbS
        | exact HKP.out _ (Below.refl wr.heap.size wr).drew
        | exact HKP.out _ (Below.refl _ _)
        | fail))
      refine tkA 0 (v := ?_) ?_ ?_
      rotate_left
      · (intro w' hSw; clear hSw; go_simp; try rfl)
      try simp only [Act.put, gA1, gA2, gA3, gA4, gA5, gA6]
      refine tkA 1 (v := ?_) ?_ ?_
      rotate_left
      · (intro w' hSw; clear hSw; go_simp; try rfl)
      try simp only [Act.put, gA1, gA2, gA3, gA4, gA5, gA6]
      refine tkA 2 (v := ?_) ?_ ?_
      rotate_left
      · (intro w' hSw; clear hSw; go_simp; try rfl)
      try simp only [Act.put, gA1, gA2, gA3, gA4, gA5, gA6]
      refine tkA 3 (v := ?_) ?_ ?_
      rotate_left
      · (intro w' hSw; clear hSw; go_simp; try rfl)
      try simp only [Act.put, gA1, gA2, gA3, gA4, gA5, gA6]
      refine tkA 4 (v := ?_) ?_ ?_
      rotate_left
      · (intro w' hSw; have e8 := Bk.cell hSw.a 8; have e9 := Bk.cell hSw.a 9; have e10 := Bk.cell hSw.a 10; have e11 := Bk.cell hSw.a 11; have e12 := Bk.cell hSw.a 12; have e13 := Bk.cell hSw.a 13; have e14 := Bk.cell hSw.a 14; have e15 := Bk.cell hSw.a 15; have e16 := Bk.cell hSw.a 16; have e17 := Bk.cell hSw.a 17; have e18 := Bk.cell hSw.a 18; have e19 := Bk.cell hSw.a 19; have e20 := Bk.cell hSw.a 20; have e21 := Bk.cell hSw.a 21; have e22 := Bk.cell hSw.a 22; simp only [List.getElem?_cons_zero, List.getElem?_cons_succ] at e8 e9 e10 e11 e12 e13 e14 e15 e16 e17 e18 e19 e20 e21 e22; clear hSw; go_simp; try rfl)
      try simp only [Act.put, gA1, gA2, gA3, gA4, gA5, gA6]
      refine tkA 5 (v := ?_) ?_ ?_
      rotate_left
      · (intro w' hSw; clear hSw; go_simp; try rfl)
      try simp only [Act.put, gA1, gA2, gA3, gA4, gA5, gA6]
      refine tkA 6 (v := ?_) ?_ ?_
      rotate_left
      · (intro w' hSw; clear hSw; go_simp; try rfl)
      try simp only [Act.put, gA1, gA2, gA3, gA4, gA5, gA6]
      refine tkA 7 (v := ?_) ?_ ?_
      rotate_left
      · (intro w' hSw; clear hSw; go_simp; try rfl)
      try simp only [Act.put, gA1, gA2, gA3, gA4, gA5, gA6]
      refine tkA 8 (v := ?_) ?_ ?_
      rotate_left
      · (intro w' hSw; clear hSw; go_simp; try rfl)
      try simp only [Act.put, gA1, gA2, gA3, gA4, gA5, gA6]
      refine tkA 9 (v := ?_) ?_ ?_
      rotate_left
      · (intro w' hSw; have e8 := Bk.cell hSw.b 8; have e9 := Bk.cell hSw.b 9; have e10 := Bk.cell hSw.b 10; have e11 := Bk.cell hSw.b 11; have e12 := Bk.cell hSw.b 12; have e13 := Bk.cell hSw.b 13; have e14 := Bk.cell hSw.b 14; have e15 := Bk.cell hSw.b 15; have e16 := Bk.cell hSw.b 16; have e17 := Bk.cell hSw.b 17; have e18 := Bk.cell hSw.b 18; have e19 := Bk.cell hSw.b 19; have e20 := Bk.cell hSw.b 20; have e21 := Bk.cell hSw.b 21; have e22 := Bk.cell hSw.b 22; simp only [List.getElem?_cons_zero, List.getElem?_cons_succ] at e8 e9 e10 e11 e12 e13 e14 e15 e16 e17 e18 e19 e20 e21 e22; clear hSw; go_simp; try rfl)
      try simp only [Act.put, gA1, gA2, gA3, gA4, gA5, gA6]
      refine wpAnyH_ready (rs := [10]) (by kernel_rfl) (by simp) ?_
      refine (AllReadyH.cons rfl (fun K hK => ?_) AllReadyH.nil)
      go_simp
      (go_at_call 19; refine (HSA.out _ (Below.refl wr.heap.size wr).drew).mono ?_; rintro e ws ⟨rfl, hbq⟩; have hbS : Below wr.heap.size wr ws := (Below.refl wr.heap.size wr).drew.trans hbq; clear hbq)
      refine hK.out _ _ ?_ (fun hHeld => ?_)
      · ((first
        | exact HKP.out _ hbS
        | exact HKP.out _ (Below.refl wr.heap.size wr).drew
        | exact HKP.out _ (Below.refl _ _)
        | fail))
      clear hK K
      try simp only [Act.put, gA1, gA2, gA3, gA4, gA5, gA6]
      refine tkA 11 (v := ?_) ?_ ?_
      rotate_left
      · (intro w' hSw; clear hSw; go_simp; try rfl)
      try simp only [Act.put, gA1, gA2, gA3, gA4, gA5, gA6]
      refine wpAnyH_done (by kernel_rfl) ?_ _
      go_split_ands
      clear HKP
      have HBS : Hid (Below w.heap.size w ws) := Lib.hid (hB.out.trans (hbS.mono hB.out.size))
      clear hbS
      have q1 := (HA.out.below HBS.out)
      have q2 := (HB.out.below HBS.out)
      have a0 := Bk.cell q1 0
      have a1 := Bk.cell q1 1
      have a2 := Bk.cell q1 2
      have a3 := Bk.cell q1 3
      have a4 := Bk.cell q1 4
      have a5 := Bk.cell q1 5
      have a6 := Bk.cell q1 6
      have a7 := Bk.cell q1 7
      have a23 := Bk.cell q1 23
      have a24 := Bk.cell q1 24
      have b0 := Bk.cell q2 0
      have b1 := Bk.cell q2 1
      have b2 := Bk.cell q2 2
      have b3 := Bk.cell q2 3
      have b4 := Bk.cell q2 4
      have b5 := Bk.cell q2 5
      have b6 := Bk.cell q2 6
      have b7 := Bk.cell q2 7
      have b23 := Bk.cell q2 23
      have b24 := Bk.cell q2 24
      simp only [List.getElem?_cons_zero, List.getElem?_cons_succ] at a0 b0 a1 b1 a2 b2 a3 b3 a4 b4 a5 b5 a6 b6 a7 b7 a23 b23 a24 b24
      clear q1 q2 HA HB HSX HSA hB
      go_wp2_with fail
      generalize (Value.agg #[.int .i64 p0, .int .i64 p1, .int .i64 p2, .int .i64 p3, .int .i64 p4, .int .i64 p5, .int .i64 p6, .int .i64 p7, .string p8, .string p9, .int .i64 p10, .int .i64 p11, .int .i64 p12, .int .i64 ps, .slice pa P pk]) = VA
      generalize (Value.agg #[.int .i64 p0, .int .i64 p1, .int .i64 p2, .int .i64 p3, .int .i64 p4, .int .i64 p5, .int .i64 p6, .int .i64 p7, .string p8, .string p9, .int .i64 p10, .int .i64 p11, .int .i64 p12, .int .i64 ps, .slice pb P pj]) = VB
      refine wp_region_quiet_lit (by kernel_rfl) (lexOK_lexB (by kernel_rfl) (by kernel_rfl)) ?_
      iterate 12 go_big_quiet_step (fail)
      as_aux_lemma =>
        iterate 12 go_big_quiet_step (fail)
        as_aux_lemma =>
          iterate 12 go_big_quiet_step (fail)
          as_aux_lemma =>
            iterate 12 go_big_quiet_step (fail)
            as_aux_lemma =>
              iterate 12 go_big_quiet_step (fail)
              as_aux_lemma =>
                iterate 12 go_big_quiet_step (fail)
                as_aux_lemma =>
                  iterate 12 go_big_quiet_step (fail)
                  as_aux_lemma =>
                    iterate 12 go_big_quiet_step (fail)
                    as_aux_lemma =>
                      iterate 7 go_big_quiet_step (fail)
                      as_aux_lemma =>
                        refine wpQuiet_nil ?_
                        intro _ hw'
                        obtain ⟨nq, hw''⟩ := hw'
                        subst hw''
                        have HBd : Hid (Below w.heap.size w (ws.drewN nq)) := Lib.hid ⟨HBS.out.os, HBS.out.tape, HBS.out.output, HBS.out.size, HBS.out.block⟩
                        clear HBS
                        generalize ws.drewN nq = wt at *
                        go_wp2
                        go_roundw
                        case rel => exact ⟨1, Nat.le_refl _, rfl, HBd⟩
                        case measure => simp [intOf]

    · obtain rfl : k = 1 := by omega
      go_wp2
      go_ret
      exact ⟨rfl, hB.out⟩
set_option maxHeartbeats 2000000 in
theorem msgs_nil (w : World) : Calls Tryz.prog 18 #[.slice none 0 0, .slice none 0 0] w fun e w' => e = .returned (.bool true) ∧ Below w.heap.size w w' := by
  go_enter Tryz.func18, Tryz.ntmps18
  go_wp2_with fail
  go_loopw [5] (fun i wr => i = .int .i64 0 ∧ Hid (Below w.heap.size w wr)) (fun i _ => 1)
  case atStart => exact ⟨rfl, Lib.hid (Below.refl _ _)⟩
  case round =>
    obtain ⟨rfl, hB⟩ := hrel
    go_wp2
    go_ret
    exact ⟨rfl, hB.out⟩
theorem msgs_any {w : World} {N N2 : Nat} {v v2 : Value} {l : List Mg} (h : AnsIs w N v l) (k : AnsIs w N2 v2 l) (hs : ∀ M ∈ l, M.sn = snp0 ∧ M.ins.at'.2.length ≤ 10000) : Calls Tryz.prog 18 #[v, v2] w fun e w' => e = .returned (.bool true) ∧ Below w.heap.size w w' := by
  rcases h with ⟨rfl, rfl⟩ | ⟨M, g', u, rfl, rfl, h1, h2, _⟩
  · rcases k with ⟨_, rfl⟩ | ⟨M2, _, _, e, _⟩
    · exact msgs_nil w
    · cases e
  · rcases k with ⟨e, _⟩ | ⟨M2, g2, u2, e, rfl, k1, k2, _⟩
    · cases e
    · cases e
      have q := hs M (.head _)
      exact msgs_one M g' g2 u u2 w q.1 h1 k1 h2.rd k2.rd q.2
end Go.Proofs.YtchhcaoondfpiaaGreat
