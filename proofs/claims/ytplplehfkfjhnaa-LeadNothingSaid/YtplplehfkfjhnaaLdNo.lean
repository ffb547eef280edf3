/-
  Leads: of whom nobody knows anything, nothing is made: the law's walk.
-/
import Derived.Test.YtplplehfkfjhnaaLdX
import Derived.Test.YtplplehfkfjhnaaLdU2
import Derived.Test.YtplplehfkfjhnaaLdEq
namespace Go.Proofs.Ytplplehfkfjhnaa
open Go.RowKit
open Bb (quoN thN allB)
set_option linter.unusedSimpArgs false
set_option linter.unusedVariables false
set_option maxRecDepth 100000

/-- Who was heard, as flags. -/
def bsV (n : Nat) (ws : List Int) : List Value := (nds n).map fun x => .bool (inB x ws)
theorem bsV_at (n : Nat) (ws : List Int) (j : Nat) : (bsV n ws)[j]? = if j < n then some (.bool (inB (j : Int) ws)) else none := by
  unfold bsV nds
  by_cases h : j < n
  · simp [h]
  · rw [if_neg h]; simp; omega
theorem bsV_set (n : Nat) (ws : List Int) (f : Nat) : (bsV n ws).set f (.bool true) = bsV n (ws ++ [(f : Int)]) := by
  apply List.ext_getElem?
  intro j
  rw [List.getElem?_set, bsV_at, bsV_at]
  have hl : (bsV n ws).length = n := by simp [bsV, nds_len]
  rw [hl]
  by_cases h : f = j
  · subst h
    rw [if_pos rfl]
    by_cases h2 : f < n
    · simp [h2, inB]
    · simp [h2]
  · rw [if_neg h]
    have h3 : inB (j : Int) (ws ++ [(f : Int)]) = inB (j : Int) ws := by
      have h4 : ¬ (j : Int) = (f : Int) := by omega
      simp [inB, h4]
    rw [h3]
theorem run_mkb (w : World) (n : Nat) (h : n ≤ 7) : (Instr.makeSlice 70 (.int .i64 (n : Int)) (.int .i64 (n : Int))).run Try.prog w = .ok (.slice (some ⟨w.heap.size, 0, none⟩) n n) (w.alloc (.cells (bsV n []).toArray 4)) := by
  obtain rfl | rfl | rfl | rfl | rfl | rfl | rfl | rfl : n = 0 ∨ n = 1 ∨ n = 2 ∨ n = 3 ∨ n = 4 ∨ n = 5 ∨ n = 6 ∨ n = 7 := by omega
  all_goals kernel_rfl
theorem dec_two (k a : Nat) : decide (k < 2 * (a + 1)) = decide ((k : Int) < 2 * ((a : Int) + 1)) := by
  by_cases h : k < 2 * (a + 1)
  · rw [decide_eq_true h, decide_eq_true (by omega)]
  · rw [decide_eq_false h, decide_eq_false (by omega)]
set_option maxHeartbeats 8000000 in
theorem nothing_law (n0 i1 i2 i3 b1 b2 : Int) (ao : Option Addr) (N co : Nat) (W : World) (hN : N ≤ 9223372036854775807)
    (hr : ∀ i, i < N → ∃ (q off : Nat) (x : Int), ao = some ⟨q, off, none⟩ ∧ q < W.heap.size ∧ W.cell? ⟨q, off + i, none⟩ = some (.int .u8 x) ∧ 0 ≤ x ∧ x ≤ 255) :
    Calls Try.prog 7 #[.int .i64 n0, .agg #[.int .i64 i1, .int .i64 i2, .int .i64 i3], .agg #[.int .i64 b1, .int .i64 b2], .slice ao N co] W fun e w' => e = .returned (.bool true) ∧ Below W.heap.size W w' := by
  obtain ⟨X0, hX0⟩ : ∃ X0, (W.alloc (.cells #[.int .i64 i1, .int .i64 i2, .int .i64 i3] 27)).alloc (.cells #[.int .i64 b1, .int .i64 b2] 29) = X0 := ⟨_, rfl⟩
  have HI0 : Hid (Bk X0 W.heap.size 27 [.int .i64 i1, .int .i64 i2, .int .i64 i3]) := Lib.hid (by rw [← hX0]; exact (Bk.newAt rfl _ [.int .i64 i1, .int .i64 i2, .int .i64 i3]).old _)
  have HB0 : Hid (Bk X0 (W.heap.size + 1) 29 [.int .i64 b1, .int .i64 b2]) := Lib.hid (by rw [← hX0]; exact Bk.newAt (by simp) _ [.int .i64 b1, .int .i64 b2])
  have HW0 : Hid (Below W.heap.size W X0) := Lib.hid (by rw [← hX0]; exact ((Below.refl _ _).alloc (Nat.le_refl _) _).alloc (by simp) _)
  have HWk := Lib.hid (works_any X0)
  have HR := Lib.hid hr
  clear hr
  go_enter Try.func7, Try.ntmps7
  go_wp2_with fail
  try rw [hX0]
  refine HWk.out.mono ?_
  rintro e w1 ⟨rfl, hb⟩
  have HI1 := Lib.hid (HI0.out.below hb)
  have HB1 := Lib.hid (HB0.out.below hb)
  have HW1 := Lib.hid (HW0.out.trans (hb.mono HW0.out.size))
  clear hX0 HI0 HB0 HW0 HWk hb
  by_cases q1 : n0 < 1
  · have d1 : decide (n0 < 1) = true := decide_eq_true q1
    go_wp2
    go_ret
    exact ⟨rfl, HW1.out⟩
  have d1 : decide (n0 < 1) = false := decide_eq_false q1
  by_cases q2 : 7 < n0
  · have d2 : decide (7 < n0) = true := decide_eq_true q2
    go_wp2
    go_ret
    exact ⟨rfl, HW1.out⟩
  have d2 : decide (7 < n0) = false := decide_eq_false q2
  by_cases q3 : (60 : Int) < (N : Int)
  · have d3 : decide ((60 : Int) < (N : Int)) = true := decide_eq_true q3
    have d3n : decide (60 < N) = true := decide_eq_true (by omega)
    go_wp2
    go_ret
    exact ⟨rfl, HW1.out⟩
  have d3 : decide ((60 : Int) < (N : Int)) = false := decide_eq_false q3
  have d3n : decide (60 < N) = false := decide_eq_false (by omega)
  obtain ⟨n, rfl⟩ : ∃ n : Nat, n0 = n := ⟨n0.toNat, by omega⟩
  have hn1 : 1 ≤ n := by omega
  have hn7 : n ≤ 7 := by omega
  have hN60 : N ≤ 60 := by omega
  have hN1 : 1 ≤ n ∧ n ≤ 7 := ⟨hn1, hn7⟩
  go_wp2_with fail
  clear q1 q2 q3 d1 d2 d3 d3n
  go_loopw [11] (fun i wr => ∃ (k : Nat) (va : Value), k ≤ n ∧ i = .int .i64 k ∧ Hid (Bk wr w1.heap.size 24 [.int .i64 0, va]) ∧ Hid (OwnI wr (w1.heap.size + 1) va (nds k)) ∧ Hid (Below w1.heap.size w1 wr) ∧ Hid (w1.heap.size + 1 ≤ wr.heap.size)) (fun i _ => n - (intOf i).toNat)
  case atStart => exact ⟨0, .slice none 0 0, Nat.zero_le _, rfl, Lib.hid (Bk.newAt rfl _ [.int .i64 0, .slice none 0 0]), Lib.hid (OwnI.nil _ _), Lib.hid ((Below.refl _ _).alloc (Nat.le_refl _) _), Lib.hid (by simp)⟩
  case round =>
    obtain ⟨k, va, hk, rfl, hA, hO, hB, hS⟩ := hrel
    by_cases hlt : k < n
    · have hk1 : (k : Int) < (n : Int) := by omega
      have hd1 : decide ((k : Int) < (n : Int)) = true := decide_eq_true hk1
      have c0 := hA.out.cell 0
      have c1 := hA.out.cell 1
      simp only [List.getElem?_cons_zero, List.getElem?_cons_succ] at c0 c1
      have hlw := hA.out.lt
      have HL : Hid ((nds k).length ≤ 60) := Lib.hid (by rw [nds_len]; omega)
      go_wp2_with (first
        | refine wpList_appI rfl _ _ rfl (w1.heap.size + 1) va (nds k) rfl (OwnI.alloc hO.out _) _ [(k : Int)] rfl (it_one _ (k : Int) _ rfl) (by have := HL.out; simp only [List.length_singleton]; omega) (by have := hS.out; simp; omega) ?_
        | fail)
      intro v2 w2 ho2 hb2 hz2 _
      obtain ⟨a2, c2, e2, _⟩ := (ho2.it (by simp [nds_len]; omega)).row
      obtain ⟨M2, hM2⟩ : ∃ M, (nds k ++ [(k : Int)]).length = M := ⟨_, rfl⟩
      rw [hM2] at e2
      subst e2
      have hs2 := hS.out
      have HBk2 : Hid (Bk w2 w1.heap.size 24 [.int .i64 0, va]) := Lib.hid ((hA.out.old _).on hb2 (by omega))
      have HO2 := Lib.hid ho2
      have HB2 : Hid (Below w1.heap.size w1 w2) := Lib.hid ((hB.out.alloc hB.out.size _).trans (hb2.mono (by omega)))
      have HS2 : Hid (w1.heap.size + 1 ≤ w2.heap.size) := Lib.hid (by have := hb2.size; simp at this; omega)
      have e0 := HBk2.out.cell 0
      have e1 := HBk2.out.cell 1
      have f1 := HBk2.out.fz 1
      simp only [List.getElem?_cons_zero, List.getElem?_cons_succ] at e0 e1
      clear ho2 hb2 hs2 c0 c1 hlw hz2 hM2
      go_wp2_with fail
      go_roundw
      case rel =>
        refine ⟨k + 1, _, by omega, by go_num, Lib.hid (HBk2.out.set 1 (.slice a2 M2 c2)), Lib.hid ?_, Lib.hid (HB2.out.trans (((OnlyG.refl _ _).set _ _).below.mono (Nat.le_refl _))), Lib.hid (by simpa using HS2.out)⟩
        rw [nds_snoc]
        refine HO2.out.keepB fun j hj => Below.heap_setCell _ _ _ j ?_
        have := ownI_from HO2.out j hj
        show j ≠ w1.heap.size
        omega
      case measure => simp [intOf]; omega
    · have e : k = n := by omega
      subst e
      obtain ⟨av, cv, e1, _⟩ := (hO.out.it (by rw [nds_len]; omega)).row
      have HT := Lib.hid (hO.out.it (by rw [nds_len]; omega))
      subst e1
      have hd1 : decide ((k : Int) < (k : Int)) = false := decide_eq_false (by omega)
      have c0 := hA.out.cell 0
      have c1 := hA.out.cell 1
      have z0 := (HI1.out.below (hB.out)).cell 0
      have z1 := (HI1.out.below (hB.out)).cell 1
      have z2 := (HI1.out.below (hB.out)).cell 2
      have z3 := (HB1.out.below (hB.out)).cell 0
      have z4 := (HB1.out.below (hB.out)).cell 1
      simp only [List.getElem?_cons_zero, List.getElem?_cons_succ] at c0 c1 z0 z1 z2 z3 z4
      go_wp2_with fail
      refine (take_any 0 av cv (nds k) 0 i1 i2 i3 b1 b2 wr HT.out (by rw [nds_len]; omega)).mono ?_
      rintro e w2 ⟨g, he, hl, hb⟩
      rw [he.out]
      have HL2 : Hid (LdAt w2 wr.heap.size g (pyL k (i1, i2, i3) (b1, b2) [])) := Lib.hid hl
      have HB2 : Hid (Below w1.heap.size w1 w2) := Lib.hid (hB.out.trans (hb.mono hB.out.size))
      have hmk := run_mkb w2 k hN1.2
      clear he hl hb hA hO hS HT c0 c1 z0 z1 z2 z3 z4 hd1
      go_wp2_with fail
      obtain ⟨B, hBe⟩ : ∃ B, wr.heap.size = B := ⟨_, rfl⟩
      have hwB : w1.heap.size ≤ B := hBe ▸ hB.out.size
      rw [hBe] at HL2
      obtain ⟨hb, hhb⟩ : ∃ hb, w2.heap.size = hb := ⟨_, rfl⟩
      have HWW := Lib.hid (HW1.out.trans (HB2.out.mono HW1.out.size))
      have hWs := HW1.out.size
      have hbB : w1.heap.size ≤ hb := hhb ▸ HB2.out.size
      have HW1o := HW1
      have HHB := Lib.hid hhb
      try simp only [hhb]
      clear hB hBe HW1 hhb
      go_loopw [14, 15] (fun kv i wr => ∃ (j : Nat) (ws : List Int), j ≤ N ∧ kv = .int .i64 ws.length ∧ i = .int .i64 j ∧ Hid ws.Nodup ∧ Hid (∀ x ∈ ws, x ∈ nds k) ∧ Hid (LdAt wr B g (pyS k (i1, i2, i3) (b1, b2) ws)) ∧ Hid (Bk wr hb 4 (bsV k ws)) ∧ Hid (Below w1.heap.size w1 wr)) (fun _ i _ => N - (intOf i).toNat)
      case atStart => exact ⟨0, [], Nat.zero_le _, rfl, rfl, Lib.hid List.nodup_nil, Lib.hid (fun x hx => by cases hx), Lib.hid (by
          have h := HL2.out.below ((Below.refl w2.heap.size w2).alloc (Nat.le_refl _) (.cells (bsV k []).toArray 4))
          unfold pyS
          rw [if_neg (by simp)]
          exact h), Lib.hid (Bk.newAt HHB.out _ _), Lib.hid (HB2.out.alloc HB2.out.size _)⟩
      case round =>
        clear HL2 HB2 HWW hmk
        obtain ⟨j, ws, hj, rfl, rfl, hD, hS, hL, hK, hBl⟩ := hrel
        have hwl : ws.length ≤ k := by have := nodup_len ws (nds k) hD.out hS.out; rw [nds_len] at this; exact this
        by_cases hlt : j < N
        · have hj1 : (j : Int) < (N : Int) := by omega
          have hj2 : decide ((j : Int) < (N : Int)) = true := decide_eq_true hj1
          have hj3 : decide (j < N) = true := decide_eq_true hlt
          obtain ⟨q, off, x, rfl, hq, hc, hx0, hx1⟩ := HR.out j hlt
          have hcell := ((HW1o.out.trans (hBl.out.mono hWs)).cell (p := ⟨q, off + j, none⟩) hq).trans hc
          have hwx : wrap64 x = x := by unfold wrap64; omega
          have hwx2 : IntKind.i64.wrap x = x := IntWalk.i64_in _ (by omega)
          have hkz : ¬ ((k : Int) = 0) := by omega
          have z0 := (HI1.out.below (hBl.out)).cell 0
          have z1 := (HI1.out.below (hBl.out)).cell 1
          have z2 := (HI1.out.below (hBl.out)).cell 2
          have z3 := (HB1.out.below (hBl.out)).cell 0
          have z4 := (HB1.out.below (hBl.out)).cell 1
          simp only [List.getElem?_cons_zero, List.getElem?_cons_succ] at z0 z1 z2 z3 z4
          by_cases h2 : (k : Int) < 2 * (ws.length : Int)
          · have h2d : decide ((k : Int) < 2 * (ws.length : Int)) = true := decide_eq_true h2
            have h2n : decide (k < 2 * ws.length) = true := decide_eq_true (by omega)
            go_wp2_with fail
            go_roundw
            case rel => exact ⟨j + 1, ws, by omega, rfl, by go_num, hD, hS, hL, hK, hBl⟩
            case measure => simp [intOf]; omega
          · have h2d : decide ((k : Int) < 2 * (ws.length : Int)) = false := decide_eq_false h2
            have h2n : decide (k < 2 * ws.length) = false := decide_eq_false (by omega)
            have h2x : ¬ k < 2 * ws.length := by omega
            have hLy : Hid (LdAt wr B g (pyL k (i1, i2, i3) (b1, b2) ws)) := Lib.hid (by have h := hL.out; unfold pyS at h; rw [if_neg h2x] at h; exact h)
            obtain ⟨f, hf⟩ : ∃ f : Nat, x % (k : Int) = f := ⟨(x % (k : Int)).toNat, by have := Int.emod_nonneg x hkz; omega⟩
            have hfk : f < k := by have := Int.emod_lt_of_pos x (show (0 : Int) < (k : Int) by omega); omega
            go_wp2_with fail
            try simp only [hf]
            refine (py_hear (W0 := wr) hLy.out hN1.1 hN1.2 hD.out hS.out ((nds_mem k (f : Int)).2 ⟨by omega, by omega⟩) h2x).mono ?_
            rintro e w3 ⟨he, hl, hbw, hk3⟩
            have HK3 : Hid (Bk w3 hb 4 (bsV k ws)) := Lib.hid (hk3.keep hb _ _ _ hK.out (by decide) (by decide) (by decide))
            have HB3 : Hid (Below w1.heap.size w1 w3) := Lib.hid (hBl.out.trans (hbw.mono hwB))
            have hcb := HK3.out.cell f
            rw [bsV_at, if_pos hfk] at hcb
            have hfz := HK3.out.fz f
            have HF := Lib.hid hf
            have HX := Lib.hid hwx2
            clear hf hwx hwx2 hx0 hx1 hbw hk3 hL hLy hK z0 z1 z2 z3 z4 hcell hkz
            cases hin : inB (f : Int) ws with
            | true =>
              have hpw : pyW ws (f : Int) = ws := by unfold pyW; rw [if_pos hin]
              rw [hpw] at he hl
              rw [h2n] at he
              rw [he.out]
              rw [hin] at hcb
              have HL3 := Lib.hid hl
              clear he hl hpw hin
              go_wp2_with fail
              clear hcb hfz
              go_roundw
              case rel => exact ⟨j + 1, ws, by omega, rfl, by go_num, hD, hS, HL3, HK3, HB3⟩
              case measure => simp [intOf]; omega
            | false =>
              have hpw : pyW ws (f : Int) = ws ++ [(f : Int)] := by unfold pyW; rw [if_neg (by rw [hin]; decide)]
              have hla : (ws ++ [(f : Int)]).length = ws.length + 1 := by simp
              rw [hpw] at he hl
              rw [hla, dec_two] at he
              rw [hin] at hcb
              have hni : (f : Int) ∉ ws := by simpa [inB] using hin
              have HD2 : Hid (ws ++ [(f : Int)]).Nodup := Lib.hid (List.nodup_append.2 ⟨hD.out, by simp, fun a ha c hc => by simp at hc; subst hc; exact fun e => hni (e ▸ ha)⟩)
              have HS2 : Hid (∀ x ∈ ws ++ [(f : Int)], x ∈ nds k) := Lib.hid (fun x hx => by
                rcases List.mem_append.1 hx with r | r
                · exact hS.out x r
                · simp at r; subst r; exact (nds_mem k (f : Int)).2 ⟨by omega, by omega⟩)
              have HL3 : Hid (LdAt (w3.setCell ⟨hb, f, none⟩ (.bool true)) B g (pyS k (i1, i2, i3) (b1, b2) (ws ++ [(f : Int)]))) := Lib.hid (hl.stay ⟨_, _, HK3.out⟩ (by decide) (by decide) (by decide) (by decide) (by simp) (fun q _ hq => Below.heap_setCell _ _ _ q hq))
              have HK4 : Hid (Bk (w3.setCell ⟨hb, f, none⟩ (.bool true)) hb 4 (bsV k (ws ++ [(f : Int)]))) := Lib.hid (by rw [← bsV_set]; exact HK3.out.set f (.bool true))
              have HB4 : Hid (Below w1.heap.size w1 (w3.setCell ⟨hb, f, none⟩ (.bool true))) := Lib.hid (HB3.out.trans (((OnlyG.refl _ _).set _ _).below.mono hbB))
              have HLA := Lib.hid hla
              clear hpw hin hl hla hni h2 h2d h2n h2x
              obtain ⟨d, hd⟩ : ∃ d, decide ((k : Int) < 2 * ((ws.length : Int) + 1)) = d := ⟨_, rfl⟩
              rw [hd] at he
              rw [he.out]
              clear he
              cases d with
              | true =>
                go_wp2_with fail
                clear hcb hfz hd
                go_roundw
                case rel => exact ⟨j + 1, ws ++ [(f : Int)], by omega, by rw [HLA.out]; go_num, by go_num, HD2, HS2, HL3, HK4, HB4⟩
                case measure => simp [intOf]; omega
              | false =>
                go_wp2_with fail
                clear hcb hfz hd
                go_roundw
                case rel => exact ⟨j + 1, ws ++ [(f : Int)], by omega, by rw [HLA.out]; go_num, by go_num, HD2, HS2, HL3, HK4, HB4⟩
                case measure => simp [intOf]; omega
        · have e : j = N := by omega
          subst e
          have hj2 : decide ((j : Int) < (j : Int)) = false := decide_eq_false (by omega)
          have hj3 : decide (j < j) = false := decide_eq_false (by omega)
          have hd2 := hD.out
          have hs2 := hS.out
          have hM0 : (((nds k).filter fun x => !inB x ws).length : Int) = (k : Int) - (ws.length : Int) := by
            rw [rest_len, thN_len ws _ hd2 hs2 (nds_nodup k), nds_len]
          by_cases h2 : k < 2 * ws.length
          · have h2i : ¬ 2 * (ws.length : Int) ≤ (k : Int) := by omega
            have h2d : decide (2 * (ws.length : Int) ≤ (k : Int)) = false := decide_eq_false h2i
            have hLy : Hid (LdAt wr B g (entL (pyL k (i1, i2, i3) (b1, b2) ws) 1 cm0 (0, []))) := Lib.hid (by have h := hL.out; unfold pyS at h; rw [if_pos h2] at h; exact h)
            have HOk : Hid (LOk (entL (pyL k (i1, i2, i3) (b1, b2) ws) 1 cm0 (0, []))) := Lib.hid ((pyL_ok k _ _ ws hN1.2 hd2 hs2).ent _ _ _ (by decide))
            clear hM0 hd2 hs2
            go_wp2_with fail
            refine (ask1_any hLy.out HOk.out rfl).mono ?_
            rintro e w3 ⟨u, he, ho, hb⟩
            rw [he.out]
            obtain ⟨au, cu, e0⟩ : ∃ a c, u = .slice a 0 c := ho.slice
            subst e0
            have hLit : (msE (askL (entL (pyL k (i1, i2, i3) (b1, b2) ws) 1 cm0 (0, []))) (.slice au 0 cu) (.slice none 0 0) (.slice none 0 0) (.slice none 0 0)).toArray = #[.int .i64 2, .int .i64 0, .int .i64 0, .int .i64 i1, .int .i64 i2, .int .i64 i3, .int .i64 b1, .int .i64 b2, .int .i64 0, .int .i64 0, .int .i64 0, .int .i64 0, .int .i64 0, .int .i64 0, .int .i64 0, .int .i64 0, .string ⟨#[]⟩, .string ⟨#[]⟩, .int .i64 0, .int .i64 0, .int .i64 0, .int .i64 0, .slice au 0 cu, .int .i64 0, .slice none 0 0, .slice none 0 0, .slice none 0 0] := by kernel_rfl
            rw [hLit]
            have HZ := Lib.hid (Bk.new w3 44 [.int .i64 0, .int .i64 0, .int .i64 0, .int .i64 0, .int .i64 0, .int .i64 0, .int .i64 0, .int .i64 0, .int .i64 0, .int .i64 0, .int .i64 0, .int .i64 0, .int .i64 0, .int .i64 0, .int .i64 0, .int .i64 0, .string ⟨#[]⟩, .string ⟨#[]⟩, .int .i64 0, .int .i64 0, .int .i64 0, .int .i64 0, .slice none 0 0, .int .i64 0, .slice none 0 0, .slice none 0 0, .slice none 0 0])
            have HS3 := Lib.hid (bk_setRow (ds := [.int .i64 2, .int .i64 0, .int .i64 0, .int .i64 i1, .int .i64 i2, .int .i64 i3, .int .i64 b1, .int .i64 b2, .int .i64 0, .int .i64 0, .int .i64 0, .int .i64 0, .int .i64 0, .int .i64 0, .int .i64 0, .int .i64 0, .string ⟨#[]⟩, .string ⟨#[]⟩, .int .i64 0, .int .i64 0, .int .i64 0, .int .i64 0, .slice au 0 cu, .int .i64 0, .slice none 0 0, .slice none 0 0, .slice none 0 0]) HZ.out)
            have HX := Lib.hid (hBl.out.trans (hb.mono hBl.out.size))
            have HL3 := Lib.hid (hLy.out.below hb)
            clear he ho hLit hb hLy hL hK hBl
            obtain ⟨Y, hY⟩ : ∃ Y, (w3.alloc (.cells #[.int .i64 0, .int .i64 0, .int .i64 0, .int .i64 0, .int .i64 0, .int .i64 0, .int .i64 0, .int .i64 0, .int .i64 0, .int .i64 0, .int .i64 0, .int .i64 0, .int .i64 0, .int .i64 0, .int .i64 0, .int .i64 0, .string ⟨#[]⟩, .string ⟨#[]⟩, .int .i64 0, .int .i64 0, .int .i64 0, .int .i64 0, .slice none 0 0, .int .i64 0, .slice none 0 0, .slice none 0 0, .slice none 0 0] 44)).setRow w3.heap.size #[.int .i64 2, .int .i64 0, .int .i64 0, .int .i64 i1, .int .i64 i2, .int .i64 i3, .int .i64 b1, .int .i64 b2, .int .i64 0, .int .i64 0, .int .i64 0, .int .i64 0, .int .i64 0, .int .i64 0, .int .i64 0, .int .i64 0, .string ⟨#[]⟩, .string ⟨#[]⟩, .int .i64 0, .int .i64 0, .int .i64 0, .int .i64 0, .slice au 0 cu, .int .i64 0, .slice none 0 0, .slice none 0 0, .slice none 0 0] = Y := ⟨_, rfl⟩
            have HPb : Hid (Bk Y w3.heap.size 44 [.int .i64 2, .int .i64 0, .int .i64 0, .int .i64 i1, .int .i64 i2, .int .i64 i3, .int .i64 b1, .int .i64 b2, .int .i64 0, .int .i64 0, .int .i64 0, .int .i64 0, .int .i64 0, .int .i64 0, .int .i64 0, .int .i64 0, .string ⟨#[]⟩, .string ⟨#[]⟩, .int .i64 0, .int .i64 0, .int .i64 0, .int .i64 0, .slice au 0 cu, .int .i64 0, .slice none 0 0, .slice none 0 0, .slice none 0 0]) := Lib.hid (by rw [← hY]; exact HS3.out)
            have hwy : Below w3.heap.size w3 Y := by rw [← hY]; exact below_setRow ((Below.refl _ _).alloc (Nat.le_refl _) _) (Nat.le_refl _) _
            have HL4 := Lib.hid (HL3.out.below hwy)
            have HX2 := Lib.hid (HX.out.trans (hwy.mono HX.out.size))
            clear HS3 HL3 HX hwy
            have x0 := HPb.out.cell 0
            have x6 := HPb.out.cell 6
            have x7 := HPb.out.cell 7
            have x13 := HPb.out.cell 13
            have x14 := HPb.out.cell 14
            have x15 := HPb.out.cell 15
            have x16 := HPb.out.cell 16
            have x17 := HPb.out.cell 17
            have x18 := HPb.out.cell 18
            have x19 := HPb.out.cell 19
            have x20 := HPb.out.cell 20
            have x21 := HPb.out.cell 21
            have x22 := HPb.out.cell 22
            simp only [List.getElem?_cons_zero, List.getElem?_cons_succ] at x0 x6 x7 x13 x14 x15 x16 x17 x18 x19 x20 x21 x22
            have z3 := (HB1.out.below HX2.out).cell 0
            have z4 := (HB1.out.below HX2.out).cell 1
            simp only [List.getElem?_cons_zero, List.getElem?_cons_succ] at z3 z4
            obtain ⟨ec1, -, ec3⟩ := eqC_self 0 0 0 ⟨#[]⟩ ⟨#[]⟩ 0 0 0
            have eb2 := eqBals.2
            have eb1 : ∀ w, Sem.run Try.prog (binOp .eql 29 (.agg #[.int .i64 b1, .int .i64 b2]) (.agg #[.int .i64 b1, .int .i64 b2])) w = .ok (.bool true) w := fun w => by
              have h : _ = Result.ok (Value.bool (decide (((b1, b2) : Bal) = (b1, b2)))) w := eqBals.1 (b1, b2) (b1, b2) w
              rw [decide_eq_true rfl] at h
              exact h
            have eb3 : ∀ op x y w, Sem.run Try.prog (eqGuard op 29 x y (.agg #[.int .i64 b1, .int .i64 b2]) (.agg #[.int .i64 b1, .int .i64 b2])) w = .ok () w := fun op x y w => eqBals.2 op x y (b1, b2) (b1, b2) w
            clear HPb eb2
            go_wp2_with (first
              | refine _root_.Go.wpList_store_row rfl _ _ _ rfl w3.heap.size #[.int .i64 2, .int .i64 0, .int .i64 0, .int .i64 i1, .int .i64 i2, .int .i64 i3, .int .i64 b1, .int .i64 b2, .int .i64 0, .int .i64 0, .int .i64 0, .int .i64 0, .int .i64 0, .int .i64 0, .int .i64 0, .int .i64 0, .string ⟨#[]⟩, .string ⟨#[]⟩, .int .i64 0, .int .i64 0, .int .i64 0, .int .i64 0, .slice au 0 cu, .int .i64 0, .slice none 0 0, .slice none 0 0, .slice none 0 0] rfl rfl 44 _ HZ.out infoMs rfl (all_toL (l := [.int .i64 2, .int .i64 0, .int .i64 0, .int .i64 i1, .int .i64 i2, .int .i64 i3, .int .i64 b1, .int .i64 b2, .int .i64 0, .int .i64 0, .int .i64 0, .int .i64 0, .int .i64 0, .int .i64 0, .int .i64 0, .int .i64 0, .string ⟨#[]⟩, .string ⟨#[]⟩, .int .i64 0, .int .i64 0, .int .i64 0, .int .i64 0, .slice au 0 cu, .int .i64 0, .slice none 0 0, .slice none 0 0, .slice none 0 0]) rfl) ?_
              | fail)
            go_ret
            exact ⟨rfl, HW1o.out.trans (HX2.out.mono HW1o.out.size)⟩
          · have h2i : 2 * (ws.length : Int) ≤ (k : Int) := by omega
            have h2d : decide (2 * (ws.length : Int) ≤ (k : Int)) = true := decide_eq_true h2i
            have hLy : Hid (LdAt wr B g (pyL k (i1, i2, i3) (b1, b2) ws)) := Lib.hid (by have h := hL.out; unfold pyS at h; rw [if_neg h2] at h; exact h)
            have HOk : Hid (LOk (pyL k (i1, i2, i3) (b1, b2) ws)) := Lib.hid (pyL_ok k _ _ ws hN1.2 hd2 hs2)
            clear hd2 hs2
            go_wp2_with fail
            refine (ask2_any hLy.out HOk.out rfl).mono ?_
            rintro e w3 ⟨u, he, ho, hb⟩
            rw [he.out]
            obtain ⟨au, cu, e0⟩ : ∃ a c, u = .slice a 0 c := ho.slice
            subst e0
            have hLit : (msE (askL (pyL k (i1, i2, i3) (b1, b2) ws)) (.slice au 0 cu) (.slice none 0 0) (.slice none 0 0) (.slice none 0 0)).toArray = #[.int .i64 5, .int .i64 0, .int .i64 0, .int .i64 i1, .int .i64 i2, .int .i64 i3, .int .i64 b1, .int .i64 b2, .int .i64 0, .int .i64 0, .int .i64 0, .int .i64 0, .int .i64 0, .int .i64 0, .int .i64 0, .int .i64 0, .string ⟨#[]⟩, .string ⟨#[]⟩, .int .i64 0, .int .i64 0, .int .i64 0, .int .i64 0, .slice au 0 cu, .int .i64 0, .slice none 0 0, .slice none 0 0, .slice none 0 0] := by kernel_rfl
            rw [hLit]
            have HZ := Lib.hid (Bk.new w3 44 [.int .i64 0, .int .i64 0, .int .i64 0, .int .i64 0, .int .i64 0, .int .i64 0, .int .i64 0, .int .i64 0, .int .i64 0, .int .i64 0, .int .i64 0, .int .i64 0, .int .i64 0, .int .i64 0, .int .i64 0, .int .i64 0, .string ⟨#[]⟩, .string ⟨#[]⟩, .int .i64 0, .int .i64 0, .int .i64 0, .int .i64 0, .slice none 0 0, .int .i64 0, .slice none 0 0, .slice none 0 0, .slice none 0 0])
            have HS3 := Lib.hid (bk_setRow (ds := [.int .i64 5, .int .i64 0, .int .i64 0, .int .i64 i1, .int .i64 i2, .int .i64 i3, .int .i64 b1, .int .i64 b2, .int .i64 0, .int .i64 0, .int .i64 0, .int .i64 0, .int .i64 0, .int .i64 0, .int .i64 0, .int .i64 0, .string ⟨#[]⟩, .string ⟨#[]⟩, .int .i64 0, .int .i64 0, .int .i64 0, .int .i64 0, .slice au 0 cu, .int .i64 0, .slice none 0 0, .slice none 0 0, .slice none 0 0]) HZ.out)
            have HX := Lib.hid (hBl.out.trans (hb.mono hBl.out.size))
            have HL3 := Lib.hid (hLy.out.below hb)
            clear he ho hLit hb hLy hL hK hBl
            obtain ⟨Y, hY⟩ : ∃ Y, (w3.alloc (.cells #[.int .i64 0, .int .i64 0, .int .i64 0, .int .i64 0, .int .i64 0, .int .i64 0, .int .i64 0, .int .i64 0, .int .i64 0, .int .i64 0, .int .i64 0, .int .i64 0, .int .i64 0, .int .i64 0, .int .i64 0, .int .i64 0, .string ⟨#[]⟩, .string ⟨#[]⟩, .int .i64 0, .int .i64 0, .int .i64 0, .int .i64 0, .slice none 0 0, .int .i64 0, .slice none 0 0, .slice none 0 0, .slice none 0 0] 44)).setRow w3.heap.size #[.int .i64 5, .int .i64 0, .int .i64 0, .int .i64 i1, .int .i64 i2, .int .i64 i3, .int .i64 b1, .int .i64 b2, .int .i64 0, .int .i64 0, .int .i64 0, .int .i64 0, .int .i64 0, .int .i64 0, .int .i64 0, .int .i64 0, .string ⟨#[]⟩, .string ⟨#[]⟩, .int .i64 0, .int .i64 0, .int .i64 0, .int .i64 0, .slice au 0 cu, .int .i64 0, .slice none 0 0, .slice none 0 0, .slice none 0 0] = Y := ⟨_, rfl⟩
            have HPb : Hid (Bk Y w3.heap.size 44 [.int .i64 5, .int .i64 0, .int .i64 0, .int .i64 i1, .int .i64 i2, .int .i64 i3, .int .i64 b1, .int .i64 b2, .int .i64 0, .int .i64 0, .int .i64 0, .int .i64 0, .int .i64 0, .int .i64 0, .int .i64 0, .int .i64 0, .string ⟨#[]⟩, .string ⟨#[]⟩, .int .i64 0, .int .i64 0, .int .i64 0, .int .i64 0, .slice au 0 cu, .int .i64 0, .slice none 0 0, .slice none 0 0, .slice none 0 0]) := Lib.hid (by rw [← hY]; exact HS3.out)
            have hwy : Below w3.heap.size w3 Y := by rw [← hY]; exact below_setRow ((Below.refl _ _).alloc (Nat.le_refl _) _) (Nat.le_refl _) _
            have HL4 := Lib.hid (HL3.out.below hwy)
            have HX2 := Lib.hid (HX.out.trans (hwy.mono HX.out.size))
            clear HS3 HL3 HX hwy
            have x0 := HPb.out.cell 0
            simp only [List.getElem?_cons_zero, List.getElem?_cons_succ] at x0
            clear HPb
            go_wp2_with (first
              | refine _root_.Go.wpList_store_row rfl _ _ _ rfl w3.heap.size #[.int .i64 5, .int .i64 0, .int .i64 0, .int .i64 i1, .int .i64 i2, .int .i64 i3, .int .i64 b1, .int .i64 b2, .int .i64 0, .int .i64 0, .int .i64 0, .int .i64 0, .int .i64 0, .int .i64 0, .int .i64 0, .int .i64 0, .string ⟨#[]⟩, .string ⟨#[]⟩, .int .i64 0, .int .i64 0, .int .i64 0, .int .i64 0, .slice au 0 cu, .int .i64 0, .slice none 0 0, .slice none 0 0, .slice none 0 0] rfl rfl 44 _ HZ.out infoMs rfl (all_toL (l := [.int .i64 5, .int .i64 0, .int .i64 0, .int .i64 i1, .int .i64 i2, .int .i64 i3, .int .i64 b1, .int .i64 b2, .int .i64 0, .int .i64 0, .int .i64 0, .int .i64 0, .int .i64 0, .int .i64 0, .int .i64 0, .int .i64 0, .string ⟨#[]⟩, .string ⟨#[]⟩, .int .i64 0, .int .i64 0, .int .i64 0, .int .i64 0, .slice au 0 cu, .int .i64 0, .slice none 0 0, .slice none 0 0, .slice none 0 0]) rfl) ?_
              | fail)
            refine (wait_any HL4.out HOk.out).mono ?_
            rintro e w5 ⟨v, he, ho, hb⟩
            rw [he.out]
            obtain ⟨av, cv, ev⟩ := OwnI.slice ho
            have HX3 := Lib.hid (HX2.out.trans (hb.mono HX2.out.size))
            obtain ⟨M, hM⟩ : ∃ M, (wtL (pyL k (i1, i2, i3) (b1, b2) ws)).length = M := ⟨_, rfl⟩
            have hM1 : (M : Int) = (k : Int) - (ws.length : Int) := by rw [← hM]; exact hM0
            rw [hM] at ev
            subst ev
            obtain ⟨y, hy⟩ : ∃ y : Int, (k : Int) - (ws.length : Int) = y := ⟨_, rfl⟩
            have hwy : wrap64 y = y := by unfold wrap64; omega
            have hwy2 : IntKind.i64.wrap y = y := IntWalk.i64_in _ (by omega)
            rw [hy] at hM1
            subst hM1
            have hee : ((M : Int) == (M : Int)) = true := by simp
            clear he ho hb hM hM0 HL4
            go_wp2_with fail
            go_ret
            exact ⟨by simp, HW1o.out.trans (HX3.out.mono HW1o.out.size)⟩
end Go.Proofs.Ytplplehfkfjhnaa
