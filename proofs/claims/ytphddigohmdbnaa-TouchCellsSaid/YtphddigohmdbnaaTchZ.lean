/-
  The law TouchCells walked.
-/
import Derived.Test.YtphddigohmdbnaaTchX
namespace Go.Proofs.Ytphddigohmdbnaa
open Go.RowKit
set_option linter.unusedSimpArgs false
set_option linter.unusedVariables false

theorem below_dq {B : Nat} {a w : World} (h : Below B a w) (q : Nat) : Below B a (w.drewN q) := ⟨h.os, h.tape, h.output, h.size, h.block⟩
def ovr1 (p x : ByteArray) : Bool := decide (300 < p.size) || decide (300 < x.size)
set_option maxHeartbeats 2000000 in
theorem over1_any (g : Nat) (p1 x1 : ByteArray) (w : World) (d3 : w.cell? ⟨g, 3, none⟩ = some (.string p1)) (d4 : w.cell? ⟨g, 4, none⟩ = some (.string x1)) :
    Calls Try.prog 9 #[.slice (some ⟨g, 0, none⟩) 1 1] w fun e w' => e = .returned (.bool (ovr1 p1 x1)) ∧ w = w' := by
  obtain ⟨R, hR⟩ : ∃ R, ovr1 p1 x1 = R := ⟨_, rfl⟩
  rw [hR]
  have HR := Lib.hid hR
  clear hR
  go_enter Try.func9, Try.ntmps9
  go_wp2_with fail
  go_loop [3] (fun i => ∃ k : Nat, k ≤ 1 ∧ i = .int .i64 k ∧ Hid (0 < k → p1.size ≤ 300 ∧ x1.size ≤ 300)) (fun i => 1 - (intOf i).toNat)
  case atStart => exact ⟨0, by omega, rfl, Lib.hid (fun h => by omega)⟩
  case round =>
    obtain ⟨k, hk, rfl, h1⟩ := hrel
    have hk3 : k = 0 ∨ k = 1 := by omega
    rcases hk3 with rfl | rfl
    · by_cases y1 : (300 : Int) < p1.size
      · have e : R = true := by rw [← HR.out]; unfold ovr1; have : 300 < p1.size := by omega
                                simp [this]
        subst e
        clear h1 HR
        go_wp2
        go_ret
        exact ⟨rfl, rfl⟩
      · by_cases y2 : (300 : Int) < x1.size
        · have e : R = true := by rw [← HR.out]; unfold ovr1; have : 300 < x1.size := by omega
                                  simp [this]
          subst e
          clear h1 HR
          go_wp2
          go_ret
          exact ⟨rfl, rfl⟩
        · go_wp2
          go_round
          case rel => exact ⟨1, by omega, rfl, Lib.hid (fun _ => ⟨by omega, by omega⟩)⟩
          case measure => simp [intOf]
    · have e : R = false := by
        rw [← HR.out]; unfold ovr1
        have := h1.out (by omega)
        have h2 : ¬ 300 < p1.size := by omega
        have h3 : ¬ 300 < x1.size := by omega
        simp [h2, h3]
      subst e
      clear h1 HR
      go_wp2
      go_ret
      exact ⟨rfl, rfl⟩
theorem par_ne {p : ByteArray} (hn : nmL p ≠ []) : par p ≠ p := by
  intro e
  have h := (par_of hn).2.2
  rw [e] at h
  have := congrArg List.length h
  rw [List.length_dropLast] at this
  have h0 : (nmL p).length ≠ 0 := fun q => hn (List.eq_nil_of_length_eq_zero q)
  omega
theorem rt_eq {p : ByteArray} (hv : vld p = true) (hn : nmL p = []) : rt = p := by
  rw [vld_pth hv, hn]; rfl
theorem rds_in (op : Int) (p : ByteArray) : ∀ c ∈ rds op p, (c.1 = p ∨ c.1 = par p) ∧ (c.2 = 101 ∨ c.2 = 118 ∨ c.2 = 107) := by
  intro c hc
  unfold rds at hc
  by_cases hv : vld p = false
  · rw [if_pos hv] at hc; cases hc
  · rw [if_neg hv] at hc
    have hv' : vld p = true := by simpa using hv
    by_cases hn : nmL p = []
    · have hr := rt_eq hv' hn
      repeat' split at hc
      all_goals simp only [List.mem_cons, List.not_mem_nil, or_false] at hc
      all_goals first
        | exact hc.elim
        | (subst hc; exact ⟨.inl hr, .inl rfl⟩)
        | (subst hc; simp; done)
        | (rcases hc with rfl | rfl <;> simp)
    · repeat' split at hc
      all_goals simp only [List.mem_cons, List.not_mem_nil, or_false] at hc
      all_goals first
        | exact hc.elim
        | (rcases hc with rfl | rfl <;> simp)
        | (subst hc; simp)
        | contradiction
theorem wrs_in (op : Int) (p : ByteArray) : ∀ c ∈ wrs op p, (c.1 = p ∨ c.1 = par p) ∧ (c.2 = 101 ∨ c.2 = 118 ∨ c.2 = 107) := by
  intro c hc
  unfold wrs at hc
  repeat' split at hc
  all_goals simp only [List.mem_cons, List.not_mem_nil, or_false] at hc
  all_goals first
    | exact hc.elim
    | (rcases hc with rfl | rfl | rfl <;> simp)
    | (subst hc; simp)
theorem rds_nodup (op : Int) (p : ByteArray) : (rds op p).Nodup := by
  unfold rds
  by_cases hn : nmL p = []
  · simp only [hn, if_true]
    repeat' split
    all_goals simp
  · have h := par_ne hn
    simp only [hn, if_false]
    repeat' split
    all_goals first
      | (simp; done)
      | (simp; exact fun q => h q)
      | simp [h]
theorem wrs_nodup (op : Int) (p : ByteArray) : (wrs op p).Nodup := by
  unfold wrs
  repeat' split
  all_goals simp
theorem all_apart (op : Int) (p : ByteArray) (i k : Nat) (hi : i < (rds op p ++ wrs op p).length) (hk : k < i) (h : i < (rds op p).length ∨ (rds op p).length ≤ k) :
    (rds op p ++ wrs op p).getD i (ByteArray.empty, 0) ≠ (rds op p ++ wrs op p).getD k (ByteArray.empty, 0) := by
  have hr := rds_nodup op p
  have hw := wrs_nodup op p
  generalize rds op p = r at *
  generalize wrs op p = x at *
  rw [List.length_append] at hi
  simp only [List.getD, List.getElem?_append]
  rcases h with h | h
  · rw [if_pos h, if_pos (by omega), List.getElem?_eq_getElem h, List.getElem?_eq_getElem (by omega)]
    simp only [Option.getD_some]
    intro e
    have := (List.getElem_inj hr).1 e
    omega
  · rw [if_neg (by omega), if_neg (by omega), List.getElem?_eq_getElem (by omega), List.getElem?_eq_getElem (by omega)]
    simp only [Option.getD_some]
    intro e
    have := (List.getElem_inj hw).1 e
    omega
theorem wrs_novld {op : Int} {p : ByteArray} (h : vld p = false) : wrs op p = [] := by unfold wrs; rw [if_pos (.inl h)]
set_option maxRecDepth 100000 in
set_option maxHeartbeats 16000000 in
theorem cells_law (c1 s1 o1 : Int) (p1 x1 : ByteArray) (n1 a1 b1 : Int) (w : World) (hm : ML w) : Calls Try.prog 7 #[.agg #[.int .i64 c1, .int .i64 s1, .int .i64 o1, .string p1, .string x1, .int .i64 n1, .int .i64 a1, .int .i64 b1]] w fun e w' => e = .returned (.bool true) ∧ Below w.heap.size w w' := by
  have hb0 : Below w.heap.size w (w.alloc (.cells #[.int .i64 c1, .int .i64 s1, .int .i64 o1, .string p1, .string x1, .int .i64 n1, .int .i64 a1, .int .i64 b1] 24)) := (Below.refl _ _).alloc (Nat.le_refl _) _
  have HM0 : Hid (ML (w.alloc (.cells #[.int .i64 c1, .int .i64 s1, .int .i64 o1, .string p1, .string x1, .int .i64 n1, .int .i64 a1, .int .i64 b1] 24))) := Lib.hid (hm.below hb0)
  have HB0 := Lib.hid hb0
  have hz3 : (w.alloc (.cells #[.int .i64 c1, .int .i64 s1, .int .i64 o1, .string p1, .string x1, .int .i64 n1, .int .i64 a1, .int .i64 b1] 24)).heap.size = w.heap.size + 1 := by simp
  have d0 : (w.alloc (.cells #[.int .i64 c1, .int .i64 s1, .int .i64 o1, .string p1, .string x1, .int .i64 n1, .int .i64 a1, .int .i64 b1] 24)).cell? ⟨w.heap.size, 0, none⟩ = some (.int .i64 c1) := new_cell w _ _ 0
  have d1 : (w.alloc (.cells #[.int .i64 c1, .int .i64 s1, .int .i64 o1, .string p1, .string x1, .int .i64 n1, .int .i64 a1, .int .i64 b1] 24)).cell? ⟨w.heap.size, 1, none⟩ = some (.int .i64 s1) := new_cell w _ _ 1
  have d2 : (w.alloc (.cells #[.int .i64 c1, .int .i64 s1, .int .i64 o1, .string p1, .string x1, .int .i64 n1, .int .i64 a1, .int .i64 b1] 24)).cell? ⟨w.heap.size, 2, none⟩ = some (.int .i64 o1) := new_cell w _ _ 2
  have d3 : (w.alloc (.cells #[.int .i64 c1, .int .i64 s1, .int .i64 o1, .string p1, .string x1, .int .i64 n1, .int .i64 a1, .int .i64 b1] 24)).cell? ⟨w.heap.size, 3, none⟩ = some (.string p1) := new_cell w _ _ 3
  have d4 : (w.alloc (.cells #[.int .i64 c1, .int .i64 s1, .int .i64 o1, .string p1, .string x1, .int .i64 n1, .int .i64 a1, .int .i64 b1] 24)).cell? ⟨w.heap.size, 4, none⟩ = some (.string x1) := new_cell w _ _ 4
  have d5 : (w.alloc (.cells #[.int .i64 c1, .int .i64 s1, .int .i64 o1, .string p1, .string x1, .int .i64 n1, .int .i64 a1, .int .i64 b1] 24)).cell? ⟨w.heap.size, 5, none⟩ = some (.int .i64 n1) := new_cell w _ _ 5
  have d6 : (w.alloc (.cells #[.int .i64 c1, .int .i64 s1, .int .i64 o1, .string p1, .string x1, .int .i64 n1, .int .i64 a1, .int .i64 b1] 24)).cell? ⟨w.heap.size, 6, none⟩ = some (.int .i64 a1) := new_cell w _ _ 6
  have d7 : (w.alloc (.cells #[.int .i64 c1, .int .i64 s1, .int .i64 o1, .string p1, .string x1, .int .i64 n1, .int .i64 a1, .int .i64 b1] 24)).cell? ⟨w.heap.size, 7, none⟩ = some (.int .i64 b1) := new_cell w _ _ 7
  clear hm hb0
  go_enter Try.func7, Try.ntmps7
  go_wp2_with fail
  generalize (w.alloc (.cells #[.int .i64 c1, .int .i64 s1, .int .i64 o1, .string p1, .string x1, .int .i64 n1, .int .i64 a1, .int .i64 b1] 24)) = X0 at *
  have hl0 : w.heap.size < X0.heap.size := by omega
  refine (works_any X0 HM0.out).mono ?_
  rintro e w1 ⟨rfl, hb⟩
  replace d0 := (hb.cell (p := ⟨w.heap.size, 0, none⟩) (by dsimp only; omega)).trans d0
  replace d1 := (hb.cell (p := ⟨w.heap.size, 1, none⟩) (by dsimp only; omega)).trans d1
  replace d2 := (hb.cell (p := ⟨w.heap.size, 2, none⟩) (by dsimp only; omega)).trans d2
  replace d3 := (hb.cell (p := ⟨w.heap.size, 3, none⟩) (by dsimp only; omega)).trans d3
  replace d4 := (hb.cell (p := ⟨w.heap.size, 4, none⟩) (by dsimp only; omega)).trans d4
  replace d5 := (hb.cell (p := ⟨w.heap.size, 5, none⟩) (by dsimp only; omega)).trans d5
  replace d6 := (hb.cell (p := ⟨w.heap.size, 6, none⟩) (by dsimp only; omega)).trans d6
  replace d7 := (hb.cell (p := ⟨w.heap.size, 7, none⟩) (by dsimp only; omega)).trans d7
  have Bw1 := Lib.hid hb
  have hsw1 := hb.size
  clear hb hz3
  cases hO : ovr1 p1 x1 with
  | true =>
    go_wp2_with fail
    refine (over1_any _ p1 x1 _ (by simp [go_sem]) (by simp [go_sem])).mono ?_
    rw [hO]
    rintro e w2 ⟨rfl, hb⟩
    subst hb
    go_wp2
    go_ret
    exact ⟨rfl, HB0.out.trans ((Bw1.out.mono (Nat.le_of_lt hl0)).alloc (by omega) _)⟩
  | false =>
    have q1 : Hid (p1.size ≤ 1000) := Lib.hid (by unfold ovr1 at hO; simp at hO; omega)
    go_wp2_with fail
    refine (over1_any _ p1 x1 _ (by simp [go_sem]) (by simp [go_sem])).mono ?_
    rw [hO]
    rintro e w2 ⟨rfl, hb⟩
    subst hb
    clear hO
    have hb : Below w1.heap.size w1 (w1.alloc (.cells #[.int .i64 c1, .int .i64 s1, .int .i64 o1, .string p1, .string x1, .int .i64 n1, .int .i64 a1, .int .i64 b1] 24)) := (Below.refl _ _).alloc (Nat.le_refl _) _
    generalize (w1.alloc (.cells #[.int .i64 c1, .int .i64 s1, .int .i64 o1, .string p1, .string x1, .int .i64 n1, .int .i64 a1, .int .i64 b1] 24)) = w2 at *
    replace d0 := (hb.cell (p := ⟨w.heap.size, 0, none⟩) (by dsimp only; omega)).trans d0
    replace d1 := (hb.cell (p := ⟨w.heap.size, 1, none⟩) (by dsimp only; omega)).trans d1
    replace d2 := (hb.cell (p := ⟨w.heap.size, 2, none⟩) (by dsimp only; omega)).trans d2
    replace d3 := (hb.cell (p := ⟨w.heap.size, 3, none⟩) (by dsimp only; omega)).trans d3
    replace d4 := (hb.cell (p := ⟨w.heap.size, 4, none⟩) (by dsimp only; omega)).trans d4
    replace d5 := (hb.cell (p := ⟨w.heap.size, 5, none⟩) (by dsimp only; omega)).trans d5
    replace d6 := (hb.cell (p := ⟨w.heap.size, 6, none⟩) (by dsimp only; omega)).trans d6
    replace d7 := (hb.cell (p := ⟨w.heap.size, 7, none⟩) (by dsimp only; omega)).trans d7
    have Bw2 := Lib.hid (Bw1.out.trans (hb.mono Bw1.out.size))
    have hsw2 := hb.size
    clear hb
    go_wp2_with fail
    refine (reads_any c1 s1 o1 p1 x1 n1 a1 b1 w2 q1.out (HM0.out.below Bw2.out)).mono ?_
    rintro e w3 ⟨v1, he, ho, hb⟩
    rw [he.out]
    replace d0 := (hb.cell (p := ⟨w.heap.size, 0, none⟩) (by dsimp only; omega)).trans d0
    replace d1 := (hb.cell (p := ⟨w.heap.size, 1, none⟩) (by dsimp only; omega)).trans d1
    replace d2 := (hb.cell (p := ⟨w.heap.size, 2, none⟩) (by dsimp only; omega)).trans d2
    replace d3 := (hb.cell (p := ⟨w.heap.size, 3, none⟩) (by dsimp only; omega)).trans d3
    replace d4 := (hb.cell (p := ⟨w.heap.size, 4, none⟩) (by dsimp only; omega)).trans d4
    replace d5 := (hb.cell (p := ⟨w.heap.size, 5, none⟩) (by dsimp only; omega)).trans d5
    replace d6 := (hb.cell (p := ⟨w.heap.size, 6, none⟩) (by dsimp only; omega)).trans d6
    replace d7 := (hb.cell (p := ⟨w.heap.size, 7, none⟩) (by dsimp only; omega)).trans d7
    have ho' := ho.ck.rd
    obtain ⟨t1, cc1, e⟩ := ho'.slice
    subst e
    obtain ⟨N1, hN1⟩ : ∃ n, (rds o1 p1).length = n := ⟨_, rfl⟩
    rw [hN1] at ho' ⊢
    have R1 := Lib.hid ho'
    have HN1 := Lib.hid hN1
    have Bw3 := Lib.hid (Bw2.out.trans (hb.mono Bw2.out.size))
    have Tw3 := Lib.hid hb
    have hsw3 := Bw3.out.size
    clear he ho ho' hb hN1
    go_wp2_with fail
    refine (writes_any c1 s1 o1 p1 x1 n1 a1 b1 w3 q1.out (HM0.out.below Bw3.out)).mono ?_
    rintro e w4 ⟨v2, he, ho, hb⟩
    rw [he.out]
    replace d0 := (hb.cell (p := ⟨w.heap.size, 0, none⟩) (by dsimp only; omega)).trans d0
    replace d1 := (hb.cell (p := ⟨w.heap.size, 1, none⟩) (by dsimp only; omega)).trans d1
    replace d2 := (hb.cell (p := ⟨w.heap.size, 2, none⟩) (by dsimp only; omega)).trans d2
    replace d3 := (hb.cell (p := ⟨w.heap.size, 3, none⟩) (by dsimp only; omega)).trans d3
    replace d4 := (hb.cell (p := ⟨w.heap.size, 4, none⟩) (by dsimp only; omega)).trans d4
    replace d5 := (hb.cell (p := ⟨w.heap.size, 5, none⟩) (by dsimp only; omega)).trans d5
    replace d6 := (hb.cell (p := ⟨w.heap.size, 6, none⟩) (by dsimp only; omega)).trans d6
    replace d7 := (hb.cell (p := ⟨w.heap.size, 7, none⟩) (by dsimp only; omega)).trans d7
    have ho' := ho.ck.rd
    obtain ⟨t2, cc2, e⟩ := ho'.slice
    subst e
    obtain ⟨N2, hN2⟩ : ∃ n, (wrs o1 p1).length = n := ⟨_, rfl⟩
    rw [hN2] at ho' ⊢
    have R2 := Lib.hid ho'
    have HN2 := Lib.hid hN2
    have Bw4 := Lib.hid (Bw3.out.trans (hb.mono Bw3.out.size))
    have Tw4 := Lib.hid hb
    have hsw4 := Bw4.out.size
    clear he ho ho' hb hN2
    have hN1 : N1 ≤ 2 := by have := rds_len o1 p1; have := HN1.out; omega
    have hN2 : N2 ≤ 3 := by have := wrs_len o1 p1; have := HN2.out; omega
    have ha1 : ([] : List Cl).length + (rds o1 p1).length ≤ 1000000 := by have := rds_len o1 p1; simp; omega
    have ha2 : (rds o1 p1).length + (wrs o1 p1).length ≤ 1000000 := by have := rds_len o1 p1; have := wrs_len o1 p1; omega
    have RR := Lib.hid (R1.out.below Tw4.out)
    go_wp2_with (refine CK.app rfl _ _ rfl w4.heap.size (.slice none 0 0) [] rfl (Knd.Own.nil _ _) _ (rds o1 p1) rfl RR.out ha1 (Nat.le_refl _) ?_)
    intro v5 w5 ho hb hg hn
    replace d0 := (hb.cell (p := ⟨w.heap.size, 0, none⟩) (by dsimp only; omega)).trans d0
    replace d1 := (hb.cell (p := ⟨w.heap.size, 1, none⟩) (by dsimp only; omega)).trans d1
    replace d2 := (hb.cell (p := ⟨w.heap.size, 2, none⟩) (by dsimp only; omega)).trans d2
    replace d3 := (hb.cell (p := ⟨w.heap.size, 3, none⟩) (by dsimp only; omega)).trans d3
    replace d4 := (hb.cell (p := ⟨w.heap.size, 4, none⟩) (by dsimp only; omega)).trans d4
    replace d5 := (hb.cell (p := ⟨w.heap.size, 5, none⟩) (by dsimp only; omega)).trans d5
    replace d6 := (hb.cell (p := ⟨w.heap.size, 6, none⟩) (by dsimp only; omega)).trans d6
    replace d7 := (hb.cell (p := ⟨w.heap.size, 7, none⟩) (by dsimp only; omega)).trans d7
    have O5 : Hid (CK.Own w5 w4.heap.size v5 (rds o1 p1)) := Lib.hid ho
    have Bw5 := Lib.hid (Bw4.out.trans (hb.mono hsw4))
    have Tw5 := Lib.hid hb
    have hsw5 := Bw5.out.size
    have hz5 : Hid (w4.heap.size ≤ w5.heap.size) := Lib.hid hb.size
    clear ho hb hg hn
    have RW := Lib.hid (R2.out.below Tw5.out)
    go_wp2_with (refine CK.app rfl _ _ rfl w4.heap.size v5 (rds o1 p1) rfl O5.out _ (wrs o1 p1) rfl RW.out ha2 hz5.out ?_)
    intro v6 X ho hb hg hn
    have Tx := Lib.hid hb
    replace d0 := (hb.cell (p := ⟨w.heap.size, 0, none⟩) (by dsimp only; omega)).trans d0
    replace d1 := (hb.cell (p := ⟨w.heap.size, 1, none⟩) (by dsimp only; omega)).trans d1
    replace d2 := (hb.cell (p := ⟨w.heap.size, 2, none⟩) (by dsimp only; omega)).trans d2
    replace d3 := (hb.cell (p := ⟨w.heap.size, 3, none⟩) (by dsimp only; omega)).trans d3
    replace d4 := (hb.cell (p := ⟨w.heap.size, 4, none⟩) (by dsimp only; omega)).trans d4
    replace d5 := (hb.cell (p := ⟨w.heap.size, 5, none⟩) (by dsimp only; omega)).trans d5
    replace d6 := (hb.cell (p := ⟨w.heap.size, 6, none⟩) (by dsimp only; omega)).trans d6
    replace d7 := (hb.cell (p := ⟨w.heap.size, 7, none⟩) (by dsimp only; omega)).trans d7
    have ho' := ho.rd
    obtain ⟨t6, cc6, e⟩ := ho'.slice
    subst e
    obtain ⟨N, hN⟩ : ∃ n, (rds o1 p1 ++ wrs o1 p1).length = n := ⟨_, rfl⟩
    rw [hN] at ho' ⊢
    have RA := Lib.hid ho'
    have HN := Lib.hid hN
    have BX := Lib.hid (Bw5.out.trans (hb.mono hsw4))
    have hsX := BX.out.size
    have hNN : N ≤ 5 := by have := rds_len o1 p1; have := wrs_len o1 p1; have := HN.out; rw [List.length_append] at this; omega
    have hX0 : w.heap.size < X.heap.size := by omega
    have HMX := Lib.hid (HM0.out.below BX.out)
    have BXX := Lib.hid (HB0.out.trans (BX.out.mono (Nat.le_of_lt hl0)))
    have HD0 : Hid (∀ W, Below X.heap.size X W → W.cell? ⟨w.heap.size, 0, none⟩ = some (.int .i64 c1) ∧ W.cell? ⟨w.heap.size, 1, none⟩ = some (.int .i64 s1) ∧ W.cell? ⟨w.heap.size, 2, none⟩ = some (.int .i64 o1) ∧ W.cell? ⟨w.heap.size, 3, none⟩ = some (.string p1) ∧ W.cell? ⟨w.heap.size, 4, none⟩ = some (.string x1) ∧ W.cell? ⟨w.heap.size, 5, none⟩ = some (.int .i64 n1) ∧ W.cell? ⟨w.heap.size, 6, none⟩ = some (.int .i64 a1) ∧ W.cell? ⟨w.heap.size, 7, none⟩ = some (.int .i64 b1)) := Lib.hid (fun W hb => ⟨(hb.cell (p := ⟨w.heap.size, 0, none⟩) hX0).trans d0, (hb.cell (p := ⟨w.heap.size, 1, none⟩) hX0).trans d1, (hb.cell (p := ⟨w.heap.size, 2, none⟩) hX0).trans d2, (hb.cell (p := ⟨w.heap.size, 3, none⟩) hX0).trans d3, (hb.cell (p := ⟨w.heap.size, 4, none⟩) hX0).trans d4, (hb.cell (p := ⟨w.heap.size, 5, none⟩) hX0).trans d5, (hb.cell (p := ⟨w.heap.size, 6, none⟩) hX0).trans d6, (hb.cell (p := ⟨w.heap.size, 7, none⟩) hX0).trans d7⟩)
    obtain ⟨LA, hLA⟩ : ∃ l, rds o1 p1 ++ wrs o1 p1 = l := ⟨_, rfl⟩
    have hap := all_apart o1 p1
    have hin : ∀ c ∈ LA, (c.1 = p1 ∨ c.1 = par p1) ∧ (c.2 = 101 ∨ c.2 = 118 ∨ c.2 = 107) := by
      intro c hc
      rw [← hLA] at hc
      rcases List.mem_append.1 hc with h | h
      · exact rds_in o1 p1 c h
      · exact wrs_in o1 p1 c h
    rw [hLA] at hap
    have RA' : Hid (CK.Rd X (.slice t6 N cc6) LA) := Lib.hid (by rw [← hLA]; exact RA.out)
    have HLA := Lib.hid hLA
    have HNA : Hid (LA.length = N) := Lib.hid (by rw [← hLA]; exact HN.out)
    have HAP : Hid (∀ i k, i < N → k < i → (i < N1 ∨ N1 ≤ k) → LA.getD i (ByteArray.empty, 0) ≠ LA.getD k (ByteArray.empty, 0)) := Lib.hid (fun i k h1 h2 h3 => hap i k (by rw [HNA.out]; exact h1) h2 (by rw [HN1.out]; exact h3))
    have HIN := Lib.hid hin
    obtain ⟨Q, hQ⟩ : ∃ Q, par p1 = Q := ⟨_, rfl⟩
    rw [hQ] at HIN
    have HCP : Hid (∀ W, Below X.heap.size X W → Calls Try.prog 26 #[.string p1] W fun e w' => e = .returned (.string Q) ∧ Below W.heap.size W w') := Lib.hid (fun W hW => by have h := parent_any p1 W q1.out (HMX.out.below hW); rw [hQ] at h; exact h)
    have HQ := Lib.hid hQ
    clear ho ho' hb hg hn hLA hap hin hQ R1 R2 RR RW O5 RA ha1 ha2 hN d0 d1 d2 d3 d4 d5 d6 d7 hsw1 hsw2 hsw3 hsw4 hsw5 hsX hl0
    go_wp2_with fail
    go_loopw [7] (fun i wr => ∃ (k : Nat), k ≤ N ∧ i = .int .i64 k ∧ Hid (Below X.heap.size X wr)) (fun i _ => N - (intOf i).toNat)
    case atStart => exact ⟨0, Nat.zero_le _, rfl, Lib.hid (Below.refl _ _)⟩
    case round =>
      obtain ⟨k, hk, rfl, hB⟩ := hrel
      by_cases hlt : k < N
      · have hlt' : (k : Int) < (N : Int) := by omega
        have hkb : (k : Int) ≤ 10 := by omega
        obtain ⟨e0, g2, off2, hdx, hg2, k1, k2, hkl⟩ := clCell RA'.out k hlt
        obtain ⟨⟨y1, y2⟩, hX⟩ : ∃ X, LA.getD k (ByteArray.empty, 0) = X := ⟨_, rfl⟩
        have hmem : (y1, y2) ∈ LA := by rw [← hX]; simp [List.getD, hkl]
        have hkin := HIN.out _ hmem
        rw [hX] at k1 k2
        obtain ⟨t1, t2, d3⟩ : wr.cell? ⟨g2, off2 + k * 2, none⟩ = some (.string y1) ∧ wr.cell? ⟨g2, off2 + k * 2 + 1, none⟩ = some (.int .u8 y2) ∧ wr.cell? ⟨w.heap.size, 3, none⟩ = some (.string p1) := ⟨(hB.out.cell (p := ⟨g2, off2 + k * 2, none⟩) hg2).trans k1, (hB.out.cell (p := ⟨g2, off2 + k * 2 + 1, none⟩) hg2).trans k2, (HD0.out wr hB.out).2.2.2.1⟩
        have Y1 := Lib.hid k1
        have Y2 := Lib.hid k2
        have HX := Lib.hid hX
        subst hdx
        clear hmem e0 hkl hX k1 k2
        obtain ⟨hw1, hw2⟩ := hkin
        dsimp only at hw1 hw2
        by_cases hyp : y1 = p1
        · subst hyp
          clear hw1
          rcases hw2 with rfl | rfl | rfl
          · go_wp2_with fail
            go_quiet (fail)
            generalize hwd : World.drewN wr _ = wn
            have HBn : Hid (Below X.heap.size X wn) := Lib.hid (by rw [← hwd]; exact below_dq hB.out _)
            clear hwd t1 t2 d3
            go_wp2_with fail
            go_loopw [8] (fun i wr => ∃ (j : Nat), j ≤ k ∧ i = .int .i64 j ∧ Hid (Below X.heap.size X wr)) (fun i _ => k - (intOf i).toNat)
            case atStart => exact ⟨0, Nat.zero_le _, rfl, HBn⟩
            case round =>
              clear HBn
              obtain ⟨j, hj, rfl, hB⟩ := hrel
              by_cases hltj : j < k
              · have hltj' : (j : Int) < (k : Int) := by omega
                have hltjN : (j : Int) < (N : Int) := by omega
                have hjb : (j : Int) ≤ 10 := by omega
                obtain ⟨e1, g3, off3, hdb, hg3, u1, u2, hjm⟩ := clCell (RA'.out.below hB.out) j (by omega)
                obtain ⟨⟨z1, z2⟩, hZ⟩ : ∃ X, LA.getD j (ByteArray.empty, 0) = X := ⟨_, rfl⟩
                rw [hZ] at u1 u2
                obtain ⟨e2, g4, off4, hda, hg4, t1', t2', hjk⟩ := clCell (RA'.out.below hB.out) k hlt
                rw [HX.out] at t1' t2'
                by_cases hr1 : k < N1
                · have hr2 : (k : Int) < (N1 : Int) := by omega
                  have hr3 : decide (k < N1) = true := decide_eq_true hr1
                  have hne2 := HAP.out k j hlt hltj (by omega)
                  rw [HX.out, hZ] at hne2
                  obtain ⟨he, hgd⟩ := eqC_run y1 101 z1 z2
                  rw [decide_eq_false hne2] at he
                  simp only [Option.some.injEq, Addr.mk.injEq, and_true] at hda hdb
                  obtain ⟨rfl, rfl⟩ := hda
                  obtain ⟨rfl, rfl⟩ := hdb
                  clear hZ hjm hjk e1 e2 hne2
                  go_wp2_with fail
                  go_quiet (fail)
                  go_wp2
                  go_roundw
                  case rel => exact ⟨j + 1, by omega, by go_num, Lib.hid (below_dq hB.out _)⟩
                  case measure => simp [intOf]; omega
                · have hr2 : ¬ (k : Int) < (N1 : Int) := by omega
                  have hr3 : decide (k < N1) = false := decide_eq_false hr1
                  by_cases hr4 : N1 ≤ j
                  · have hr5 : (N1 : Int) ≤ (j : Int) := by omega
                    have hr6 : decide (N1 ≤ j) = true := decide_eq_true hr4
                    have hne2 := HAP.out k j hlt hltj (by omega)
                    rw [HX.out, hZ] at hne2
                    obtain ⟨he, hgd⟩ := eqC_run y1 101 z1 z2
                    rw [decide_eq_false hne2] at he
                    simp only [Option.some.injEq, Addr.mk.injEq, and_true] at hda hdb
                    obtain ⟨rfl, rfl⟩ := hda
                    obtain ⟨rfl, rfl⟩ := hdb
                    clear hZ hjm hjk e1 e2 hne2
                    go_wp2_with fail
                    go_quiet (fail)
                    go_wp2
                    go_roundw
                    case rel => exact ⟨j + 1, by omega, by go_num, Lib.hid (below_dq hB.out _)⟩
                    case measure => simp [intOf]; omega
                  · have hr5 : ¬ (N1 : Int) ≤ (j : Int) := by omega
                    have hr6 : decide (N1 ≤ j) = false := decide_eq_false hr4
                    simp only [Option.some.injEq, Addr.mk.injEq, and_true] at hda hdb
                    obtain ⟨rfl, rfl⟩ := hda
                    obtain ⟨rfl, rfl⟩ := hdb
                    clear hZ hjm hjk e1 e2 u1 u2 t1' t2'
                    go_wp2_with fail
                    go_quiet (fail)
                    go_wp2
                    go_roundw
                    case rel => exact ⟨j + 1, by omega, by go_num, Lib.hid (below_dq hB.out _)⟩
                    case measure => simp [intOf]; omega
              · obtain rfl : j = k := by omega
                go_wp2
                go_roundw
                case rel => exact ⟨j + 1, by omega, by go_num, hB⟩
                case measure => simp [intOf]; omega
          · go_wp2_with fail
            go_quiet (fail)
            generalize hwd : World.drewN wr _ = wn
            have HBn : Hid (Below X.heap.size X wn) := Lib.hid (by rw [← hwd]; exact below_dq hB.out _)
            clear hwd t1 t2 d3
            go_wp2_with fail
            go_loopw [8] (fun i wr => ∃ (j : Nat), j ≤ k ∧ i = .int .i64 j ∧ Hid (Below X.heap.size X wr)) (fun i _ => k - (intOf i).toNat)
            case atStart => exact ⟨0, Nat.zero_le _, rfl, HBn⟩
            case round =>
              clear HBn
              obtain ⟨j, hj, rfl, hB⟩ := hrel
              by_cases hltj : j < k
              · have hltj' : (j : Int) < (k : Int) := by omega
                have hltjN : (j : Int) < (N : Int) := by omega
                have hjb : (j : Int) ≤ 10 := by omega
                obtain ⟨e1, g3, off3, hdb, hg3, u1, u2, hjm⟩ := clCell (RA'.out.below hB.out) j (by omega)
                obtain ⟨⟨z1, z2⟩, hZ⟩ : ∃ X, LA.getD j (ByteArray.empty, 0) = X := ⟨_, rfl⟩
                rw [hZ] at u1 u2
                obtain ⟨e2, g4, off4, hda, hg4, t1', t2', hjk⟩ := clCell (RA'.out.below hB.out) k hlt
                rw [HX.out] at t1' t2'
                by_cases hr1 : k < N1
                · have hr2 : (k : Int) < (N1 : Int) := by omega
                  have hr3 : decide (k < N1) = true := decide_eq_true hr1
                  have hne2 := HAP.out k j hlt hltj (by omega)
                  rw [HX.out, hZ] at hne2
                  obtain ⟨he, hgd⟩ := eqC_run y1 118 z1 z2
                  rw [decide_eq_false hne2] at he
                  simp only [Option.some.injEq, Addr.mk.injEq, and_true] at hda hdb
                  obtain ⟨rfl, rfl⟩ := hda
                  obtain ⟨rfl, rfl⟩ := hdb
                  clear hZ hjm hjk e1 e2 hne2
                  go_wp2_with fail
                  go_quiet (fail)
                  go_wp2
                  go_roundw
                  case rel => exact ⟨j + 1, by omega, by go_num, Lib.hid (below_dq hB.out _)⟩
                  case measure => simp [intOf]; omega
                · have hr2 : ¬ (k : Int) < (N1 : Int) := by omega
                  have hr3 : decide (k < N1) = false := decide_eq_false hr1
                  by_cases hr4 : N1 ≤ j
                  · have hr5 : (N1 : Int) ≤ (j : Int) := by omega
                    have hr6 : decide (N1 ≤ j) = true := decide_eq_true hr4
                    have hne2 := HAP.out k j hlt hltj (by omega)
                    rw [HX.out, hZ] at hne2
                    obtain ⟨he, hgd⟩ := eqC_run y1 118 z1 z2
                    rw [decide_eq_false hne2] at he
                    simp only [Option.some.injEq, Addr.mk.injEq, and_true] at hda hdb
                    obtain ⟨rfl, rfl⟩ := hda
                    obtain ⟨rfl, rfl⟩ := hdb
                    clear hZ hjm hjk e1 e2 hne2
                    go_wp2_with fail
                    go_quiet (fail)
                    go_wp2
                    go_roundw
                    case rel => exact ⟨j + 1, by omega, by go_num, Lib.hid (below_dq hB.out _)⟩
                    case measure => simp [intOf]; omega
                  · have hr5 : ¬ (N1 : Int) ≤ (j : Int) := by omega
                    have hr6 : decide (N1 ≤ j) = false := decide_eq_false hr4
                    simp only [Option.some.injEq, Addr.mk.injEq, and_true] at hda hdb
                    obtain ⟨rfl, rfl⟩ := hda
                    obtain ⟨rfl, rfl⟩ := hdb
                    clear hZ hjm hjk e1 e2 u1 u2 t1' t2'
                    go_wp2_with fail
                    go_quiet (fail)
                    go_wp2
                    go_roundw
                    case rel => exact ⟨j + 1, by omega, by go_num, Lib.hid (below_dq hB.out _)⟩
                    case measure => simp [intOf]; omega
              · obtain rfl : j = k := by omega
                go_wp2
                go_roundw
                case rel => exact ⟨j + 1, by omega, by go_num, hB⟩
                case measure => simp [intOf]; omega
          · go_wp2_with fail
            go_quiet (fail)
            generalize hwd : World.drewN wr _ = wn
            have HBn : Hid (Below X.heap.size X wn) := Lib.hid (by rw [← hwd]; exact below_dq hB.out _)
            clear hwd t1 t2 d3
            go_wp2_with fail
            go_loopw [8] (fun i wr => ∃ (j : Nat), j ≤ k ∧ i = .int .i64 j ∧ Hid (Below X.heap.size X wr)) (fun i _ => k - (intOf i).toNat)
            case atStart => exact ⟨0, Nat.zero_le _, rfl, HBn⟩
            case round =>
              clear HBn
              obtain ⟨j, hj, rfl, hB⟩ := hrel
              by_cases hltj : j < k
              · have hltj' : (j : Int) < (k : Int) := by omega
                have hltjN : (j : Int) < (N : Int) := by omega
                have hjb : (j : Int) ≤ 10 := by omega
                obtain ⟨e1, g3, off3, hdb, hg3, u1, u2, hjm⟩ := clCell (RA'.out.below hB.out) j (by omega)
                obtain ⟨⟨z1, z2⟩, hZ⟩ : ∃ X, LA.getD j (ByteArray.empty, 0) = X := ⟨_, rfl⟩
                rw [hZ] at u1 u2
                obtain ⟨e2, g4, off4, hda, hg4, t1', t2', hjk⟩ := clCell (RA'.out.below hB.out) k hlt
                rw [HX.out] at t1' t2'
                by_cases hr1 : k < N1
                · have hr2 : (k : Int) < (N1 : Int) := by omega
                  have hr3 : decide (k < N1) = true := decide_eq_true hr1
                  have hne2 := HAP.out k j hlt hltj (by omega)
                  rw [HX.out, hZ] at hne2
                  obtain ⟨he, hgd⟩ := eqC_run y1 107 z1 z2
                  rw [decide_eq_false hne2] at he
                  simp only [Option.some.injEq, Addr.mk.injEq, and_true] at hda hdb
                  obtain ⟨rfl, rfl⟩ := hda
                  obtain ⟨rfl, rfl⟩ := hdb
                  clear hZ hjm hjk e1 e2 hne2
                  go_wp2_with fail
                  go_quiet (fail)
                  go_wp2
                  go_roundw
                  case rel => exact ⟨j + 1, by omega, by go_num, Lib.hid (below_dq hB.out _)⟩
                  case measure => simp [intOf]; omega
                · have hr2 : ¬ (k : Int) < (N1 : Int) := by omega
                  have hr3 : decide (k < N1) = false := decide_eq_false hr1
                  by_cases hr4 : N1 ≤ j
                  · have hr5 : (N1 : Int) ≤ (j : Int) := by omega
                    have hr6 : decide (N1 ≤ j) = true := decide_eq_true hr4
                    have hne2 := HAP.out k j hlt hltj (by omega)
                    rw [HX.out, hZ] at hne2
                    obtain ⟨he, hgd⟩ := eqC_run y1 107 z1 z2
                    rw [decide_eq_false hne2] at he
                    simp only [Option.some.injEq, Addr.mk.injEq, and_true] at hda hdb
                    obtain ⟨rfl, rfl⟩ := hda
                    obtain ⟨rfl, rfl⟩ := hdb
                    clear hZ hjm hjk e1 e2 hne2
                    go_wp2_with fail
                    go_quiet (fail)
                    go_wp2
                    go_roundw
                    case rel => exact ⟨j + 1, by omega, by go_num, Lib.hid (below_dq hB.out _)⟩
                    case measure => simp [intOf]; omega
                  · have hr5 : ¬ (N1 : Int) ≤ (j : Int) := by omega
                    have hr6 : decide (N1 ≤ j) = false := decide_eq_false hr4
                    simp only [Option.some.injEq, Addr.mk.injEq, and_true] at hda hdb
                    obtain ⟨rfl, rfl⟩ := hda
                    obtain ⟨rfl, rfl⟩ := hdb
                    clear hZ hjm hjk e1 e2 u1 u2 t1' t2'
                    go_wp2_with fail
                    go_quiet (fail)
                    go_wp2
                    go_roundw
                    case rel => exact ⟨j + 1, by omega, by go_num, Lib.hid (below_dq hB.out _)⟩
                    case measure => simp [intOf]; omega
              · obtain rfl : j = k := by omega
                go_wp2
                go_roundw
                case rel => exact ⟨j + 1, by omega, by go_num, hB⟩
                case measure => simp [intOf]; omega
        · obtain rfl : y1 = Q := by rcases hw1 with h | h
                                    · exact absurd h hyp
                                    · exact h
          have hpq : (y1.toList == p1.toList) = false := by
            rw [toList_eq_iff, decide_eq_false_iff_not]
            exact fun q => hyp (byt_inj q)
          have hpq2 : y1.toList ≠ p1.toList := by simpa using hpq
          clear hw1 hyp
          rcases hw2 with rfl | rfl | rfl
          · have HKP : Hid (∀ w' : World, Below X.heap.size X w' → (w'.cell? ⟨g2, off2 + k * 2, none⟩ = some (.string y1) ∧ w'.cell? ⟨g2, off2 + k * 2 + 1, none⟩ = some (.int .u8 101) ∧ w'.cell? ⟨w.heap.size, 3, none⟩ = some (.string p1) ∧ Below X.heap.size X w')) := Lib.hid (fun w' hb => ⟨(hb.cell (p := ⟨g2, off2 + k * 2, none⟩) hg2).trans Y1.out, (hb.cell (p := ⟨g2, off2 + k * 2 + 1, none⟩) hg2).trans Y2.out, (HD0.out w' hb).2.2.2.1, hb⟩)
            go_wp2_with fail
            refine wp_region_held_drew (S := (fun w' => w'.cell? ⟨g2, off2 + k * 2, none⟩ = some (.string y1) ∧ w'.cell? ⟨g2, off2 + k * 2 + 1, none⟩ = some (.int .u8 101) ∧ w'.cell? ⟨w.heap.size, 3, none⟩ = some (.string p1) ∧ Below X.heap.size X w')) (by kernel_rfl) ?_ (fun hHeld => ?_)
            · ((first
                  | exact HKP.out _ (Below.refl _ _)
                  | exact HKP.out _ (Below.refl _ _).drew
                  | (go_split_ands; exact HKP.out _ (below_self (by assumption) (by assumption)))
                  | (go_split_ands; exact HKP.out _ (Below.drew (by assumption)))
                  | (go_split_ands; exact HKP.out _ (by assumption))))
            refine wpAnyH_take (i := 0) (v := ?_) rfl (by kernel_rfl) (by kernel_rfl) (by kernel_rfl) (fun _ _ _ h => h) (Or.inl ⟨by rfl, ?_⟩) (by assumption) ?_
            rotate_left
            · (intro w hSw; (try dsimp only at hSw); go_simp; try rfl)
            try simp only [Act.put, List.setIfInBounds_toArray, List.set_cons_zero, List.set_cons_succ, List.getElem_toArray, List.getElem_cons_zero, List.getElem_cons_succ]
            refine wpAnyH_take (i := 1) (v := ?_) rfl (by kernel_rfl) (by kernel_rfl) (by kernel_rfl) (fun _ _ _ h => h) (Or.inl ⟨by rfl, ?_⟩) (by assumption) ?_
            rotate_left
            · (intro w hSw; (try dsimp only at hSw); go_simp; try rfl)
            try simp only [Act.put, List.setIfInBounds_toArray, List.set_cons_zero, List.set_cons_succ, List.getElem_toArray, List.getElem_cons_zero, List.getElem_cons_succ]
            refine wpAnyH_take (i := 2) (v := ?_) rfl (by kernel_rfl) (by kernel_rfl) (by kernel_rfl) (fun _ _ _ h => h) (Or.inl ⟨by rfl, ?_⟩) (by assumption) ?_
            rotate_left
            · (intro w hSw; (try dsimp only at hSw); go_simp; try rfl)
            try simp only [Act.put, List.setIfInBounds_toArray, List.set_cons_zero, List.set_cons_succ, List.getElem_toArray, List.getElem_cons_zero, List.getElem_cons_succ]
            refine wpAnyH_take (i := 3) (v := ?_) rfl (by kernel_rfl) (by kernel_rfl) (by kernel_rfl) (fun _ _ _ h => h) (Or.inl ⟨by rfl, ?_⟩) (by assumption) ?_
            rotate_left
            · (intro w hSw; (try dsimp only at hSw); go_simp; try rfl)
            try simp only [Act.put, List.setIfInBounds_toArray, List.set_cons_zero, List.set_cons_succ, List.getElem_toArray, List.getElem_cons_zero, List.getElem_cons_succ]
            refine wpAnyH_take (i := 4) (v := ?_) rfl (by kernel_rfl) (by kernel_rfl) (by kernel_rfl) (fun _ _ _ h => h) (Or.inl ⟨by rfl, ?_⟩) (by assumption) ?_
            rotate_left
            · (intro w hSw; (try dsimp only at hSw); go_simp; try rfl)
            try simp only [Act.put, List.setIfInBounds_toArray, List.set_cons_zero, List.set_cons_succ, List.getElem_toArray, List.getElem_cons_zero, List.getElem_cons_succ]
            refine wpAnyH_take (i := 5) (v := ?_) rfl (by kernel_rfl) (by kernel_rfl) (by kernel_rfl) (fun _ _ _ h => h) (Or.inl ⟨by rfl, ?_⟩) (by assumption) ?_
            rotate_left
            · (intro w hSw; (try dsimp only at hSw); go_simp; try rfl)
            try simp only [Act.put, List.setIfInBounds_toArray, List.set_cons_zero, List.set_cons_succ, List.getElem_toArray, List.getElem_cons_zero, List.getElem_cons_succ]
            refine wpAnyH_take (i := 6) (v := ?_) rfl (by kernel_rfl) (by kernel_rfl) (by kernel_rfl) (fun _ _ _ h => h) (Or.inl ⟨by rfl, ?_⟩) (by assumption) ?_
            rotate_left
            · (intro w hSw; (try dsimp only at hSw); go_simp; try rfl)
            try simp only [Act.put, List.setIfInBounds_toArray, List.set_cons_zero, List.set_cons_succ, List.getElem_toArray, List.getElem_cons_zero, List.getElem_cons_succ]
            refine wpAnyH_take (i := 7) (v := ?_) rfl (by kernel_rfl) (by kernel_rfl) (by kernel_rfl) (fun _ _ _ h => h) (Or.inl ⟨by rfl, ?_⟩) (by assumption) ?_
            rotate_left
            · (intro w hSw; (try dsimp only at hSw); go_simp; try rfl)
            try simp only [Act.put, List.setIfInBounds_toArray, List.set_cons_zero, List.set_cons_succ, List.getElem_toArray, List.getElem_cons_zero, List.getElem_cons_succ]
            refine wpAnyH_take (i := 8) (v := ?_) rfl (by kernel_rfl) (by kernel_rfl) (by kernel_rfl) (fun _ _ _ h => h) (Or.inl ⟨by rfl, ?_⟩) (by assumption) ?_
            rotate_left
            · (intro w hSw; (try dsimp only at hSw); go_simp; try rfl)
            try simp only [Act.put, List.setIfInBounds_toArray, List.set_cons_zero, List.set_cons_succ, List.getElem_toArray, List.getElem_cons_zero, List.getElem_cons_succ]
            refine wpAnyH_take (i := 9) (v := ?_) rfl (by kernel_rfl) (by kernel_rfl) (by kernel_rfl) (fun _ _ _ h => h) (Or.inl ⟨by rfl, ?_⟩) (by assumption) ?_
            rotate_left
            · (intro w hSw; (try dsimp only at hSw); go_simp; try rfl)
            try simp only [Act.put, List.setIfInBounds_toArray, List.set_cons_zero, List.set_cons_succ, List.getElem_toArray, List.getElem_cons_zero, List.getElem_cons_succ]
            refine wpAnyH_take (i := 10) (v := ?_) rfl (by kernel_rfl) (by kernel_rfl) (by kernel_rfl) (fun _ _ _ h => h) (Or.inl ⟨by rfl, ?_⟩) (by assumption) ?_
            rotate_left
            · (intro w hSw; (try dsimp only at hSw); go_simp; try rfl)
            try simp only [Act.put, List.setIfInBounds_toArray, List.set_cons_zero, List.set_cons_succ, List.getElem_toArray, List.getElem_cons_zero, List.getElem_cons_succ]
            refine wpAnyH_take (i := 11) (v := ?_) rfl (by kernel_rfl) (by kernel_rfl) (by kernel_rfl) (fun _ _ _ h => h) (Or.inl ⟨by rfl, ?_⟩) (by assumption) ?_
            rotate_left
            · (intro w hSw; (try dsimp only at hSw); go_simp; try rfl)
            try simp only [Act.put, List.setIfInBounds_toArray, List.set_cons_zero, List.set_cons_succ, List.getElem_toArray, List.getElem_cons_zero, List.getElem_cons_succ]
            refine wpAnyH_take (i := 12) (v := ?_) rfl (by kernel_rfl) (by kernel_rfl) (by kernel_rfl) (fun _ _ _ h => h) (Or.inl ⟨by rfl, ?_⟩) (by assumption) ?_
            rotate_left
            · (intro w hSw; (try dsimp only at hSw); go_simp; try rfl)
            try simp only [Act.put, List.setIfInBounds_toArray, List.set_cons_zero, List.set_cons_succ, List.getElem_toArray, List.getElem_cons_zero, List.getElem_cons_succ]
            refine wpAnyH_take (i := 13) (v := ?_) rfl (by kernel_rfl) (by kernel_rfl) (by kernel_rfl) (fun _ _ _ h => h) (Or.inl ⟨by rfl, ?_⟩) (by assumption) ?_
            rotate_left
            · (intro w hSw; (try dsimp only at hSw); go_simp; try rfl)
            try simp only [Act.put, List.setIfInBounds_toArray, List.set_cons_zero, List.set_cons_succ, List.getElem_toArray, List.getElem_cons_zero, List.getElem_cons_succ]
            refine wpAnyH_take (i := 14) (v := ?_) rfl (by kernel_rfl) (by kernel_rfl) (by kernel_rfl) (fun _ _ _ h => h) (Or.inl ⟨by rfl, ?_⟩) (by assumption) ?_
            rotate_left
            · (intro w hSw; (try dsimp only at hSw); go_simp; try rfl)
            try simp only [Act.put, List.setIfInBounds_toArray, List.set_cons_zero, List.set_cons_succ, List.getElem_toArray, List.getElem_cons_zero, List.getElem_cons_succ]
            refine wpAnyH_take (i := 15) (v := ?_) rfl (by kernel_rfl) (by kernel_rfl) (by kernel_rfl) (fun _ _ _ h => h) (Or.inl ⟨by rfl, ?_⟩) (by assumption) ?_
            rotate_left
            · (intro w hSw; (try dsimp only at hSw); go_simp; try rfl)
            try simp only [Act.put, List.setIfInBounds_toArray, List.set_cons_zero, List.set_cons_succ, List.getElem_toArray, List.getElem_cons_zero, List.getElem_cons_succ]
            refine wpAnyH_ready (rs := [16]) (by kernel_rfl) (by simp) ?_
            refine (AllReadyH.cons rfl (fun K hK => ?_) AllReadyH.nil)
            go_simp
            (go_at_call 26; go_split_ands; refine (HCP.out _ (by assumption)).mono ?_; rintro e w5 ⟨rfl, hbw5⟩)
            refine hK.out _ _ ?_ (fun hHeld => ?_)
            · ((first
                  | exact HKP.out _ (Below.refl _ _)
                  | exact HKP.out _ (Below.refl _ _).drew
                  | (go_split_ands; exact HKP.out _ (below_self (by assumption) (by assumption)))
                  | (go_split_ands; exact HKP.out _ (Below.drew (by assumption)))
                  | (go_split_ands; exact HKP.out _ (by assumption))))
            clear hK K
            try simp only [Act.put, List.setIfInBounds_toArray, List.set_cons_zero, List.set_cons_succ, List.getElem_toArray, List.getElem_cons_zero, List.getElem_cons_succ]
            refine wpAnyH_take (i := 17) (v := ?_) rfl (by kernel_rfl) (by kernel_rfl) (by kernel_rfl) (fun _ _ _ h => h) (Or.inl ⟨by rfl, ?_⟩) (by assumption) ?_
            rotate_left
            · (intro w hSw; (try dsimp only at hSw); go_simp; try rfl)
            try simp only [Act.put, List.setIfInBounds_toArray, List.set_cons_zero, List.set_cons_succ, List.getElem_toArray, List.getElem_cons_zero, List.getElem_cons_succ]
            refine wpAnyH_take (i := 18) (v := ?_) rfl (by kernel_rfl) (by kernel_rfl) (by kernel_rfl) (fun _ _ _ h => h) (Or.inl ⟨by rfl, ?_⟩) (by assumption) ?_
            rotate_left
            · (intro w hSw; (try dsimp only at hSw); go_simp; try rfl)
            try simp only [Act.put, List.setIfInBounds_toArray, List.set_cons_zero, List.set_cons_succ, List.getElem_toArray, List.getElem_cons_zero, List.getElem_cons_succ]
            refine wpAnyH_take (i := 19) (v := ?_) rfl (by kernel_rfl) (by kernel_rfl) (by kernel_rfl) (fun _ _ _ h => h) (Or.inl ⟨by rfl, ?_⟩) (by assumption) ?_
            rotate_left
            · (intro w hSw; (try dsimp only at hSw); go_simp; try rfl)
            try simp only [Act.put, List.setIfInBounds_toArray, List.set_cons_zero, List.set_cons_succ, List.getElem_toArray, List.getElem_cons_zero, List.getElem_cons_succ]
            refine wpAnyH_take (i := 20) (v := ?_) rfl (by kernel_rfl) (by kernel_rfl) (by kernel_rfl) (fun _ _ _ h => h) (Or.inl ⟨by rfl, ?_⟩) (by assumption) ?_
            rotate_left
            · (intro w hSw; (try dsimp only at hSw); go_simp; try rfl)
            try simp only [Act.put, List.setIfInBounds_toArray, List.set_cons_zero, List.set_cons_succ, List.getElem_toArray, List.getElem_cons_zero, List.getElem_cons_succ]
            refine wpAnyH_take (i := 21) (v := ?_) rfl (by kernel_rfl) (by kernel_rfl) (by kernel_rfl) (fun _ _ _ h => h) (Or.inl ⟨by rfl, ?_⟩) (by assumption) ?_
            rotate_left
            · (intro w hSw; (try dsimp only at hSw); go_simp; try rfl)
            try simp only [Act.put, List.setIfInBounds_toArray, List.set_cons_zero, List.set_cons_succ, List.getElem_toArray, List.getElem_cons_zero, List.getElem_cons_succ]
            refine wpAnyH_take (i := 22) (v := ?_) rfl (by kernel_rfl) (by kernel_rfl) (by kernel_rfl) (fun _ _ _ h => h) (Or.inl ⟨by rfl, ?_⟩) (by assumption) ?_
            rotate_left
            · (intro w hSw; (try dsimp only at hSw); go_simp; try rfl)
            try simp only [Act.put, List.setIfInBounds_toArray, List.set_cons_zero, List.set_cons_succ, List.getElem_toArray, List.getElem_cons_zero, List.getElem_cons_succ]
            refine wpAnyH_take (i := 23) (v := ?_) rfl (by kernel_rfl) (by kernel_rfl) (by kernel_rfl) (fun _ _ _ h => h) (Or.inl ⟨by rfl, ?_⟩) (by assumption) ?_
            rotate_left
            · (intro w hSw; (try dsimp only at hSw); go_simp; try rfl)
            try simp only [Act.put, List.setIfInBounds_toArray, List.set_cons_zero, List.set_cons_succ, List.getElem_toArray, List.getElem_cons_zero, List.getElem_cons_succ]
            refine wpAnyH_take (i := 24) (v := ?_) rfl (by kernel_rfl) (by kernel_rfl) (by kernel_rfl) (fun _ _ _ h => h) (Or.inl ⟨by rfl, ?_⟩) (by assumption) ?_
            rotate_left
            · (intro w hSw; (try dsimp only at hSw); go_simp; try rfl)
            try simp only [Act.put, List.setIfInBounds_toArray, List.set_cons_zero, List.set_cons_succ, List.getElem_toArray, List.getElem_cons_zero, List.getElem_cons_succ]
            refine wpAnyH_take (i := 25) (v := ?_) rfl (by kernel_rfl) (by kernel_rfl) (by kernel_rfl) (fun _ _ _ h => h) (Or.inl ⟨by rfl, ?_⟩) (by assumption) ?_
            rotate_left
            · (intro w hSw; (try dsimp only at hSw); go_simp; try rfl)
            try simp only [Act.put, List.setIfInBounds_toArray, List.set_cons_zero, List.set_cons_succ, List.getElem_toArray, List.getElem_cons_zero, List.getElem_cons_succ]
            refine wpAnyH_take (i := 26) (v := ?_) rfl (by kernel_rfl) (by kernel_rfl) (by kernel_rfl) (fun _ _ _ h => h) (Or.inl ⟨by rfl, ?_⟩) (by assumption) ?_
            rotate_left
            · (intro w hSw; (try dsimp only at hSw); go_simp; try rfl)
            try simp only [Act.put, List.setIfInBounds_toArray, List.set_cons_zero, List.set_cons_succ, List.getElem_toArray, List.getElem_cons_zero, List.getElem_cons_succ]
            refine wpAnyH_take (i := 27) (v := undef) rfl (by kernel_rfl) (by kernel_rfl) (by kernel_rfl) (fun _ _ _ h => h) (Or.inr ⟨by rfl, rfl⟩) (by assumption) ?_
            try simp only [Act.put, List.setIfInBounds_toArray, List.set_cons_zero, List.set_cons_succ, List.getElem_toArray, List.getElem_cons_zero, List.getElem_cons_succ]
            refine wpAnyH_take (i := 28) (v := undef) rfl (by kernel_rfl) (by kernel_rfl) (by kernel_rfl) (fun _ _ _ h => h) (Or.inr ⟨by rfl, rfl⟩) (by assumption) ?_
            try simp only [Act.put, List.setIfInBounds_toArray, List.set_cons_zero, List.set_cons_succ, List.getElem_toArray, List.getElem_cons_zero, List.getElem_cons_succ]
            refine wpAnyH_take (i := 29) (v := undef) rfl (by kernel_rfl) (by kernel_rfl) (by kernel_rfl) (fun _ _ _ h => h) (Or.inr ⟨by rfl, rfl⟩) (by assumption) ?_
            try simp only [Act.put, List.setIfInBounds_toArray, List.set_cons_zero, List.set_cons_succ, List.getElem_toArray, List.getElem_cons_zero, List.getElem_cons_succ]
            refine wpAnyH_take (i := 30) (v := undef) rfl (by kernel_rfl) (by kernel_rfl) (by kernel_rfl) (fun _ _ _ h => h) (Or.inr ⟨by rfl, rfl⟩) (by assumption) ?_
            try simp only [Act.put, List.setIfInBounds_toArray, List.set_cons_zero, List.set_cons_succ, List.getElem_toArray, List.getElem_cons_zero, List.getElem_cons_succ]
            refine wpAnyH_take (i := 31) (v := undef) rfl (by kernel_rfl) (by kernel_rfl) (by kernel_rfl) (fun _ _ _ h => h) (Or.inr ⟨by rfl, rfl⟩) (by assumption) ?_
            try simp only [Act.put, List.setIfInBounds_toArray, List.set_cons_zero, List.set_cons_succ, List.getElem_toArray, List.getElem_cons_zero, List.getElem_cons_succ]
            refine wpAnyH_take (i := 32) (v := undef) rfl (by kernel_rfl) (by kernel_rfl) (by kernel_rfl) (fun _ _ _ h => h) (Or.inr ⟨by rfl, rfl⟩) (by assumption) ?_
            try simp only [Act.put, List.setIfInBounds_toArray, List.set_cons_zero, List.set_cons_succ, List.getElem_toArray, List.getElem_cons_zero, List.getElem_cons_succ]
            refine wpAnyH_take (i := 33) (v := ?_) rfl (by kernel_rfl) (by kernel_rfl) (by kernel_rfl) (fun _ _ _ h => h) (Or.inl ⟨by rfl, ?_⟩) (by assumption) ?_
            rotate_left
            · (intro w hSw; (try dsimp only at hSw); go_simp; try rfl)
            try simp only [Act.put, List.setIfInBounds_toArray, List.set_cons_zero, List.set_cons_succ, List.getElem_toArray, List.getElem_cons_zero, List.getElem_cons_succ]
            refine wpAnyH_take (i := 34) (v := ?_) rfl (by kernel_rfl) (by kernel_rfl) (by kernel_rfl) (fun _ _ _ h => h) (Or.inl ⟨by rfl, ?_⟩) (by assumption) ?_
            rotate_left
            · (intro w hSw; (try dsimp only at hSw); go_simp; try rfl)
            try simp only [Act.put, List.setIfInBounds_toArray, List.set_cons_zero, List.set_cons_succ, List.getElem_toArray, List.getElem_cons_zero, List.getElem_cons_succ]
            refine wpAnyH_take (i := 35) (v := undef) rfl (by kernel_rfl) (by kernel_rfl) (by kernel_rfl) (fun _ _ _ h => h) (Or.inr ⟨by rfl, rfl⟩) (by assumption) ?_
            try simp only [Act.put, List.setIfInBounds_toArray, List.set_cons_zero, List.set_cons_succ, List.getElem_toArray, List.getElem_cons_zero, List.getElem_cons_succ]
            refine wpAnyH_take (i := 36) (v := undef) rfl (by kernel_rfl) (by kernel_rfl) (by kernel_rfl) (fun _ _ _ h => h) (Or.inr ⟨by rfl, rfl⟩) (by assumption) ?_
            try simp only [Act.put, List.setIfInBounds_toArray, List.set_cons_zero, List.set_cons_succ, List.getElem_toArray, List.getElem_cons_zero, List.getElem_cons_succ]
            refine wpAnyH_take (i := 37) (v := undef) rfl (by kernel_rfl) (by kernel_rfl) (by kernel_rfl) (fun _ _ _ h => h) (Or.inr ⟨by rfl, rfl⟩) (by assumption) ?_
            try simp only [Act.put, List.setIfInBounds_toArray, List.set_cons_zero, List.set_cons_succ, List.getElem_toArray, List.getElem_cons_zero, List.getElem_cons_succ]
            refine wpAnyH_take (i := 38) (v := undef) rfl (by kernel_rfl) (by kernel_rfl) (by kernel_rfl) (fun _ _ _ h => h) (Or.inr ⟨by rfl, rfl⟩) (by assumption) ?_
            try simp only [Act.put, List.setIfInBounds_toArray, List.set_cons_zero, List.set_cons_succ, List.getElem_toArray, List.getElem_cons_zero, List.getElem_cons_succ]
            refine wpAnyH_take (i := 39) (v := undef) rfl (by kernel_rfl) (by kernel_rfl) (by kernel_rfl) (fun _ _ _ h => h) (Or.inr ⟨by rfl, rfl⟩) (by assumption) ?_
            try simp only [Act.put, List.setIfInBounds_toArray, List.set_cons_zero, List.set_cons_succ, List.getElem_toArray, List.getElem_cons_zero, List.getElem_cons_succ]
            refine wpAnyH_take (i := 40) (v := undef) rfl (by kernel_rfl) (by kernel_rfl) (by kernel_rfl) (fun _ _ _ h => h) (Or.inr ⟨by rfl, rfl⟩) (by assumption) ?_
            try simp only [Act.put, List.setIfInBounds_toArray, List.set_cons_zero, List.set_cons_succ, List.getElem_toArray, List.getElem_cons_zero, List.getElem_cons_succ]
            refine wpAnyH_take (i := 41) (v := ?_) rfl (by kernel_rfl) (by kernel_rfl) (by kernel_rfl) (fun _ _ _ h => h) (Or.inl ⟨by rfl, ?_⟩) (by assumption) ?_
            rotate_left
            · (intro w hSw; (try dsimp only at hSw); go_simp; try rfl)
            try simp only [Act.put, List.setIfInBounds_toArray, List.set_cons_zero, List.set_cons_succ, List.getElem_toArray, List.getElem_cons_zero, List.getElem_cons_succ]
            refine wpAnyH_take (i := 42) (v := ?_) rfl (by kernel_rfl) (by kernel_rfl) (by kernel_rfl) (fun _ _ _ h => h) (Or.inl ⟨by rfl, ?_⟩) (by assumption) ?_
            rotate_left
            · (intro w hSw; (try dsimp only at hSw); go_simp; try rfl)
            try simp only [Act.put, List.setIfInBounds_toArray, List.set_cons_zero, List.set_cons_succ, List.getElem_toArray, List.getElem_cons_zero, List.getElem_cons_succ]
            refine wpAnyH_done (by kernel_rfl) ?_ _
            go_split_ands
            have hbn : Below X.heap.size X w5 := by assumption
            have HBn := Lib.hid hbn
            clear hbn HKP t1 t2 d3
            go_wp2_with fail
            go_loopw [8] (fun i wr => ∃ (j : Nat), j ≤ k ∧ i = .int .i64 j ∧ Hid (Below X.heap.size X wr)) (fun i _ => k - (intOf i).toNat)
            case atStart => exact ⟨0, Nat.zero_le _, rfl, HBn⟩
            case round =>
              clear HBn
              obtain ⟨j, hj, rfl, hB⟩ := hrel
              by_cases hltj : j < k
              · have hltj' : (j : Int) < (k : Int) := by omega
                have hltjN : (j : Int) < (N : Int) := by omega
                have hjb : (j : Int) ≤ 10 := by omega
                obtain ⟨e1, g3, off3, hdb, hg3, u1, u2, hjm⟩ := clCell (RA'.out.below hB.out) j (by omega)
                obtain ⟨⟨z1, z2⟩, hZ⟩ : ∃ X, LA.getD j (ByteArray.empty, 0) = X := ⟨_, rfl⟩
                rw [hZ] at u1 u2
                obtain ⟨e2, g4, off4, hda, hg4, t1', t2', hjk⟩ := clCell (RA'.out.below hB.out) k hlt
                rw [HX.out] at t1' t2'
                by_cases hr1 : k < N1
                · have hr2 : (k : Int) < (N1 : Int) := by omega
                  have hr3 : decide (k < N1) = true := decide_eq_true hr1
                  have hne2 := HAP.out k j hlt hltj (by omega)
                  rw [HX.out, hZ] at hne2
                  obtain ⟨he, hgd⟩ := eqC_run y1 101 z1 z2
                  rw [decide_eq_false hne2] at he
                  simp only [Option.some.injEq, Addr.mk.injEq, and_true] at hda hdb
                  obtain ⟨rfl, rfl⟩ := hda
                  obtain ⟨rfl, rfl⟩ := hdb
                  clear hZ hjm hjk e1 e2 hne2
                  go_wp2_with fail
                  go_quiet (fail)
                  go_wp2
                  go_roundw
                  case rel => exact ⟨j + 1, by omega, by go_num, Lib.hid (below_dq hB.out _)⟩
                  case measure => simp [intOf]; omega
                · have hr2 : ¬ (k : Int) < (N1 : Int) := by omega
                  have hr3 : decide (k < N1) = false := decide_eq_false hr1
                  by_cases hr4 : N1 ≤ j
                  · have hr5 : (N1 : Int) ≤ (j : Int) := by omega
                    have hr6 : decide (N1 ≤ j) = true := decide_eq_true hr4
                    have hne2 := HAP.out k j hlt hltj (by omega)
                    rw [HX.out, hZ] at hne2
                    obtain ⟨he, hgd⟩ := eqC_run y1 101 z1 z2
                    rw [decide_eq_false hne2] at he
                    simp only [Option.some.injEq, Addr.mk.injEq, and_true] at hda hdb
                    obtain ⟨rfl, rfl⟩ := hda
                    obtain ⟨rfl, rfl⟩ := hdb
                    clear hZ hjm hjk e1 e2 hne2
                    go_wp2_with fail
                    go_quiet (fail)
                    go_wp2
                    go_roundw
                    case rel => exact ⟨j + 1, by omega, by go_num, Lib.hid (below_dq hB.out _)⟩
                    case measure => simp [intOf]; omega
                  · have hr5 : ¬ (N1 : Int) ≤ (j : Int) := by omega
                    have hr6 : decide (N1 ≤ j) = false := decide_eq_false hr4
                    simp only [Option.some.injEq, Addr.mk.injEq, and_true] at hda hdb
                    obtain ⟨rfl, rfl⟩ := hda
                    obtain ⟨rfl, rfl⟩ := hdb
                    clear hZ hjm hjk e1 e2 u1 u2 t1' t2'
                    go_wp2_with fail
                    go_quiet (fail)
                    go_wp2
                    go_roundw
                    case rel => exact ⟨j + 1, by omega, by go_num, Lib.hid (below_dq hB.out _)⟩
                    case measure => simp [intOf]; omega
              · obtain rfl : j = k := by omega
                go_wp2
                go_roundw
                case rel => exact ⟨j + 1, by omega, by go_num, hB⟩
                case measure => simp [intOf]; omega
          · have HKP : Hid (∀ w' : World, Below X.heap.size X w' → (w'.cell? ⟨g2, off2 + k * 2, none⟩ = some (.string y1) ∧ w'.cell? ⟨g2, off2 + k * 2 + 1, none⟩ = some (.int .u8 118) ∧ w'.cell? ⟨w.heap.size, 3, none⟩ = some (.string p1) ∧ Below X.heap.size X w')) := Lib.hid (fun w' hb => ⟨(hb.cell (p := ⟨g2, off2 + k * 2, none⟩) hg2).trans Y1.out, (hb.cell (p := ⟨g2, off2 + k * 2 + 1, none⟩) hg2).trans Y2.out, (HD0.out w' hb).2.2.2.1, hb⟩)
            go_wp2_with fail
            refine wp_region_held_drew (S := (fun w' => w'.cell? ⟨g2, off2 + k * 2, none⟩ = some (.string y1) ∧ w'.cell? ⟨g2, off2 + k * 2 + 1, none⟩ = some (.int .u8 118) ∧ w'.cell? ⟨w.heap.size, 3, none⟩ = some (.string p1) ∧ Below X.heap.size X w')) (by kernel_rfl) ?_ (fun hHeld => ?_)
            · ((first
                  | exact HKP.out _ (Below.refl _ _)
                  | exact HKP.out _ (Below.refl _ _).drew
                  | (go_split_ands; exact HKP.out _ (below_self (by assumption) (by assumption)))
                  | (go_split_ands; exact HKP.out _ (Below.drew (by assumption)))
                  | (go_split_ands; exact HKP.out _ (by assumption))))
            refine wpAnyH_take (i := 0) (v := ?_) rfl (by kernel_rfl) (by kernel_rfl) (by kernel_rfl) (fun _ _ _ h => h) (Or.inl ⟨by rfl, ?_⟩) (by assumption) ?_
            rotate_left
            · (intro w hSw; (try dsimp only at hSw); go_simp; try rfl)
            try simp only [Act.put, List.setIfInBounds_toArray, List.set_cons_zero, List.set_cons_succ, List.getElem_toArray, List.getElem_cons_zero, List.getElem_cons_succ]
            refine wpAnyH_take (i := 1) (v := ?_) rfl (by kernel_rfl) (by kernel_rfl) (by kernel_rfl) (fun _ _ _ h => h) (Or.inl ⟨by rfl, ?_⟩) (by assumption) ?_
            rotate_left
            · (intro w hSw; (try dsimp only at hSw); go_simp; try rfl)
            try simp only [Act.put, List.setIfInBounds_toArray, List.set_cons_zero, List.set_cons_succ, List.getElem_toArray, List.getElem_cons_zero, List.getElem_cons_succ]
            refine wpAnyH_take (i := 2) (v := ?_) rfl (by kernel_rfl) (by kernel_rfl) (by kernel_rfl) (fun _ _ _ h => h) (Or.inl ⟨by rfl, ?_⟩) (by assumption) ?_
            rotate_left
            · (intro w hSw; (try dsimp only at hSw); go_simp; try rfl)
            try simp only [Act.put, List.setIfInBounds_toArray, List.set_cons_zero, List.set_cons_succ, List.getElem_toArray, List.getElem_cons_zero, List.getElem_cons_succ]
            refine wpAnyH_take (i := 3) (v := ?_) rfl (by kernel_rfl) (by kernel_rfl) (by kernel_rfl) (fun _ _ _ h => h) (Or.inl ⟨by rfl, ?_⟩) (by assumption) ?_
            rotate_left
            · (intro w hSw; (try dsimp only at hSw); go_simp; try rfl)
            try simp only [Act.put, List.setIfInBounds_toArray, List.set_cons_zero, List.set_cons_succ, List.getElem_toArray, List.getElem_cons_zero, List.getElem_cons_succ]
            refine wpAnyH_take (i := 4) (v := ?_) rfl (by kernel_rfl) (by kernel_rfl) (by kernel_rfl) (fun _ _ _ h => h) (Or.inl ⟨by rfl, ?_⟩) (by assumption) ?_
            rotate_left
            · (intro w hSw; (try dsimp only at hSw); go_simp; try rfl)
            try simp only [Act.put, List.setIfInBounds_toArray, List.set_cons_zero, List.set_cons_succ, List.getElem_toArray, List.getElem_cons_zero, List.getElem_cons_succ]
            refine wpAnyH_take (i := 5) (v := ?_) rfl (by kernel_rfl) (by kernel_rfl) (by kernel_rfl) (fun _ _ _ h => h) (Or.inl ⟨by rfl, ?_⟩) (by assumption) ?_
            rotate_left
            · (intro w hSw; (try dsimp only at hSw); go_simp; try rfl)
            try simp only [Act.put, List.setIfInBounds_toArray, List.set_cons_zero, List.set_cons_succ, List.getElem_toArray, List.getElem_cons_zero, List.getElem_cons_succ]
            refine wpAnyH_take (i := 6) (v := ?_) rfl (by kernel_rfl) (by kernel_rfl) (by kernel_rfl) (fun _ _ _ h => h) (Or.inl ⟨by rfl, ?_⟩) (by assumption) ?_
            rotate_left
            · (intro w hSw; (try dsimp only at hSw); go_simp; try rfl)
            try simp only [Act.put, List.setIfInBounds_toArray, List.set_cons_zero, List.set_cons_succ, List.getElem_toArray, List.getElem_cons_zero, List.getElem_cons_succ]
            refine wpAnyH_take (i := 7) (v := ?_) rfl (by kernel_rfl) (by kernel_rfl) (by kernel_rfl) (fun _ _ _ h => h) (Or.inl ⟨by rfl, ?_⟩) (by assumption) ?_
            rotate_left
            · (intro w hSw; (try dsimp only at hSw); go_simp; try rfl)
            try simp only [Act.put, List.setIfInBounds_toArray, List.set_cons_zero, List.set_cons_succ, List.getElem_toArray, List.getElem_cons_zero, List.getElem_cons_succ]
            refine wpAnyH_take (i := 8) (v := ?_) rfl (by kernel_rfl) (by kernel_rfl) (by kernel_rfl) (fun _ _ _ h => h) (Or.inl ⟨by rfl, ?_⟩) (by assumption) ?_
            rotate_left
            · (intro w hSw; (try dsimp only at hSw); go_simp; try rfl)
            try simp only [Act.put, List.setIfInBounds_toArray, List.set_cons_zero, List.set_cons_succ, List.getElem_toArray, List.getElem_cons_zero, List.getElem_cons_succ]
            refine wpAnyH_take (i := 9) (v := ?_) rfl (by kernel_rfl) (by kernel_rfl) (by kernel_rfl) (fun _ _ _ h => h) (Or.inl ⟨by rfl, ?_⟩) (by assumption) ?_
            rotate_left
            · (intro w hSw; (try dsimp only at hSw); go_simp; try rfl)
            try simp only [Act.put, List.setIfInBounds_toArray, List.set_cons_zero, List.set_cons_succ, List.getElem_toArray, List.getElem_cons_zero, List.getElem_cons_succ]
            refine wpAnyH_take (i := 10) (v := ?_) rfl (by kernel_rfl) (by kernel_rfl) (by kernel_rfl) (fun _ _ _ h => h) (Or.inl ⟨by rfl, ?_⟩) (by assumption) ?_
            rotate_left
            · (intro w hSw; (try dsimp only at hSw); go_simp; try rfl)
            try simp only [Act.put, List.setIfInBounds_toArray, List.set_cons_zero, List.set_cons_succ, List.getElem_toArray, List.getElem_cons_zero, List.getElem_cons_succ]
            refine wpAnyH_take (i := 11) (v := ?_) rfl (by kernel_rfl) (by kernel_rfl) (by kernel_rfl) (fun _ _ _ h => h) (Or.inl ⟨by rfl, ?_⟩) (by assumption) ?_
            rotate_left
            · (intro w hSw; (try dsimp only at hSw); go_simp; try rfl)
            try simp only [Act.put, List.setIfInBounds_toArray, List.set_cons_zero, List.set_cons_succ, List.getElem_toArray, List.getElem_cons_zero, List.getElem_cons_succ]
            refine wpAnyH_take (i := 12) (v := ?_) rfl (by kernel_rfl) (by kernel_rfl) (by kernel_rfl) (fun _ _ _ h => h) (Or.inl ⟨by rfl, ?_⟩) (by assumption) ?_
            rotate_left
            · (intro w hSw; (try dsimp only at hSw); go_simp; try rfl)
            try simp only [Act.put, List.setIfInBounds_toArray, List.set_cons_zero, List.set_cons_succ, List.getElem_toArray, List.getElem_cons_zero, List.getElem_cons_succ]
            refine wpAnyH_take (i := 13) (v := ?_) rfl (by kernel_rfl) (by kernel_rfl) (by kernel_rfl) (fun _ _ _ h => h) (Or.inl ⟨by rfl, ?_⟩) (by assumption) ?_
            rotate_left
            · (intro w hSw; (try dsimp only at hSw); go_simp; try rfl)
            try simp only [Act.put, List.setIfInBounds_toArray, List.set_cons_zero, List.set_cons_succ, List.getElem_toArray, List.getElem_cons_zero, List.getElem_cons_succ]
            refine wpAnyH_take (i := 14) (v := ?_) rfl (by kernel_rfl) (by kernel_rfl) (by kernel_rfl) (fun _ _ _ h => h) (Or.inl ⟨by rfl, ?_⟩) (by assumption) ?_
            rotate_left
            · (intro w hSw; (try dsimp only at hSw); go_simp; try rfl)
            try simp only [Act.put, List.setIfInBounds_toArray, List.set_cons_zero, List.set_cons_succ, List.getElem_toArray, List.getElem_cons_zero, List.getElem_cons_succ]
            refine wpAnyH_take (i := 15) (v := ?_) rfl (by kernel_rfl) (by kernel_rfl) (by kernel_rfl) (fun _ _ _ h => h) (Or.inl ⟨by rfl, ?_⟩) (by assumption) ?_
            rotate_left
            · (intro w hSw; (try dsimp only at hSw); go_simp; try rfl)
            try simp only [Act.put, List.setIfInBounds_toArray, List.set_cons_zero, List.set_cons_succ, List.getElem_toArray, List.getElem_cons_zero, List.getElem_cons_succ]
            refine wpAnyH_ready (rs := [16]) (by kernel_rfl) (by simp) ?_
            refine (AllReadyH.cons rfl (fun K hK => ?_) AllReadyH.nil)
            go_simp
            (go_at_call 26; go_split_ands; refine (HCP.out _ (by assumption)).mono ?_; rintro e w5 ⟨rfl, hbw5⟩)
            refine hK.out _ _ ?_ (fun hHeld => ?_)
            · ((first
                  | exact HKP.out _ (Below.refl _ _)
                  | exact HKP.out _ (Below.refl _ _).drew
                  | (go_split_ands; exact HKP.out _ (below_self (by assumption) (by assumption)))
                  | (go_split_ands; exact HKP.out _ (Below.drew (by assumption)))
                  | (go_split_ands; exact HKP.out _ (by assumption))))
            clear hK K
            try simp only [Act.put, List.setIfInBounds_toArray, List.set_cons_zero, List.set_cons_succ, List.getElem_toArray, List.getElem_cons_zero, List.getElem_cons_succ]
            refine wpAnyH_take (i := 17) (v := ?_) rfl (by kernel_rfl) (by kernel_rfl) (by kernel_rfl) (fun _ _ _ h => h) (Or.inl ⟨by rfl, ?_⟩) (by assumption) ?_
            rotate_left
            · (intro w hSw; (try dsimp only at hSw); go_simp; try rfl)
            try simp only [Act.put, List.setIfInBounds_toArray, List.set_cons_zero, List.set_cons_succ, List.getElem_toArray, List.getElem_cons_zero, List.getElem_cons_succ]
            refine wpAnyH_take (i := 18) (v := ?_) rfl (by kernel_rfl) (by kernel_rfl) (by kernel_rfl) (fun _ _ _ h => h) (Or.inl ⟨by rfl, ?_⟩) (by assumption) ?_
            rotate_left
            · (intro w hSw; (try dsimp only at hSw); go_simp; try rfl)
            try simp only [Act.put, List.setIfInBounds_toArray, List.set_cons_zero, List.set_cons_succ, List.getElem_toArray, List.getElem_cons_zero, List.getElem_cons_succ]
            refine wpAnyH_take (i := 19) (v := ?_) rfl (by kernel_rfl) (by kernel_rfl) (by kernel_rfl) (fun _ _ _ h => h) (Or.inl ⟨by rfl, ?_⟩) (by assumption) ?_
            rotate_left
            · (intro w hSw; (try dsimp only at hSw); go_simp; try rfl)
            try simp only [Act.put, List.setIfInBounds_toArray, List.set_cons_zero, List.set_cons_succ, List.getElem_toArray, List.getElem_cons_zero, List.getElem_cons_succ]
            refine wpAnyH_take (i := 20) (v := ?_) rfl (by kernel_rfl) (by kernel_rfl) (by kernel_rfl) (fun _ _ _ h => h) (Or.inl ⟨by rfl, ?_⟩) (by assumption) ?_
            rotate_left
            · (intro w hSw; (try dsimp only at hSw); go_simp; try rfl)
            try simp only [Act.put, List.setIfInBounds_toArray, List.set_cons_zero, List.set_cons_succ, List.getElem_toArray, List.getElem_cons_zero, List.getElem_cons_succ]
            refine wpAnyH_take (i := 21) (v := ?_) rfl (by kernel_rfl) (by kernel_rfl) (by kernel_rfl) (fun _ _ _ h => h) (Or.inl ⟨by rfl, ?_⟩) (by assumption) ?_
            rotate_left
            · (intro w hSw; (try dsimp only at hSw); go_simp; try rfl)
            try simp only [Act.put, List.setIfInBounds_toArray, List.set_cons_zero, List.set_cons_succ, List.getElem_toArray, List.getElem_cons_zero, List.getElem_cons_succ]
            refine wpAnyH_take (i := 22) (v := ?_) rfl (by kernel_rfl) (by kernel_rfl) (by kernel_rfl) (fun _ _ _ h => h) (Or.inl ⟨by rfl, ?_⟩) (by assumption) ?_
            rotate_left
            · (intro w hSw; (try dsimp only at hSw); go_simp; try rfl)
            try simp only [Act.put, List.setIfInBounds_toArray, List.set_cons_zero, List.set_cons_succ, List.getElem_toArray, List.getElem_cons_zero, List.getElem_cons_succ]
            refine wpAnyH_take (i := 23) (v := ?_) rfl (by kernel_rfl) (by kernel_rfl) (by kernel_rfl) (fun _ _ _ h => h) (Or.inl ⟨by rfl, ?_⟩) (by assumption) ?_
            rotate_left
            · (intro w hSw; (try dsimp only at hSw); go_simp; try rfl)
            try simp only [Act.put, List.setIfInBounds_toArray, List.set_cons_zero, List.set_cons_succ, List.getElem_toArray, List.getElem_cons_zero, List.getElem_cons_succ]
            refine wpAnyH_take (i := 24) (v := ?_) rfl (by kernel_rfl) (by kernel_rfl) (by kernel_rfl) (fun _ _ _ h => h) (Or.inl ⟨by rfl, ?_⟩) (by assumption) ?_
            rotate_left
            · (intro w hSw; (try dsimp only at hSw); go_simp; try rfl)
            try simp only [Act.put, List.setIfInBounds_toArray, List.set_cons_zero, List.set_cons_succ, List.getElem_toArray, List.getElem_cons_zero, List.getElem_cons_succ]
            refine wpAnyH_take (i := 25) (v := ?_) rfl (by kernel_rfl) (by kernel_rfl) (by kernel_rfl) (fun _ _ _ h => h) (Or.inl ⟨by rfl, ?_⟩) (by assumption) ?_
            rotate_left
            · (intro w hSw; (try dsimp only at hSw); go_simp; try rfl)
            try simp only [Act.put, List.setIfInBounds_toArray, List.set_cons_zero, List.set_cons_succ, List.getElem_toArray, List.getElem_cons_zero, List.getElem_cons_succ]
            refine wpAnyH_take (i := 26) (v := ?_) rfl (by kernel_rfl) (by kernel_rfl) (by kernel_rfl) (fun _ _ _ h => h) (Or.inl ⟨by rfl, ?_⟩) (by assumption) ?_
            rotate_left
            · (intro w hSw; (try dsimp only at hSw); go_simp; try rfl)
            try simp only [Act.put, List.setIfInBounds_toArray, List.set_cons_zero, List.set_cons_succ, List.getElem_toArray, List.getElem_cons_zero, List.getElem_cons_succ]
            refine wpAnyH_take (i := 27) (v := ?_) rfl (by kernel_rfl) (by kernel_rfl) (by kernel_rfl) (fun _ _ _ h => h) (Or.inl ⟨by rfl, ?_⟩) (by assumption) ?_
            rotate_left
            · (intro w hSw; (try dsimp only at hSw); go_simp; try rfl)
            try simp only [Act.put, List.setIfInBounds_toArray, List.set_cons_zero, List.set_cons_succ, List.getElem_toArray, List.getElem_cons_zero, List.getElem_cons_succ]
            refine wpAnyH_take (i := 28) (v := ?_) rfl (by kernel_rfl) (by kernel_rfl) (by kernel_rfl) (fun _ _ _ h => h) (Or.inl ⟨by rfl, ?_⟩) (by assumption) ?_
            rotate_left
            · (intro w hSw; (try dsimp only at hSw); go_simp; try rfl)
            try simp only [Act.put, List.setIfInBounds_toArray, List.set_cons_zero, List.set_cons_succ, List.getElem_toArray, List.getElem_cons_zero, List.getElem_cons_succ]
            refine wpAnyH_take (i := 29) (v := ?_) rfl (by kernel_rfl) (by kernel_rfl) (by kernel_rfl) (fun _ _ _ h => h) (Or.inl ⟨by rfl, ?_⟩) (by assumption) ?_
            rotate_left
            · (intro w hSw; (try dsimp only at hSw); go_simp; try rfl)
            try simp only [Act.put, List.setIfInBounds_toArray, List.set_cons_zero, List.set_cons_succ, List.getElem_toArray, List.getElem_cons_zero, List.getElem_cons_succ]
            refine wpAnyH_take (i := 30) (v := ?_) rfl (by kernel_rfl) (by kernel_rfl) (by kernel_rfl) (fun _ _ _ h => h) (Or.inl ⟨by rfl, ?_⟩) (by assumption) ?_
            rotate_left
            · (intro w hSw; (try dsimp only at hSw); go_simp; try rfl)
            try simp only [Act.put, List.setIfInBounds_toArray, List.set_cons_zero, List.set_cons_succ, List.getElem_toArray, List.getElem_cons_zero, List.getElem_cons_succ]
            refine wpAnyH_take (i := 31) (v := ?_) rfl (by kernel_rfl) (by kernel_rfl) (by kernel_rfl) (fun _ _ _ h => h) (Or.inl ⟨by rfl, ?_⟩) (by assumption) ?_
            rotate_left
            · (intro w hSw; (try dsimp only at hSw); go_simp; try rfl)
            try simp only [Act.put, List.setIfInBounds_toArray, List.set_cons_zero, List.set_cons_succ, List.getElem_toArray, List.getElem_cons_zero, List.getElem_cons_succ]
            refine wpAnyH_take (i := 32) (v := ?_) rfl (by kernel_rfl) (by kernel_rfl) (by kernel_rfl) (fun _ _ _ h => h) (Or.inl ⟨by rfl, ?_⟩) (by assumption) ?_
            rotate_left
            · (intro w hSw; (try dsimp only at hSw); go_simp; try rfl)
            try simp only [Act.put, List.setIfInBounds_toArray, List.set_cons_zero, List.set_cons_succ, List.getElem_toArray, List.getElem_cons_zero, List.getElem_cons_succ]
            refine wpAnyH_take (i := 33) (v := ?_) rfl (by kernel_rfl) (by kernel_rfl) (by kernel_rfl) (fun _ _ _ h => h) (Or.inl ⟨by rfl, ?_⟩) (by assumption) ?_
            rotate_left
            · (intro w hSw; (try dsimp only at hSw); go_simp; try rfl)
            try simp only [Act.put, List.setIfInBounds_toArray, List.set_cons_zero, List.set_cons_succ, List.getElem_toArray, List.getElem_cons_zero, List.getElem_cons_succ]
            refine wpAnyH_take (i := 34) (v := ?_) rfl (by kernel_rfl) (by kernel_rfl) (by kernel_rfl) (fun _ _ _ h => h) (Or.inl ⟨by rfl, ?_⟩) (by assumption) ?_
            rotate_left
            · (intro w hSw; (try dsimp only at hSw); go_simp; try rfl)
            try simp only [Act.put, List.setIfInBounds_toArray, List.set_cons_zero, List.set_cons_succ, List.getElem_toArray, List.getElem_cons_zero, List.getElem_cons_succ]
            refine wpAnyH_take (i := 35) (v := undef) rfl (by kernel_rfl) (by kernel_rfl) (by kernel_rfl) (fun _ _ _ h => h) (Or.inr ⟨by rfl, rfl⟩) (by assumption) ?_
            try simp only [Act.put, List.setIfInBounds_toArray, List.set_cons_zero, List.set_cons_succ, List.getElem_toArray, List.getElem_cons_zero, List.getElem_cons_succ]
            refine wpAnyH_take (i := 36) (v := undef) rfl (by kernel_rfl) (by kernel_rfl) (by kernel_rfl) (fun _ _ _ h => h) (Or.inr ⟨by rfl, rfl⟩) (by assumption) ?_
            try simp only [Act.put, List.setIfInBounds_toArray, List.set_cons_zero, List.set_cons_succ, List.getElem_toArray, List.getElem_cons_zero, List.getElem_cons_succ]
            refine wpAnyH_take (i := 37) (v := undef) rfl (by kernel_rfl) (by kernel_rfl) (by kernel_rfl) (fun _ _ _ h => h) (Or.inr ⟨by rfl, rfl⟩) (by assumption) ?_
            try simp only [Act.put, List.setIfInBounds_toArray, List.set_cons_zero, List.set_cons_succ, List.getElem_toArray, List.getElem_cons_zero, List.getElem_cons_succ]
            refine wpAnyH_take (i := 38) (v := undef) rfl (by kernel_rfl) (by kernel_rfl) (by kernel_rfl) (fun _ _ _ h => h) (Or.inr ⟨by rfl, rfl⟩) (by assumption) ?_
            try simp only [Act.put, List.setIfInBounds_toArray, List.set_cons_zero, List.set_cons_succ, List.getElem_toArray, List.getElem_cons_zero, List.getElem_cons_succ]
            refine wpAnyH_take (i := 39) (v := undef) rfl (by kernel_rfl) (by kernel_rfl) (by kernel_rfl) (fun _ _ _ h => h) (Or.inr ⟨by rfl, rfl⟩) (by assumption) ?_
            try simp only [Act.put, List.setIfInBounds_toArray, List.set_cons_zero, List.set_cons_succ, List.getElem_toArray, List.getElem_cons_zero, List.getElem_cons_succ]
            refine wpAnyH_take (i := 40) (v := undef) rfl (by kernel_rfl) (by kernel_rfl) (by kernel_rfl) (fun _ _ _ h => h) (Or.inr ⟨by rfl, rfl⟩) (by assumption) ?_
            try simp only [Act.put, List.setIfInBounds_toArray, List.set_cons_zero, List.set_cons_succ, List.getElem_toArray, List.getElem_cons_zero, List.getElem_cons_succ]
            refine wpAnyH_take (i := 41) (v := ?_) rfl (by kernel_rfl) (by kernel_rfl) (by kernel_rfl) (fun _ _ _ h => h) (Or.inl ⟨by rfl, ?_⟩) (by assumption) ?_
            rotate_left
            · (intro w hSw; (try dsimp only at hSw); go_simp; try rfl)
            try simp only [Act.put, List.setIfInBounds_toArray, List.set_cons_zero, List.set_cons_succ, List.getElem_toArray, List.getElem_cons_zero, List.getElem_cons_succ]
            refine wpAnyH_take (i := 42) (v := ?_) rfl (by kernel_rfl) (by kernel_rfl) (by kernel_rfl) (fun _ _ _ h => h) (Or.inl ⟨by rfl, ?_⟩) (by assumption) ?_
            rotate_left
            · (intro w hSw; (try dsimp only at hSw); go_simp; try rfl)
            try simp only [Act.put, List.setIfInBounds_toArray, List.set_cons_zero, List.set_cons_succ, List.getElem_toArray, List.getElem_cons_zero, List.getElem_cons_succ]
            refine wpAnyH_done (by kernel_rfl) ?_ _
            go_split_ands
            have hbn : Below X.heap.size X w5 := by assumption
            have HBn := Lib.hid hbn
            clear hbn HKP t1 t2 d3
            go_wp2_with fail
            go_loopw [8] (fun i wr => ∃ (j : Nat), j ≤ k ∧ i = .int .i64 j ∧ Hid (Below X.heap.size X wr)) (fun i _ => k - (intOf i).toNat)
            case atStart => exact ⟨0, Nat.zero_le _, rfl, HBn⟩
            case round =>
              clear HBn
              obtain ⟨j, hj, rfl, hB⟩ := hrel
              by_cases hltj : j < k
              · have hltj' : (j : Int) < (k : Int) := by omega
                have hltjN : (j : Int) < (N : Int) := by omega
                have hjb : (j : Int) ≤ 10 := by omega
                obtain ⟨e1, g3, off3, hdb, hg3, u1, u2, hjm⟩ := clCell (RA'.out.below hB.out) j (by omega)
                obtain ⟨⟨z1, z2⟩, hZ⟩ : ∃ X, LA.getD j (ByteArray.empty, 0) = X := ⟨_, rfl⟩
                rw [hZ] at u1 u2
                obtain ⟨e2, g4, off4, hda, hg4, t1', t2', hjk⟩ := clCell (RA'.out.below hB.out) k hlt
                rw [HX.out] at t1' t2'
                by_cases hr1 : k < N1
                · have hr2 : (k : Int) < (N1 : Int) := by omega
                  have hr3 : decide (k < N1) = true := decide_eq_true hr1
                  have hne2 := HAP.out k j hlt hltj (by omega)
                  rw [HX.out, hZ] at hne2
                  obtain ⟨he, hgd⟩ := eqC_run y1 118 z1 z2
                  rw [decide_eq_false hne2] at he
                  simp only [Option.some.injEq, Addr.mk.injEq, and_true] at hda hdb
                  obtain ⟨rfl, rfl⟩ := hda
                  obtain ⟨rfl, rfl⟩ := hdb
                  clear hZ hjm hjk e1 e2 hne2
                  go_wp2_with fail
                  go_quiet (fail)
                  go_wp2
                  go_roundw
                  case rel => exact ⟨j + 1, by omega, by go_num, Lib.hid (below_dq hB.out _)⟩
                  case measure => simp [intOf]; omega
                · have hr2 : ¬ (k : Int) < (N1 : Int) := by omega
                  have hr3 : decide (k < N1) = false := decide_eq_false hr1
                  by_cases hr4 : N1 ≤ j
                  · have hr5 : (N1 : Int) ≤ (j : Int) := by omega
                    have hr6 : decide (N1 ≤ j) = true := decide_eq_true hr4
                    have hne2 := HAP.out k j hlt hltj (by omega)
                    rw [HX.out, hZ] at hne2
                    obtain ⟨he, hgd⟩ := eqC_run y1 118 z1 z2
                    rw [decide_eq_false hne2] at he
                    simp only [Option.some.injEq, Addr.mk.injEq, and_true] at hda hdb
                    obtain ⟨rfl, rfl⟩ := hda
                    obtain ⟨rfl, rfl⟩ := hdb
                    clear hZ hjm hjk e1 e2 hne2
                    go_wp2_with fail
                    go_quiet (fail)
                    go_wp2
                    go_roundw
                    case rel => exact ⟨j + 1, by omega, by go_num, Lib.hid (below_dq hB.out _)⟩
                    case measure => simp [intOf]; omega
                  · have hr5 : ¬ (N1 : Int) ≤ (j : Int) := by omega
                    have hr6 : decide (N1 ≤ j) = false := decide_eq_false hr4
                    simp only [Option.some.injEq, Addr.mk.injEq, and_true] at hda hdb
                    obtain ⟨rfl, rfl⟩ := hda
                    obtain ⟨rfl, rfl⟩ := hdb
                    clear hZ hjm hjk e1 e2 u1 u2 t1' t2'
                    go_wp2_with fail
                    go_quiet (fail)
                    go_wp2
                    go_roundw
                    case rel => exact ⟨j + 1, by omega, by go_num, Lib.hid (below_dq hB.out _)⟩
                    case measure => simp [intOf]; omega
              · obtain rfl : j = k := by omega
                go_wp2
                go_roundw
                case rel => exact ⟨j + 1, by omega, by go_num, hB⟩
                case measure => simp [intOf]; omega
          · have HKP : Hid (∀ w' : World, Below X.heap.size X w' → (w'.cell? ⟨g2, off2 + k * 2, none⟩ = some (.string y1) ∧ w'.cell? ⟨g2, off2 + k * 2 + 1, none⟩ = some (.int .u8 107) ∧ w'.cell? ⟨w.heap.size, 3, none⟩ = some (.string p1) ∧ Below X.heap.size X w')) := Lib.hid (fun w' hb => ⟨(hb.cell (p := ⟨g2, off2 + k * 2, none⟩) hg2).trans Y1.out, (hb.cell (p := ⟨g2, off2 + k * 2 + 1, none⟩) hg2).trans Y2.out, (HD0.out w' hb).2.2.2.1, hb⟩)
            go_wp2_with fail
            refine wp_region_held_drew (S := (fun w' => w'.cell? ⟨g2, off2 + k * 2, none⟩ = some (.string y1) ∧ w'.cell? ⟨g2, off2 + k * 2 + 1, none⟩ = some (.int .u8 107) ∧ w'.cell? ⟨w.heap.size, 3, none⟩ = some (.string p1) ∧ Below X.heap.size X w')) (by kernel_rfl) ?_ (fun hHeld => ?_)
            · ((first
                  | exact HKP.out _ (Below.refl _ _)
                  | exact HKP.out _ (Below.refl _ _).drew
                  | (go_split_ands; exact HKP.out _ (below_self (by assumption) (by assumption)))
                  | (go_split_ands; exact HKP.out _ (Below.drew (by assumption)))
                  | (go_split_ands; exact HKP.out _ (by assumption))))
            refine wpAnyH_take (i := 0) (v := ?_) rfl (by kernel_rfl) (by kernel_rfl) (by kernel_rfl) (fun _ _ _ h => h) (Or.inl ⟨by rfl, ?_⟩) (by assumption) ?_
            rotate_left
            · (intro w hSw; (try dsimp only at hSw); go_simp; try rfl)
            try simp only [Act.put, List.setIfInBounds_toArray, List.set_cons_zero, List.set_cons_succ, List.getElem_toArray, List.getElem_cons_zero, List.getElem_cons_succ]
            refine wpAnyH_take (i := 1) (v := ?_) rfl (by kernel_rfl) (by kernel_rfl) (by kernel_rfl) (fun _ _ _ h => h) (Or.inl ⟨by rfl, ?_⟩) (by assumption) ?_
            rotate_left
            · (intro w hSw; (try dsimp only at hSw); go_simp; try rfl)
            try simp only [Act.put, List.setIfInBounds_toArray, List.set_cons_zero, List.set_cons_succ, List.getElem_toArray, List.getElem_cons_zero, List.getElem_cons_succ]
            refine wpAnyH_take (i := 2) (v := ?_) rfl (by kernel_rfl) (by kernel_rfl) (by kernel_rfl) (fun _ _ _ h => h) (Or.inl ⟨by rfl, ?_⟩) (by assumption) ?_
            rotate_left
            · (intro w hSw; (try dsimp only at hSw); go_simp; try rfl)
            try simp only [Act.put, List.setIfInBounds_toArray, List.set_cons_zero, List.set_cons_succ, List.getElem_toArray, List.getElem_cons_zero, List.getElem_cons_succ]
            refine wpAnyH_take (i := 3) (v := ?_) rfl (by kernel_rfl) (by kernel_rfl) (by kernel_rfl) (fun _ _ _ h => h) (Or.inl ⟨by rfl, ?_⟩) (by assumption) ?_
            rotate_left
            · (intro w hSw; (try dsimp only at hSw); go_simp; try rfl)
            try simp only [Act.put, List.setIfInBounds_toArray, List.set_cons_zero, List.set_cons_succ, List.getElem_toArray, List.getElem_cons_zero, List.getElem_cons_succ]
            refine wpAnyH_take (i := 4) (v := ?_) rfl (by kernel_rfl) (by kernel_rfl) (by kernel_rfl) (fun _ _ _ h => h) (Or.inl ⟨by rfl, ?_⟩) (by assumption) ?_
            rotate_left
            · (intro w hSw; (try dsimp only at hSw); go_simp; try rfl)
            try simp only [Act.put, List.setIfInBounds_toArray, List.set_cons_zero, List.set_cons_succ, List.getElem_toArray, List.getElem_cons_zero, List.getElem_cons_succ]
            refine wpAnyH_take (i := 5) (v := ?_) rfl (by kernel_rfl) (by kernel_rfl) (by kernel_rfl) (fun _ _ _ h => h) (Or.inl ⟨by rfl, ?_⟩) (by assumption) ?_
            rotate_left
            · (intro w hSw; (try dsimp only at hSw); go_simp; try rfl)
            try simp only [Act.put, List.setIfInBounds_toArray, List.set_cons_zero, List.set_cons_succ, List.getElem_toArray, List.getElem_cons_zero, List.getElem_cons_succ]
            refine wpAnyH_take (i := 6) (v := ?_) rfl (by kernel_rfl) (by kernel_rfl) (by kernel_rfl) (fun _ _ _ h => h) (Or.inl ⟨by rfl, ?_⟩) (by assumption) ?_
            rotate_left
            · (intro w hSw; (try dsimp only at hSw); go_simp; try rfl)
            try simp only [Act.put, List.setIfInBounds_toArray, List.set_cons_zero, List.set_cons_succ, List.getElem_toArray, List.getElem_cons_zero, List.getElem_cons_succ]
            refine wpAnyH_take (i := 7) (v := ?_) rfl (by kernel_rfl) (by kernel_rfl) (by kernel_rfl) (fun _ _ _ h => h) (Or.inl ⟨by rfl, ?_⟩) (by assumption) ?_
            rotate_left
            · (intro w hSw; (try dsimp only at hSw); go_simp; try rfl)
            try simp only [Act.put, List.setIfInBounds_toArray, List.set_cons_zero, List.set_cons_succ, List.getElem_toArray, List.getElem_cons_zero, List.getElem_cons_succ]
            refine wpAnyH_take (i := 8) (v := ?_) rfl (by kernel_rfl) (by kernel_rfl) (by kernel_rfl) (fun _ _ _ h => h) (Or.inl ⟨by rfl, ?_⟩) (by assumption) ?_
            rotate_left
            · (intro w hSw; (try dsimp only at hSw); go_simp; try rfl)
            try simp only [Act.put, List.setIfInBounds_toArray, List.set_cons_zero, List.set_cons_succ, List.getElem_toArray, List.getElem_cons_zero, List.getElem_cons_succ]
            refine wpAnyH_take (i := 9) (v := ?_) rfl (by kernel_rfl) (by kernel_rfl) (by kernel_rfl) (fun _ _ _ h => h) (Or.inl ⟨by rfl, ?_⟩) (by assumption) ?_
            rotate_left
            · (intro w hSw; (try dsimp only at hSw); go_simp; try rfl)
            try simp only [Act.put, List.setIfInBounds_toArray, List.set_cons_zero, List.set_cons_succ, List.getElem_toArray, List.getElem_cons_zero, List.getElem_cons_succ]
            refine wpAnyH_take (i := 10) (v := ?_) rfl (by kernel_rfl) (by kernel_rfl) (by kernel_rfl) (fun _ _ _ h => h) (Or.inl ⟨by rfl, ?_⟩) (by assumption) ?_
            rotate_left
            · (intro w hSw; (try dsimp only at hSw); go_simp; try rfl)
            try simp only [Act.put, List.setIfInBounds_toArray, List.set_cons_zero, List.set_cons_succ, List.getElem_toArray, List.getElem_cons_zero, List.getElem_cons_succ]
            refine wpAnyH_take (i := 11) (v := ?_) rfl (by kernel_rfl) (by kernel_rfl) (by kernel_rfl) (fun _ _ _ h => h) (Or.inl ⟨by rfl, ?_⟩) (by assumption) ?_
            rotate_left
            · (intro w hSw; (try dsimp only at hSw); go_simp; try rfl)
            try simp only [Act.put, List.setIfInBounds_toArray, List.set_cons_zero, List.set_cons_succ, List.getElem_toArray, List.getElem_cons_zero, List.getElem_cons_succ]
            refine wpAnyH_take (i := 12) (v := ?_) rfl (by kernel_rfl) (by kernel_rfl) (by kernel_rfl) (fun _ _ _ h => h) (Or.inl ⟨by rfl, ?_⟩) (by assumption) ?_
            rotate_left
            · (intro w hSw; (try dsimp only at hSw); go_simp; try rfl)
            try simp only [Act.put, List.setIfInBounds_toArray, List.set_cons_zero, List.set_cons_succ, List.getElem_toArray, List.getElem_cons_zero, List.getElem_cons_succ]
            refine wpAnyH_take (i := 13) (v := ?_) rfl (by kernel_rfl) (by kernel_rfl) (by kernel_rfl) (fun _ _ _ h => h) (Or.inl ⟨by rfl, ?_⟩) (by assumption) ?_
            rotate_left
            · (intro w hSw; (try dsimp only at hSw); go_simp; try rfl)
            try simp only [Act.put, List.setIfInBounds_toArray, List.set_cons_zero, List.set_cons_succ, List.getElem_toArray, List.getElem_cons_zero, List.getElem_cons_succ]
            refine wpAnyH_take (i := 14) (v := ?_) rfl (by kernel_rfl) (by kernel_rfl) (by kernel_rfl) (fun _ _ _ h => h) (Or.inl ⟨by rfl, ?_⟩) (by assumption) ?_
            rotate_left
            · (intro w hSw; (try dsimp only at hSw); go_simp; try rfl)
            try simp only [Act.put, List.setIfInBounds_toArray, List.set_cons_zero, List.set_cons_succ, List.getElem_toArray, List.getElem_cons_zero, List.getElem_cons_succ]
            refine wpAnyH_take (i := 15) (v := ?_) rfl (by kernel_rfl) (by kernel_rfl) (by kernel_rfl) (fun _ _ _ h => h) (Or.inl ⟨by rfl, ?_⟩) (by assumption) ?_
            rotate_left
            · (intro w hSw; (try dsimp only at hSw); go_simp; try rfl)
            try simp only [Act.put, List.setIfInBounds_toArray, List.set_cons_zero, List.set_cons_succ, List.getElem_toArray, List.getElem_cons_zero, List.getElem_cons_succ]
            refine wpAnyH_ready (rs := [16]) (by kernel_rfl) (by simp) ?_
            refine (AllReadyH.cons rfl (fun K hK => ?_) AllReadyH.nil)
            go_simp
            (go_at_call 26; go_split_ands; refine (HCP.out _ (by assumption)).mono ?_; rintro e w5 ⟨rfl, hbw5⟩)
            refine hK.out _ _ ?_ (fun hHeld => ?_)
            · ((first
                  | exact HKP.out _ (Below.refl _ _)
                  | exact HKP.out _ (Below.refl _ _).drew
                  | (go_split_ands; exact HKP.out _ (below_self (by assumption) (by assumption)))
                  | (go_split_ands; exact HKP.out _ (Below.drew (by assumption)))
                  | (go_split_ands; exact HKP.out _ (by assumption))))
            clear hK K
            try simp only [Act.put, List.setIfInBounds_toArray, List.set_cons_zero, List.set_cons_succ, List.getElem_toArray, List.getElem_cons_zero, List.getElem_cons_succ]
            refine wpAnyH_take (i := 17) (v := ?_) rfl (by kernel_rfl) (by kernel_rfl) (by kernel_rfl) (fun _ _ _ h => h) (Or.inl ⟨by rfl, ?_⟩) (by assumption) ?_
            rotate_left
            · (intro w hSw; (try dsimp only at hSw); go_simp; try rfl)
            try simp only [Act.put, List.setIfInBounds_toArray, List.set_cons_zero, List.set_cons_succ, List.getElem_toArray, List.getElem_cons_zero, List.getElem_cons_succ]
            refine wpAnyH_take (i := 18) (v := ?_) rfl (by kernel_rfl) (by kernel_rfl) (by kernel_rfl) (fun _ _ _ h => h) (Or.inl ⟨by rfl, ?_⟩) (by assumption) ?_
            rotate_left
            · (intro w hSw; (try dsimp only at hSw); go_simp; try rfl)
            try simp only [Act.put, List.setIfInBounds_toArray, List.set_cons_zero, List.set_cons_succ, List.getElem_toArray, List.getElem_cons_zero, List.getElem_cons_succ]
            refine wpAnyH_take (i := 19) (v := ?_) rfl (by kernel_rfl) (by kernel_rfl) (by kernel_rfl) (fun _ _ _ h => h) (Or.inl ⟨by rfl, ?_⟩) (by assumption) ?_
            rotate_left
            · (intro w hSw; (try dsimp only at hSw); go_simp; try rfl)
            try simp only [Act.put, List.setIfInBounds_toArray, List.set_cons_zero, List.set_cons_succ, List.getElem_toArray, List.getElem_cons_zero, List.getElem_cons_succ]
            refine wpAnyH_take (i := 20) (v := ?_) rfl (by kernel_rfl) (by kernel_rfl) (by kernel_rfl) (fun _ _ _ h => h) (Or.inl ⟨by rfl, ?_⟩) (by assumption) ?_
            rotate_left
            · (intro w hSw; (try dsimp only at hSw); go_simp; try rfl)
            try simp only [Act.put, List.setIfInBounds_toArray, List.set_cons_zero, List.set_cons_succ, List.getElem_toArray, List.getElem_cons_zero, List.getElem_cons_succ]
            refine wpAnyH_take (i := 21) (v := ?_) rfl (by kernel_rfl) (by kernel_rfl) (by kernel_rfl) (fun _ _ _ h => h) (Or.inl ⟨by rfl, ?_⟩) (by assumption) ?_
            rotate_left
            · (intro w hSw; (try dsimp only at hSw); go_simp; try rfl)
            try simp only [Act.put, List.setIfInBounds_toArray, List.set_cons_zero, List.set_cons_succ, List.getElem_toArray, List.getElem_cons_zero, List.getElem_cons_succ]
            refine wpAnyH_take (i := 22) (v := ?_) rfl (by kernel_rfl) (by kernel_rfl) (by kernel_rfl) (fun _ _ _ h => h) (Or.inl ⟨by rfl, ?_⟩) (by assumption) ?_
            rotate_left
            · (intro w hSw; (try dsimp only at hSw); go_simp; try rfl)
            try simp only [Act.put, List.setIfInBounds_toArray, List.set_cons_zero, List.set_cons_succ, List.getElem_toArray, List.getElem_cons_zero, List.getElem_cons_succ]
            refine wpAnyH_take (i := 23) (v := ?_) rfl (by kernel_rfl) (by kernel_rfl) (by kernel_rfl) (fun _ _ _ h => h) (Or.inl ⟨by rfl, ?_⟩) (by assumption) ?_
            rotate_left
            · (intro w hSw; (try dsimp only at hSw); go_simp; try rfl)
            try simp only [Act.put, List.setIfInBounds_toArray, List.set_cons_zero, List.set_cons_succ, List.getElem_toArray, List.getElem_cons_zero, List.getElem_cons_succ]
            refine wpAnyH_take (i := 24) (v := ?_) rfl (by kernel_rfl) (by kernel_rfl) (by kernel_rfl) (fun _ _ _ h => h) (Or.inl ⟨by rfl, ?_⟩) (by assumption) ?_
            rotate_left
            · (intro w hSw; (try dsimp only at hSw); go_simp; try rfl)
            try simp only [Act.put, List.setIfInBounds_toArray, List.set_cons_zero, List.set_cons_succ, List.getElem_toArray, List.getElem_cons_zero, List.getElem_cons_succ]
            refine wpAnyH_take (i := 25) (v := ?_) rfl (by kernel_rfl) (by kernel_rfl) (by kernel_rfl) (fun _ _ _ h => h) (Or.inl ⟨by rfl, ?_⟩) (by assumption) ?_
            rotate_left
            · (intro w hSw; (try dsimp only at hSw); go_simp; try rfl)
            try simp only [Act.put, List.setIfInBounds_toArray, List.set_cons_zero, List.set_cons_succ, List.getElem_toArray, List.getElem_cons_zero, List.getElem_cons_succ]
            refine wpAnyH_take (i := 26) (v := ?_) rfl (by kernel_rfl) (by kernel_rfl) (by kernel_rfl) (fun _ _ _ h => h) (Or.inl ⟨by rfl, ?_⟩) (by assumption) ?_
            rotate_left
            · (intro w hSw; (try dsimp only at hSw); go_simp; try rfl)
            try simp only [Act.put, List.setIfInBounds_toArray, List.set_cons_zero, List.set_cons_succ, List.getElem_toArray, List.getElem_cons_zero, List.getElem_cons_succ]
            refine wpAnyH_take (i := 27) (v := ?_) rfl (by kernel_rfl) (by kernel_rfl) (by kernel_rfl) (fun _ _ _ h => h) (Or.inl ⟨by rfl, ?_⟩) (by assumption) ?_
            rotate_left
            · (intro w hSw; (try dsimp only at hSw); go_simp; try rfl)
            try simp only [Act.put, List.setIfInBounds_toArray, List.set_cons_zero, List.set_cons_succ, List.getElem_toArray, List.getElem_cons_zero, List.getElem_cons_succ]
            refine wpAnyH_take (i := 28) (v := ?_) rfl (by kernel_rfl) (by kernel_rfl) (by kernel_rfl) (fun _ _ _ h => h) (Or.inl ⟨by rfl, ?_⟩) (by assumption) ?_
            rotate_left
            · (intro w hSw; (try dsimp only at hSw); go_simp; try rfl)
            try simp only [Act.put, List.setIfInBounds_toArray, List.set_cons_zero, List.set_cons_succ, List.getElem_toArray, List.getElem_cons_zero, List.getElem_cons_succ]
            refine wpAnyH_take (i := 29) (v := ?_) rfl (by kernel_rfl) (by kernel_rfl) (by kernel_rfl) (fun _ _ _ h => h) (Or.inl ⟨by rfl, ?_⟩) (by assumption) ?_
            rotate_left
            · (intro w hSw; (try dsimp only at hSw); go_simp; try rfl)
            try simp only [Act.put, List.setIfInBounds_toArray, List.set_cons_zero, List.set_cons_succ, List.getElem_toArray, List.getElem_cons_zero, List.getElem_cons_succ]
            refine wpAnyH_take (i := 30) (v := ?_) rfl (by kernel_rfl) (by kernel_rfl) (by kernel_rfl) (fun _ _ _ h => h) (Or.inl ⟨by rfl, ?_⟩) (by assumption) ?_
            rotate_left
            · (intro w hSw; (try dsimp only at hSw); go_simp; try rfl)
            try simp only [Act.put, List.setIfInBounds_toArray, List.set_cons_zero, List.set_cons_succ, List.getElem_toArray, List.getElem_cons_zero, List.getElem_cons_succ]
            refine wpAnyH_take (i := 31) (v := ?_) rfl (by kernel_rfl) (by kernel_rfl) (by kernel_rfl) (fun _ _ _ h => h) (Or.inl ⟨by rfl, ?_⟩) (by assumption) ?_
            rotate_left
            · (intro w hSw; (try dsimp only at hSw); go_simp; try rfl)
            try simp only [Act.put, List.setIfInBounds_toArray, List.set_cons_zero, List.set_cons_succ, List.getElem_toArray, List.getElem_cons_zero, List.getElem_cons_succ]
            refine wpAnyH_take (i := 32) (v := ?_) rfl (by kernel_rfl) (by kernel_rfl) (by kernel_rfl) (fun _ _ _ h => h) (Or.inl ⟨by rfl, ?_⟩) (by assumption) ?_
            rotate_left
            · (intro w hSw; (try dsimp only at hSw); go_simp; try rfl)
            try simp only [Act.put, List.setIfInBounds_toArray, List.set_cons_zero, List.set_cons_succ, List.getElem_toArray, List.getElem_cons_zero, List.getElem_cons_succ]
            refine wpAnyH_take (i := 33) (v := ?_) rfl (by kernel_rfl) (by kernel_rfl) (by kernel_rfl) (fun _ _ _ h => h) (Or.inl ⟨by rfl, ?_⟩) (by assumption) ?_
            rotate_left
            · (intro w hSw; (try dsimp only at hSw); go_simp; try rfl)
            try simp only [Act.put, List.setIfInBounds_toArray, List.set_cons_zero, List.set_cons_succ, List.getElem_toArray, List.getElem_cons_zero, List.getElem_cons_succ]
            refine wpAnyH_take (i := 34) (v := ?_) rfl (by kernel_rfl) (by kernel_rfl) (by kernel_rfl) (fun _ _ _ h => h) (Or.inl ⟨by rfl, ?_⟩) (by assumption) ?_
            rotate_left
            · (intro w hSw; (try dsimp only at hSw); go_simp; try rfl)
            try simp only [Act.put, List.setIfInBounds_toArray, List.set_cons_zero, List.set_cons_succ, List.getElem_toArray, List.getElem_cons_zero, List.getElem_cons_succ]
            refine wpAnyH_take (i := 35) (v := ?_) rfl (by kernel_rfl) (by kernel_rfl) (by kernel_rfl) (fun _ _ _ h => h) (Or.inl ⟨by rfl, ?_⟩) (by assumption) ?_
            rotate_left
            · (intro w hSw; (try dsimp only at hSw); go_simp; try rfl)
            try simp only [Act.put, List.setIfInBounds_toArray, List.set_cons_zero, List.set_cons_succ, List.getElem_toArray, List.getElem_cons_zero, List.getElem_cons_succ]
            refine wpAnyH_take (i := 36) (v := ?_) rfl (by kernel_rfl) (by kernel_rfl) (by kernel_rfl) (fun _ _ _ h => h) (Or.inl ⟨by rfl, ?_⟩) (by assumption) ?_
            rotate_left
            · (intro w hSw; (try dsimp only at hSw); go_simp; try rfl)
            try simp only [Act.put, List.setIfInBounds_toArray, List.set_cons_zero, List.set_cons_succ, List.getElem_toArray, List.getElem_cons_zero, List.getElem_cons_succ]
            refine wpAnyH_take (i := 37) (v := ?_) rfl (by kernel_rfl) (by kernel_rfl) (by kernel_rfl) (fun _ _ _ h => h) (Or.inl ⟨by rfl, ?_⟩) (by assumption) ?_
            rotate_left
            · (intro w hSw; (try dsimp only at hSw); go_simp; try rfl)
            try simp only [Act.put, List.setIfInBounds_toArray, List.set_cons_zero, List.set_cons_succ, List.getElem_toArray, List.getElem_cons_zero, List.getElem_cons_succ]
            refine wpAnyH_take (i := 38) (v := ?_) rfl (by kernel_rfl) (by kernel_rfl) (by kernel_rfl) (fun _ _ _ h => h) (Or.inl ⟨by rfl, ?_⟩) (by assumption) ?_
            rotate_left
            · (intro w hSw; (try dsimp only at hSw); go_simp; try rfl)
            try simp only [Act.put, List.setIfInBounds_toArray, List.set_cons_zero, List.set_cons_succ, List.getElem_toArray, List.getElem_cons_zero, List.getElem_cons_succ]
            refine wpAnyH_take (i := 39) (v := ?_) rfl (by kernel_rfl) (by kernel_rfl) (by kernel_rfl) (fun _ _ _ h => h) (Or.inl ⟨by rfl, ?_⟩) (by assumption) ?_
            rotate_left
            · (intro w hSw; (try dsimp only at hSw); go_simp; try rfl)
            try simp only [Act.put, List.setIfInBounds_toArray, List.set_cons_zero, List.set_cons_succ, List.getElem_toArray, List.getElem_cons_zero, List.getElem_cons_succ]
            refine wpAnyH_take (i := 40) (v := ?_) rfl (by kernel_rfl) (by kernel_rfl) (by kernel_rfl) (fun _ _ _ h => h) (Or.inl ⟨by rfl, ?_⟩) (by assumption) ?_
            rotate_left
            · (intro w hSw; (try dsimp only at hSw); go_simp; try rfl)
            try simp only [Act.put, List.setIfInBounds_toArray, List.set_cons_zero, List.set_cons_succ, List.getElem_toArray, List.getElem_cons_zero, List.getElem_cons_succ]
            refine wpAnyH_take (i := 41) (v := ?_) rfl (by kernel_rfl) (by kernel_rfl) (by kernel_rfl) (fun _ _ _ h => h) (Or.inl ⟨by rfl, ?_⟩) (by assumption) ?_
            rotate_left
            · (intro w hSw; (try dsimp only at hSw); go_simp; try rfl)
            try simp only [Act.put, List.setIfInBounds_toArray, List.set_cons_zero, List.set_cons_succ, List.getElem_toArray, List.getElem_cons_zero, List.getElem_cons_succ]
            refine wpAnyH_take (i := 42) (v := ?_) rfl (by kernel_rfl) (by kernel_rfl) (by kernel_rfl) (fun _ _ _ h => h) (Or.inl ⟨by rfl, ?_⟩) (by assumption) ?_
            rotate_left
            · (intro w hSw; (try dsimp only at hSw); go_simp; try rfl)
            try simp only [Act.put, List.setIfInBounds_toArray, List.set_cons_zero, List.set_cons_succ, List.getElem_toArray, List.getElem_cons_zero, List.getElem_cons_succ]
            refine wpAnyH_done (by kernel_rfl) ?_ _
            go_split_ands
            have hbn : Below X.heap.size X w5 := by assumption
            have HBn := Lib.hid hbn
            clear hbn HKP t1 t2 d3
            go_wp2_with fail
            go_loopw [8] (fun i wr => ∃ (j : Nat), j ≤ k ∧ i = .int .i64 j ∧ Hid (Below X.heap.size X wr)) (fun i _ => k - (intOf i).toNat)
            case atStart => exact ⟨0, Nat.zero_le _, rfl, HBn⟩
            case round =>
              clear HBn
              obtain ⟨j, hj, rfl, hB⟩ := hrel
              by_cases hltj : j < k
              · have hltj' : (j : Int) < (k : Int) := by omega
                have hltjN : (j : Int) < (N : Int) := by omega
                have hjb : (j : Int) ≤ 10 := by omega
                obtain ⟨e1, g3, off3, hdb, hg3, u1, u2, hjm⟩ := clCell (RA'.out.below hB.out) j (by omega)
                obtain ⟨⟨z1, z2⟩, hZ⟩ : ∃ X, LA.getD j (ByteArray.empty, 0) = X := ⟨_, rfl⟩
                rw [hZ] at u1 u2
                obtain ⟨e2, g4, off4, hda, hg4, t1', t2', hjk⟩ := clCell (RA'.out.below hB.out) k hlt
                rw [HX.out] at t1' t2'
                by_cases hr1 : k < N1
                · have hr2 : (k : Int) < (N1 : Int) := by omega
                  have hr3 : decide (k < N1) = true := decide_eq_true hr1
                  have hne2 := HAP.out k j hlt hltj (by omega)
                  rw [HX.out, hZ] at hne2
                  obtain ⟨he, hgd⟩ := eqC_run y1 107 z1 z2
                  rw [decide_eq_false hne2] at he
                  simp only [Option.some.injEq, Addr.mk.injEq, and_true] at hda hdb
                  obtain ⟨rfl, rfl⟩ := hda
                  obtain ⟨rfl, rfl⟩ := hdb
                  clear hZ hjm hjk e1 e2 hne2
                  go_wp2_with fail
                  go_quiet (fail)
                  go_wp2
                  go_roundw
                  case rel => exact ⟨j + 1, by omega, by go_num, Lib.hid (below_dq hB.out _)⟩
                  case measure => simp [intOf]; omega
                · have hr2 : ¬ (k : Int) < (N1 : Int) := by omega
                  have hr3 : decide (k < N1) = false := decide_eq_false hr1
                  by_cases hr4 : N1 ≤ j
                  · have hr5 : (N1 : Int) ≤ (j : Int) := by omega
                    have hr6 : decide (N1 ≤ j) = true := decide_eq_true hr4
                    have hne2 := HAP.out k j hlt hltj (by omega)
                    rw [HX.out, hZ] at hne2
                    obtain ⟨he, hgd⟩ := eqC_run y1 107 z1 z2
                    rw [decide_eq_false hne2] at he
                    simp only [Option.some.injEq, Addr.mk.injEq, and_true] at hda hdb
                    obtain ⟨rfl, rfl⟩ := hda
                    obtain ⟨rfl, rfl⟩ := hdb
                    clear hZ hjm hjk e1 e2 hne2
                    go_wp2_with fail
                    go_quiet (fail)
                    go_wp2
                    go_roundw
                    case rel => exact ⟨j + 1, by omega, by go_num, Lib.hid (below_dq hB.out _)⟩
                    case measure => simp [intOf]; omega
                  · have hr5 : ¬ (N1 : Int) ≤ (j : Int) := by omega
                    have hr6 : decide (N1 ≤ j) = false := decide_eq_false hr4
                    simp only [Option.some.injEq, Addr.mk.injEq, and_true] at hda hdb
                    obtain ⟨rfl, rfl⟩ := hda
                    obtain ⟨rfl, rfl⟩ := hdb
                    clear hZ hjm hjk e1 e2 u1 u2 t1' t2'
                    go_wp2_with fail
                    go_quiet (fail)
                    go_wp2
                    go_roundw
                    case rel => exact ⟨j + 1, by omega, by go_num, Lib.hid (below_dq hB.out _)⟩
                    case measure => simp [intOf]; omega
              · obtain rfl : j = k := by omega
                go_wp2
                go_roundw
                case rel => exact ⟨j + 1, by omega, by go_num, hB⟩
                case measure => simp [intOf]; omega
      · obtain rfl : k = N := by omega
        obtain ⟨d0, d1, d2, d3, d4, d5, d6, d7⟩ := HD0.out wr hB.out
        have hcv := valid_any p1 wr q1.out (HMX.out.below hB.out)
        cases hv : vld p1 with
        | false =>
          rw [hv] at hcv
          have HCV := Lib.hid hcv
          have hk0 : k = 0 := by rw [← HNA.out, ← HLA.out, rds_none hv, wrs_novld hv]; rfl
          have hn2 : N2 = 0 := by rw [← HN2.out, wrs_novld hv]; rfl
          subst hk0
          subst hn2
          clear hcv hv
          by_cases u4 : o1 = 4
          · have y1 : (o1 == 4) = true := by rw [u4]; rfl
            clear u4
            go_wp2_with fail
            refine HCV.out.mono ?_
            rintro e w9 ⟨rfl, hb⟩
            have B9 := Lib.hid (hB.out.trans (hb.mono hB.out.size))
            clear hb
            go_wp2
            go_ret
            exact ⟨rfl, BXX.out.trans (B9.out.mono BXX.out.size)⟩
          · have y1 : (o1 == 4) = false := by simpa using u4
            by_cases u5 : o1 = 5
            · have y2 : (o1 == 5) = true := by rw [u5]; rfl
              clear u4 u5
              go_wp2_with fail
              refine HCV.out.mono ?_
              rintro e w9 ⟨rfl, hb⟩
              have B9 := Lib.hid (hB.out.trans (hb.mono hB.out.size))
              clear hb
              go_wp2
              go_ret
              exact ⟨rfl, BXX.out.trans (B9.out.mono BXX.out.size)⟩
            · have y2 : (o1 == 5) = false := by simpa using u5
              clear u4 u5
              go_wp2_with fail
              refine HCV.out.mono ?_
              rintro e w9 ⟨rfl, hb⟩
              have B9 := Lib.hid (hB.out.trans (hb.mono hB.out.size))
              clear hb
              go_wp2
              go_ret
              exact ⟨rfl, BXX.out.trans (B9.out.mono BXX.out.size)⟩
        | true =>
          rw [hv] at hcv
          have HCV := Lib.hid hcv
          clear hcv hv
          by_cases u4 : o1 = 4
          · have y1 : (o1 == 4) = true := by rw [u4]; rfl
            have hn2 : N2 = 0 := by rw [← HN2.out, wrs_read p1 (.inl u4)]; rfl
            subst hn2
            clear u4
            go_wp2_with fail
            refine HCV.out.mono ?_
            rintro e w9 ⟨rfl, hb⟩
            have B9 := Lib.hid (hB.out.trans (hb.mono hB.out.size))
            clear hb
            go_wp2
            go_ret
            exact ⟨rfl, BXX.out.trans (B9.out.mono BXX.out.size)⟩
          · have y1 : (o1 == 4) = false := by simpa using u4
            by_cases u5 : o1 = 5
            · have y2 : (o1 == 5) = true := by rw [u5]; rfl
              have hn2 : N2 = 0 := by rw [← HN2.out, wrs_read p1 (.inr u5)]; rfl
              subst hn2
              clear u4 u5
              go_wp2_with fail
              refine HCV.out.mono ?_
              rintro e w9 ⟨rfl, hb⟩
              have B9 := Lib.hid (hB.out.trans (hb.mono hB.out.size))
              clear hb
              go_wp2
              go_ret
              exact ⟨rfl, BXX.out.trans (B9.out.mono BXX.out.size)⟩
            · have y2 : (o1 == 5) = false := by simpa using u5
              clear u4 u5
              go_wp2_with fail
              refine HCV.out.mono ?_
              rintro e w9 ⟨rfl, hb⟩
              have B9 := Lib.hid (hB.out.trans (hb.mono hB.out.size))
              clear hb
              go_wp2
              go_ret
              exact ⟨rfl, BXX.out.trans (B9.out.mono BXX.out.size)⟩
end Go.Proofs.Ytphddigohmdbnaa
