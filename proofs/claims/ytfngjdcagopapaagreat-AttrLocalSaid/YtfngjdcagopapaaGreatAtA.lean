/-
  The walks of the laws' few, and Over of one command.
-/
import Derived.Test.YtfngjdcagopapaaGreatAt7
namespace Go.Proofs.YtfngjdcagopapaaGreat
open Tc (ML)
open Go.RowKit
set_option linter.unusedSimpArgs false
set_option linter.unusedVariables false
set_option maxRecDepth 100000

def ovr1 (p x : ByteArray) : Bool := decide (300 < p.size) || decide (300 < x.size)
set_option maxHeartbeats 2000000 in
theorem over1_any (g : Nat) (p1 x1 : ByteArray) (w : World) (d3 : w.cell? ⟨g, 3, none⟩ = some (.string p1)) (d4 : w.cell? ⟨g, 4, none⟩ = some (.string x1)) :
    Calls Tryz.prog 6 #[.slice (some ⟨g, 0, none⟩) 1 1] w fun e w' => e = .returned (.bool (ovr1 p1 x1)) ∧ w = w' := by
  obtain ⟨R, hR⟩ : ∃ R, ovr1 p1 x1 = R := ⟨_, rfl⟩
  rw [hR]
  have HR := Lib.hid hR
  clear hR
  go_enter Tryz.func6, Tryz.ntmps6
  go_wp2_with fail
  go_loop [3] (fun i => ∃ k : Nat, k ≤ 1 ∧ i = .int .i64 k ∧ Hid (0 < k → p1.size ≤ 300 ∧ x1.size ≤ 300)) (fun i => 1 - (intOf i).toNat)
  case atStart => exact ⟨0, by omega, rfl, Lib.hid (fun h => by omega)⟩
  case round =>
    obtain ⟨k, hk, rfl, h1⟩ := hrel
    have hk3 : k = 0 ∨ k = 1 := by omega
    rcases hk3 with rfl | rfl
    · by_cases y1 : (300 : Int) < p1.size
      · have e : R = true := by rw [← HR.out]; unfold ovr1; have : 300 < p1.size := by omega
                                simp [this]
        subst e
        clear h1 HR
        go_wp2
        go_ret
        exact ⟨rfl, rfl⟩
      · by_cases y2 : (300 : Int) < x1.size
        · have e : R = true := by rw [← HR.out]; unfold ovr1; have : 300 < x1.size := by omega
                                  simp [this]
          subst e
          clear h1 HR
          go_wp2
          go_ret
          exact ⟨rfl, rfl⟩
        · go_wp2
          go_round
          case rel => exact ⟨1, by omega, rfl, Lib.hid (fun _ => ⟨by omega, by omega⟩)⟩
          case measure => simp [intOf]
    · have e : R = false := by
        rw [← HR.out]; unfold ovr1
        have := h1.out (by omega)
        have h2 : ¬ 300 < p1.size := by omega
        have h3 : ¬ 300 < x1.size := by omega
        simp [h2, h3]
      subst e
      clear h1 HR
      go_wp2
      go_ret
      exact ⟨rfl, rfl⟩
/-- So few, and so small, that they are looked at. -/
def FewK (l : List Kn) : Prop := l.length ≤ 40 ∧ ∀ k ∈ l, k.a.2.length ≤ 40 ∧ k.cm.pa.size ≤ 300 ∧ k.cm.va.size ≤ 300 ∧ k.a.1 ≤ 1125899906842624
def FewP (l : List Kn) (w : World) (e : Ending) (w' : World) : Prop := ∃ R : Bool, Hid (e = .returned (.bool R)) ∧ (R = true → FewK l) ∧ Below w.heap.size w w'
set_option maxHeartbeats 8000000 in
theorem few_any (v : Value) (rs : List (Cls 13)) (l : List Kn) (w : World) (h : RowIs KnK knS w v rs l) :
    Calls Tryz.prog 5 #[v] w (FewP l w) := by
  obtain ⟨a, ca, e⟩ := h.rd.slice
  have hmx := h.rd.len
  subst e
  obtain ⟨N, hN⟩ : ∃ N, l.length = N := ⟨_, rfl⟩
  have hlen := h.len
  rw [hN] at hlen
  rw [hlen] at h hmx ⊢
  have HN := Lib.hid hN
  have H := Lib.hid h
  have hNm : (N : Int) ≤ 9223372036854775807 := by unfold maxLen at hmx; omega
  clear h hN hlen hmx
  go_enter Tryz.func5, Tryz.ntmps5
  go_wp2_with fail
  go_loopw [3] (fun i wr => ∃ k : Nat, k ≤ N ∧ k ≤ 41 ∧ i = .int .i64 k ∧ Hid (Below w.heap.size w wr) ∧ Hid (∀ (j : Nat) (hj : j < l.length), j < k → l[j].a.2.length ≤ 40 ∧ l[j].cm.pa.size ≤ 300 ∧ l[j].cm.va.size ≤ 300 ∧ l[j].a.1 ≤ 1125899906842624)) (fun i _ => N - (intOf i).toNat)
  case atStart => exact ⟨0, Nat.zero_le _, by omega, rfl, Lib.hid (Below.refl _ _), Lib.hid (fun j hj q => by omega)⟩
  case round =>
    obtain ⟨k, hk, hk41, rfl, hB, hF⟩ := hrel
    by_cases hlt : k < N
    · have hlt' : (k : Int) < (N : Int) := by omega
      have hl1 : decide ((k : Int) < (N : Int)) = true := decide_eq_true hlt'
      by_cases h40 : (k : Int) ≤ 40
      · have hl2 : decide ((k : Int) ≤ 40) = true := decide_eq_true h40
        obtain ⟨e0, hkl, g2, off2, v2, hda, hg2, hc, hi0, hrd, hok2⟩ := knCell H.out k hlt
        subst hda
        obtain ⟨av, cv, hv2⟩ := hrd.slice
        have hmx := hrd.len
        obtain ⟨nv, hnv⟩ : ∃ nv, l[k].a.2.length = nv := ⟨_, rfl⟩
        rw [hnv] at hv2 hmx
        subst hv2
        obtain ⟨K1, hK1⟩ : ∃ K1, l[k] = K1 := ⟨_, rfl⟩
        rw [hK1] at hc hnv
        have HNV := Lib.hid hnv
        have HK1 := Lib.hid hK1
        obtain ⟨⟨x1, x2, x3⟩, ⟨d1, d2, d3, d4, d5, d6, d7, d8⟩, s2, l2⟩ := K1
        have q0 : wr.cell? ⟨g2, off2 + k * 13, none⟩ = some (.int .i64 x1) := (hB.out.cell (p := ⟨g2, off2 + k * 13, none⟩) hg2).trans (hc 0 _ rfl)
        have q1 : wr.cell? ⟨g2, off2 + k * 13 + 1, none⟩ = some (.int .i64 x2) := (hB.out.cell (p := ⟨g2, off2 + k * 13 + 1, none⟩) hg2).trans (hc 1 _ rfl)
        have q2 : wr.cell? ⟨g2, off2 + k * 13 + 2, none⟩ = some (.int .i64 x3) := (hB.out.cell (p := ⟨g2, off2 + k * 13 + 2, none⟩) hg2).trans (hc 2 _ rfl)
        have q3 : wr.cell? ⟨g2, off2 + k * 13 + 3, none⟩ = some (.int .i64 d1) := (hB.out.cell (p := ⟨g2, off2 + k * 13 + 3, none⟩) hg2).trans (hc 3 _ rfl)
        have q4 : wr.cell? ⟨g2, off2 + k * 13 + 4, none⟩ = some (.int .i64 d2) := (hB.out.cell (p := ⟨g2, off2 + k * 13 + 4, none⟩) hg2).trans (hc 4 _ rfl)
        have q5 : wr.cell? ⟨g2, off2 + k * 13 + 5, none⟩ = some (.int .i64 d3) := (hB.out.cell (p := ⟨g2, off2 + k * 13 + 5, none⟩) hg2).trans (hc 5 _ rfl)
        have q6 : wr.cell? ⟨g2, off2 + k * 13 + 6, none⟩ = some (.string d4) := (hB.out.cell (p := ⟨g2, off2 + k * 13 + 6, none⟩) hg2).trans (hc 6 _ rfl)
        have q7 : wr.cell? ⟨g2, off2 + k * 13 + 7, none⟩ = some (.string d5) := (hB.out.cell (p := ⟨g2, off2 + k * 13 + 7, none⟩) hg2).trans (hc 7 _ rfl)
        have q8 : wr.cell? ⟨g2, off2 + k * 13 + 8, none⟩ = some (.int .i64 d6) := (hB.out.cell (p := ⟨g2, off2 + k * 13 + 8, none⟩) hg2).trans (hc 8 _ rfl)
        have q9 : wr.cell? ⟨g2, off2 + k * 13 + 9, none⟩ = some (.int .i64 d7) := (hB.out.cell (p := ⟨g2, off2 + k * 13 + 9, none⟩) hg2).trans (hc 9 _ rfl)
        have q10 : wr.cell? ⟨g2, off2 + k * 13 + 10, none⟩ = some (.int .i64 d8) := (hB.out.cell (p := ⟨g2, off2 + k * 13 + 10, none⟩) hg2).trans (hc 10 _ rfl)
        have q11 : wr.cell? ⟨g2, off2 + k * 13 + 11, none⟩ = some (.int .i64 s2) := (hB.out.cell (p := ⟨g2, off2 + k * 13 + 11, none⟩) hg2).trans (hc 11 _ rfl)
        have q12 : wr.cell? ⟨g2, off2 + k * 13 + 12, none⟩ = some (.slice av nv cv) := (hB.out.cell (p := ⟨g2, off2 + k * 13 + 12, none⟩) hg2).trans (hc 12 _ rfl)
        replace hg2 : g2 < wr.heap.size := Nat.lt_of_lt_of_le hg2 hB.out.size
        have hnm : (nv : Int) ≤ 9223372036854775807 := by unfold maxLen at hmx; omega
        clear hc hi0 hrd hok2 hnv hK1 e0 hmx
        by_cases y1 : 40 < (nv : Int)
        · have f1 : decide (40 < (nv : Int)) = true := decide_eq_true y1
          have f2 : decide (40 < nv) = true := decide_eq_true (by omega)
          clear hF
          go_wp2
          go_ret
          exact ⟨false, Lib.hid rfl, (fun q => by cases q), hB.out⟩
        · have f1 : decide (40 < (nv : Int)) = false := decide_eq_false y1
          have f2 : decide (40 < nv) = false := decide_eq_false (by omega)
          have HNB : Hid (nv ≤ 40) := Lib.hid (by omega)
          have B1 := Bk.newAt (w := wr) rfl 27 [.int .i64 d1, .int .i64 d2, .int .i64 d3, .string d4, .string d5, .int .i64 d6, .int .i64 d7, .int .i64 d8]
          have hov := over1_any wr.heap.size d4 d5 (wr.alloc (.cells #[.int .i64 d1, .int .i64 d2, .int .i64 d3, .string d4, .string d5, .int .i64 d6, .int .i64 d7, .int .i64 d8] 27)) (B1.cell 3) (B1.cell 4)
          obtain ⟨R1, hR1⟩ : ∃ R, ovr1 d4 d5 = R := ⟨_, rfl⟩
          rw [hR1] at hov
          have HOV := Lib.hid hov
          have HR1 := Lib.hid hR1
          have HBN : Hid (Below w.heap.size w (wr.alloc (.cells #[.int .i64 d1, .int .i64 d2, .int .i64 d3, .string d4, .string d5, .int .i64 d6, .int .i64 d7, .int .i64 d8] 27))) := Lib.hid (hB.out.alloc hB.out.size _)
          clear hov hR1 B1 y1
          cases R1 with
          | true =>
            clear hF
            go_wp2_with fail
            refine HOV.out.mono ?_
            rintro e w5 ⟨rfl, rfl⟩
            go_wp2
            go_ret
            exact ⟨false, Lib.hid rfl, (fun q => by cases q), HBN.out⟩
          | false =>
            by_cases y2 : (1125899906842624 : Int) < s2
            · have f3 : decide ((1125899906842624 : Int) < s2) = true := decide_eq_true y2
              clear hF
              go_wp2_with fail
              refine HOV.out.mono ?_
              rintro e w5 ⟨rfl, rfl⟩
              go_wp2
              go_ret
              exact ⟨false, Lib.hid rfl, (fun q => by cases q), HBN.out⟩
            · have f3 : decide ((1125899906842624 : Int) < s2) = false := decide_eq_false y2
              have HS2 : Hid (s2 ≤ 1125899906842624) := Lib.hid (by omega)
              have HF2 : Hid (∀ (j : Nat) (hj : j < l.length), j < k + 1 → l[j].a.2.length ≤ 40 ∧ l[j].cm.pa.size ≤ 300 ∧ l[j].cm.va.size ≤ 300 ∧ l[j].a.1 ≤ 1125899906842624) := Lib.hid (fun j hj q => by
                by_cases e : j = k
                · subst e
                  have ho := HR1.out
                  unfold ovr1 at ho
                  simp at ho
                  rw [HK1.out]
                  exact ⟨by have h := HNV.out; simp only at h ⊢; rw [h]; exact HNB.out, by simp only; omega, by simp only; omega, HS2.out⟩
                · exact hF.out j hj (by omega))
              clear hF y2
              go_wp2_with fail
              refine HOV.out.mono ?_
              rintro e w5 ⟨rfl, rfl⟩
              clear hB
              go_wp2
              go_roundw
              case rel => exact ⟨k + 1, by omega, by omega, by go_num, HBN, HF2⟩
              case measure => simp [intOf]; omega
      · have hl2 : decide ((k : Int) ≤ 40) = false := decide_eq_false h40
        have hn1 : ¬ (N : Int) ≤ 40 := by omega
        have hn2 : decide ((N : Int) ≤ 40) = false := decide_eq_false hn1
        have hn3 : decide (N ≤ 40) = false := decide_eq_false (by omega)
        clear hF
        go_wp2
        go_ret
        exact ⟨false, Lib.hid (by first | rfl | simp), (fun q => by cases q), hB.out⟩
    · obtain rfl : k = N := by omega
      have hl1 : decide ((k : Int) < (k : Int)) = false := by simp
      obtain ⟨R, hR⟩ : ∃ R, decide ((k : Int) ≤ 40) = R := ⟨_, rfl⟩
      have hR2 : decide (k ≤ 40) = R := by rw [← hR]; simp only [decide_eq_decide]; omega
      have HR := Lib.hid hR2
      have HF := Lib.hid hF.out
      clear hF
      go_wp2
      go_ret
      refine ⟨R, Lib.hid (by first | rfl | simp), fun q => ?_, hB.out⟩
      have h1 := HR.out
      rw [q] at h1
      have h2 := of_decide_eq_true h1
      refine ⟨by rw [HN.out]; exact h2, fun x hx => ?_⟩
      obtain ⟨j, hj, rfl⟩ := List.mem_iff_getElem.1 hx
      exact HF.out j hj (by rw [← HN.out]; exact hj)
end Go.Proofs.YtfngjdcagopapaaGreat
