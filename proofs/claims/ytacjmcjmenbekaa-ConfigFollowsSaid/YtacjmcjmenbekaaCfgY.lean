/-
  The document's Follows, and the walk of ConfigFollows.
-/
import Derived.Test.YtacjmcjmenbekaaCfgX
namespace Go.Proofs.Ytacjmcjmenbekaa
open Go.RowKit
set_option linter.unusedSimpArgs false
set_option linter.unusedVariables false

/-- Does a command make the one of the other? -/
def fm (e1 : Int) (a : List Int) (e2 : Int) (b : List Int) (op i k : Int) : Bool := ((chg e1 a op i k).err == 0) && sameB e2 b (chg e1 a op i k).ep (chg e1 a op i k).ns
theorem fm_fol {e1 e2 : Int} {a b : List Int} {op i k : Int} (h : fm e1 a e2 b op i k = true) : folB e1 a e2 b = true := by
  simp only [fm, sameB, Bool.and_eq_true, beq_iff_eq, decide_eq_true_eq] at h
  obtain ⟨h1, h2, h3⟩ := h
  rw [h2, h3]
  exact chg_fol h1
theorem lacks_mem (a b : List Int) (x : Int) : x ∈ lacks a b ↔ x ∈ a ∧ x ∉ b := by simp [lacks]
theorem lacks_nil {a b : List Int} (h : (lacks a b).length = 0) : ∀ x ∈ a, x ∈ b := by
  intro x hx
  have e := List.eq_nil_of_length_eq_zero h
  by_cases q : x ∈ b
  · exact q
  · have : x ∈ lacks a b := (lacks_mem a b x).2 ⟨hx, q⟩
    rw [e] at this; simp at this
theorem lacks_one {a b : List Int} (h : (lacks a b).length = 1) : ∃ z, z ∈ a ∧ z ∉ b ∧ ∀ x ∈ a, x ≠ z → x ∈ b := by
  obtain ⟨z, hz⟩ := List.length_eq_one_iff.1 h
  have h1 := (lacks_mem a b z).1 (by rw [hz]; simp)
  refine ⟨z, h1.1, h1.2, fun x hx hn => ?_⟩
  by_cases q : x ∈ b
  · exact q
  · have : x ∈ lacks a b := (lacks_mem a b x).2 ⟨hx, q⟩
    rw [hz] at this
    simp at this
    exact absurd this hn
theorem fol_fm {e1 e2 : Int} {a b : List Int} (h : folB e1 a e2 b = true) : ∃ op i k : Nat, 7 ≤ op ∧ op ≤ 9 ∧ i ≤ 31 ∧ k ≤ 31 ∧ fm e1 a e2 b op i k = true := by
  simp only [folB, valB, Bool.and_eq_true, decide_eq_true_eq, beq_iff_eq] at h
  obtain ⟨⟨⟨⟨⟨va, vb⟩, he⟩, g1⟩, c1⟩, s0⟩ := h
  have ra := va.2.2.1
  have rb := vb.2.2.1
  have n1 : ¬ (¬ Val e1 a ∨ e1 = 1048576) := by
    simp only [not_or, Classical.not_not]
    exact ⟨va, by have := vb.2.1; omega⟩
  by_cases g0 : (lacks a b).length = 0
  · have hab := lacks_nil g0
    obtain ⟨z, z1, z2, z3⟩ := lacks_one (a := b) (b := a) (by omega)
    have hz := vb.2.2.2.1 z z1
    have e : b = ins z a := rises_ext rb (ins_rises z ra z2) fun x => by
      rw [mem_ins]
      constructor
      · intro q
        by_cases e : x = z
        · exact .inl e
        · exact .inr (z3 x q e)
      · rintro (q | q)
        · subst q; exact z1
        · exact hab x q
    have hl : ¬ a.length = 7 := by
      have := vb.2.2.2.2.2
      rw [e, ins_length] at this
      omega
    refine ⟨7, z.toNat, 0, by omega, by omega, by omega, by omega, ?_⟩
    have hzz : ((z.toNat : Nat) : Int) = z := Int.toNat_of_nonneg hz.1
    have iz := (isN_iff z).2 hz
    have ec : chg e1 a ((7 : Nat) : Int) ((z.toNat : Nat) : Int) ((0 : Nat) : Int) = ⟨0, e1 + 1, ins z a⟩ := by
      rw [hzz]
      unfold chg
      rw [if_neg n1, if_pos (by rfl)]
      simp [chgAdd, iz, z2, hl]
    unfold fm
    rw [ec, ← e]
    simp [sameB, he]
  · obtain ⟨z, z1, z2, z3⟩ := lacks_one (a := a) (b := b) (by omega)
    have hz := va.2.2.2.1 z z1
    have hzz : ((z.toNat : Nat) : Int) = z := Int.toNat_of_nonneg hz.1
    by_cases c0 : (lacks b a).length = 0
    · have hba := lacks_nil c0
      have e : b = del z a := rises_ext rb (del_rises z ra) fun x => by
        rw [mem_del]
        constructor
        · intro q
          exact ⟨hba x q, fun e => z2 (e ▸ q)⟩
        · rintro ⟨q1, q2⟩; exact z3 x q1 q2
      have hl : ¬ a.length = 1 := by
        have h1 := vb.2.2.2.2.1
        have h2 := del_length z ra z1
        rw [← e] at h2
        omega
      refine ⟨8, z.toNat, 0, by omega, by omega, by omega, by omega, ?_⟩
      have ec : chg e1 a ((8 : Nat) : Int) ((z.toNat : Nat) : Int) ((0 : Nat) : Int) = ⟨0, e1 + 1, del z a⟩ := by
        rw [hzz]
        unfold chg
        rw [if_neg n1, if_neg (by decide), if_pos (by rfl)]
        simp [chgRem, z1, hl]
      unfold fm
      rw [ec, ← e]
      simp [sameB, he]
    · obtain ⟨y, y1, y2, y3⟩ := lacks_one (a := b) (b := a) (by omega)
      have hy := vb.2.2.2.1 y y1
      have hyy : ((y.toNat : Nat) : Int) = y := Int.toNat_of_nonneg hy.1
      have iy := (isN_iff y).2 hy
      have hyd : y ∉ del z a := fun q => y2 ((mem_del z y a).1 q).1
      have e : b = ins y (del z a) := rises_ext rb (ins_rises y (del_rises z ra) hyd) fun x => by
        rw [mem_ins, mem_del]
        constructor
        · intro q
          by_cases e : x = y
          · exact .inl e
          · exact .inr ⟨y3 x q e, fun e2 => z2 (e2 ▸ q)⟩
        · rintro (q | ⟨q1, q2⟩)
          · subst q; exact y1
          · exact z3 x q1 q2
      refine ⟨9, z.toNat, y.toNat, by omega, by omega, by omega, by omega, ?_⟩
      have ec : chg e1 a ((9 : Nat) : Int) ((z.toNat : Nat) : Int) ((y.toNat : Nat) : Int) = ⟨0, e1 + 1, ins y (del z a)⟩ := by
        rw [hzz, hyy]
        unfold chg
        rw [if_neg n1, if_neg (by decide), if_neg (by decide), if_pos (by rfl)]
        simp [chgRep, z1, iy, y2]
      unfold fm
      rw [ec, ← e]
      simp [sameB, he]
/-- The two boxes. -/
abbrev LF (w : World) (e1 : Int) (a1 : Option Addr) (n1 c1 : Nat) (e2 : Int) (a2 : Option Addr) (n2 c2 : Nat) : List (Addr × Value) := rowL (w.heap.size + 1) 0 [.int .i64 e2, .slice a2 n2 c2] (L1 w e1 a1 n1 c1)
set_option maxHeartbeats 8000000 in
theorem rfollows_any (e1 e2 : Int) (a1 a2 : Option Addr) (c1 c2 : Nat) (ns ms : List Int) (w : World) (h1 : It w (.slice a1 ns.length c1) ns) (h2 : It w (.slice a2 ms.length c2) ms) :
    Calls Try.prog 18 #[cfgV e1 a1 ns.length c1, cfgV e2 a2 ms.length c2] w fun e w' => e = .returned (.bool (folB e1 ns e2 ms)) ∧ Below w.heap.size w w' := by
  have hs0 := (held_box w e1 a1 ns.length c1).row #[.int .i64 e2, .slice a2 ms.length c2] 24
  have HS0 : Hid (Held w (w.heap.size + 1 + 1) (LF w e1 a1 ns.length c1 e2 a2 ms.length c2) (box2 w e1 a1 ns.length c1 e2 a2 ms.length c2)) := Lib.hid (by simpa using hs0)
  have H1 := Lib.hid h1
  have H2 := Lib.hid h2
  clear hs0 h1 h2
  go_enter Try.func18, Try.ntmps18
  go_wp2_with fail
  go_loopw [5] (fun o wr => ∃ n : Nat, 7 ≤ n ∧ n ≤ 10 ∧ o = .int .i64 n ∧ Hid (∀ m : Nat, 7 ≤ m → m < n → ∀ i k : Nat, i ≤ 31 → k ≤ 31 → fm e1 ns e2 ms m i k = false) ∧ Hid (Held w (w.heap.size + 1 + 1) (LF w e1 a1 ns.length c1 e2 a2 ms.length c2) wr)) (fun o _ => 10 - (intOf o).toNat)
  case atStart => exact ⟨7, by omega, by omega, rfl, Lib.hid (fun m h1 h2 => by omega), HS0⟩
  case round =>
    clear HS0
    obtain ⟨n, hn1, hn2, rfl, hN, hS⟩ := hrel
    obtain ⟨wo, rfl⟩ : ∃ wo : World, wo = wr := ⟨_, rfl⟩
    by_cases hlt : n < 10
    · have tn : (n : Int) ≤ 9 := by omega
      go_wp2_with fail
      go_loopw [6] (fun o wr => ∃ i : Nat, i ≤ 32 ∧ o = .int .i64 i ∧ Hid (∀ j k : Nat, j < i → k ≤ 31 → fm e1 ns e2 ms n j k = false) ∧ Hid (Held w (w.heap.size + 1 + 1) (LF w e1 a1 ns.length c1 e2 a2 ms.length c2) wr)) (fun o _ => 32 - (intOf o).toNat)
      case atStart => exact ⟨0, by omega, rfl, Lib.hid (fun j k h => by omega), hS⟩
      case round =>
        clear hS
        obtain ⟨i, hi, rfl, hI, hS⟩ := hrel
        obtain ⟨wp, rfl⟩ : ∃ wp : World, wp = wr := ⟨_, rfl⟩
        by_cases hlti : i < 32
        · have ti : (i : Int) ≤ 31 := by omega
          go_wp2_with fail
          go_loopw [7] (fun o wr => ∃ k : Nat, k ≤ 32 ∧ o = .int .i64 k ∧ Hid (∀ j : Nat, j < k → fm e1 ns e2 ms n i j = false) ∧ Hid (Held w (w.heap.size + 1 + 1) (LF w e1 a1 ns.length c1 e2 a2 ms.length c2) wr)) (fun o _ => 32 - (intOf o).toNat)
          case atStart => exact ⟨0, by omega, rfl, Lib.hid (fun j h => by omega), hS⟩
          case round =>
            clear hS
            obtain ⟨k, hk, rfl, hK, hS⟩ := hrel
            obtain ⟨w4, rfl⟩ : ∃ w4 : World, w4 = wr := ⟨_, rfl⟩
            have hc := hS.out.cells
            simp only [AllC, rowL, Nat.reduceAdd] at hc
            go_split_ands
            by_cases hltk : k < 32
            · have tk : (k : Int) ≤ 31 := by omega
              obtain ⟨C, hC⟩ : ∃ C, chg e1 ns n i k = C := ⟨_, rfl⟩
              have hF : Hid (fm e1 ns e2 ms n i k = ((C.err == 0) && sameB e2 ms C.ep C.ns)) := Lib.hid (by simp only [fm, hC])
              have HC := Lib.hid hC
              clear hC
              by_cases hx : C.err = 0
              · have tx : (C.err == 0) = true := by simpa using hx
                cases hsm : sameB e2 ms C.ep C.ns
                · have HM := Lib.hid hsm
                  have HN : Hid (∀ j : Nat, j < k + 1 → fm e1 ns e2 ms n i j = false) := Lib.hid (fun j hj => by
                    by_cases e : j = k
                    · subst e; rw [hF.out, hsm]; simp
                    · exact hK.out j (by omega))
                  clear hx hsm
                  go_wp2_with fail
                  refine (rchange_any e1 a1 c1 ns _ _ n _ _ _ i k _ (H1.out.below hS.out.below)).mono ?_
                  rw [HC.out]
                  rintro e w5 ⟨v5, he, hi5, hb⟩
                  subst he
                  obtain ⟨a5, c5, rfl, _⟩ := hi5.it.row
                  have hS5 := Lib.hid (hS.out.kept hb)
                  have I5 := Lib.hid hi5.it
                  clear hb hS hi5
                  have hc5 := hS5.out.cells
                  have hz5 := hS5.out.size
                  simp only [AllC, rowL, Nat.reduceAdd] at hc5
                  go_split_ands
                  have k1 : w.heap.size < w5.heap.size := by omega
                  have k2 : w.heap.size + 1 < w5.heap.size := by omega
                  go_wp2_with fail
                  refine (rsame_any e2 C.ep a2 a5 c2 c5 ms C.ns _ (IRow.of_it ((H2.out.below hS5.out.below).alloc _)) (IRow.of_it (I5.out.alloc _))).mono ?_
                  rw [HM.out]
                  rintro e w6 ⟨rfl, hb⟩
                  have hS6 := Lib.hid ((hS5.out.alloc _).kept hb)
                  clear hb hS5 I5
                  go_wp2
                  go_roundw
                  case rel => exact ⟨k + 1, by omega, by go_num, HN, hS6⟩
                  case measure => simp [intOf]; omega
                · have HM := Lib.hid hsm
                  have HN : Hid (folB e1 ns e2 ms = true) := Lib.hid (fm_fol (by rw [hF.out, hsm, tx]; rfl))
                  clear hx hsm
                  go_wp2_with fail
                  refine (rchange_any e1 a1 c1 ns _ _ n _ _ _ i k _ (H1.out.below hS.out.below)).mono ?_
                  rw [HC.out]
                  rintro e w5 ⟨v5, he, hi5, hb⟩
                  subst he
                  obtain ⟨a5, c5, rfl, _⟩ := hi5.it.row
                  have hS5 := Lib.hid (hS.out.kept hb)
                  have I5 := Lib.hid hi5.it
                  clear hb hS hi5
                  have hc5 := hS5.out.cells
                  have hz5 := hS5.out.size
                  simp only [AllC, rowL, Nat.reduceAdd] at hc5
                  go_split_ands
                  have k1 : w.heap.size < w5.heap.size := by omega
                  have k2 : w.heap.size + 1 < w5.heap.size := by omega
                  go_wp2_with fail
                  refine (rsame_any e2 C.ep a2 a5 c2 c5 ms C.ns _ (IRow.of_it ((H2.out.below hS5.out.below).alloc _)) (IRow.of_it (I5.out.alloc _))).mono ?_
                  rw [HM.out]
                  rintro e w6 ⟨rfl, hb⟩
                  have hS6 := Lib.hid ((hS5.out.alloc _).kept hb)
                  clear hb hS5 I5
                  go_wp2
                  go_ret
                  exact ⟨ret_bool HN.out.symm, hS6.out.below⟩
              · have tx : (C.err == 0) = false := by simpa using hx
                have HN : Hid (∀ j : Nat, j < k + 1 → fm e1 ns e2 ms n i j = false) := Lib.hid (fun j hj => by
                  by_cases e : j = k
                  · subst e; rw [hF.out, tx]; simp
                  · exact hK.out j (by omega))
                clear hx
                go_wp2_with fail
                refine (rchange_any e1 a1 c1 ns _ _ n _ _ _ i k _ (H1.out.below hS.out.below)).mono ?_
                rw [HC.out]
                rintro e w5 ⟨v5, he, hi5, hb⟩
                subst he
                obtain ⟨a5, c5, rfl, _⟩ := hi5.it.row
                have hS5 := Lib.hid ((hS.out.kept hb).alloc (.cells #[.int .i64 C.ep, .slice a5 C.ns.length c5] 24))
                clear hb hS hi5
                go_wp2
                go_roundw
                case rel => exact ⟨k + 1, by omega, by go_num, HN, hS5⟩
                case measure => simp [intOf]; omega
            · obtain rfl : k = 32 := by omega
              have HN : Hid (∀ j l : Nat, j < i + 1 → l ≤ 31 → fm e1 ns e2 ms n j l = false) := Lib.hid (fun j l hj hl => by
                by_cases e : j = i
                · subst e; exact hK.out l (by omega)
                · exact hI.out j l (by omega) hl)
              go_wp2
              go_roundw
              case rel => exact ⟨i + 1, by omega, by go_num, HN, hS⟩
              case measure => simp [intOf]; omega
        · obtain rfl : i = 32 := by omega
          have HN : Hid (∀ m : Nat, 7 ≤ m → m < n + 1 → ∀ i k : Nat, i ≤ 31 → k ≤ 31 → fm e1 ns e2 ms m i k = false) := Lib.hid (fun m h1 h2 i k h3 h4 => by
            by_cases e : m = n
            · subst e; exact hI.out i k (by omega) h4
            · exact hN.out m h1 (by omega) i k h3 h4)
          go_wp2
          go_roundw
          case rel => exact ⟨n + 1, by omega, by omega, by go_num, HN, hS⟩
          case measure => simp [intOf]; omega
    · obtain rfl : n = 10 := by omega
      have HN : Hid (folB e1 ns e2 ms = false) := by
        unfold Hid
        cases q : folB e1 ns e2 ms
        · rfl
        · obtain ⟨op, i, k, o1, o2, o3, o4, o5⟩ := fol_fm q
          rw [hN.out op o1 (by omega) i k o3 o4] at o5
          cases o5
      go_wp2
      go_ret
      exact ⟨ret_bool HN.out.symm, hS.out.below⟩
end Go.Proofs.Ytacjmcjmenbekaa
