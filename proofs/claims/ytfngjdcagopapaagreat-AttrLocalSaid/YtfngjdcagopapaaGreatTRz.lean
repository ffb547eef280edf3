/-
  Texts put together: TchW, TchB, TchX, TchS, TchU, TchI.
-/
import Derived.Test.YtfngjdcagopapaaGreatTz
import Derived.Test.YtfngjdcagopapaaGreatRow
import Derived.Laws.StructEq
import Derived.Shelf.SlicesE.Kit
import Derived.Deep.QuietTactic
import Derived.BigQuiet
import Derived.RegionTactic
namespace Go.Proofs.YtfngjdcagopapaaGreat.Tc
open Go.RowKit
set_option linter.unusedSimpArgs false
set_option linter.unusedVariables false

theorem four_below (w : World) (o1 o2 o3 o4 : Obj) : Below w.heap.size w ((((w.alloc o1).alloc o2).alloc o3).alloc o4) := ((((Below.refl _ _).alloc (Nat.le_refl _) _).alloc (by simp) _).alloc (by simp; omega) _).alloc (by simp; omega) _
theorem ex_b1 : bth 1 3 { data := #[47, 97] } 2 4 { data := #[47, 98] } = false := by decide +kernel
theorem ex_b2 : bth 3 1 { data := #[47, 97, 47, 98] } 4 5 { data := #[47, 97] } = true := by decide +kernel
theorem ex_b3 : bth 1 3 { data := #[47, 97] } 1 3 { data := #[47, 97] } = true := by decide +kernel
theorem ex_m4 : mtr 5 { data := #[47, 97] } 1 { data := #[47, 97, 47, 98] } = true := by decide +kernel
theorem ex_w0 : wrs 1 { data := #[47, 97, 47, 98] } = [({ data := #[47, 97, 47, 98] }, 101), ({ data := #[47, 97, 47, 98] }, 118), ({ data := #[47, 97] }, 107)] := by decide +kernel
theorem ex_r5 : rds 5 { data := #[47, 97] } = [({ data := #[47, 97] }, 101), ({ data := #[47, 97] }, 107)] := by decide +kernel
theorem ex_k6 : ctl 7 = true := by decide +kernel
theorem ex_b7 : bth 0 7 { data := #[] } 1 3 { data := #[47, 97] } = true := by decide +kernel
theorem ex_b8 : bth 0 0 { data := #[] } 1 3 { data := #[47, 97] } = false := by decide +kernel
end Go.Proofs.YtfngjdcagopapaaGreat.Tc
namespace Go.Proofs.YtfngjdcagopapaaGreat.Tc
open Go.RowKit
set_option linter.unusedSimpArgs false
set_option linter.unusedVariables false

def ovr (p1 x1 p2 x2 : ByteArray) : Bool := decide (300 < p1.size) || decide (300 < x1.size) || decide (300 < p2.size) || decide (300 < x2.size)
set_option maxHeartbeats 2000000 in
theorem over2_any (g : Nat) (p1 x1 p2 x2 : ByteArray) (w : World) (d3 : w.cell? ⟨g, 3, none⟩ = some (.string p1)) (d4 : w.cell? ⟨g, 4, none⟩ = some (.string x1)) (d11 : w.cell? ⟨g, 11, none⟩ = some (.string p2)) (d12 : w.cell? ⟨g, 12, none⟩ = some (.string x2)) :
    Calls Tryz.prog 6 #[.slice (some ⟨g, 0, none⟩) 2 2] w fun e w' => e = .returned (.bool (ovr p1 x1 p2 x2)) ∧ w = w' := by
  obtain ⟨R, hR⟩ : ∃ R, ovr p1 x1 p2 x2 = R := ⟨_, rfl⟩
  rw [hR]
  have HR := Lib.hid hR
  clear hR
  go_enter Tryz.func6, Tryz.ntmps6
  go_wp2_with fail
  go_loop [3] (fun i => ∃ k : Nat, k ≤ 2 ∧ i = .int .i64 k ∧ Hid (0 < k → p1.size ≤ 300 ∧ x1.size ≤ 300) ∧ Hid (1 < k → p2.size ≤ 300 ∧ x2.size ≤ 300)) (fun i => 2 - (intOf i).toNat)
  case atStart => exact ⟨0, by omega, rfl, Lib.hid (fun h => by omega), Lib.hid (fun h => by omega)⟩
  case round =>
    obtain ⟨k, hk, rfl, h1, h2⟩ := hrel
    have hk3 : k = 0 ∨ k = 1 ∨ k = 2 := by omega
    rcases hk3 with rfl | rfl | rfl
    · by_cases y1 : (300 : Int) < p1.size
      · have e : R = true := by rw [← HR.out]; unfold ovr; have : 300 < p1.size := by omega
                                simp [this]
        subst e
        clear h1 h2 HR
        go_wp2
        go_ret
        exact ⟨rfl, rfl⟩
      · by_cases y2 : (300 : Int) < x1.size
        · have e : R = true := by rw [← HR.out]; unfold ovr; have : 300 < x1.size := by omega
                                  simp [this]
          subst e
          clear h1 h2 HR
          go_wp2
          go_ret
          exact ⟨rfl, rfl⟩
        · go_wp2
          go_round
          case rel => exact ⟨1, by omega, rfl, Lib.hid (fun _ => ⟨by omega, by omega⟩), Lib.hid (fun h => by omega)⟩
          case measure => simp [intOf]
    · by_cases y1 : (300 : Int) < p2.size
      · have e : R = true := by rw [← HR.out]; unfold ovr; have : 300 < p2.size := by omega
                                simp [this]
        subst e
        clear h1 h2 HR
        go_wp2
        go_ret
        exact ⟨rfl, rfl⟩
      · by_cases y2 : (300 : Int) < x2.size
        · have e : R = true := by rw [← HR.out]; unfold ovr; have : 300 < x2.size := by omega
                                  simp [this]
          subst e
          clear h1 h2 HR
          go_wp2
          go_ret
          exact ⟨rfl, rfl⟩
        · go_wp2
          go_round
          case rel => exact ⟨2, by omega, rfl, Lib.hid (fun _ => h1.out (by omega)), Lib.hid (fun _ => ⟨by omega, by omega⟩)⟩
          case measure => simp [intOf]
    · have e : R = false := by
        have q1 := h1.out (by omega)
        have q2 := h2.out (by omega)
        rw [← HR.out]
        unfold ovr
        have e1 : ¬ 300 < p1.size := by omega
        have e2 : ¬ 300 < x1.size := by omega
        have e3 : ¬ 300 < p2.size := by omega
        have e4 : ¬ 300 < x2.size := by omega
        simp [e1, e2, e3, e4]
      subst e
      clear h1 h2 HR
      go_wp2
      go_ret
      exact ⟨rfl, rfl⟩
end Go.Proofs.YtfngjdcagopapaaGreat.Tc
namespace Go.Proofs.YtfngjdcagopapaaGreat.Tc
open Go.RowKit
set_option linter.unusedSimpArgs false
set_option linter.unusedVariables false

/-- Cells as elements of rows. -/
noncomputable def CK : Knd Tryz.prog Cl where
  T := 80
  S := 77
  k := 2
  enc := vc
  z := .agg #[.string ByteArray.empty, .int .u8 0]
  B := 24
  len := fun _ => rfl
  one := fun x v h => by simp [vc] at h; rcases h with rfl | rfl <;> rfl
  und := Tryz.underlying77
  info := infoCell
  zc := rfl
  pos := by omega
  small := by omega
  d := (ByteArray.empty, 0)
theorem Own2.ck {w : World} {base : Nat} {v : Value} {l : List Cl} (h : Own2 w base v l) : CK.Own w base v l := h
theorem clCell {w : World} {a : Option Addr} {n c : Nat} {l : List Cl} (h : CK.Rd w (.slice a n c) l) (k : Nat) (hk : k < n) : n = l.length ∧ ∃ g off, a = some ⟨g, off, none⟩ ∧ g < w.heap.size ∧
    w.cell? ⟨g, off + k * 2, none⟩ = some (.string (l.getD k (ByteArray.empty, 0)).1) ∧ w.cell? ⟨g, off + k * 2 + 1, none⟩ = some (.int .u8 (l.getD k (ByteArray.empty, 0)).2) ∧ k < l.length := by
  have hl : l ≠ [] := by
    intro e
    obtain ⟨a', c', e', _⟩ := h
    subst e
    simp at e'
    omega
  obtain ⟨hn, g, off, rfl, hg, hc⟩ := h.at hl
  exact ⟨hn, g, off, rfl, hg, hc k hk 0 _ rfl, hc k hk 1 _ rfl, by omega⟩
/-- Two cells compared. -/
theorem eqC_run (a1 : ByteArray) (a2 : Int) (b1 : ByteArray) (b2 : Int) : (∀ w, Sem.run Tryz.prog (binOp .eql 80 (.agg #[.string a1, .int .u8 a2]) (.agg #[.string b1, .int .u8 b2])) w = .ok (.bool (decide (((a1, a2) : Cl) = (b1, b2)))) w) ∧
    (∀ op x y w, Sem.run Tryz.prog (eqGuard op 80 x y (.agg #[.string a1, .int .u8 a2]) (.agg #[.string b1, .int .u8 b2])) w = .ok () w) := by
  refine ⟨fun w => ?_, fun op x y w => run_eqGuard_agg w op 80 x y _ _ (by kernel_rfl)⟩
  have u3 := Tryz.underlying9
  have a3 := Tryz.isAgg9
  have z3 := Tryz.sizeOf9
  have u4 := Tryz.underlying5
  have a4 := Tryz.isAgg5
  have z4 := Tryz.sizeOf5
  have hS : Tryz.prog.underlying 80 = some (.struct (Tryz.prog.fieldsOf 80)) := by kernel_rfl
  have hp : Tryz.prog.stoodInHeld 80 = false := by kernel_rfl
  rw [run_eql_struct, show (10000 : Nat) = 9999 + 1 from rfl, run_equalIn_agg w 9999 80 _ _ hS hp]
  simp only [Program.fieldsOf, Tryz.underlying80]
  go_simp
  by_cases h1 : a1 = b1
  · subst h1
    by_cases h2 : a2 = b2 <;> simp [h2]
  · have h3 : a1.toList ≠ b1.toList := by
      intro e
      rw [ByteArray.toList_eq, ByteArray.toList_eq] at e
      exact h1 (ByteArray.ext (by simpa using e))
    simp [h1, h3]
end Go.Proofs.YtfngjdcagopapaaGreat.Tc
namespace Go.Proofs.YtfngjdcagopapaaGreat.Tc
open Go.RowKit
set_option linter.unusedSimpArgs false
set_option linter.unusedVariables false

theorem infoRCell : (Tryz.prog.info? 87).map (fun i => (i.zero, i.size, i.bytes)) = some (some (.agg #[.string ByteArray.empty, .int .u8 0]), 2, 24) := by kernel_rfl
/-- The document's cells as elements of rows. -/
noncomputable def RK : Knd Tryz.prog Cl where
  T := 87
  S := 71
  k := 2
  enc := vc
  z := .agg #[.string ByteArray.empty, .int .u8 0]
  B := 24
  len := fun _ => rfl
  one := fun x v h => by simp [vc] at h; rcases h with rfl | rfl <;> rfl
  und := Tryz.underlying71
  info := infoRCell
  zc := rfl
  pos := by omega
  small := by omega
  d := (ByteArray.empty, 0)
def RkP (r x : List Cl) (w : World) (e : Ending) (w' : World) : Prop := ∃ v1 v2, Hid (e = .returned (.tuple #[v1, v2])) ∧ RK.Rd w' v1 r ∧ RK.Rd w' v2 x ∧ Below w.heap.size w w'
theorem rcells_no (cl sq op : Int) (pa va : ByteArray) (ver ca cb : Int) (w : World) (hp : pa.size ≤ 1000) (hv : vld pa = false) :
    Calls Tryz.prog 48 #[.agg #[.int .i64 cl, .int .i64 sq, .int .i64 op, .string pa, .string va, .int .i64 ver, .int .i64 ca, .int .i64 cb]] w (RkP [] [] w) := by
  have hb0 : Below w.heap.size w (w.alloc (.cells #[.int .i64 cl, .int .i64 sq, .int .i64 op, .string pa, .string va, .int .i64 ver, .int .i64 ca, .int .i64 cb] 27)) := (Below.refl _ _).alloc (Nat.le_refl _) _
  have HB0 := Lib.hid hb0
  have hc := rvalid_any pa (w.alloc (.cells #[.int .i64 cl, .int .i64 sq, .int .i64 op, .string pa, .string va, .int .i64 ver, .int .i64 ca, .int .i64 cb] 27)) hp
  rw [hv] at hc
  have HC := Lib.hid hc
  clear hc hb0
  go_enter Tryz.func48, Tryz.ntmps48
  go_wp2_with fail
  refine HC.out.mono ?_
  rintro e w1 ⟨rfl, hb⟩
  have HB := Lib.hid (HB0.out.trans (hb.mono (by simp)))
  clear hb
  go_wp2
  go_ret2
  exact ⟨_, _, Lib.hid rfl, Knd.Rd.nil _, Knd.Rd.nil _, HB.out⟩
set_option maxRecDepth 100000 in
set_option maxHeartbeats 2000000 in
theorem rcells_yes (cl sq op : Int) (pa va : ByteArray) (ver ca cb : Int) (w : World) (hp : pa.size ≤ 1000) (hv : vld pa = true) :
    Calls Tryz.prog 48 #[.agg #[.int .i64 cl, .int .i64 sq, .int .i64 op, .string pa, .string va, .int .i64 ver, .int .i64 ca, .int .i64 cb]] w (RkP (rds op pa) (wrs op pa) w) := by
  have hb0 : Below w.heap.size w (w.alloc (.cells #[.int .i64 cl, .int .i64 sq, .int .i64 op, .string pa, .string va, .int .i64 ver, .int .i64 ca, .int .i64 cb] 27)) := (Below.refl _ _).alloc (Nat.le_refl _) _
  have HB0 := Lib.hid hb0
  have hc := rvalid_any pa (w.alloc (.cells #[.int .i64 cl, .int .i64 sq, .int .i64 op, .string pa, .string va, .int .i64 ver, .int .i64 ca, .int .i64 cb] 27)) hp
  rw [hv] at hc
  have HC := Lib.hid hc
  have hz3 : (w.alloc (.cells #[.int .i64 cl, .int .i64 sq, .int .i64 op, .string pa, .string va, .int .i64 ver, .int .i64 ca, .int .i64 cb] 27)).heap.size = w.heap.size + 1 := by simp
  have d2 : (w.alloc (.cells #[.int .i64 cl, .int .i64 sq, .int .i64 op, .string pa, .string va, .int .i64 ver, .int .i64 ca, .int .i64 cb] 27)).cell? ⟨w.heap.size, 2, none⟩ = some (.int .i64 op) := new_cell w _ _ 2
  clear hc hb0
  go_enter Tryz.func48, Tryz.ntmps48
  go_wp2_with fail
  generalize (w.alloc (.cells #[.int .i64 cl, .int .i64 sq, .int .i64 op, .string pa, .string va, .int .i64 ver, .int .i64 ca, .int .i64 cb] 27)) = X0 at *
  refine HC.out.mono ?_
  rintro e w1 ⟨rfl, hb⟩
  replace d2 := (hb.cell (p := ⟨w.heap.size, 2, none⟩) (by dsimp only; omega)).trans d2
  have hs1 := hb.size
  have HB1 := Lib.hid (HB0.out.trans (hb.mono (by omega)))
  have HP := Lib.hid (rparent_any pa w1 hp)
  clear hb HC
  go_wp2_with fail
  refine HP.out.mono ?_
  rintro e w2 ⟨rfl, hb⟩
  replace d2 := (hb.cell (p := ⟨w.heap.size, 2, none⟩) (by dsimp only; omega)).trans d2
  have hs2 := hb.size
  have HB2 := Lib.hid (HB1.out.trans (hb.mono (by omega)))
  obtain ⟨Q, hQ⟩ : ∃ Q, par pa = Q := ⟨_, rfl⟩
  rw [hQ]
  have HQ := Lib.hid hQ
  have hz2 : w.heap.size < w2.heap.size := by omega
  clear hb HP hQ hs1 hs2 hz3
  have hx2 : (((w2.alloc (.cells #[.string pa, .int .u8 101] 87)).alloc (.cells #[.string pa, .int .u8 118] 87)).alloc (.cells #[.string pa, .int .u8 107] 87)).cell? ⟨w.heap.size, 2, none⟩ = some (.int .i64 op) := (old_cell _ _ _ _ (by simp; omega)).trans ((old_cell _ _ _ _ (by simp; omega)).trans ((old_cell _ _ _ _ hz2).trans d2))
  have HB3 : Hid (Below w.heap.size w (((w2.alloc (.cells #[.string pa, .int .u8 101] 87)).alloc (.cells #[.string pa, .int .u8 118] 87)).alloc (.cells #[.string pa, .int .u8 107] 87))) := Lib.hid (((HB2.out.alloc (by omega) _).alloc (by simp; omega) _).alloc (by simp; omega) _)
  by_cases h4 : op = 4
  · subst h4
    have e1 : Hid (rds 4 pa = [(pa, 101), (pa, 118)]) := Lib.hid (by unfold rds; simp [hv, *])
    have e2 : Hid (wrs 4 pa = []) := Lib.hid (by unfold wrs; simp [hv, *])
    go_wp2
    go_ret2
    rw [e1.out, e2.out]
    exact ⟨_, _, Lib.hid rfl, RK.rd_lit [(pa, 101), (pa, 118)] _ 2 2 rfl (by simp [maxLen]) _ _ (by simp), Knd.Rd.nil _, HB3.out.alloc (by simp; omega) _⟩
  by_cases h5 : op = 5
  · subst h5
    have e1 : Hid (rds 5 pa = [(pa, 101), (pa, 107)]) := Lib.hid (by unfold rds; simp [hv, *])
    have e2 : Hid (wrs 5 pa = []) := Lib.hid (by unfold wrs; simp [hv, *])
    go_wp2
    go_ret2
    rw [e1.out, e2.out]
    exact ⟨_, _, Lib.hid rfl, RK.rd_lit [(pa, 101), (pa, 107)] _ 2 2 rfl (by simp [maxLen]) _ _ (by simp), Knd.Rd.nil _, HB3.out.alloc (by simp; omega) _⟩
  have k4 : (op == 4) = false := by simpa using h4
  have k5 : (op == 5) = false := by simpa using h5
  by_cases h1 : op = 1
  · subst h1
    by_cases hn : nmL pa = []
    · obtain ⟨s1, s2⟩ := (root_str hv).1 hn
      have hr : rt = pa := by rw [vld_pth hv, hn]; rfl
      have e1 : Hid (rds 1 pa = [(pa, 101)]) := Lib.hid (by unfold rds; simp [hv, hn, hr])
      have e2 : Hid (wrs 1 pa = []) := Lib.hid (by unfold wrs; simp [hv, hn, hr])
      go_wp2
      go_ret2
      rw [e1.out, e2.out]
      exact ⟨_, _, Lib.hid rfl, RK.rd_lit [(pa, 101)] _ 1 1 rfl (by simp [maxLen]) _ _ (by simp), Knd.Rd.nil _, HB3.out.alloc (by simp; omega) _⟩
    · obtain ⟨s1, s2⟩ := (root_str hv).2 hn
      have e1 : Hid (rds 1 pa = [(Q, 101), (pa, 101)]) := Lib.hid (by unfold rds; simp [hv, HQ.out, hn])
      have e2 : Hid (wrs 1 pa = [(pa, 101), (pa, 118), (Q, 107)]) := Lib.hid (by unfold wrs; simp [hv, HQ.out, hn])
      go_wp2_with fail
      go_region
      all_goals go_wp2
      all_goals go_ret2
      all_goals rw [e1.out, e2.out]
      all_goals first
        | exact ⟨_, _, Lib.hid rfl, ((RK.rd_lit [(Q, 101), (pa, 101)] _ 2 2 rfl (by simp [maxLen]) _ _ (by simp)).below ((Below.refl _ _).alloc (Nat.le_refl _) _)).below (Below.refl _ _).drew, (RK.rd_lit [(pa, 101), (pa, 118), (Q, 107)] _ 3 3 rfl (by simp [maxLen]) _ _ (by simp)).below (Below.refl _ _).drew, ((HB3.out.alloc (by simp; omega) _).alloc (by simp; omega) _).drew⟩
        | exact ⟨_, _, Lib.hid rfl, (RK.rd_lit [(Q, 101), (pa, 101)] _ 2 2 rfl (by simp [maxLen]) _ _ (by simp)).below (Below.refl _ _).drew, ((RK.rd_lit [(pa, 101), (pa, 118), (Q, 107)] _ 3 3 rfl (by simp [maxLen]) _ _ (by simp)).below ((Below.refl _ _).alloc (Nat.le_refl _) _)).below (Below.refl _ _).drew, ((HB3.out.alloc (by simp; omega) _).alloc (by simp; omega) _).drew⟩
        | fail
  have k1 : (op == 1) = false := by simpa using h1
  by_cases h2 : op = 2
  · subst h2
    by_cases hn : nmL pa = []
    · obtain ⟨s1, s2⟩ := (root_str hv).1 hn
      have e1 : Hid (rds 2 pa = []) := Lib.hid (by unfold rds; simp [hv, hn])
      have e2 : Hid (wrs 2 pa = []) := Lib.hid (by unfold wrs; simp [hv, hn])
      go_wp2
      go_ret2
      rw [e1.out, e2.out]
      exact ⟨_, _, Lib.hid rfl, Knd.Rd.nil _, Knd.Rd.nil _, HB3.out⟩
    · obtain ⟨s1, s2⟩ := (root_str hv).2 hn
      have e1 : Hid (rds 2 pa = [(pa, 101), (pa, 107)]) := Lib.hid (by unfold rds; simp [hv, HQ.out, hn])
      have e2 : Hid (wrs 2 pa = [(pa, 101), (pa, 118), (Q, 107)]) := Lib.hid (by unfold wrs; simp [hv, HQ.out, hn])
      go_wp2_with fail
      go_region
      all_goals go_wp2
      all_goals go_ret2
      all_goals rw [e1.out, e2.out]
      all_goals first
        | exact ⟨_, _, Lib.hid rfl, ((RK.rd_lit [(pa, 101), (pa, 107)] _ 2 2 rfl (by simp [maxLen]) _ _ (by simp)).below ((Below.refl _ _).alloc (Nat.le_refl _) _)).below (Below.refl _ _).drew, (RK.rd_lit [(pa, 101), (pa, 118), (Q, 107)] _ 3 3 rfl (by simp [maxLen]) _ _ (by simp)).below (Below.refl _ _).drew, ((HB3.out.alloc (by simp; omega) _).alloc (by simp; omega) _).drew⟩
        | exact ⟨_, _, Lib.hid rfl, (RK.rd_lit [(pa, 101), (pa, 107)] _ 2 2 rfl (by simp [maxLen]) _ _ (by simp)).below (Below.refl _ _).drew, ((RK.rd_lit [(pa, 101), (pa, 118), (Q, 107)] _ 3 3 rfl (by simp [maxLen]) _ _ (by simp)).below ((Below.refl _ _).alloc (Nat.le_refl _) _)).below (Below.refl _ _).drew, ((HB3.out.alloc (by simp; omega) _).alloc (by simp; omega) _).drew⟩
        | fail
  have k2 : (op == 2) = false := by simpa using h2
  by_cases h3 : op = 3
  · subst h3
    by_cases hn : nmL pa = []
    · obtain ⟨s1, s2⟩ := (root_str hv).1 hn
      have e1 : Hid (rds 3 pa = []) := Lib.hid (by unfold rds; simp [hv, hn])
      have e2 : Hid (wrs 3 pa = []) := Lib.hid (by unfold wrs; simp [hv, hn])
      go_wp2
      go_ret2
      rw [e1.out, e2.out]
      exact ⟨_, _, Lib.hid rfl, Knd.Rd.nil _, Knd.Rd.nil _, HB3.out⟩
    · obtain ⟨s1, s2⟩ := (root_str hv).2 hn
      have e1 : Hid (rds 3 pa = [(pa, 101)]) := Lib.hid (by unfold rds; simp [hv, HQ.out, hn])
      have e2 : Hid (wrs 3 pa = [(pa, 118)]) := Lib.hid (by unfold wrs; simp [hv, HQ.out, hn])
      go_wp2_with fail
      go_region
      all_goals go_wp2
      all_goals go_ret2
      all_goals rw [e1.out, e2.out]
      all_goals first
        | exact ⟨_, _, Lib.hid rfl, ((RK.rd_lit [(pa, 101)] _ 1 1 rfl (by simp [maxLen]) _ _ (by simp)).below ((Below.refl _ _).alloc (Nat.le_refl _) _)).below (Below.refl _ _).drew, (RK.rd_lit [(pa, 118)] _ 1 1 rfl (by simp [maxLen]) _ _ (by simp)).below (Below.refl _ _).drew, ((HB3.out.alloc (by simp; omega) _).alloc (by simp; omega) _).drew⟩
        | exact ⟨_, _, Lib.hid rfl, (RK.rd_lit [(pa, 101)] _ 1 1 rfl (by simp [maxLen]) _ _ (by simp)).below (Below.refl _ _).drew, ((RK.rd_lit [(pa, 118)] _ 1 1 rfl (by simp [maxLen]) _ _ (by simp)).below ((Below.refl _ _).alloc (Nat.le_refl _) _)).below (Below.refl _ _).drew, ((HB3.out.alloc (by simp; omega) _).alloc (by simp; omega) _).drew⟩
        | fail
  have k3 : (op == 3) = false := by simpa using h3
  by_cases h6 : op = 6
  · subst h6
    by_cases hn : nmL pa = []
    · obtain ⟨s1, s2⟩ := (root_str hv).1 hn
      have e1 : Hid (rds 6 pa = []) := Lib.hid (by unfold rds; simp [hv, hn])
      have e2 : Hid (wrs 6 pa = []) := Lib.hid (by unfold wrs; simp [hv, hn])
      go_wp2
      go_ret2
      rw [e1.out, e2.out]
      exact ⟨_, _, Lib.hid rfl, Knd.Rd.nil _, Knd.Rd.nil _, HB3.out⟩
    · obtain ⟨s1, s2⟩ := (root_str hv).2 hn
      have e1 : Hid (rds 6 pa = [(pa, 101), (pa, 118)]) := Lib.hid (by unfold rds; simp [hv, HQ.out, hn])
      have e2 : Hid (wrs 6 pa = [(pa, 118)]) := Lib.hid (by unfold wrs; simp [hv, HQ.out, hn])
      go_wp2_with fail
      go_region
      all_goals go_wp2
      all_goals go_ret2
      all_goals rw [e1.out, e2.out]
      all_goals first
        | exact ⟨_, _, Lib.hid rfl, ((RK.rd_lit [(pa, 101), (pa, 118)] _ 2 2 rfl (by simp [maxLen]) _ _ (by simp)).below ((Below.refl _ _).alloc (Nat.le_refl _) _)).below (Below.refl _ _).drew, (RK.rd_lit [(pa, 118)] _ 1 1 rfl (by simp [maxLen]) _ _ (by simp)).below (Below.refl _ _).drew, ((HB3.out.alloc (by simp; omega) _).alloc (by simp; omega) _).drew⟩
        | exact ⟨_, _, Lib.hid rfl, (RK.rd_lit [(pa, 101), (pa, 118)] _ 2 2 rfl (by simp [maxLen]) _ _ (by simp)).below (Below.refl _ _).drew, ((RK.rd_lit [(pa, 118)] _ 1 1 rfl (by simp [maxLen]) _ _ (by simp)).below ((Below.refl _ _).alloc (Nat.le_refl _) _)).below (Below.refl _ _).drew, ((HB3.out.alloc (by simp; omega) _).alloc (by simp; omega) _).drew⟩
        | fail
  have k6 : (op == 6) = false := by simpa using h6
  have e1 : Hid (rds op pa = []) := Lib.hid (by unfold rds; simp [hv, *])
  have e2 : Hid (wrs op pa = []) := Lib.hid (by unfold wrs; simp [hv, *])
  go_wp2
  go_ret2
  rw [e1.out, e2.out]
  exact ⟨_, _, Lib.hid rfl, Knd.Rd.nil _, Knd.Rd.nil _, HB3.out⟩
theorem rcells_any (cl sq op : Int) (pa va : ByteArray) (ver ca cb : Int) (w : World) (hp : pa.size ≤ 1000) :
    Calls Tryz.prog 48 #[.agg #[.int .i64 cl, .int .i64 sq, .int .i64 op, .string pa, .string va, .int .i64 ver, .int .i64 ca, .int .i64 cb]] w (RkP (rds op pa) (wrs op pa) w) := by
  cases hv : vld pa with
  | false =>
    have h := rcells_no cl sq op pa va ver ca cb w hp hv
    have e1 : rds op pa = [] := by unfold rds; simp [hv]
    have e2 : wrs op pa = [] := by unfold wrs; simp [hv]
    rw [e1, e2]
    exact h
  | true => exact rcells_yes cl sq op pa va ver ca cb w hp hv
end Go.Proofs.YtfngjdcagopapaaGreat.Tc
namespace Go.Proofs.YtfngjdcagopapaaGreat.Tc
open Go.RowKit
set_option linter.unusedSimpArgs false
set_option linter.unusedVariables false

theorem below_dq {B : Nat} {a w : World} (h : Below B a w) (q : Nat) : Below B a (w.drewN q) := ⟨h.os, h.tape, h.output, h.size, h.block⟩
theorem rcCell {w : World} {a : Option Addr} {n c : Nat} {l : List Cl} (h : RK.Rd w (.slice a n c) l) (k : Nat) (hk : k < n) : n = l.length ∧ ∃ g off, a = some ⟨g, off, none⟩ ∧ g < w.heap.size ∧
    w.cell? ⟨g, off + k * 2, none⟩ = some (.string (l.getD k (ByteArray.empty, 0)).1) ∧ w.cell? ⟨g, off + k * 2 + 1, none⟩ = some (.int .u8 (l.getD k (ByteArray.empty, 0)).2) ∧ k < l.length := by
  have hl : l ≠ [] := by
    intro e
    obtain ⟨a', c', e', _⟩ := h
    subst e
    simp at e'
    omega
  obtain ⟨hn, g, off, rfl, hg, hc⟩ := h.at hl
  exact ⟨hn, g, off, rfl, hg, hc k hk 0 _ rfl, hc k hk 1 _ rfl, by omega⟩
/-- Two of the document's cells compared. -/
theorem eqR_run (a1 : ByteArray) (a2 : Int) (b1 : ByteArray) (b2 : Int) : (∀ w, Sem.run Tryz.prog (binOp .eql 87 (.agg #[.string a1, .int .u8 a2]) (.agg #[.string b1, .int .u8 b2])) w = .ok (.bool (decide (((a1, a2) : Cl) = (b1, b2)))) w) ∧
    (∀ op x y w, Sem.run Tryz.prog (eqGuard op 87 x y (.agg #[.string a1, .int .u8 a2]) (.agg #[.string b1, .int .u8 b2])) w = .ok () w) := by
  refine ⟨fun w => ?_, fun op x y w => run_eqGuard_agg w op 87 x y _ _ (by kernel_rfl)⟩
  have u3 := Tryz.underlying9
  have a3 := Tryz.isAgg9
  have z3 := Tryz.sizeOf9
  have u4 := Tryz.underlying5
  have a4 := Tryz.isAgg5
  have z4 := Tryz.sizeOf5
  have hS : Tryz.prog.underlying 87 = some (.struct (Tryz.prog.fieldsOf 87)) := by kernel_rfl
  have hp : Tryz.prog.stoodInHeld 87 = false := by kernel_rfl
  rw [run_eql_struct, show (10000 : Nat) = 9999 + 1 from rfl, run_equalIn_agg w 9999 87 _ _ hS hp]
  simp only [Program.fieldsOf, Tryz.underlying87]
  go_simp
  by_cases h1 : a1 = b1
  · subst h1
    by_cases h2 : a2 = b2 <;> simp [h2]
  · have h3 : a1.toList ≠ b1.toList := by
      intro e
      rw [ByteArray.toList_eq, ByteArray.toList_eq] at e
      exact h1 (ByteArray.ext (by simpa using e))
    simp [h1, h3]
/-- Have two lists one in common? -/
def meetC (a b : List Cl) : Bool := a.any fun x => b.any fun y => decide (x = y)
theorem meetC_iff (a b : List Cl) : meetC a b = true ↔ ∃ x ∈ a, x ∈ b := by unfold meetC; simp
set_option maxRecDepth 100000 in
set_option maxHeartbeats 2000000 in
theorem rmeet_any (va vb : Value) (a b : List Cl) (w : World) (ha : RK.Rd w va a) (hb : RK.Rd w vb b) (na : a.length ≤ 100) (nb : b.length ≤ 100) :
    Calls Tryz.prog 49 #[va, vb] w fun e w' => e = .returned (.bool (meetC a b)) ∧ Below w.heap.size w w' := by
  obtain ⟨aa, ca, e⟩ := ha.slice
  subst e
  obtain ⟨ab, cb, e⟩ := hb.slice
  subst e
  obtain ⟨N, hN⟩ : ∃ N, a.length = N := ⟨_, rfl⟩
  obtain ⟨M, hM⟩ : ∃ N, b.length = N := ⟨_, rfl⟩
  obtain ⟨R, hR⟩ : ∃ R, meetC a b = R := ⟨_, rfl⟩
  rw [hN] at ha na ⊢
  rw [hM] at hb nb ⊢
  rw [hR]
  have HN := Lib.hid hN
  have HM := Lib.hid hM
  have HR := Lib.hid hR
  have HA := Lib.hid ha
  have HB := Lib.hid hb
  clear hN hM hR ha hb
  go_enter Tryz.func49, Tryz.ntmps49
  go_wp2_with fail
  go_loopw [5] (fun i wr => ∃ k : Nat, k ≤ N ∧ i = .int .i64 k ∧ Hid (Below w.heap.size w wr) ∧ Hid (∀ i, i < k → ∀ j, j < M → a.getD i (ByteArray.empty, 0) ≠ b.getD j (ByteArray.empty, 0))) (fun i _ => N - (intOf i).toNat)
  case atStart => exact ⟨0, Nat.zero_le _, rfl, Lib.hid (Below.refl _ _), Lib.hid (fun j hj => by omega)⟩
  case round =>
    obtain ⟨k, hk, rfl, hB, hF⟩ := hrel
    by_cases hlt : k < N
    · have hlt' : (k : Int) < (N : Int) := by omega
      have hkb : (k : Int) ≤ 100 := by omega
      go_wp2_with fail
      obtain ⟨wo, hwo⟩ : ∃ wo : World, wo = wr := ⟨_, rfl⟩
      subst hwo
      go_loopw [6] (fun i wr => ∃ j : Nat, j ≤ M ∧ i = .int .i64 j ∧ Hid (Below w.heap.size w wr) ∧ Hid (∀ i, i < j → a.getD k (ByteArray.empty, 0) ≠ b.getD i (ByteArray.empty, 0))) (fun i _ => M - (intOf i).toNat)
      case atStart => exact ⟨0, Nat.zero_le _, rfl, hB, Lib.hid (fun j hj => by omega)⟩
      case round =>
        clear hB
        obtain ⟨j, hj, rfl, hB, hG⟩ := hrel
        by_cases hltj : j < M
        · have hltj' : (j : Int) < (M : Int) := by omega
          have hjb : (j : Int) ≤ 100 := by omega
          obtain ⟨e0, g2, off2, hda, hg2, q1, q2, hjl⟩ := rcCell (HA.out.below hB.out) k hlt
          obtain ⟨e1, g3, off3, hdb, hg3, p1, p2, hjm⟩ := rcCell (HB.out.below hB.out) j hltj
          obtain ⟨⟨y1, y2⟩, hX⟩ : ∃ X, a.getD k (ByteArray.empty, 0) = X := ⟨_, rfl⟩
          obtain ⟨⟨x1, x2⟩, hY⟩ : ∃ X, b.getD j (ByteArray.empty, 0) = X := ⟨_, rfl⟩
          rw [hX] at q1 q2
          rw [hY] at p1 p2
          have HX := Lib.hid hX
          have HY := Lib.hid hY
          have HJL := Lib.hid hjl
          have HJM := Lib.hid hjm
          obtain ⟨he, hgd⟩ := eqR_run y1 y2 x1 x2
          subst hda
          subst hdb
          cases hq : decide (((y1, y2) : Cl) = (x1, x2)) with
          | true =>
            rw [hq] at he
            have HE := Lib.hid (of_decide_eq_true hq)
            clear hX hY hjl hjm e0 e1 hq
            go_wp2_with fail
            go_quiet (fail)
            go_wp2
            go_ret
            refine ⟨ret_bool ?_, below_dq hB.out _⟩
            rw [← HR.out]
            symm
            rw [meetC_iff]
            refine ⟨(y1, y2), ?_, ?_⟩
            · rw [← HX.out]; simp [List.getD, HJL.out]
            · rw [HE.out, ← HY.out]; simp [List.getD, HJM.out]
          | false =>
            rw [hq] at he
            have HG2 : Hid (∀ i, i < j + 1 → a.getD k (ByteArray.empty, 0) ≠ b.getD i (ByteArray.empty, 0)) := Lib.hid (fun i hi => by
              by_cases e : i = j
              · subst e; rw [HX.out, HY.out]; exact of_decide_eq_false hq
              · exact hG.out i (by omega))
            clear hX hY hjl hjm e0 e1 hq
            go_wp2_with fail
            go_quiet (fail)
            go_wp2
            go_roundw
            case rel => exact ⟨j + 1, by omega, by go_num, Lib.hid (below_dq hB.out _), HG2⟩
            case measure => simp [intOf]; omega
        · obtain rfl : j = M := by omega
          have HF2 : Hid (∀ i, i < k + 1 → ∀ q, q < j → a.getD i (ByteArray.empty, 0) ≠ b.getD q (ByteArray.empty, 0)) := Lib.hid (fun i hi q hq => by
            by_cases e : i = k
            · subst e; exact hG.out q hq
            · exact hF.out i (by omega) q hq)
          clear hG
          go_wp2
          go_roundw
          case rel => exact ⟨k + 1, by omega, by go_num, hB, HF2⟩
          case measure => simp [intOf]; omega
    · obtain rfl : k = N := by omega
      go_wp2
      go_ret
      refine ⟨ret_bool ?_, hB.out⟩
      rw [← HR.out]
      symm
      rw [Bool.eq_false_iff, ne_eq, meetC_iff]
      rintro ⟨x, hx, hy⟩
      obtain ⟨i, hi, e⟩ := List.getElem_of_mem hx
      obtain ⟨j, hj, e2⟩ := List.getElem_of_mem hy
      exact hF.out i (by rw [← HN.out]; exact hi) j (by rw [← HM.out]; exact hj) (by simp [List.getD, hi, hj, e, e2])
theorem mtr_meet (o1 : Int) (p1 : ByteArray) (o2 : Int) (p2 : ByteArray) : (meetC (wrs o1 p1) (rds o2 p2) || (meetC (wrs o1 p1) (wrs o2 p2) || meetC (wrs o2 p2) (rds o1 p1))) = mtr o1 p1 o2 p2 := by
  unfold mtr dst
  rw [Bool.eq_iff_iff, Bool.or_eq_true, Bool.or_eq_true, Bool.or_eq_true, meetC_iff, meetC_iff, meetC_iff]
  unfold memB
  simp only [List.any_eq_true, decide_eq_true_eq, List.mem_append]
  constructor
  · rintro (⟨x, h1, h2⟩ | ⟨x, h1, h2⟩ | ⟨x, h1, h2⟩)
    · exact .inl ⟨x, .inl h2, x, h1, rfl⟩
    · exact .inl ⟨x, .inr h2, x, h1, rfl⟩
    · exact .inr ⟨x, .inl h2, x, h1, rfl⟩
  · rintro (⟨x, h | h, y, h2, rfl⟩ | ⟨x, h | h, y, h2, rfl⟩)
    · exact .inl ⟨y, h2, h⟩
    · exact .inr (.inl ⟨y, h2, h⟩)
    · exact .inr (.inr ⟨y, h2, h⟩)
    · exact .inr (.inl ⟨y, h, h2⟩)
end Go.Proofs.YtfngjdcagopapaaGreat.Tc
namespace Go.Proofs.YtfngjdcagopapaaGreat.Tc
open Go.RowKit
set_option linter.unusedSimpArgs false
set_option linter.unusedVariables false

theorem rcontrol_any (cl sq op : Int) (pa va : ByteArray) (ver ca cb : Int) (w : World) :
    Calls Tryz.prog 37 #[.agg #[.int .i64 cl, .int .i64 sq, .int .i64 op, .string pa, .string va, .int .i64 ver, .int .i64 ca, .int .i64 cb]] w fun e w' => e = .returned (.bool (ctl op)) ∧ Below w.heap.size w w' := by
  by_cases h7 : op = 7
  · subst h7
    go_enter Tryz.func37, Tryz.ntmps37
    go_wp2
    go_ret
    exact ⟨rfl, (Below.refl _ _).alloc (Nat.le_refl _) _⟩
  · by_cases h8 : op = 8
    · subst h8
      go_enter Tryz.func37, Tryz.ntmps37
      go_wp2
      go_ret
      exact ⟨rfl, (Below.refl _ _).alloc (Nat.le_refl _) _⟩
    · by_cases h9 : op = 9
      · subst h9
        go_enter Tryz.func37, Tryz.ntmps37
        go_wp2
        go_ret
        exact ⟨rfl, (Below.refl _ _).alloc (Nat.le_refl _) _⟩
      · have e : ctl op = false := by unfold ctl; simp [h7, h8, h9]
        rw [e]
        have z7 : (op == 7) = false := by simpa using h7
        have z8 : (op == 8) = false := by simpa using h8
        have z9 : (op == 9) = false := by simpa using h9
        clear h7 h8 h9 e
        go_enter Tryz.func37, Tryz.ntmps37
        go_wp2
        go_ret
        exact ⟨rfl, (Below.refl _ _).alloc (Nat.le_refl _) _⟩
set_option maxRecDepth 100000 in
set_option maxHeartbeats 4000000 in
theorem rpaths_any (c1 s1 o1 : Int) (p1 x1 : ByteArray) (n1 a1 b1 : Int) (c2 s2 o2 : Int) (p2 x2 : ByteArray) (n2 a2 b2 : Int) (w : World) (h1 : p1.size ≤ 1000) (h2 : p2.size ≤ 1000) :
    Calls Tryz.prog 38 #[.agg #[.int .i64 c1, .int .i64 s1, .int .i64 o1, .string p1, .string x1, .int .i64 n1, .int .i64 a1, .int .i64 b1], .agg #[.int .i64 c2, .int .i64 s2, .int .i64 o2, .string p2, .string x2, .int .i64 n2, .int .i64 a2, .int .i64 b2]] w fun e w' => e = .returned (.bool (mtr o1 p1 o2 p2)) ∧ Below w.heap.size w w' := by
  have hm := mtr_meet o1 p1 o2 p2
  obtain ⟨D, hD⟩ : ∃ D, mtr o1 p1 o2 p2 = D := ⟨_, rfl⟩
  rw [hD] at hm ⊢
  have HB0 := Lib.hid (two_below w (.cells #[.int .i64 c1, .int .i64 s1, .int .i64 o1, .string p1, .string x1, .int .i64 n1, .int .i64 a1, .int .i64 b1] 27) (.cells #[.int .i64 c2, .int .i64 s2, .int .i64 o2, .string p2, .string x2, .int .i64 n2, .int .i64 a2, .int .i64 b2] 27))
  have hz3 : ((w.alloc (.cells #[.int .i64 c1, .int .i64 s1, .int .i64 o1, .string p1, .string x1, .int .i64 n1, .int .i64 a1, .int .i64 b1] 27)).alloc (.cells #[.int .i64 c2, .int .i64 s2, .int .i64 o2, .string p2, .string x2, .int .i64 n2, .int .i64 a2, .int .i64 b2] 27)).heap.size = w.heap.size + 2 := by simp
  have d00 : ((w.alloc (.cells #[.int .i64 c1, .int .i64 s1, .int .i64 o1, .string p1, .string x1, .int .i64 n1, .int .i64 a1, .int .i64 b1] 27)).alloc (.cells #[.int .i64 c2, .int .i64 s2, .int .i64 o2, .string p2, .string x2, .int .i64 n2, .int .i64 a2, .int .i64 b2] 27)).cell? ⟨w.heap.size, 0, none⟩ = some (.int .i64 c1) := (two_cells w _ _ _ _).1 0
  have d01 : ((w.alloc (.cells #[.int .i64 c1, .int .i64 s1, .int .i64 o1, .string p1, .string x1, .int .i64 n1, .int .i64 a1, .int .i64 b1] 27)).alloc (.cells #[.int .i64 c2, .int .i64 s2, .int .i64 o2, .string p2, .string x2, .int .i64 n2, .int .i64 a2, .int .i64 b2] 27)).cell? ⟨w.heap.size, 1, none⟩ = some (.int .i64 s1) := (two_cells w _ _ _ _).1 1
  have d02 : ((w.alloc (.cells #[.int .i64 c1, .int .i64 s1, .int .i64 o1, .string p1, .string x1, .int .i64 n1, .int .i64 a1, .int .i64 b1] 27)).alloc (.cells #[.int .i64 c2, .int .i64 s2, .int .i64 o2, .string p2, .string x2, .int .i64 n2, .int .i64 a2, .int .i64 b2] 27)).cell? ⟨w.heap.size, 2, none⟩ = some (.int .i64 o1) := (two_cells w _ _ _ _).1 2
  have d03 : ((w.alloc (.cells #[.int .i64 c1, .int .i64 s1, .int .i64 o1, .string p1, .string x1, .int .i64 n1, .int .i64 a1, .int .i64 b1] 27)).alloc (.cells #[.int .i64 c2, .int .i64 s2, .int .i64 o2, .string p2, .string x2, .int .i64 n2, .int .i64 a2, .int .i64 b2] 27)).cell? ⟨w.heap.size, 3, none⟩ = some (.string p1) := (two_cells w _ _ _ _).1 3
  have d04 : ((w.alloc (.cells #[.int .i64 c1, .int .i64 s1, .int .i64 o1, .string p1, .string x1, .int .i64 n1, .int .i64 a1, .int .i64 b1] 27)).alloc (.cells #[.int .i64 c2, .int .i64 s2, .int .i64 o2, .string p2, .string x2, .int .i64 n2, .int .i64 a2, .int .i64 b2] 27)).cell? ⟨w.heap.size, 4, none⟩ = some (.string x1) := (two_cells w _ _ _ _).1 4
  have d05 : ((w.alloc (.cells #[.int .i64 c1, .int .i64 s1, .int .i64 o1, .string p1, .string x1, .int .i64 n1, .int .i64 a1, .int .i64 b1] 27)).alloc (.cells #[.int .i64 c2, .int .i64 s2, .int .i64 o2, .string p2, .string x2, .int .i64 n2, .int .i64 a2, .int .i64 b2] 27)).cell? ⟨w.heap.size, 5, none⟩ = some (.int .i64 n1) := (two_cells w _ _ _ _).1 5
  have d06 : ((w.alloc (.cells #[.int .i64 c1, .int .i64 s1, .int .i64 o1, .string p1, .string x1, .int .i64 n1, .int .i64 a1, .int .i64 b1] 27)).alloc (.cells #[.int .i64 c2, .int .i64 s2, .int .i64 o2, .string p2, .string x2, .int .i64 n2, .int .i64 a2, .int .i64 b2] 27)).cell? ⟨w.heap.size, 6, none⟩ = some (.int .i64 a1) := (two_cells w _ _ _ _).1 6
  have d07 : ((w.alloc (.cells #[.int .i64 c1, .int .i64 s1, .int .i64 o1, .string p1, .string x1, .int .i64 n1, .int .i64 a1, .int .i64 b1] 27)).alloc (.cells #[.int .i64 c2, .int .i64 s2, .int .i64 o2, .string p2, .string x2, .int .i64 n2, .int .i64 a2, .int .i64 b2] 27)).cell? ⟨w.heap.size, 7, none⟩ = some (.int .i64 b1) := (two_cells w _ _ _ _).1 7
  have d10 : ((w.alloc (.cells #[.int .i64 c1, .int .i64 s1, .int .i64 o1, .string p1, .string x1, .int .i64 n1, .int .i64 a1, .int .i64 b1] 27)).alloc (.cells #[.int .i64 c2, .int .i64 s2, .int .i64 o2, .string p2, .string x2, .int .i64 n2, .int .i64 a2, .int .i64 b2] 27)).cell? ⟨w.heap.size + 1, 0, none⟩ = some (.int .i64 c2) := (two_cells w _ _ _ _).2 0
  have d11 : ((w.alloc (.cells #[.int .i64 c1, .int .i64 s1, .int .i64 o1, .string p1, .string x1, .int .i64 n1, .int .i64 a1, .int .i64 b1] 27)).alloc (.cells #[.int .i64 c2, .int .i64 s2, .int .i64 o2, .string p2, .string x2, .int .i64 n2, .int .i64 a2, .int .i64 b2] 27)).cell? ⟨w.heap.size + 1, 1, none⟩ = some (.int .i64 s2) := (two_cells w _ _ _ _).2 1
  have d12 : ((w.alloc (.cells #[.int .i64 c1, .int .i64 s1, .int .i64 o1, .string p1, .string x1, .int .i64 n1, .int .i64 a1, .int .i64 b1] 27)).alloc (.cells #[.int .i64 c2, .int .i64 s2, .int .i64 o2, .string p2, .string x2, .int .i64 n2, .int .i64 a2, .int .i64 b2] 27)).cell? ⟨w.heap.size + 1, 2, none⟩ = some (.int .i64 o2) := (two_cells w _ _ _ _).2 2
  have d13 : ((w.alloc (.cells #[.int .i64 c1, .int .i64 s1, .int .i64 o1, .string p1, .string x1, .int .i64 n1, .int .i64 a1, .int .i64 b1] 27)).alloc (.cells #[.int .i64 c2, .int .i64 s2, .int .i64 o2, .string p2, .string x2, .int .i64 n2, .int .i64 a2, .int .i64 b2] 27)).cell? ⟨w.heap.size + 1, 3, none⟩ = some (.string p2) := (two_cells w _ _ _ _).2 3
  have d14 : ((w.alloc (.cells #[.int .i64 c1, .int .i64 s1, .int .i64 o1, .string p1, .string x1, .int .i64 n1, .int .i64 a1, .int .i64 b1] 27)).alloc (.cells #[.int .i64 c2, .int .i64 s2, .int .i64 o2, .string p2, .string x2, .int .i64 n2, .int .i64 a2, .int .i64 b2] 27)).cell? ⟨w.heap.size + 1, 4, none⟩ = some (.string x2) := (two_cells w _ _ _ _).2 4
  have d15 : ((w.alloc (.cells #[.int .i64 c1, .int .i64 s1, .int .i64 o1, .string p1, .string x1, .int .i64 n1, .int .i64 a1, .int .i64 b1] 27)).alloc (.cells #[.int .i64 c2, .int .i64 s2, .int .i64 o2, .string p2, .string x2, .int .i64 n2, .int .i64 a2, .int .i64 b2] 27)).cell? ⟨w.heap.size + 1, 5, none⟩ = some (.int .i64 n2) := (two_cells w _ _ _ _).2 5
  have d16 : ((w.alloc (.cells #[.int .i64 c1, .int .i64 s1, .int .i64 o1, .string p1, .string x1, .int .i64 n1, .int .i64 a1, .int .i64 b1] 27)).alloc (.cells #[.int .i64 c2, .int .i64 s2, .int .i64 o2, .string p2, .string x2, .int .i64 n2, .int .i64 a2, .int .i64 b2] 27)).cell? ⟨w.heap.size + 1, 6, none⟩ = some (.int .i64 a2) := (two_cells w _ _ _ _).2 6
  have d17 : ((w.alloc (.cells #[.int .i64 c1, .int .i64 s1, .int .i64 o1, .string p1, .string x1, .int .i64 n1, .int .i64 a1, .int .i64 b1] 27)).alloc (.cells #[.int .i64 c2, .int .i64 s2, .int .i64 o2, .string p2, .string x2, .int .i64 n2, .int .i64 a2, .int .i64 b2] 27)).cell? ⟨w.heap.size + 1, 7, none⟩ = some (.int .i64 b2) := (two_cells w _ _ _ _).2 7
  go_enter Tryz.func38, Tryz.ntmps38
  go_wp2_with fail
  generalize ((w.alloc (.cells #[.int .i64 c1, .int .i64 s1, .int .i64 o1, .string p1, .string x1, .int .i64 n1, .int .i64 a1, .int .i64 b1] 27)).alloc (.cells #[.int .i64 c2, .int .i64 s2, .int .i64 o2, .string p2, .string x2, .int .i64 n2, .int .i64 a2, .int .i64 b2] 27)) = X0 at *
  refine (rcells_any c1 s1 o1 p1 x1 n1 a1 b1 X0 h1).mono ?_
  rintro e w1 ⟨v1, v2, he, r1, r2, hb⟩
  rw [he.out]
  replace d00 := (hb.cell (p := ⟨w.heap.size, 0, none⟩) (by dsimp only; omega)).trans d00
  replace d01 := (hb.cell (p := ⟨w.heap.size, 1, none⟩) (by dsimp only; omega)).trans d01
  replace d02 := (hb.cell (p := ⟨w.heap.size, 2, none⟩) (by dsimp only; omega)).trans d02
  replace d03 := (hb.cell (p := ⟨w.heap.size, 3, none⟩) (by dsimp only; omega)).trans d03
  replace d04 := (hb.cell (p := ⟨w.heap.size, 4, none⟩) (by dsimp only; omega)).trans d04
  replace d05 := (hb.cell (p := ⟨w.heap.size, 5, none⟩) (by dsimp only; omega)).trans d05
  replace d06 := (hb.cell (p := ⟨w.heap.size, 6, none⟩) (by dsimp only; omega)).trans d06
  replace d07 := (hb.cell (p := ⟨w.heap.size, 7, none⟩) (by dsimp only; omega)).trans d07
  replace d10 := (hb.cell (p := ⟨w.heap.size + 1, 0, none⟩) (by dsimp only; omega)).trans d10
  replace d11 := (hb.cell (p := ⟨w.heap.size + 1, 1, none⟩) (by dsimp only; omega)).trans d11
  replace d12 := (hb.cell (p := ⟨w.heap.size + 1, 2, none⟩) (by dsimp only; omega)).trans d12
  replace d13 := (hb.cell (p := ⟨w.heap.size + 1, 3, none⟩) (by dsimp only; omega)).trans d13
  replace d14 := (hb.cell (p := ⟨w.heap.size + 1, 4, none⟩) (by dsimp only; omega)).trans d14
  replace d15 := (hb.cell (p := ⟨w.heap.size + 1, 5, none⟩) (by dsimp only; omega)).trans d15
  replace d16 := (hb.cell (p := ⟨w.heap.size + 1, 6, none⟩) (by dsimp only; omega)).trans d16
  replace d17 := (hb.cell (p := ⟨w.heap.size + 1, 7, none⟩) (by dsimp only; omega)).trans d17
  have HB1 := Lib.hid (HB0.out.trans (hb.mono (by omega)))
  have hs1 := hb.size
  have R1 := Lib.hid r1
  have R2 := Lib.hid r2
  clear he r1 r2 hb
  go_wp2_with fail
  refine (rcells_any c2 s2 o2 p2 x2 n2 a2 b2 w1 h2).mono ?_
  rintro e w2 ⟨v3, v4, he, r3, r4, hb⟩
  rw [he.out]
  have HB2 := Lib.hid (HB1.out.trans (hb.mono (by omega)))
  have S1 := Lib.hid (R1.out.below hb)
  have S2 := Lib.hid (R2.out.below hb)
  have S3 := Lib.hid r3
  have S4 := Lib.hid r4
  have l1 : Hid ((rds o1 p1).length ≤ 100) := Lib.hid (by have := rds_len o1 p1; omega)
  have l2 : Hid ((wrs o1 p1).length ≤ 100) := Lib.hid (by have := wrs_len o1 p1; omega)
  have l3 : Hid ((rds o2 p2).length ≤ 100) := Lib.hid (by have := rds_len o2 p2; omega)
  have l4 : Hid ((wrs o2 p2).length ≤ 100) := Lib.hid (by have := wrs_len o2 p2; omega)
  have HM := Lib.hid hm
  clear he r3 r4 hb hm hD R1 R2 d00 d01 d02 d03 d04 d05 d06 d07 d10 d11 d12 d13 d14 d15 d16 d17 hs1 hz3
  go_wp2_with fail
  cases e1 : meetC (wrs o1 p1) (rds o2 p2) with
  | true =>
    have hc := rmeet_any v2 v3 _ _ w2 S2.out S3.out l2.out l3.out
    rw [e1] at hc
    refine hc.mono ?_
    rintro e w3 ⟨rfl, hb⟩
    have HB3 := Lib.hid (HB2.out.trans (hb.mono HB2.out.size))
    have HD : Hid (D = true) := Lib.hid (by rw [← HM.out, e1]; rfl)
    clear hc hb e1
    go_wp2
    go_ret
    exact ⟨ret_bool (by rw [HD.out]), HB3.out⟩
  | false =>
    have hc := rmeet_any v2 v3 _ _ w2 S2.out S3.out l2.out l3.out
    rw [e1] at hc
    refine hc.mono ?_
    rintro e w3 ⟨rfl, hb⟩
    have HB3 := Lib.hid (HB2.out.trans (hb.mono HB2.out.size))
    have T3 := Lib.hid hb
    have HM2 : Hid ((meetC (wrs o1 p1) (wrs o2 p2) || meetC (wrs o2 p2) (rds o1 p1)) = D) := Lib.hid (by rw [← HM.out, e1]; rfl)
    clear hc hb e1
    go_wp2_with fail
    cases e2 : meetC (wrs o1 p1) (wrs o2 p2) with
    | true =>
      have hc := rmeet_any v2 v4 _ _ w3 (S2.out.below T3.out) (S4.out.below T3.out) l2.out l4.out
      rw [e2] at hc
      refine hc.mono ?_
      rintro e w4 ⟨rfl, hb⟩
      have HB4 := Lib.hid (HB3.out.trans (hb.mono HB3.out.size))
      have HD : Hid (D = true) := Lib.hid (by rw [← HM2.out, e2]; rfl)
      clear hc hb e2
      go_wp2
      go_ret
      exact ⟨ret_bool (by rw [HD.out]), HB4.out⟩
    | false =>
      have hc := rmeet_any v2 v4 _ _ w3 (S2.out.below T3.out) (S4.out.below T3.out) l2.out l4.out
      rw [e2] at hc
      refine hc.mono ?_
      rintro e w4 ⟨rfl, hb⟩
      have HB4 := Lib.hid (HB3.out.trans (hb.mono HB3.out.size))
      have T4 := Lib.hid hb
      have HM3 : Hid (meetC (wrs o2 p2) (rds o1 p1) = D) := Lib.hid (by rw [← HM2.out, e2]; rfl)
      clear hc hb e2
      go_wp2_with fail
      have hc := rmeet_any v4 v1 _ _ w4 ((S4.out.below T3.out).below T4.out) ((S1.out.below T3.out).below T4.out) l4.out l1.out
      rw [HM3.out] at hc
      refine hc.mono ?_
      rintro e w5 ⟨rfl, hb⟩
      have HB5 := Lib.hid (HB4.out.trans (hb.mono HB4.out.size))
      clear hc hb
      go_wp2
      go_ret
      exact ⟨rfl, HB5.out⟩
set_option maxRecDepth 100000 in
set_option maxHeartbeats 4000000 in
theorem rb_z1 (c1 s1 o1 : Int) (p1 x1 : ByteArray) (n1 a1 b1 : Int) (c2 s2 o2 : Int) (p2 x2 : ByteArray) (n2 a2 b2 : Int) (w : World) (h1 : p1.size ≤ 1000) (h2 : p2.size ≤ 1000) (z1 : (o1 == 0) = true) :
    Calls Tryz.prog 22 #[.agg #[.int .i64 c1, .int .i64 s1, .int .i64 o1, .string p1, .string x1, .int .i64 n1, .int .i64 a1, .int .i64 b1], .agg #[.int .i64 c2, .int .i64 s2, .int .i64 o2, .string p2, .string x2, .int .i64 n2, .int .i64 a2, .int .i64 b2]] w fun e w' => e = .returned (.bool false) ∧ Below w.heap.size w w' := by
  have HB0 := Lib.hid (two_below w (.cells #[.int .i64 c1, .int .i64 s1, .int .i64 o1, .string p1, .string x1, .int .i64 n1, .int .i64 a1, .int .i64 b1] 27) (.cells #[.int .i64 c2, .int .i64 s2, .int .i64 o2, .string p2, .string x2, .int .i64 n2, .int .i64 a2, .int .i64 b2] 27))
  have hz3 : ((w.alloc (.cells #[.int .i64 c1, .int .i64 s1, .int .i64 o1, .string p1, .string x1, .int .i64 n1, .int .i64 a1, .int .i64 b1] 27)).alloc (.cells #[.int .i64 c2, .int .i64 s2, .int .i64 o2, .string p2, .string x2, .int .i64 n2, .int .i64 a2, .int .i64 b2] 27)).heap.size = w.heap.size + 2 := by simp
  have d00 : ((w.alloc (.cells #[.int .i64 c1, .int .i64 s1, .int .i64 o1, .string p1, .string x1, .int .i64 n1, .int .i64 a1, .int .i64 b1] 27)).alloc (.cells #[.int .i64 c2, .int .i64 s2, .int .i64 o2, .string p2, .string x2, .int .i64 n2, .int .i64 a2, .int .i64 b2] 27)).cell? ⟨w.heap.size, 0, none⟩ = some (.int .i64 c1) := (two_cells w _ _ _ _).1 0
  have d01 : ((w.alloc (.cells #[.int .i64 c1, .int .i64 s1, .int .i64 o1, .string p1, .string x1, .int .i64 n1, .int .i64 a1, .int .i64 b1] 27)).alloc (.cells #[.int .i64 c2, .int .i64 s2, .int .i64 o2, .string p2, .string x2, .int .i64 n2, .int .i64 a2, .int .i64 b2] 27)).cell? ⟨w.heap.size, 1, none⟩ = some (.int .i64 s1) := (two_cells w _ _ _ _).1 1
  have d02 : ((w.alloc (.cells #[.int .i64 c1, .int .i64 s1, .int .i64 o1, .string p1, .string x1, .int .i64 n1, .int .i64 a1, .int .i64 b1] 27)).alloc (.cells #[.int .i64 c2, .int .i64 s2, .int .i64 o2, .string p2, .string x2, .int .i64 n2, .int .i64 a2, .int .i64 b2] 27)).cell? ⟨w.heap.size, 2, none⟩ = some (.int .i64 o1) := (two_cells w _ _ _ _).1 2
  have d03 : ((w.alloc (.cells #[.int .i64 c1, .int .i64 s1, .int .i64 o1, .string p1, .string x1, .int .i64 n1, .int .i64 a1, .int .i64 b1] 27)).alloc (.cells #[.int .i64 c2, .int .i64 s2, .int .i64 o2, .string p2, .string x2, .int .i64 n2, .int .i64 a2, .int .i64 b2] 27)).cell? ⟨w.heap.size, 3, none⟩ = some (.string p1) := (two_cells w _ _ _ _).1 3
  have d04 : ((w.alloc (.cells #[.int .i64 c1, .int .i64 s1, .int .i64 o1, .string p1, .string x1, .int .i64 n1, .int .i64 a1, .int .i64 b1] 27)).alloc (.cells #[.int .i64 c2, .int .i64 s2, .int .i64 o2, .string p2, .string x2, .int .i64 n2, .int .i64 a2, .int .i64 b2] 27)).cell? ⟨w.heap.size, 4, none⟩ = some (.string x1) := (two_cells w _ _ _ _).1 4
  have d05 : ((w.alloc (.cells #[.int .i64 c1, .int .i64 s1, .int .i64 o1, .string p1, .string x1, .int .i64 n1, .int .i64 a1, .int .i64 b1] 27)).alloc (.cells #[.int .i64 c2, .int .i64 s2, .int .i64 o2, .string p2, .string x2, .int .i64 n2, .int .i64 a2, .int .i64 b2] 27)).cell? ⟨w.heap.size, 5, none⟩ = some (.int .i64 n1) := (two_cells w _ _ _ _).1 5
  have d06 : ((w.alloc (.cells #[.int .i64 c1, .int .i64 s1, .int .i64 o1, .string p1, .string x1, .int .i64 n1, .int .i64 a1, .int .i64 b1] 27)).alloc (.cells #[.int .i64 c2, .int .i64 s2, .int .i64 o2, .string p2, .string x2, .int .i64 n2, .int .i64 a2, .int .i64 b2] 27)).cell? ⟨w.heap.size, 6, none⟩ = some (.int .i64 a1) := (two_cells w _ _ _ _).1 6
  have d07 : ((w.alloc (.cells #[.int .i64 c1, .int .i64 s1, .int .i64 o1, .string p1, .string x1, .int .i64 n1, .int .i64 a1, .int .i64 b1] 27)).alloc (.cells #[.int .i64 c2, .int .i64 s2, .int .i64 o2, .string p2, .string x2, .int .i64 n2, .int .i64 a2, .int .i64 b2] 27)).cell? ⟨w.heap.size, 7, none⟩ = some (.int .i64 b1) := (two_cells w _ _ _ _).1 7
  have d10 : ((w.alloc (.cells #[.int .i64 c1, .int .i64 s1, .int .i64 o1, .string p1, .string x1, .int .i64 n1, .int .i64 a1, .int .i64 b1] 27)).alloc (.cells #[.int .i64 c2, .int .i64 s2, .int .i64 o2, .string p2, .string x2, .int .i64 n2, .int .i64 a2, .int .i64 b2] 27)).cell? ⟨w.heap.size + 1, 0, none⟩ = some (.int .i64 c2) := (two_cells w _ _ _ _).2 0
  have d11 : ((w.alloc (.cells #[.int .i64 c1, .int .i64 s1, .int .i64 o1, .string p1, .string x1, .int .i64 n1, .int .i64 a1, .int .i64 b1] 27)).alloc (.cells #[.int .i64 c2, .int .i64 s2, .int .i64 o2, .string p2, .string x2, .int .i64 n2, .int .i64 a2, .int .i64 b2] 27)).cell? ⟨w.heap.size + 1, 1, none⟩ = some (.int .i64 s2) := (two_cells w _ _ _ _).2 1
  have d12 : ((w.alloc (.cells #[.int .i64 c1, .int .i64 s1, .int .i64 o1, .string p1, .string x1, .int .i64 n1, .int .i64 a1, .int .i64 b1] 27)).alloc (.cells #[.int .i64 c2, .int .i64 s2, .int .i64 o2, .string p2, .string x2, .int .i64 n2, .int .i64 a2, .int .i64 b2] 27)).cell? ⟨w.heap.size + 1, 2, none⟩ = some (.int .i64 o2) := (two_cells w _ _ _ _).2 2
  have d13 : ((w.alloc (.cells #[.int .i64 c1, .int .i64 s1, .int .i64 o1, .string p1, .string x1, .int .i64 n1, .int .i64 a1, .int .i64 b1] 27)).alloc (.cells #[.int .i64 c2, .int .i64 s2, .int .i64 o2, .string p2, .string x2, .int .i64 n2, .int .i64 a2, .int .i64 b2] 27)).cell? ⟨w.heap.size + 1, 3, none⟩ = some (.string p2) := (two_cells w _ _ _ _).2 3
  have d14 : ((w.alloc (.cells #[.int .i64 c1, .int .i64 s1, .int .i64 o1, .string p1, .string x1, .int .i64 n1, .int .i64 a1, .int .i64 b1] 27)).alloc (.cells #[.int .i64 c2, .int .i64 s2, .int .i64 o2, .string p2, .string x2, .int .i64 n2, .int .i64 a2, .int .i64 b2] 27)).cell? ⟨w.heap.size + 1, 4, none⟩ = some (.string x2) := (two_cells w _ _ _ _).2 4
  have d15 : ((w.alloc (.cells #[.int .i64 c1, .int .i64 s1, .int .i64 o1, .string p1, .string x1, .int .i64 n1, .int .i64 a1, .int .i64 b1] 27)).alloc (.cells #[.int .i64 c2, .int .i64 s2, .int .i64 o2, .string p2, .string x2, .int .i64 n2, .int .i64 a2, .int .i64 b2] 27)).cell? ⟨w.heap.size + 1, 5, none⟩ = some (.int .i64 n2) := (two_cells w _ _ _ _).2 5
  have d16 : ((w.alloc (.cells #[.int .i64 c1, .int .i64 s1, .int .i64 o1, .string p1, .string x1, .int .i64 n1, .int .i64 a1, .int .i64 b1] 27)).alloc (.cells #[.int .i64 c2, .int .i64 s2, .int .i64 o2, .string p2, .string x2, .int .i64 n2, .int .i64 a2, .int .i64 b2] 27)).cell? ⟨w.heap.size + 1, 6, none⟩ = some (.int .i64 a2) := (two_cells w _ _ _ _).2 6
  have d17 : ((w.alloc (.cells #[.int .i64 c1, .int .i64 s1, .int .i64 o1, .string p1, .string x1, .int .i64 n1, .int .i64 a1, .int .i64 b1] 27)).alloc (.cells #[.int .i64 c2, .int .i64 s2, .int .i64 o2, .string p2, .string x2, .int .i64 n2, .int .i64 a2, .int .i64 b2] 27)).cell? ⟨w.heap.size + 1, 7, none⟩ = some (.int .i64 b2) := (two_cells w _ _ _ _).2 7
  go_enter Tryz.func22, Tryz.ntmps22
  go_wp2
  go_ret
  exact ⟨rfl, HB0.out⟩
set_option maxRecDepth 100000 in
set_option maxHeartbeats 4000000 in
theorem rb_z2 (c1 s1 o1 : Int) (p1 x1 : ByteArray) (n1 a1 b1 : Int) (c2 s2 o2 : Int) (p2 x2 : ByteArray) (n2 a2 b2 : Int) (w : World) (h1 : p1.size ≤ 1000) (h2 : p2.size ≤ 1000) (z1 : (o1 == 0) = false) (z2 : (o2 == 0) = true) :
    Calls Tryz.prog 22 #[.agg #[.int .i64 c1, .int .i64 s1, .int .i64 o1, .string p1, .string x1, .int .i64 n1, .int .i64 a1, .int .i64 b1], .agg #[.int .i64 c2, .int .i64 s2, .int .i64 o2, .string p2, .string x2, .int .i64 n2, .int .i64 a2, .int .i64 b2]] w fun e w' => e = .returned (.bool false) ∧ Below w.heap.size w w' := by
  have HB0 := Lib.hid (two_below w (.cells #[.int .i64 c1, .int .i64 s1, .int .i64 o1, .string p1, .string x1, .int .i64 n1, .int .i64 a1, .int .i64 b1] 27) (.cells #[.int .i64 c2, .int .i64 s2, .int .i64 o2, .string p2, .string x2, .int .i64 n2, .int .i64 a2, .int .i64 b2] 27))
  have hz3 : ((w.alloc (.cells #[.int .i64 c1, .int .i64 s1, .int .i64 o1, .string p1, .string x1, .int .i64 n1, .int .i64 a1, .int .i64 b1] 27)).alloc (.cells #[.int .i64 c2, .int .i64 s2, .int .i64 o2, .string p2, .string x2, .int .i64 n2, .int .i64 a2, .int .i64 b2] 27)).heap.size = w.heap.size + 2 := by simp
  have d00 : ((w.alloc (.cells #[.int .i64 c1, .int .i64 s1, .int .i64 o1, .string p1, .string x1, .int .i64 n1, .int .i64 a1, .int .i64 b1] 27)).alloc (.cells #[.int .i64 c2, .int .i64 s2, .int .i64 o2, .string p2, .string x2, .int .i64 n2, .int .i64 a2, .int .i64 b2] 27)).cell? ⟨w.heap.size, 0, none⟩ = some (.int .i64 c1) := (two_cells w _ _ _ _).1 0
  have d01 : ((w.alloc (.cells #[.int .i64 c1, .int .i64 s1, .int .i64 o1, .string p1, .string x1, .int .i64 n1, .int .i64 a1, .int .i64 b1] 27)).alloc (.cells #[.int .i64 c2, .int .i64 s2, .int .i64 o2, .string p2, .string x2, .int .i64 n2, .int .i64 a2, .int .i64 b2] 27)).cell? ⟨w.heap.size, 1, none⟩ = some (.int .i64 s1) := (two_cells w _ _ _ _).1 1
  have d02 : ((w.alloc (.cells #[.int .i64 c1, .int .i64 s1, .int .i64 o1, .string p1, .string x1, .int .i64 n1, .int .i64 a1, .int .i64 b1] 27)).alloc (.cells #[.int .i64 c2, .int .i64 s2, .int .i64 o2, .string p2, .string x2, .int .i64 n2, .int .i64 a2, .int .i64 b2] 27)).cell? ⟨w.heap.size, 2, none⟩ = some (.int .i64 o1) := (two_cells w _ _ _ _).1 2
  have d03 : ((w.alloc (.cells #[.int .i64 c1, .int .i64 s1, .int .i64 o1, .string p1, .string x1, .int .i64 n1, .int .i64 a1, .int .i64 b1] 27)).alloc (.cells #[.int .i64 c2, .int .i64 s2, .int .i64 o2, .string p2, .string x2, .int .i64 n2, .int .i64 a2, .int .i64 b2] 27)).cell? ⟨w.heap.size, 3, none⟩ = some (.string p1) := (two_cells w _ _ _ _).1 3
  have d04 : ((w.alloc (.cells #[.int .i64 c1, .int .i64 s1, .int .i64 o1, .string p1, .string x1, .int .i64 n1, .int .i64 a1, .int .i64 b1] 27)).alloc (.cells #[.int .i64 c2, .int .i64 s2, .int .i64 o2, .string p2, .string x2, .int .i64 n2, .int .i64 a2, .int .i64 b2] 27)).cell? ⟨w.heap.size, 4, none⟩ = some (.string x1) := (two_cells w _ _ _ _).1 4
  have d05 : ((w.alloc (.cells #[.int .i64 c1, .int .i64 s1, .int .i64 o1, .string p1, .string x1, .int .i64 n1, .int .i64 a1, .int .i64 b1] 27)).alloc (.cells #[.int .i64 c2, .int .i64 s2, .int .i64 o2, .string p2, .string x2, .int .i64 n2, .int .i64 a2, .int .i64 b2] 27)).cell? ⟨w.heap.size, 5, none⟩ = some (.int .i64 n1) := (two_cells w _ _ _ _).1 5
  have d06 : ((w.alloc (.cells #[.int .i64 c1, .int .i64 s1, .int .i64 o1, .string p1, .string x1, .int .i64 n1, .int .i64 a1, .int .i64 b1] 27)).alloc (.cells #[.int .i64 c2, .int .i64 s2, .int .i64 o2, .string p2, .string x2, .int .i64 n2, .int .i64 a2, .int .i64 b2] 27)).cell? ⟨w.heap.size, 6, none⟩ = some (.int .i64 a1) := (two_cells w _ _ _ _).1 6
  have d07 : ((w.alloc (.cells #[.int .i64 c1, .int .i64 s1, .int .i64 o1, .string p1, .string x1, .int .i64 n1, .int .i64 a1, .int .i64 b1] 27)).alloc (.cells #[.int .i64 c2, .int .i64 s2, .int .i64 o2, .string p2, .string x2, .int .i64 n2, .int .i64 a2, .int .i64 b2] 27)).cell? ⟨w.heap.size, 7, none⟩ = some (.int .i64 b1) := (two_cells w _ _ _ _).1 7
  have d10 : ((w.alloc (.cells #[.int .i64 c1, .int .i64 s1, .int .i64 o1, .string p1, .string x1, .int .i64 n1, .int .i64 a1, .int .i64 b1] 27)).alloc (.cells #[.int .i64 c2, .int .i64 s2, .int .i64 o2, .string p2, .string x2, .int .i64 n2, .int .i64 a2, .int .i64 b2] 27)).cell? ⟨w.heap.size + 1, 0, none⟩ = some (.int .i64 c2) := (two_cells w _ _ _ _).2 0
  have d11 : ((w.alloc (.cells #[.int .i64 c1, .int .i64 s1, .int .i64 o1, .string p1, .string x1, .int .i64 n1, .int .i64 a1, .int .i64 b1] 27)).alloc (.cells #[.int .i64 c2, .int .i64 s2, .int .i64 o2, .string p2, .string x2, .int .i64 n2, .int .i64 a2, .int .i64 b2] 27)).cell? ⟨w.heap.size + 1, 1, none⟩ = some (.int .i64 s2) := (two_cells w _ _ _ _).2 1
  have d12 : ((w.alloc (.cells #[.int .i64 c1, .int .i64 s1, .int .i64 o1, .string p1, .string x1, .int .i64 n1, .int .i64 a1, .int .i64 b1] 27)).alloc (.cells #[.int .i64 c2, .int .i64 s2, .int .i64 o2, .string p2, .string x2, .int .i64 n2, .int .i64 a2, .int .i64 b2] 27)).cell? ⟨w.heap.size + 1, 2, none⟩ = some (.int .i64 o2) := (two_cells w _ _ _ _).2 2
  have d13 : ((w.alloc (.cells #[.int .i64 c1, .int .i64 s1, .int .i64 o1, .string p1, .string x1, .int .i64 n1, .int .i64 a1, .int .i64 b1] 27)).alloc (.cells #[.int .i64 c2, .int .i64 s2, .int .i64 o2, .string p2, .string x2, .int .i64 n2, .int .i64 a2, .int .i64 b2] 27)).cell? ⟨w.heap.size + 1, 3, none⟩ = some (.string p2) := (two_cells w _ _ _ _).2 3
  have d14 : ((w.alloc (.cells #[.int .i64 c1, .int .i64 s1, .int .i64 o1, .string p1, .string x1, .int .i64 n1, .int .i64 a1, .int .i64 b1] 27)).alloc (.cells #[.int .i64 c2, .int .i64 s2, .int .i64 o2, .string p2, .string x2, .int .i64 n2, .int .i64 a2, .int .i64 b2] 27)).cell? ⟨w.heap.size + 1, 4, none⟩ = some (.string x2) := (two_cells w _ _ _ _).2 4
  have d15 : ((w.alloc (.cells #[.int .i64 c1, .int .i64 s1, .int .i64 o1, .string p1, .string x1, .int .i64 n1, .int .i64 a1, .int .i64 b1] 27)).alloc (.cells #[.int .i64 c2, .int .i64 s2, .int .i64 o2, .string p2, .string x2, .int .i64 n2, .int .i64 a2, .int .i64 b2] 27)).cell? ⟨w.heap.size + 1, 5, none⟩ = some (.int .i64 n2) := (two_cells w _ _ _ _).2 5
  have d16 : ((w.alloc (.cells #[.int .i64 c1, .int .i64 s1, .int .i64 o1, .string p1, .string x1, .int .i64 n1, .int .i64 a1, .int .i64 b1] 27)).alloc (.cells #[.int .i64 c2, .int .i64 s2, .int .i64 o2, .string p2, .string x2, .int .i64 n2, .int .i64 a2, .int .i64 b2] 27)).cell? ⟨w.heap.size + 1, 6, none⟩ = some (.int .i64 a2) := (two_cells w _ _ _ _).2 6
  have d17 : ((w.alloc (.cells #[.int .i64 c1, .int .i64 s1, .int .i64 o1, .string p1, .string x1, .int .i64 n1, .int .i64 a1, .int .i64 b1] 27)).alloc (.cells #[.int .i64 c2, .int .i64 s2, .int .i64 o2, .string p2, .string x2, .int .i64 n2, .int .i64 a2, .int .i64 b2] 27)).cell? ⟨w.heap.size + 1, 7, none⟩ = some (.int .i64 b2) := (two_cells w _ _ _ _).2 7
  go_enter Tryz.func22, Tryz.ntmps22
  go_wp2
  go_ret
  exact ⟨rfl, HB0.out⟩
set_option maxRecDepth 100000 in
set_option maxHeartbeats 4000000 in
theorem rb_c1 (c1 s1 o1 : Int) (p1 x1 : ByteArray) (n1 a1 b1 : Int) (c2 s2 o2 : Int) (p2 x2 : ByteArray) (n2 a2 b2 : Int) (w : World) (h1 : p1.size ≤ 1000) (h2 : p2.size ≤ 1000) (z1 : (o1 == 0) = false) (z2 : (o2 == 0) = false) (k1 : ctl o1 = true) :
    Calls Tryz.prog 22 #[.agg #[.int .i64 c1, .int .i64 s1, .int .i64 o1, .string p1, .string x1, .int .i64 n1, .int .i64 a1, .int .i64 b1], .agg #[.int .i64 c2, .int .i64 s2, .int .i64 o2, .string p2, .string x2, .int .i64 n2, .int .i64 a2, .int .i64 b2]] w fun e w' => e = .returned (.bool true) ∧ Below w.heap.size w w' := by
  have HB0 := Lib.hid (two_below w (.cells #[.int .i64 c1, .int .i64 s1, .int .i64 o1, .string p1, .string x1, .int .i64 n1, .int .i64 a1, .int .i64 b1] 27) (.cells #[.int .i64 c2, .int .i64 s2, .int .i64 o2, .string p2, .string x2, .int .i64 n2, .int .i64 a2, .int .i64 b2] 27))
  have hz3 : ((w.alloc (.cells #[.int .i64 c1, .int .i64 s1, .int .i64 o1, .string p1, .string x1, .int .i64 n1, .int .i64 a1, .int .i64 b1] 27)).alloc (.cells #[.int .i64 c2, .int .i64 s2, .int .i64 o2, .string p2, .string x2, .int .i64 n2, .int .i64 a2, .int .i64 b2] 27)).heap.size = w.heap.size + 2 := by simp
  have d00 : ((w.alloc (.cells #[.int .i64 c1, .int .i64 s1, .int .i64 o1, .string p1, .string x1, .int .i64 n1, .int .i64 a1, .int .i64 b1] 27)).alloc (.cells #[.int .i64 c2, .int .i64 s2, .int .i64 o2, .string p2, .string x2, .int .i64 n2, .int .i64 a2, .int .i64 b2] 27)).cell? ⟨w.heap.size, 0, none⟩ = some (.int .i64 c1) := (two_cells w _ _ _ _).1 0
  have d01 : ((w.alloc (.cells #[.int .i64 c1, .int .i64 s1, .int .i64 o1, .string p1, .string x1, .int .i64 n1, .int .i64 a1, .int .i64 b1] 27)).alloc (.cells #[.int .i64 c2, .int .i64 s2, .int .i64 o2, .string p2, .string x2, .int .i64 n2, .int .i64 a2, .int .i64 b2] 27)).cell? ⟨w.heap.size, 1, none⟩ = some (.int .i64 s1) := (two_cells w _ _ _ _).1 1
  have d02 : ((w.alloc (.cells #[.int .i64 c1, .int .i64 s1, .int .i64 o1, .string p1, .string x1, .int .i64 n1, .int .i64 a1, .int .i64 b1] 27)).alloc (.cells #[.int .i64 c2, .int .i64 s2, .int .i64 o2, .string p2, .string x2, .int .i64 n2, .int .i64 a2, .int .i64 b2] 27)).cell? ⟨w.heap.size, 2, none⟩ = some (.int .i64 o1) := (two_cells w _ _ _ _).1 2
  have d03 : ((w.alloc (.cells #[.int .i64 c1, .int .i64 s1, .int .i64 o1, .string p1, .string x1, .int .i64 n1, .int .i64 a1, .int .i64 b1] 27)).alloc (.cells #[.int .i64 c2, .int .i64 s2, .int .i64 o2, .string p2, .string x2, .int .i64 n2, .int .i64 a2, .int .i64 b2] 27)).cell? ⟨w.heap.size, 3, none⟩ = some (.string p1) := (two_cells w _ _ _ _).1 3
  have d04 : ((w.alloc (.cells #[.int .i64 c1, .int .i64 s1, .int .i64 o1, .string p1, .string x1, .int .i64 n1, .int .i64 a1, .int .i64 b1] 27)).alloc (.cells #[.int .i64 c2, .int .i64 s2, .int .i64 o2, .string p2, .string x2, .int .i64 n2, .int .i64 a2, .int .i64 b2] 27)).cell? ⟨w.heap.size, 4, none⟩ = some (.string x1) := (two_cells w _ _ _ _).1 4
  have d05 : ((w.alloc (.cells #[.int .i64 c1, .int .i64 s1, .int .i64 o1, .string p1, .string x1, .int .i64 n1, .int .i64 a1, .int .i64 b1] 27)).alloc (.cells #[.int .i64 c2, .int .i64 s2, .int .i64 o2, .string p2, .string x2, .int .i64 n2, .int .i64 a2, .int .i64 b2] 27)).cell? ⟨w.heap.size, 5, none⟩ = some (.int .i64 n1) := (two_cells w _ _ _ _).1 5
  have d06 : ((w.alloc (.cells #[.int .i64 c1, .int .i64 s1, .int .i64 o1, .string p1, .string x1, .int .i64 n1, .int .i64 a1, .int .i64 b1] 27)).alloc (.cells #[.int .i64 c2, .int .i64 s2, .int .i64 o2, .string p2, .string x2, .int .i64 n2, .int .i64 a2, .int .i64 b2] 27)).cell? ⟨w.heap.size, 6, none⟩ = some (.int .i64 a1) := (two_cells w _ _ _ _).1 6
  have d07 : ((w.alloc (.cells #[.int .i64 c1, .int .i64 s1, .int .i64 o1, .string p1, .string x1, .int .i64 n1, .int .i64 a1, .int .i64 b1] 27)).alloc (.cells #[.int .i64 c2, .int .i64 s2, .int .i64 o2, .string p2, .string x2, .int .i64 n2, .int .i64 a2, .int .i64 b2] 27)).cell? ⟨w.heap.size, 7, none⟩ = some (.int .i64 b1) := (two_cells w _ _ _ _).1 7
  have d10 : ((w.alloc (.cells #[.int .i64 c1, .int .i64 s1, .int .i64 o1, .string p1, .string x1, .int .i64 n1, .int .i64 a1, .int .i64 b1] 27)).alloc (.cells #[.int .i64 c2, .int .i64 s2, .int .i64 o2, .string p2, .string x2, .int .i64 n2, .int .i64 a2, .int .i64 b2] 27)).cell? ⟨w.heap.size + 1, 0, none⟩ = some (.int .i64 c2) := (two_cells w _ _ _ _).2 0
  have d11 : ((w.alloc (.cells #[.int .i64 c1, .int .i64 s1, .int .i64 o1, .string p1, .string x1, .int .i64 n1, .int .i64 a1, .int .i64 b1] 27)).alloc (.cells #[.int .i64 c2, .int .i64 s2, .int .i64 o2, .string p2, .string x2, .int .i64 n2, .int .i64 a2, .int .i64 b2] 27)).cell? ⟨w.heap.size + 1, 1, none⟩ = some (.int .i64 s2) := (two_cells w _ _ _ _).2 1
  have d12 : ((w.alloc (.cells #[.int .i64 c1, .int .i64 s1, .int .i64 o1, .string p1, .string x1, .int .i64 n1, .int .i64 a1, .int .i64 b1] 27)).alloc (.cells #[.int .i64 c2, .int .i64 s2, .int .i64 o2, .string p2, .string x2, .int .i64 n2, .int .i64 a2, .int .i64 b2] 27)).cell? ⟨w.heap.size + 1, 2, none⟩ = some (.int .i64 o2) := (two_cells w _ _ _ _).2 2
  have d13 : ((w.alloc (.cells #[.int .i64 c1, .int .i64 s1, .int .i64 o1, .string p1, .string x1, .int .i64 n1, .int .i64 a1, .int .i64 b1] 27)).alloc (.cells #[.int .i64 c2, .int .i64 s2, .int .i64 o2, .string p2, .string x2, .int .i64 n2, .int .i64 a2, .int .i64 b2] 27)).cell? ⟨w.heap.size + 1, 3, none⟩ = some (.string p2) := (two_cells w _ _ _ _).2 3
  have d14 : ((w.alloc (.cells #[.int .i64 c1, .int .i64 s1, .int .i64 o1, .string p1, .string x1, .int .i64 n1, .int .i64 a1, .int .i64 b1] 27)).alloc (.cells #[.int .i64 c2, .int .i64 s2, .int .i64 o2, .string p2, .string x2, .int .i64 n2, .int .i64 a2, .int .i64 b2] 27)).cell? ⟨w.heap.size + 1, 4, none⟩ = some (.string x2) := (two_cells w _ _ _ _).2 4
  have d15 : ((w.alloc (.cells #[.int .i64 c1, .int .i64 s1, .int .i64 o1, .string p1, .string x1, .int .i64 n1, .int .i64 a1, .int .i64 b1] 27)).alloc (.cells #[.int .i64 c2, .int .i64 s2, .int .i64 o2, .string p2, .string x2, .int .i64 n2, .int .i64 a2, .int .i64 b2] 27)).cell? ⟨w.heap.size + 1, 5, none⟩ = some (.int .i64 n2) := (two_cells w _ _ _ _).2 5
  have d16 : ((w.alloc (.cells #[.int .i64 c1, .int .i64 s1, .int .i64 o1, .string p1, .string x1, .int .i64 n1, .int .i64 a1, .int .i64 b1] 27)).alloc (.cells #[.int .i64 c2, .int .i64 s2, .int .i64 o2, .string p2, .string x2, .int .i64 n2, .int .i64 a2, .int .i64 b2] 27)).cell? ⟨w.heap.size + 1, 6, none⟩ = some (.int .i64 a2) := (two_cells w _ _ _ _).2 6
  have d17 : ((w.alloc (.cells #[.int .i64 c1, .int .i64 s1, .int .i64 o1, .string p1, .string x1, .int .i64 n1, .int .i64 a1, .int .i64 b1] 27)).alloc (.cells #[.int .i64 c2, .int .i64 s2, .int .i64 o2, .string p2, .string x2, .int .i64 n2, .int .i64 a2, .int .i64 b2] 27)).cell? ⟨w.heap.size + 1, 7, none⟩ = some (.int .i64 b2) := (two_cells w _ _ _ _).2 7
  go_enter Tryz.func22, Tryz.ntmps22
  go_wp2_with fail
  generalize ((w.alloc (.cells #[.int .i64 c1, .int .i64 s1, .int .i64 o1, .string p1, .string x1, .int .i64 n1, .int .i64 a1, .int .i64 b1] 27)).alloc (.cells #[.int .i64 c2, .int .i64 s2, .int .i64 o2, .string p2, .string x2, .int .i64 n2, .int .i64 a2, .int .i64 b2] 27)) = X0 at *
  have hc := rcontrol_any c1 s1 o1 p1 x1 n1 a1 b1 X0
  rw [k1] at hc
  refine hc.mono ?_
  rintro e w1 ⟨rfl, hb⟩
  clear hc
  replace d00 := (hb.cell (p := ⟨w.heap.size, 0, none⟩) (by dsimp only; omega)).trans d00
  replace d01 := (hb.cell (p := ⟨w.heap.size, 1, none⟩) (by dsimp only; omega)).trans d01
  replace d02 := (hb.cell (p := ⟨w.heap.size, 2, none⟩) (by dsimp only; omega)).trans d02
  replace d03 := (hb.cell (p := ⟨w.heap.size, 3, none⟩) (by dsimp only; omega)).trans d03
  replace d04 := (hb.cell (p := ⟨w.heap.size, 4, none⟩) (by dsimp only; omega)).trans d04
  replace d05 := (hb.cell (p := ⟨w.heap.size, 5, none⟩) (by dsimp only; omega)).trans d05
  replace d06 := (hb.cell (p := ⟨w.heap.size, 6, none⟩) (by dsimp only; omega)).trans d06
  replace d07 := (hb.cell (p := ⟨w.heap.size, 7, none⟩) (by dsimp only; omega)).trans d07
  replace d10 := (hb.cell (p := ⟨w.heap.size + 1, 0, none⟩) (by dsimp only; omega)).trans d10
  replace d11 := (hb.cell (p := ⟨w.heap.size + 1, 1, none⟩) (by dsimp only; omega)).trans d11
  replace d12 := (hb.cell (p := ⟨w.heap.size + 1, 2, none⟩) (by dsimp only; omega)).trans d12
  replace d13 := (hb.cell (p := ⟨w.heap.size + 1, 3, none⟩) (by dsimp only; omega)).trans d13
  replace d14 := (hb.cell (p := ⟨w.heap.size + 1, 4, none⟩) (by dsimp only; omega)).trans d14
  replace d15 := (hb.cell (p := ⟨w.heap.size + 1, 5, none⟩) (by dsimp only; omega)).trans d15
  replace d16 := (hb.cell (p := ⟨w.heap.size + 1, 6, none⟩) (by dsimp only; omega)).trans d16
  replace d17 := (hb.cell (p := ⟨w.heap.size + 1, 7, none⟩) (by dsimp only; omega)).trans d17
  have HBw1 := Lib.hid (HB0.out.trans (hb.mono (by omega)))
  have hsw1 := hb.size
  clear hb
  go_wp2
  go_ret
  exact ⟨rfl, HBw1.out⟩
set_option maxRecDepth 100000 in
set_option maxHeartbeats 4000000 in
theorem rb_c2 (c1 s1 o1 : Int) (p1 x1 : ByteArray) (n1 a1 b1 : Int) (c2 s2 o2 : Int) (p2 x2 : ByteArray) (n2 a2 b2 : Int) (w : World) (h1 : p1.size ≤ 1000) (h2 : p2.size ≤ 1000) (z1 : (o1 == 0) = false) (z2 : (o2 == 0) = false) (k1 : ctl o1 = false) (k2 : ctl o2 = true) :
    Calls Tryz.prog 22 #[.agg #[.int .i64 c1, .int .i64 s1, .int .i64 o1, .string p1, .string x1, .int .i64 n1, .int .i64 a1, .int .i64 b1], .agg #[.int .i64 c2, .int .i64 s2, .int .i64 o2, .string p2, .string x2, .int .i64 n2, .int .i64 a2, .int .i64 b2]] w fun e w' => e = .returned (.bool true) ∧ Below w.heap.size w w' := by
  have HB0 := Lib.hid (two_below w (.cells #[.int .i64 c1, .int .i64 s1, .int .i64 o1, .string p1, .string x1, .int .i64 n1, .int .i64 a1, .int .i64 b1] 27) (.cells #[.int .i64 c2, .int .i64 s2, .int .i64 o2, .string p2, .string x2, .int .i64 n2, .int .i64 a2, .int .i64 b2] 27))
  have hz3 : ((w.alloc (.cells #[.int .i64 c1, .int .i64 s1, .int .i64 o1, .string p1, .string x1, .int .i64 n1, .int .i64 a1, .int .i64 b1] 27)).alloc (.cells #[.int .i64 c2, .int .i64 s2, .int .i64 o2, .string p2, .string x2, .int .i64 n2, .int .i64 a2, .int .i64 b2] 27)).heap.size = w.heap.size + 2 := by simp
  have d00 : ((w.alloc (.cells #[.int .i64 c1, .int .i64 s1, .int .i64 o1, .string p1, .string x1, .int .i64 n1, .int .i64 a1, .int .i64 b1] 27)).alloc (.cells #[.int .i64 c2, .int .i64 s2, .int .i64 o2, .string p2, .string x2, .int .i64 n2, .int .i64 a2, .int .i64 b2] 27)).cell? ⟨w.heap.size, 0, none⟩ = some (.int .i64 c1) := (two_cells w _ _ _ _).1 0
  have d01 : ((w.alloc (.cells #[.int .i64 c1, .int .i64 s1, .int .i64 o1, .string p1, .string x1, .int .i64 n1, .int .i64 a1, .int .i64 b1] 27)).alloc (.cells #[.int .i64 c2, .int .i64 s2, .int .i64 o2, .string p2, .string x2, .int .i64 n2, .int .i64 a2, .int .i64 b2] 27)).cell? ⟨w.heap.size, 1, none⟩ = some (.int .i64 s1) := (two_cells w _ _ _ _).1 1
  have d02 : ((w.alloc (.cells #[.int .i64 c1, .int .i64 s1, .int .i64 o1, .string p1, .string x1, .int .i64 n1, .int .i64 a1, .int .i64 b1] 27)).alloc (.cells #[.int .i64 c2, .int .i64 s2, .int .i64 o2, .string p2, .string x2, .int .i64 n2, .int .i64 a2, .int .i64 b2] 27)).cell? ⟨w.heap.size, 2, none⟩ = some (.int .i64 o1) := (two_cells w _ _ _ _).1 2
  have d03 : ((w.alloc (.cells #[.int .i64 c1, .int .i64 s1, .int .i64 o1, .string p1, .string x1, .int .i64 n1, .int .i64 a1, .int .i64 b1] 27)).alloc (.cells #[.int .i64 c2, .int .i64 s2, .int .i64 o2, .string p2, .string x2, .int .i64 n2, .int .i64 a2, .int .i64 b2] 27)).cell? ⟨w.heap.size, 3, none⟩ = some (.string p1) := (two_cells w _ _ _ _).1 3
  have d04 : ((w.alloc (.cells #[.int .i64 c1, .int .i64 s1, .int .i64 o1, .string p1, .string x1, .int .i64 n1, .int .i64 a1, .int .i64 b1] 27)).alloc (.cells #[.int .i64 c2, .int .i64 s2, .int .i64 o2, .string p2, .string x2, .int .i64 n2, .int .i64 a2, .int .i64 b2] 27)).cell? ⟨w.heap.size, 4, none⟩ = some (.string x1) := (two_cells w _ _ _ _).1 4
  have d05 : ((w.alloc (.cells #[.int .i64 c1, .int .i64 s1, .int .i64 o1, .string p1, .string x1, .int .i64 n1, .int .i64 a1, .int .i64 b1] 27)).alloc (.cells #[.int .i64 c2, .int .i64 s2, .int .i64 o2, .string p2, .string x2, .int .i64 n2, .int .i64 a2, .int .i64 b2] 27)).cell? ⟨w.heap.size, 5, none⟩ = some (.int .i64 n1) := (two_cells w _ _ _ _).1 5
  have d06 : ((w.alloc (.cells #[.int .i64 c1, .int .i64 s1, .int .i64 o1, .string p1, .string x1, .int .i64 n1, .int .i64 a1, .int .i64 b1] 27)).alloc (.cells #[.int .i64 c2, .int .i64 s2, .int .i64 o2, .string p2, .string x2, .int .i64 n2, .int .i64 a2, .int .i64 b2] 27)).cell? ⟨w.heap.size, 6, none⟩ = some (.int .i64 a1) := (two_cells w _ _ _ _).1 6
  have d07 : ((w.alloc (.cells #[.int .i64 c1, .int .i64 s1, .int .i64 o1, .string p1, .string x1, .int .i64 n1, .int .i64 a1, .int .i64 b1] 27)).alloc (.cells #[.int .i64 c2, .int .i64 s2, .int .i64 o2, .string p2, .string x2, .int .i64 n2, .int .i64 a2, .int .i64 b2] 27)).cell? ⟨w.heap.size, 7, none⟩ = some (.int .i64 b1) := (two_cells w _ _ _ _).1 7
  have d10 : ((w.alloc (.cells #[.int .i64 c1, .int .i64 s1, .int .i64 o1, .string p1, .string x1, .int .i64 n1, .int .i64 a1, .int .i64 b1] 27)).alloc (.cells #[.int .i64 c2, .int .i64 s2, .int .i64 o2, .string p2, .string x2, .int .i64 n2, .int .i64 a2, .int .i64 b2] 27)).cell? ⟨w.heap.size + 1, 0, none⟩ = some (.int .i64 c2) := (two_cells w _ _ _ _).2 0
  have d11 : ((w.alloc (.cells #[.int .i64 c1, .int .i64 s1, .int .i64 o1, .string p1, .string x1, .int .i64 n1, .int .i64 a1, .int .i64 b1] 27)).alloc (.cells #[.int .i64 c2, .int .i64 s2, .int .i64 o2, .string p2, .string x2, .int .i64 n2, .int .i64 a2, .int .i64 b2] 27)).cell? ⟨w.heap.size + 1, 1, none⟩ = some (.int .i64 s2) := (two_cells w _ _ _ _).2 1
  have d12 : ((w.alloc (.cells #[.int .i64 c1, .int .i64 s1, .int .i64 o1, .string p1, .string x1, .int .i64 n1, .int .i64 a1, .int .i64 b1] 27)).alloc (.cells #[.int .i64 c2, .int .i64 s2, .int .i64 o2, .string p2, .string x2, .int .i64 n2, .int .i64 a2, .int .i64 b2] 27)).cell? ⟨w.heap.size + 1, 2, none⟩ = some (.int .i64 o2) := (two_cells w _ _ _ _).2 2
  have d13 : ((w.alloc (.cells #[.int .i64 c1, .int .i64 s1, .int .i64 o1, .string p1, .string x1, .int .i64 n1, .int .i64 a1, .int .i64 b1] 27)).alloc (.cells #[.int .i64 c2, .int .i64 s2, .int .i64 o2, .string p2, .string x2, .int .i64 n2, .int .i64 a2, .int .i64 b2] 27)).cell? ⟨w.heap.size + 1, 3, none⟩ = some (.string p2) := (two_cells w _ _ _ _).2 3
  have d14 : ((w.alloc (.cells #[.int .i64 c1, .int .i64 s1, .int .i64 o1, .string p1, .string x1, .int .i64 n1, .int .i64 a1, .int .i64 b1] 27)).alloc (.cells #[.int .i64 c2, .int .i64 s2, .int .i64 o2, .string p2, .string x2, .int .i64 n2, .int .i64 a2, .int .i64 b2] 27)).cell? ⟨w.heap.size + 1, 4, none⟩ = some (.string x2) := (two_cells w _ _ _ _).2 4
  have d15 : ((w.alloc (.cells #[.int .i64 c1, .int .i64 s1, .int .i64 o1, .string p1, .string x1, .int .i64 n1, .int .i64 a1, .int .i64 b1] 27)).alloc (.cells #[.int .i64 c2, .int .i64 s2, .int .i64 o2, .string p2, .string x2, .int .i64 n2, .int .i64 a2, .int .i64 b2] 27)).cell? ⟨w.heap.size + 1, 5, none⟩ = some (.int .i64 n2) := (two_cells w _ _ _ _).2 5
  have d16 : ((w.alloc (.cells #[.int .i64 c1, .int .i64 s1, .int .i64 o1, .string p1, .string x1, .int .i64 n1, .int .i64 a1, .int .i64 b1] 27)).alloc (.cells #[.int .i64 c2, .int .i64 s2, .int .i64 o2, .string p2, .string x2, .int .i64 n2, .int .i64 a2, .int .i64 b2] 27)).cell? ⟨w.heap.size + 1, 6, none⟩ = some (.int .i64 a2) := (two_cells w _ _ _ _).2 6
  have d17 : ((w.alloc (.cells #[.int .i64 c1, .int .i64 s1, .int .i64 o1, .string p1, .string x1, .int .i64 n1, .int .i64 a1, .int .i64 b1] 27)).alloc (.cells #[.int .i64 c2, .int .i64 s2, .int .i64 o2, .string p2, .string x2, .int .i64 n2, .int .i64 a2, .int .i64 b2] 27)).cell? ⟨w.heap.size + 1, 7, none⟩ = some (.int .i64 b2) := (two_cells w _ _ _ _).2 7
  go_enter Tryz.func22, Tryz.ntmps22
  go_wp2_with fail
  generalize ((w.alloc (.cells #[.int .i64 c1, .int .i64 s1, .int .i64 o1, .string p1, .string x1, .int .i64 n1, .int .i64 a1, .int .i64 b1] 27)).alloc (.cells #[.int .i64 c2, .int .i64 s2, .int .i64 o2, .string p2, .string x2, .int .i64 n2, .int .i64 a2, .int .i64 b2] 27)) = X0 at *
  have hc := rcontrol_any c1 s1 o1 p1 x1 n1 a1 b1 X0
  rw [k1] at hc
  refine hc.mono ?_
  rintro e w1 ⟨rfl, hb⟩
  clear hc
  replace d00 := (hb.cell (p := ⟨w.heap.size, 0, none⟩) (by dsimp only; omega)).trans d00
  replace d01 := (hb.cell (p := ⟨w.heap.size, 1, none⟩) (by dsimp only; omega)).trans d01
  replace d02 := (hb.cell (p := ⟨w.heap.size, 2, none⟩) (by dsimp only; omega)).trans d02
  replace d03 := (hb.cell (p := ⟨w.heap.size, 3, none⟩) (by dsimp only; omega)).trans d03
  replace d04 := (hb.cell (p := ⟨w.heap.size, 4, none⟩) (by dsimp only; omega)).trans d04
  replace d05 := (hb.cell (p := ⟨w.heap.size, 5, none⟩) (by dsimp only; omega)).trans d05
  replace d06 := (hb.cell (p := ⟨w.heap.size, 6, none⟩) (by dsimp only; omega)).trans d06
  replace d07 := (hb.cell (p := ⟨w.heap.size, 7, none⟩) (by dsimp only; omega)).trans d07
  replace d10 := (hb.cell (p := ⟨w.heap.size + 1, 0, none⟩) (by dsimp only; omega)).trans d10
  replace d11 := (hb.cell (p := ⟨w.heap.size + 1, 1, none⟩) (by dsimp only; omega)).trans d11
  replace d12 := (hb.cell (p := ⟨w.heap.size + 1, 2, none⟩) (by dsimp only; omega)).trans d12
  replace d13 := (hb.cell (p := ⟨w.heap.size + 1, 3, none⟩) (by dsimp only; omega)).trans d13
  replace d14 := (hb.cell (p := ⟨w.heap.size + 1, 4, none⟩) (by dsimp only; omega)).trans d14
  replace d15 := (hb.cell (p := ⟨w.heap.size + 1, 5, none⟩) (by dsimp only; omega)).trans d15
  replace d16 := (hb.cell (p := ⟨w.heap.size + 1, 6, none⟩) (by dsimp only; omega)).trans d16
  replace d17 := (hb.cell (p := ⟨w.heap.size + 1, 7, none⟩) (by dsimp only; omega)).trans d17
  have HBw1 := Lib.hid (HB0.out.trans (hb.mono (by omega)))
  have hsw1 := hb.size
  clear hb
  go_wp2_with fail
  have hc := rcontrol_any c2 s2 o2 p2 x2 n2 a2 b2 w1
  rw [k2] at hc
  refine hc.mono ?_
  rintro e w2 ⟨rfl, hb⟩
  clear hc
  replace d00 := (hb.cell (p := ⟨w.heap.size, 0, none⟩) (by dsimp only; omega)).trans d00
  replace d01 := (hb.cell (p := ⟨w.heap.size, 1, none⟩) (by dsimp only; omega)).trans d01
  replace d02 := (hb.cell (p := ⟨w.heap.size, 2, none⟩) (by dsimp only; omega)).trans d02
  replace d03 := (hb.cell (p := ⟨w.heap.size, 3, none⟩) (by dsimp only; omega)).trans d03
  replace d04 := (hb.cell (p := ⟨w.heap.size, 4, none⟩) (by dsimp only; omega)).trans d04
  replace d05 := (hb.cell (p := ⟨w.heap.size, 5, none⟩) (by dsimp only; omega)).trans d05
  replace d06 := (hb.cell (p := ⟨w.heap.size, 6, none⟩) (by dsimp only; omega)).trans d06
  replace d07 := (hb.cell (p := ⟨w.heap.size, 7, none⟩) (by dsimp only; omega)).trans d07
  replace d10 := (hb.cell (p := ⟨w.heap.size + 1, 0, none⟩) (by dsimp only; omega)).trans d10
  replace d11 := (hb.cell (p := ⟨w.heap.size + 1, 1, none⟩) (by dsimp only; omega)).trans d11
  replace d12 := (hb.cell (p := ⟨w.heap.size + 1, 2, none⟩) (by dsimp only; omega)).trans d12
  replace d13 := (hb.cell (p := ⟨w.heap.size + 1, 3, none⟩) (by dsimp only; omega)).trans d13
  replace d14 := (hb.cell (p := ⟨w.heap.size + 1, 4, none⟩) (by dsimp only; omega)).trans d14
  replace d15 := (hb.cell (p := ⟨w.heap.size + 1, 5, none⟩) (by dsimp only; omega)).trans d15
  replace d16 := (hb.cell (p := ⟨w.heap.size + 1, 6, none⟩) (by dsimp only; omega)).trans d16
  replace d17 := (hb.cell (p := ⟨w.heap.size + 1, 7, none⟩) (by dsimp only; omega)).trans d17
  have HBw2 := Lib.hid (HBw1.out.trans (hb.mono (by omega)))
  have hsw2 := hb.size
  clear hb
  go_wp2
  go_ret
  exact ⟨rfl, HBw2.out⟩
set_option maxRecDepth 100000 in
set_option maxHeartbeats 4000000 in
theorem rb_cl (c1 s1 o1 : Int) (p1 x1 : ByteArray) (n1 a1 b1 : Int) (c2 s2 o2 : Int) (p2 x2 : ByteArray) (n2 a2 b2 : Int) (w : World) (h1 : p1.size ≤ 1000) (h2 : p2.size ≤ 1000) (z1 : (o1 == 0) = false) (z2 : (o2 == 0) = false) (k1 : ctl o1 = false) (k2 : ctl o2 = false) (hcc : (c1 == c2) = true) :
    Calls Tryz.prog 22 #[.agg #[.int .i64 c1, .int .i64 s1, .int .i64 o1, .string p1, .string x1, .int .i64 n1, .int .i64 a1, .int .i64 b1], .agg #[.int .i64 c2, .int .i64 s2, .int .i64 o2, .string p2, .string x2, .int .i64 n2, .int .i64 a2, .int .i64 b2]] w fun e w' => e = .returned (.bool true) ∧ Below w.heap.size w w' := by
  have HB0 := Lib.hid (two_below w (.cells #[.int .i64 c1, .int .i64 s1, .int .i64 o1, .string p1, .string x1, .int .i64 n1, .int .i64 a1, .int .i64 b1] 27) (.cells #[.int .i64 c2, .int .i64 s2, .int .i64 o2, .string p2, .string x2, .int .i64 n2, .int .i64 a2, .int .i64 b2] 27))
  have hz3 : ((w.alloc (.cells #[.int .i64 c1, .int .i64 s1, .int .i64 o1, .string p1, .string x1, .int .i64 n1, .int .i64 a1, .int .i64 b1] 27)).alloc (.cells #[.int .i64 c2, .int .i64 s2, .int .i64 o2, .string p2, .string x2, .int .i64 n2, .int .i64 a2, .int .i64 b2] 27)).heap.size = w.heap.size + 2 := by simp
  have d00 : ((w.alloc (.cells #[.int .i64 c1, .int .i64 s1, .int .i64 o1, .string p1, .string x1, .int .i64 n1, .int .i64 a1, .int .i64 b1] 27)).alloc (.cells #[.int .i64 c2, .int .i64 s2, .int .i64 o2, .string p2, .string x2, .int .i64 n2, .int .i64 a2, .int .i64 b2] 27)).cell? ⟨w.heap.size, 0, none⟩ = some (.int .i64 c1) := (two_cells w _ _ _ _).1 0
  have d01 : ((w.alloc (.cells #[.int .i64 c1, .int .i64 s1, .int .i64 o1, .string p1, .string x1, .int .i64 n1, .int .i64 a1, .int .i64 b1] 27)).alloc (.cells #[.int .i64 c2, .int .i64 s2, .int .i64 o2, .string p2, .string x2, .int .i64 n2, .int .i64 a2, .int .i64 b2] 27)).cell? ⟨w.heap.size, 1, none⟩ = some (.int .i64 s1) := (two_cells w _ _ _ _).1 1
  have d02 : ((w.alloc (.cells #[.int .i64 c1, .int .i64 s1, .int .i64 o1, .string p1, .string x1, .int .i64 n1, .int .i64 a1, .int .i64 b1] 27)).alloc (.cells #[.int .i64 c2, .int .i64 s2, .int .i64 o2, .string p2, .string x2, .int .i64 n2, .int .i64 a2, .int .i64 b2] 27)).cell? ⟨w.heap.size, 2, none⟩ = some (.int .i64 o1) := (two_cells w _ _ _ _).1 2
  have d03 : ((w.alloc (.cells #[.int .i64 c1, .int .i64 s1, .int .i64 o1, .string p1, .string x1, .int .i64 n1, .int .i64 a1, .int .i64 b1] 27)).alloc (.cells #[.int .i64 c2, .int .i64 s2, .int .i64 o2, .string p2, .string x2, .int .i64 n2, .int .i64 a2, .int .i64 b2] 27)).cell? ⟨w.heap.size, 3, none⟩ = some (.string p1) := (two_cells w _ _ _ _).1 3
  have d04 : ((w.alloc (.cells #[.int .i64 c1, .int .i64 s1, .int .i64 o1, .string p1, .string x1, .int .i64 n1, .int .i64 a1, .int .i64 b1] 27)).alloc (.cells #[.int .i64 c2, .int .i64 s2, .int .i64 o2, .string p2, .string x2, .int .i64 n2, .int .i64 a2, .int .i64 b2] 27)).cell? ⟨w.heap.size, 4, none⟩ = some (.string x1) := (two_cells w _ _ _ _).1 4
  have d05 : ((w.alloc (.cells #[.int .i64 c1, .int .i64 s1, .int .i64 o1, .string p1, .string x1, .int .i64 n1, .int .i64 a1, .int .i64 b1] 27)).alloc (.cells #[.int .i64 c2, .int .i64 s2, .int .i64 o2, .string p2, .string x2, .int .i64 n2, .int .i64 a2, .int .i64 b2] 27)).cell? ⟨w.heap.size, 5, none⟩ = some (.int .i64 n1) := (two_cells w _ _ _ _).1 5
  have d06 : ((w.alloc (.cells #[.int .i64 c1, .int .i64 s1, .int .i64 o1, .string p1, .string x1, .int .i64 n1, .int .i64 a1, .int .i64 b1] 27)).alloc (.cells #[.int .i64 c2, .int .i64 s2, .int .i64 o2, .string p2, .string x2, .int .i64 n2, .int .i64 a2, .int .i64 b2] 27)).cell? ⟨w.heap.size, 6, none⟩ = some (.int .i64 a1) := (two_cells w _ _ _ _).1 6
  have d07 : ((w.alloc (.cells #[.int .i64 c1, .int .i64 s1, .int .i64 o1, .string p1, .string x1, .int .i64 n1, .int .i64 a1, .int .i64 b1] 27)).alloc (.cells #[.int .i64 c2, .int .i64 s2, .int .i64 o2, .string p2, .string x2, .int .i64 n2, .int .i64 a2, .int .i64 b2] 27)).cell? ⟨w.heap.size, 7, none⟩ = some (.int .i64 b1) := (two_cells w _ _ _ _).1 7
  have d10 : ((w.alloc (.cells #[.int .i64 c1, .int .i64 s1, .int .i64 o1, .string p1, .string x1, .int .i64 n1, .int .i64 a1, .int .i64 b1] 27)).alloc (.cells #[.int .i64 c2, .int .i64 s2, .int .i64 o2, .string p2, .string x2, .int .i64 n2, .int .i64 a2, .int .i64 b2] 27)).cell? ⟨w.heap.size + 1, 0, none⟩ = some (.int .i64 c2) := (two_cells w _ _ _ _).2 0
  have d11 : ((w.alloc (.cells #[.int .i64 c1, .int .i64 s1, .int .i64 o1, .string p1, .string x1, .int .i64 n1, .int .i64 a1, .int .i64 b1] 27)).alloc (.cells #[.int .i64 c2, .int .i64 s2, .int .i64 o2, .string p2, .string x2, .int .i64 n2, .int .i64 a2, .int .i64 b2] 27)).cell? ⟨w.heap.size + 1, 1, none⟩ = some (.int .i64 s2) := (two_cells w _ _ _ _).2 1
  have d12 : ((w.alloc (.cells #[.int .i64 c1, .int .i64 s1, .int .i64 o1, .string p1, .string x1, .int .i64 n1, .int .i64 a1, .int .i64 b1] 27)).alloc (.cells #[.int .i64 c2, .int .i64 s2, .int .i64 o2, .string p2, .string x2, .int .i64 n2, .int .i64 a2, .int .i64 b2] 27)).cell? ⟨w.heap.size + 1, 2, none⟩ = some (.int .i64 o2) := (two_cells w _ _ _ _).2 2
  have d13 : ((w.alloc (.cells #[.int .i64 c1, .int .i64 s1, .int .i64 o1, .string p1, .string x1, .int .i64 n1, .int .i64 a1, .int .i64 b1] 27)).alloc (.cells #[.int .i64 c2, .int .i64 s2, .int .i64 o2, .string p2, .string x2, .int .i64 n2, .int .i64 a2, .int .i64 b2] 27)).cell? ⟨w.heap.size + 1, 3, none⟩ = some (.string p2) := (two_cells w _ _ _ _).2 3
  have d14 : ((w.alloc (.cells #[.int .i64 c1, .int .i64 s1, .int .i64 o1, .string p1, .string x1, .int .i64 n1, .int .i64 a1, .int .i64 b1] 27)).alloc (.cells #[.int .i64 c2, .int .i64 s2, .int .i64 o2, .string p2, .string x2, .int .i64 n2, .int .i64 a2, .int .i64 b2] 27)).cell? ⟨w.heap.size + 1, 4, none⟩ = some (.string x2) := (two_cells w _ _ _ _).2 4
  have d15 : ((w.alloc (.cells #[.int .i64 c1, .int .i64 s1, .int .i64 o1, .string p1, .string x1, .int .i64 n1, .int .i64 a1, .int .i64 b1] 27)).alloc (.cells #[.int .i64 c2, .int .i64 s2, .int .i64 o2, .string p2, .string x2, .int .i64 n2, .int .i64 a2, .int .i64 b2] 27)).cell? ⟨w.heap.size + 1, 5, none⟩ = some (.int .i64 n2) := (two_cells w _ _ _ _).2 5
  have d16 : ((w.alloc (.cells #[.int .i64 c1, .int .i64 s1, .int .i64 o1, .string p1, .string x1, .int .i64 n1, .int .i64 a1, .int .i64 b1] 27)).alloc (.cells #[.int .i64 c2, .int .i64 s2, .int .i64 o2, .string p2, .string x2, .int .i64 n2, .int .i64 a2, .int .i64 b2] 27)).cell? ⟨w.heap.size + 1, 6, none⟩ = some (.int .i64 a2) := (two_cells w _ _ _ _).2 6
  have d17 : ((w.alloc (.cells #[.int .i64 c1, .int .i64 s1, .int .i64 o1, .string p1, .string x1, .int .i64 n1, .int .i64 a1, .int .i64 b1] 27)).alloc (.cells #[.int .i64 c2, .int .i64 s2, .int .i64 o2, .string p2, .string x2, .int .i64 n2, .int .i64 a2, .int .i64 b2] 27)).cell? ⟨w.heap.size + 1, 7, none⟩ = some (.int .i64 b2) := (two_cells w _ _ _ _).2 7
  go_enter Tryz.func22, Tryz.ntmps22
  go_wp2_with fail
  generalize ((w.alloc (.cells #[.int .i64 c1, .int .i64 s1, .int .i64 o1, .string p1, .string x1, .int .i64 n1, .int .i64 a1, .int .i64 b1] 27)).alloc (.cells #[.int .i64 c2, .int .i64 s2, .int .i64 o2, .string p2, .string x2, .int .i64 n2, .int .i64 a2, .int .i64 b2] 27)) = X0 at *
  have hc := rcontrol_any c1 s1 o1 p1 x1 n1 a1 b1 X0
  rw [k1] at hc
  refine hc.mono ?_
  rintro e w1 ⟨rfl, hb⟩
  clear hc
  replace d00 := (hb.cell (p := ⟨w.heap.size, 0, none⟩) (by dsimp only; omega)).trans d00
  replace d01 := (hb.cell (p := ⟨w.heap.size, 1, none⟩) (by dsimp only; omega)).trans d01
  replace d02 := (hb.cell (p := ⟨w.heap.size, 2, none⟩) (by dsimp only; omega)).trans d02
  replace d03 := (hb.cell (p := ⟨w.heap.size, 3, none⟩) (by dsimp only; omega)).trans d03
  replace d04 := (hb.cell (p := ⟨w.heap.size, 4, none⟩) (by dsimp only; omega)).trans d04
  replace d05 := (hb.cell (p := ⟨w.heap.size, 5, none⟩) (by dsimp only; omega)).trans d05
  replace d06 := (hb.cell (p := ⟨w.heap.size, 6, none⟩) (by dsimp only; omega)).trans d06
  replace d07 := (hb.cell (p := ⟨w.heap.size, 7, none⟩) (by dsimp only; omega)).trans d07
  replace d10 := (hb.cell (p := ⟨w.heap.size + 1, 0, none⟩) (by dsimp only; omega)).trans d10
  replace d11 := (hb.cell (p := ⟨w.heap.size + 1, 1, none⟩) (by dsimp only; omega)).trans d11
  replace d12 := (hb.cell (p := ⟨w.heap.size + 1, 2, none⟩) (by dsimp only; omega)).trans d12
  replace d13 := (hb.cell (p := ⟨w.heap.size + 1, 3, none⟩) (by dsimp only; omega)).trans d13
  replace d14 := (hb.cell (p := ⟨w.heap.size + 1, 4, none⟩) (by dsimp only; omega)).trans d14
  replace d15 := (hb.cell (p := ⟨w.heap.size + 1, 5, none⟩) (by dsimp only; omega)).trans d15
  replace d16 := (hb.cell (p := ⟨w.heap.size + 1, 6, none⟩) (by dsimp only; omega)).trans d16
  replace d17 := (hb.cell (p := ⟨w.heap.size + 1, 7, none⟩) (by dsimp only; omega)).trans d17
  have HBw1 := Lib.hid (HB0.out.trans (hb.mono (by omega)))
  have hsw1 := hb.size
  clear hb
  go_wp2_with fail
  have hc := rcontrol_any c2 s2 o2 p2 x2 n2 a2 b2 w1
  rw [k2] at hc
  refine hc.mono ?_
  rintro e w2 ⟨rfl, hb⟩
  clear hc
  replace d00 := (hb.cell (p := ⟨w.heap.size, 0, none⟩) (by dsimp only; omega)).trans d00
  replace d01 := (hb.cell (p := ⟨w.heap.size, 1, none⟩) (by dsimp only; omega)).trans d01
  replace d02 := (hb.cell (p := ⟨w.heap.size, 2, none⟩) (by dsimp only; omega)).trans d02
  replace d03 := (hb.cell (p := ⟨w.heap.size, 3, none⟩) (by dsimp only; omega)).trans d03
  replace d04 := (hb.cell (p := ⟨w.heap.size, 4, none⟩) (by dsimp only; omega)).trans d04
  replace d05 := (hb.cell (p := ⟨w.heap.size, 5, none⟩) (by dsimp only; omega)).trans d05
  replace d06 := (hb.cell (p := ⟨w.heap.size, 6, none⟩) (by dsimp only; omega)).trans d06
  replace d07 := (hb.cell (p := ⟨w.heap.size, 7, none⟩) (by dsimp only; omega)).trans d07
  replace d10 := (hb.cell (p := ⟨w.heap.size + 1, 0, none⟩) (by dsimp only; omega)).trans d10
  replace d11 := (hb.cell (p := ⟨w.heap.size + 1, 1, none⟩) (by dsimp only; omega)).trans d11
  replace d12 := (hb.cell (p := ⟨w.heap.size + 1, 2, none⟩) (by dsimp only; omega)).trans d12
  replace d13 := (hb.cell (p := ⟨w.heap.size + 1, 3, none⟩) (by dsimp only; omega)).trans d13
  replace d14 := (hb.cell (p := ⟨w.heap.size + 1, 4, none⟩) (by dsimp only; omega)).trans d14
  replace d15 := (hb.cell (p := ⟨w.heap.size + 1, 5, none⟩) (by dsimp only; omega)).trans d15
  replace d16 := (hb.cell (p := ⟨w.heap.size + 1, 6, none⟩) (by dsimp only; omega)).trans d16
  replace d17 := (hb.cell (p := ⟨w.heap.size + 1, 7, none⟩) (by dsimp only; omega)).trans d17
  have HBw2 := Lib.hid (HBw1.out.trans (hb.mono (by omega)))
  have hsw2 := hb.size
  clear hb
  go_wp2
  go_ret
  exact ⟨rfl, HBw2.out⟩
set_option maxRecDepth 100000 in
set_option maxHeartbeats 4000000 in
theorem rb_pt (c1 s1 o1 : Int) (p1 x1 : ByteArray) (n1 a1 b1 : Int) (c2 s2 o2 : Int) (p2 x2 : ByteArray) (n2 a2 b2 : Int) (w : World) (h1 : p1.size ≤ 1000) (h2 : p2.size ≤ 1000) (z1 : (o1 == 0) = false) (z2 : (o2 == 0) = false) (k1 : ctl o1 = false) (k2 : ctl o2 = false) (hcc : (c1 == c2) = false) (D : Bool) (hD : mtr o1 p1 o2 p2 = D) :
    Calls Tryz.prog 22 #[.agg #[.int .i64 c1, .int .i64 s1, .int .i64 o1, .string p1, .string x1, .int .i64 n1, .int .i64 a1, .int .i64 b1], .agg #[.int .i64 c2, .int .i64 s2, .int .i64 o2, .string p2, .string x2, .int .i64 n2, .int .i64 a2, .int .i64 b2]] w fun e w' => e = .returned (.bool D) ∧ Below w.heap.size w w' := by
  have HB0 := Lib.hid (two_below w (.cells #[.int .i64 c1, .int .i64 s1, .int .i64 o1, .string p1, .string x1, .int .i64 n1, .int .i64 a1, .int .i64 b1] 27) (.cells #[.int .i64 c2, .int .i64 s2, .int .i64 o2, .string p2, .string x2, .int .i64 n2, .int .i64 a2, .int .i64 b2] 27))
  have hz3 : ((w.alloc (.cells #[.int .i64 c1, .int .i64 s1, .int .i64 o1, .string p1, .string x1, .int .i64 n1, .int .i64 a1, .int .i64 b1] 27)).alloc (.cells #[.int .i64 c2, .int .i64 s2, .int .i64 o2, .string p2, .string x2, .int .i64 n2, .int .i64 a2, .int .i64 b2] 27)).heap.size = w.heap.size + 2 := by simp
  have d00 : ((w.alloc (.cells #[.int .i64 c1, .int .i64 s1, .int .i64 o1, .string p1, .string x1, .int .i64 n1, .int .i64 a1, .int .i64 b1] 27)).alloc (.cells #[.int .i64 c2, .int .i64 s2, .int .i64 o2, .string p2, .string x2, .int .i64 n2, .int .i64 a2, .int .i64 b2] 27)).cell? ⟨w.heap.size, 0, none⟩ = some (.int .i64 c1) := (two_cells w _ _ _ _).1 0
  have d01 : ((w.alloc (.cells #[.int .i64 c1, .int .i64 s1, .int .i64 o1, .string p1, .string x1, .int .i64 n1, .int .i64 a1, .int .i64 b1] 27)).alloc (.cells #[.int .i64 c2, .int .i64 s2, .int .i64 o2, .string p2, .string x2, .int .i64 n2, .int .i64 a2, .int .i64 b2] 27)).cell? ⟨w.heap.size, 1, none⟩ = some (.int .i64 s1) := (two_cells w _ _ _ _).1 1
  have d02 : ((w.alloc (.cells #[.int .i64 c1, .int .i64 s1, .int .i64 o1, .string p1, .string x1, .int .i64 n1, .int .i64 a1, .int .i64 b1] 27)).alloc (.cells #[.int .i64 c2, .int .i64 s2, .int .i64 o2, .string p2, .string x2, .int .i64 n2, .int .i64 a2, .int .i64 b2] 27)).cell? ⟨w.heap.size, 2, none⟩ = some (.int .i64 o1) := (two_cells w _ _ _ _).1 2
  have d03 : ((w.alloc (.cells #[.int .i64 c1, .int .i64 s1, .int .i64 o1, .string p1, .string x1, .int .i64 n1, .int .i64 a1, .int .i64 b1] 27)).alloc (.cells #[.int .i64 c2, .int .i64 s2, .int .i64 o2, .string p2, .string x2, .int .i64 n2, .int .i64 a2, .int .i64 b2] 27)).cell? ⟨w.heap.size, 3, none⟩ = some (.string p1) := (two_cells w _ _ _ _).1 3
  have d04 : ((w.alloc (.cells #[.int .i64 c1, .int .i64 s1, .int .i64 o1, .string p1, .string x1, .int .i64 n1, .int .i64 a1, .int .i64 b1] 27)).alloc (.cells #[.int .i64 c2, .int .i64 s2, .int .i64 o2, .string p2, .string x2, .int .i64 n2, .int .i64 a2, .int .i64 b2] 27)).cell? ⟨w.heap.size, 4, none⟩ = some (.string x1) := (two_cells w _ _ _ _).1 4
  have d05 : ((w.alloc (.cells #[.int .i64 c1, .int .i64 s1, .int .i64 o1, .string p1, .string x1, .int .i64 n1, .int .i64 a1, .int .i64 b1] 27)).alloc (.cells #[.int .i64 c2, .int .i64 s2, .int .i64 o2, .string p2, .string x2, .int .i64 n2, .int .i64 a2, .int .i64 b2] 27)).cell? ⟨w.heap.size, 5, none⟩ = some (.int .i64 n1) := (two_cells w _ _ _ _).1 5
  have d06 : ((w.alloc (.cells #[.int .i64 c1, .int .i64 s1, .int .i64 o1, .string p1, .string x1, .int .i64 n1, .int .i64 a1, .int .i64 b1] 27)).alloc (.cells #[.int .i64 c2, .int .i64 s2, .int .i64 o2, .string p2, .string x2, .int .i64 n2, .int .i64 a2, .int .i64 b2] 27)).cell? ⟨w.heap.size, 6, none⟩ = some (.int .i64 a1) := (two_cells w _ _ _ _).1 6
  have d07 : ((w.alloc (.cells #[.int .i64 c1, .int .i64 s1, .int .i64 o1, .string p1, .string x1, .int .i64 n1, .int .i64 a1, .int .i64 b1] 27)).alloc (.cells #[.int .i64 c2, .int .i64 s2, .int .i64 o2, .string p2, .string x2, .int .i64 n2, .int .i64 a2, .int .i64 b2] 27)).cell? ⟨w.heap.size, 7, none⟩ = some (.int .i64 b1) := (two_cells w _ _ _ _).1 7
  have d10 : ((w.alloc (.cells #[.int .i64 c1, .int .i64 s1, .int .i64 o1, .string p1, .string x1, .int .i64 n1, .int .i64 a1, .int .i64 b1] 27)).alloc (.cells #[.int .i64 c2, .int .i64 s2, .int .i64 o2, .string p2, .string x2, .int .i64 n2, .int .i64 a2, .int .i64 b2] 27)).cell? ⟨w.heap.size + 1, 0, none⟩ = some (.int .i64 c2) := (two_cells w _ _ _ _).2 0
  have d11 : ((w.alloc (.cells #[.int .i64 c1, .int .i64 s1, .int .i64 o1, .string p1, .string x1, .int .i64 n1, .int .i64 a1, .int .i64 b1] 27)).alloc (.cells #[.int .i64 c2, .int .i64 s2, .int .i64 o2, .string p2, .string x2, .int .i64 n2, .int .i64 a2, .int .i64 b2] 27)).cell? ⟨w.heap.size + 1, 1, none⟩ = some (.int .i64 s2) := (two_cells w _ _ _ _).2 1
  have d12 : ((w.alloc (.cells #[.int .i64 c1, .int .i64 s1, .int .i64 o1, .string p1, .string x1, .int .i64 n1, .int .i64 a1, .int .i64 b1] 27)).alloc (.cells #[.int .i64 c2, .int .i64 s2, .int .i64 o2, .string p2, .string x2, .int .i64 n2, .int .i64 a2, .int .i64 b2] 27)).cell? ⟨w.heap.size + 1, 2, none⟩ = some (.int .i64 o2) := (two_cells w _ _ _ _).2 2
  have d13 : ((w.alloc (.cells #[.int .i64 c1, .int .i64 s1, .int .i64 o1, .string p1, .string x1, .int .i64 n1, .int .i64 a1, .int .i64 b1] 27)).alloc (.cells #[.int .i64 c2, .int .i64 s2, .int .i64 o2, .string p2, .string x2, .int .i64 n2, .int .i64 a2, .int .i64 b2] 27)).cell? ⟨w.heap.size + 1, 3, none⟩ = some (.string p2) := (two_cells w _ _ _ _).2 3
  have d14 : ((w.alloc (.cells #[.int .i64 c1, .int .i64 s1, .int .i64 o1, .string p1, .string x1, .int .i64 n1, .int .i64 a1, .int .i64 b1] 27)).alloc (.cells #[.int .i64 c2, .int .i64 s2, .int .i64 o2, .string p2, .string x2, .int .i64 n2, .int .i64 a2, .int .i64 b2] 27)).cell? ⟨w.heap.size + 1, 4, none⟩ = some (.string x2) := (two_cells w _ _ _ _).2 4
  have d15 : ((w.alloc (.cells #[.int .i64 c1, .int .i64 s1, .int .i64 o1, .string p1, .string x1, .int .i64 n1, .int .i64 a1, .int .i64 b1] 27)).alloc (.cells #[.int .i64 c2, .int .i64 s2, .int .i64 o2, .string p2, .string x2, .int .i64 n2, .int .i64 a2, .int .i64 b2] 27)).cell? ⟨w.heap.size + 1, 5, none⟩ = some (.int .i64 n2) := (two_cells w _ _ _ _).2 5
  have d16 : ((w.alloc (.cells #[.int .i64 c1, .int .i64 s1, .int .i64 o1, .string p1, .string x1, .int .i64 n1, .int .i64 a1, .int .i64 b1] 27)).alloc (.cells #[.int .i64 c2, .int .i64 s2, .int .i64 o2, .string p2, .string x2, .int .i64 n2, .int .i64 a2, .int .i64 b2] 27)).cell? ⟨w.heap.size + 1, 6, none⟩ = some (.int .i64 a2) := (two_cells w _ _ _ _).2 6
  have d17 : ((w.alloc (.cells #[.int .i64 c1, .int .i64 s1, .int .i64 o1, .string p1, .string x1, .int .i64 n1, .int .i64 a1, .int .i64 b1] 27)).alloc (.cells #[.int .i64 c2, .int .i64 s2, .int .i64 o2, .string p2, .string x2, .int .i64 n2, .int .i64 a2, .int .i64 b2] 27)).cell? ⟨w.heap.size + 1, 7, none⟩ = some (.int .i64 b2) := (two_cells w _ _ _ _).2 7
  go_enter Tryz.func22, Tryz.ntmps22
  go_wp2_with fail
  generalize ((w.alloc (.cells #[.int .i64 c1, .int .i64 s1, .int .i64 o1, .string p1, .string x1, .int .i64 n1, .int .i64 a1, .int .i64 b1] 27)).alloc (.cells #[.int .i64 c2, .int .i64 s2, .int .i64 o2, .string p2, .string x2, .int .i64 n2, .int .i64 a2, .int .i64 b2] 27)) = X0 at *
  have hc := rcontrol_any c1 s1 o1 p1 x1 n1 a1 b1 X0
  rw [k1] at hc
  refine hc.mono ?_
  rintro e w1 ⟨rfl, hb⟩
  clear hc
  replace d00 := (hb.cell (p := ⟨w.heap.size, 0, none⟩) (by dsimp only; omega)).trans d00
  replace d01 := (hb.cell (p := ⟨w.heap.size, 1, none⟩) (by dsimp only; omega)).trans d01
  replace d02 := (hb.cell (p := ⟨w.heap.size, 2, none⟩) (by dsimp only; omega)).trans d02
  replace d03 := (hb.cell (p := ⟨w.heap.size, 3, none⟩) (by dsimp only; omega)).trans d03
  replace d04 := (hb.cell (p := ⟨w.heap.size, 4, none⟩) (by dsimp only; omega)).trans d04
  replace d05 := (hb.cell (p := ⟨w.heap.size, 5, none⟩) (by dsimp only; omega)).trans d05
  replace d06 := (hb.cell (p := ⟨w.heap.size, 6, none⟩) (by dsimp only; omega)).trans d06
  replace d07 := (hb.cell (p := ⟨w.heap.size, 7, none⟩) (by dsimp only; omega)).trans d07
  replace d10 := (hb.cell (p := ⟨w.heap.size + 1, 0, none⟩) (by dsimp only; omega)).trans d10
  replace d11 := (hb.cell (p := ⟨w.heap.size + 1, 1, none⟩) (by dsimp only; omega)).trans d11
  replace d12 := (hb.cell (p := ⟨w.heap.size + 1, 2, none⟩) (by dsimp only; omega)).trans d12
  replace d13 := (hb.cell (p := ⟨w.heap.size + 1, 3, none⟩) (by dsimp only; omega)).trans d13
  replace d14 := (hb.cell (p := ⟨w.heap.size + 1, 4, none⟩) (by dsimp only; omega)).trans d14
  replace d15 := (hb.cell (p := ⟨w.heap.size + 1, 5, none⟩) (by dsimp only; omega)).trans d15
  replace d16 := (hb.cell (p := ⟨w.heap.size + 1, 6, none⟩) (by dsimp only; omega)).trans d16
  replace d17 := (hb.cell (p := ⟨w.heap.size + 1, 7, none⟩) (by dsimp only; omega)).trans d17
  have HBw1 := Lib.hid (HB0.out.trans (hb.mono (by omega)))
  have hsw1 := hb.size
  clear hb
  go_wp2_with fail
  have hc := rcontrol_any c2 s2 o2 p2 x2 n2 a2 b2 w1
  rw [k2] at hc
  refine hc.mono ?_
  rintro e w2 ⟨rfl, hb⟩
  clear hc
  replace d00 := (hb.cell (p := ⟨w.heap.size, 0, none⟩) (by dsimp only; omega)).trans d00
  replace d01 := (hb.cell (p := ⟨w.heap.size, 1, none⟩) (by dsimp only; omega)).trans d01
  replace d02 := (hb.cell (p := ⟨w.heap.size, 2, none⟩) (by dsimp only; omega)).trans d02
  replace d03 := (hb.cell (p := ⟨w.heap.size, 3, none⟩) (by dsimp only; omega)).trans d03
  replace d04 := (hb.cell (p := ⟨w.heap.size, 4, none⟩) (by dsimp only; omega)).trans d04
  replace d05 := (hb.cell (p := ⟨w.heap.size, 5, none⟩) (by dsimp only; omega)).trans d05
  replace d06 := (hb.cell (p := ⟨w.heap.size, 6, none⟩) (by dsimp only; omega)).trans d06
  replace d07 := (hb.cell (p := ⟨w.heap.size, 7, none⟩) (by dsimp only; omega)).trans d07
  replace d10 := (hb.cell (p := ⟨w.heap.size + 1, 0, none⟩) (by dsimp only; omega)).trans d10
  replace d11 := (hb.cell (p := ⟨w.heap.size + 1, 1, none⟩) (by dsimp only; omega)).trans d11
  replace d12 := (hb.cell (p := ⟨w.heap.size + 1, 2, none⟩) (by dsimp only; omega)).trans d12
  replace d13 := (hb.cell (p := ⟨w.heap.size + 1, 3, none⟩) (by dsimp only; omega)).trans d13
  replace d14 := (hb.cell (p := ⟨w.heap.size + 1, 4, none⟩) (by dsimp only; omega)).trans d14
  replace d15 := (hb.cell (p := ⟨w.heap.size + 1, 5, none⟩) (by dsimp only; omega)).trans d15
  replace d16 := (hb.cell (p := ⟨w.heap.size + 1, 6, none⟩) (by dsimp only; omega)).trans d16
  replace d17 := (hb.cell (p := ⟨w.heap.size + 1, 7, none⟩) (by dsimp only; omega)).trans d17
  have HBw2 := Lib.hid (HBw1.out.trans (hb.mono (by omega)))
  have hsw2 := hb.size
  clear hb
  go_wp2_with fail
  have hc := rpaths_any c1 s1 o1 p1 x1 n1 a1 b1 c2 s2 o2 p2 x2 n2 a2 b2 w2 h1 h2
  rw [hD] at hc
  refine hc.mono ?_
  rintro e w3 ⟨rfl, hb⟩
  clear hc
  replace d00 := (hb.cell (p := ⟨w.heap.size, 0, none⟩) (by dsimp only; omega)).trans d00
  replace d01 := (hb.cell (p := ⟨w.heap.size, 1, none⟩) (by dsimp only; omega)).trans d01
  replace d02 := (hb.cell (p := ⟨w.heap.size, 2, none⟩) (by dsimp only; omega)).trans d02
  replace d03 := (hb.cell (p := ⟨w.heap.size, 3, none⟩) (by dsimp only; omega)).trans d03
  replace d04 := (hb.cell (p := ⟨w.heap.size, 4, none⟩) (by dsimp only; omega)).trans d04
  replace d05 := (hb.cell (p := ⟨w.heap.size, 5, none⟩) (by dsimp only; omega)).trans d05
  replace d06 := (hb.cell (p := ⟨w.heap.size, 6, none⟩) (by dsimp only; omega)).trans d06
  replace d07 := (hb.cell (p := ⟨w.heap.size, 7, none⟩) (by dsimp only; omega)).trans d07
  replace d10 := (hb.cell (p := ⟨w.heap.size + 1, 0, none⟩) (by dsimp only; omega)).trans d10
  replace d11 := (hb.cell (p := ⟨w.heap.size + 1, 1, none⟩) (by dsimp only; omega)).trans d11
  replace d12 := (hb.cell (p := ⟨w.heap.size + 1, 2, none⟩) (by dsimp only; omega)).trans d12
  replace d13 := (hb.cell (p := ⟨w.heap.size + 1, 3, none⟩) (by dsimp only; omega)).trans d13
  replace d14 := (hb.cell (p := ⟨w.heap.size + 1, 4, none⟩) (by dsimp only; omega)).trans d14
  replace d15 := (hb.cell (p := ⟨w.heap.size + 1, 5, none⟩) (by dsimp only; omega)).trans d15
  replace d16 := (hb.cell (p := ⟨w.heap.size + 1, 6, none⟩) (by dsimp only; omega)).trans d16
  replace d17 := (hb.cell (p := ⟨w.heap.size + 1, 7, none⟩) (by dsimp only; omega)).trans d17
  have HBw3 := Lib.hid (HBw2.out.trans (hb.mono (by omega)))
  have hsw3 := hb.size
  clear hb
  go_wp2
  go_ret
  exact ⟨rfl, HBw3.out⟩
theorem rboth_any (c1 s1 o1 : Int) (p1 x1 : ByteArray) (n1 a1 b1 : Int) (c2 s2 o2 : Int) (p2 x2 : ByteArray) (n2 a2 b2 : Int) (w : World) (h1 : p1.size ≤ 1000) (h2 : p2.size ≤ 1000) :
    Calls Tryz.prog 22 #[.agg #[.int .i64 c1, .int .i64 s1, .int .i64 o1, .string p1, .string x1, .int .i64 n1, .int .i64 a1, .int .i64 b1], .agg #[.int .i64 c2, .int .i64 s2, .int .i64 o2, .string p2, .string x2, .int .i64 n2, .int .i64 a2, .int .i64 b2]] w fun e w' => e = .returned (.bool (bth c1 o1 p1 c2 o2 p2)) ∧ Below w.heap.size w w' := by
  by_cases z1 : o1 = 0
  · have e : bth c1 o1 p1 c2 o2 p2 = false := by unfold bth; simp [z1]
    rw [e]; exact rb_z1 c1 s1 o1 p1 x1 n1 a1 b1 c2 s2 o2 p2 x2 n2 a2 b2 w h1 h2 (by simpa using z1)
  · by_cases z2 : o2 = 0
    · have e : bth c1 o1 p1 c2 o2 p2 = false := by unfold bth; simp [z2]
      rw [e]; exact rb_z2 c1 s1 o1 p1 x1 n1 a1 b1 c2 s2 o2 p2 x2 n2 a2 b2 w h1 h2 (by simpa using z1) (by simpa using z2)
    · cases k1 : ctl o1 with
      | true =>
        have e : bth c1 o1 p1 c2 o2 p2 = true := by unfold bth; simp [z1, z2, k1]
        rw [e]; exact rb_c1 c1 s1 o1 p1 x1 n1 a1 b1 c2 s2 o2 p2 x2 n2 a2 b2 w h1 h2 (by simpa using z1) (by simpa using z2) k1
      | false =>
        cases k2 : ctl o2 with
        | true =>
          have e : bth c1 o1 p1 c2 o2 p2 = true := by unfold bth; simp [z1, z2, k1, k2]
          rw [e]; exact rb_c2 c1 s1 o1 p1 x1 n1 a1 b1 c2 s2 o2 p2 x2 n2 a2 b2 w h1 h2 (by simpa using z1) (by simpa using z2) k1 k2
        | false =>
          by_cases h3 : c1 = c2
          · have e : bth c1 o1 p1 c2 o2 p2 = true := by unfold bth; simp [z1, z2, k1, k2, h3]
            rw [e]; exact rb_cl c1 s1 o1 p1 x1 n1 a1 b1 c2 s2 o2 p2 x2 n2 a2 b2 w h1 h2 (by simpa using z1) (by simpa using z2) k1 k2 (by simpa using h3)
          · have e : bth c1 o1 p1 c2 o2 p2 = mtr o1 p1 o2 p2 := by unfold bth; simp [z1, z2, k1, k2, h3]
            rw [e]; exact rb_pt c1 s1 o1 p1 x1 n1 a1 b1 c2 s2 o2 p2 x2 n2 a2 b2 w h1 h2 (by simpa using z1) (by simpa using z2) k1 k2 (by simpa using h3) _ rfl
end Go.Proofs.YtfngjdcagopapaaGreat.Tc
