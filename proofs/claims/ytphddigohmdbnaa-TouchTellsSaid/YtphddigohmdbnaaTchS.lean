/-
  The document's cells: rows of them.
-/
import Derived.Test.YtphddigohmdbnaaTchX
import Derived.RegionTactic
namespace Go.Proofs.Ytphddigohmdbnaa
open Go.RowKit
set_option linter.unusedSimpArgs false
set_option linter.unusedVariables false

theorem infoRCell : (Try.prog.info? 52).map (fun i => (i.zero, i.size, i.bytes)) = some (some (.agg #[.string ByteArray.empty, .int .u8 0]), 2, 24) := by kernel_rfl
/-- The document's cells as elements of rows. -/
noncomputable def RK : Knd Try.prog Cl where
  T := 52
  S := 28
  k := 2
  enc := vc
  z := .agg #[.string ByteArray.empty, .int .u8 0]
  B := 24
  len := fun _ => rfl
  one := fun x v h => by simp [vc] at h; rcases h with rfl | rfl <;> rfl
  und := Try.underlying28
  info := infoRCell
  zc := rfl
  pos := by omega
  small := by omega
  d := (ByteArray.empty, 0)
def RkP (r x : List Cl) (w : World) (e : Ending) (w' : World) : Prop := ∃ v1 v2, Hid (e = .returned (.tuple #[v1, v2])) ∧ RK.Rd w' v1 r ∧ RK.Rd w' v2 x ∧ Below w.heap.size w w'
theorem rcells_no (cl sq op : Int) (pa va : ByteArray) (ver ca cb : Int) (w : World) (hp : pa.size ≤ 1000) (hv : vld pa = false) :
    Calls Try.prog 10 #[.agg #[.int .i64 cl, .int .i64 sq, .int .i64 op, .string pa, .string va, .int .i64 ver, .int .i64 ca, .int .i64 cb]] w (RkP [] [] w) := by
  have hb0 : Below w.heap.size w (w.alloc (.cells #[.int .i64 cl, .int .i64 sq, .int .i64 op, .string pa, .string va, .int .i64 ver, .int .i64 ca, .int .i64 cb] 24)) := (Below.refl _ _).alloc (Nat.le_refl _) _
  have HB0 := Lib.hid hb0
  have hc := rvalid_any pa (w.alloc (.cells #[.int .i64 cl, .int .i64 sq, .int .i64 op, .string pa, .string va, .int .i64 ver, .int .i64 ca, .int .i64 cb] 24)) hp
  rw [hv] at hc
  have HC := Lib.hid hc
  clear hc hb0
  go_enter Try.func10, Try.ntmps10
  go_wp2_with fail
  refine HC.out.mono ?_
  rintro e w1 ⟨rfl, hb⟩
  have HB := Lib.hid (HB0.out.trans (hb.mono (by simp)))
  clear hb
  go_wp2
  go_ret2
  exact ⟨_, _, Lib.hid rfl, Knd.Rd.nil _, Knd.Rd.nil _, HB.out⟩
set_option maxRecDepth 100000 in
set_option maxHeartbeats 2000000 in
theorem rcells_yes (cl sq op : Int) (pa va : ByteArray) (ver ca cb : Int) (w : World) (hp : pa.size ≤ 1000) (hv : vld pa = true) :
    Calls Try.prog 10 #[.agg #[.int .i64 cl, .int .i64 sq, .int .i64 op, .string pa, .string va, .int .i64 ver, .int .i64 ca, .int .i64 cb]] w (RkP (rds op pa) (wrs op pa) w) := by
  have hb0 : Below w.heap.size w (w.alloc (.cells #[.int .i64 cl, .int .i64 sq, .int .i64 op, .string pa, .string va, .int .i64 ver, .int .i64 ca, .int .i64 cb] 24)) := (Below.refl _ _).alloc (Nat.le_refl _) _
  have HB0 := Lib.hid hb0
  have hc := rvalid_any pa (w.alloc (.cells #[.int .i64 cl, .int .i64 sq, .int .i64 op, .string pa, .string va, .int .i64 ver, .int .i64 ca, .int .i64 cb] 24)) hp
  rw [hv] at hc
  have HC := Lib.hid hc
  have hz3 : (w.alloc (.cells #[.int .i64 cl, .int .i64 sq, .int .i64 op, .string pa, .string va, .int .i64 ver, .int .i64 ca, .int .i64 cb] 24)).heap.size = w.heap.size + 1 := by simp
  have d2 : (w.alloc (.cells #[.int .i64 cl, .int .i64 sq, .int .i64 op, .string pa, .string va, .int .i64 ver, .int .i64 ca, .int .i64 cb] 24)).cell? ⟨w.heap.size, 2, none⟩ = some (.int .i64 op) := new_cell w _ _ 2
  clear hc hb0
  go_enter Try.func10, Try.ntmps10
  go_wp2_with fail
  generalize (w.alloc (.cells #[.int .i64 cl, .int .i64 sq, .int .i64 op, .string pa, .string va, .int .i64 ver, .int .i64 ca, .int .i64 cb] 24)) = X0 at *
  refine HC.out.mono ?_
  rintro e w1 ⟨rfl, hb⟩
  replace d2 := (hb.cell (p := ⟨w.heap.size, 2, none⟩) (by dsimp only; omega)).trans d2
  have hs1 := hb.size
  have HB1 := Lib.hid (HB0.out.trans (hb.mono (by omega)))
  have HP := Lib.hid (rparent_any pa w1 hp)
  clear hb HC
  go_wp2_with fail
  refine HP.out.mono ?_
  rintro e w2 ⟨rfl, hb⟩
  replace d2 := (hb.cell (p := ⟨w.heap.size, 2, none⟩) (by dsimp only; omega)).trans d2
  have hs2 := hb.size
  have HB2 := Lib.hid (HB1.out.trans (hb.mono (by omega)))
  obtain ⟨Q, hQ⟩ : ∃ Q, par pa = Q := ⟨_, rfl⟩
  rw [hQ]
  have HQ := Lib.hid hQ
  have hz2 : w.heap.size < w2.heap.size := by omega
  clear hb HP hQ hs1 hs2 hz3
  have hx2 : (((w2.alloc (.cells #[.string pa, .int .u8 101] 52)).alloc (.cells #[.string pa, .int .u8 118] 52)).alloc (.cells #[.string pa, .int .u8 107] 52)).cell? ⟨w.heap.size, 2, none⟩ = some (.int .i64 op) := (old_cell _ _ _ _ (by simp; omega)).trans ((old_cell _ _ _ _ (by simp; omega)).trans ((old_cell _ _ _ _ hz2).trans d2))
  have HB3 : Hid (Below w.heap.size w (((w2.alloc (.cells #[.string pa, .int .u8 101] 52)).alloc (.cells #[.string pa, .int .u8 118] 52)).alloc (.cells #[.string pa, .int .u8 107] 52))) := Lib.hid (((HB2.out.alloc (by omega) _).alloc (by simp; omega) _).alloc (by simp; omega) _)
  by_cases h4 : op = 4
  · subst h4
    have e1 : Hid (rds 4 pa = [(pa, 101), (pa, 118)]) := Lib.hid (by unfold rds; simp [hv, *])
    have e2 : Hid (wrs 4 pa = []) := Lib.hid (by unfold wrs; simp [hv, *])
    go_wp2
    go_ret2
    rw [e1.out, e2.out]
    exact ⟨_, _, Lib.hid rfl, RK.rd_lit [(pa, 101), (pa, 118)] _ 2 2 rfl (by simp [maxLen]) _ _ (by simp), Knd.Rd.nil _, HB3.out.alloc (by simp; omega) _⟩
  by_cases h5 : op = 5
  · subst h5
    have e1 : Hid (rds 5 pa = [(pa, 101), (pa, 107)]) := Lib.hid (by unfold rds; simp [hv, *])
    have e2 : Hid (wrs 5 pa = []) := Lib.hid (by unfold wrs; simp [hv, *])
    go_wp2
    go_ret2
    rw [e1.out, e2.out]
    exact ⟨_, _, Lib.hid rfl, RK.rd_lit [(pa, 101), (pa, 107)] _ 2 2 rfl (by simp [maxLen]) _ _ (by simp), Knd.Rd.nil _, HB3.out.alloc (by simp; omega) _⟩
  have k4 : (op == 4) = false := by simpa using h4
  have k5 : (op == 5) = false := by simpa using h5
  by_cases h1 : op = 1
  · subst h1
    by_cases hn : nmL pa = []
    · obtain ⟨s1, s2⟩ := (root_str hv).1 hn
      have hr : rt = pa := by rw [vld_pth hv, hn]; rfl
      have e1 : Hid (rds 1 pa = [(pa, 101)]) := Lib.hid (by unfold rds; simp [hv, hn, hr])
      have e2 : Hid (wrs 1 pa = []) := Lib.hid (by unfold wrs; simp [hv, hn, hr])
      go_wp2
      go_ret2
      rw [e1.out, e2.out]
      exact ⟨_, _, Lib.hid rfl, RK.rd_lit [(pa, 101)] _ 1 1 rfl (by simp [maxLen]) _ _ (by simp), Knd.Rd.nil _, HB3.out.alloc (by simp; omega) _⟩
    · obtain ⟨s1, s2⟩ := (root_str hv).2 hn
      have e1 : Hid (rds 1 pa = [(Q, 101), (pa, 101)]) := Lib.hid (by unfold rds; simp [hv, HQ.out, hn])
      have e2 : Hid (wrs 1 pa = [(pa, 101), (pa, 118), (Q, 107)]) := Lib.hid (by unfold wrs; simp [hv, HQ.out, hn])
      go_wp2_with fail
      go_region
      all_goals go_wp2
      all_goals go_ret2
      all_goals rw [e1.out, e2.out]
      all_goals first
        | exact ⟨_, _, Lib.hid rfl, ((RK.rd_lit [(Q, 101), (pa, 101)] _ 2 2 rfl (by simp [maxLen]) _ _ (by simp)).below ((Below.refl _ _).alloc (Nat.le_refl _) _)).below (Below.refl _ _).drew, (RK.rd_lit [(pa, 101), (pa, 118), (Q, 107)] _ 3 3 rfl (by simp [maxLen]) _ _ (by simp)).below (Below.refl _ _).drew, ((HB3.out.alloc (by simp; omega) _).alloc (by simp; omega) _).drew⟩
        | exact ⟨_, _, Lib.hid rfl, (RK.rd_lit [(Q, 101), (pa, 101)] _ 2 2 rfl (by simp [maxLen]) _ _ (by simp)).below (Below.refl _ _).drew, ((RK.rd_lit [(pa, 101), (pa, 118), (Q, 107)] _ 3 3 rfl (by simp [maxLen]) _ _ (by simp)).below ((Below.refl _ _).alloc (Nat.le_refl _) _)).below (Below.refl _ _).drew, ((HB3.out.alloc (by simp; omega) _).alloc (by simp; omega) _).drew⟩
        | fail
  have k1 : (op == 1) = false := by simpa using h1
  by_cases h2 : op = 2
  · subst h2
    by_cases hn : nmL pa = []
    · obtain ⟨s1, s2⟩ := (root_str hv).1 hn
      have e1 : Hid (rds 2 pa = []) := Lib.hid (by unfold rds; simp [hv, hn])
      have e2 : Hid (wrs 2 pa = []) := Lib.hid (by unfold wrs; simp [hv, hn])
      go_wp2
      go_ret2
      rw [e1.out, e2.out]
      exact ⟨_, _, Lib.hid rfl, Knd.Rd.nil _, Knd.Rd.nil _, HB3.out⟩
    · obtain ⟨s1, s2⟩ := (root_str hv).2 hn
      have e1 : Hid (rds 2 pa = [(pa, 101), (pa, 107)]) := Lib.hid (by unfold rds; simp [hv, HQ.out, hn])
      have e2 : Hid (wrs 2 pa = [(pa, 101), (pa, 118), (Q, 107)]) := Lib.hid (by unfold wrs; simp [hv, HQ.out, hn])
      go_wp2_with fail
      go_region
      all_goals go_wp2
      all_goals go_ret2
      all_goals rw [e1.out, e2.out]
      all_goals first
        | exact ⟨_, _, Lib.hid rfl, ((RK.rd_lit [(pa, 101), (pa, 107)] _ 2 2 rfl (by simp [maxLen]) _ _ (by simp)).below ((Below.refl _ _).alloc (Nat.le_refl _) _)).below (Below.refl _ _).drew, (RK.rd_lit [(pa, 101), (pa, 118), (Q, 107)] _ 3 3 rfl (by simp [maxLen]) _ _ (by simp)).below (Below.refl _ _).drew, ((HB3.out.alloc (by simp; omega) _).alloc (by simp; omega) _).drew⟩
        | exact ⟨_, _, Lib.hid rfl, (RK.rd_lit [(pa, 101), (pa, 107)] _ 2 2 rfl (by simp [maxLen]) _ _ (by simp)).below (Below.refl _ _).drew, ((RK.rd_lit [(pa, 101), (pa, 118), (Q, 107)] _ 3 3 rfl (by simp [maxLen]) _ _ (by simp)).below ((Below.refl _ _).alloc (Nat.le_refl _) _)).below (Below.refl _ _).drew, ((HB3.out.alloc (by simp; omega) _).alloc (by simp; omega) _).drew⟩
        | fail
  have k2 : (op == 2) = false := by simpa using h2
  by_cases h3 : op = 3
  · subst h3
    by_cases hn : nmL pa = []
    · obtain ⟨s1, s2⟩ := (root_str hv).1 hn
      have e1 : Hid (rds 3 pa = []) := Lib.hid (by unfold rds; simp [hv, hn])
      have e2 : Hid (wrs 3 pa = []) := Lib.hid (by unfold wrs; simp [hv, hn])
      go_wp2
      go_ret2
      rw [e1.out, e2.out]
      exact ⟨_, _, Lib.hid rfl, Knd.Rd.nil _, Knd.Rd.nil _, HB3.out⟩
    · obtain ⟨s1, s2⟩ := (root_str hv).2 hn
      have e1 : Hid (rds 3 pa = [(pa, 101)]) := Lib.hid (by unfold rds; simp [hv, HQ.out, hn])
      have e2 : Hid (wrs 3 pa = [(pa, 118)]) := Lib.hid (by unfold wrs; simp [hv, HQ.out, hn])
      go_wp2_with fail
      go_region
      all_goals go_wp2
      all_goals go_ret2
      all_goals rw [e1.out, e2.out]
      all_goals first
        | exact ⟨_, _, Lib.hid rfl, ((RK.rd_lit [(pa, 101)] _ 1 1 rfl (by simp [maxLen]) _ _ (by simp)).below ((Below.refl _ _).alloc (Nat.le_refl _) _)).below (Below.refl _ _).drew, (RK.rd_lit [(pa, 118)] _ 1 1 rfl (by simp [maxLen]) _ _ (by simp)).below (Below.refl _ _).drew, ((HB3.out.alloc (by simp; omega) _).alloc (by simp; omega) _).drew⟩
        | exact ⟨_, _, Lib.hid rfl, (RK.rd_lit [(pa, 101)] _ 1 1 rfl (by simp [maxLen]) _ _ (by simp)).below (Below.refl _ _).drew, ((RK.rd_lit [(pa, 118)] _ 1 1 rfl (by simp [maxLen]) _ _ (by simp)).below ((Below.refl _ _).alloc (Nat.le_refl _) _)).below (Below.refl _ _).drew, ((HB3.out.alloc (by simp; omega) _).alloc (by simp; omega) _).drew⟩
        | fail
  have k3 : (op == 3) = false := by simpa using h3
  by_cases h6 : op = 6
  · subst h6
    by_cases hn : nmL pa = []
    · obtain ⟨s1, s2⟩ := (root_str hv).1 hn
      have e1 : Hid (rds 6 pa = []) := Lib.hid (by unfold rds; simp [hv, hn])
      have e2 : Hid (wrs 6 pa = []) := Lib.hid (by unfold wrs; simp [hv, hn])
      go_wp2
      go_ret2
      rw [e1.out, e2.out]
      exact ⟨_, _, Lib.hid rfl, Knd.Rd.nil _, Knd.Rd.nil _, HB3.out⟩
    · obtain ⟨s1, s2⟩ := (root_str hv).2 hn
      have e1 : Hid (rds 6 pa = [(pa, 101), (pa, 118)]) := Lib.hid (by unfold rds; simp [hv, HQ.out, hn])
      have e2 : Hid (wrs 6 pa = [(pa, 118)]) := Lib.hid (by unfold wrs; simp [hv, HQ.out, hn])
      go_wp2_with fail
      go_region
      all_goals go_wp2
      all_goals go_ret2
      all_goals rw [e1.out, e2.out]
      all_goals first
        | exact ⟨_, _, Lib.hid rfl, ((RK.rd_lit [(pa, 101), (pa, 118)] _ 2 2 rfl (by simp [maxLen]) _ _ (by simp)).below ((Below.refl _ _).alloc (Nat.le_refl _) _)).below (Below.refl _ _).drew, (RK.rd_lit [(pa, 118)] _ 1 1 rfl (by simp [maxLen]) _ _ (by simp)).below (Below.refl _ _).drew, ((HB3.out.alloc (by simp; omega) _).alloc (by simp; omega) _).drew⟩
        | exact ⟨_, _, Lib.hid rfl, (RK.rd_lit [(pa, 101), (pa, 118)] _ 2 2 rfl (by simp [maxLen]) _ _ (by simp)).below (Below.refl _ _).drew, ((RK.rd_lit [(pa, 118)] _ 1 1 rfl (by simp [maxLen]) _ _ (by simp)).below ((Below.refl _ _).alloc (Nat.le_refl _) _)).below (Below.refl _ _).drew, ((HB3.out.alloc (by simp; omega) _).alloc (by simp; omega) _).drew⟩
        | fail
  have k6 : (op == 6) = false := by simpa using h6
  have e1 : Hid (rds op pa = []) := Lib.hid (by unfold rds; simp [hv, *])
  have e2 : Hid (wrs op pa = []) := Lib.hid (by unfold wrs; simp [hv, *])
  go_wp2
  go_ret2
  rw [e1.out, e2.out]
  exact ⟨_, _, Lib.hid rfl, Knd.Rd.nil _, Knd.Rd.nil _, HB3.out⟩
theorem rcells_any (cl sq op : Int) (pa va : ByteArray) (ver ca cb : Int) (w : World) (hp : pa.size ≤ 1000) :
    Calls Try.prog 10 #[.agg #[.int .i64 cl, .int .i64 sq, .int .i64 op, .string pa, .string va, .int .i64 ver, .int .i64 ca, .int .i64 cb]] w (RkP (rds op pa) (wrs op pa) w) := by
  cases hv : vld pa with
  | false =>
    have h := rcells_no cl sq op pa va ver ca cb w hp hv
    have e1 : rds op pa = [] := by unfold rds; simp [hv]
    have e2 : wrs op pa = [] := by unfold wrs; simp [hv]
    rw [e1, e2]
    exact h
  | true => exact rcells_yes cl sq op pa va ver ca cb w hp hv
end Go.Proofs.Ytphddigohmdbnaa
