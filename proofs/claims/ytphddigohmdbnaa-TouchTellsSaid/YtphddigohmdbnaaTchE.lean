/-
  The walks of package touch: what a command reads, and what it writes.
-/
import Derived.Test.YtphddigohmdbnaaTchD
namespace Go.Proofs.Ytphddigohmdbnaa
open Go.RowKit
set_option linter.unusedSimpArgs false
set_option linter.unusedVariables false

set_option maxHeartbeats 4000000 in
theorem reads_get (cl sq : Int) (pa va : ByteArray) (ver ca cb : Int) (w : World) (hp : pa.size ≤ 1000) (hm : ML w) (hv : vld pa = true)  :
    Calls Try.prog 12 #[.agg #[.int .i64 cl, .int .i64 sq, .int .i64 4, .string pa, .string va, .int .i64 ver, .int .i64 ca, .int .i64 cb]] w (ClP (rds 4 pa) w) := by
  have hM1 : ML (w.alloc (.cells #[.int .i64 cl, .int .i64 sq, .int .i64 4, .string pa, .string va, .int .i64 ver, .int .i64 ca, .int .i64 cb] 24)) := hm.below ((Below.refl _ _).alloc (Nat.le_refl _) _)
  have cV := valid_any pa _ hp hM1
  rw [hv] at cV
  have HR : Hid (rds 4 pa = [(pa, 101), (pa, 118)]) := Lib.hid (by unfold rds; simp [hv])
  clear hm hM1 hp hv
  go_enter Try.func12, Try.ntmps12
  go_wp2_with (first
    | (go_at_call 27; refine cV.mono ?_; rintro e w1 ⟨rfl, hb⟩; have c3 : w1.cell? ⟨w.heap.size, 3, none⟩ = some (.string pa) := (hb.cell (p := ⟨w.heap.size, 3, none⟩) (by simp)).trans (by simp [go_sem]); have c2 : w1.cell? ⟨w.heap.size, 2, none⟩ = some (.int .i64 4) := (hb.cell (p := ⟨w.heap.size, 2, none⟩) (by simp)).trans (by simp [go_sem]); have hz : w.heap.size < w1.heap.size := Nat.lt_of_lt_of_le (by simp) hb.size; have HB := Lib.hid hb; clear hb)
    | (go_at_call 30; refine (cells_any pa _ _ _ [101, 118] 2 rfl _ (by omega) (by simp) (by intro i hi; match i, hi with | 0, _ => simp [go_sem, *] | 1, _ => simp [go_sem, *])).mono ?_; rintro e w2 ⟨v2, he, ho, hb2⟩; subst he; have HO := Lib.hid ho; have HB2 := Lib.hid hb2; clear ho hb2))
  go_ret
  exact ⟨v2, rfl, by rw [HR.out]; exact HO.out.base (by simp; omega), ((Below.refl _ _).alloc (Nat.le_refl _) _).trans ((HB.out.mono (by simp)).trans ((((Below.refl _ _).alloc (Nat.le_refl _) _).mono (by omega)).trans (HB2.out.mono (by simp; omega))))⟩
set_option maxHeartbeats 4000000 in
theorem reads_list (cl sq : Int) (pa va : ByteArray) (ver ca cb : Int) (w : World) (hp : pa.size ≤ 1000) (hm : ML w) (hv : vld pa = true)  :
    Calls Try.prog 12 #[.agg #[.int .i64 cl, .int .i64 sq, .int .i64 5, .string pa, .string va, .int .i64 ver, .int .i64 ca, .int .i64 cb]] w (ClP (rds 5 pa) w) := by
  have hM1 : ML (w.alloc (.cells #[.int .i64 cl, .int .i64 sq, .int .i64 5, .string pa, .string va, .int .i64 ver, .int .i64 ca, .int .i64 cb] 24)) := hm.below ((Below.refl _ _).alloc (Nat.le_refl _) _)
  have cV := valid_any pa _ hp hM1
  rw [hv] at cV
  have HR : Hid (rds 5 pa = [(pa, 101), (pa, 107)]) := Lib.hid (by unfold rds; simp [hv])
  clear hm hM1 hp hv
  go_enter Try.func12, Try.ntmps12
  go_wp2_with (first
    | (go_at_call 27; refine cV.mono ?_; rintro e w1 ⟨rfl, hb⟩; have c3 : w1.cell? ⟨w.heap.size, 3, none⟩ = some (.string pa) := (hb.cell (p := ⟨w.heap.size, 3, none⟩) (by simp)).trans (by simp [go_sem]); have c2 : w1.cell? ⟨w.heap.size, 2, none⟩ = some (.int .i64 5) := (hb.cell (p := ⟨w.heap.size, 2, none⟩) (by simp)).trans (by simp [go_sem]); have hz : w.heap.size < w1.heap.size := Nat.lt_of_lt_of_le (by simp) hb.size; have HB := Lib.hid hb; clear hb)
    | (go_at_call 30; refine (cells_any pa _ _ _ [101, 107] 2 rfl _ (by omega) (by simp) (by intro i hi; match i, hi with | 0, _ => simp [go_sem, *] | 1, _ => simp [go_sem, *])).mono ?_; rintro e w2 ⟨v2, he, ho, hb2⟩; subst he; have HO := Lib.hid ho; have HB2 := Lib.hid hb2; clear ho hb2))
  go_ret
  exact ⟨v2, rfl, by rw [HR.out]; exact HO.out.base (by simp; omega), ((Below.refl _ _).alloc (Nat.le_refl _) _).trans ((HB.out.mono (by simp)).trans ((((Below.refl _ _).alloc (Nat.le_refl _) _).mono (by omega)).trans (HB2.out.mono (by simp; omega))))⟩
set_option maxHeartbeats 4000000 in
theorem reads_root1 (cl sq : Int) (pa va : ByteArray) (ver ca cb : Int) (w : World) (hp : pa.size ≤ 1000) (hm : ML w) (hv : vld pa = true) (hn : nmL pa = []) :
    Calls Try.prog 12 #[.agg #[.int .i64 cl, .int .i64 sq, .int .i64 1, .string pa, .string va, .int .i64 ver, .int .i64 ca, .int .i64 cb]] w (ClP (rds 1 pa) w) := by
  have hM1 : ML (w.alloc (.cells #[.int .i64 cl, .int .i64 sq, .int .i64 1, .string pa, .string va, .int .i64 ver, .int .i64 ca, .int .i64 cb] 24)) := hm.below ((Below.refl _ _).alloc (Nat.le_refl _) _)
  have cV := valid_any pa _ hp hM1
  rw [hv] at cV
  have HR : Hid (rds 1 pa = [(rt, 101)]) := Lib.hid (by unfold rds; simp [hv, hn])
  obtain ⟨s1, s2⟩ := (root_str hv).1 hn
  clear hn
  clear hm hM1 hp hv
  go_enter Try.func12, Try.ntmps12
  go_wp2_with (first
    | (go_at_call 27; refine cV.mono ?_; rintro e w1 ⟨rfl, hb⟩; have c3 : w1.cell? ⟨w.heap.size, 3, none⟩ = some (.string pa) := (hb.cell (p := ⟨w.heap.size, 3, none⟩) (by simp)).trans (by simp [go_sem]); have c2 : w1.cell? ⟨w.heap.size, 2, none⟩ = some (.int .i64 1) := (hb.cell (p := ⟨w.heap.size, 2, none⟩) (by simp)).trans (by simp [go_sem]); have hz : w.heap.size < w1.heap.size := Nat.lt_of_lt_of_le (by simp) hb.size; have HB := Lib.hid hb; clear hb)
    | (go_at_call 30; refine (cells_any _ _ _ _ [101] 1 rfl _ (by omega) (by simp) (by intro i hi; match i, hi with | 0, _ => simp [go_sem, *])).mono ?_; rintro e w2 ⟨v2, he, ho, hb2⟩; subst he; have HO := Lib.hid ho; have HB2 := Lib.hid hb2; clear ho hb2))
  go_ret
  exact ⟨v2, rfl, by rw [HR.out]; exact HO.out.base (by simp; omega), ((Below.refl _ _).alloc (Nat.le_refl _) _).trans ((HB.out.mono (by simp)).trans ((((Below.refl _ _).alloc (Nat.le_refl _) _).mono (by omega)).trans (HB2.out.mono (by simp; omega))))⟩
set_option maxHeartbeats 4000000 in
theorem reads_root (cl sq op : Int) (pa va : ByteArray) (ver ca cb : Int) (w : World) (hp : pa.size ≤ 1000) (hm : ML w) (hv : vld pa = true) (h1 : op ≠ 1) (h4 : op ≠ 4) (h5 : op ≠ 5) (hn : nmL pa = []) :
    Calls Try.prog 12 #[.agg #[.int .i64 cl, .int .i64 sq, .int .i64 op, .string pa, .string va, .int .i64 ver, .int .i64 ca, .int .i64 cb]] w (ClP (rds op pa) w) := by
  have hM1 : ML (w.alloc (.cells #[.int .i64 cl, .int .i64 sq, .int .i64 op, .string pa, .string va, .int .i64 ver, .int .i64 ca, .int .i64 cb] 24)) := hm.below ((Below.refl _ _).alloc (Nat.le_refl _) _)
  have cV := valid_any pa _ hp hM1
  rw [hv] at cV
  have HR : Hid (rds op pa = []) := Lib.hid (by unfold rds; simp [hv, hn, h1, h4, h5])
  obtain ⟨s1, s2⟩ := (root_str hv).1 hn
  clear hn
  have z1 : (op == 1) = false := by simpa using h1
  have z4 : (op == 4) = false := by simpa using h4
  have z5 : (op == 5) = false := by simpa using h5
  clear h1 h4 h5
  clear hm hM1 hp hv
  go_enter Try.func12, Try.ntmps12
  go_wp2_with (first
    | (go_at_call 27; refine cV.mono ?_; rintro e w1 ⟨rfl, hb⟩; have c3 : w1.cell? ⟨w.heap.size, 3, none⟩ = some (.string pa) := (hb.cell (p := ⟨w.heap.size, 3, none⟩) (by simp)).trans (by simp [go_sem]); have c2 : w1.cell? ⟨w.heap.size, 2, none⟩ = some (.int .i64 op) := (hb.cell (p := ⟨w.heap.size, 2, none⟩) (by simp)).trans (by simp [go_sem]); have hz : w.heap.size < w1.heap.size := Nat.lt_of_lt_of_le (by simp) hb.size; have HB := Lib.hid hb; clear hb))
  go_ret
  exact ⟨_, rfl, by rw [HR.out]; exact Own2.nil _ _, ((Below.refl _ _).alloc (Nat.le_refl _) _).trans (HB.out.mono (by simp))⟩
set_option maxHeartbeats 4000000 in
theorem reads_del (cl sq : Int) (pa va : ByteArray) (ver ca cb : Int) (w : World) (hp : pa.size ≤ 1000) (hm : ML w) (hv : vld pa = true) (hn : nmL pa ≠ []) :
    Calls Try.prog 12 #[.agg #[.int .i64 cl, .int .i64 sq, .int .i64 2, .string pa, .string va, .int .i64 ver, .int .i64 ca, .int .i64 cb]] w (ClP (rds 2 pa) w) := by
  have hM1 : ML (w.alloc (.cells #[.int .i64 cl, .int .i64 sq, .int .i64 2, .string pa, .string va, .int .i64 ver, .int .i64 ca, .int .i64 cb] 24)) := hm.below ((Below.refl _ _).alloc (Nat.le_refl _) _)
  have cV := valid_any pa _ hp hM1
  rw [hv] at cV
  have HR : Hid (rds 2 pa = [(pa, 101), (pa, 107)]) := Lib.hid (by unfold rds; simp [hv, hn])
  obtain ⟨s1, s2⟩ := (root_str hv).2 hn
  clear hn
  clear hm hM1 hp hv
  go_enter Try.func12, Try.ntmps12
  go_wp2_with (first
    | (go_at_call 27; refine cV.mono ?_; rintro e w1 ⟨rfl, hb⟩; have c3 : w1.cell? ⟨w.heap.size, 3, none⟩ = some (.string pa) := (hb.cell (p := ⟨w.heap.size, 3, none⟩) (by simp)).trans (by simp [go_sem]); have c2 : w1.cell? ⟨w.heap.size, 2, none⟩ = some (.int .i64 2) := (hb.cell (p := ⟨w.heap.size, 2, none⟩) (by simp)).trans (by simp [go_sem]); have hz : w.heap.size < w1.heap.size := Nat.lt_of_lt_of_le (by simp) hb.size; have HB := Lib.hid hb; clear hb)
    | (go_at_call 30; refine (cells_any pa _ _ _ [101, 107] 2 rfl _ (by omega) (by simp) (by intro i hi; match i, hi with | 0, _ => simp [go_sem, *] | 1, _ => simp [go_sem, *])).mono ?_; rintro e w2 ⟨v2, he, ho, hb2⟩; subst he; have HO := Lib.hid ho; have HB2 := Lib.hid hb2; clear ho hb2))
  go_ret
  exact ⟨v2, rfl, by rw [HR.out]; exact HO.out.base (by simp; omega), ((Below.refl _ _).alloc (Nat.le_refl _) _).trans ((HB.out.mono (by simp)).trans ((((Below.refl _ _).alloc (Nat.le_refl _) _).mono (by omega)).trans (HB2.out.mono (by simp; omega))))⟩
set_option maxHeartbeats 4000000 in
theorem reads_set (cl sq : Int) (pa va : ByteArray) (ver ca cb : Int) (w : World) (hp : pa.size ≤ 1000) (hm : ML w) (hv : vld pa = true) (hn : nmL pa ≠ []) :
    Calls Try.prog 12 #[.agg #[.int .i64 cl, .int .i64 sq, .int .i64 3, .string pa, .string va, .int .i64 ver, .int .i64 ca, .int .i64 cb]] w (ClP (rds 3 pa) w) := by
  have hM1 : ML (w.alloc (.cells #[.int .i64 cl, .int .i64 sq, .int .i64 3, .string pa, .string va, .int .i64 ver, .int .i64 ca, .int .i64 cb] 24)) := hm.below ((Below.refl _ _).alloc (Nat.le_refl _) _)
  have cV := valid_any pa _ hp hM1
  rw [hv] at cV
  have HR : Hid (rds 3 pa = [(pa, 101)]) := Lib.hid (by unfold rds; simp [hv, hn])
  obtain ⟨s1, s2⟩ := (root_str hv).2 hn
  clear hn
  clear hm hM1 hp hv
  go_enter Try.func12, Try.ntmps12
  go_wp2_with (first
    | (go_at_call 27; refine cV.mono ?_; rintro e w1 ⟨rfl, hb⟩; have c3 : w1.cell? ⟨w.heap.size, 3, none⟩ = some (.string pa) := (hb.cell (p := ⟨w.heap.size, 3, none⟩) (by simp)).trans (by simp [go_sem]); have c2 : w1.cell? ⟨w.heap.size, 2, none⟩ = some (.int .i64 3) := (hb.cell (p := ⟨w.heap.size, 2, none⟩) (by simp)).trans (by simp [go_sem]); have hz : w.heap.size < w1.heap.size := Nat.lt_of_lt_of_le (by simp) hb.size; have HB := Lib.hid hb; clear hb)
    | (go_at_call 30; refine (cells_any pa _ _ _ [101] 1 rfl _ (by omega) (by simp) (by intro i hi; match i, hi with | 0, _ => simp [go_sem, *])).mono ?_; rintro e w2 ⟨v2, he, ho, hb2⟩; subst he; have HO := Lib.hid ho; have HB2 := Lib.hid hb2; clear ho hb2))
  go_ret
  exact ⟨v2, rfl, by rw [HR.out]; exact HO.out.base (by simp; omega), ((Below.refl _ _).alloc (Nat.le_refl _) _).trans ((HB.out.mono (by simp)).trans ((((Below.refl _ _).alloc (Nat.le_refl _) _).mono (by omega)).trans (HB2.out.mono (by simp; omega))))⟩
set_option maxHeartbeats 4000000 in
theorem reads_cas (cl sq : Int) (pa va : ByteArray) (ver ca cb : Int) (w : World) (hp : pa.size ≤ 1000) (hm : ML w) (hv : vld pa = true) (hn : nmL pa ≠ []) :
    Calls Try.prog 12 #[.agg #[.int .i64 cl, .int .i64 sq, .int .i64 6, .string pa, .string va, .int .i64 ver, .int .i64 ca, .int .i64 cb]] w (ClP (rds 6 pa) w) := by
  have hM1 : ML (w.alloc (.cells #[.int .i64 cl, .int .i64 sq, .int .i64 6, .string pa, .string va, .int .i64 ver, .int .i64 ca, .int .i64 cb] 24)) := hm.below ((Below.refl _ _).alloc (Nat.le_refl _) _)
  have cV := valid_any pa _ hp hM1
  rw [hv] at cV
  have HR : Hid (rds 6 pa = [(pa, 101), (pa, 118)]) := Lib.hid (by unfold rds; simp [hv, hn])
  obtain ⟨s1, s2⟩ := (root_str hv).2 hn
  clear hn
  clear hm hM1 hp hv
  go_enter Try.func12, Try.ntmps12
  go_wp2_with (first
    | (go_at_call 27; refine cV.mono ?_; rintro e w1 ⟨rfl, hb⟩; have c3 : w1.cell? ⟨w.heap.size, 3, none⟩ = some (.string pa) := (hb.cell (p := ⟨w.heap.size, 3, none⟩) (by simp)).trans (by simp [go_sem]); have c2 : w1.cell? ⟨w.heap.size, 2, none⟩ = some (.int .i64 6) := (hb.cell (p := ⟨w.heap.size, 2, none⟩) (by simp)).trans (by simp [go_sem]); have hz : w.heap.size < w1.heap.size := Nat.lt_of_lt_of_le (by simp) hb.size; have HB := Lib.hid hb; clear hb)
    | (go_at_call 30; refine (cells_any pa _ _ _ [101, 118] 2 rfl _ (by omega) (by simp) (by intro i hi; match i, hi with | 0, _ => simp [go_sem, *] | 1, _ => simp [go_sem, *])).mono ?_; rintro e w2 ⟨v2, he, ho, hb2⟩; subst he; have HO := Lib.hid ho; have HB2 := Lib.hid hb2; clear ho hb2))
  go_ret
  exact ⟨v2, rfl, by rw [HR.out]; exact HO.out.base (by simp; omega), ((Below.refl _ _).alloc (Nat.le_refl _) _).trans ((HB.out.mono (by simp)).trans ((((Below.refl _ _).alloc (Nat.le_refl _) _).mono (by omega)).trans (HB2.out.mono (by simp; omega))))⟩
set_option maxHeartbeats 4000000 in
theorem reads_oth (cl sq op : Int) (pa va : ByteArray) (ver ca cb : Int) (w : World) (hp : pa.size ≤ 1000) (hm : ML w) (hv : vld pa = true) (h1 : op ≠ 1) (h4 : op ≠ 4) (h5 : op ≠ 5) (h2 : op ≠ 2) (h3 : op ≠ 3) (h6 : op ≠ 6) (hn : nmL pa ≠ []) :
    Calls Try.prog 12 #[.agg #[.int .i64 cl, .int .i64 sq, .int .i64 op, .string pa, .string va, .int .i64 ver, .int .i64 ca, .int .i64 cb]] w (ClP (rds op pa) w) := by
  have hM1 : ML (w.alloc (.cells #[.int .i64 cl, .int .i64 sq, .int .i64 op, .string pa, .string va, .int .i64 ver, .int .i64 ca, .int .i64 cb] 24)) := hm.below ((Below.refl _ _).alloc (Nat.le_refl _) _)
  have cV := valid_any pa _ hp hM1
  rw [hv] at cV
  have HR : Hid (rds op pa = []) := Lib.hid (by unfold rds; simp [hv, hn, h1, h2, h3, h4, h5, h6])
  obtain ⟨s1, s2⟩ := (root_str hv).2 hn
  clear hn
  have z1 : (op == 1) = false := by simpa using h1
  have z4 : (op == 4) = false := by simpa using h4
  have z5 : (op == 5) = false := by simpa using h5
  have z2 : (op == 2) = false := by simpa using h2
  have z3 : (op == 3) = false := by simpa using h3
  have z6 : (op == 6) = false := by simpa using h6
  clear h1 h2 h3 h4 h5 h6
  clear hm hM1 hp hv
  go_enter Try.func12, Try.ntmps12
  go_wp2_with (first
    | (go_at_call 27; refine cV.mono ?_; rintro e w1 ⟨rfl, hb⟩; have c3 : w1.cell? ⟨w.heap.size, 3, none⟩ = some (.string pa) := (hb.cell (p := ⟨w.heap.size, 3, none⟩) (by simp)).trans (by simp [go_sem]); have c2 : w1.cell? ⟨w.heap.size, 2, none⟩ = some (.int .i64 op) := (hb.cell (p := ⟨w.heap.size, 2, none⟩) (by simp)).trans (by simp [go_sem]); have hz : w.heap.size < w1.heap.size := Nat.lt_of_lt_of_le (by simp) hb.size; have HB := Lib.hid hb; clear hb))
  go_ret
  exact ⟨_, rfl, by rw [HR.out]; exact Own2.nil _ _, ((Below.refl _ _).alloc (Nat.le_refl _) _).trans (HB.out.mono (by simp))⟩
set_option maxHeartbeats 4000000 in
theorem writes_root (cl sq op : Int) (pa va : ByteArray) (ver ca cb : Int) (w : World) (hp : pa.size ≤ 1000) (hm : ML w) (hv : vld pa = true) (hn : nmL pa = []) :
    Calls Try.prog 13 #[.agg #[.int .i64 cl, .int .i64 sq, .int .i64 op, .string pa, .string va, .int .i64 ver, .int .i64 ca, .int .i64 cb]] w (ClP (wrs op pa) w) := by
  have hM1 : ML (w.alloc (.cells #[.int .i64 cl, .int .i64 sq, .int .i64 op, .string pa, .string va, .int .i64 ver, .int .i64 ca, .int .i64 cb] 24)) := hm.below ((Below.refl _ _).alloc (Nat.le_refl _) _)
  have cV := valid_any pa _ hp hM1
  rw [hv] at cV
  have HR : Hid (wrs op pa = []) := Lib.hid (by unfold wrs; simp [hn])
  obtain ⟨s1, s2⟩ := (root_str hv).1 hn
  clear hn
  clear hm hM1 hp hv
  go_enter Try.func13, Try.ntmps13
  go_wp2_with (first
    | (go_at_call 27; refine cV.mono ?_; rintro e w1 ⟨rfl, hb⟩; have c3 : w1.cell? ⟨w.heap.size, 3, none⟩ = some (.string pa) := (hb.cell (p := ⟨w.heap.size, 3, none⟩) (by simp)).trans (by simp [go_sem]); have c2 : w1.cell? ⟨w.heap.size, 2, none⟩ = some (.int .i64 op) := (hb.cell (p := ⟨w.heap.size, 2, none⟩) (by simp)).trans (by simp [go_sem]); have hz : w.heap.size < w1.heap.size := Nat.lt_of_lt_of_le (by simp) hb.size; have HB := Lib.hid hb; clear hb))
  go_ret
  exact ⟨_, rfl, by rw [HR.out]; exact Own2.nil _ _, ((Below.refl _ _).alloc (Nat.le_refl _) _).trans (HB.out.mono (by simp))⟩
set_option maxHeartbeats 4000000 in
theorem writes_set (cl sq : Int) (pa va : ByteArray) (ver ca cb : Int) (w : World) (hp : pa.size ≤ 1000) (hm : ML w) (hv : vld pa = true) (hn : nmL pa ≠ []) :
    Calls Try.prog 13 #[.agg #[.int .i64 cl, .int .i64 sq, .int .i64 3, .string pa, .string va, .int .i64 ver, .int .i64 ca, .int .i64 cb]] w (ClP (wrs 3 pa) w) := by
  have hM1 : ML (w.alloc (.cells #[.int .i64 cl, .int .i64 sq, .int .i64 3, .string pa, .string va, .int .i64 ver, .int .i64 ca, .int .i64 cb] 24)) := hm.below ((Below.refl _ _).alloc (Nat.le_refl _) _)
  have cV := valid_any pa _ hp hM1
  rw [hv] at cV
  have HR : Hid (wrs 3 pa = [(pa, 118)]) := Lib.hid (by unfold wrs; simp [hv, hn])
  obtain ⟨s1, s2⟩ := (root_str hv).2 hn
  clear hn
  clear hm hM1 hp hv
  go_enter Try.func13, Try.ntmps13
  go_wp2_with (first
    | (go_at_call 27; refine cV.mono ?_; rintro e w1 ⟨rfl, hb⟩; have c3 : w1.cell? ⟨w.heap.size, 3, none⟩ = some (.string pa) := (hb.cell (p := ⟨w.heap.size, 3, none⟩) (by simp)).trans (by simp [go_sem]); have c2 : w1.cell? ⟨w.heap.size, 2, none⟩ = some (.int .i64 3) := (hb.cell (p := ⟨w.heap.size, 2, none⟩) (by simp)).trans (by simp [go_sem]); have hz : w.heap.size < w1.heap.size := Nat.lt_of_lt_of_le (by simp) hb.size; have HB := Lib.hid hb; clear hb)
    | (go_at_call 30; refine (cells_any pa _ _ _ [118] 1 rfl _ (by omega) (by simp) (by intro i hi; match i, hi with | 0, _ => simp [go_sem, *])).mono ?_; rintro e w2 ⟨v2, he, ho, hb2⟩; subst he; have HO := Lib.hid ho; have HB2 := Lib.hid hb2; clear ho hb2))
  go_ret
  exact ⟨v2, rfl, by rw [HR.out]; exact HO.out.base (by simp; omega), ((Below.refl _ _).alloc (Nat.le_refl _) _).trans ((HB.out.mono (by simp)).trans ((((Below.refl _ _).alloc (Nat.le_refl _) _).mono (by omega)).trans (HB2.out.mono (by simp; omega))))⟩
set_option maxHeartbeats 4000000 in
theorem writes_cas (cl sq : Int) (pa va : ByteArray) (ver ca cb : Int) (w : World) (hp : pa.size ≤ 1000) (hm : ML w) (hv : vld pa = true) (hn : nmL pa ≠ []) :
    Calls Try.prog 13 #[.agg #[.int .i64 cl, .int .i64 sq, .int .i64 6, .string pa, .string va, .int .i64 ver, .int .i64 ca, .int .i64 cb]] w (ClP (wrs 6 pa) w) := by
  have hM1 : ML (w.alloc (.cells #[.int .i64 cl, .int .i64 sq, .int .i64 6, .string pa, .string va, .int .i64 ver, .int .i64 ca, .int .i64 cb] 24)) := hm.below ((Below.refl _ _).alloc (Nat.le_refl _) _)
  have cV := valid_any pa _ hp hM1
  rw [hv] at cV
  have HR : Hid (wrs 6 pa = [(pa, 118)]) := Lib.hid (by unfold wrs; simp [hv, hn])
  obtain ⟨s1, s2⟩ := (root_str hv).2 hn
  clear hn
  clear hm hM1 hp hv
  go_enter Try.func13, Try.ntmps13
  go_wp2_with (first
    | (go_at_call 27; refine cV.mono ?_; rintro e w1 ⟨rfl, hb⟩; have c3 : w1.cell? ⟨w.heap.size, 3, none⟩ = some (.string pa) := (hb.cell (p := ⟨w.heap.size, 3, none⟩) (by simp)).trans (by simp [go_sem]); have c2 : w1.cell? ⟨w.heap.size, 2, none⟩ = some (.int .i64 6) := (hb.cell (p := ⟨w.heap.size, 2, none⟩) (by simp)).trans (by simp [go_sem]); have hz : w.heap.size < w1.heap.size := Nat.lt_of_lt_of_le (by simp) hb.size; have HB := Lib.hid hb; clear hb)
    | (go_at_call 30; refine (cells_any pa _ _ _ [118] 1 rfl _ (by omega) (by simp) (by intro i hi; match i, hi with | 0, _ => simp [go_sem, *])).mono ?_; rintro e w2 ⟨v2, he, ho, hb2⟩; subst he; have HO := Lib.hid ho; have HB2 := Lib.hid hb2; clear ho hb2))
  go_ret
  exact ⟨v2, rfl, by rw [HR.out]; exact HO.out.base (by simp; omega), ((Below.refl _ _).alloc (Nat.le_refl _) _).trans ((HB.out.mono (by simp)).trans ((((Below.refl _ _).alloc (Nat.le_refl _) _).mono (by omega)).trans (HB2.out.mono (by simp; omega))))⟩
set_option maxHeartbeats 4000000 in
theorem writes_oth (cl sq op : Int) (pa va : ByteArray) (ver ca cb : Int) (w : World) (hp : pa.size ≤ 1000) (hm : ML w) (hv : vld pa = true) (h1 : op ≠ 1) (h2 : op ≠ 2) (h3 : op ≠ 3) (h6 : op ≠ 6) (hn : nmL pa ≠ []) :
    Calls Try.prog 13 #[.agg #[.int .i64 cl, .int .i64 sq, .int .i64 op, .string pa, .string va, .int .i64 ver, .int .i64 ca, .int .i64 cb]] w (ClP (wrs op pa) w) := by
  have hM1 : ML (w.alloc (.cells #[.int .i64 cl, .int .i64 sq, .int .i64 op, .string pa, .string va, .int .i64 ver, .int .i64 ca, .int .i64 cb] 24)) := hm.below ((Below.refl _ _).alloc (Nat.le_refl _) _)
  have cV := valid_any pa _ hp hM1
  rw [hv] at cV
  have HR : Hid (wrs op pa = []) := Lib.hid (by unfold wrs; simp [hv, hn, h1, h2, h3, h6])
  obtain ⟨s1, s2⟩ := (root_str hv).2 hn
  clear hn
  have z1 : (op == 1) = false := by simpa using h1
  have z2 : (op == 2) = false := by simpa using h2
  have z3 : (op == 3) = false := by simpa using h3
  have z6 : (op == 6) = false := by simpa using h6
  clear h1 h2 h3 h6
  clear hm hM1 hp hv
  go_enter Try.func13, Try.ntmps13
  go_wp2_with (first
    | (go_at_call 27; refine cV.mono ?_; rintro e w1 ⟨rfl, hb⟩; have c3 : w1.cell? ⟨w.heap.size, 3, none⟩ = some (.string pa) := (hb.cell (p := ⟨w.heap.size, 3, none⟩) (by simp)).trans (by simp [go_sem]); have c2 : w1.cell? ⟨w.heap.size, 2, none⟩ = some (.int .i64 op) := (hb.cell (p := ⟨w.heap.size, 2, none⟩) (by simp)).trans (by simp [go_sem]); have hz : w.heap.size < w1.heap.size := Nat.lt_of_lt_of_le (by simp) hb.size; have HB := Lib.hid hb; clear hb))
  go_ret
  exact ⟨_, rfl, by rw [HR.out]; exact Own2.nil _ _, ((Below.refl _ _).alloc (Nat.le_refl _) _).trans (HB.out.mono (by simp))⟩
end Go.Proofs.Ytphddigohmdbnaa
