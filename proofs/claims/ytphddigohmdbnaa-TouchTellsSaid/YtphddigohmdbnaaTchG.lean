/-
  What a command reads and writes, whatever it is.
-/
import Derived.Test.YtphddigohmdbnaaTchF
namespace Go.Proofs.Ytphddigohmdbnaa
open Go.RowKit
set_option linter.unusedSimpArgs false
set_option linter.unusedVariables false

theorem reads_any (cl sq op : Int) (pa va : ByteArray) (ver ca cb : Int) (w : World) (hp : pa.size ≤ 1000) (hm : ML w) :
    Calls Try.prog 12 #[.agg #[.int .i64 cl, .int .i64 sq, .int .i64 op, .string pa, .string va, .int .i64 ver, .int .i64 ca, .int .i64 cb]] w (ClP (rds op pa) w) := by
  cases hv : vld pa with
  | false => exact reads_no cl sq op pa va ver ca cb w hp hm hv
  | true =>
    by_cases h1 : op = 1
    · subst h1
      by_cases hn : nmL pa = []
      · exact reads_root1 cl sq pa va ver ca cb w hp hm hv hn
      · exact reads_create cl sq pa va ver ca cb w hp hm hv hn
    · by_cases h4 : op = 4
      · subst h4; exact reads_get cl sq pa va ver ca cb w hp hm hv
      · by_cases h5 : op = 5
        · subst h5; exact reads_list cl sq pa va ver ca cb w hp hm hv
        · by_cases hn : nmL pa = []
          · exact reads_root cl sq op pa va ver ca cb w hp hm hv h1 h4 h5 hn
          · by_cases h2 : op = 2
            · subst h2; exact reads_del cl sq pa va ver ca cb w hp hm hv hn
            · by_cases h3 : op = 3
              · subst h3; exact reads_set cl sq pa va ver ca cb w hp hm hv hn
              · by_cases h6 : op = 6
                · subst h6; exact reads_cas cl sq pa va ver ca cb w hp hm hv hn
                · exact reads_oth cl sq op pa va ver ca cb w hp hm hv h1 h4 h5 h2 h3 h6 hn
theorem wrs_none {op : Int} {p : ByteArray} (h : vld p = false) : wrs op p = [] := by unfold wrs; rw [if_pos (.inl h)]
set_option maxHeartbeats 2000000 in
theorem writes_no (cl sq op : Int) (pa va : ByteArray) (ver ca cb : Int) (w : World) (hp : pa.size ≤ 1000) (hm : ML w) (hv : vld pa = false) :
    Calls Try.prog 13 #[.agg #[.int .i64 cl, .int .i64 sq, .int .i64 op, .string pa, .string va, .int .i64 ver, .int .i64 ca, .int .i64 cb]] w (ClP (wrs op pa) w) := by
  have hM1 : ML (cbox w cl sq op pa va ver ca cb) := hm.below ((Below.refl _ _).alloc (Nat.le_refl _) _)
  have cV := valid_any pa _ hp hM1
  rw [hv] at cV
  rw [wrs_none hv]
  clear hm hM1 hp hv
  go_enter Try.func13, Try.ntmps13
  go_wp2_with (go_at_call 27; refine cV.mono ?_; rintro e w1 ⟨rfl, hb⟩; have HB := Lib.hid hb; clear hb)
  go_ret
  exact ⟨_, rfl, Own2.nil _ _, ((Below.refl _ _).alloc (Nat.le_refl _) _).trans (HB.out.mono (by simp))⟩
theorem writes_any (cl sq op : Int) (pa va : ByteArray) (ver ca cb : Int) (w : World) (hp : pa.size ≤ 1000) (hm : ML w) :
    Calls Try.prog 13 #[.agg #[.int .i64 cl, .int .i64 sq, .int .i64 op, .string pa, .string va, .int .i64 ver, .int .i64 ca, .int .i64 cb]] w (ClP (wrs op pa) w) := by
  cases hv : vld pa with
  | false => exact writes_no cl sq op pa va ver ca cb w hp hm hv
  | true =>
    by_cases hn : nmL pa = []
    · exact writes_root cl sq op pa va ver ca cb w hp hm hv hn
    · by_cases h1 : op = 1
      · subst h1; exact writes_create cl sq pa va ver ca cb w hp hm hv hn
      · by_cases h2 : op = 2
        · subst h2; exact writes_delete cl sq pa va ver ca cb w hp hm hv hn
        · by_cases h3 : op = 3
          · subst h3; exact writes_set cl sq pa va ver ca cb w hp hm hv hn
          · by_cases h6 : op = 6
            · subst h6; exact writes_cas cl sq pa va ver ca cb w hp hm hv hn
            · exact writes_oth cl sq op pa va ver ca cb w hp hm hv h1 h2 h3 h6 hn
theorem control_any (cl sq op : Int) (pa va : ByteArray) (ver ca cb : Int) (w : World) :
    Calls Try.prog 18 #[.agg #[.int .i64 cl, .int .i64 sq, .int .i64 op, .string pa, .string va, .int .i64 ver, .int .i64 ca, .int .i64 cb]] w fun e w' => e = .returned (.bool (ctl op)) ∧ Below w.heap.size w w' := by
  by_cases h7 : op = 7
  · subst h7
    go_enter Try.func18, Try.ntmps18
    go_wp2
    go_ret
    exact ⟨rfl, (Below.refl _ _).alloc (Nat.le_refl _) _⟩
  · by_cases h8 : op = 8
    · subst h8
      go_enter Try.func18, Try.ntmps18
      go_wp2
      go_ret
      exact ⟨rfl, (Below.refl _ _).alloc (Nat.le_refl _) _⟩
    · by_cases h9 : op = 9
      · subst h9
        go_enter Try.func18, Try.ntmps18
        go_wp2
        go_ret
        exact ⟨rfl, (Below.refl _ _).alloc (Nat.le_refl _) _⟩
      · have e : ctl op = false := by unfold ctl; simp [h7, h8, h9]
        rw [e]
        have z7 : (op == 7) = false := by simpa using h7
        have z8 : (op == 8) = false := by simpa using h8
        have z9 : (op == 9) = false := by simpa using h9
        clear h7 h8 h9 e
        go_enter Try.func18, Try.ntmps18
        go_wp2
        go_ret
        exact ⟨rfl, (Below.refl _ _).alloc (Nat.le_refl _) _⟩
end Go.Proofs.Ytphddigohmdbnaa
