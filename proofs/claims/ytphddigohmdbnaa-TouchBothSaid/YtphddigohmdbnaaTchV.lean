/-
  The law TouchBoth, all ways.
-/
import Derived.Test.YtphddigohmdbnaaTchR1
import Derived.Test.YtphddigohmdbnaaTchR2
import Derived.Test.YtphddigohmdbnaaTchR3
namespace Go.Proofs.Ytphddigohmdbnaa
open Go.RowKit
set_option linter.unusedSimpArgs false
set_option linter.unusedVariables false

theorem beq_dec (a b : Int) : (a == b) = decide (a = b) := by by_cases h : a = b <;> simp [h]
theorem both_law (c1 s1 o1 : Int) (p1 x1 : ByteArray) (n1 a1 b1 : Int) (c2 s2 o2 : Int) (p2 x2 : ByteArray) (n2 a2 b2 : Int) (w : World) (hm : ML w) : Calls Try.prog 5 #[.agg #[.int .i64 c1, .int .i64 s1, .int .i64 o1, .string p1, .string x1, .int .i64 n1, .int .i64 a1, .int .i64 b1], .agg #[.int .i64 c2, .int .i64 s2, .int .i64 o2, .string p2, .string x2, .int .i64 n2, .int .i64 a2, .int .i64 b2]] w fun e w' => e = .returned (.bool true) ∧ Below w.heap.size w w' := by
  cases hO : ovr p1 x1 p2 x2 with
  | true => exact tb_over c1 s1 o1 p1 x1 n1 a1 b1 c2 s2 o2 p2 x2 n2 a2 b2 w hm hO
  | false =>
    have hs : p1.size ≤ 1000 ∧ p2.size ≤ 1000 := by
      unfold ovr at hO
      simp at hO
      omega
    by_cases u1 : o1 = 4
    · have y1 : (o1 == 4) = true := by rw [u1]; rfl
      have y2 : (o1 == 5) = false := by rw [u1]; rfl
      by_cases u3 : o2 = 4
      · have y3 : (o2 == 4) = true := by rw [u3]; rfl
        have y4 : (o2 == 5) = false := by rw [u3]; rfl
        exact tb_t44 c1 s1 o1 p1 x1 n1 a1 b1 c2 s2 o2 p2 x2 n2 a2 b2 w hm hs.1 hs.2 hO _ _ y1 y2 y3 y4 rfl rfl (by rw [bth_read (.inl u1) (.inl u3)]; exact beq_dec c1 c2)
      · have y3 : (o2 == 4) = false := by simpa using u3
        by_cases u4 : o2 = 5
        · have y4 : (o2 == 5) = true := by rw [u4]; rfl
          exact tb_t45 c1 s1 o1 p1 x1 n1 a1 b1 c2 s2 o2 p2 x2 n2 a2 b2 w hm hs.1 hs.2 hO _ _ y1 y2 y3 y4 rfl rfl (by rw [bth_read (.inl u1) (.inr u4)]; exact beq_dec c1 c2)
        · have y4 : (o2 == 5) = false := by simpa using u4
          exact tb_f4 c1 s1 o1 p1 x1 n1 a1 b1 c2 s2 o2 p2 x2 n2 a2 b2 w hm hs.1 hs.2 hO _ _ y1 y2 y3 y4 rfl rfl
    · have y1 : (o1 == 4) = false := by simpa using u1
      by_cases u2 : o1 = 5
      · have y2 : (o1 == 5) = true := by rw [u2]; rfl
        by_cases u3 : o2 = 4
        · have y3 : (o2 == 4) = true := by rw [u3]; rfl
          have y4 : (o2 == 5) = false := by rw [u3]; rfl
          exact tb_t54 c1 s1 o1 p1 x1 n1 a1 b1 c2 s2 o2 p2 x2 n2 a2 b2 w hm hs.1 hs.2 hO _ _ y1 y2 y3 y4 rfl rfl (by rw [bth_read (.inr u2) (.inl u3)]; exact beq_dec c1 c2)
        · have y3 : (o2 == 4) = false := by simpa using u3
          by_cases u4 : o2 = 5
          · have y4 : (o2 == 5) = true := by rw [u4]; rfl
            exact tb_t55 c1 s1 o1 p1 x1 n1 a1 b1 c2 s2 o2 p2 x2 n2 a2 b2 w hm hs.1 hs.2 hO _ _ y1 y2 y3 y4 rfl rfl (by rw [bth_read (.inr u2) (.inr u4)]; exact beq_dec c1 c2)
          · have y4 : (o2 == 5) = false := by simpa using u4
            exact tb_f5 c1 s1 o1 p1 x1 n1 a1 b1 c2 s2 o2 p2 x2 n2 a2 b2 w hm hs.1 hs.2 hO _ _ y1 y2 y3 y4 rfl rfl
      · have y2 : (o1 == 5) = false := by simpa using u2
        exact tb_f0 c1 s1 o1 p1 x1 n1 a1 b1 c2 s2 o2 p2 x2 n2 a2 b2 w hm hs.1 hs.2 hO _ _ y1 y2 rfl rfl
end Go.Proofs.Ytphddigohmdbnaa
