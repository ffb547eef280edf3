/-
  The walks of package frame's numbers.
-/
import Derived.Test.YtfobdkhmffphmaaSum3
import Derived.Test.YtfobdkhmffphmaaApp
import Derived.Laws.ResultCell
namespace Go.Proofs.Ytfobdkhmffphmaa
open Go.RowKit
set_option linter.unusedSimpArgs false
set_option linter.unusedVariables false

/-- A number as four bytes, the lowest first. -/
def f4 (n : Nat) : List Int := [(n : Int) % 256, (n : Int) / 256 % 256, (n : Int) / 65536 % 256, (n : Int) / 16777216]
theorem f4_range {n : Nat} (h : n < 4294967296) : ∀ x ∈ f4 n, 0 ≤ x ∧ x ≤ 255 := by
  intro x hx
  simp only [f4, List.mem_cons, List.not_mem_nil, or_false] at hx
  omega
set_option maxHeartbeats 1600000 in
theorem four_any (n : Nat) (w : World) (h : n < 4294967296) : Calls Try.prog 27 #[.int .u32 n] w fun e w' => e = .returned (.agg #[.int .u8 ((n : Int) % 256), .int .u8 ((n : Int) / 256 % 256), .int .u8 ((n : Int) / 65536 % 256), .int .u8 ((n : Int) / 16777216)]) ∧ Below w.heap.size w w' := by
  go_enter Try.func27, Try.ntmps27
  go_wp2
  refine bodyPost_ret (v := .agg #[.int .u8 ((n : Int) % 256), .int .u8 ((n : Int) / 256 % 256), .int .u8 ((n : Int) / 65536 % 256), .int .u8 ((n : Int) / 16777216)]) ?_ rfl ⟨rfl, (Below.refl _ w).alloc (Nat.le_refl _) _⟩
  exact results_cell_row rfl _ _ w.heap.size 61 _ (0, 0) _ rfl (heap_alloc_last w _) Try.underlying61 rfl (by kernel_rfl)
theorem or32 (a b : Nat) (i : Nat) (ha : a < 2 ^ i) (hb : b % 2 ^ i = 0) (hl : a < 4294967296) (hm : b < 4294967296) : bits BinOp.or IntKind.u32 (a : Int) (b : Int) = ((a + b : Nat) : Int) := by
  rw [u32_or_nat a b hl hm, Nat.or_comm, nat_join i b a hb ha, Nat.add_comm]
set_option maxHeartbeats 1600000 in
theorem told_any (a b c d : Nat) (w : World) (ha : a < 256) (hb : b < 256) (hc : c < 256) (hd : d < 256) : Calls Try.prog 36 #[.agg #[.int .u8 a, .int .u8 b, .int .u8 c, .int .u8 d]] w fun e w' => e = .returned (.int .u32 (a + 256 * b + 65536 * c + 16777216 * d : Nat)) ∧ Below w.heap.size w w' := by
  have e1 : bits BinOp.or IntKind.u32 (a : Int) ((b : Int) * 256) = ((a + b * 256 : Nat) : Int) := or32 a (b * 256) 8 (by omega) (by omega) (by omega) (by omega)
  have e2 : bits BinOp.or IntKind.u32 ((a + b * 256 : Nat) : Int) ((c : Int) * 65536) = ((a + b * 256 + c * 65536 : Nat) : Int) := or32 (a + b * 256) (c * 65536) 16 (by omega) (by omega) (by omega) (by omega)
  have e3 : bits BinOp.or IntKind.u32 ((a + b * 256 + c * 65536 : Nat) : Int) ((d : Int) * 16777216) = ((a + b * 256 + c * 65536 + d * 16777216 : Nat) : Int) := or32 (a + b * 256 + c * 65536) (d * 16777216) 24 (by omega) (by omega) (by omega) (by omega)
  have E1 := Lib.hid e1
  have E2 := Lib.hid e2
  have E3 := Lib.hid e3
  clear e1 e2 e3
  go_enter Try.func36, Try.ntmps36
  go_wp2
  go_ret
  refine ⟨ret_int ?_, (Below.refl _ w).alloc (Nat.le_refl _) _⟩
  rw [E1.out, E2.out, E3.out]
  omega
end Go.Proofs.Ytfobdkhmffphmaa
