/-
  The walks of the document's answers for layer 3.
-/
import Derived.Test.YtcieilbnlbielaaFrmW
import Derived.BigQuiet
namespace Go.Proofs.Ytcieilbnlbielaa
open Go.RowKit
set_option linter.unusedSimpArgs false
set_option linter.unusedVariables false

theorem byt_extract (b : ByteArray) (i j : Nat) : byt (b.extract i j) = ((byt b).take j).drop i := by
  simp only [byt, ByteArray.data_extract, Array.toList_extract, List.extract_eq_take_drop, List.map_take, List.map_drop]
  rw [List.drop_take]
theorem txt_cut (b : ByteArray) (i j : Nat) : b.extract i j = txt (((byt b).take j).drop i) := by
  apply byt_inj
  rw [byt_txt (fun x q => byt_range b x (List.mem_of_mem_take (List.mem_of_mem_drop q))), byt_extract]
theorem dec4_take (l : List Int) : dec4 (l.take 4) = dec4 l := by
  match l with
  | [] => rfl
  | [a] => rfl
  | [a, b] => rfl
  | [a, b, c] => rfl
  | a :: b :: c :: d :: r => rfl
set_option maxRecDepth 100000 in
set_option maxHeartbeats 4000000 in
theorem rnum_any (s : ByteArray) (w : World) (h : 4 ≤ s.size) : Calls Try.prog 24 #[.string s] w fun e w' => e = .returned (.int .i64 (dec4 (byt s))) ∧ Below w.heap.size w w' := by
  have k0 : 0 < s.size := by omega
  have k1 : 1 < s.size := by omega
  have k2 : 2 < s.size := by omega
  have k3 : 3 < s.size := by omega
  have g0 := byt_get s 0 k0
  have g1 := byt_get s 1 k1
  have g2 := byt_get s 2 k2
  have g3 := byt_get s 3 k3
  have l0 := s[0].toNat_lt
  have l1 := s[1].toNat_lt
  have l2 := s[2].toNat_lt
  have l3 := s[3].toNat_lt
  have hd : ((dec4 (byt s) : Nat) : Int) = (s[0].toNat : Int) + 256 * (s[1].toNat : Int) + 65536 * (s[2].toNat : Int) + 16777216 * (s[3].toNat : Int) := by
    unfold dec4
    rw [g0, g1, g2, g3]
    simp
  have e1 : IntKind.i64.wrap (256 * (s[1].toNat : Int)) = 256 * (s[1].toNat : Int) := IntWalk.i64_in _ (by omega)
  have e2 : IntKind.i64.wrap (65536 * (s[2].toNat : Int)) = 65536 * (s[2].toNat : Int) := IntWalk.i64_in _ (by omega)
  have e3 : IntKind.i64.wrap (16777216 * (s[3].toNat : Int)) = 16777216 * (s[3].toNat : Int) := IntWalk.i64_in _ (by omega)
  have e4 : IntKind.i64.wrap ((s[0].toNat : Int) + 256 * (s[1].toNat : Int)) = (s[0].toNat : Int) + 256 * (s[1].toNat : Int) := IntWalk.i64_in _ (by omega)
  have e5 : IntKind.i64.wrap ((s[0].toNat : Int) + 256 * (s[1].toNat : Int) + 65536 * (s[2].toNat : Int)) = (s[0].toNat : Int) + 256 * (s[1].toNat : Int) + 65536 * (s[2].toNat : Int) := IntWalk.i64_in _ (by omega)
  have e6 : IntKind.i64.wrap ((s[0].toNat : Int) + 256 * (s[1].toNat : Int) + 65536 * (s[2].toNat : Int) + 16777216 * (s[3].toNat : Int)) = (s[0].toNat : Int) + 256 * (s[1].toNat : Int) + 65536 * (s[2].toNat : Int) + 16777216 * (s[3].toNat : Int) := IntWalk.i64_in _ (by omega)
  have f0 : IntKind.i64.wrap (s[0].toNat : Int) = (s[0].toNat : Int) := IntWalk.i64_in _ (by omega)
  have f1 : IntKind.i64.wrap (s[1].toNat : Int) = (s[1].toNat : Int) := IntWalk.i64_in _ (by omega)
  have f2 : IntKind.i64.wrap (s[2].toNat : Int) = (s[2].toNat : Int) := IntWalk.i64_in _ (by omega)
  have f3 : IntKind.i64.wrap (s[3].toNat : Int) = (s[3].toNat : Int) := IntWalk.i64_in _ (by omega)
  have j0 : (0 : Int) < (s.size : Int) := by omega
  have j1 : (1 : Int) < (s.size : Int) := by omega
  have j2 : (2 : Int) < (s.size : Int) := by omega
  have j3 : (3 : Int) < (s.size : Int) := by omega
  have HD := Lib.hid hd
  clear g0 g1 g2 g3 hd
  go_enter Try.func24, Try.ntmps24
  go_wp2
  go_region
  go_wp2
  go_ret
  exact ⟨ret_int HD.out.symm, (Below.refl _ _).drew⟩
set_option maxHeartbeats 4000000 in
theorem rfour_any (n : Nat) (w : World) (h : n < 4294967296) : Calls Try.prog 21 #[.int .i64 n] w fun e w' => e = .returned (.string (txt (f4 n))) ∧ Below w.heap.size w w' := by
  have hr := f4_range h
  have kx : (convert 23 9 (.slice (some ⟨w.heap.size, 0, none⟩) 4 4)).run Try.prog (w.alloc (.cells #[.int .u8 ((n : Int) % 256), .int .u8 ((n : Int) / 256 % 256), .int .u8 ((n : Int) / 65536 % 256), .int .u8 ((n : Int) / 16777216)] 5)) = .ok (.string (txt (f4 n))) (w.alloc (.cells #[.int .u8 ((n : Int) % 256), .int .u8 ((n : Int) / 256 % 256), .int .u8 ((n : Int) / 65536 % 256), .int .u8 ((n : Int) / 16777216)] 5)) := by
    obtain ⟨a, cap, e, h1, h2⟩ := (bt_lit w (f4 n) 5 (0, 0) (by simp [f4])).row
    cases e
    exact run_text (xs := f4 n) h1 h2 Try.underlying23 Try.underlying5 Try.underlying9
  go_enter Try.func21, Try.ntmps21
  go_wp2
  go_ret
  exact ⟨rfl, (Below.refl _ _).alloc (Nat.le_refl _) _⟩
set_option maxHeartbeats 4000000 in
theorem rput_long (b : ByteArray) (w : World) (h : (16777215 : Int) < b.size) : Calls Try.prog 11 #[.string b] w fun e w' => e = .returned (.string ByteArray.empty) ∧ w = w' := by
  go_enter Try.func11, Try.ntmps11
  go_wp2
  go_ret
  exact ⟨rfl, rfl⟩
set_option maxHeartbeats 4000000 in
theorem rput_good (b : ByteArray) (w : World) (h : b.size ≤ 500) : Calls Try.prog 11 #[.string b] w fun e w' => e = .returned (.string (txt (frm (byt b)))) ∧ Below w.heap.size w w' := by
  have t1 : ¬ (16777215 : Int) < b.size := by omega
  have z1 : b.size < 4294967296 := by omega
  have z2 : b.size ≤ 9223372036854775807 := by omega
  have z3 := sumN_lt 0 (byt b)
  have hr := frm_range (byt_range b) (by rw [byt_length]; omega)
  have he : txt (f4 b.size) ++ txt (f4 (sumN 0 (byt b))) ++ b = txt (frm (byt b)) := by
    apply byt_inj
    rw [byt_append, byt_append, byt_txt (f4_range z1), byt_txt (f4_range z3), byt_txt hr]
    unfold frm
    rw [byt_length]
  have HE := Lib.hid he
  have HSZ : Hid ((txt (frm (byt b))).size = b.size + 8) := by unfold Hid; rw [txt_size, frm_length, byt_length]
  clear he hr
  have s1 : (txt (f4 b.size)).size = 4 := by rw [txt_size]; rfl
  have s2 : (txt (f4 (sumN 0 (byt b)))).size = 4 := by rw [txt_size]; rfl
  go_enter Try.func11, Try.ntmps11
  go_wp2_with fail
  refine (rfour_any b.size _ z1).mono ?_
  rintro e w1 ⟨rfl, hb1⟩
  have HB1 := Lib.hid hb1
  clear hb1
  go_wp2_with fail
  refine (rmore_any 0 b _ (by decide) z2).mono ?_
  rintro e w2 ⟨rfl, rfl⟩
  obtain ⟨N, hN⟩ : ∃ N, sumN 0 (byt b) = N := ⟨_, rfl⟩
  rw [hN] at z3 HE s2 ⊢
  clear hN
  go_wp2_with fail
  refine (rfour_any N _ z3).mono ?_
  rintro e w3 ⟨rfl, hb3⟩
  have HB3 : Hid (Below w.heap.size w w3) := below_self HB1.out hb3
  clear hb3 HB1
  go_wp2
  go_ret
  refine ⟨?_, HB3.out⟩
  exact ret_str HE.out
end Go.Proofs.Ytcieilbnlbielaa
