/-
  The walk of the document's Take, layer 3.
-/
import Derived.Test.YtcieilbnlbielaaFrmR
namespace Go.Proofs.Ytcieilbnlbielaa
open Go.RowKit
set_option linter.unusedSimpArgs false
set_option linter.unusedVariables false

set_option maxRecDepth 100000 in
set_option maxHeartbeats 1000000 in
theorem rtake_any (b : ByteArray) (w : World) (hb : b.size ≤ 1000000) :
    Calls Try.prog 13 #[.string b] w fun e w' => e = .returned (.tuple #[.string (txt (tkN (byt b)).1), .int .i64 (tkN (byt b)).2.1, .int .i64 (tkN (byt b)).2.2]) ∧ Below w.heap.size w w' := by
  have hbl := byt_length b
  have hz : b.size ≤ 9223372036854775807 := by omega
  by_cases c0 : b.size < 8
  · have e : tkN (byt b) = ([], 0, 10) := by unfold tkN tkG; rw [if_pos (by omega)]
    rw [e]
    have t0 : (b.size : Int) < 8 := by omega
    clear e
    go_enter Try.func13, Try.ntmps13
    go_wp2
    go_ret3
    exact ⟨rfl, Below.refl _ _⟩
  have t0 : ¬ (b.size : Int) < 8 := by omega
  have s4 : (b.extract 0 4).size = 4 := by simp; omega
  have d4 : dec4 (byt (b.extract 0 4)) = dec4 (byt b) := by rw [byt_extract, List.drop_zero, dec4_take]
  have s48 : (b.extract 4 8).size = 4 := by simp; omega
  have d48 : dec4 (byt (b.extract 4 8)) = dec4 ((byt b).drop 4) := by
    rw [byt_extract, List.drop_take, dec4_take]
  have hN := dec4_lt (byt_range b)
  have hC := dec4_lt (l := (byt b).drop 4) (fun x q => byt_range b x (List.mem_of_mem_drop q))
  have hR := rnum_any (b.extract 0 4) w (by omega)
  have hR2 := fun w => rnum_any (b.extract 4 8) w (by omega)
  rw [d4] at hR
  rw [d48] at hR2
  obtain ⟨T, hT⟩ : ∃ T, tkN (byt b) = T := ⟨_, rfl⟩
  have hT0 := hT
  rw [hT]
  unfold tkN tkG at hT
  rw [if_neg (by omega)] at hT
  obtain ⟨N, hNe⟩ : ∃ N, dec4 (byt b) = N := ⟨_, rfl⟩
  obtain ⟨C, hCe⟩ : ∃ C, dec4 ((byt b).drop 4) = C := ⟨_, rfl⟩
  rw [hNe] at hR hN hT
  rw [hCe] at hR2 hC hT
  have HR := Lib.hid hR
  have HR2 := Lib.hid hR2
  have b4 : (4 : Int) ≤ b.size := by omega
  have b8 : (8 : Int) ≤ b.size := by omega
  have b4' : 4 ≤ b.size := by omega
  have b8' : 8 ≤ b.size := by omega
  clear hR hR2 d4 d48 s4 s48 hNe hCe hT0
  by_cases c1 : (16777215 : Int) < N
  · rw [if_pos c1] at hT
    subst hT
    go_enter Try.func13, Try.ntmps13
    go_wp2_with fail
    refine HR.out.mono ?_
    rintro e w1 ⟨rfl, hb1⟩
    go_wp2
    go_ret3
    exact ⟨rfl, hb1⟩
  rw [if_neg c1] at hT
  have w8 : IntKind.i64.wrap (8 + (N : Int)) = 8 + (N : Int) := IntWalk.i64_in _ (by omega)
  by_cases c2 : b.size < 8 + N
  · rw [if_pos (by omega)] at hT
    subst hT
    have t2 : (b.size : Int) < 8 + (N : Int) := by omega
    go_enter Try.func13, Try.ntmps13
    go_wp2_with fail
    refine HR.out.mono ?_
    rintro e w1 ⟨rfl, hb1⟩
    go_wp2
    go_ret3
    exact ⟨rfl, hb1⟩
  rw [if_neg (by omega)] at hT
  have t2 : ¬ (b.size : Int) < 8 + (N : Int) := by omega
  obtain ⟨M, hM⟩ : ∃ M, 8 + N = M := ⟨_, rfl⟩
  have hMi : 8 + (N : Int) = (M : Int) := by omega
  have m1 : (M : Int) ≤ b.size := by omega
  have m2 : M ≤ b.size := by omega
  have m3 : (8 : Int) ≤ M := by omega
  have m4 : 8 ≤ M := by omega
  have hbc : byt (b.extract 8 M) = ((byt b).take M).drop 8 := byt_extract b 8 M
  have hcs : (b.extract 8 M).size ≤ 9223372036854775807 := by simp; omega
  obtain ⟨S, hS⟩ : ∃ S, sumN 0 (byt (b.extract 8 M)) = S := ⟨_, rfl⟩
  have hSl : S < 4294967296 := by rw [← hS]; exact sumN_lt _ _
  have hMr := fun w => rmore_any 0 (b.extract 8 M) w (by decide) hcs
  rw [hS] at hMr
  rw [hM] at hT
  rw [← hbc, hS] at hT
  have HMR := Lib.hid hMr
  have HBC := Lib.hid hbc
  clear hMr hS hbc hcs
  by_cases c3 : S ≠ C
  · rw [if_pos c3] at hT
    subst hT
    have t3 : ((C : Int) == (S : Int)) = false := by simp; omega
    have t4 : ((C : Int) != (S : Int)) = true := by simp; omega
    go_enter Try.func13, Try.ntmps13
    go_wp2_with fail
    refine HR.out.mono ?_
    rintro e w1 ⟨rfl, hb1⟩
    rw [hMi] at w8
    go_wp2_with fail
    refine (HR2.out _).mono ?_
    rintro e w2 ⟨rfl, hb2⟩
    go_wp2_with fail
    refine (HMR.out _).mono ?_
    rintro e w3 ⟨rfl, rfl⟩
    go_wp2
    go_ret3
    exact ⟨rfl, below_self hb1 hb2⟩
  · rw [if_neg c3] at hT
    subst hT
    have t3 : ((C : Int) == (S : Int)) = true := by simp; omega
    have t4 : ((C : Int) != (S : Int)) = false := by simp; omega
    have hx : txt ((byt (b.extract 8 M), (M : Int), (0 : Int)).1) = b.extract 8 M := txt_byt _
    rw [hx]
    clear hx
    go_enter Try.func13, Try.ntmps13
    go_wp2_with fail
    refine HR.out.mono ?_
    rintro e w1 ⟨rfl, hb1⟩
    rw [hMi] at w8
    go_wp2_with fail
    refine (HR2.out _).mono ?_
    rintro e w2 ⟨rfl, hb2⟩
    go_wp2_with fail
    refine (HMR.out _).mono ?_
    rintro e w3 ⟨rfl, rfl⟩
    go_wp2
    go_ret3
    exact ⟨rfl, below_self hb1 hb2⟩
end Go.Proofs.Ytcieilbnlbielaa
