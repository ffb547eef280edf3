/-
  Texts put together: FrmR, FrmR2, FrmU, FrmS.
-/
import Derived.BigQuiet
import Derived.Test.YtfobdkhmffphmaaFrmQ
namespace Go.Proofs.Ytfobdkhmffphmaa
open Go.RowKit
set_option linter.unusedSimpArgs false
set_option linter.unusedVariables false

theorem byt_extract (b : ByteArray) (i j : Nat) : byt (b.extract i j) = ((byt b).take j).drop i := by
  simp only [byt, ByteArray.data_extract, Array.toList_extract, List.extract_eq_take_drop, List.map_take, List.map_drop]
  rw [List.drop_take]
theorem txt_cut (b : ByteArray) (i j : Nat) : b.extract i j = txt (((byt b).take j).drop i) := by
  apply byt_inj
  rw [byt_txt (fun x q => byt_range b x (List.mem_of_mem_take (List.mem_of_mem_drop q))), byt_extract]
set_option maxRecDepth 100000 in
set_option maxHeartbeats 4000000 in
theorem rnum_any (s : ByteArray) (w : World) (h : 4 ≤ s.size) : Calls Try.prog 33 #[.string s] w fun e w' => e = .returned (.int .i64 (dec4 (byt s))) ∧ Below w.heap.size w w' := by
  have k0 : 0 < s.size := by omega
  have k1 : 1 < s.size := by omega
  have k2 : 2 < s.size := by omega
  have k3 : 3 < s.size := by omega
  have g0 := byt_get s 0 k0
  have g1 := byt_get s 1 k1
  have g2 := byt_get s 2 k2
  have g3 := byt_get s 3 k3
  have l0 := s[0].toNat_lt
  have l1 := s[1].toNat_lt
  have l2 := s[2].toNat_lt
  have l3 := s[3].toNat_lt
  have hd : ((dec4 (byt s) : Nat) : Int) = (s[0].toNat : Int) + 256 * (s[1].toNat : Int) + 65536 * (s[2].toNat : Int) + 16777216 * (s[3].toNat : Int) := by
    unfold dec4
    rw [g0, g1, g2, g3]
    simp
  have e1 : IntKind.i64.wrap (256 * (s[1].toNat : Int)) = 256 * (s[1].toNat : Int) := IntWalk.i64_in _ (by omega)
  have e2 : IntKind.i64.wrap (65536 * (s[2].toNat : Int)) = 65536 * (s[2].toNat : Int) := IntWalk.i64_in _ (by omega)
  have e3 : IntKind.i64.wrap (16777216 * (s[3].toNat : Int)) = 16777216 * (s[3].toNat : Int) := IntWalk.i64_in _ (by omega)
  have e4 : IntKind.i64.wrap ((s[0].toNat : Int) + 256 * (s[1].toNat : Int)) = (s[0].toNat : Int) + 256 * (s[1].toNat : Int) := IntWalk.i64_in _ (by omega)
  have e5 : IntKind.i64.wrap ((s[0].toNat : Int) + 256 * (s[1].toNat : Int) + 65536 * (s[2].toNat : Int)) = (s[0].toNat : Int) + 256 * (s[1].toNat : Int) + 65536 * (s[2].toNat : Int) := IntWalk.i64_in _ (by omega)
  have e6 : IntKind.i64.wrap ((s[0].toNat : Int) + 256 * (s[1].toNat : Int) + 65536 * (s[2].toNat : Int) + 16777216 * (s[3].toNat : Int)) = (s[0].toNat : Int) + 256 * (s[1].toNat : Int) + 65536 * (s[2].toNat : Int) + 16777216 * (s[3].toNat : Int) := IntWalk.i64_in _ (by omega)
  have f0 : IntKind.i64.wrap (s[0].toNat : Int) = (s[0].toNat : Int) := IntWalk.i64_in _ (by omega)
  have f1 : IntKind.i64.wrap (s[1].toNat : Int) = (s[1].toNat : Int) := IntWalk.i64_in _ (by omega)
  have f2 : IntKind.i64.wrap (s[2].toNat : Int) = (s[2].toNat : Int) := IntWalk.i64_in _ (by omega)
  have f3 : IntKind.i64.wrap (s[3].toNat : Int) = (s[3].toNat : Int) := IntWalk.i64_in _ (by omega)
  have j0 : (0 : Int) < (s.size : Int) := by omega
  have j1 : (1 : Int) < (s.size : Int) := by omega
  have j2 : (2 : Int) < (s.size : Int) := by omega
  have j3 : (3 : Int) < (s.size : Int) := by omega
  have HD := Lib.hid hd
  clear g0 g1 g2 g3 hd
  go_enter Try.func33, Try.ntmps33
  go_wp2
  go_region
  go_wp2
  go_ret
  exact ⟨ret_int HD.out.symm, (Below.refl _ _).drew⟩
set_option maxHeartbeats 4000000 in
theorem rfour_any (n : Nat) (w : World) (h : n < 4294967296) : Calls Try.prog 29 #[.int .i64 n] w fun e w' => e = .returned (.string (txt (f4 n))) ∧ Below w.heap.size w w' := by
  have hr := f4_range h
  have kx : (convert 27 9 (.slice (some ⟨w.heap.size, 0, none⟩) 4 4)).run Try.prog (w.alloc (.cells #[.int .u8 ((n : Int) % 256), .int .u8 ((n : Int) / 256 % 256), .int .u8 ((n : Int) / 65536 % 256), .int .u8 ((n : Int) / 16777216)] 5)) = .ok (.string (txt (f4 n))) (w.alloc (.cells #[.int .u8 ((n : Int) % 256), .int .u8 ((n : Int) / 256 % 256), .int .u8 ((n : Int) / 65536 % 256), .int .u8 ((n : Int) / 16777216)] 5)) := by
    obtain ⟨a, cap, e, h1, h2⟩ := (bt_lit w (f4 n) 5 (0, 0) (by simp [f4])).row
    cases e
    exact run_text (xs := f4 n) h1 h2 Try.underlying27 Try.underlying5 Try.underlying9
  go_enter Try.func29, Try.ntmps29
  go_wp2
  go_ret
  exact ⟨rfl, (Below.refl _ _).alloc (Nat.le_refl _) _⟩
set_option maxHeartbeats 4000000 in
theorem rput_long (b : ByteArray) (w : World) (h : (16777215 : Int) < b.size) : Calls Try.prog 24 #[.string b] w fun e w' => e = .returned (.string ByteArray.empty) ∧ w = w' := by
  go_enter Try.func24, Try.ntmps24
  go_wp2
  go_ret
  exact ⟨rfl, rfl⟩
set_option maxHeartbeats 4000000 in
theorem rput_good (b : ByteArray) (w : World) (h : b.size ≤ 500) : Calls Try.prog 24 #[.string b] w fun e w' => e = .returned (.string (txt (frm (byt b)))) ∧ Below w.heap.size w w' := by
  have t1 : ¬ (16777215 : Int) < b.size := by omega
  have z1 : b.size < 4294967296 := by omega
  have z2 : b.size ≤ 9223372036854775807 := by omega
  have z3 := sumN_lt 0 (byt b)
  have hr := frm_range (byt_range b) (by rw [byt_length]; omega)
  have he : txt (f4 b.size) ++ txt (f4 (sumN 0 (byt b))) ++ b = txt (frm (byt b)) := by
    apply byt_inj
    rw [byt_append, byt_append, byt_txt (f4_range z1), byt_txt (f4_range z3), byt_txt hr]
    unfold frm
    rw [byt_length]
  have HE := Lib.hid he
  have HSZ : Hid ((txt (frm (byt b))).size = b.size + 8) := by unfold Hid; rw [txt_size, frm_length, byt_length]
  clear he hr
  have s1 : (txt (f4 b.size)).size = 4 := by rw [txt_size]; rfl
  have s2 : (txt (f4 (sumN 0 (byt b)))).size = 4 := by rw [txt_size]; rfl
  go_enter Try.func24, Try.ntmps24
  go_wp2_with fail
  refine (rfour_any b.size _ z1).mono ?_
  rintro e w1 ⟨rfl, hb1⟩
  have HB1 := Lib.hid hb1
  clear hb1
  go_wp2_with fail
  refine (rmore_any 0 b _ (by decide) z2).mono ?_
  rintro e w2 ⟨rfl, rfl⟩
  obtain ⟨N, hN⟩ : ∃ N, sumN 0 (byt b) = N := ⟨_, rfl⟩
  rw [hN] at z3 HE s2 ⊢
  clear hN
  go_wp2_with fail
  refine (rfour_any N _ z3).mono ?_
  rintro e w3 ⟨rfl, hb3⟩
  have HB3 : Hid (Below w.heap.size w w3) := below_self HB1.out hb3
  clear hb3 HB1
  go_wp2
  go_ret
  refine ⟨?_, HB3.out⟩
  exact ret_str HE.out
end Go.Proofs.Ytfobdkhmffphmaa
namespace Go.Proofs.Ytfobdkhmffphmaa
open Go.RowKit
set_option linter.unusedSimpArgs false
set_option linter.unusedVariables false

set_option maxRecDepth 100000 in
set_option maxHeartbeats 1000000 in
theorem rtake_any (b : ByteArray) (w : World) (hb : b.size ≤ 1000000) :
    Calls Try.prog 26 #[.string b] w fun e w' => e = .returned (.tuple #[.string (txt (tkN (byt b)).1), .int .i64 (tkN (byt b)).2.1, .int .i64 (tkN (byt b)).2.2]) ∧ Below w.heap.size w w' := by
  have hbl := byt_length b
  have hz : b.size ≤ 9223372036854775807 := by omega
  by_cases c0 : b.size < 8
  · have e : tkN (byt b) = ([], 0, 10) := by unfold tkN tkG; rw [if_pos (by omega)]
    rw [e]
    have t0 : (b.size : Int) < 8 := by omega
    clear e
    go_enter Try.func26, Try.ntmps26
    go_wp2
    go_ret3
    exact ⟨rfl, Below.refl _ _⟩
  have t0 : ¬ (b.size : Int) < 8 := by omega
  have s4 : (b.extract 0 4).size = 4 := by simp; omega
  have d4 : dec4 (byt (b.extract 0 4)) = dec4 (byt b) := by rw [byt_extract, List.drop_zero, dec4_take]
  have s48 : (b.extract 4 8).size = 4 := by simp; omega
  have d48 : dec4 (byt (b.extract 4 8)) = dec4 ((byt b).drop 4) := by
    rw [byt_extract, List.drop_take, dec4_take]
  have hN := dec4_lt (byt_range b)
  have hC := dec4_lt (l := (byt b).drop 4) (fun x q => byt_range b x (List.mem_of_mem_drop q))
  have hR := rnum_any (b.extract 0 4) w (by omega)
  have hR2 := fun w => rnum_any (b.extract 4 8) w (by omega)
  rw [d4] at hR
  rw [d48] at hR2
  obtain ⟨T, hT⟩ : ∃ T, tkN (byt b) = T := ⟨_, rfl⟩
  have hT0 := hT
  rw [hT]
  unfold tkN tkG at hT
  rw [if_neg (by omega)] at hT
  obtain ⟨N, hNe⟩ : ∃ N, dec4 (byt b) = N := ⟨_, rfl⟩
  obtain ⟨C, hCe⟩ : ∃ C, dec4 ((byt b).drop 4) = C := ⟨_, rfl⟩
  rw [hNe] at hR hN hT
  rw [hCe] at hR2 hC hT
  have HR := Lib.hid hR
  have HR2 := Lib.hid hR2
  have b4 : (4 : Int) ≤ b.size := by omega
  have b8 : (8 : Int) ≤ b.size := by omega
  have b4' : 4 ≤ b.size := by omega
  have b8' : 8 ≤ b.size := by omega
  clear hR hR2 d4 d48 s4 s48 hNe hCe hT0
  by_cases c1 : (16777215 : Int) < N
  · rw [if_pos c1] at hT
    subst hT
    go_enter Try.func26, Try.ntmps26
    go_wp2_with fail
    refine HR.out.mono ?_
    rintro e w1 ⟨rfl, hb1⟩
    go_wp2
    go_ret3
    exact ⟨rfl, hb1⟩
  rw [if_neg c1] at hT
  have w8 : IntKind.i64.wrap (8 + (N : Int)) = 8 + (N : Int) := IntWalk.i64_in _ (by omega)
  by_cases c2 : b.size < 8 + N
  · rw [if_pos (by omega)] at hT
    subst hT
    have t2 : (b.size : Int) < 8 + (N : Int) := by omega
    go_enter Try.func26, Try.ntmps26
    go_wp2_with fail
    refine HR.out.mono ?_
    rintro e w1 ⟨rfl, hb1⟩
    go_wp2
    go_ret3
    exact ⟨rfl, hb1⟩
  rw [if_neg (by omega)] at hT
  have t2 : ¬ (b.size : Int) < 8 + (N : Int) := by omega
  obtain ⟨M, hM⟩ : ∃ M, 8 + N = M := ⟨_, rfl⟩
  have hMi : 8 + (N : Int) = (M : Int) := by omega
  have m1 : (M : Int) ≤ b.size := by omega
  have m2 : M ≤ b.size := by omega
  have m3 : (8 : Int) ≤ M := by omega
  have m4 : 8 ≤ M := by omega
  have hbc : byt (b.extract 8 M) = ((byt b).take M).drop 8 := byt_extract b 8 M
  have hcs : (b.extract 8 M).size ≤ 9223372036854775807 := by simp; omega
  obtain ⟨S, hS⟩ : ∃ S, sumN 0 (byt (b.extract 8 M)) = S := ⟨_, rfl⟩
  have hSl : S < 4294967296 := by rw [← hS]; exact sumN_lt _ _
  have hMr := fun w => rmore_any 0 (b.extract 8 M) w (by decide) hcs
  rw [hS] at hMr
  rw [hM] at hT
  rw [← hbc, hS] at hT
  have HMR := Lib.hid hMr
  have HBC := Lib.hid hbc
  clear hMr hS hbc hcs
  by_cases c3 : S ≠ C
  · rw [if_pos c3] at hT
    subst hT
    have t3 : ((C : Int) == (S : Int)) = false := by simp; omega
    have t4 : ((C : Int) != (S : Int)) = true := by simp; omega
    go_enter Try.func26, Try.ntmps26
    go_wp2_with fail
    refine HR.out.mono ?_
    rintro e w1 ⟨rfl, hb1⟩
    rw [hMi] at w8
    go_wp2_with fail
    refine (HR2.out _).mono ?_
    rintro e w2 ⟨rfl, hb2⟩
    go_wp2_with fail
    refine (HMR.out _).mono ?_
    rintro e w3 ⟨rfl, rfl⟩
    go_wp2
    go_ret3
    exact ⟨rfl, below_self hb1 hb2⟩
  · rw [if_neg c3] at hT
    subst hT
    have t3 : ((C : Int) == (S : Int)) = true := by simp; omega
    have t4 : ((C : Int) != (S : Int)) = false := by simp; omega
    have hx : txt ((byt (b.extract 8 M), (M : Int), (0 : Int)).1) = b.extract 8 M := txt_byt _
    rw [hx]
    clear hx
    go_enter Try.func26, Try.ntmps26
    go_wp2_with fail
    refine HR.out.mono ?_
    rintro e w1 ⟨rfl, hb1⟩
    rw [hMi] at w8
    go_wp2_with fail
    refine (HR2.out _).mono ?_
    rintro e w2 ⟨rfl, hb2⟩
    go_wp2_with fail
    refine (HMR.out _).mono ?_
    rintro e w3 ⟨rfl, rfl⟩
    go_wp2
    go_ret3
    exact ⟨rfl, below_self hb1 hb2⟩
end Go.Proofs.Ytfobdkhmffphmaa
namespace Go.Proofs.Ytfobdkhmffphmaa
open Go.RowKit
set_option linter.unusedSimpArgs false
set_option linter.unusedVariables false

theorem tk_range {b : List Int} (h : ∀ x ∈ b, 0 ≤ x ∧ x ≤ 255) : ∀ x ∈ (tkN b).1, 0 ≤ x ∧ x ≤ 255 := by
  intro x hx
  unfold tkN tkG at hx
  split at hx
  · simp at hx
  split at hx
  · simp at hx
  split at hx
  · simp at hx
  split at hx
  · simp at hx
  exact h x (List.mem_of_mem_take (List.mem_of_mem_drop hx))
theorem txt_full {l : List Int} (h : ∀ x ∈ l, 0 ≤ x ∧ x ≤ 255) (hl : l ≠ []) : ¬ (txt l).toList = [] := by
  intro q
  have e : ((txt l).toList == ByteArray.empty.toList) = true := by rw [q]; simp
  rw [toList_eq_iff, byt_txt h] at e
  exact hl (by simpa [byt] using e)
end Go.Proofs.Ytfobdkhmffphmaa
namespace Go.Proofs.Ytfobdkhmffphmaa
open Go.RowKit
set_option linter.unusedSimpArgs false
set_option linter.unusedVariables false

section
variable {ops : Array Oper} {rest : List Oper} {o : Oper} {a : Act} {w : World} {Q : Exit → Act → World → Prop}
end
theorem infoStr : (Try.prog.info? 9).map (fun i => (i.zero, i.size, i.bytes)) = some (some (.string ByteArray.empty), 1, 16) := by kernel_rfl
def strs (l : List (List Int)) : List Value := l.map fun x => .string (txt x)
def RAllPost (b : List Int) (w : World) (e : Ending) (w' : World) : Prop := ∃ lv, Hid (e = .returned (.tuple #[lv, .int .i64 (totL (allN b) : Nat)])) ∧ Own1 w' w.heap.size 9 lv (strs (allN b)) ∧ Below w.heap.size w w'
set_option maxRecDepth 100000 in
set_option maxHeartbeats 4000000 in
theorem rall_any (b : ByteArray) (w : World) (hb : b.size ≤ 1000000) : Calls Try.prog 22 #[.string b] w (RAllPost (byt b) w) := by
  have hbl := byt_length b
  have HBL := Lib.hid hbl
  clear hbl
  go_enter Try.func22, Try.ntmps22
  go_wp2
  go_loopw [4, 5] (fun lv c wr => ∃ (k : Nat) (pre : List (List Int)), k ≤ b.size ∧ pre.length ≤ k ∧ c = .int .i64 k ∧ Hid (pre ++ allN ((byt b).drop k) = allN (byt b)) ∧ Hid (totL pre = k) ∧ Hid (Own1 wr w.heap.size 9 lv (strs pre)) ∧ Hid (Below w.heap.size w wr)) (fun _ c _ => b.size - (intOf c).toNat)
  case atStart => exact ⟨0, [], by omega, by simp, rfl, rfl, rfl, Own1.nil _ _ _, Below.refl _ _⟩
  case round =>
    obtain ⟨k, pre, hk, hpk, rfl, hA, hT, hO, hB⟩ := hrel
    have k1 : (k : Int) ≤ b.size := by omega
    have hcs : (b.extract k b.size).size ≤ 1000000 := by simp; omega
    have hcut : byt (b.extract k b.size) = (byt b).drop k := by rw [byt_extract, List.take_of_length_le (by rw [HBL.out]; omega)]
    have HCUT := Lib.hid hcut
    have HCS := Lib.hid hcs
    clear hcut hcs
    go_wp2_with fail
    refine (rtake_any _ _ HCS.out).mono ?_
    rw [HCUT.out]
    rintro e w1 ⟨rfl, hb1⟩
    have hstep := allN_step ((byt b).drop k)
    have hok := tkN_ok ((byt b).drop k)
    obtain ⟨X, hX⟩ : ∃ X, (tkN ((byt b).drop k)).1 = X := ⟨_, rfl⟩
    obtain ⟨m, hm⟩ : ∃ m, (tkN ((byt b).drop k)).2.1 = m := ⟨_, rfl⟩
    obtain ⟨er, her⟩ : ∃ er, (tkN ((byt b).drop k)).2.2 = er := ⟨_, rfl⟩
    rw [hX, hm, her] at hok
    rw [hX, her] at hstep
    rw [hX, hm, her]
    have hB1 : Below w.heap.size w w1 := below_self hB.out hb1
    have hO1 := hO.out.below hb1
    have hz1 := hB1.size
    have HB1 := Lib.hid hB1
    have HO1 := Lib.hid hO1
    clear hX hm her hB hO hb1 hB1 hO1
    by_cases c : er = 0
    · subst c
      rw [if_pos rfl] at hstep
      obtain ⟨ho1, ho2⟩ := hok rfl
      subst ho1
      have hlen : (List.drop k (byt b)).length = b.size - k := by rw [List.length_drop, HBL.out]
      have hS := hstep
      have HS := Lib.hid hS
      clear hS hstep hok
      rw [hlen] at ho2
      clear hlen
      have hkx : k + (8 + X.length) ≤ b.size := by omega
      go_wp2_with (refine wpList_app1 rfl _ _ 36 9 _ 16 rfl Try.underlying36 infoStr rfl (by omega) w.heap.size _ (strs pre) rfl (HO1.out.below ((Below.refl _ _).alloc (Nat.le_refl _) _)) w1.heap.size (.string (txt X)) rfl ?hu rfl (by simp [strs]; omega) (by simp; omega) ?_)
      case hu => simp [go_sem]
      intro v2 w2 ho3 hb3 _ _
      have hB2 : Below w.heap.size w w2 := (HB1.out.alloc hz1 _).trans hb3
      have HB2 := Lib.hid hB2
      have HO2 := Lib.hid ho3
      clear ho3 hb3 hB2 HB1 HO1
      go_wp2
      go_roundw
      case rel =>
        refine ⟨k + (8 + X.length), pre ++ [X], hkx, by simp; omega, by first | (simp; done) | (simp; omega), ?_, ?_, ?_, HB2.out⟩
        · unfold Hid
          rw [← hA.out, HS.out, List.drop_drop]
          simp
        · unfold Hid; rw [totL_snoc, hT.out]
        · unfold Hid; have := HO2.out; simpa [strs] using this
      case measure => simp [intOf]; omega
    · rw [if_neg c] at hstep
      have hS := hA.out
      rw [hstep, List.append_nil] at hS
      have HS := Lib.hid hS
      have c1 : (er == 0) = false := by simpa using c
      have c2 : (er != 0) = true := by simpa using c
      clear hS hstep hok hA
      go_wp2
      go_ret2
      refine ⟨u4, ?_, ?_, HB1.out⟩
      · unfold Hid; rw [← HS.out, hT.out]; rfl
      · rw [← HS.out]; exact HO1.out
end Go.Proofs.Ytfobdkhmffphmaa
