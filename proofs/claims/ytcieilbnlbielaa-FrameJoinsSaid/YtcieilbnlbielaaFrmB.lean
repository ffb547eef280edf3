/-
  The walk of FrameBack.
-/
import Derived.Test.YtcieilbnlbielaaFrmN
namespace Go.Proofs.Ytcieilbnlbielaa
open Go.RowKit
set_option linter.unusedSimpArgs false
set_option linter.unusedVariables false

section
variable {ops : Array Oper} {rest : List Oper} {o : Oper} {a : Act} {w : World} {Q : Exit → Act → World → Prop}
/-- 's[:h]' of bytes. -/
theorem wpList_cut_h (hw : Region.wanted o (yielded ops a.tmps) = true) (x hi : Operand) (ho : o.op = .slice 23 x none (some hi) none) (v : Value) (xs : List Int) (hx : a.eval x = v) (hb : Bt w v xs)
    (h : Nat) (hj : Int) (hh : a.eval hi = .int .i64 hj) (hhj : hj = (h : Int)) (hn : h ≤ xs.length)
    (hk : ∀ v', Bt w v' (xs.take h) → wpList Try.prog ops Q rest (a.put o.dst v') w) : wpList Try.prog ops Q (o :: rest) a w := by
  subst hhj
  obtain ⟨ad, cap, rfl, h1, h2⟩ := hb.row
  have key := bt_sliced h1 h2 0 h (Nat.zero_le _) hn
  rw [List.drop_zero] at key
  refine wpList_value hw _ w ?_ (hk _ key)
  have hu : Try.prog.underlying 23 = some (.slice (Try.prog.elem 23)) := by kernel_rfl
  have hs : ∀ w, (sizeOf (Try.prog.elem 23)).run Try.prog w = .ok 1 w := fun w => by kernel_rfl
  unfold execOp
  simp only [ho, Option.map_some, Option.map_none, hx, hh, Sem.run_bind, Sem.run_pure, Result.andThen_ok]
  rw [run_sliceAt_slice (h := hu), run_slice_h (ht := hu) (h0 := by omega) (h2 := by have := h2.2.1; omega), hs]
  rfl
end
theorem over_good {ss : List ByteArray} (h : overB ss = false) : ss.length ≤ 60 ∧ GoodL (ss.map byt) := by
  unfold overB at h
  rw [Bool.or_eq_false_iff] at h
  obtain ⟨h1, h2⟩ := h
  simp only [List.any_eq_false, decide_eq_true_eq, decide_eq_false_iff_not] at h1 h2
  refine ⟨by omega, fun X q => ?_⟩
  obtain ⟨s, hs, rfl⟩ := List.mem_map.1 q
  have := h1 s hs
  exact ⟨by rw [byt_length]; omega, byt_range s⟩
theorem getD_byt (ss : List ByteArray) (k : Nat) (h : k < ss.length) : (ss.map byt).getD k [] = byt (ss.getD k ByteArray.empty) := by simp [List.getD, h]
/-- A round of comparing a body with its text. -/
theorem body_cell {w0 wr : World} {lv : Value} {L : List (List Int)} {ss : List ByteArray} {n : Nat} {a5 : Option Addr} {c5 : Nat} (hR : AllRow w0 (.slice a5 n c5) L) (hB : Below w0.heap.size w0 wr) (k : Nat) (hk : k < L.length) (s : ByteArray) (hs : L.getD k [] = byt s) :
    ∃ g xv, a5 = some ⟨g, 0, none⟩ ∧ wr.cell? ⟨g, k, none⟩ = some xv ∧ (convert 23 9 xv).run Try.prog wr.drew = .ok (.string s) wr.drew ∧ (convert 23 9 xv).run Try.prog wr = .ok (.string s) wr := by
  obtain ⟨g, c, xv, e, hg, hc, ht⟩ := hR.cell k hk
  simp only [Value.slice.injEq] at e
  obtain ⟨rfl, _, rfl⟩ := e
  rw [hs] at ht
  have ht1 := ht.below hB
  have q1 := ht1.text
  have q2 := (ht1.below (Below.refl _ _).drew).text
  rw [txt_byt] at q1 q2
  exact ⟨g, xv, rfl, (hB.cell (p := ⟨g, k, none⟩) hg).trans hc, q2, q1⟩
set_option maxRecDepth 100000 in
set_option maxHeartbeats 8000000 in
theorem back_in (a : Option Addr) (cap : Nat) (ss : List ByteArray) (cut : Int) (w : World) (hs : SRd w a ss) (hz : ∀ s ∈ ss, s.size ≤ maxLen) (ho : overB ss = false) :
    Calls Try.prog 5 #[.slice a ss.length cap, .int .i64 cut] w fun e w' => e = .returned (.bool true) ∧ Below w.heap.size w w' := by
  obtain ⟨hn, hg⟩ := over_good ho
  have HS := Lib.hid hs
  have HZ := Lib.hid hz
  have HG := Lib.hid hg
  have HO := Lib.hid ho
  obtain ⟨L, hL⟩ : ∃ L, ss.map byt = L := ⟨_, rfl⟩
  have HL := Lib.hid hL
  have hLl : L.length = ss.length := by rw [← hL]; simp
  have HLL := Lib.hid hLl
  have htot : totL L ≤ 508 * 60 := by
    have := totL_le L (fun X q => (hg X (by rw [hL]; exact q)).1)
    omega
  obtain ⟨T, hT⟩ : ∃ T, totL L = T := ⟨_, rfl⟩
  have HT := Lib.hid hT
  have hjl : (joinN L).length = T := by rw [joinN_len, hT]
  have HJL := Lib.hid hjl
  rw [hT] at htot
  clear hs hz hg ho hL hLl hT hjl
  go_enter Try.func5, Try.ntmps5
  go_wp2_with fail
  refine (works_any _).mono ?_
  rintro e w1 ⟨rfl, hb1⟩
  have HB1 := Lib.hid hb1
  clear hb1
  go_wp2_with fail
  refine (over_any a cap ss _ (HS.out.below HB1.out)).mono ?_
  rw [HO.out]
  rintro e w2 ⟨rfl, rfl⟩
  go_wp2_with fail
  refine (bod_any a cap ss _ (HS.out.below HB1.out) HZ.out (by omega)).mono ?_
  rintro e w3 ⟨lv, he3, hr3, hb3⟩
  rw [he3.out]
  rw [HL.out] at hr3
  have HR3 := Lib.hid hr3
  have HB3 : Hid (Below w.heap.size w w3) := below_self HB1.out hb3
  clear he3 hr3 hb3 HB1
  go_wp2_with fail
  refine (join_any lv L _ HR3.out (by have := HG.out; rw [HL.out] at this; exact this) (by rw [HLL.out]; omega)).mono ?_
  rintro e w4 ⟨bv, he4, ho4, hb4⟩
  rw [he4.out]
  have hbt4 := ho4.bt (by rw [HJL.out]; omega)
  obtain ⟨a4, c4, hbv, _, _⟩ := hbt4.row
  rw [HJL.out] at hbv
  subst hbv
  have HT4 := Lib.hid hbt4
  have HB4 : Hid (Below w.heap.size w w4) := below_self HB3.out hb4
  clear he4 ho4 hb4 hbt4 HR3 HB3
  go_wp2_with fail
  refine (all_any2 _ (joinN L) _ HT4.out (joinN_range L (by have := HG.out; rw [HL.out] at this; exact this)) (by rw [HJL.out]; omega)).mono ?_
  rintro e w5 ⟨mv, he5, hr5, hb5⟩
  have hall : allN (joinN L) = L := by
    have := allN_join L [] (by have := HG.out; rw [HL.out] at this; exact this)
    rw [allN_nil, List.append_nil, List.append_nil] at this
    exact this
  rw [he5.out, hall, HT.out]
  rw [hall] at hr5
  obtain ⟨a5, c5, hmv⟩ := hr5.row
  rw [HLL.out] at hmv
  subst hmv
  have HR5 := Lib.hid hr5
  have HT5 := Lib.hid (HT4.out.below hb5)
  have HB5 : Hid (Below w.heap.size w w5) := below_self HB4.out hb5
  clear he5 hr5 hb5 hall HT4 HB4
  go_wp2
  go_loopw [10] (fun i wr => ∃ k : Nat, k ≤ ss.length ∧ i = .int .i64 k ∧ Hid (Below w5.heap.size w5 wr)) (fun i _ => ss.length - (intOf i).toNat)
  case atStart => exact ⟨0, by omega, rfl, Below.refl _ _⟩
  case round =>
    obtain ⟨k, hk, rfl, hBw⟩ := hrel
    by_cases hlt : k < ss.length
    · obtain ⟨s, hs⟩ : ∃ s, ss.getD k ByteArray.empty = s := ⟨_, rfl⟩
      obtain ⟨g5, xv, rfl, hc5, kx, kx2⟩ := body_cell (lv := undef) (ss := ss) HR5.out hBw.out k (by rw [HLL.out]; exact hlt) s (by rw [← HL.out, getD_byt ss k hlt, hs])
      obtain ⟨g6, off, rfl, hg6, hc6⟩ := HS.out.cell k hlt
      rw [hs] at hc6
      have hc6' : wr.cell? ⟨g6, off + k, none⟩ = some (.string s) := ((below_self HB5.out hBw.out).cell (p := ⟨g6, off + k, none⟩) hg6).trans hc6
      have hc5d : wr.drew.cell? ⟨g5, k, none⟩ = some xv := hc5
      have hc6d : wr.drew.cell? ⟨g6, off + k, none⟩ = some (.string s) := hc6'
      have q1 : (s.toList == s.toList) = true := by simp
      have q2 : (s.toList != s.toList) = false := by simp
      have hlt' : (k : Int) < (ss.length : Int) := by omega
      clear hs hc6 HS HZ HG HO HL HLL HT HJL HR5 HT5 HB5
      go_wp2
      go_region
      go_wp2
      go_roundw
      case rel => exact ⟨k + 1, by omega, by go_num, hBw.out.drew⟩
      case measure => simp [intOf]; omega
    · have hlt' : ¬ (k : Int) < (ss.length : Int) := by omega
      have HBr : Hid (Below w.heap.size w wr) := below_self HB5.out hBw.out
      have HTr : Hid (Bt wr (.slice a4 T c4) (joinN L)) := HT5.out.below hBw.out
      clear hBw HT5 HB5 HR5
      by_cases k0 : cut < 0
      · have k0' : decide (cut < 0) = true := by simpa using k0
        go_wp2
        go_ret
        exact ⟨rfl, HBr.out⟩
      have k0' : decide (cut < 0) = false := by simpa using k0
      by_cases k1 : (T : Int) < cut
      · have k1' : decide ((T : Int) < cut) = true := by simpa using k1
        go_wp2
        go_ret
        exact ⟨rfl, HBr.out⟩
      have k1' : decide ((T : Int) < cut) = false := by simpa using k1
      obtain ⟨c, rfl⟩ := Int.eq_ofNat_of_zero_le (show 0 ≤ cut by omega)
      have k0'' : decide ((c : Int) < 0) = false := k0'
      have k1'' : decide ((T : Int) < (c : Int)) = false := k1'
      have hcT : c ≤ T := by omega
      have hGL : GoodL L := by have := HG.out; rw [HL.out] at this; exact this
      have hcut := allN_cut L hGL c (by rw [HT.out]; exact hcT)
      have hm1 := cutN_le L c
      have hm2 := cutN_tot L c
      have hm3 := cutN_more L c
      obtain ⟨m, hm⟩ : ∃ m, cutN L c = m := ⟨_, rfl⟩
      obtain ⟨U, hU⟩ : ∃ U, totL (L.take m) = U := ⟨_, rfl⟩
      rw [hm] at hcut hm1 hm2 hm3
      rw [hU] at hm2 hm3
      rw [HLL.out] at hm1 hm3
      have htl : (L.take m).length = m := by rw [List.length_take, HLL.out]; omega
      have HTL := Lib.hid htl
      have HCUT := Lib.hid hcut
      have HU := Lib.hid hU
      have HM3 := Lib.hid hm3
      have hr1 := joinN_range L hGL
      have hr2 : ∀ x ∈ (joinN L).take c, 0 ≤ x ∧ x ≤ 255 := fun x q => hr1 x (List.mem_of_mem_take q)
      have HR2 := Lib.hid hr2
      clear hGL hcut hm hU htl hm3 hr1 hr2 k0 k1 k0' k1'
      go_wp2_with (refine wpList_cut_h (o := ⟨some 76, _, _, _, _, _⟩) rfl _ _ rfl _ (joinN L) rfl HTr.out c _ rfl rfl (by rw [HJL.out]; omega) ?_)
      intro v6 ht6
      have HT6 := Lib.hid ht6
      clear ht6
      go_wp2_with fail
      refine (all_any2 _ ((joinN L).take c) _ HT6.out HR2.out (by rw [List.length_take, HJL.out]; omega)).mono ?_
      rintro e w7 ⟨nv, he7, hr7, hb7⟩
      rw [he7.out, HCUT.out, HU.out]
      rw [HCUT.out] at hr7
      obtain ⟨a7, c7, hnv⟩ := hr7.row
      rw [HTL.out] at hnv
      subst hnv
      have HR7 := Lib.hid hr7
      have HB7 : Hid (Below w.heap.size w w7) := below_self HBr.out hb7
      clear he7 hr7 hb7 HTr HBr HT6 HR2
      have g1 : ¬ (ss.length : Int) < (m : Int) := by omega
      have g2 : ¬ (c : Int) < (U : Int) := by omega
      have g1' : decide ((ss.length : Int) < (m : Int)) = false := by simpa using g1
      have g2' : decide ((c : Int) < (U : Int)) = false := by simpa using g2
      go_wp2
      go_loopw [13, 14] (fun bb i wr => ∃ (k B : Nat), k ≤ m ∧ i = .int .i64 k ∧ bb = .int .i64 B ∧ Hid (totL (L.take k) = B) ∧ B ≤ 508 * k ∧ Hid (Below w7.heap.size w7 wr)) (fun _ i _ => m - (intOf i).toNat)
      case atStart => exact ⟨0, 0, by omega, rfl, rfl, rfl, by omega, Below.refl _ _⟩
      case round =>
        obtain ⟨k, B, hk, rfl, rfl, hTB, hB5, hBw⟩ := hrel
        by_cases hlt : k < m
        · have hkn : k < ss.length := by omega
          obtain ⟨s, hs⟩ : ∃ s, ss.getD k ByteArray.empty = s := ⟨_, rfl⟩
          have hLk : L.getD k [] = byt s := by rw [← HL.out, getD_byt ss k hkn, hs]
          have hLk2 : (L.take m).getD k [] = byt s := by
            rw [← hLk]; simp only [List.getD]; rw [List.getElem?_take, if_pos hlt]
          obtain ⟨g5, xv, rfl, hc5, kx, kx2⟩ := body_cell (lv := undef) (ss := ss) HR7.out hBw.out k (by rw [HTL.out]; exact hlt) s hLk2
          obtain ⟨g6, off, rfl, hg6, hc6⟩ := HS.out.cell k hkn
          rw [hs] at hc6
          have hc6' : wr.cell? ⟨g6, off + k, none⟩ = some (.string s) := ((below_self HB7.out hBw.out).cell (p := ⟨g6, off + k, none⟩) hg6).trans hc6
          have hc5d : wr.drew.cell? ⟨g5, k, none⟩ = some xv := hc5
          have hc6d : wr.drew.cell? ⟨g6, off + k, none⟩ = some (.string s) := hc6'
          have q1 : (s.toList == s.toList) = true := by simp
          have q2 : (s.toList != s.toList) = false := by simp
          have hlt' : (k : Int) < (m : Int) := by omega
          have hkn' : (k : Int) < (ss.length : Int) := by omega
          have hs5 : s.size ≤ 500 := by
            have := (HG.out (byt s) (by rw [← hs]; exact List.mem_map.2 ⟨ss.getD k ByteArray.empty, by simp only [List.getD, List.getElem?_eq_getElem hkn, Option.getD_some]; exact List.getElem_mem hkn, rfl⟩)).1
            rw [byt_length] at this; exact this
          have hTB2 : Hid (totL (L.take (k + 1)) = B + s.size + 8) := by
            have hkL : k < L.length := by rw [HLL.out]; exact hkn
            have e : L.take (k + 1) = L.take k ++ [byt s] := by
              rw [List.take_add_one, List.getElem?_eq_getElem hkL]
              have := hLk
              simp only [List.getD, List.getElem?_eq_getElem hkL, Option.getD_some] at this
              rw [this]; rfl
            unfold Hid
            rw [e, totL_snoc, hTB.out, byt_length]
            omega
          clear hs hLk hLk2 hc6 HS HZ HG HO HL HLL HT HJL HR7 HB7 HU HM3 HCUT HTL hTB
          go_wp2
          go_region
          go_wp2
          go_roundw
          case rel => exact ⟨k + 1, B + s.size + 8, by omega, by go_num, by go_num, hTB2.out, by omega, hBw.out.drew⟩
          case measure => simp [intOf]; omega
        · have hkm : k = m := by omega
          subst hkm
          have hBU : B = U := by rw [← HU.out, hTB.out]
          subst hBU
          have hlt' : ¬ (k : Int) < (k : Int) := by omega
          have HBE : Hid (Below w.heap.size w wr) := below_self HB7.out hBw.out
          by_cases hmn : k < ss.length
          · have hmore := HM3.out hmn
            obtain ⟨s, hs⟩ : ∃ s, ss.getD k ByteArray.empty = s := ⟨_, rfl⟩
            have hLk : L.getD k [] = byt s := by rw [← HL.out, getD_byt ss k hmn, hs]
            rw [hLk, byt_length] at hmore
            obtain ⟨g6, off, rfl, hg6, hc6⟩ := HS.out.cell k hmn
            rw [hs] at hc6
            have hc6' : wr.cell? ⟨g6, off + k, none⟩ = some (.string s) := (HBE.out.cell (p := ⟨g6, off + k, none⟩) hg6).trans hc6
            have hs5 : s.size ≤ 500 := by
              have := (HG.out (byt s) (by rw [← hs]; exact List.mem_map.2 ⟨ss.getD k ByteArray.empty, by simp only [List.getD, List.getElem?_eq_getElem hmn, Option.getD_some]; exact List.getElem_mem hmn, rfl⟩)).1
              rw [byt_length] at this; exact this
            have hmn' : (k : Int) < (ss.length : Int) := by omega
            have hne : ((k : Int) == (ss.length : Int)) = false := by simp; omega
            have w1' : IntKind.i64.wrap ((s.size : Int) + 8) = (s.size : Int) + 8 := IntWalk.i64_in _ (by omega)
            have w2' : IntKind.i64.wrap ((B : Int) + ((s.size : Int) + 8)) = (B : Int) + ((s.size : Int) + 8) := IntWalk.i64_in _ (by omega)
            have hgt : (c : Int) < (B : Int) + ((s.size : Int) + 8) := by omega
            clear hs hLk hc6 HS HZ HG HO HL HLL HT HJL HR7 HB7 HU HM3 HCUT HTL hTB hmore
            go_wp2
            go_ret
            exact ⟨rfl, HBE.out⟩
          · have hmn' : ¬ (k : Int) < (ss.length : Int) := by omega
            have hne : ((k : Int) == (ss.length : Int)) = true := by simp; omega
            clear HS HZ HG HO HL HLL HT HJL HR7 HB7 HU HM3 HCUT HTL hTB
            go_wp2
            go_ret
            exact ⟨rfl, HBE.out⟩
theorem back_law (a : Option Addr) (cap : Nat) (ss : List ByteArray) (cut : Int) (w : World) (hs : SRd w a ss) (hz : ∀ s ∈ ss, s.size ≤ maxLen) :
    Calls Try.prog 5 #[.slice a ss.length cap, .int .i64 cut] w fun e w' => e = .returned (.bool true) ∧ Below w.heap.size w w' := by
  by_cases ho : overB ss = false
  · exact back_in a cap ss cut w hs hz ho
  have ho : overB ss = true := by simpa using ho
  have HO := Lib.hid ho
  have HS := Lib.hid hs
  clear ho hs hz
  go_enter Try.func5, Try.ntmps5
  go_wp2_with fail
  refine (works_any _).mono ?_
  rintro e w1 ⟨rfl, hb1⟩
  have HB1 := Lib.hid hb1
  clear hb1
  go_wp2_with fail
  refine (over_any a cap ss _ (HS.out.below HB1.out)).mono ?_
  rw [HO.out]
  rintro e w2 ⟨rfl, rfl⟩
  go_wp2
  go_ret
  exact ⟨rfl, HB1.out⟩
end Go.Proofs.Ytcieilbnlbielaa
