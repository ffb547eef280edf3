/-
  The walk of DiskLasts.
-/
import Derived.Test.YtlanmgdekkblcaaDskL
import Derived.Lib.MinMax
namespace Go.Proofs.Ytlanmgdekkblcaa
open Go.RowKit
set_option linter.unusedSimpArgs false
set_option linter.unusedVariables false

section
variable {ops : Array Oper} {rest : List Oper} {o : Oper} {a : Act} {w : World} {Q : Exit → Act → World → Prop}
/-- 's[:h]' of texts. -/
theorem wpList_cutS (hw : Region.wanted o (yielded ops a.tmps) = true) (x hi : Operand) (ho : o.op = .slice 36 x none (some hi) none) (ad : Option Addr) (n c : Nat) (hx : a.eval x = .slice ad n c)
    (h : Nat) (hh : a.eval hi = .int .i64 (h : Int)) (hn : h ≤ c)
    (hk : wpList Try.prog ops Q rest (a.put o.dst (.slice ad h c)) w) : wpList Try.prog ops Q (o :: rest) a w := by
  refine wpList_value hw _ w ?_ hk
  have hu : Try.prog.underlying 36 = some (.slice (Try.prog.elem 36)) := by kernel_rfl
  have hs : ∀ w, (sizeOf (Try.prog.elem 36)).run Try.prog w = .ok 1 w := fun w => by kernel_rfl
  unfold execOp
  simp only [ho, Option.map_some, Option.map_none, hx, hh, Sem.run_bind, Sem.run_pure, Result.andThen_ok]
  rw [run_sliceAt_slice (h := hu), run_slice_h (ht := hu) (h0 := by omega) (h2 := by omega), hs]
  rcases ad with _ | ⟨b, k, q⟩ <;> simp [sliced, Addr.add]
end
theorem Own1.foot {w w' : World} {base p e : Nat} {v l : Value} {vs : List Value} (h : Own1 w base e l vs) (hf : Foot w w' p v) (hp : p < base) (hv : ∀ k, v.ownBlock = some k → k < base) : Own1 w' base e l vs :=
  ownsRow_keep h fun k h1 h2 => hf.block k h2 (by omega) (fun e => by have := hv k e.symm; omega)
set_option maxHeartbeats 1000000 in
theorem lasts_far (a b : Option Addr) (ca cb : Nat) (A B : List ByteArray) (keep : Int) (w : World) (hA : SRd w a A) (hB : SRd w b B) (hf : (60 : Int) < A.length ∨ (60 : Int) < B.length) :
    Calls Try.prog 4 #[.slice a A.length ca, .slice b B.length cb, .int .i64 keep] w fun e w' => e = .returned (.bool true) ∧ Below w.heap.size w w' := by
  have hl := hA.1
  have hl2 := hB.1
  by_cases h1 : (60 : Int) < A.length
  · go_enter Try.func4, Try.ntmps4
    go_wp2_with (go_at_call 8; refine (works_any _).mono ?_; rintro e w1 ⟨rfl, hb⟩; have HB := Lib.hid hb; clear hb)
    go_ret
    exact ⟨rfl, HB.out⟩
  · have h2 : (60 : Int) < B.length := by omega
    clear hf
    go_enter Try.func4, Try.ntmps4
    go_wp2_with (go_at_call 8; refine (works_any _).mono ?_; rintro e w1 ⟨rfl, hb⟩; have HB := Lib.hid hb; clear hb)
    go_ret
    exact ⟨rfl, HB.out⟩
set_option maxHeartbeats 8000000 in
theorem lasts_near (a b : Option Addr) (ca cb : Nat) (A B : List ByteArray) (keep : Int) (w : World) (hA : SRd w a A) (hcA : a = none → ca = 0) (hzA : ∀ s ∈ A, s.size ≤ maxLen) (hB : SRd w b B) (hcB : b = none → cb = 0) (hlB : B.length ≤ cb) (hzB : ∀ s ∈ B, s.size ≤ maxLen) (h1 : ¬ (60 : Int) < A.length) (h2 : ¬ (60 : Int) < B.length) :
    Calls Try.prog 4 #[.slice a A.length ca, .slice b B.length cb, .int .i64 keep] w fun e w' => e = .returned (.bool true) ∧ Below w.heap.size w w' := by
  have HSA := Lib.hid hA
  have HSB := Lib.hid hB
  have HCA := Lib.hid hcA
  have HCB := Lib.hid hcB
  have HZA := Lib.hid hzA
  have HZB := Lib.hid hzB
  have HLC := Lib.hid hlB
  clear hA hB hcA hcB hzA hzB hlB
  go_enter Try.func4, Try.ntmps4
  go_wp2_with fail
  refine (works_any _).mono ?_
  rintro e w1 ⟨rfl, hb⟩
  have HB1 := Lib.hid hb
  clear hb
  go_wp2_with fail
  refine (dnew_any _).mono ?_
  rintro e w2 ⟨p, v0, he, hd, hb⟩
  subst he
  have HD2 : Hid (DAt w2 w.heap.size p v0 (joinN ((A.take 0).map byt)) 0) := Lib.hid ⟨hd.lt, Nat.le_trans HB1.out.size hd.low, hd.c0, hd.c1, hd.f0, hd.f1, hd.own.le HB1.out.size, hd.far, hd.blk⟩
  have HB2 := Lib.hid (below_self HB1.out hb)
  clear hd hb HB1
  go_wp2_with fail
  go_loopw [10] (fun i wr => ∃ (k M : Nat) (v : Value), k ≤ A.length ∧ M ≤ k * 68 ∧ i = .int .i64 k ∧ Hid ((joinN ((A.take k).map byt)).length = M) ∧ Hid (DAt wr w.heap.size p v (joinN ((A.take k).map byt)) 0) ∧ Hid (Below w.heap.size w wr) ∧ Hid (Short (A.take k))) (fun i _ => A.length - (intOf i).toNat)
  case atStart => exact ⟨0, 0, v0, by omega, by omega, rfl, by simp [joinN, Hid], HD2, HB2, Lib.hid (by simp [Short])⟩
  case round =>
    clear HD2 HB2
    obtain ⟨k, M, v, hk, hM, rfl, hML, hD, hB, hSh⟩ := hrel
    obtain ⟨w3, rfl⟩ : ∃ w3 : World, w3 = wr := ⟨_, rfl⟩
    by_cases hlt : k < A.length
    · obtain ⟨s, hsk⟩ : ∃ s, A.getD k ByteArray.empty = s := ⟨_, rfl⟩
      obtain ⟨g6, off, rfl, hg6, hc6⟩ := HSA.out.cell k hlt
      rw [hsk] at hc6
      have hc3 := (hB.out.cell (p := ⟨g6, off + k, none⟩) hg6).trans hc6
      have hkn : (k : Int) < (A.length : Int) := by omega
      have hsz : s.size ≤ 9223372036854775807 := by
        have := HZA.out s (by rw [← hsk]; simp only [List.getD, List.getElem?_eq_getElem hlt, Option.getD_some]; exact List.getElem_mem hlt)
        unfold maxLen at this; exact this
      have HG := Lib.hid hc6
      clear hc6
      by_cases q : (60 : Int) < s.size
      · go_wp2_with fail
        go_ret
        exact ⟨rfl, hB.out⟩
      · have hs60 : s.size ≤ 60 := by omega
        have hsn := take_map_snoc A k hlt
        rw [hsk] at hsn
        have hlen : (joinN ((A.take (k + 1)).map byt)).length = M + s.size + 8 := by
          rw [hsn, join_len_snoc, hML.out, byt_length]; omega
        have HLEN := Lib.hid hlen
        have HSN : Hid (joinN ((A.take k).map byt) ++ frm (byt s) = joinN ((A.take (k + 1)).map byt)) := Lib.hid (by rw [hsn, joinN_snoc])
        have HSH := Lib.hid (short_snoc hSh.out hlt (by rw [hsk]; exact hs60))
        have hJl : Hid ((joinN ((A.take k).map byt)).length ≤ 1000000000) := Lib.hid (by rw [hML.out]; omega)
        have hF : Hid ((byt s).length ≤ 16777215) := Lib.hid (by rw [byt_length]; omega)
        clear hsn hlen hsk
        go_wp2_with (refine wpList_bytes_g (o := ⟨some 47, _, _, _, _, _⟩) rfl 9 27 _ rfl 5 Try.underlying9 Try.underlying27 Try.underlying5 s rfl hsz ?_)
        intro v4 w4 hbt hz4 hb4
        have HBT := Lib.hid hbt
        have HD4 := Lib.hid (hD.out.below hb4)
        have HB4 := Lib.hid (below_self hB.out hb4)
        clear hbt hz4 hb4 hD hB
        go_wp2_with fail
        refine (append_any _ p v _ 0 _ (byt s) _ HD4.out hJl.out HBT.out (byt_range s) hF.out).mono ?_
        rintro e w5 ⟨he, v5, hd5, hf5⟩
        subst he
        rw [HSN.out] at hd5
        have HD5 := Lib.hid hd5
        have HB5 := Lib.hid (HB4.out.trans (HD4.out.foot hf5))
        clear hd5 hf5 HD4 HB4 hc3
        go_wp2_with fail
        go_roundw
        case rel => exact ⟨k + 1, M + s.size + 8, v5, by omega, by omega, by go_num, HLEN, HD5, HB5, HSH⟩
        case measure => simp [intOf]; omega
    · obtain rfl : k = A.length := by omega
      have hSh' := hSh.out
      have hML' := hML.out
      have hD' := hD.out
      rw [List.take_length] at hSh' hML' hD'
      have hgA := good_of hSh'
      have HGA := Lib.hid hgA
      have hMM : M ≤ 4080 := by omega
      have HML := Lib.hid hML'
      have HD := Lib.hid hD'
      have HLE : Hid ((joinN (A.map byt)).length ≤ 1000000000) := Lib.hid (by rw [hML']; omega)
      clear hSh hML hD hSh' hML' hD' hgA
      go_wp2_with fail
      refine (sync_any _ p v _ 0 _ HD.out HLE.out).mono ?_
      rintro e w4 ⟨he, hd, hf⟩
      subst he
      have HD4 : Hid (DAt w4 w.heap.size p v (joinN (A.map byt) ++ joinN ((B.take 0).map byt)) (joinN (A.map byt)).length) := Lib.hid (by simpa [joinN] using hd)
      have HB4 := Lib.hid (hB.out.trans (HD.out.foot hf))
      clear hd hf HD hB
      go_wp2_with fail
      obtain ⟨C, hC⟩ : ∃ C, cutN (B.map byt) (lf keep).toNat = C := ⟨_, rfl⟩
      have HC := Lib.hid hC
      clear hC
      go_loopw [11, 9, 12] (fun left n i wr => ∃ (k M : Nat) (D : Int) (v : Value), k ≤ B.length ∧ M ≤ k * 68 ∧ -(68 * (k : Int)) ≤ D ∧ D ≤ 1073741824 ∧ left = .int .i64 D ∧ n = .int .i64 ((min k C : Nat)) ∧ i = .int .i64 k ∧ Hid (D = lf keep - M) ∧ Hid (totL ((B.take k).map byt) = M) ∧ Hid (DAt wr w.heap.size p v (joinN (A.map byt) ++ joinN ((B.take k).map byt)) (joinN (A.map byt)).length) ∧ Hid (Below w.heap.size w wr) ∧ Hid (Short (B.take k))) (fun _ _ i _ => B.length - (intOf i).toNat)
      case atStart =>
        have hb := lf_bd keep
        exact ⟨0, 0, lf keep, v, by omega, by omega, by omega, by omega, rfl, by simp, rfl, Lib.hid (by simp), Lib.hid (by simp [totL]), HD4, HB4, Lib.hid (by simp [Short])⟩
      case round =>
        clear HD4 HB4
        obtain ⟨k, M, D, v, hk, hM, hD1, hD2, rfl, rfl, rfl, hDe, hML, hD, hB, hSh⟩ := hrel
        obtain ⟨w3, rfl⟩ : ∃ w3 : World, w3 = wr := ⟨_, rfl⟩
        by_cases hlt : k < B.length
        · obtain ⟨s, hsk⟩ : ∃ s, B.getD k ByteArray.empty = s := ⟨_, rfl⟩
          obtain ⟨g6, off, rfl, hg6, hc6⟩ := HSB.out.cell k hlt
          rw [hsk] at hc6
          have hc3 := (hB.out.cell (p := ⟨g6, off + k, none⟩) hg6).trans hc6
          have hkn : (k : Int) < (B.length : Int) := by omega
          have hsz : s.size ≤ 9223372036854775807 := by
            have := HZB.out s (by rw [← hsk]; simp only [List.getD, List.getElem?_eq_getElem hlt, Option.getD_some]; exact List.getElem_mem hlt)
            unfold maxLen at this; exact this
          have HG := Lib.hid hc6
          clear hc6
          by_cases q : (60 : Int) < s.size
          · go_wp2_with fail
            go_ret
            exact ⟨rfl, hB.out⟩
          · have hs60 : s.size ≤ 60 := by omega
            have hsn := take_map_snoc B k hlt
            rw [hsk] at hsn
            have hlen : totL ((B.take (k + 1)).map byt) = M + s.size + 8 := by
              rw [hsn, totL_snoc, hML.out, byt_length]; omega
            have HLEN := Lib.hid hlen
            have HSN : Hid (joinN (A.map byt) ++ joinN ((B.take k).map byt) ++ frm (byt s) = joinN (A.map byt) ++ joinN ((B.take (k + 1)).map byt)) := Lib.hid (by rw [hsn, joinN_snoc, List.append_assoc])
            have HSH := Lib.hid (short_snoc hSh.out hlt (by rw [hsk]; exact hs60))
            have hJl : Hid ((joinN (A.map byt) ++ joinN ((B.take k).map byt)).length ≤ 1000000000) := Lib.hid (by rw [List.length_append, HML.out, joinN_len, hML.out]; omega)
            have hF : Hid ((byt s).length ≤ 16777215) := Lib.hid (by rw [byt_length]; omega)
            have hlk : (B.take (k + 1)).map byt = (B.map byt).take (k + 1) := by rw [List.map_take]
            have hiff : 0 ≤ D - 8 - s.size ↔ k + 1 ≤ C := by
              rw [← HC.out, ← cutN_iff (B.map byt) _ (k + 1) (by simp; omega), ← hlk, hlen, hDe.out]
              have := (lf_bd keep).1
              omega
            have HIF := Lib.hid hiff
            have HDE : Hid (D - 8 - s.size = lf keep - ((M + s.size + 8 : Nat) : Int)) := Lib.hid (by rw [hDe.out]; omega)
            clear hsn hlen hsk hlk hiff hDe
            go_wp2_with (refine wpList_bytes_g (o := ⟨some 80, _, _, _, _, _⟩) rfl 9 27 _ rfl 5 Try.underlying9 Try.underlying27 Try.underlying5 s rfl hsz ?_)
            intro v4 w4 hbt hz4 hb4
            have HBT := Lib.hid hbt
            have HD4 := Lib.hid (hD.out.below hb4)
            have HB4 := Lib.hid (below_self hB.out hb4)
            clear hbt hz4 hb4 hD hB
            go_wp2_with fail
            refine (append_any _ p v _ _ _ (byt s) _ HD4.out hJl.out HBT.out (byt_range s) hF.out).mono ?_
            rintro e w5 ⟨he, v5, hd5, hf5⟩
            subst he
            rw [HSN.out] at hd5
            have HD5 := Lib.hid hd5
            have HB5 := Lib.hid (HB4.out.trans (HD4.out.foot hf5))
            have hc5 := (HB5.out.cell (p := ⟨g6, off + k, none⟩) hg6).trans HG.out
            clear hd5 hf5 HD4 HB4 hc3
            by_cases q2 : 0 ≤ D - 8 - s.size
            · have hkC : min (k + 1) C = k + 1 := Nat.min_eq_left (HIF.out.1 q2)
              go_wp2_with fail
              go_roundw
              case rel => exact ⟨k + 1, M + s.size + 8, D - 8 - s.size, v5, by omega, by omega, by omega, by omega, by go_num, by rw [hkC]; go_num, by go_num, HDE, HLEN, HD5, HB5, HSH⟩
              case measure => simp [intOf]; omega
            · have hkC : min (k + 1) C = min k C := by
                have : ¬ k + 1 ≤ C := fun h => q2 (HIF.out.2 h)
                omega
              go_wp2_with fail
              go_roundw
              case rel => exact ⟨k + 1, M + s.size + 8, D - 8 - s.size, v5, by omega, by omega, by omega, by omega, by go_num, by rw [hkC], by go_num, HDE, HLEN, HD5, HB5, HSH⟩
              case measure => simp [intOf]; omega
        · obtain rfl : k = B.length := by omega
          have hSh' := hSh.out
          have hML' := hML.out
          have hD' := hD.out
          rw [List.take_length] at hSh' hML' hD'
          have hgB := good_of hSh'
          have htB : totL (B.map byt) ≤ 1000000 := by omega
          have hcs := cut_same keep (B.map byt) htB
          rw [HC.out, hML'] at hcs
          obtain ⟨c, hc⟩ : ∃ c, kpN keep M = c := ⟨_, rfl⟩
          have hcM : c ≤ M := by rw [← hc]; unfold kpN; omega
          rw [hc] at hcs
          have hCle : C ≤ B.length := by have := cutN_le (B.map byt) (lf keep).toNat; rw [HC.out] at this; simpa using this
          have hmin : min B.length C = C := by omega
          obtain ⟨B2, hB2, hB2l⟩ : ∃ B2, B.take C = B2 ∧ C = B2.length := ⟨_, rfl, by simp; omega⟩
          obtain ⟨AB, hAB⟩ : ∃ AB, A ++ B2 = AB := ⟨_, rfl⟩
          have hABm : A.map byt ++ (B.map byt).take (cutN (B.map byt) c) = AB.map byt := by
            rw [← hcs, ← List.map_take, hB2, ← hAB, List.map_append]
          have hABl : AB.length = A.length + B2.length := by rw [← hAB, List.length_append]
          have hgAB : GoodL (AB.map byt) := by
            rw [← hABm]
            intro X hX
            rcases List.mem_append.1 hX with q | q
            · exact HGA.out X q
            · exact hgB X (List.mem_of_mem_take q)
          have hJl : (joinN (A.map byt) ++ joinN (B.map byt)).length = (joinN (A.map byt)).length + M := by rw [List.length_append, joinN_len (B.map byt), hML']
          have hsub : (joinN (A.map byt) ++ joinN (B.map byt)).length - (joinN (A.map byt)).length = M := by omega
          have hall := all_two HGA.out hgB c (by omega)
          have hcut := cut_two (A.map byt) (B.map byt) c
          rw [hABm] at hall hcut
          have hrg : ∀ x ∈ (joinN (A.map byt) ++ joinN (B.map byt)).take ((joinN (A.map byt)).length + c), 0 ≤ x ∧ x ≤ 255 := by
            intro x hx
            rcases List.mem_append.1 (List.mem_of_mem_take hx) with q | q
            · exact joinN_range _ HGA.out x q
            · exact joinN_range _ hgB x q
          have hall2 := all_join hgAB
          have hrg2 := joinN_range _ hgAB
          have htl2 : totL (AB.map byt) = (joinN (AB.map byt)).length := (joinN_len _).symm
          have hcl : (joinN (AB.map byt)).length ≤ 1000000000 := by
            rw [← hcut, List.length_take, List.length_take, hJl, HML.out]; omega
          have hcr : (joinN (A.map byt) ++ joinN (B.map byt)).take ((joinN (A.map byt)).length + kpN keep ((joinN (A.map byt) ++ joinN (B.map byt)).length - (joinN (A.map byt)).length)) = (joinN (A.map byt) ++ joinN (B.map byt)).take ((joinN (A.map byt)).length + c) := by rw [hsub, hc]
          obtain ⟨J, hJ⟩ : ∃ J, joinN (A.map byt) ++ joinN (B.map byt) = J := ⟨_, rfl⟩
          obtain ⟨n0, hn0⟩ : ∃ n0, (joinN (A.map byt)).length = n0 := ⟨_, rfl⟩
          rw [hJ, hn0] at hcr hrg hall hcut hD'
          obtain ⟨Y, hY⟩ : ∃ Y, J.take (n0 + c) = Y := ⟨_, rfl⟩
          obtain ⟨Z, hZ⟩ : ∃ Z, joinN (AB.map byt) = Z := ⟨_, rfl⟩
          rw [hY] at hcr hrg hall hcut
          rw [hZ] at hcut hall2 hrg2 htl2 hcl
          have hJle : J.length ≤ 1000000000 := by rw [← hJ, hJl, HML.out]; omega
          have hn0le : n0 ≤ J.length := by rw [← hn0, ← hJ, hJl]; omega
          have hYle : Y.length ≤ 1000000000 := by rw [← hY, List.length_take]; omega
          have HCR := Lib.hid hcr
          have HRG := Lib.hid hrg
          have HALL := Lib.hid hall
          have HCUT := Lib.hid hcut
          have HALL2 := Lib.hid hall2
          have HRG2 := Lib.hid hrg2
          have HTL2 := Lib.hid htl2
          have HCL := Lib.hid hcl
          have HJLE := Lib.hid hJle
          have HN0 := Lib.hid hn0le
          have HYLE := Lib.hid hYle
          have HD := Lib.hid hD'
          have HAB := Lib.hid hAB
          have HABL := Lib.hid hABl
          have HS2 : Hid (SRd w b B2) := Lib.hid (by rw [← hB2]; exact srd_cut (c := cb) HSB.out C hCle)
          have HB2C : Hid (B2.length ≤ cb) := Lib.hid (by have := HLC.out; omega)
          have HT : Hid (J.take (n0 + kpN keep (J.length - n0)) = Y) := HCR
          clear hSh hML hD hSh' hML' hD' hgB htB hcs hc hcM hABm hgAB hJl hsub hall hcut hrg hall2 hrg2 htl2 hcl hcr hJ hn0 hY hZ hJle hn0le hYle hAB hABl hB2 HC HCR
          rw [hmin]
          clear hmin
          subst hB2l
          go_wp2_with fail
          refine (crash_any _ p v J _ keep _ HD.out HJLE.out HN0.out).mono ?_
          rw [HT.out]
          rintro e w7 ⟨he, v7, hv7, hd, hf⟩
          subst he
          have HD7 := Lib.hid hd
          have HB7 := Lib.hid (hB.out.trans (HD.out.foot hf))
          clear hv7 hd hf HD hB
          go_wp2_with fail
          refine (open_any _ p v7 Y _ _ HD7.out HYLE.out HRG.out).mono ?_
          rintro e w8 ⟨lv8, v8, he, hr, hv8, hd, hf⟩
          subst he
          rw [HALL.out] at hr hd
          rw [HCUT.out] at hd
          have HR8 := Lib.hid hr
          have HD8 := Lib.hid hd
          have HB8 := Lib.hid (HB7.out.trans (HD7.out.foot hf))
          have HP8 : Hid (p < w7.heap.size ∧ ∀ k, v8.ownBlock = some k → k < w7.heap.size) := Lib.hid ⟨HD7.out.lt, fun k hk => HD7.out.own.lt k (by rw [← hv8]; exact hk)⟩
          have HZ8 : Hid (w7.heap.size ≤ w8.heap.size) := Lib.hid (hf.size)
          obtain ⟨a8, c8, e8⟩ := hr.row.row
          rw [List.length_map] at e8
          subst e8
          clear hr hv8 hd hf HD7 HB7
          go_wp2_with (refine wpList_appS (o := ⟨some 109, _, _, _, _, _⟩) rfl _ _ rfl w8.heap.size _ [] rfl (Own1.nil _ _ _) a ca A rfl (HSA.out.below HB8.out) HCA.out (by simp; omega) (Nat.le_refl _) ?_)
          intro v9 w9 ho9 hb9 hz9
          have hA9 : Own1 w9 w8.heap.size 9 v9 (A.map .string) := ho9
          have HO9 := Lib.hid hA9
          have HB9' := Lib.hid hb9
          have HB9 : Hid (Below w.heap.size w w9) := below_self HB8.out hb9
          clear ho9 hb9 hA9
          have hlAB : A.length + B2.length ≤ 1000000 := by
            have := HS2.out.1
            omega
          have hb2c : B2.length ≤ cb := HB2C.out
          go_wp2_with (refine wpList_appS (o := ⟨some 114, _, _, _, _, _⟩) rfl _ _ rfl w8.heap.size _ A rfl HO9.out b cb B2 rfl (HS2.out.below HB9.out) HCB.out hlAB hz9 ?_)
          intro v10 w10 ho10 hb10 hz10
          have hb10' : Below w8.heap.size w8 w10 := HB9'.out.trans hb10
          have ho10' : Own1 w10 w8.heap.size 9 v10 (AB.map .string) := by rw [← HAB.out, List.map_append]; exact ho10
          obtain ⟨a10, c10, hv10, _⟩ := srd_of_own ho10' (by rw [HABL.out]; omega)
          subst hv10
          have HO10 := Lib.hid ho10'
          have HR10 := Lib.hid (HR8.out.below hb10')
          have HD10 := Lib.hid (HD8.out.below hb10')
          have HB10 : Hid (Below w.heap.size w w10) := below_self HB8.out hb10'
          have HP10 : Hid (p < w8.heap.size ∧ ∀ k, v8.ownBlock = some k → k < w8.heap.size) := Lib.hid ⟨by have := HP8.out.1; have := HZ8.out; omega, fun k hk => by have := HP8.out.2 k hk; have := HZ8.out; omega⟩
          have HABN : Hid (AB.length ≤ 1000000) := Lib.hid (by rw [HABL.out]; omega)
          clear ho10 ho10' hb10 hb10' hz9 hz10 hlAB HO9 HB9 HB9' HB8 HR8 HD8
          go_wp2_with fail
          refine (open_any _ p v8 Z _ _ HD10.out HCL.out HRG2.out).mono ?_
          rintro e w11 ⟨lv11, v11, he, hr, hv11, hd, hf⟩
          subst he
          rw [HALL2.out] at hr
          have HR811 := Lib.hid (HR10.out.foot hf HP8.out.1 HP8.out.2)
          have ho11 := HO10.out.foot hf HP10.out.1 HP10.out.2
          obtain ⟨a', c', he', hs11⟩ := srd_of_own ho11 HABN.out
          simp only [Value.slice.injEq] at he'
          obtain ⟨rfl, _, rfl⟩ := he'
          have HS11 := Lib.hid hs11
          have HR11 := Lib.hid hr
          have HB11 := Lib.hid (HB10.out.trans (HD10.out.foot hf))
          obtain ⟨a11, c11, e11⟩ := hr.row.row
          rw [List.length_map] at e11
          subst e11
          clear hr hv11 hd hf ho11 hs11 HD10 HB10 HR10 HO10
          go_wp2_with fail
          refine (texts_true _ _ _ AB _ HR811.out.row HS11.out).mono ?_
          rintro e w12 ⟨rfl, hb⟩
          have HR12 := Lib.hid (HR11.out.below hb)
          have HS12 := Lib.hid (HS11.out.below hb)
          have HB12 := Lib.hid (below_self HB11.out hb)
          clear hb HR11 HR811 HB11 HS11
          go_wp2_with fail
          refine (texts_true _ _ _ AB _ HR12.out.row HS12.out).mono ?_
          rintro e w13 ⟨rfl, hb⟩
          have HB13 := Lib.hid (below_self HB12.out hb)
          clear hb
          go_wp2
          go_ret
          exact ⟨rfl, HB13.out⟩
theorem lasts_law (a b : Option Addr) (ca cb : Nat) (A B : List ByteArray) (keep : Int) (w : World) (hA : SRd w a A ∧ (a = none → ca = 0)) (hzA : ∀ s ∈ A, s.size ≤ maxLen) (hB : SRd w b B ∧ (b = none → cb = 0)) (hlB : B.length ≤ cb) (hzB : ∀ s ∈ B, s.size ≤ maxLen) :
    Calls Try.prog 4 #[.slice a A.length ca, .slice b B.length cb, .int .i64 keep] w fun e w' => e = .returned (.bool true) ∧ Below w.heap.size w w' := by
  by_cases h1 : (60 : Int) < A.length
  · exact lasts_far a b ca cb A B keep w hA.1 hB.1 (.inl h1)
  · by_cases h2 : (60 : Int) < B.length
    · exact lasts_far a b ca cb A B keep w hA.1 hB.1 (.inr h2)
    · exact lasts_near a b ca cb A B keep w hA.1 hA.2 hzA hB.1 hB.2 hlB hzB h1 h2
end Go.Proofs.Ytlanmgdekkblcaa
