/-
  The walk of DiskGoes.
-/
import Derived.Test.YtlanmgdekkblcaaDskH
namespace Go.Proofs.Ytlanmgdekkblcaa
open Go.RowKit
set_option linter.unusedSimpArgs false
set_option linter.unusedVariables false

set_option maxHeartbeats 1000000 in
theorem goes_far (a b : Option Addr) (ca cb : Nat) (A B : List ByteArray) (keep : Int) (w : World) (hA : SRd w a A) (hB : SRd w b B) (hf : (60 : Int) < A.length ∨ (60 : Int) < B.length) :
    Calls Try.prog 5 #[.slice a A.length ca, .int .i64 keep, .slice b B.length cb] w fun e w' => e = .returned (.bool true) ∧ Below w.heap.size w w' := by
  have hl := hA.1
  have hl2 := hB.1
  by_cases h1 : (60 : Int) < A.length
  · go_enter Try.func5, Try.ntmps5
    go_wp2_with (go_at_call 8; refine (works_any _).mono ?_; rintro e w1 ⟨rfl, hb⟩; have HB := Lib.hid hb; clear hb)
    go_ret
    exact ⟨rfl, HB.out⟩
  · have h2 : (60 : Int) < B.length := by omega
    clear hf
    go_enter Try.func5, Try.ntmps5
    go_wp2_with (go_at_call 8; refine (works_any _).mono ?_; rintro e w1 ⟨rfl, hb⟩; have HB := Lib.hid hb; clear hb)
    go_ret
    exact ⟨rfl, HB.out⟩
set_option maxHeartbeats 8000000 in
theorem goes_near (a b : Option Addr) (ca cb : Nat) (A B : List ByteArray) (keep : Int) (w : World) (hA : SRd w a A) (hcA : a = none → ca = 0) (hzA : ∀ s ∈ A, s.size ≤ maxLen) (hB : SRd w b B) (hcB : b = none → cb = 0) (hlB : B.length ≤ cb) (hzB : ∀ s ∈ B, s.size ≤ maxLen) (h1 : ¬ (60 : Int) < A.length) (h2 : ¬ (60 : Int) < B.length) :
    Calls Try.prog 5 #[.slice a A.length ca, .int .i64 keep, .slice b B.length cb] w fun e w' => e = .returned (.bool true) ∧ Below w.heap.size w w' := by
  have HSA := Lib.hid hA
  have HSB := Lib.hid hB
  have HCA := Lib.hid hcA
  have HCB := Lib.hid hcB
  have HZA := Lib.hid hzA
  have HZB := Lib.hid hzB
  have HLC := Lib.hid hlB
  clear hA hB hcA hcB hzA hzB hlB
  go_enter Try.func5, Try.ntmps5
  go_wp2_with fail
  refine (works_any _).mono ?_
  rintro e w1 ⟨rfl, hb⟩
  have HB1 := Lib.hid hb
  clear hb
  go_wp2_with fail
  refine (dnew_any _).mono ?_
  rintro e w2 ⟨p, v0, he, hd, hb⟩
  subst he
  have HD2 : Hid (DAt w2 w.heap.size p v0 (joinN ((A.take 0).map byt)) 0) := Lib.hid ⟨hd.lt, Nat.le_trans HB1.out.size hd.low, hd.c0, hd.c1, hd.f0, hd.f1, hd.own.le HB1.out.size, hd.far, hd.blk⟩
  have HB2 := Lib.hid (below_self HB1.out hb)
  clear hd hb HB1
  go_wp2_with fail
  go_loopw [9] (fun i wr => ∃ (k M : Nat) (v : Value), k ≤ A.length ∧ M ≤ k * 68 ∧ i = .int .i64 k ∧ Hid ((joinN ((A.take k).map byt)).length = M) ∧ Hid (DAt wr w.heap.size p v (joinN ((A.take k).map byt)) 0) ∧ Hid (Below w.heap.size w wr) ∧ Hid (Short (A.take k))) (fun i _ => A.length - (intOf i).toNat)
  case atStart => exact ⟨0, 0, v0, by omega, by omega, rfl, by simp [joinN, Hid], HD2, HB2, Lib.hid (by simp [Short])⟩
  case round =>
    clear HD2 HB2
    obtain ⟨k, M, v, hk, hM, rfl, hML, hD, hB, hSh⟩ := hrel
    obtain ⟨w3, rfl⟩ : ∃ w3 : World, w3 = wr := ⟨_, rfl⟩
    by_cases hlt : k < A.length
    · obtain ⟨s, hsk⟩ : ∃ s, A.getD k ByteArray.empty = s := ⟨_, rfl⟩
      obtain ⟨g6, off, rfl, hg6, hc6⟩ := HSA.out.cell k hlt
      rw [hsk] at hc6
      have hc3 := (hB.out.cell (p := ⟨g6, off + k, none⟩) hg6).trans hc6
      have hkn : (k : Int) < (A.length : Int) := by omega
      have hsz : s.size ≤ 9223372036854775807 := by
        have := HZA.out s (by rw [← hsk]; simp only [List.getD, List.getElem?_eq_getElem hlt, Option.getD_some]; exact List.getElem_mem hlt)
        unfold maxLen at this; exact this
      have HG := Lib.hid hc6
      clear hc6
      by_cases q : (60 : Int) < s.size
      · go_wp2_with fail
        go_ret
        exact ⟨rfl, hB.out⟩
      · have hs60 : s.size ≤ 60 := by omega
        have hsn := take_map_snoc A k hlt
        rw [hsk] at hsn
        have hlen : (joinN ((A.take (k + 1)).map byt)).length = M + s.size + 8 := by
          rw [hsn, join_len_snoc, hML.out, byt_length]; omega
        have HLEN := Lib.hid hlen
        have HSN : Hid (joinN ((A.take k).map byt) ++ frm (byt s) = joinN ((A.take (k + 1)).map byt)) := Lib.hid (by rw [hsn, joinN_snoc])
        have HSH := Lib.hid (short_snoc hSh.out hlt (by rw [hsk]; exact hs60))
        have hJl : Hid ((joinN ((A.take k).map byt)).length ≤ 1000000000) := Lib.hid (by rw [hML.out]; omega)
        have hF : Hid ((byt s).length ≤ 16777215) := Lib.hid (by rw [byt_length]; omega)
        clear hsn hlen hsk
        go_wp2_with (refine wpList_bytes_g (o := ⟨some 46, _, _, _, _, _⟩) rfl 9 27 _ rfl 5 Try.underlying9 Try.underlying27 Try.underlying5 s rfl hsz ?_)
        intro v4 w4 hbt hz4 hb4
        have HBT := Lib.hid hbt
        have HD4 := Lib.hid (hD.out.below hb4)
        have HB4 := Lib.hid (below_self hB.out hb4)
        clear hbt hz4 hb4 hD hB
        go_wp2_with fail
        refine (append_any _ p v _ 0 _ (byt s) _ HD4.out hJl.out HBT.out (byt_range s) hF.out).mono ?_
        rintro e w5 ⟨he, v5, hd5, hf5⟩
        subst he
        rw [HSN.out] at hd5
        have HD5 := Lib.hid hd5
        have HB5 := Lib.hid (HB4.out.trans (HD4.out.foot hf5))
        clear hd5 hf5 HD4 HB4 hc3
        go_wp2_with fail
        go_roundw
        case rel => exact ⟨k + 1, M + s.size + 8, v5, by omega, by omega, by go_num, HLEN, HD5, HB5, HSH⟩
        case measure => simp [intOf]; omega
    · obtain rfl : k = A.length := by omega
      have hSh' := hSh.out
      have hML' := hML.out
      have hD' := hD.out
      rw [List.take_length] at hSh' hML' hD'
      have hgA := good_of hSh'
      have HGA := Lib.hid hgA
      have hMM : M ≤ 4080 := by omega
      have HML := Lib.hid hML'
      have HD := Lib.hid hD'
      have HLE : Hid ((joinN (A.map byt)).length ≤ 1000000000) := Lib.hid (by rw [hML']; omega)
      have htA : totL (A.map byt) = M := by rw [← joinN_len, hML']
      obtain ⟨c, hc⟩ : ∃ c, kpN keep M = c := ⟨_, rfl⟩
      have hcM : c ≤ M := by rw [← hc]; unfold kpN; omega
      obtain ⟨C, hC⟩ : ∃ C, cutN (A.map byt) c = C := ⟨_, rfl⟩
      have hCle : C ≤ A.length := by have := cutN_le (A.map byt) c; rw [hC] at this; simpa using this
      obtain ⟨A2, hA2, hA2l⟩ : ∃ A2, A.take C = A2 ∧ C = A2.length := ⟨_, rfl, by simp; omega⟩
      have hall := allN_cut (A.map byt) hgA c (by omega)
      rw [hC, ← List.map_take, hA2] at hall
      have hgA2 : GoodL (A2.map byt) := by
        intro X hX
        rw [← hA2, List.map_take] at hX
        exact hgA X (List.mem_of_mem_take hX)
      have hcut := cut_two [] (A.map byt) c
      have hn0 : joinN ([] : List (List Int)) = [] := rfl
      rw [hn0, List.nil_append, List.nil_append, List.length_nil, Nat.zero_add, hC, ← List.map_take, hA2] at hcut
      have hrg : ∀ x ∈ (joinN (A.map byt)).take c, 0 ≤ x ∧ x ≤ 255 := fun x hx => joinN_range _ hgA x (List.mem_of_mem_take hx)
      have hcr : (joinN (A.map byt)).take (0 + kpN keep ((joinN (A.map byt)).length - 0)) = (joinN (A.map byt)).take c := by rw [hML', Nat.zero_add, Nat.sub_zero, hc]
      have hcl : (joinN (A2.map byt)).length ≤ 4080 := by rw [← hcut, List.length_take, List.length_take, hML']; omega
      obtain ⟨J, hJ⟩ : ∃ J, joinN (A.map byt) = J := ⟨_, rfl⟩
      rw [hJ] at hcr hrg hall hcut hD' hML'
      obtain ⟨Y, hY⟩ : ∃ Y, J.take c = Y := ⟨_, rfl⟩
      rw [hY] at hcr hrg hall hcut
      have hYle : Y.length ≤ 1000000000 := by rw [← hY, List.length_take]; omega
      have HCR := Lib.hid hcr
      have HRG := Lib.hid hrg
      have HALL := Lib.hid hall
      have HCUT := Lib.hid hcut
      have HYLE := Lib.hid hYle
      have HGA2 := Lib.hid hgA2
      have HCL := Lib.hid hcl
      have HA2 := Lib.hid hA2
      have HCD : Hid (∀ j, j < A2.length → A2.getD j ByteArray.empty = A.getD j ByteArray.empty) := Lib.hid (by
        intro j hj
        have hj' : j < C := by omega
        rw [← hA2]
        simp [List.getD, List.getElem?_take, hj'])
      have HJLE : Hid (J.length ≤ 1000000000) := Lib.hid (by omega)
      have HDJ := Lib.hid hD'
      have hA2le : A2.length ≤ A.length := by omega
      clear HML HD HLE hSh hML hD hSh' hML' hD' hgA hcr hrg hall hcut hYle hgA2 hcl hA2 hY hJ hC hCle hc hcM htA HGA hA2l hn0
      go_wp2_with fail
      refine (crash_any _ p v J 0 keep _ HDJ.out HJLE.out (Nat.zero_le _)).mono ?_
      rw [HCR.out]
      rintro e w7 ⟨he, v7, hv7, hd, hf⟩
      subst he
      have HD7 := Lib.hid hd
      have HB7 := Lib.hid (hB.out.trans (HDJ.out.foot hf))
      clear hv7 hd hf HDJ hB
      go_wp2_with fail
      refine (open_any _ p v7 Y _ _ HD7.out HYLE.out HRG.out).mono ?_
      rintro e w8 ⟨lv8, v8, he, hr, hv8, hd, hf⟩
      subst he
      rw [HALL.out] at hr hd
      rw [HCUT.out] at hd
      have HR8 := Lib.hid hr
      have HD8 := Lib.hid hd
      have HB8 := Lib.hid (HB7.out.trans (HD7.out.foot hf))
      have HP8 : Hid (p < w7.heap.size ∧ ∀ k, v8.ownBlock = some k → k < w7.heap.size) := Lib.hid ⟨HD7.out.lt, fun k hk => HD7.out.own.lt k (by rw [← hv8]; exact hk)⟩
      have HZ8 : Hid (w7.heap.size ≤ w8.heap.size) := Lib.hid (hf.size)
      obtain ⟨a8, c8, e8⟩ := hr.row.row
      rw [List.length_map] at e8
      subst e8
      clear hr hv8 hd hf HD7 HB7
      go_wp2_with fail
      go_loopw [11, 12] (fun l i wr => ∃ (k : Nat) (v : Value), k ≤ A2.length ∧ l = v ∧ i = .int .i64 k ∧ Hid (Own1 wr w8.heap.size 9 v ((A2.take k).map .string)) ∧ Hid (Below w8.heap.size w8 wr)) (fun _ i _ => A2.length - (intOf i).toNat)
      case atStart => exact ⟨0, _, Nat.zero_le _, rfl, rfl, Lib.hid (by simpa using Own1.nil _ _ _), Lib.hid (Below.refl _ _)⟩
      case round =>
        obtain ⟨k, v9, hk, rfl, rfl, hO, hB9⟩ := hrel
        by_cases hlt : k < A2.length
        · obtain ⟨s, hsk⟩ : ∃ s, A2.getD k ByteArray.empty = s := ⟨_, rfl⟩
          have hLk : (A2.map byt).getD k [] = byt s := by rw [getD_byt A2 k hlt, hsk]
          obtain ⟨g5, xv, rfl, hc5, _, kx⟩ := body_cell HR8.out.row hB9.out k (by simpa using hlt) s hLk
          have hkn' : (k : Int) < (A2.length : Int) := by omega
          have hz9 := hB9.out.size
          have HSN : Hid ((A2.take k).map Value.string ++ [.string s] = (A2.take (k + 1)).map Value.string) := Lib.hid (by
            rw [List.take_succ_eq_append_getElem hlt, List.map_append, ← hsk]
            simp [List.getD, List.getElem?_eq_getElem hlt])
          have HLN : Hid (((A2.take k).map Value.string).length ≤ 1000000000) := Lib.hid (by simp; omega)
          clear hsk hLk
          go_wp2_with (refine wpList_app1 rfl _ _ 36 9 _ 16 rfl Try.underlying36 infoStr rfl (by omega) w8.heap.size _ ((A2.take k).map .string) rfl (hO.out.below ((Below.refl _ _).alloc (Nat.le_refl _) _)) wr.heap.size (.string s) rfl ?hu rfl HLN.out (by simp; omega) ?_)
          case hu => simp [go_sem]
          intro v2 w9 ho3 hb3 _ _
          have hb4 : Below w8.heap.size w8 w9 := (hB9.out.alloc hz9 _).trans hb3
          have HB9 := Lib.hid hb4
          have ho4 : Own1 w9 w8.heap.size 9 v2 ((A2.take (k + 1)).map Value.string) := by rw [← HSN.out, List.map_take]; exact ho3
          have HO9 := Lib.hid ho4
          clear ho3 ho4 hb3 hb4 hO hB9 kx hc5
          go_wp2
          go_roundw
          case rel => exact ⟨k + 1, v2, by omega, rfl, by go_num, HO9, HB9⟩
          case measure => simp [intOf]; omega
        · obtain rfl : k = A2.length := by omega
          have hO' := hO.out
          rw [List.take_length] at hO'
          have HO9 := Lib.hid hO'
          clear hO hO'
          go_wp2_with fail
          obtain ⟨n2, hn2⟩ : ∃ n2, totL (A2.map byt) = n2 := ⟨_, rfl⟩
          have HN2 := Lib.hid hn2
          have hD9 : DAt wr w.heap.size p v8 (joinN (A2.map byt) ++ joinN ((B.take 0).map byt)) n2 := by
            have := HD8.out.below hB9.out
            rw [hn2] at this
            simpa [joinN] using this
          have HD9 := Lib.hid hD9
          have HF9 : Hid (Foot w8 wr p v8 ∧ Next w8 v8 v8) := Lib.hid ⟨Foot.of_below p v8 hB9.out, Next.refl _ _⟩
          have HO9' : Hid (Own1 wr w8.heap.size 9 _ ((A2 ++ B.take 0).map .string)) := Lib.hid (by simpa using HO9.out)
          have HBW := Lib.hid (below_self HB8.out hB9.out)
          clear hD9 hn2 HO9
          go_loopw [11, 13] (fun l i wr => ∃ (k M : Nat) (v u : Value), k ≤ B.length ∧ M ≤ k * 68 ∧ l = u ∧ i = .int .i64 k ∧ Hid ((joinN ((B.take k).map byt)).length = M) ∧ Hid (DAt wr w.heap.size p v (joinN (A2.map byt) ++ joinN ((B.take k).map byt)) n2) ∧ Hid (Own1 wr w8.heap.size 9 u ((A2 ++ B.take k).map .string)) ∧ Hid (Foot w8 wr p v8 ∧ Next w8 v8 v) ∧ Hid (Below w.heap.size w wr) ∧ Hid (Short (B.take k))) (fun _ i _ => B.length - (intOf i).toNat)
          case atStart => exact ⟨0, 0, v8, _, by omega, by omega, rfl, rfl, Lib.hid (by simp [joinN]), HD9, HO9', HF9, HBW, Lib.hid (by simp [Short])⟩
          case round =>
            clear HD9 HO9' HF9 HBW hB9
            obtain ⟨k, M, v, u, hk, hM, rfl, rfl, hML, hD, hO, hF, hB, hSh⟩ := hrel
            obtain ⟨w3, rfl⟩ : ∃ w3 : World, w3 = wr := ⟨_, rfl⟩
            by_cases hlt : k < B.length
            · obtain ⟨s, hsk⟩ : ∃ s, B.getD k ByteArray.empty = s := ⟨_, rfl⟩
              obtain ⟨g6, off, rfl, hg6, hc6⟩ := HSB.out.cell k hlt
              rw [hsk] at hc6
              have hc3 := (hB.out.cell (p := ⟨g6, off + k, none⟩) hg6).trans hc6
              have hkn : (k : Int) < (B.length : Int) := by omega
              have hsz : s.size ≤ 9223372036854775807 := by
                have := HZB.out s (by rw [← hsk]; simp only [List.getD, List.getElem?_eq_getElem hlt, Option.getD_some]; exact List.getElem_mem hlt)
                unfold maxLen at this; exact this
              have HG := Lib.hid hc6
              clear hc6
              by_cases q : (60 : Int) < s.size
              · go_wp2_with fail
                go_ret
                exact ⟨rfl, hB.out⟩
              · have hs60 : s.size ≤ 60 := by omega
                have hsn := take_map_snoc B k hlt
                rw [hsk] at hsn
                have hlen : (joinN ((B.take (k + 1)).map byt)).length = M + s.size + 8 := by
                  rw [hsn, join_len_snoc, hML.out, byt_length]; omega
                have HLEN := Lib.hid hlen
                have HSN : Hid (joinN (A2.map byt) ++ joinN ((B.take k).map byt) ++ frm (byt s) = joinN (A2.map byt) ++ joinN ((B.take (k + 1)).map byt)) := Lib.hid (by rw [hsn, joinN_snoc, List.append_assoc])
                have HTX : Hid (A2.map Value.string ++ ((B.map Value.string).take k ++ [.string s]) = (A2 ++ B.take (k + 1)).map Value.string) := Lib.hid (by
                  rw [List.take_succ_eq_append_getElem hlt, List.map_append, List.map_append, List.map_take, ← hsk]
                  simp [List.getD, List.getElem?_eq_getElem hlt])
                have HTL : Hid (((A2 ++ B.take k).map Value.string).length ≤ 1000000000) := Lib.hid (by simp; omega)
                have HSH := Lib.hid (short_snoc hSh.out hlt (by rw [hsk]; exact hs60))
                have hJl : Hid ((joinN (A2.map byt) ++ joinN ((B.take k).map byt)).length ≤ 1000000000) := Lib.hid (by rw [List.length_append, hML.out]; have := HCL.out; omega)
                have hFB : Hid ((byt s).length ≤ 16777215) := Lib.hid (by rw [byt_length]; omega)
                clear hsn hlen hsk
                go_wp2_with (refine wpList_bytes_g (o := ⟨some 93, _, _, _, _, _⟩) rfl 9 27 _ rfl 5 Try.underlying9 Try.underlying27 Try.underlying5 s rfl hsz ?_)
                intro v4 w4 hbt hz4 hb4
                have HBT := Lib.hid hbt
                have HD4 := Lib.hid (hD.out.below hb4)
                have HO4 := Lib.hid (hO.out.below hb4)
                have HB4 := Lib.hid (below_self hB.out hb4)
                have HF4 : Hid (Foot w8 w4 p v8 ∧ Next w8 v8 v) := Lib.hid ⟨hF.out.1.trans (Foot.of_below p v8 hb4) (Next.refl _ _), hF.out.2⟩
                clear hbt hz4 hb4 hD hB hO hF
                go_wp2_with fail
                refine (append_nx _ p v _ _ _ (byt s) _ HD4.out hJl.out HBT.out (byt_range s) hFB.out).mono ?_
                rintro e w5 ⟨he, v5, hd5, hf5, hn5⟩
                subst he
                rw [HSN.out] at hd5
                have HO5 := Lib.hid (HO4.out.disk HD4.out hf5)
                have HF5 : Hid (Foot w8 w5 p v8 ∧ Next w8 v8 v5) := Lib.hid ⟨HF4.out.1.trans hf5 HF4.out.2, HF4.out.2.trans hn5 HF4.out.1.size⟩
                have HD5 := Lib.hid hd5
                have HB5 := Lib.hid (HB4.out.trans (HD4.out.foot hf5))
                have hc5 := (HB5.out.cell (p := ⟨g6, off + k, none⟩) hg6).trans HG.out
                have hz5 := HF5.out.1.size
                clear hd5 hf5 hn5 HD4 HB4 HO4 HF4 hc3
                go_wp2_with (refine wpList_app1 rfl _ _ 36 9 _ 16 rfl Try.underlying36 infoStr rfl (by omega) w8.heap.size _ ((A2 ++ B.take k).map .string) rfl (HO5.out.below ((Below.refl _ _).alloc (Nat.le_refl _) _)) w5.heap.size (.string s) rfl ?hu rfl HTL.out (by simp; omega) ?_)
                case hu => simp [go_sem]
                intro v6 w6 ho6 hb6 hz6 hg6'
                have ho6' : Own1 w6 w8.heap.size 9 v6 ((A2 ++ B.take (k + 1)).map .string) := by rw [← HTX.out]; exact ho6
                have hba : Below w5.heap.size w5 (w5.alloc (.cells #[.string s] 9)) := (Below.refl _ _).alloc (Nat.le_refl _) _
                have HO6 := Lib.hid ho6'
                have HD6 := Lib.hid ((HD5.out.below hba).beside (HO5.out.below hba) hg6')
                have HF6 : Hid (Foot w8 w6 p v8 ∧ Next w8 v8 v5) := Lib.hid ⟨HF5.out.1.below_in ((hba.mono hz5).trans hb6), HF5.out.2⟩
                have HB6 := Lib.hid (HB5.out.trans (((hba.mono hz5).trans hb6).mono HB8.out.size))
                clear ho6 ho6' hb6 hz6 hg6' hba HO5 HD5 HF5 HB5 hc5
                go_wp2_with fail
                go_roundw
                case rel => exact ⟨k + 1, M + s.size + 8, v5, v6, by omega, by omega, rfl, by go_num, HLEN, HD6, HO6, HF6, HB6, HSH⟩
                case measure => simp [intOf]; omega
            · obtain rfl : k = B.length := by omega
              have hSh' := hSh.out
              have hML' := hML.out
              have hD' := hD.out
              have hO' := hO.out
              rw [List.take_length] at hSh' hML' hD' hO'
              have hgB := good_of hSh'
              obtain ⟨AB, hAB⟩ : ∃ AB, A2 ++ B = AB := ⟨_, rfl⟩
              have hABl : AB.length = A2.length + B.length := by rw [← hAB, List.length_append]
              have hgAB : GoodL (AB.map byt) := by
                rw [← hAB, List.map_append]
                intro X hX
                rcases List.mem_append.1 hX with q | q
                · exact HGA2.out X q
                · exact hgB X q
              have hJJ : joinN (A2.map byt) ++ joinN (B.map byt) = joinN (AB.map byt) := by rw [← hAB, List.map_append]; simp [joinN]
              have hJl : (joinN (AB.map byt)).length ≤ 1000000000 := by rw [← hJJ, List.length_append, hML']; have := HCL.out; omega
              rw [hJJ] at hD'
              rw [hAB] at hO'
              have hall := all_join hgAB
              have hrg := joinN_range _ hgAB
              obtain ⟨Z, hZ⟩ : ∃ Z, joinN (AB.map byt) = Z := ⟨_, rfl⟩
              rw [hZ] at hall hrg hJl hD'
              have hl2 : n2 ≤ Z.length := by
                rw [← HN2.out, ← joinN_len, ← hZ, ← hJJ, List.length_append]; omega
              have HALL2 := Lib.hid hall
              have HRG2 := Lib.hid hrg
              have HJL2 := Lib.hid hJl
              have HDZ := Lib.hid hD'
              have HOZ := Lib.hid hO'
              have HABN : Hid (AB.length ≤ 1000000) := Lib.hid (by omega)
              have HRZ := Lib.hid (HR8.out.foot hF.out.1 HP8.out.1 HP8.out.2)
              clear hSh hML hD hO hF hSh' hML' hD' hO' hgB hAB hABl hgAB hJJ hJl hall hrg hZ hl2
              obtain ⟨a13, c13, e13, _⟩ := srd_of_own HOZ.out HABN.out
              subst e13
              go_wp2_with fail
              go_loopw [14] (fun i wr => ∃ k : Nat, k ≤ A2.length ∧ i = .int .i64 k ∧ Hid (Below w3.heap.size w3 wr)) (fun i _ => A2.length - (intOf i).toNat)
              case atStart => exact ⟨0, Nat.zero_le _, rfl, Lib.hid (Below.refl _ _)⟩
              case round =>
                obtain ⟨k, hk, rfl, hB4⟩ := hrel
                by_cases hlt : k < A2.length
                · obtain ⟨s, hsk⟩ : ∃ s, A2.getD k ByteArray.empty = s := ⟨_, rfl⟩
                  have hLk : (A2.map byt).getD k [] = byt s := by rw [getD_byt A2 k hlt, hsk]
                  obtain ⟨g5, xv, rfl, hc5, kx, kx2⟩ := body_cell HRZ.out.row hB4.out k (by simpa using hlt) s hLk
                  have hkA : k < A.length := by omega
                  obtain ⟨g6, off, rfl, hg6, hc6⟩ := HSA.out.cell k hkA
                  rw [← HCD.out k hlt, hsk] at hc6
                  have hc6' : wr.cell? ⟨g6, off + k, none⟩ = some (.string s) := ((below_self hB.out hB4.out).cell (p := ⟨g6, off + k, none⟩) hg6).trans hc6
                  have hc5d : wr.drew.cell? ⟨g5, k, none⟩ = some xv := hc5
                  have hc6d : wr.drew.cell? ⟨g6, off + k, none⟩ = some (.string s) := hc6'
                  have q1 : (s.toList == s.toList) = true := by simp
                  have q2 : (s.toList != s.toList) = false := by simp
                  have hkn' : (k : Int) < (A2.length : Int) := by omega
                  have hkn2 : (k : Int) < (A.length : Int) := by omega
                  clear hsk hLk hc6
                  go_wp2
                  go_region
                  go_wp2
                  go_roundw
                  case rel => exact ⟨k + 1, by omega, by go_num, Lib.hid (hB4.out.drew)⟩
                  case measure => simp [intOf]; omega
                · obtain rfl : k = A2.length := by omega
                  have HD10 := Lib.hid (HDZ.out.below hB4.out)
                  have HO10 := Lib.hid (HOZ.out.below hB4.out)
                  have HB10 := Lib.hid (below_self hB.out hB4.out)
                  clear hB4 hB HDZ HOZ HRZ
                  go_wp2_with fail
                  refine (sync_any _ p v Z n2 _ HD10.out HJL2.out).mono ?_
                  rintro e w11 ⟨he, hd, hf⟩
                  subst he
                  have HD11 := Lib.hid hd
                  have HO11 := Lib.hid (HO10.out.disk HD10.out hf)
                  have HB11 := Lib.hid (HB10.out.trans (HD10.out.foot hf))
                  clear hd hf HD10 HO10 HB10
                  go_wp2_with fail
                  refine (open_any _ p v Z _ _ HD11.out HJL2.out HRG2.out).mono ?_
                  rintro e w12 ⟨lv12, v12, he, hr, hv12, hd, hf⟩
                  subst he
                  rw [HALL2.out] at hr
                  have HR12 := Lib.hid hr
                  have ho12 := HO11.out.disk HD11.out hf
                  obtain ⟨a', c', he', hs12⟩ := srd_of_own ho12 HABN.out
                  simp only [Value.slice.injEq] at he'
                  obtain ⟨rfl, _, rfl⟩ := he'
                  have HS12 := Lib.hid hs12
                  have HB12 := Lib.hid (HB11.out.trans (HD11.out.foot hf))
                  obtain ⟨a14, c14, e14⟩ := hr.row.row
                  rw [List.length_map] at e14
                  subst e14
                  clear hr hv12 hd hf ho12 hs12 HD11 HO11 HB11
                  go_wp2_with fail
                  refine (texts_true _ _ _ AB _ HR12.out.row HS12.out).mono ?_
                  rintro e w13 ⟨rfl, hb⟩
                  have HB13 := Lib.hid (below_self HB12.out hb)
                  clear hb
                  go_wp2
                  go_ret
                  exact ⟨rfl, HB13.out⟩
theorem goes_law (a b : Option Addr) (ca cb : Nat) (A B : List ByteArray) (keep : Int) (w : World) (hA : SRd w a A ∧ (a = none → ca = 0)) (hzA : ∀ s ∈ A, s.size ≤ maxLen) (hB : SRd w b B ∧ (b = none → cb = 0)) (hlB : B.length ≤ cb) (hzB : ∀ s ∈ B, s.size ≤ maxLen) :
    Calls Try.prog 5 #[.slice a A.length ca, .int .i64 keep, .slice b B.length cb] w fun e w' => e = .returned (.bool true) ∧ Below w.heap.size w w' := by
  by_cases h1 : (60 : Int) < A.length
  · exact goes_far a b ca cb A B keep w hA.1 hB.1 (.inl h1)
  · by_cases h2 : (60 : Int) < B.length
    · exact goes_far a b ca cb A B keep w hA.1 hB.1 (.inr h2)
    · exact goes_near a b ca cb A B keep w hA.1 hA.2 hzA hB.1 hB.2 hlB hzB h1 h2
end Go.Proofs.Ytlanmgdekkblcaa
