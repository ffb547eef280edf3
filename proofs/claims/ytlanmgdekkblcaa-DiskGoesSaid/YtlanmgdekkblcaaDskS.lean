/-
  The walk of DiskSyncs.
-/
import Derived.Test.YtlanmgdekkblcaaDsk5
namespace Go.Proofs.Ytlanmgdekkblcaa
open Go.RowKit
set_option linter.unusedSimpArgs false
set_option linter.unusedVariables false

theorem take_map_snoc (ss : List ByteArray) (k : Nat) (h : k < ss.length) : (ss.take (k + 1)).map byt = (ss.take k).map byt ++ [byt (ss.getD k ByteArray.empty)] := by
  rw [List.take_succ_eq_append_getElem h, List.map_append]
  simp [List.getD, List.getElem?_eq_getElem h]
theorem join_len_snoc (L : List (List Int)) (x : List Int) : (joinN (L ++ [x])).length = (joinN L).length + (8 + x.length) := by
  rw [joinN_len, totL_snoc, joinN_len]
/-- All are short. -/
def Short (ss : List ByteArray) : Prop := ∀ s ∈ ss, s.size ≤ 60
theorem short_snoc {ss : List ByteArray} {k : Nat} (h : Short (ss.take k)) (hk : k < ss.length) (hs : (ss.getD k ByteArray.empty).size ≤ 60) : Short (ss.take (k + 1)) := by
  intro s q
  rw [List.take_succ_eq_append_getElem hk] at q
  simp only [List.mem_append, List.mem_singleton] at q
  rcases q with q | q
  · exact h s q
  · subst q
    simpa [List.getD, List.getElem?_eq_getElem hk] using hs
theorem good_of {ss : List ByteArray} (h : Short ss) : GoodL (ss.map byt) := by
  intro X hX
  obtain ⟨s, hs, rfl⟩ := List.mem_map.1 hX
  exact ⟨by rw [byt_length]; have := h s hs; omega, byt_range s⟩
theorem all_join {L : List (List Int)} (h : GoodL L) : allN (joinN L) = L := by
  have := allN_join L [] h
  rw [allN_nil, List.append_nil, List.append_nil] at this
  exact this
theorem join_le {ss : List ByteArray} (h : Short ss) : (joinN (ss.map byt)).length ≤ ss.length * 68 := by
  rw [joinN_len]
  induction ss with
  | nil => simp [totL]
  | cons s r ih =>
    have h1 := h s (by simp)
    have h2 := ih (fun x hx => h x (List.mem_cons_of_mem _ hx))
    simp only [totL, List.map_cons, List.sum_cons, List.length_cons] at h2 ⊢
    rw [byt_length]
    omega
set_option maxHeartbeats 1000000 in
theorem syncs_far (a : Option Addr) (cap : Nat) (ss : List ByteArray) (keep : Int) (w : World) (hs : SRd w a ss) (hf : (60 : Int) < ss.length) :
    Calls Try.prog 6 #[.slice a ss.length cap, .int .i64 keep] w fun e w' => e = .returned (.bool true) ∧ Below w.heap.size w w' := by
  have hl := hs.1
  go_enter Try.func6, Try.ntmps6
  go_wp2_with (go_at_call 8; refine (works_any _).mono ?_; rintro e w1 ⟨rfl, hb⟩; have HB := Lib.hid hb; clear hb)
  go_ret
  exact ⟨rfl, HB.out⟩
set_option maxHeartbeats 8000000 in
theorem syncs_near (a : Option Addr) (cap : Nat) (ss : List ByteArray) (keep : Int) (w : World) (hs : SRd w a ss) (hz : ∀ s ∈ ss, s.size ≤ maxLen) (hf : ¬ (60 : Int) < ss.length) :
    Calls Try.prog 6 #[.slice a ss.length cap, .int .i64 keep] w fun e w' => e = .returned (.bool true) ∧ Below w.heap.size w w' := by
  have HS := Lib.hid hs
  have HZ := Lib.hid hz
  have hl := hs.1
  clear hs hz
  go_enter Try.func6, Try.ntmps6
  go_wp2_with fail
  refine (works_any _).mono ?_
  rintro e w1 ⟨rfl, hb⟩
  have HB1 := Lib.hid hb
  clear hb
  go_wp2_with fail
  refine (dnew_any _).mono ?_
  rintro e w2 ⟨p, v0, he, hd, hb⟩
  subst he
  have HD2 : Hid (DAt w2 w.heap.size p v0 (joinN ((ss.take 0).map byt)) 0) := Lib.hid ⟨hd.lt, Nat.le_trans HB1.out.size hd.low, hd.c0, hd.c1, hd.f0, hd.f1, hd.own.le HB1.out.size, hd.far, hd.blk⟩
  have HB2 := Lib.hid (below_self HB1.out hb)
  clear hd hb HB1
  go_wp2_with fail
  go_loopw [7, 8] (fun n i wr => ∃ (k M : Nat) (v : Value), k ≤ ss.length ∧ M ≤ k * 68 ∧ i = .int .i64 k ∧ n = .int .i64 M ∧ Hid ((joinN ((ss.take k).map byt)).length = M) ∧ Hid (DAt wr w.heap.size p v (joinN ((ss.take k).map byt)) 0) ∧ Hid (Below w.heap.size w wr) ∧ Hid (Short (ss.take k))) (fun _ i _ => ss.length - (intOf i).toNat)
  case atStart => exact ⟨0, 0, v0, by omega, by omega, rfl, rfl, by simp [joinN, Hid], HD2, HB2, Lib.hid (by simp [Short])⟩
  case round =>
    clear HD2 HB2
    obtain ⟨k, M, v, hk, hM, rfl, rfl, hML, hD, hB, hSh⟩ := hrel
    obtain ⟨w3, rfl⟩ : ∃ w3 : World, w3 = wr := ⟨_, rfl⟩
    by_cases hlt : k < ss.length
    · obtain ⟨s, hsk⟩ : ∃ s, ss.getD k ByteArray.empty = s := ⟨_, rfl⟩
      obtain ⟨g6, off, rfl, hg6, hc6⟩ := HS.out.cell k hlt
      rw [hsk] at hc6
      have hc3 := (hB.out.cell (p := ⟨g6, off + k, none⟩) hg6).trans hc6
      have hkn : (k : Int) < (ss.length : Int) := by omega
      have hsz : s.size ≤ 9223372036854775807 := by
        have := HZ.out s (by rw [← hsk]; simp only [List.getD, List.getElem?_eq_getElem hlt, Option.getD_some]; exact List.getElem_mem hlt)
        unfold maxLen at this; exact this
      have HG := Lib.hid hc6
      clear hc6
      by_cases q : (60 : Int) < s.size
      · go_wp2_with fail
        go_ret
        exact ⟨rfl, hB.out⟩
      · have hs60 : s.size ≤ 60 := by omega
        have hsn := take_map_snoc ss k hlt
        rw [hsk] at hsn
        have hlen : (joinN ((ss.take (k + 1)).map byt)).length = M + s.size + 8 := by
          rw [hsn, join_len_snoc, hML.out, byt_length]; omega
        have HLEN := Lib.hid hlen
        have HSN : Hid (joinN ((ss.take k).map byt) ++ frm (byt s) = joinN ((ss.take (k + 1)).map byt)) := Lib.hid (by rw [hsn, joinN_snoc])
        have HSH := Lib.hid (short_snoc hSh.out hlt (by rw [hsk]; exact hs60))
        have hJl : Hid ((joinN ((ss.take k).map byt)).length ≤ 1000000000) := Lib.hid (by rw [hML.out]; omega)
        have hF : Hid ((byt s).length ≤ 16777215) := Lib.hid (by rw [byt_length]; omega)
        clear hsn hlen hsk
        go_wp2_with (refine wpList_bytes rfl 9 27 _ rfl 5 Try.underlying9 Try.underlying27 Try.underlying5 s rfl hsz ?_)
        intro v4 w4 hbt hz4 hb4
        have HBT := Lib.hid hbt
        have HD4 := Lib.hid (hD.out.below hb4)
        have HB4 := Lib.hid (below_self hB.out hb4)
        clear hbt hz4 hb4 hD hB
        go_wp2_with fail
        refine (append_any _ p v _ 0 _ (byt s) _ HD4.out hJl.out HBT.out (byt_range s) hF.out).mono ?_
        rintro e w5 ⟨he, v5, hd5, hf5⟩
        subst he
        rw [HSN.out] at hd5
        have HD5 := Lib.hid hd5
        have HB5 := Lib.hid (HB4.out.trans (HD4.out.foot hf5))
        have hc5 := (HB5.out.cell (p := ⟨g6, off + k, none⟩) hg6).trans HG.out
        have hJ2 : Hid ((joinN ((ss.take (k + 1)).map byt)).length ≤ 1000000000) := Lib.hid (by rw [HLEN.out]; omega)
        have HI : Hid (((joinN ((ss.take (k + 1)).map byt)).length : Int) - ((0 : Nat) : Int) = (M : Int) + (s.size : Int) + 8) := Lib.hid (by rw [HLEN.out]; omega)
        clear hd5 hf5 HD4 HB4 hc3
        go_wp2_with fail
        refine (dirty_any _ p v5 _ 0 _ HD5.out hJ2.out (by omega)).mono ?_
        rw [HI.out]
        rintro e w6 ⟨he, hb6⟩
        subst he
        have HD6 := Lib.hid (HD5.out.below hb6)
        have HB6 := Lib.hid (below_self HB5.out hb6)
        have tn : (((M : Int) + (s.size : Int) + 8) != ((M : Int) + (s.size : Int) + 8)) = false := by simp
        clear hb6 HD5 HB5 hc5
        go_wp2_with fail
        go_roundw
        case rel => exact ⟨k + 1, M + s.size + 8, v5, by omega, by omega, by go_num, by go_num, HLEN, HD6, HB6, HSH⟩
        case measure => simp [intOf]; omega
    · obtain rfl : k = ss.length := by omega
      have hSh' := hSh.out
      have hML' := hML.out
      have hD' := hD.out
      rw [List.take_length] at hSh' hML' hD'
      have hA := all_join (good_of hSh')
      have hrg := joinN_range _ (good_of hSh')
      have hMM : M ≤ 1000000000 := by omega
      have hjt := joinN_len (ss.map byt)
      obtain ⟨J, hJ⟩ : ∃ J, joinN (ss.map byt) = J := ⟨_, rfl⟩
      rw [hJ] at hML' hD' hA hrg hjt
      have HML := Lib.hid hML'
      have HD := Lib.hid hD'
      have HA := Lib.hid hA
      have HRG := Lib.hid hrg
      have HT : Hid (totL (ss.map byt) = J.length) := Lib.hid (by rw [← hjt])
      have HLE : Hid (J.length ≤ 1000000000) := Lib.hid (by rw [hML']; exact hMM)
      clear hSh hML hD hSh' hML' hD' hA hrg hJ hjt
      go_wp2_with fail
      refine (sync_any _ p v J 0 _ HD.out HLE.out).mono ?_
      rintro e w4 ⟨he, hd, hf⟩
      subst he
      have HD4 := Lib.hid hd
      have HB4 := Lib.hid (hB.out.trans (HD.out.foot hf))
      clear hd hf HD hB
      go_wp2_with fail
      refine (dbytes_any _ p v J _ _ HD4.out HLE.out).mono ?_
      rintro e w5 ⟨v5, he, ho, hb⟩
      subst he
      have hbt := (ho.bt (by have := HLE.out; omega)).text
      have HD5 := Lib.hid (HD4.out.below hb)
      have HB5 := Lib.hid (below_self HB4.out hb)
      clear hb HD4 HB4 ho
      have htx : (txt J).size = M := by rw [txt_size]; exact HML.out
      obtain ⟨tx, htx2⟩ : ∃ tx, txt J = tx := ⟨_, rfl⟩
      rw [htx2] at hbt htx
      have HTX := Lib.hid htx2
      have hts : tx.size ≤ 1000000000 := by omega
      have t1 : ((tx.size : Int) != (M : Int)) = false := by simp; omega
      clear htx2 htx
      go_wp2_with fail
      clear hbt
      have hzero : Hid (((J.length : Nat) : Int) - (J.length : Nat) = 0) := Lib.hid (by omega)
      refine (dirty_any _ p v J _ _ HD5.out HLE.out (Nat.le_refl _)).mono ?_
      rw [hzero.out]
      rintro e w6 ⟨he, hb⟩
      subst he
      have HD6 := Lib.hid (HD5.out.below hb)
      have HB6 := Lib.hid (below_self HB5.out hb)
      clear hb HD5 HB5
      go_wp2_with fail
      have hkp : J.take (J.length + kpN keep (J.length - J.length)) = J := List.take_of_length_le (by omega)
      have HKP := Lib.hid hkp
      clear hkp
      refine (crash_any _ p v J _ keep _ HD6.out HLE.out (Nat.le_refl _)).mono ?_
      rw [HKP.out]
      rintro e w7 ⟨he, v7, hv7, hd, hf⟩
      subst he
      have HD7 := Lib.hid hd
      have HB7 := Lib.hid (HB6.out.trans (HD6.out.foot hf))
      clear hv7 hd hf HD6 HB6
      go_wp2_with fail
      refine (open_any _ p v7 J _ _ HD7.out HLE.out HRG.out).mono ?_
      rintro e w8 ⟨lv8, v8, he, hr, hv8, hd, hf⟩
      subst he
      rw [HA.out] at hr
      rw [HA.out, HT.out, List.take_length] at hd
      have HR8 := Lib.hid hr
      have HD8 := Lib.hid hd
      have HB8 := Lib.hid (HB7.out.trans (HD7.out.foot hf))
      have HP8 : Hid (p < w7.heap.size ∧ ∀ k, v8.ownBlock = some k → k < w7.heap.size) := Lib.hid ⟨HD7.out.lt, fun k hk => HD7.out.own.lt k (by rw [← hv8]; exact hk)⟩
      obtain ⟨a8, c8, e8⟩ := hr.row.row
      rw [List.length_map] at e8
      subst e8
      clear hr hv8 hd hf HD7 HB7
      go_wp2_with fail
      refine (open_any _ p v8 J _ _ HD8.out HLE.out HRG.out).mono ?_
      rintro e w9 ⟨lv9, v9, he, hr, hv9, hd, hf⟩
      subst he
      rw [HA.out] at hr
      rw [HA.out, HT.out, List.take_length] at hd
      have HR89 := Lib.hid (HR8.out.foot hf HP8.out.1 HP8.out.2)
      have HR9 := Lib.hid hr
      have HD9 := Lib.hid hd
      have HB9 := Lib.hid (HB8.out.trans (HD8.out.foot hf))
      obtain ⟨a9, c9, e9⟩ := hr.row.row
      rw [List.length_map] at e9
      subst e9
      clear hr hv9 hd hf HD8 HB8 HR8 HP8
      go_wp2_with fail
      refine (dbytes_any _ p v9 J _ _ HD9.out HLE.out).mono ?_
      rintro e w10 ⟨v10, he, ho, hb⟩
      subst he
      have hbt := (ho.bt (by have := HLE.out; omega)).text
      rw [HTX.out] at hbt
      have HR10 := Lib.hid (HR9.out.below hb)
      have HR810 := Lib.hid (HR89.out.below hb)
      have HB10 := Lib.hid (below_self HB9.out hb)
      have q1 : (tx.toList == tx.toList) = true := by simp
      clear hb HD9 HB9 ho HR9 HR89
      go_wp2_with fail
      clear hbt
      refine (texts_true _ _ _ ss _ HR810.out.row (HS.out.below HB10.out)).mono ?_
      rintro e w11 ⟨rfl, hb⟩
      have HR11 := Lib.hid (HR10.out.below hb)
      have HB11 := Lib.hid (below_self HB10.out hb)
      clear hb HR10 HR810 HB10
      go_wp2_with fail
      refine (texts_true _ _ _ ss _ HR11.out.row (HS.out.below HB11.out)).mono ?_
      rintro e w12 ⟨rfl, hb⟩
      have HB12 := Lib.hid (below_self HB11.out hb)
      clear hb
      go_wp2
      go_ret
      exact ⟨rfl, HB12.out⟩
theorem syncs_law (a : Option Addr) (cap : Nat) (ss : List ByteArray) (keep : Int) (w : World) (hs : SRd w a ss) (hz : ∀ s ∈ ss, s.size ≤ maxLen) :
    Calls Try.prog 6 #[.slice a ss.length cap, .int .i64 keep] w fun e w' => e = .returned (.bool true) ∧ Below w.heap.size w w' := by
  by_cases hf : (60 : Int) < ss.length
  · exact syncs_far a cap ss keep w hs hf
  · exact syncs_near a cap ss keep w hs hz hf
end Go.Proofs.Ytlanmgdekkblcaa
