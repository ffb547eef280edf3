/-
  The walk of CodeTurned.
-/
import Derived.Test.YtllcmapgigfgoaaCdG
namespace Go.Proofs.Ytllcmapgigfgoaa
open Go.RowKit
set_option linter.unusedSimpArgs false
set_option linter.unusedVariables false

theorem own8_setC {w : World} {base g n cap : Nat} {xs : List Int} (h : Own8 w base (.slice (some ⟨g, 0, none⟩) n cap) xs) (k : Nat) (hk : k < xs.length) (x : Int) :
    Own8 (w.setCell ⟨g, k, none⟩ (.int .u8 x)) base (.slice (some ⟨g, 0, none⟩) n cap) (xs.set k x) := by
  obtain ⟨h1, h | ⟨g', cap', cur, e, hg, hh, hn, hmx, hs, hx⟩⟩ := h
  · cases h.1
  simp only [Value.slice.injEq, Option.some.injEq, Addr.mk.injEq] at e
  obtain ⟨⟨rfl, _, _⟩, rfl, rfl⟩ := e
  refine ⟨by simp, .inr ⟨g, cap, cur.setIfInBounds k (.int .u8 x), by simp, hg, ?_, by simpa using hn, hmx, by simpa using hs, ?_⟩⟩
  · have hgl : g < w.heap.size := (Array.getElem?_eq_some_iff.1 hh).1
    have hh2 : w.heap[g] = .cells cur 5 (0, 0) := by rw [Array.getElem?_eq_getElem hgl] at hh; exact Option.some.inj hh
    simp [World.setCell, hh, hgl, Array.getElem_modify, hh2]
  · rw [Array.toList_setIfInBounds, List.length_set, List.take_set, hx]
    simp [u8v, List.map_set]
theorem own8_blockC {w : World} {base : Nat} {v : Value} {xs : List Int} (h : Own8 w base v xs) (hk : 0 < xs.length) : ∃ g cap, v = .slice (some ⟨g, 0, none⟩) xs.length cap ∧ base ≤ g ∧ g < w.heap.size := by
  rcases h.2 with ⟨rfl, h0⟩ | ⟨g, cap, cur, e, hg, hh, _⟩
  · omega
  · exact ⟨g, cap, e, hg, (Array.getElem?_eq_some_iff.1 hh).1⟩
theorem own8_thawC {w : World} {base g n cap k : Nat} {xs : List Int} (h : Own8 w base (.slice (some ⟨g, 0, none⟩) n cap) xs) : w.frozen? ⟨g, k, none⟩ = false := by
  obtain ⟨h1, h | ⟨g', cap', cur, e, hg, hh, hn, hmx, hs, hx⟩⟩ := h
  · cases h.1
  simp only [Value.slice.injEq, Option.some.injEq, Addr.mk.injEq] at e
  obtain ⟨⟨rfl, _, _⟩, rfl, rfl⟩ := e
  simp [World.frozen?, hh]
theorem own8_emptyC (w : World) (base : Nat) (h : base ≤ w.heap.size) : Own8 (w.alloc (.cells #[] 5)) base (.slice (some ⟨w.heap.size, 0, none⟩) 0 0) [] := by
  refine ⟨rfl, .inr ⟨w.heap.size, 0, #[], rfl, h, heap_alloc_new w _, Nat.le_refl _, by simp, rfl, rfl⟩⟩
theorem u8_wfC {x : Int} (h : (Lit.int .u8 x).wf = true) : 0 ≤ x ∧ x ≤ 255 := by
  simp [Lit.wf, IntKind.min, IntKind.max, IntKind.bits, IntKind.signed] at h
  omega
set_option maxRecDepth 100000 in
set_option maxHeartbeats 8000000 in
theorem turned_law (v : Value) (x : Msg7) (at1 by1 : Int) (w : World) (h : MsgIs w v x) (ha : (Lit.int .i64 at1).wf = true) (hy : (Lit.int .u8 by1).wf = true) :
    Calls Try.prog 6 #[v, .int .i64 at1, .int .u8 by1] w (TruP w) := by
  have hy := u8_wfC hy
  clear ha
  have HM := Lib.hid h
  obtain ⟨cs, rfl, hs⟩ := h
  have HI : Hid ((Try.prog.info? 44).map (·.size) = some cs.size) := Lib.hid (by rw [ms_size hs]; kernel_rfl)
  have HX := Lib.hid (bka_new w 44 cs)
  have HB0 : Hid (Below w.heap.size w (w.alloc (.cells cs 44))) := Lib.hid ((Below.refl _ _).alloc (Nat.le_refl _) _)
  have HS0 : Hid ((w.alloc (.cells cs 44)).heap.size = w.heap.size + 1) := Lib.hid (by simp)
  clear hs
  go_enter Try.func6, Try.ntmps6
  go_wp2_with fail
  refine (works_any _).mono ?_
  rintro e w1 ⟨rfl, hb⟩
  have HX1 := Lib.hid ((hb.block _ (by rw [HS0.out]; omega)).trans HX.out)
  have HB1 := Lib.hid (HB0.out.trans (hb.mono HB0.out.size))
  have HS1 : Hid (w.heap.size + 1 ≤ w1.heap.size) := Lib.hid (by have := hb.size; have := HS0.out; omega)
  clear hb HX HB0 HS0
  go_wp2_with (refine wpList_load_row rfl _ _ rfl (w.heap.size) rfl 44 cs (0, 0) _ HX1.out Try.underlying44 rfl HI.out ?_)
  refine (few_any _ x w1 (HM.out.on HB1.out)).mono ?_
  rintro e w2 ⟨R, he, hF, hb⟩
  rw [he.out]
  clear he
  have HF := Lib.hid hF
  have HX2 := Lib.hid ((hb.block _ (by have := HS1.out; omega)).trans HX1.out)
  have HB2 := Lib.hid (HB1.out.trans (hb.mono HB1.out.size))
  have HS2 : Hid (w.heap.size + 1 ≤ w2.heap.size) := Lib.hid (by have := hb.size; have := HS1.out; omega)
  clear hF hb HX1 HB1 HS1
  cases R with
  | false =>
    go_wp2_with fail
    go_ret
    exact ⟨rfl, HB2.out⟩
  | true =>
    by_cases q1 : by1 = 0
    · subst q1
      go_wp2_with fail
      go_ret
      exact ⟨rfl, HB2.out⟩
    have t1 : (by1 == 0) = false := by simpa using q1
    by_cases q2 : at1 < 0
    · have t2 : decide (at1 < 0) = true := decide_eq_true q2
      go_wp2_with fail
      go_ret
      exact ⟨rfl, HB2.out⟩
    have t2 : decide (at1 < 0) = false := decide_eq_false q2
    obtain ⟨k, rfl⟩ := Int.eq_ofNat_of_zero_le (show 0 ≤ at1 by omega)
    have HN := Lib.hid q1
    have HYr := Lib.hid hy
    clear q1 q2 hy
    go_wp2_with (refine wpList_load_row rfl _ _ rfl (w.heap.size) rfl 44 cs (0, 0) _ HX2.out Try.underlying44 rfl HI.out ?_)
    refine (frame_any _ x w2 (HM.out.on HB2.out)).mono ?_
    rintro e w3 hP
    have HP := Lib.hid hP
    clear hP
    rcases HP.out with ⟨q, hl, u, he, h1, hb⟩ | ⟨q, hl, he, hb⟩ | ⟨q, he, hb⟩
    rotate_left
    · rw [he.out]
      clear he
      have HB3 := Lib.hid (HB2.out.trans (hb.mono HB2.out.size))
      clear HP q hl hb
      go_wp2_with fail
      go_ret
      exact ⟨rfl, HB3.out⟩
    · rw [he.out]
      clear he
      have HB3 := Lib.hid (HB2.out.trans (hb.mono HB2.out.size))
      clear HP q hb
      go_wp2_with fail
      go_ret
      exact ⟨rfl, HB3.out⟩
    rw [he.out]
    clear he
    obtain ⟨a3, c3, hv, _⟩ := h1.row
    rw [frm_length] at hv
    subst hv
    have HB3 := Lib.hid (HB2.out.trans (hb.mono HB2.out.size))
    have hr := eF_byte q
    clear HP q hb HF HX2
    generalize eF (msC.fs x) = xs at *
    obtain ⟨L, hL⟩ : ∃ L, xs.length + 8 = L := ⟨_, rfl⟩
    rw [hL] at h1 ⊢
    have HT := Lib.hid h1
    have hL9 : (L : Int) ≤ 9223372036854775807 := by omega
    clear h1
    by_cases q3 : L ≤ k
    · have t3 : decide ((L : Int) ≤ (k : Int)) = true := decide_eq_true (by omega)
      have t4 : (L : Int) ≤ (k : Int) := by omega
      have t5 : decide (L ≤ k) = true := decide_eq_true q3
      clear hr hl hL
      go_wp2_with fail
      go_ret
      exact ⟨rfl, HB3.out⟩
    have t3 : decide ((L : Int) ≤ (k : Int)) = false := decide_eq_false (by omega)
    have t5 : decide (L ≤ k) = false := decide_eq_false q3
    have hfl : (frm xs).length = L := by rw [frm_length, hL]
    have hrf := frm_range hr (by omega)
    have hyr := getD_range hrf k
    obtain ⟨y, hy1⟩ : ∃ y, (frm xs).getD k 0 = y := ⟨_, rfl⟩
    rw [hy1] at hyr
    obtain ⟨z, hz⟩ : ∃ z, bits BinOp.xor IntKind.u8 y by1 = z := ⟨_, rfl⟩
    have hx2 := Pc.xor_turned hyr HYr.out hz
    have hx3 : 0 ≤ z ∧ z ≤ 255 := ⟨hx2.1, hx2.2.1⟩
    have htk := Pc.frame_turned xs k z hr hl (by omega) hx3 (fun q => HN.out (hx2.2.2.1 (by rw [q, hy1])))
    have hsr : BytL ((frm xs).set k z) := by
      intro z' hz'
      rcases List.mem_or_eq_of_mem_set hz' with hz' | hz'
      · exact hrf z' hz'
      · rw [hz']; exact hx3
    have hsl : ((frm xs).set k z).length = L := by rw [List.length_set, hfl]
    have HTK := Lib.hid htk
    have HSR := Lib.hid hsr
    have HSL := Lib.hid hsl
    have HFL := Lib.hid hfl
    have HY := Lib.hid hy1
    have HZ := Lib.hid hz
    have HLm : Hid (L ≤ 16777223) := Lib.hid (by omega)
    have hkL : k < L := by omega
    have HKL := Lib.hid hkL
    clear htk hsr hsl hx2 hx3 hrf hfl hy1 hz hr hl hL hyr q3
    have hz3 := HB3.out.size
    go_wp2_with (refine wpList_app (o := ⟨some 44, _, _, _, _, _⟩) rfl _ _ rfl w3.heap.size _ [] rfl (own8_emptyC w3 _ (Nat.le_refl _)) _ (frm xs) rfl (HT.out.below ((Below.refl _ _).alloc (Nat.le_refl _) _)) (by rw [HFL.out]; have := HLm.out; simp; omega) (by simp) ?_)
    intro v5 w5 ho5 hb5 hz5
    have ho5' : Own8 w5 w3.heap.size v5 (frm xs) := ho5
    obtain ⟨g5, c5, hv5, hg5, hg5'⟩ := own8_blockC ho5' (by rw [HFL.out]; omega)
    rw [HFL.out] at hv5
    subst hv5
    have hbt5 := ho5'.bt (by rw [HFL.out]; have := HLm.out; omega)
    obtain ⟨aa, cc, ee, hr5, _⟩ := hbt5.row
    simp only [Value.slice.injEq] at ee
    obtain ⟨rfl, hq5, rfl⟩ := ee
    clear hq5
    obtain ⟨gg, off, e1, _, hcell⟩ := bt_cell hr5 (k := k) (by rw [HFL.out]; omega)
    simp only [Option.some.injEq, Addr.mk.injEq] at e1
    obtain ⟨rfl, rfl, _⟩ := e1
    rw [HY.out, Nat.zero_add] at hcell
    have hcellk : w5.cell? ⟨g5, k, none⟩ = some (.int .u8 y) := hcell
    have hthaw := own8_thawC (k := k) ho5'
    have hset := own8_setC ho5' k (by rw [HFL.out]; omega) z
    have HO := Lib.hid (hset.bt (by rw [HSL.out]; have := HLm.out; omega))
    rw [HSL.out.symm] at HO
    have hb5' : Below w3.heap.size w3 (w5.setCell ⟨g5, k, none⟩ (.int .u8 z)) := (((Below.refl _ w3).alloc (Nat.le_refl _) _).trans hb5).setCell (p := ⟨g5, k, none⟩) hg5 _
    have HB5 : Hid (Below w.heap.size w (w5.setCell ⟨g5, k, none⟩ (.int .u8 z))) := Lib.hid (HB3.out.trans (hb5'.mono hz3))
    have hk' : (k : Int) < (L : Int) := by omega
    have hk0 : (0 : Int) ≤ (k : Int) := by omega
    clear ho5 hb5 hz5 ho5' hbt5 hr5 hcell hset hb5' HB3 HT hz3
    go_wp2_with fail
    rw [HZ.out]
    refine (offrame_any _ ((frm xs).set k z) _ (by first | exact HO.out | (rw [HSL.out] at HO; exact HO.out)) HSR.out (by rw [HSL.out]; have := HLm.out; omega)).mono ?_
    rintro e w6 ⟨cs6, he, hsz, hone, hb, _⟩
    rw [he.out]
    clear he
    obtain ⟨er, her⟩ : ∃ er, ofE ((frm xs).set k z) = er := ⟨_, rfl⟩
    rw [her]
    have hne := HTK.out
    rw [her] at hne
    have t6 : (er == 0) = false := by simpa using hne
    have t7 : (er != 0) = true := by simpa using hne
    have HI6 : Hid ((Try.prog.info? 44).map (·.size) = some cs6.size) := Lib.hid (by rw [hsz]; kernel_rfl)
    have HZ6 : Hid (((#[.int .i64 0, .int .i64 0, .int .i64 0, .int .i64 0, .int .i64 0, .int .i64 0, .int .i64 0, .int .i64 0, .int .i64 0, .int .i64 0, .int .i64 0, .int .i64 0, .int .i64 0, .int .i64 0, .int .i64 0, .int .i64 0, .string ⟨#[]⟩, .string ⟨#[]⟩, .int .i64 0, .int .i64 0, .int .i64 0, .int .i64 0, .slice none 0 0, .int .i64 0, .slice none 0 0, .slice none 0 0, .slice none 0 0] : Array Value)).size = cs6.size) := Lib.hid (by rw [hsz]; rfl)
    have HO6 := Lib.hid hone
    have HA6 := Lib.hid (bka_new w6 44 (#[.int .i64 0, .int .i64 0, .int .i64 0, .int .i64 0, .int .i64 0, .int .i64 0, .int .i64 0, .int .i64 0, .int .i64 0, .int .i64 0, .int .i64 0, .int .i64 0, .int .i64 0, .int .i64 0, .int .i64 0, .int .i64 0, .string ⟨#[]⟩, .string ⟨#[]⟩, .int .i64 0, .int .i64 0, .int .i64 0, .int .i64 0, .slice none 0 0, .int .i64 0, .slice none 0 0, .slice none 0 0, .slice none 0 0] : Array Value))
    have HB6 := Lib.hid (HB5.out.trans ((hb.trans ((box_below w6 44 (#[.int .i64 0, .int .i64 0, .int .i64 0, .int .i64 0, .int .i64 0, .int .i64 0, .int .i64 0, .int .i64 0, .int .i64 0, .int .i64 0, .int .i64 0, .int .i64 0, .int .i64 0, .int .i64 0, .int .i64 0, .int .i64 0, .string ⟨#[]⟩, .string ⟨#[]⟩, .int .i64 0, .int .i64 0, .int .i64 0, .int .i64 0, .slice none 0 0, .int .i64 0, .slice none 0 0, .slice none 0 0, .slice none 0 0] : Array Value) cs6).mono hb.size)).mono HB5.out.size))
    clear hsz hone hb her hne HB5 HO
    go_wp2_with (refine wpList_store_row rfl 44 _ _ rfl w6.heap.size rfl cs6 rfl (#[.int .i64 0, .int .i64 0, .int .i64 0, .int .i64 0, .int .i64 0, .int .i64 0, .int .i64 0, .int .i64 0, .int .i64 0, .int .i64 0, .int .i64 0, .int .i64 0, .int .i64 0, .int .i64 0, .int .i64 0, .int .i64 0, .string ⟨#[]⟩, .string ⟨#[]⟩, .int .i64 0, .int .i64 0, .int .i64 0, .int .i64 0, .slice none 0 0, .int .i64 0, .slice none 0 0, .slice none 0 0, .slice none 0 0] : Array Value) 44 HA6.out HI6.out HZ6.out HO6.out ?_)
    go_ret
    exact ⟨rfl, HB6.out⟩
end Go.Proofs.Ytllcmapgigfgoaa
