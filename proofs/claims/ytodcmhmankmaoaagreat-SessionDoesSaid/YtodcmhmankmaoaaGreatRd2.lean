/-
  The document's own directory: the names just below a path.
-/
import Derived.Test.YtodcmhmankmaoaaGreatRd1
import Derived.Test.YtodcmhmankmaoaaGreatRP
namespace Go.Proofs.YtodcmhmankmaoaaGreat
open Go.RowKit
set_option linter.unusedSimpArgs false
set_option linter.unusedVariables false

theorem kidD_take (l : List E3) (p : ByteArray) (k : Nat) (hk : k < l.length) : kidD (l.take (k + 1)) p = kidD (l.take k) p ++ (if par (l.getD k EK.d).1 = p then [lst (l.getD k EK.d).1] else []) := by
  have e : l.getD k EK.d = l[k] := by rw [List.getD, List.getElem?_eq_getElem hk]; rfl
  rw [e, List.take_succ_eq_append_getElem hk]
  unfold kidD
  rw [List.filter_append, List.map_append]
  congr 1
  by_cases h : par l[k].1 = p <;> simp [h]
theorem kidD_len (l : List E3) (p : ByteArray) : (kidD l p).length ≤ l.length := by
  unfold kidD
  rw [List.length_map]
  exact List.length_filter_le _ _
set_option maxRecDepth 100000 in
set_option maxHeartbeats 2000000 in
theorem rnames_any (r : Nat) (a : Option Addr) (n c : Nat) (l : List E3) (p : ByteArray) (w : World) (hc : w.cell? ⟨r, 0, none⟩ = some (.slice a n c)) (hR : EK.Rd w (.slice a n c) l) (hln : n = l.length) (hn : n ≤ 10000) (hz : ∀ j, j < l.length → (l.getD j EK.d).1.size ≤ 1000) :
    Calls Tryz.prog 41 #[.pointer (some ⟨r, 0, none⟩), .string p] w fun e w' => ∃ v, Hid (e = .returned v) ∧ Own1 w' w.heap.size 9 v ((kidD l p).map .string) ∧ Below w.heap.size w w' := by
  have HR := Lib.hid hR
  have HLN := Lib.hid hln
  have HZ := Lib.hid hz
  have HCR : Hid (∀ W, Below w.heap.size w W → W.cell? ⟨r, 0, none⟩ = some (.slice a n c)) := Lib.hid (fun W hW => (hW.cell (p := ⟨r, 0, none⟩) (World.block_lt_of_cell? w _ hc)).trans hc)
  have hni : (n : Int) ≤ 10000 := by omega
  clear hR hln hz
  go_enter Tryz.func41, Tryz.ntmps41
  go_wp2_with fail
  clear hc
  go_loopw [5, 6] (fun x i wr => ∃ (k : Nat) (v : Value), k ≤ n ∧ v = x ∧ i = .int .i64 k ∧ Hid (Own1 wr w.heap.size 9 v ((kidD (l.take k) p).map .string)) ∧ Hid (Below w.heap.size w wr)) (fun _ i _ => n - (intOf i).toNat)
  case atStart => exact ⟨0, _, Nat.zero_le _, rfl, rfl, Lib.hid (Own1.nil _ _ _), Lib.hid (Below.refl _ _)⟩
  case round =>
    obtain ⟨k, v, hk, rfl, rfl, hO, hB⟩ := hrel
    have c0 := HCR.out wr hB.out
    by_cases hlt : k < n
    · have hlt' : (k : Int) < (n : Int) := by omega
      obtain ⟨e00, ge, offe, ha, hge, u0, u1, u2, hkl⟩ := entCell (HR.out.below hB.out) k hlt
      have HKT := Lib.hid (kidD_take l p k hkl)
      have hsz := HZ.out k hkl
      have hlen : (kidD (l.take k) p).length ≤ 10000 := by have h1 := kidD_len (l.take k) p; have h2 := List.length_take_le k l; omega
      have HLEN := Lib.hid hlen
      obtain ⟨⟨ep, ev, en⟩, hE⟩ : ∃ E, l.getD k EK.d = E := ⟨_, rfl⟩
      rw [hE] at u0 HKT hsz
      simp only at u0 HKT hsz
      have HSZ := Lib.hid hsz
      have HU : Hid (∀ W, Below wr.heap.size wr W → W.cell? ⟨ge, offe + k * 3, none⟩ = some (.string ep)) := Lib.hid (fun W hW => (hW.cell (p := ⟨ge, offe + k * 3, none⟩) (World.block_lt_of_cell? wr _ u0)).trans u0)
      subst ha
      clear e00 u1 u2 hE hkl hge hsz hlen
      go_wp2_with fail
      refine (rparent_any ep wr HSZ.out).mono ?_
      rintro e w1 ⟨rfl, hb⟩
      have c1 := HCR.out w1 (below_self hB.out hb)
      have v0' := HU.out w1 hb
      have HB1 := Lib.hid (below_self hB.out hb)
      have HO1 := Lib.hid (hO.out.below hb)
      clear hb hB hO HU c0 u0
      by_cases hpe : par ep = p
      · have z0 : ((par ep).toList == p.toList) = true := by rw [hpe]; simp
        have HPE := Lib.hid hpe
        clear hpe
        go_wp2_with fail
        refine (rlast_any ep w1 HSZ.out).mono ?_
        rintro e w2 ⟨rfl, hb⟩
        have HB2 := Lib.hid (below_self HB1.out hb)
        have HO2 := Lib.hid (HO1.out.below hb)
        have hz2 : w.heap.size ≤ w2.heap.size := HB2.out.size
        clear hb HB1 HO1 c1 v0' z0
        go_wp2_with (refine wpList_app1 rfl _ _ 34 9 _ 16 rfl Tryz.underlying34 infoStr rfl (by omega) w.heap.size _ ((kidD (l.take k) p).map .string) rfl (HO2.out.below ((Below.refl _ _).alloc (Nat.le_refl _) _)) w2.heap.size (.string (lst ep)) rfl ?hu rfl (by have := HLEN.out; simp; omega) (by simp; omega) ?_)
        case hu => simp [go_sem]
        intro v6 w6 ho6 hb6 hz6 hg6
        have HO6 : Hid (Own1 w6 w.heap.size 9 v6 ((kidD (l.take (k + 1)) p).map .string)) := Lib.hid (by
          rw [HKT.out, if_pos HPE.out, List.map_append]
          exact ho6)
        have HB6 : Hid (Below w.heap.size w w6) := Lib.hid ((HB2.out.alloc hz2 _).trans hb6)
        clear ho6 hb6 hz6 hg6 HO2 HB2 hz2
        go_wp2
        go_roundw
        case rel => exact ⟨k + 1, v6, by omega, rfl, by go_num, HO6, HB6⟩
        case measure => simp [intOf]; omega
      · have z0 : ((par ep).toList == p.toList) = false := by
          rw [Lib.toList_data, Lib.toList_data]
          simpa using fun e => hpe (data_inj (by simpa using e))
        have HO6 : Hid (Own1 w1 w.heap.size 9 v ((kidD (l.take (k + 1)) p).map .string)) := Lib.hid (by
          rw [HKT.out, if_neg hpe, List.append_nil]
          exact HO1.out)
        clear hpe HO1 c1 v0'
        go_wp2
        go_roundw
        case rel => exact ⟨k + 1, v, by omega, rfl, by go_num, HO6, HB1⟩
        case measure => simp [intOf]; omega
    · obtain rfl : n = k := by omega
      have hlt' : ¬ (n : Int) < (n : Int) := by omega
      have HO6 : Hid (Own1 wr w.heap.size 9 v ((kidD l p).map .string)) := Lib.hid (by
        have h1 := hO.out
        rw [List.take_of_length_le (by have := HLN.out; omega)] at h1
        exact h1)
      clear hlt hO
      go_wp2
      go_ret
      exact ⟨_, rfl, HO6.out, hB.out⟩
end Go.Proofs.YtodcmhmankmaoaaGreat
