/-
  children: what is just below a path.
-/
import Derived.Test.YtoojfbeikohikaaDir7
import Derived.Test.YtoojfbeikohikaaDirN
namespace Go.Proofs.Ytoojfbeikohikaa
open Go.RowKit Go.Sort
open Go.WideMaps
set_option linter.unusedSimpArgs false
set_option linter.unusedVariables false

theorem okP_size {p : ByteArray} (h : okP p) : p.size ≤ 1000 := by
  have := pth_size _ (nm_ok p)
  rw [← vld_pth h.1] at this
  omega
theorem str_names (ns : List ByteArray) : ns.map Value.string = (ns.map (·.data.toList)).map Go.Proofs.encStr := by
  rw [List.map_map]
  refine List.map_congr_left fun s _ => ?_
  show Value.string s = Value.string (ofL s.data.toList)
  rw [ofL_of]
def KidP (l : List E3) (p : ByteArray) (w : World) (e : Ending) (w' : World) : Prop := ∃ v, Hid (e = .returned v) ∧ Own1 w' w.heap.size 9 v ((kidD l p).map .string) ∧ Below w.heap.size w w'
set_option maxRecDepth 100000 in
set_option maxHeartbeats 4000000 in
theorem children_any (d bk K : Nat) (l : List E3) (p : ByteArray) (w : World) (hd : DirAt w d bk K l) (hK : K ≤ 1000000) (hm : ML w) :
    Calls Try.prog 57 #[dP d, .string p] w (KidP l p w) := by
  obtain ⟨D, m, hmK, hM, hI⟩ := hd.map
  have HD := Lib.hid hd
  have HML := Lib.hid hm
  have HM := Lib.hid hM
  have HI := Lib.hid hI
  have HBL := Lib.hid hM.lt
  have dc := hd.cell
  have hsz : Maps.size D ≤ 1000000 := Nat.le_trans hM.size_le (by omega)
  obtain ⟨C, hC⟩ : ∃ C, Maps.size D = C := ⟨_, rfl⟩
  have HC := Lib.hid hC
  rw [hC] at hsz
  clear hd hm hM hI hC hmK
  go_enter Try.func57, Try.ntmps57
  go_wp2_with (at_range; refine wpList_range_own _ rfl _ 53 rfl 9 63 strK Try.underlying53 heldElem bk m D rfl HM.out ?_)
  intro w2 hr2 hg2 hz2
  have HR2 : Hid (w2.ranges (H := Unit) Try.prog 9 heldElem bk w.heap.size m D (Maps.has D) C) := Lib.hid (by have h := hr2; rw [HC.out] at h; exact h)
  have hb2 : Below w.heap.size w w2 := (Below.refl _ _).grown hg2 (Nat.le_refl _) (fun k e => by cases e)
  have HB2 := Lib.hid hb2
  clear hr2 hg2 hz2 hb2 dc
  go_wp2_with fail
  go_loopw [5] (fun sl wr => ∃ (v : Value) (left : Lit → Bool) (cnt : Nat) (ks : List (List UInt8)), v = sl ∧ Hid (wr.ranges (H := Unit) Try.prog 9 heldElem bk w.heap.size m D left cnt) ∧ Hid (Own1 wr w.heap.size 9 v ((namesOf ks p).map .string)) ∧ Hid (Collected D left ks) ∧ Hid (ks.length + cnt ≤ C) ∧ Hid (Below w.heap.size w wr)) (fun _ wr => wr.rangeLeft bk w.heap.size)
  case atStart => exact ⟨_, _, C, [], rfl, HR2, Lib.hid (Own1.nil _ _ _), Lib.hid (Collected.start D), Lib.hid (by simp), HB2⟩
  case round =>
    clear HR2 HB2
    obtain ⟨v, left, cnt, ks, rfl, hR, hO, hCol, hcnt, hB⟩ := hrel
    go_wp2_with (at_next; refine wpList_next_ranges _ rfl _ rfl 9 strK heldElem Value.string (fun c : ByteArray × Int => .agg #[.string c.1, .int .i64 c.2]) (fun key kl hk => by obtain ⟨x, hx, _⟩ := kS_inv hk; exact ⟨x, hx⟩) (fun v y hv => by obtain ⟨a, b, hx, _⟩ := heldElem_inv hv; exact ⟨(a, b), hx⟩) bk w.heap.size m _ _ _ rfl hR.out ?_ ?_)
    · intro hc0 hl0
      have hsr := names_sorted (keys_perm HI.out HD.out.rise hCol.out hl0) HD.out.rise HD.out.keys p
      have hpm := names_perm (keys_perm HI.out HD.out.rise hCol.out hl0) p
      rcases hO.out.2 with ⟨hv0, hx0⟩ | ⟨g, cap, cur, hv0, hbase, hgg, h1, h2, h3, hx⟩
      · subst hv0
        have hnil : namesOf ks p = [] := by
          have : (List.map Value.string (namesOf ks p)).length = 0 := by first | exact hx0 | (rw [hx0]; rfl)
          simpa using this
        rw [hnil] at hpm
        have hk0 : kidD l p = [] := by simpa using hpm.symm
        have HK0 := Lib.hid hk0
        have HS := Lib.hid (Try.slices_Sort_string_none none 0 wr)
        clear hsr hpm hx0 hnil hk0 hl0 hc0 hR hO hCol hcnt HM HI
        go_wp2_with (go_at_call 75; refine HS.out.mono ?_; rintro e w' ⟨rfl, rfl⟩)
        go_ret
        exact ⟨_, Lib.hid rfl, by rw [HK0.out]; exact Own1.nil _ _ _, hB.out⟩
      · obtain ⟨M, hM⟩ : ∃ M, (List.map Value.string (namesOf ks p)).length = M := ⟨_, rfl⟩
        have hM2 : ((namesOf ks p).map (·.data.toList)).length = M := by rw [← hM]; simp
        have hM3 : ((kidD l p).map (·.data.toList)).length = ((namesOf ks p).map (·.data.toList)).length := by simp [hpm.length_eq]
        rw [hM] at hv0 h1 hx
        subst hv0
        have hH : Holds Go.Proofs.encStr wr g 0 ((namesOf ks p).map (·.data.toList)).toArray := holds_of_block hgg (by rw [hM2, ← str_names]; simpa using hx)
        have hgl : g < wr.heap.size := (Array.getElem?_eq_some_iff.1 hgg).1
        have hMs : M ≤ 1000000 := by
          have q1 : (namesOf ks p).length ≤ ks.length := by unfold namesOf; rw [List.length_map]; refine Nat.le_trans (List.length_filter_le _ _) (by simp)
          have := hcnt.out
          rw [List.length_map] at hM
          omega
        have hcon := Try.slices_Sort_string g 0 cap ((namesOf ks p).map (·.data.toList)) wr hH hgl (by rw [hM2]; omega)
        rw [hsr, hM2] at hcon
        have HCON := Lib.hid hcon
        have HS : Hid (∀ n os, Own1 (grow (putRow Go.Proofs.encStr (Sort.ahead wr n) g 0 ((kidD l p).map (·.data.toList)).toArray) os) w.heap.size 9 (.slice (some ⟨g, 0, none⟩) M cap) ((kidD l p).map .string) ∧ wr.grownBy (grow (putRow Go.Proofs.encStr (Sort.ahead wr n) g 0 ((kidD l p).map (·.data.toList)).toArray) os) (some g)) := Lib.hid (fun n os => by
          refine ⟨?_, grownBy_sorted _⟩
          have := ownsRow_sorted (n := n) (os := os) hM3 hbase hgg (by rw [hM2]; exact h1) h2 h3
          rw [hM2, ← str_names] at this
          unfold Own1
          rw [show (List.map Value.string (kidD l p)).length = M by rw [List.length_map, ← hM2, ← hM3, List.length_map]]
          exact this)
        have HGB := Lib.hid hbase
        clear hcon hH hgl hMs hM hM2 hM3 hsr hpm h1 h2 h3 hx hgg hbase hl0 hc0 hR hO hCol hcnt HM HI
        go_wp2_with (go_at_call 75; refine HCON.out.mono ?_; rintro e w' ⟨rfl, nn, os, rfl⟩)
        go_ret
        exact ⟨_, Lib.hid rfl, (HS.out nn os).1, hB.out.grown (HS.out nn os).2 hB.out.size (fun j hj => by cases hj; exact HGB.out)⟩
    · intro x u n kl yd yp w3 cnt3 hkey hlk hv hat hrg3 hlt hg3 hs3 hen
      obtain ⟨x', ex, hkl⟩ := kS_inv hkey
      obtain rfl : x = x' := by simpa using ex
      subst hkl
      have hx : okP x := by
        have h1 : Maps.has D (kS x) = true := Maps.has_true_of_atKey hat
        rw [HI.out.has] at h1
        obtain ⟨e, he, hq⟩ := fndD_mem.1 h1
        rw [← hq]
        exact HD.out.keys e he
      have hC3 : Hid (Collected D (fun z => left z && !z.sameKey (kS x)) (ks ++ [x.data.toList])) := Lib.hid (hCol.out.step hlk hat)
      have hO3 : Hid (Own1 w3 w.heap.size 9 v ((namesOf ks p).map .string)) := Lib.hid (hO.out.keepB fun k hk => hg3.block k (World.ownsRow.lt hO.out k hk).2 (by
        have := row_ne_iter hO.out hR.out
        rw [hk] at this
        exact fun e => this e.symm))
      have hB3 : Hid (Below w.heap.size w w3) := Lib.hid (hB.out.grown hg3 hB.out.size (fun j hj => by cases hj; exact Nat.le_refl _))
      have hR3 := Lib.hid hrg3
      have hLT : Hid (cnt3 < cnt) := Lib.hid hlt
      have hLE := Lib.hid hR.out.left_eq
      have HX := Lib.hid hx
      have hz3 : w.heap.size ≤ w3.heap.size := hB3.out.size
      have hNL : Hid ((namesOf ks p).length ≤ 1000000) := Lib.hid (by
        have h1 : (namesOf ks p).length ≤ ks.length := by unfold namesOf; rw [List.length_map]; refine Nat.le_trans (List.length_filter_le _ _) (by simp)
        have := hcnt.out; omega)
      have hML3 := Lib.hid (HML.out.below hB3.out)
      clear ex hkey hlk hv hat hrg3 hlt hg3 hs3 hR hO hCol hB hx
      go_wp2_with fail
      refine (parent_any x w3 (okP_size HX.out) hML3.out).mono ?_
      rintro e w4 ⟨rfl, hb⟩
      have hb0 := Lib.hid hb
      have hB4 := Lib.hid (below_self hB3.out hb)
      have hO4 := Lib.hid (hO3.out.below hb)
      have hR4 := Lib.hid (hR3.out.kept (row := none) ⟨hb.os, hb.tape, hb.output, hb.size, fun k hk _ => hb.block k hk⟩ (by simp) (by simp))
      have hML4 := Lib.hid (hML3.out.below hb)
      have q1 : ((par x).toList == p.toList) = decide (par x = p) := by
        rw [Lib.toList_data, Lib.toList_data, Bool.eq_iff_iff]
        simp only [beq_iff_eq, decide_eq_true_eq]
        exact ⟨fun h => data_inj h, fun h => by rw [h]⟩
      have hNS := Lib.hid (namesOf_snoc ks x p)
      obtain ⟨B, hBB⟩ : ∃ B, decide (par x = p) = B := ⟨_, rfl⟩
      rw [hBB] at q1
      have HBB := Lib.hid hBB
      have hC4 : Hid ((ks ++ [x.data.toList]).length + cnt3 ≤ C) := Lib.hid (by have := hcnt.out; have := hLT.out; simp; omega)
      clear hb hB3 hO3 hR3 hML3 hBB hcnt hz3
      cases B with
      | false =>
        have hO5 : Hid (Own1 w4 w.heap.size 9 v ((namesOf (ks ++ [x.data.toList]) p).map .string)) := Lib.hid (by
          rw [hNS.out, if_neg (by simpa using HBB.out), List.append_nil]
          exact hO4.out)
        go_wp2
        go_roundw
        case rel => exact ⟨v, _, cnt3, _, rfl, hR4, hO5, hC3, hC4, hB4⟩
        case measure => rw [hR4.out.left_eq, hLE.out]; exact hLT.out
      | true =>
        go_wp2_with fail
        refine (last_any x w4 (okP_size HX.out) hML4.out).mono ?_
        rintro e w5 ⟨rfl, hb⟩
        have hB5 := Lib.hid (below_self hB4.out hb)
        have hO5 := Lib.hid (hO4.out.below hb)
        have hR5 := Lib.hid (hR4.out.kept (row := none) ⟨hb.os, hb.tape, hb.output, hb.size, fun k hk _ => hb.block k hk⟩ (by simp) (by simp))
        have hz5 : w.heap.size ≤ w5.heap.size := hB5.out.size
        clear hb hb0 hB4 hO4 hR4 hML4
        go_wp2_with (refine wpList_app1 rfl _ _ 28 9 _ 16 rfl Try.underlying28 infoStr rfl (by omega) w.heap.size _ ((namesOf ks p).map .string) rfl (hO5.out.below ((Below.refl _ _).alloc (Nat.le_refl _) _)) w5.heap.size (.string (lst x)) rfl ?hu rfl (by have := hNL.out; simp; omega) (by simp; omega) ?_)
        case hu => simp [go_sem]
        intro v6 w6 ho6 hb6 hz6 hg6
        have hO6 : Hid (Own1 w6 w.heap.size 9 v6 ((namesOf (ks ++ [x.data.toList]) p).map .string)) := Lib.hid (by
          rw [hNS.out, if_pos (by simpa using HBB.out), List.map_append]
          exact ho6)
        have hr5 := hR5.out.alloc (.cells #[.string (lst x)] 9)
        have ho5 := hO5.out.below ((Below.refl _ _).alloc (Nat.le_refl _) (.cells #[.string (lst x)] 9))
        have hR6 := Lib.hid (hr5.kept hg6 (row_ne_low ho5 HBL.out) (row_ne_iter ho5 hr5))
        have hB6 : Hid (Below w.heap.size w w6) := Lib.hid ((hB5.out.alloc hz5 _).trans hb6)
        clear ho6 hb6 hz6 hg6 hr5 ho5 hO5 hR5 hB5 hz5
        go_wp2
        go_roundw
        case rel => exact ⟨v6, _, cnt3, _, rfl, hR6, hO6, hC3, hC4, hB6⟩
        case measure => rw [hR6.out.left_eq, hLE.out]; exact hLT.out
end Go.Proofs.Ytoojfbeikohikaa
