/-
  The walk of Entries.
-/
import Derived.Test.YtoojfbeikohikaaDirE
namespace Go.Proofs.Ytoojfbeikohikaa
open Go.RowKit Go.Sort Go.Shelf
set_option linter.unusedSimpArgs false
set_option linter.unusedVariables false

theorem cmpEnts {l : List E3} [Inhabited {e : E3 // e ∈ l}] (hk : okKeys l) (g size : Nat) (w : World) (hm : ∀ (m : Nat) (os : Array Obj) (dk : Array {e : E3 // e ∈ l}), ML (sortWorldK (fun x : {e : E3 // e ∈ l} => enE x.1) 3 w g 0 m dk os)) :
    CmpLays Try.prog 27 #[] (fun x : {e : E3 // e ∈ l} => enE x.1) 3 ordS g 0 size w :=
  fun m os dk _ x y => (order_any x.1.1 x.1.2.1 x.1.2.2 y.1.1 y.1.2.1 y.1.2.2 _ (okP_size (hk x.1 x.2)) (okP_size (hk y.1 y.2)) (hm m os dk)).mono fun e w' ⟨he, hb⟩ => ⟨he, hb.grew⟩
theorem ML.out {w wr w' : World} {g : Nat} (h : ML w) (hb : Below w.heap.size w wr) (hg : wr.grownBy w' (some g)) (hl : w.heap.size ≤ g) : ML w' := by
  obtain ⟨m, hm⟩ := h
  have hlt := block_lt_of_cell2 hm rfl
  exact ⟨m, hg.cell ((hb.cell (p := ⟨0, 0, none⟩) hlt).trans hm) (by simp; omega)⟩
set_option maxRecDepth 100000 in
set_option maxHeartbeats 4000000 in
theorem entries_any (d bk K : Nat) (l : List E3) (w : World) (hd : DirAt w d bk K l) (hK : K ≤ 900000) (hm : ML w) :
    Calls Try.prog 14 #[dP d] w (EntP l w) := by
  obtain ⟨D, m, hmK, hM, hI⟩ := hd.map
  have HD := Lib.hid hd
  have HML := Lib.hid hm
  have HM := Lib.hid hM
  have HI := Lib.hid hI
  have HBL := Lib.hid hM.lt
  have dc := hd.cell
  have dl := hd.lt.1
  have hsz : Maps.size D ≤ 900000 := Nat.le_trans hM.size_le (by omega)
  obtain ⟨C, hC⟩ : ∃ C, Maps.size D = C := ⟨_, rfl⟩
  have HC := Lib.hid hC
  rw [hC] at hsz
  clear hd hm hM hI hC hmK
  go_enter Try.func14, Try.ntmps14
  go_wp2_with (first
    | (at_len; refine wpList_len_own _ rfl _ 53 rfl 9 63 Try.underlying53 heldElem bk m D rfl HM.out ?_; rw [HC.out])
    | refine EK.make rfl _ _ rfl rfl C rfl (by omega) w.heap.size (Nat.le_refl _) ?_)
  intro v1 w1 hO1 hb1 hne1 hg1
  have HO1 := Lib.hid hO1
  have HB1 := Lib.hid hb1
  have hM1 := HM.out.kept (row := none) hg1 (by simp)
  have HM1 := Lib.hid hM1
  have HNE1 := Lib.hid hne1
  have dc1 := (hb1.cell (p := ⟨d, 0, none⟩) dl).trans dc
  clear hO1 hb1 hne1 hg1 hM1 dc
  go_wp2_with (at_range; refine wpList_range_own _ rfl _ 53 rfl 9 63 strK Try.underlying53 heldElem bk m D rfl HM1.out ?_)
  intro w2 hr2 hg2 hz2
  have HR2 : Hid (w2.ranges (H := Unit) Try.prog 9 heldElem bk w1.heap.size m D (Maps.has D) C) := Lib.hid (by have h := hr2; rw [HC.out] at h; exact h)
  have hb2 : Below w1.heap.size w1 w2 := (Below.refl _ _).grown hg2 (Nat.le_refl _) (fun k e => by cases e)
  have HB2 : Hid (Below w.heap.size w w2) := Lib.hid (HB1.out.trans (hb2.mono HB1.out.size))
  have HO2 := Lib.hid (HO1.out.below hb2)
  have HZ : Hid (w.heap.size ≤ w1.heap.size) := Lib.hid HB1.out.size
  clear hr2 hg2 hz2 hb2 HM1 HB1 HO1 dc1
  go_wp2_with fail
  go_loopw [3] (fun sl wr => ∃ (v : Value) (left : Lit → Bool) (cnt : Nat) (es : List E3), v = sl ∧ Hid (wr.ranges (H := Unit) Try.prog 9 heldElem bk w1.heap.size m D left cnt) ∧ Hid (EK.Own wr w.heap.size v es) ∧ Hid (v ≠ .slice none 0 0) ∧ Hid (Collected D left (es.map (·.1.data.toList))) ∧ Hid (∀ e ∈ es, e ∈ l) ∧ Hid (es.length + cnt ≤ C) ∧ Hid (Below w.heap.size w wr)) (fun _ wr => wr.rangeLeft bk w1.heap.size)
  case atStart => exact ⟨_, _, C, [], rfl, HR2, HO2, HNE1, Lib.hid (Collected.start D), Lib.hid (fun e he => by cases he), Lib.hid (by simp), HB2⟩
  case round =>
    clear HR2 HB2 HO2 HNE1
    obtain ⟨v, left, cnt, es, rfl, hR, hO, hNE, hCol, hSub, hcnt, hB⟩ := hrel
    go_wp2_with (at_next; refine wpList_next_ranges _ rfl _ rfl 9 strK heldElem Value.string (fun c : ByteArray × Int => .agg #[.string c.1, .int .i64 c.2]) (fun key kl hk => by obtain ⟨x, hx, _⟩ := kS_inv hk; exact ⟨x, hx⟩) (fun v y hv => by obtain ⟨a, b, hx, _⟩ := heldElem_inv hv; exact ⟨(a, b), hx⟩) bk w1.heap.size m _ _ _ rfl hR.out ?_ ?_)
    · intro hc0 hl0
      obtain ⟨ad, cc, hve⟩ := hO.out.slice
      have hO2 := hO.out
      rw [hve] at hO2
      have hnn := hNE.out
      obtain ⟨g, rfl⟩ : ∃ g, ad = some ⟨g, 0, none⟩ := by
        rcases hO2.2 with ⟨h0, _⟩ | ⟨g, cap, cur, h0, _⟩
        · exact absurd (hve.trans h0) hnn
        · simp only [Value.slice.injEq] at h0
          exact ⟨g, h0.1⟩
      have HGB : Hid (w.heap.size ≤ g) := Lib.hid (hO2.from g (by simp [Value.ownBlock]))
      by_cases hl : l = []
      · subst hl
        have he0 : es = [] := by
          cases es with
          | nil => rfl
          | cons e es => exact absurd (hSub.out e (.head _)) (by simp)
        subst he0
        have hcon := AnyF.slices_SortFunc_none Try.sortEnts (some ⟨g, 0, none⟩) cc (.func (.func 27) #[] #[]) wr
        change Calls Try.prog 26 #[.slice (some ⟨g, 0, none⟩) 0 cc, .func (.func 27) #[] #[]] wr _ at hcon
        have HCON := Lib.hid hcon
        have HO := Lib.hid hO2
        have hve2 : v = .slice (some ⟨g, 0, none⟩) 0 cc := hve
        subst hve2
        clear hcon hO2 hnn hO hR hCol hSub hcnt hNE hl0 hc0 HM HI
        go_wp2_with (go_at_call 26; refine HCON.out.mono ?_; rintro e w' ⟨rfl, rfl⟩)
        go_ret
        exact ⟨_, Lib.hid rfl, HO.out, hB.out⟩
      · obtain ⟨e0, he0⟩ := List.exists_mem_of_ne_nil l hl
        let inst : Inhabited {e : E3 // e ∈ l} := ⟨⟨e0, he0⟩⟩
        obtain ⟨k4, hk4⟩ := lift_all es hSub.out
        have hO4 : (EK4 l ⟨e0, he0⟩).Own wr w.heap.size (.slice (some ⟨g, 0, none⟩) es.length cc) k4 := own4.2 (by rw [hk4]; exact hO2)
        obtain ⟨hH, hgl, _⟩ := hO4.holds
        have hsr := sorted_all (es := k4) HI.out HD.out.rise HD.out.keys (by rw [hk4]; exact hCol.out) hl0
        have hk4l : k4.length = es.length := by rw [← hk4]; simp
        have eg : ∀ args w, (callFunc 27 args).run Try.prog w = .ok (.enter 27 args) w := enters_of Try.func27 (by kernel_rfl) rfl
        have hcon := AnyQ.slices_SortFunc_total Try.sortEnts 3 Try.isAgg43 Try.sizeOf43 (fun x : {e : E3 // e ∈ l} => enE x.1) (fun _ => rfl) (fun x v h => EK.one x.1 v h) ordS (ordS_swo HD.out.keys) 27 #[] g 0 cc k4.toArray wr eg (cmpEnts HD.out.keys g _ wr (fun m os dk => HML.out.out hB.out (grownBy_sortedK _) HGB.out)) hH hgl (by have := hcnt.out; simp; omega) (ordS_tot HD.out.rise HD.out.keys)
        rw [show k4.toArray.toList = k4 from rfl] at hcon
        obtain ⟨q4, hq4⟩ : ∃ q4, (k4.mergeSort fun x y => !(ltOf ordS) y x) = q4 := ⟨_, rfl⟩
        have hql : q4.length = k4.length := by rw [← hq4]; simp
        rw [hq4] at hcon hsr
        obtain ⟨M, hM⟩ : ∃ M, es.length = M := ⟨_, rfl⟩
        change Calls Try.prog 26 #[.slice (some ⟨g, 0, none⟩) k4.length cc, .func (.func 27) #[] #[]] wr _ at hcon
        rw [hk4l, hM] at hcon
        rw [hM] at hve hO4
        have HCON := Lib.hid hcon
        have HS : Hid (∀ mm os, EK.Own (sortWorldK (fun x : {e : E3 // e ∈ l} => enE x.1) 3 wr g 0 mm q4.toArray os) w.heap.size (.slice (some ⟨g, 0, none⟩) M cc) l ∧ wr.grownBy (sortWorldK (fun x : {e : E3 // e ∈ l} => enE x.1) 3 wr g 0 mm q4.toArray os) (some g)) := Lib.hid (fun mm os => by
          have h := hO4.sorted hql mm os
          refine ⟨?_, h.2⟩
          have h1 := own4.1 h.1
          rw [hsr] at h1
          exact h1)
        subst hve
        clear hcon hO2 hO4 hnn hH hgl hsr hk4l hM hO hR hCol hSub hcnt hNE hl0 hc0 HM HI hq4 hql hk4
        go_wp2_with (go_at_call 26; refine HCON.out.mono ?_; rintro e w' ⟨rfl, nn, os, rfl⟩)
        go_ret
        exact ⟨_, Lib.hid rfl, (HS.out nn os).1, hB.out.grown (HS.out nn os).2 hB.out.size (fun j hj => by cases hj; exact HGB.out)⟩
    · intro x u n kl yd yp w3 cnt3 hkey hlk hv hat hrg3 hlt hg3 hs3 hen
      obtain ⟨x', ex, hkl⟩ := kS_inv hkey
      obtain rfl : x = x' := by simpa using ex
      subst hkl
      have hin : (x, u, n) ∈ l := by
        have h1 : Maps.has D (kS x) = true := Maps.has_true_of_atKey hat
        rw [HI.out.has] at h1
        obtain ⟨y, hy⟩ := Option.isSome_iff_exists.1 h1
        have h2 := HI.out.val x y hy
        rw [hat] at h2
        obtain ⟨u', n', e1, e2⟩ := heldElem_inv hv
        have e3 := congrArg Prod.fst e2
        change yd = hD (u', n') at e3
        rw [e3] at h2
        have h3 := hD_inj h2
        simp only [Value.agg.injEq, Array.mk.injEq, List.cons.injEq, Value.string.injEq, Value.int.injEq, true_and, and_true] at e1
        rw [← e1.1, ← e1.2] at h3
        rw [← h3] at hy
        exact (fndD_some HD.out.rise).1 hy
      have hC3 : Hid (Collected D (fun z => left z && !z.sameKey (kS x)) ((es ++ [(x, u, n)]).map (·.1.data.toList))) := Lib.hid (by rw [List.map_append]; exact hCol.out.step hlk hat)
      have hS3 : Hid (∀ e ∈ es ++ [(x, u, n)], e ∈ l) := Lib.hid (fun e he => by
        rcases List.mem_append.1 he with q | q
        · exact hSub.out e q
        · rw [List.mem_singleton.1 q]; exact hin)
      have hO3 : Hid (EK.Own w3 w.heap.size v es) := Lib.hid (hO.out.keepB fun k hk => hg3.block k (hO.out.blk k hk).1 (by
        have := row_ne_iter hO.out hR.out
        rw [hk] at this
        exact fun e => this e.symm))
      have hB3 : Hid (Below w.heap.size w w3) := Lib.hid (hB.out.grown hg3 hB.out.size (fun j hj => by cases hj; exact HZ.out))
      have hR3 := Lib.hid hrg3
      have hLT : Hid (cnt3 < cnt) := Lib.hid hlt
      have hLE := Lib.hid hR.out.left_eq
      have hln : es.length + 1 ≤ 1000000 := by have := hcnt.out; omega
      have hz3 : w.heap.size ≤ w3.heap.size := hB3.out.size
      have hnv := hNE
      clear hkey hlk hv hat hrg3 hlt hg3 hs3 hR hO hCol hSub hB hNE ex hin
      go_wp2_with (refine EK.app rfl _ _ rfl w.heap.size v es rfl ?own _ [(x, u, n)] rfl ?rd hln ?bs ?_)
      case own => exact hO3.out.below (((Below.refl _ _).alloc (Nat.le_refl _) _).alloc (by simp) _)
      case rd => exact EK.rd_boxAt (x, u, n) _ 1 _ _ (by simp)
      case bs => simp; omega
      intro v4 w4 ho4 hb4 hg4 hn4
      have hO4 := Lib.hid ho4
      have hr3 := (hR3.out.alloc (.cells #[.string u, .int .i64 n] 63)).alloc (.cells #[.string x, .string u, .int .i64 n] 43)
      have ho3' := hO3.out.below (((Below.refl _ _).alloc (Nat.le_refl _) (.cells #[.string u, .int .i64 n] 63)).alloc (by simp) (.cells #[.string x, .string u, .int .i64 n] 43))
      have hR4 := Lib.hid (hr3.kept hg4 (row_ne_low ho3' HBL.out) (row_ne_iter ho3' hr3))
      have hN4 : Hid (v4 ≠ .slice none 0 0) := Lib.hid hn4
      have hB4 : Hid (Below w.heap.size w w4) := Lib.hid (((hB3.out.alloc hz3 _).alloc (by simp; omega) _).trans hb4)
      have hC4 : Hid ((es ++ [(x, u, n)]).length + cnt3 ≤ C) := Lib.hid (by have := hcnt.out; have := hLT.out; simp; omega)
      clear ho4 hb4 hg4 hn4 hr3 ho3' hO3 hB3 hR3 hcnt hln hz3 hnv
      go_wp2
      go_roundw
      case rel => exact ⟨v4, _, cnt3, _, rfl, hR4, hO4, hN4, hC3, hS3, hC4, hB4⟩
      case measure => rw [hR4.out.left_eq, hLE.out]; exact hLT.out
end Go.Proofs.Ytoojfbeikohikaa
