/-
  The walk of package frame's All.
-/
import Derived.Test.YtfobdkhmffphmaaFrm4
import Derived.Shelf.Abstract
import Derived.RegionIn
import Derived.BigRegionIn
namespace Go.Proofs.Ytfobdkhmffphmaa
open Go.RowKit Go.Shelf
set_option linter.unusedSimpArgs false
set_option linter.unusedVariables false
attribute [local go_sem] Oper.semAt_some

theorem infoRow : (Try.prog.info? 27).map (fun i => (i.zero, i.size, i.bytes)) = some (some (.slice none 0 0), 1, 24) := by kernel_rfl
/-- All bytes of bodies' frames. -/
def tot (xs : List Bd) : Int := (xs.map fun x => 8 + (x.2.length : Int)).sum
def AllPost (b : List Int) (w : World) (e : Ending) (w' : World) : Prop := ∃ (lv : Value) (xs : List Bd), Hid (e = .returned (.tuple #[lv, .int .i64 (tot xs)])) ∧ xs.map (·.2) = allN b ∧ w'.ownsRow w.heap.size 27 1 lv xs.length (xs.map (·.1)) ∧ Rows8 w.heap.size xs w' ∧ Below w.heap.size w w'
set_option maxHeartbeats 1600000 in
theorem bodies_any (a : Option Addr) (n c : Nat) (w : World) : Calls Try.prog 25 #[.slice a n c] w fun e w' => e = .returned (.func (.func 31) #[] #[.pointer (some ⟨w.heap.size, 0, none⟩)]) ∧ w.alloc (.cells #[.slice a n c] 27) = w' := by
  go_enter Try.func25, Try.ntmps25
  go_wp2
  go_ret
  exact ⟨rfl, rfl⟩
/-- What holds of All's own memory, some bodies having come. -/
structure AllI (w : World) (pre : List Bd) (W : World) : Prop where
  row : ∃ lv, W.heap[w.heap.size]? = some (.cells #[lv] 34 (0, 0)) ∧ W.ownsRow (w.heap.size + 1 + 1 + 1) 27 1 lv pre.length (pre.map (·.1))
  num : W.heap[w.heap.size + 1]? = some (.cells #[.int .i64 (tot pre)] 3 (0, 0))
  low : Below w.heap.size w W
  few : 0 ≤ tot pre ∧ tot pre ≤ pre.length * 1000000008
  big : w.heap.size + 1 + 1 + 1 ≤ W.heap.size
theorem tot_snoc (pre : List Bd) (x : Bd) : tot (pre ++ [x]) = tot pre + (8 + (x.2.length : Int)) := by simp [tot]
theorem cells_alike {w : World} {pre : List Bd} {W W' : World} (h : AllI w pre W) (hl : Below w.heap.size W W') (hk : ∀ (k : Nat) (cs : Array Value) (t : TypeId) (fr : Nat × Nat), W.heap[k]? = some (Obj.cells cs t fr) → W'.heap[k]? = W.heap[k]?) : AllI w pre W' := by
  obtain ⟨⟨lv, h1, h2, h3⟩, h4, h5, h6, h7⟩ := h
  refine ⟨⟨lv, (hk _ _ _ _ h1).trans h1, h2, ?_⟩, (hk _ _ _ _ h4).trans h4, h5.trans hl, h6, Nat.le_trans h7 hl.size⟩
  rcases h3 with h3 | ⟨g, cap, cur, hv, hg, hh, hr⟩
  · exact .inl h3
  · exact .inr ⟨g, cap, cur, hv, hg, (hk _ _ _ _ hh).trans hh, hr⟩
theorem put_alike {W : World} {l : Nat} {o o' : Obj} (h : W.heap[l]? = some o) (ho : o.isCells = false) (k : Nat) (cs : Array Value) (t : TypeId) (fr : Nat × Nat) (hk : W.heap[k]? = some (Obj.cells cs t fr)) : (W.putObj l o').heap[k]? = W.heap[k]? := by
  refine World.putObj_heap_other ?_
  rintro rfl
  rw [h] at hk
  cases hk
  cases ho
theorem put_below {W : World} {n₀ l : Nat} (o' : Obj) (h : n₀ ≤ l) : Below n₀ W (W.putObj l o') :=
  ⟨rfl, rfl, rfl, by simp, fun k hk => World.putObj_heap_other (by omega)⟩
set_option maxRecDepth 100000 in
set_option maxHeartbeats 4000000 in
theorem all_any (v : Value) (b : List Int) (w : World) (hb : Bt w v b) (hx : ∀ x ∈ b, 0 ≤ x ∧ x ≤ 255) (hl : b.length ≤ 1000000000) : Calls Try.prog 21 #[v] w (AllPost b w) := by
  refine (callsIn_wide (n := 6)).1 ?_
  have HBT := Lib.hid hb
  have HX := Lib.hid hx
  obtain ⟨a, cap, rfl, h1, h2⟩ := hb.row
  have hlt : ∀ ad, a = some ad → b ≠ [] → ad.block < w.heap.size := by
    intro ad e hne
    rcases h1.2 with h0 | ⟨g, off, ha, hg, _⟩
    · exact absurd h0 hne
    · rw [e] at ha; cases ha; exact hg
  have hbn : ∀ W W', Below w.heap.size W W' → Bt W (.slice a b.length cap) b → Bt W' (.slice a b.length cap) b := by
    intro W W' q hB
    obtain ⟨a', cap', e, q1, q2⟩ := hB.row
    simp only [Value.slice.injEq] at e
    obtain ⟨rfl, _, rfl⟩ := e
    refine ⟨_, _, rfl, ⟨q1.1, ?_⟩, q2⟩
    rcases q1.2 with h0 | ⟨g, off, ha, hg, hc⟩
    · exact .inl h0
    · by_cases z : b = []
      · exact .inl z
      · have hg2 := hlt _ ha z
        exact .inr ⟨g, off, ha, by have := q.size; omega, fun i hi => (q.cell (p := ⟨g, off + i, none⟩) hg2).trans (hc i hi)⟩
  have HBN := Lib.hid hbn
  clear h1 h2 hlt hbn hb hx
  refine callsIn_of_wp_marks Try.func21 rfl trivial ?_ rfl
  simp only [Try.ntmps21, List.size_toArray, List.length_cons, List.length_nil, Nat.reduceAdd, Nat.reduceSub, Array.replicate_succ, Array.replicate_zero, List.push_toArray, List.append_toArray, List.nil_append, List.cons_append]
  gi_wp2
  refine ⟨trivial, ?_⟩
  refine (callsIn_wide.2 (bodies_any _ _ _ _)).mono ?_
  rintro e w1 ⟨rfl, hw1⟩
  have hz1 : w.heap.size + 1 + 1 + 1 = w1.heap.size := by rw [← hw1]; simp
  have hlow : Below w.heap.size w w1 := by
    rw [← hw1]
    exact (((Below.refl _ w).alloc (Nat.le_refl _) _).alloc (by simp) _).alloc (by simp; omega) _
  have hbox : w1.cell? ⟨w.heap.size + 1 + 1, 0, none⟩ = some (.slice a b.length cap) := by rw [← hw1]; simp [go_sem]
  have hI1 : AllI w [] w1 := by
    refine ⟨⟨.slice none 0 0, ?_, by simp, .inl ⟨rfl, rfl⟩⟩, ?_, hlow, by simp [tot], by omega⟩
    · rw [← hw1, Below.heap_alloc _ _ _ (by simp; omega), Below.heap_alloc _ _ _ (by simp)]; exact heap_alloc_last w _
    · rw [← hw1, Below.heap_alloc _ _ _ (by simp)]
      have := heap_alloc_last (w.alloc (.cells #[.slice none 0 0] 34)) (.cells #[.int .i64 0] 3)
      simpa [tot] using this
  have hbw : Bt w1 (.slice a b.length cap) b := HBT.out.below hlow
  have HI1 := Lib.hid hI1
  have hsz : (w.heap.size + 1 + 1 : Nat) = w.heap.size + 1 + 1 := rfl
  clear hw1 hI1
  simp only [World.size_alloc]
  gi_wp2
  refine wpIn_range_fin (F := Fence.wide) (P := Try.prog) rfl (by omega) (gf := 31) (lb := #[.pointer (some ⟨w.heap.size + 1 + 1, 0, none⟩)]) rfl trivial (enters_of Try.func31 (by kernel_rfl) rfl)
    (bodies1_seq 5 w.heap.size (w.heap.size + 1 + 1) (by omega) _ b w1 hbw HX.out hl hbox (by omega) (by omega) HBN.out)
    (fun h k => h.trans k)
    (fun W l o o' h1 h2 h3 => ⟨put_below o' (by omega), World.putObj_heap_other (by omega), fun k cs fr hk => put_alike h2 h3 k cs _ fr hk⟩)
    (fun xs W l o o' h1 h2 h3 h4 => ⟨fun x q => own8_rows (h4.1 x q) (fun k cs fr hk => put_alike h2 h3 k cs _ fr hk), h4.2⟩)
    (Below.refl _ _) (fun _ => rfl) (AllI w)
    (fun s A B h hb => cells_alike h (hb.mono (by have := h.low.size; omega)) (fun k cs t fr hk => hb.block k (Array.getElem?_eq_some_iff.1 hk).1))
    (fun s W l o o' h1 h2 h3 h => cells_alike h (put_below o' (by omega)) (fun k cs t fr hk => put_alike h2 h3 k cs t fr hk))
    HI1.out
    (fun x => { tmps := #[.slice a b.length cap, undef, .slice none 0 0, .int .i64 0, .pointer (some ⟨w.heap.size, 0, none⟩), .pointer (some ⟨w.heap.size + 1, 0, none⟩), x.1, .int .i64 (8 + (x.2.length : Int)), .slice a b.length cap, .func (.func 31) #[] #[.pointer (some ⟨w.heap.size + 1 + 1, 0, none⟩)], x.1, .int .i64 (8 + (x.2.length : Int)), undef, undef, undef, undef, undef, undef, undef, undef, undef], defers := [] })
    ?assign ?body ?done
  case assign =>
    intro l x W K hK
    gi_wp2
    exact hK
  case body =>
    intro l pre x W hI hp
    clear hz1 hlow hbox hbw HI1 hsz HBT HBN
    obtain ⟨⟨lv, r1, r2⟩, hn, hlw, ⟨hf1, hf2⟩, hbase⟩ := hI
    obtain ⟨hp1, hp2, xa, xn, xc, hxv⟩ := hp
    obtain ⟨xv, xb⟩ := x
    simp only at hp2 hxv
    subst hxv
    obtain ⟨i0, hi, hz0, hz1', hz2⟩ := info_parts infoRow
    have c4 := cell_of_row W w.heap.size 0 _ _ _ r1
    have f4 := frozen_of_row W w.heap.size 0 _ _ r1
    have c5 := cell_of_row W (w.heap.size + 1) 0 _ _ _ hn
    have f5 := frozen_of_row W (w.heap.size + 1) 0 _ _ hn
    simp only [List.getElem?_toArray, List.getElem?_cons_zero] at c4 c5
    have ts := tot_snoc pre (.slice xa xn xc, xb)
    simp only at ts
    generalize tot pre = T at c5 hf1 hf2 ts hn
    have R1 := Lib.hid r1
    have HN := Lib.hid hn
    have TS := Lib.hid ts
    have HLW := Lib.hid hlw
    clear r1 hn ts hlw
    have R2 := Lib.hid r2
    gi_wp2_with (gi_at_builtin; refine wpListIn_append_own _ rfl (.tmp 12) (.tmp 14) 34 rfl (w.heap.size + 1 + 1 + 1) 27 i0 (.slice none 0 0) 1 24 Try.underlying34 hi hz0 hz1' hz2 rfl (by decide) lv pre.length (pre.map (·.1)) rfl (r2.alloc _) ⟨W.heap.size, 0, none⟩ 1 1 [.slice xa xn xc] rfl rfl ?m1 ?m2 ?m3 ?m4 ?m5 ?mx)
    case m1 => intro j u hj; match j, hj with | 0, hj => simp at hj; subst hj; simp [Addr.add]
    case m2 => intro u hu; simp at hu; subst hu; rfl
    case m3 => unfold maxLen; omega
    case m4 => omega
    case m5 => simp; omega
    case mx =>
      intro v2 w2 hown2 hgrow2 _
      have hrow : ∀ (j : Nat) (o : Obj), lv.ownBlock = some j → (W.alloc (.cells #[.slice xa xn xc] 27)).heap[j]? = some o → j < W.heap.size ∧ w.heap.size + 1 + 1 + 1 ≤ j ∧ ∃ cs, o = .cells cs 27 := by
        intro j o hj ho
        rcases R2.out.2 with ⟨rfl, _⟩ | ⟨g, cap', cur, rfl, hg, hh, _⟩
        · cases hj
        · simp [Value.ownBlock] at hj
          subst hj
          have hgl := (Array.getElem?_eq_some_iff.1 hh).1
          rw [Below.heap_alloc _ _ _ hgl, hh] at ho
          cases ho
          exact ⟨hgl, hg, _, rfl⟩
      have hk1 : KeepsOthers W w2 := (KeepsOthers.alloc _ _).trans (KeepsOthers.of_grownBy hgrow2 (fun j o hj ho => by obtain ⟨_, _, cs, rfl⟩ := hrow j o hj ho; rfl))
      have hlow2 : Below (w.heap.size + 1 + 1 + 1) W w2 := ((Below.refl _ W).alloc hbase _).grown hgrow2 (by simp; omega) (fun k hk => by
        rcases R2.out.2 with ⟨rfl, _⟩ | ⟨g, cap', cur, rfl, hg, hh, _⟩
        · cases hk
        · simp [Value.ownBlock] at hk; omega)
      have hkept : ∀ (k : Nat) (cs : Array Value) (fr : Nat × Nat), W.heap[k]? = some (Obj.cells cs 5 fr) → w2.heap[k]? = W.heap[k]? := by
        intro k cs fr hk
        have hkl := (Array.getElem?_eq_some_iff.1 hk).1
        rw [← Below.heap_alloc W (.cells #[.slice xa xn xc] 27) k hkl]
        refine hgrow2.block k (by simp; omega) ?_
        intro e
        obtain ⟨_, _, cs', he⟩ := hrow k _ e.symm ((Below.heap_alloc W _ k hkl).trans hk)
        cases he
      obtain ⟨g2, cap2, hv2, hg2⟩ : ∃ g c, v2 = .slice (some ⟨g, 0, none⟩) (pre.length + 1) c ∧ w.heap.size + 1 + 1 + 1 ≤ g := by
        rcases hown2.2 with ⟨_, h⟩ | ⟨g, c, cur, h, hgg, _⟩
        · omega
        · exact ⟨g, c, h, hgg⟩
      rw [hv2] at hown2 ⊢
      clear hgrow2
      have h4 : w2.heap[w.heap.size]? = some (.cells #[lv] 34 (0, 0)) := (hlow2.block _ (by omega)).trans R1.out
      have h5 : w2.heap[w.heap.size + 1]? = some (.cells #[.int .i64 T] 3 (0, 0)) := (hlow2.block _ (by omega)).trans HN.out
      have d4 := (hlow2.cell (p := ⟨w.heap.size, 0, none⟩) (by simp <;> omega)).trans c4
      have d5 := (hlow2.cell (p := ⟨w.heap.size + 1, 0, none⟩) (by simp <;> omega)).trans c5
      have e4 := (hlow2.frozen (p := ⟨w.heap.size, 0, none⟩) (by simp <;> omega)).trans f4
      have e5 := (hlow2.frozen (p := ⟨w.heap.size + 1, 0, none⟩) (by simp <;> omega)).trans f5
      have HK1 := Lib.hid hk1
      have HL2 := Lib.hid hlow2
      have HKE := Lib.hid hkept
      have HO2 := Lib.hid hown2
      have H4 := Lib.hid h4
      have H5 := Lib.hid h5
      have hz2 := hlow2.size
      clear hrow hk1 hlow2 hkept hown2 h4 h5 r2 R2 c4 c5 f4 f5
      gi_wp2
      have hW2 : Below w.heap.size W w2 := HL2.out.mono (by omega)
      obtain ⟨V, hV⟩ : ∃ V, Value.slice (some ⟨g2, 0, none⟩) (pre.length + 1) cap2 = V := ⟨_, rfl⟩
      rw [hV] at HO2 ⊢
      have m4 : (w2.setCell ⟨w.heap.size, 0, none⟩ V).heap[w.heap.size]? = some (.cells #[V] 34 (0, 0)) := heap_setCell_same w2 w.heap.size 0 #[lv] _ V H4.out
      have m5 : (w2.setCell ⟨w.heap.size, 0, none⟩ V).heap[w.heap.size + 1]? = some (.cells #[.int .i64 T] 3 (0, 0)) := (heap_setCell_other w2 ⟨w.heap.size, 0, none⟩ _ V (by simp)).trans H5.out
      refine ⟨(HK1.out.trans (KeepsOthers.setCell _ _ _)).trans (KeepsOthers.setCell _ _ _), ⟨?_, ?_, ?_⟩, ⟨⟨V, ?_, ?_⟩, ?_, ?_, ?_, ?_⟩⟩
      · exact (hW2.setCell (p := ⟨w.heap.size, 0, none⟩) (Nat.le_refl _) _).setCell (p := ⟨w.heap.size + 1, 0, none⟩) (Nat.le_succ _) _
      · rw [heap_setCell_other _ _ _ _ (by simp <;> omega), heap_setCell_other _ _ _ _ (by simp <;> omega)]
        exact HL2.out.block _ (by omega)
      · intro k cs fr hk
        have ne4 : k ≠ w.heap.size := by
          rintro rfl
          rw [R1.out] at hk; cases hk
        have ne5 : k ≠ w.heap.size + 1 := by
          rintro rfl
          rw [HN.out] at hk; cases hk
        rw [heap_setCell_other _ _ _ _ (by simpa using ne5), heap_setCell_other _ _ _ _ (by simpa using ne4)]
        exact HKE.out k cs fr hk
      · rw [heap_setCell_other _ _ _ _ (by simp)]; exact m4
      · have := ownsRow_setCell_below (ownsRow_setCell_below HO2.out (a := ⟨w.heap.size, 0, none⟩) (by simp <;> omega) V) (a := ⟨w.heap.size + 1, 0, none⟩) (by simp <;> omega) (.int .i64 (T + (8 + (xb.length : Int))))
        simpa using this
      · have := heap_setCell_same (w2.setCell ⟨w.heap.size, 0, none⟩ V) (w.heap.size + 1) 0 #[.int .i64 T] _ (.int .i64 (T + (8 + (xb.length : Int)))) m5
        rw [TS.out]
        simpa using this
      · exact ((HLW.out.trans hW2).setCell (p := ⟨w.heap.size, 0, none⟩) (Nat.le_refl _) _).setCell (p := ⟨w.heap.size + 1, 0, none⟩) (Nat.le_succ _) _
      · rw [TS.out]; simp; omega
      · simp; omega
  case done =>
    rintro D xs W hD ⟨hr, hm⟩ hI hK
    obtain ⟨⟨lv, r1, r2⟩, hn, hlw, _, _⟩ := hI
    have c4 := cell_of_row W w.heap.size 0 _ _ _ r1
    have c5 := cell_of_row W (w.heap.size + 1) 0 _ _ _ hn
    simp only [List.getElem?_toArray, List.getElem?_cons_zero] at c4 c5
    have HR := Lib.hid hr
    have HM := Lib.hid hm
    have HR1 := Lib.hid r1
    have HR2 := Lib.hid r2
    have HLW := Lib.hid hlw
    have HK := Lib.hid hK
    have hD : w.heap.size ≤ D := by omega
    clear hr hm r1 r2 hn hlw HI1 hz1 hlow hbox hbw hsz hK
    gi_wp2
    gi_region
    all_goals
      gi_wp2
      have hK2 : W.drew.heap[D]? = some (.deferred (some [])) := HK.out
      refine ⟨(by simp), .inl ⟨_, _, rfl, run_takeDeferred hK2, ?_⟩⟩
      have hal := fun k cs t fr hk => put_alike (W := W.drew) (o' := .deferred none) hK2 rfl k cs t fr hk
      refine ⟨.tuple #[lv, .int .i64 (tot xs)], (by simp [results, Try.f21, go_sem]), lv, xs, rfl, HM.out, ?_, ?_, ?_⟩
      · obtain ⟨q1, q2⟩ := HR2.out
        refine ⟨q1, ?_⟩
        rcases q2 with q2 | ⟨g, c2, cur, hv, hg, hh, hr⟩
        · exact .inl q2
        · exact .inr ⟨g, c2, cur, hv, by omega, (hal g _ _ _ hh).trans hh, hr⟩
      · exact fun x q => own8_rows (W := W.drew) (HR.out x q) (fun k cs fr hk => hal k cs _ fr hk)
      · exact (HLW.out.drew).trans (put_below _ (by have := hD; omega))
end Go.Proofs.Ytfobdkhmffphmaa
