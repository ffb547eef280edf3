/-
  The walk of package ids' risen.
-/
import Derived.Test.YtlckjpjcfalfnaaIds4
namespace Go.Proofs.Ytlckjpjcfalfnaa
open Go.RowKit Go.Sort Go.Shelf
set_option linter.unusedSimpArgs false
set_option linter.unusedVariables false

shelf_lay_g SlLaysF0.n6 Slsf 6 at Try 56 as Try.sortIds
theorem ordI_lt (a b : I3) : ltOf ordI a b = ltI a b := by
  unfold ltOf ordI
  cases h1 : ltI a b
  · cases h2 : ltI b a <;> simp
  · simp
theorem ltI_swo : SWO (ltOf ordI) where
  irrefl x := by rw [ordI_lt]; exact ltI_irrefl x
  trans x y z h k := by rw [ordI_lt] at *; exact ltI_trans h k
  ntrans x y z h k := by
    rw [ordI_lt] at *
    rw [Bool.eq_false_iff, ne_eq, ltI_iff] at *
    omega
theorem cmpIds (blk off size : Nat) (w : World) : CmpLays Try.prog 57 #[] idE 3 ordI blk off size w :=
  fun _ _ _ _ x y => order_any x.1 x.2.1 x.2.2 y.1 y.2.1 y.2.2 _
/-- What was met so far. -/
structure Met (l : List I3) (left : Lit → Bool) (ss : List I3) : Prop where
  nodup : ss.Nodup
  ok : okL ss
  sub : ∀ x ∈ ss, x ∈ l
  left : ∀ x, okI x → left (kf x) = (hasI l x && !hasI ss x)
theorem Met.start {D : DataW Unit} {l : List I3} (h : SetIs D l) : Met l (Maps.has D) [] :=
  ⟨List.nodup_nil, (fun x h => by cases h), (fun x h => by cases h), (fun x hx => by rw [h.has x hx]; simp [hasI])⟩
theorem Met.step {l : List I3} {left : Lit → Bool} {ss : List I3} (h : Met l left ss) {x : I3} (hx : okI x) (hl : left (kf x) = true) : Met l (fun z => left z && !z.sameKey (kf x)) (ss ++ [x]) := by
  have h1 := h.left x hx
  rw [hl] at h1
  have h2 : hasI l x = true ∧ (!hasI ss x) = true := by simpa using h1.symm
  have hin : x ∈ l := (hasI_iff _ _).1 h2.1
  have hni : x ∉ ss := (hasI_false _ _).1 (by simpa using h2.2)
  refine ⟨?_, ?_, ?_, fun y hy => ?_⟩
  · rw [List.nodup_append]
    exact ⟨h.nodup, by simp, fun a ha b hb => by simp at hb; subst hb; exact fun e => hni (e ▸ ha)⟩
  · intro y hy
    rcases List.mem_append.1 hy with q | q
    · exact h.ok y q
    · simp at q; subst q; exact hx
  · intro y hy
    rcases List.mem_append.1 hy with q | q
    · exact h.sub y q
    · simp at q; subst q; exact hin
  · show (left (kf y) && !(kf y).sameKey (kf x)) = _
    rw [h.left y hy, kf_same_iff hy hx, hasI_app]
    have : hasI [x] y = decide (y = x) := by unfold hasI; simp [eq_comm]
    rw [this]
    cases hasI l y <;> cases hasI ss y <;> cases decide (y = x) <;> rfl
theorem Met.done {l : List I3} {left : Lit → Bool} {ss : List I3} (h : Met l left ss) (hl : ∀ kl, left kl = false) (ho : okL l) : ∀ x, x ∈ ss ↔ x ∈ l := by
  intro x
  refine ⟨h.sub x, fun hx => ?_⟩
  have h1 := h.left x (ho x hx)
  rw [hl, (hasI_iff _ _).2 hx] at h1
  exact (hasI_iff _ _).1 (by simpa using h1)
theorem sorted_cln {l ss : List I3} (hn : ss.Nodup) (hm : ∀ x, x ∈ ss ↔ x ∈ l) : (ss.mergeSort fun x y => !(ltOf ordI) y x) = clnI l := by
  have e : (fun x y : I3 => !(ltOf ordI) y x) = fun x y => !ltI y x := by funext x y; rw [ordI_lt]
  rw [e]
  have hp := List.mergeSort_perm ss (fun x y => !ltI y x)
  symm
  refine clnI_eq ?_ fun x => hp.mem_iff.trans (hm x)
  have h1 := List.pairwise_mergeSort (le := fun x y : I3 => !ltI y x) (fun a b c h k => by
      simp only [Bool.not_eq_true', Bool.eq_false_iff, ne_eq, ltI_iff] at *
      omega) (fun a b => by
      cases q : ltI b a
      · simp
      · simp [ltI_asymm q]) ss
  have h2 : (ss.mergeSort fun x y => !ltI y x).Nodup := hp.nodup_iff.2 hn
  exact (List.Pairwise.and h1 h2).imp (fun {a b} q => by
    have q1 : ltI b a = false := by simpa using q.1
    cases k : ltI a b
    · exact absurd (ltI_total k q1) q.2
    · rfl)
def RowP (l : List I3) (w : World) (e : Ending) (w' : World) : Prop := ∃ v, Hid (e = .returned v) ∧ IK.Own w' w.heap.size v l ∧ Below w.heap.size w w'
set_option maxRecDepth 100000 in
set_option maxHeartbeats 4000000 in
theorem risen_any (B : Nat) (l : List I3) (w : World) (hs : SetAt w B l) (ol : okL l) :
    Calls Try.prog 42 #[.map (some B)] w (RowP (clnI l) w) := by
  obtain ⟨D, m, hm, hM, hD⟩ := hs
  have HM := Lib.hid hM
  have HD := Lib.hid hD
  have HOL := Lib.hid ol
  have HBL := Lib.hid hM.lt
  have hsz : Maps.size D ≤ 5000 := Nat.le_trans hM.size_le hm
  obtain ⟨C, hC⟩ : ∃ C, Maps.size D = C := ⟨_, rfl⟩
  have HC := Lib.hid hC
  rw [hC] at hsz
  clear hM hD ol hC hm
  go_enter Try.func42, Try.ntmps42
  go_wp2_with (first
    | (at_len; refine wpList_len_own _ rfl _ 70 rfl 25 71 Try.underlying70 unitElem B m D rfl HM.out ?_; rw [HC.out])
    | refine IK.make rfl _ _ rfl rfl C rfl (by omega) w.heap.size (Nat.le_refl _) ?_)
  intro v1 w1 hO1 hb1 hne1 hg1
  have HO1 := Lib.hid hO1
  have HB1 := Lib.hid hb1
  have hM1 := HM.out.kept (row := none) hg1 (by simp)
  have HM1 := Lib.hid hM1
  have HNE1 := Lib.hid hne1
  clear hO1 hb1 hne1 hg1 hM1
  go_wp2_with (at_range; refine wpList_range_own _ rfl _ 70 rfl 25 71 idLaw Try.underlying70 unitElem B m D rfl HM1.out ?_)
  intro w2 hr2 hg2 hz2
  have HR2 : Hid (w2.ranges (H := Unit) Try.prog 25 unitElem B w1.heap.size m D (Maps.has D) C) := Lib.hid (by have h := hr2; rw [HC.out] at h; exact h)
  have hb2 : Below w1.heap.size w1 w2 := (Below.refl _ _).grown hg2 (Nat.le_refl _) (fun k e => by cases e)
  have HB2 : Hid (Below w.heap.size w w2) := Lib.hid (HB1.out.trans (hb2.mono HB1.out.size))
  have HO2 := Lib.hid (HO1.out.below hb2)
  have HZ : Hid (w.heap.size ≤ w1.heap.size) := Lib.hid HB1.out.size
  clear hr2 hg2 hz2 hb2 HM1 HB1 HO1
  go_wp2_with fail
  go_loopw [3] (fun sl wr => ∃ (v : Value) (left : Lit → Bool) (cnt : Nat) (ss : List I3), v = sl ∧ Hid (wr.ranges (H := Unit) Try.prog 25 unitElem B w1.heap.size m D left cnt) ∧ Hid (IK.Own wr w.heap.size v ss) ∧ Hid (v ≠ .slice none 0 0) ∧ Hid (Met l left ss) ∧ Hid (ss.length + cnt ≤ C) ∧ Hid (Below w.heap.size w wr)) (fun _ wr => wr.rangeLeft B w1.heap.size)
  case atStart => exact ⟨_, _, C, [], rfl, HR2, HO2, HNE1, Lib.hid (Met.start HD.out), Lib.hid (by simp), HB2⟩
  case round =>
    clear HR2 HB2 HO2 HNE1
    obtain ⟨v, left, cnt, ss, rfl, hR, hO, hNE, hMet, hcnt, hB⟩ := hrel
    go_wp2_with (at_next; refine wpList_next_ranges _ rfl _ rfl 25 idLaw unitElem idV (fun _ : Unit => Value.agg #[]) (fun key kl hk => by obtain ⟨x, hx, _⟩ := idKey_inv key kl hk; exact ⟨x, hx⟩) (fun v y hv => ⟨(), (unitElem_inv hv).1⟩) B w1.heap.size m _ _ _ rfl hR.out ?_ ?_)
    · intro hc0 hl0
      obtain ⟨ad, cc, hve⟩ := hO.out.slice
      have hO2 := hO.out
      rw [hve] at hO2
      have hnn := hNE.out
      obtain ⟨g, rfl⟩ : ∃ g, ad = some ⟨g, 0, none⟩ := by
        rcases hO2.2 with ⟨h0, _⟩ | ⟨g, cap, cur, h0, _⟩
        · exact absurd (hve.trans h0) hnn
        · simp only [Value.slice.injEq] at h0
          exact ⟨g, h0.1⟩
      obtain ⟨hH, hgl, _⟩ := hO2.holds
      have hmem := hMet.out.done hl0 HOL.out
      have hsr := sorted_cln hMet.out.nodup hmem
      have hlen : (clnI l).length = ss.length := by rw [← hsr]; simp
      have eg : ∀ args w, (callFunc 57 args).run Try.prog w = .ok (.enter 57 args) w := enters_of Try.func57 (by kernel_rfl) rfl
      have hcon := AnyQ.slices_SortFunc_total Try.sortIds 3 Try.isAgg25 Try.sizeOf25 idE (fun _ => rfl) (fun x v h => IK.one x v h) ordI ltI_swo 57 #[] g 0 cc ss.toArray wr eg (cmpIds g 0 _ wr) hH hgl (by have := hcnt.out; simp; omega) (fun x y h k => by rw [ordI_lt] at h k; exact ltI_total h k)
      rw [show ss.toArray.toList = ss from rfl, hsr] at hcon
      obtain ⟨M, hM⟩ : ∃ M, ss.length = M := ⟨_, rfl⟩
      change Calls Try.prog 56 #[.slice (some ⟨g, 0, none⟩) ss.length cc, .func (.func 57) #[] #[]] wr _ at hcon
      rw [hM] at hcon hve
      have HCON := Lib.hid hcon
      have HS : Hid (∀ mm os, IK.Own (sortWorldK idE 3 wr g 0 mm (clnI l).toArray os) w.heap.size (.slice (some ⟨g, 0, none⟩) M cc) (clnI l) ∧ wr.grownBy (sortWorldK idE 3 wr g 0 mm (clnI l).toArray os) (some g)) := Lib.hid (fun mm os => by
        rw [hM] at hO2
        exact hO2.sorted (by rw [hlen]) mm os)
      have HGB : Hid (w.heap.size ≤ g) := Lib.hid (hO2.from g (by simp [Value.ownBlock]))
      subst hve
      clear hcon hO2 hnn hH hgl hmem hsr hlen hM hO hR hMet hcnt hNE hl0 hc0 HM HD
      go_wp2_with (go_at_call 56; refine HCON.out.mono ?_; rintro e w' ⟨rfl, nn, os, rfl⟩)
      go_ret
      exact ⟨_, Lib.hid rfl, (HS.out nn os).1, hB.out.grown (HS.out nn os).2 hB.out.size (fun j hj => by cases hj; exact HGB.out)⟩
    · intro x1 x2 x3 kl yd yp w3 cnt3 hkey hlk hv hat hrg3 hlt hg3 hs3 hen
      have hxo : okI (x1, x2, x3) := by
        obtain ⟨x', ex, hxo⟩ := idKey_inv _ _ hkey
        simp only [Value.agg.injEq, Array.mk.injEq, List.cons.injEq, Value.int.injEq, true_and, and_true] at ex
        have e : ((x1, x2, x3) : I3) = x' := i3_ext ex.1 ex.2.1 ex.2.2
        rw [e]
        exact hxo
      obtain rfl : kl = kf (x1, x2, x3) := Option.some.inj (hkey.symm.trans (kf_key hxo))
      have hMet3 := Lib.hid (hMet.out.step hxo hlk)
      have hO3 : Hid (IK.Own w3 w.heap.size v ss) := Lib.hid (hO.out.keepB fun k hk => hg3.block k (hO.out.blk k hk).1 (by
        have := row_ne_iter hO.out hR.out
        rw [hk] at this
        exact fun e => this e.symm))
      have hB3 : Hid (Below w.heap.size w w3) := Lib.hid (hB.out.grown hg3 hB.out.size (fun j hj => by cases hj; exact HZ.out))
      have hR3 := Lib.hid hrg3
      have hLT : Hid (cnt3 < cnt) := Lib.hid hlt
      have hLE := Lib.hid hR.out.left_eq
      have hln : ss.length + 1 ≤ 1000000 := by have := hcnt.out; omega
      have hz3 : w.heap.size ≤ w3.heap.size := hB3.out.size
      have hnv := hNE
      clear hkey hlk hv hat hrg3 hlt hg3 hs3 hR hO hMet hB hNE
      go_wp2_with (refine IK.app rfl _ _ rfl w.heap.size v ss rfl ?own _ [(x1, x2, x3)] rfl ?rd hln ?bs ?_)
      case own => exact hO3.out.below (((Below.refl _ _).alloc (Nat.le_refl _) _).alloc (by simp) _)
      case rd => exact IK.rd_boxAt (x1, x2, x3) _ 1 _ _ (by simp)
      case bs => simp; omega
      intro v4 w4 ho4 hb4 hg4 hn4
      have hO4 := Lib.hid ho4
      have hr3 := (hR3.out.alloc (.cells #[.int .i64 x1, .int .i64 x2, .int .i64 x3] 25)).alloc (.cells #[.int .i64 x1, .int .i64 x2, .int .i64 x3] 25)
      have ho3' := hO3.out.below (((Below.refl _ _).alloc (Nat.le_refl _) (.cells #[.int .i64 x1, .int .i64 x2, .int .i64 x3] 25)).alloc (by simp) (.cells #[.int .i64 x1, .int .i64 x2, .int .i64 x3] 25))
      have hR4 := Lib.hid (hr3.kept hg4 (row_ne_low ho3' HBL.out) (row_ne_iter ho3' hr3))
      have hN4 : Hid (v4 ≠ .slice none 0 0) := Lib.hid hn4
      have hB4 : Hid (Below w.heap.size w w4) := Lib.hid (((hB3.out.alloc hz3 _).alloc (by simp; omega) _).trans hb4)
      have hC4 : Hid ((ss ++ [(x1, x2, x3)]).length + cnt3 ≤ C) := Lib.hid (by have := hcnt.out; have := hLT.out; simp; omega)
      clear ho4 hb4 hg4 hn4 hr3 ho3' hO3 hB3 hR3 hcnt hln hz3 hnv hxo
      go_wp2
      go_roundw
      case rel => exact ⟨v4, _, cnt3, _, rfl, hR4, hO4, hN4, hMet3, hC4, hB4⟩
      case measure => rw [hR4.out.left_eq, hLE.out]; exact hLT.out
end Go.Proofs.Ytlckjpjcfalfnaa
