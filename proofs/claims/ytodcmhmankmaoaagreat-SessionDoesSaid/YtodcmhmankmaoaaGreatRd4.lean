/-
 The document's directory: an entry put at its place.
-/
import Derived.Test.YtodcmhmankmaoaaGreatSht
import Derived.Test.YtodcmhmankmaoaaGreatRdF
import Derived.Deep.RegionLaw
namespace Go.Proofs.YtodcmhmankmaoaaGreat
open Go.RowKit
set_option linter.unusedSimpArgs false
set_option linter.unusedVariables false
set_option maxRecDepth 100000

/-- Entries gone through up to the k-th, and the new one put in, if it is. -/
structure PI (l : List E3) (e : E3) (k : Nat) (done : Bool) (S : List E3) : Prop where
 no : done = false → S = l.take k ∧ ∀ x ∈ l.take k, lsr e.1 x.1 = false
 yes : done = true → ∃ i x, i < k ∧ l[i]? = some x ∧ lsr e.1 x.1 = true ∧ S = l.take i ++ e :: (l.take k).drop i ∧ ∀ x ∈ l.take i, lsr e.1 x.1 = false
theorem takeS {α : Type} {l : List α} {k : Nat} {x : α} (h : l[k]? = some x) : l.take (k + 1) = l.take k ++ [x] := by
 obtain ⟨hk, e⟩ := List.getElem?_eq_some_iff.1 h
 rw [List.take_succ_eq_append_getElem hk, e]
theorem PI.start (l : List E3) (e : E3) : PI l e 0 false [] := ⟨fun _ => ⟨by simp, fun x hx => by simp at hx⟩, fun h => by cases h⟩
theorem PI.stay {l S : List E3} {e x : E3} {k : Nat} (h : PI l e k false S) (hl : lsr e.1 x.1 = false) (hx : l[k]? = some x) : PI l e (k + 1) false (S ++ [x]) := by
 obtain ⟨h1, h2⟩ := h.no rfl
 refine ⟨fun _ => ⟨by rw [takeS hx, h1], fun y hy => ?_⟩, fun q => by cases q⟩
 rw [takeS hx, List.mem_append] at hy
 rcases hy with q | q
 ·exact h2 y q
 ·simp at q
  subst q
  exact hl
theorem PI.here {l S : List E3} {e x : E3} {k : Nat} (h : PI l e k false S) (hl : lsr e.1 x.1 = true) (hx : l[k]? = some x) : PI l e (k + 1) true (S ++ [e, x]) := by
 obtain ⟨h1, h2⟩ := h.no rfl
 have hk : k < l.length := (List.getElem?_eq_some_iff.1 hx).1
 refine ⟨(fun q => by cases q), fun _ => ⟨k, x, Nat.lt_succ_self _, hx, hl, ?_, h2⟩⟩
 rw [takeS hx, h1, List.drop_append_of_le_length (by rw [List.length_take]; omega), List.drop_of_length_le (by rw [List.length_take]; omega)]
 simp
theorem PI.on {l S : List E3} {e x : E3} {k : Nat} (h : PI l e k true S) (hx : l[k]? = some x) : PI l e (k + 1) true (S ++ [x]) := by
 obtain ⟨i, y, h1, h2, h3, h4, h5⟩ := h.yes rfl
 have hk : k < l.length := (List.getElem?_eq_some_iff.1 hx).1
 refine ⟨(fun q => by cases q), fun _ => ⟨i, y, by omega, h2, h3, ?_, h5⟩⟩
 rw [takeS hx, h4, List.drop_append_of_le_length (by rw [List.length_take]; omega)]
 simp
theorem PI.len {l S : List E3} {e : E3} {k : Nat} {d : Bool} (h : PI l e k d S) : S.length ≤ k + 1 := by
 cases d with
 | false =>
  rw [(h.no rfl).1]
  have := List.length_take_le k l
  omega
 | true =>
  obtain ⟨i, y, h1, h2, h3, h4, h5⟩ := h.yes rfl
  rw [h4, List.length_append, List.length_cons, List.length_drop, List.length_take, List.length_take]
  omega
theorem PI.end' {l S : List E3} {p v : ByteArray} {n : Int} {d : Bool} (h : PI l (p, v, n) l.length d S) (hr : RisesD l) (hk : okKeys l) (hp : okP p) (hn : ∀ x ∈ l, x.1 ≠ p) : (if d then S else S ++ [(p, v, n)]) = putD l p v n := by
 have lt_of : ∀ x ∈ l, lsr p x.1 = false → lsr x.1 p = true := fun x hx q => by rw [lsr_tot (hk x hx) hp (hn x hx), q]; rfl
 unfold putD
 cases d with
 | false =>
  obtain ⟨h1, h2⟩ := h.no rfl
  rw [List.take_length] at h1 h2
  have e1 : l.filter (fun e => lsr e.1 p) = l := List.filter_eq_self.2 fun x hx => lt_of x hx (h2 x hx)
  have e2 : l.filter (fun e => lsr p e.1) = [] := List.filter_eq_nil_iff.2 fun x hx => by rw [h2 x hx]; simp
  rw [e1, e2, h1]
  rfl
 | true =>
  obtain ⟨i, y, h1, h2, h3, h4, h5⟩ := h.yes rfl
  rw [List.take_length] at h4
  obtain ⟨hi, hy⟩ := List.getElem?_eq_some_iff.1 h2
  have hd : ∀ x ∈ l.drop i, lsr p x.1 = true := fun x hx => by
   obtain ⟨j, hj⟩ := List.mem_iff_getElem?.1 hx
   rw [List.getElem?_drop] at hj
   obtain ⟨hl, ej⟩ := List.getElem?_eq_some_iff.1 hj
   by_cases e : j = 0
   ·subst e
    rw [← ej]
    simp only [Nat.add_zero]
    rw [hy]
    exact h3
   ·have q := List.pairwise_iff_getElem.1 hr i (i + j) hi hl (by omega)
    rw [hy, ej] at q
    exact lsr_trans h3 q
  have e0 : l = l.take i ++ l.drop i := (List.take_append_drop i l).symm
  have e1 : l.filter (fun e => lsr e.1 p) = l.take i := by
   rw [e0, List.filter_append, ← e0, List.filter_eq_self.2 fun x hx => lt_of x (List.mem_of_mem_take hx) (h5 x hx), List.filter_eq_nil_iff.2 fun x hx => by rw [lsr_asym (hd x hx)]; simp]
   simp
  have e2 : l.filter (fun e => lsr p e.1) = l.drop i := by
   conv => lhs; rw [e0]
   rw [List.filter_append, List.filter_eq_nil_iff.2 fun x hx => by rw [h5 x hx]; simp, List.filter_eq_self.2 fun x hx => hd x hx]
   rfl
  rw [e1, e2]
  exact h4
/-- The document's directory at a place: its row is one of its own. -/
structure RD (w : World) (base r : Nat) (T : TypeId) (cs : List Value) (v : Value) (l : List E3) : Prop where
 bk : Bk w r T (v :: cs)
 own : EK.Own w base v l
 lt : r < base
/-- What a command leaves: the directory, and all but it as it was. -/
structure RDP (w : World) (base r : Nat) (T : TypeId) (cs : List Value) (v : Value) (l' : List E3) (w' : World) : Prop where
 ex : ∃ v', RD w' base r T cs v' l' ∧ ∀ q, v'.ownBlock = some q → v.ownBlock = some q ∨ w.heap.size ≤ q
 fr : Fr (fun k => k = r ∨ v.ownBlock = some k) w w'
theorem own_setA {P : Program} {α : Type} {K : Knd P α} {w : World} {base : Nat} {v : Value} {l : List α} (h : K.Own w base v l) {b : Nat} (hb : b < base) (o : Nat) (u : Value) : K.Own (w.setCell ⟨b, o, none⟩ u) base v l :=
 h.keepB fun k hk => Below.heap_setCell _ _ _ k (by have := h.from k hk; show k ≠ b; omega)
set_option maxHeartbeats 8000000 in
theorem rput_any {w : World} {base r : Nat} {T : TypeId} {cs : List Value} {v0 : Value} {l : List E3} (h : RD w base r T cs v0 l) (hbw : base ≤ w.heap.size) (hl : l.length ≤ 1000) (hr : RisesD l) (hk : okKeys l) (p vv : ByteArray) (nn : Int) (hp : okP p) (hno : ∀ x ∈ l, x.1 ≠ p) (hz : ∀ x ∈ l, x.1.size ≤ 1000) (hpz : p.size ≤ 1000) :
  Calls Tryz.prog 40 #[.pointer (some ⟨r, 0, none⟩), .agg #[.string p, .string vv, .int .i64 nn]] w fun e w' => Hid (e = .returned (.tuple #[])) ∧ Hid (RDP w base r T cs v0 (putD l p vv nn) w') := by
 obtain ⟨a, c, ev0⟩ := h.own.slice
 obtain ⟨n, hn⟩ : ∃ q, l.length = q := ⟨_, rfl⟩
 rw [hn] at ev0
 subst ev0
 obtain ⟨b0, hb0⟩ : ∃ q, w.heap.size = q := ⟨_, rfl⟩
 obtain ⟨W0, hW0⟩ : ∃ q, w.alloc (.cells #[.string p, .string vv, .int .i64 nn] 49) = q := ⟨_, rfl⟩
 have HBX : Hid (Bk W0 b0 49 [.string p, .string vv, .int .i64 nn]) := Lib.hid (by rw [← hW0, ← hb0]; exact Bk.new w _ [.string p, .string vv, .int .i64 nn])
 have HB0 : Hid (Below w.heap.size w W0) := Lib.hid (by rw [← hW0]; exact (Below.refl _ _).alloc (Nat.le_refl _) _)
 have HZ0 : Hid (W0.heap.size = w.heap.size + 1) := Lib.hid (by rw [← hW0]; simp)
 have HSz : Hid (∀ wq, Below (w.heap.size + 1) W0 wq → w.heap.size + 1 ≤ wq.heap.size) := Lib.hid fun wq hq => Nat.le_trans (by rw [← HZ0.out]; exact Nat.le_refl _) hq.size
 have HRD := Lib.hid h
 have HBk : Hid (∀ wq, Below (w.heap.size + 1) W0 wq → Bk wq r T (.slice a n c :: cs)) := Lib.hid fun wq hq => (HRD.out.bk.below HB0.out).on hq (by have := HRD.out.lt; omega)
 have HCr : Hid (∀ wq, Below (w.heap.size + 1) W0 wq → wq.cell? ⟨b0, 0, none⟩ = some (.string p) ∧ wq.cell? ⟨b0, 1, none⟩ = some (.string vv) ∧ wq.cell? ⟨b0, 2, none⟩ = some (.int .i64 nn) ∧ wq.cell? ⟨r, 0, none⟩ = some (.slice a n c)) := Lib.hid fun wq hq => by
  have q := HBX.out.on hq (by omega)
  exact ⟨q.cell 0, q.cell 1, q.cell 2, (HBk.out wq hq).cell 0⟩
 have HRr : Hid (∀ wq, Below (w.heap.size + 1) W0 wq → EK.Rd wq (.slice a n c) l) := Lib.hid fun wq hq => ((HRD.out.own.below HB0.out).keepB fun k hk => hq.block k (by have := (HRD.out.own.blk k hk).1; omega)).rd
 have HN := Lib.hid hn
 have HRi := Lib.hid hr
 have HKo := Lib.hid hk
 have HPo := Lib.hid hp
 have HNo := Lib.hid hno
 have HZl := Lib.hid hz
 have HP := Lib.hid hpz
 have Hbw := Lib.hid hbw
 have hn1000 : n ≤ 1000 := by omega
 clear h hn hr hk hp hno hz hpz hl hbw
 obtain ⟨tb0, tb1, tb2, tr⟩ := HCr.out W0 (Below.refl _ _)
 go_enter Tryz.func40, Tryz.ntmps40
 go_wp2_with fail
 try rw [hW0]
 try rw [hb0]
 clear hW0 hb0 tb0 tb1 tb2 tr
 go_loopw [4, 5, 6] (fun o d i wr => ∃ (k : Nat) (v : Value) (done : Bool) (S : List E3), k ≤ n ∧ v = o ∧ d = .bool done ∧ i = .int .i64 k ∧ Hid (EK.Own wr (w.heap.size + 1) v S) ∧ Hid (PI l (p, vv, nn) k done S) ∧ Hid (Below (w.heap.size + 1) W0 wr)) (fun _ _ i _ => n - (intOf i).toNat)
 case atStart => exact ⟨0, _, false, [], Nat.zero_le _, rfl, rfl, rfl, Lib.hid (Knd.Own.nil _ _), Lib.hid (PI.start _ _), Lib.hid (Below.refl _ _)⟩
 case round =>
  obtain ⟨k, v, done, S, hk, rfl, rfl, rfl, HO, HI, HB⟩ := hrel
  by_cases hlt : k < n
  ·have kn1 : (k : Int) < (n : Int) := by omega
   have kn2 : decide ((k : Int) < (n : Int)) = true := decide_eq_true kn1
   have kn3 : decide (k < n) = true := decide_eq_true (by omega)
   obtain ⟨e00, g, off, ha, hg, u0, u1, u2, hkl⟩ := entCell (HRr.out _ HB.out) k hlt
   obtain ⟨⟨ep, ev, en⟩, hE⟩ : ∃ E, l.getD k EK.d = E := ⟨_, rfl⟩
   rw [hE] at u0 u1 u2
   simp only at u0 u1 u2
   have HLk : Hid (l[k]? = some (ep, ev, en)) := Lib.hid (by rw [← hE]; simp [List.getD, hkl])
   have HSZ : Hid (ep.size ≤ 1000) := Lib.hid (HZl.out (ep, ev, en) (List.mem_iff_getElem?.2 ⟨k, HLk.out⟩))
   subst ha
   have HCe : Hid (∀ wq, Below (w.heap.size + 1) W0 wq → wq.cell? ⟨g, off + k * 3, none⟩ = some (.string ep) ∧ wq.cell? ⟨g, off + k * 3 + 1, none⟩ = some (.string ev) ∧ wq.cell? ⟨g, off + k * 3 + 2, none⟩ = some (.int .i64 en)) := Lib.hid fun wq hq => by
    obtain ⟨-, g', off', ha', -, w0, w1, w2, -⟩ := entCell (HRr.out wq hq) k hlt
    simp only [Option.some.injEq, Addr.mk.injEq, and_true] at ha'
    obtain ⟨rfl, rfl⟩ := ha'
    rw [hE] at w0 w1 w2
    exact ⟨w0, w1, w2⟩
   have HCb : Hid (∀ wq, Below (w.heap.size + 1) W0 wq → wq.cell? ⟨b0, 1, none⟩ = some (.string vv) ∧ wq.cell? ⟨b0, 2, none⟩ = some (.int .i64 nn)) := Lib.hid fun wq hq => ⟨(HCr.out wq hq).2.1, (HCr.out wq hq).2.2.1⟩
   have HC6 : Hid (∀ wq, Below (w.heap.size + 1) W0 wq → wq.cell? ⟨b0, 0, none⟩ = some (.string p) ∧ wq.cell? ⟨r, 0, none⟩ = some (.slice (some ⟨g, off, none⟩) n c) ∧ wq.cell? ⟨g, off + k * 3, none⟩ = some (.string ep)) := Lib.hid fun wq hq => ⟨(HCr.out wq hq).1, (HCr.out wq hq).2.2.2, (HCe.out wq hq).1⟩
   have hSl := HI.out.len
   have HL : Hid (S.length + 1 ≤ 1000000) := Lib.hid (by omega)
   have HL2 : Hid ((S ++ [(p, vv, nn)]).length + 1 ≤ 1000000) := Lib.hid (by rw [List.length_append]; simp; omega)
   obtain ⟨tr0, tr1, -⟩ := HC6.out _ HB.out
   clear e00 hg u0 u1 u2 hkl hE hSl
   go_wp2_with fail
   cases done with
   | true =>
    have HI2 := Lib.hid (HI.out.on HLk.out)
    clear HI tr0 tr1
    refine wp_region_held_drew (S := (fun w' => w'.cell? ⟨b0, 0, none⟩ = some (.string p) ∧ w'.cell? ⟨r, 0, none⟩ = some (.slice (some ⟨g, off, none⟩) n c) ∧ w'.cell? ⟨g, off + k * 3, none⟩ = some (.string ep))) (by kernel_rfl) ?_ (fun hHeld => ?_)
    ·((first
 | exact HC6.out _ hbl
 | exact HC6.out _ HB.out
 | exact HC6.out _ HB.out.drew
 | fail))
    (refine tkA 0 (v := ?_) ?_ ?_; rotate_left; focus (intro w hSw; (try dsimp only at hSw); go_simp; try rfl)); try simp only [Act.put, gA1, gA2, gA3, gA4, gA5, gA6]
    (refine tkA 1 (v := ?_) ?_ ?_; rotate_left; focus (intro w hSw; (try dsimp only at hSw); go_simp; try rfl)); try simp only [Act.put, gA1, gA2, gA3, gA4, gA5, gA6]
    (refine tkA 2 (v := ?_) ?_ ?_; rotate_left; focus (intro w hSw; (try dsimp only at hSw); go_simp; try rfl)); try simp only [Act.put, gA1, gA2, gA3, gA4, gA5, gA6]
    refine utA 3 ?_; try simp only [Act.put, gA1, gA2, gA3, gA4, gA5, gA6]
    refine utA 4 ?_; try simp only [Act.put, gA1, gA2, gA3, gA4, gA5, gA6]
    refine utA 5 ?_; try simp only [Act.put, gA1, gA2, gA3, gA4, gA5, gA6]
    refine utA 6 ?_; try simp only [Act.put, gA1, gA2, gA3, gA4, gA5, gA6]
    refine utA 7 ?_; try simp only [Act.put, gA1, gA2, gA3, gA4, gA5, gA6]
    refine utA 8 ?_; try simp only [Act.put, gA1, gA2, gA3, gA4, gA5, gA6]
    refine utA 9 ?_; try simp only [Act.put, gA1, gA2, gA3, gA4, gA5, gA6]
    refine utA 10 ?_; try simp only [Act.put, gA1, gA2, gA3, gA4, gA5, gA6]
    refine utA 11 ?_; try simp only [Act.put, gA1, gA2, gA3, gA4, gA5, gA6]
    refine utA 12 ?_; try simp only [Act.put, gA1, gA2, gA3, gA4, gA5, gA6]
    refine utA 13 ?_; try simp only [Act.put, gA1, gA2, gA3, gA4, gA5, gA6]
    (refine tkA 14 (v := ?_) ?_ ?_; rotate_left; focus (intro w hSw; (try dsimp only at hSw); go_simp; try rfl)); try simp only [Act.put, gA1, gA2, gA3, gA4, gA5, gA6]
    refine wpAnyH_done (by kernel_rfl) ?_ _
    have HBd := Lib.hid HB.out.drew
    have HOd : Hid (EK.Own wr.drew (w.heap.size + 1) v S) := Lib.hid (HO.out.below (Below.refl _ _).drew)
    obtain ⟨x0, y0, -⟩ := HC6.out _ HBd.out
    obtain ⟨z0, z1, z2⟩ := HCe.out _ HBd.out
    obtain ⟨t1, t2⟩ := HCb.out _ HBd.out
    have hzz := HSz.out _ HBd.out
    clear HB HO
    generalize wr.drew = wd at *
    go_wp2_with (refine EK.app rfl _ _ rfl (w.heap.size + 1) v S rfl ?own _ [(ep, ev, en)] rfl ?rd HL.out ?bs ?_)
    case own => exact HOd.out.below ((Below.refl _ _).alloc (Nat.le_refl _) _)
    case rd => exact EK.rd_boxAt (ep, ev, en) _ 1 _ _ (by simp)
    case bs => first | omega | (simp; omega) | fail
    intro v2 w2 ho hb _ _
    have HOw2 := Lib.hid ho
    have HBw2 : Hid (Below (w.heap.size + 1) W0 w2) := Lib.hid ((HBd.out.alloc hzz _).trans hb)
    clear ho hb x0 y0 z0 z1 z2 t1 t2 hzz
    go_wp2_with fail
    go_roundw
    case rel => exact ⟨k + 1, v2, true, _, by omega, rfl, rfl, by go_num, HOw2, HI2, HBw2⟩
    case measure => simp [intOf]; omega
   | false =>
    obtain ⟨ll, hll⟩ : ∃ q, lsr p ep = q := ⟨_, rfl⟩
    have HLe : Hid (lsr (p, vv, nn).1 (ep, ev, en).1 = ll) := Lib.hid hll
    clear tr0 tr1
    refine wp_region_held_drew (S := (fun w' => w'.cell? ⟨b0, 0, none⟩ = some (.string p) ∧ w'.cell? ⟨r, 0, none⟩ = some (.slice (some ⟨g, off, none⟩) n c) ∧ w'.cell? ⟨g, off + k * 3, none⟩ = some (.string ep))) (by kernel_rfl) ?_ (fun hHeld => ?_)
    ·((first
 | exact HC6.out _ hbl
 | exact HC6.out _ HB.out
 | exact HC6.out _ HB.out.drew
 | fail))
    (refine tkA 0 (v := ?_) ?_ ?_; rotate_left; focus (intro w hSw; (try dsimp only at hSw); go_simp; try rfl)); try simp only [Act.put, gA1, gA2, gA3, gA4, gA5, gA6]
    (refine tkA 1 (v := ?_) ?_ ?_; rotate_left; focus (intro w hSw; (try dsimp only at hSw); go_simp; try rfl)); try simp only [Act.put, gA1, gA2, gA3, gA4, gA5, gA6]
    (refine tkA 2 (v := ?_) ?_ ?_; rotate_left; focus (intro w hSw; (try dsimp only at hSw); go_simp; try rfl)); try simp only [Act.put, gA1, gA2, gA3, gA4, gA5, gA6]
    (refine tkA 3 (v := ?_) ?_ ?_; rotate_left; focus (intro w hSw; (try dsimp only at hSw); go_simp; try rfl)); try simp only [Act.put, gA1, gA2, gA3, gA4, gA5, gA6]
    (refine tkA 4 (v := ?_) ?_ ?_; rotate_left; focus (intro w hSw; (try dsimp only at hSw); go_simp; try rfl)); try simp only [Act.put, gA1, gA2, gA3, gA4, gA5, gA6]
    (refine tkA 5 (v := ?_) ?_ ?_; rotate_left; focus (intro w hSw; (try dsimp only at hSw); go_simp; try rfl)); try simp only [Act.put, gA1, gA2, gA3, gA4, gA5, gA6]
    (refine tkA 6 (v := ?_) ?_ ?_; rotate_left; focus (intro w hSw; (try dsimp only at hSw); go_simp; try rfl)); try simp only [Act.put, gA1, gA2, gA3, gA4, gA5, gA6]
    (refine tkA 7 (v := ?_) ?_ ?_; rotate_left; focus (intro w hSw; (try dsimp only at hSw); go_simp; try rfl)); try simp only [Act.put, gA1, gA2, gA3, gA4, gA5, gA6]
    (refine tkA 8 (v := ?_) ?_ ?_; rotate_left; focus (intro w hSw; (try dsimp only at hSw); go_simp; try rfl)); try simp only [Act.put, gA1, gA2, gA3, gA4, gA5, gA6]
    (refine tkA 9 (v := ?_) ?_ ?_; rotate_left; focus (intro w hSw; (try dsimp only at hSw); go_simp; try rfl)); try simp only [Act.put, gA1, gA2, gA3, gA4, gA5, gA6]
    (refine tkA 10 (v := ?_) ?_ ?_; rotate_left; focus (intro w hSw; (try dsimp only at hSw); go_simp; try rfl)); try simp only [Act.put, gA1, gA2, gA3, gA4, gA5, gA6]
    (refine tkA 11 (v := ?_) ?_ ?_; rotate_left; focus (intro w hSw; (try dsimp only at hSw); go_simp; try rfl)); try simp only [Act.put, gA1, gA2, gA3, gA4, gA5, gA6]
    (refine tkA 12 (v := ?_) ?_ ?_; rotate_left; focus (intro w hSw; (try dsimp only at hSw); go_simp; try rfl)); try simp only [Act.put, gA1, gA2, gA3, gA4, gA5, gA6]
    refine wpAnyH_ready (rs := [13]) (by kernel_rfl) (by simp) ?_
    refine (AllReadyH.cons rfl (fun K hK => ?_) AllReadyH.nil)
    go_simp
    (go_at_call 32; refine (rless_any p ep _ HP.out HSZ.out).mono ?_; rintro e wl ⟨rfl, hb⟩; have hbl : Below (w.heap.size + 1) W0 wl := HB.out.drew.trans (hb.mono (HSz.out _ HB.out.drew)); have hbr : Below wr.heap.size wr wl := (Below.refl wr.heap.size wr).drew.trans (hb.mono (Nat.le_refl _)); rw [hll]; clear hb)
    refine hK.out _ _ ?_ (fun hHeld => ?_)
    ·((first
 | exact HC6.out _ hbl
 | exact HC6.out _ HB.out
 | exact HC6.out _ HB.out.drew
 | fail))
    clear hK K
    try simp only [Act.put, gA1, gA2, gA3, gA4, gA5, gA6]
    (refine tkA 14 (v := ?_) ?_ ?_; rotate_left; focus (intro w hSw; (try dsimp only at hSw); go_simp; try rfl)); try simp only [Act.put, gA1, gA2, gA3, gA4, gA5, gA6]
    refine wpAnyH_done (by kernel_rfl) ?_ _
    have HBd := Lib.hid hbl
    have HOd : Hid (EK.Own wl (w.heap.size + 1) v S) := Lib.hid (HO.out.below hbr)
    obtain ⟨x0, y0, -⟩ := HC6.out _ HBd.out
    obtain ⟨z0, z1, z2⟩ := HCe.out _ HBd.out
    obtain ⟨t1, t2⟩ := HCb.out _ HBd.out
    have hzz := HSz.out _ HBd.out
    cases ll with
    | false =>
     have HI2 := Lib.hid (HI.out.stay HLe.out HLk.out)
     clear HB HO HI hbl hbr
     go_wp2_with (refine EK.app rfl _ _ rfl (w.heap.size + 1) v S rfl ?own _ [(ep, ev, en)] rfl ?rd HL.out ?bs ?_)
     case own => exact HOd.out.below ((Below.refl _ _).alloc (Nat.le_refl _) _)
     case rd => exact EK.rd_boxAt (ep, ev, en) _ 1 _ _ (by simp)
     case bs => first | omega | (simp; omega) | fail
     intro v2 w2 ho hb _ _
     have HOw2 := Lib.hid ho
     have HBw2 : Hid (Below (w.heap.size + 1) W0 w2) := Lib.hid ((HBd.out.alloc hzz _).trans hb)
     clear ho hb x0 y0 z0 z1 z2 t1 t2 hzz
     go_wp2_with fail
     go_roundw
     case rel => exact ⟨k + 1, v2, false, _, by omega, rfl, rfl, by go_num, HOw2, HI2, HBw2⟩
     case measure => simp [intOf]; omega
    | true =>
     have HI2 := Lib.hid (HI.out.here HLe.out HLk.out)
     clear HB HO HI hbl hbr
     go_wp2_with (refine EK.app rfl _ _ rfl (w.heap.size + 1) v S rfl ?own _ [(p, vv, nn)] rfl ?rd HL.out ?bs ?_)
     case own => exact HOd.out.below ((Below.refl _ _).alloc (Nat.le_refl _) _)
     case rd => exact EK.rd_boxAt (p, vv, nn) _ 1 _ _ (by simp)
     case bs => first | omega | (simp; omega) | fail
     intro v2 w2 ho hb _ _
     have HOw2 := Lib.hid ho
     have HBw2 : Hid (Below (w.heap.size + 1) W0 w2) := Lib.hid ((HBd.out.alloc hzz _).trans hb)
     clear ho hb x0 y0 z0 z1 z2 t1 t2 hzz
     obtain ⟨x0, y0, -⟩ := HC6.out _ HBw2.out
     obtain ⟨z0, z1, z2⟩ := HCe.out _ HBw2.out
     obtain ⟨t1, t2⟩ := HCb.out _ HBw2.out
     have hzz := HSz.out _ HBw2.out
     go_wp2_with (refine EK.app rfl _ _ rfl (w.heap.size + 1) v2 (S ++ [(p, vv, nn)]) rfl ?own _ [(ep, ev, en)] rfl ?rd HL2.out ?bs ?_)
     case own => exact HOw2.out.below ((Below.refl _ _).alloc (Nat.le_refl _) _)
     case rd => exact EK.rd_boxAt (ep, ev, en) _ 1 _ _ (by simp)
     case bs => first | omega | (simp; omega) | fail
     intro v3 w3 ho hb _ _
     have HOw3 := Lib.hid ho
     have HBw3 : Hid (Below (w.heap.size + 1) W0 w3) := Lib.hid ((HBw2.out.alloc hzz _).trans hb)
     clear ho hb x0 y0 z0 z1 z2 t1 t2 hzz
     go_wp2_with fail
     go_roundw
     case rel => exact ⟨k + 1, v3, true, _, by omega, rfl, rfl, by go_num, HOw3, HI2, HBw3⟩
     case measure => simp [intOf]; omega
  ·obtain rfl : k = n := by omega
   have kk1 : ¬ (k : Int) < (k : Int) := by omega
   have kk2 : decide ((k : Int) < (k : Int)) = false := decide_eq_false kk1
   have kk3 : decide (k < k) = false := decide_eq_false (by omega)
   have HEnd : Hid ((if done then S else S ++ [(p, vv, nn)]) = putD l p vv nn) := Lib.hid (by
    have q := HI.out
    rw [← HN.out] at q
    exact q.end' HRi.out HKo.out HPo.out HNo.out)
   have hSl := HI.out.len
   have HL : Hid (S.length + 1 ≤ 1000000) := Lib.hid (by omega)
   obtain ⟨tb0, tb1, tb2, tr⟩ := HCr.out _ HB.out
   have hzz := HSz.out _ HB.out
   have HFin : Hid (∀ (wq : World) (v' : Value), Below (w.heap.size + 1) W0 wq → EK.Own wq (w.heap.size + 1) v' (putD l p vv nn) → RDP w base r T cs (.slice a k c) (putD l p vv nn) (wq.setCell ⟨r, 0, none⟩ v')) := Lib.hid fun wq v' hq ho => by
    have hlt := HRD.out.lt
    have hbw := Hbw.out
    refine ⟨⟨v', ⟨(HBk.out wq hq).set 0 v', (own_setA ho (by omega) 0 v').base (by omega), hlt⟩, fun q hq => .inr (by have := ho.from q hq; omega)⟩, ?_⟩
    refine Fr.trans (S := fun k => False) (T := fun k => k = r) ?_ (Fr.set wq ⟨r, 0, none⟩ v') (fun j hj q => by rcases q with q | q; exact q.elim; exact .inl q)
    refine Fr.mono (S := fun k => w.heap.size ≤ k) ?_ (fun j hj q => absurd hj (Nat.not_lt.2 q))
    exact Fr.ofBelow (HB0.out.trans (hq.mono (Nat.le_succ _)))
   clear HI hSl
   cases done with
   | true =>
    have HS3 : Hid (EK.Own wr (w.heap.size + 1) v (putD l p vv nn)) := Lib.hid (by rw [← HEnd.out]; exact HO.out)
    have f0 := (HBk.out _ HB.out).fz 0
    have HF3 := Lib.hid (HFin.out _ _ HB.out HS3.out)
    obtain ⟨a9, c9, e9⟩ := HS3.out.slice
    obtain ⟨m9, hm9⟩ : ∃ q, (putD l p vv nn).length = q := ⟨_, rfl⟩
    rw [hm9] at e9
    subst e9
    clear hm9
    clear HO HEnd
    go_wp2
    go_end0
    exact ⟨Lib.hid rfl, HF3⟩
   | false =>
    go_wp2_with (refine EK.app rfl _ _ rfl (w.heap.size + 1) v S rfl ?own _ [(p, vv, nn)] rfl ?rd HL.out ?bs ?_)
    case own => exact HO.out.below ((Below.refl _ _).alloc (Nat.le_refl _) _)
    case rd => exact EK.rd_boxAt (p, vv, nn) _ 1 _ _ (by simp)
    case bs => first | omega | (simp; omega) | fail
    intro v2 w2 ho hb _ _
    have HB2 : Hid (Below (w.heap.size + 1) W0 w2) := Lib.hid ((HB.out.alloc hzz _).trans hb)
    have HS3 : Hid (EK.Own w2 (w.heap.size + 1) v2 (putD l p vv nn)) := Lib.hid (by rw [← HEnd.out]; exact ho)
    have HF3 := Lib.hid (HFin.out _ _ HB2.out HS3.out)
    have f0 := (HBk.out _ HB2.out).fz 0
    obtain ⟨a9, c9, e9⟩ := HS3.out.slice
    obtain ⟨m9, hm9⟩ : ∃ q, (putD l p vv nn).length = q := ⟨_, rfl⟩
    rw [hm9] at e9
    subst e9
    clear hm9
    have tr2 := (HCr.out _ HB2.out).2.2.2
    clear ho hb HO HEnd tb0 tb1 tb2 tr hzz HB
    go_wp2
    go_end0
    exact ⟨Lib.hid rfl, HF3⟩
end Go.Proofs.YtodcmhmankmaoaaGreat
