/-
  The walk of package frame's Put.
-/
import Derived.Test.YtfobdkhmffphmaaFrm
namespace Go.Proofs.Ytfobdkhmffphmaa
open Go.RowKit
set_option linter.unusedSimpArgs false
set_option linter.unusedVariables false

section
variable {ops : Array Oper} {rest : List Oper} {o : Oper} {a : Act} {w : World} {Q : Exit → Act → World → Prop}
theorem bt_sliced {xs : List Int} {ad : Option Addr} {cap : Nat} (h1 : BRd w ad xs) (h2 : Fits ad xs cap) (l h : Nat) (hlh : l ≤ h) (hh : h ≤ xs.length) : Bt w (sliced ad l h cap 1) ((xs.take h).drop l) := by
  have hlen : ((xs.take h).drop l).length = h - l := by simp; omega
  unfold sliced
  by_cases q : cap = l
  · rw [if_pos q]
    have hz : (xs.take h).drop l = [] := List.eq_nil_of_length_eq_zero (by rw [hlen]; have := h2.2.1; omega)
    rw [hz]
    refine ⟨ad, cap - l, by rw [show h - l = 0 from by have := h2.2.1; omega]; rfl, ⟨by simp, .inl rfl⟩, fun e => by have := h2.1 e; omega, by simp, by have := h2.2.2.1; omega, h2.2.2.2⟩
  · rw [if_neg q]
    refine ⟨ad.map (·.add (l * 1)), cap - l, by rw [hlen], ⟨by rw [hlen]; have := h1.1; omega, ?_⟩, ?_, by rw [hlen]; have := h2.2.1; omega, by have := h2.2.2.1; omega, ?_⟩
    · rcases h1.2 with h0 | ⟨g, off, ha, hg, hc⟩
      · left; subst h0; simp at hh; subst hh; simp
      · by_cases z : (xs.take h).drop l = []
        · exact .inl z
        right
        subst ha
        refine ⟨g, off + l, ?_, hg, fun i hi => ?_⟩
        · simp only [Option.map_some]
          congr 1
          unfold Addr.add
          by_cases z : l = 0
          · subst z; rfl
          · simp [z]
        · rw [hlen] at hi
          have := hc (l + i) (by omega)
          rw [Nat.add_assoc, this]
          congr 2
          simp [List.getD, List.getElem?_take, show l + i < h from by omega]
    · intro e
      cases ad with
      | none => have := h2.1 rfl; omega
      | some x => cases e
    · intro x hx
      cases ad with
      | none => cases hx
      | some y =>
        simp only [Option.map_some, Option.some.injEq] at hx
        have := h2.2.2.2 y rfl
        rw [← hx]
        unfold Addr.add
        split
        · exact this
        · simp [this]
/-- 's[l:h]' of bytes. -/
theorem wpList_cut (hw : Region.wanted o (yielded ops a.tmps) = true) (x lo hi : Operand) (ho : o.op = .slice 27 x (some lo) (some hi) none) (v : Value) (xs : List Int) (hx : a.eval x = v) (hb : Bt w v xs)
    (l h : Nat) (li hj : Int) (hl : a.eval lo = .int .i64 li) (hli : li = (l : Int)) (hh : a.eval hi = .int .i64 hj) (hhj : hj = (h : Int)) (hlh : l ≤ h) (hn : h ≤ xs.length)
    (hk : ∀ v', Bt w v' ((xs.take h).drop l) → wpList Try.prog ops Q rest (a.put o.dst v') w) : wpList Try.prog ops Q (o :: rest) a w := by
  subst hli hhj
  obtain ⟨ad, cap, rfl, h1, h2⟩ := hb.row
  refine wpList_value hw _ w ?_ (hk _ (bt_sliced h1 h2 l h hlh hn))
  have hu : Try.prog.underlying 27 = some (.slice (Try.prog.elem 27)) := by kernel_rfl
  have hs : ∀ w, (sizeOf (Try.prog.elem 27)).run Try.prog w = .ok 1 w := fun w => by kernel_rfl
  unfold execOp
  simp only [ho, Option.map_some, Option.map_none, hx, hl, hh, Sem.run_bind, Sem.run_pure, Result.andThen_ok]
  rw [run_sliceAt_slice (h := hu), run_slice_lh (ht := hu) (h0 := by omega) (h1 := by omega) (h2 := by have := h2.2.1; omega), hs]
  rfl
/-- 's[l:]' of bytes. -/
theorem wpList_cut_l (hw : Region.wanted o (yielded ops a.tmps) = true) (x lo : Operand) (ho : o.op = .slice 27 x (some lo) none none) (v : Value) (xs : List Int) (hx : a.eval x = v) (hb : Bt w v xs)
    (l : Nat) (li : Int) (hl : a.eval lo = .int .i64 li) (hli : li = (l : Int)) (hn : l ≤ xs.length)
    (hk : ∀ v', Bt w v' (xs.drop l) → wpList Try.prog ops Q rest (a.put o.dst v') w) : wpList Try.prog ops Q (o :: rest) a w := by
  subst hli
  obtain ⟨ad, cap, rfl, h1, h2⟩ := hb.row
  have key := bt_sliced h1 h2 l xs.length hn (Nat.le_refl _)
  rw [List.take_length] at key
  refine wpList_value hw _ w ?_ (hk _ key)
  have hu : Try.prog.underlying 27 = some (.slice (Try.prog.elem 27)) := by kernel_rfl
  have hs : ∀ w, (sizeOf (Try.prog.elem 27)).run Try.prog w = .ok 1 w := fun w => by kernel_rfl
  unfold execOp
  simp only [ho, Option.map_some, Option.map_none, hx, hl, Sem.run_bind, Sem.run_pure, Result.andThen_ok]
  rw [run_sliceAt_slice (h := hu), run_slice_l (ht := hu) (h0 := by omega) (h1 := by omega), hs]
  rfl
end

/-- A body's frame. -/
def frm (xs : List Int) : List Int := f4 xs.length ++ f4 (sumN 0 xs) ++ xs
theorem frm_length (xs : List Int) : (frm xs).length = xs.length + 8 := by simp [frm, f4]
theorem frm_range {xs : List Int} (h : ∀ x ∈ xs, 0 ≤ x ∧ x ≤ 255) (hl : xs.length < 4294967296) : ∀ x ∈ frm xs, 0 ≤ x ∧ x ≤ 255 := by
  intro x hx
  simp only [frm, List.mem_append] at hx
  rcases hx with (q | q) | q
  · exact f4_range hl x q
  · exact f4_range (sumN_lt 0 xs) x q
  · exact h x q
def PutPost (xs : List Int) (w : World) (e : Ending) (w' : World) : Prop := ∃ v', Hid (e = .returned (.tuple #[v', .int .i64 0])) ∧ Bt w' v' (frm xs) ∧ Below w.heap.size w w'
set_option maxHeartbeats 1600000 in
theorem put_long (v : Value) (xs : List Int) (w : World) (hb : Bt w v xs) (hl : ¬ xs.length ≤ 16777215) : Calls Try.prog 23 #[v] w fun e w' => e = .returned (.tuple #[.slice none 0 0, .int .i64 13]) ∧ w = w' := by
  obtain ⟨a, cap, rfl, h1, h2⟩ := hb.row
  have hlen := h1.1
  have t1 : (16777215 : Int) < xs.length := by omega
  clear hb h1 h2 hl
  go_enter Try.func23, Try.ntmps23
  go_wp2
  go_ret2
  exact ⟨rfl, rfl⟩
/-- A row of bytes below a block. -/
theorem Bt.belowN {w w' : World} {N n c : Nat} {g off : Nat} {xs : List Int} (h : Bt w (.slice (some ⟨g, off, none⟩) n c) xs) (hg : g < N) (hb : Below N w w') : Bt w' (.slice (some ⟨g, off, none⟩) n c) xs := by
  obtain ⟨a, cap, e, h1, h2⟩ := h.row
  simp only [Value.slice.injEq] at e
  obtain ⟨rfl, rfl, rfl⟩ := e
  refine ⟨_, _, rfl, ⟨h1.1, ?_⟩, h2⟩
  rcases h1.2 with h0 | ⟨b, o, ha, hbl, hc⟩
  · exact .inl h0
  · cases ha
    exact .inr ⟨_, _, rfl, by have := hb.size; omega, fun i hi => by rw [hb.cell (p := ⟨g, off + i, none⟩) hg]; exact hc i hi⟩
theorem bt_four (w w1 : World) (g : Nat) (x y z t : Int) (hg : g < w.heap.size) (h0 : w.cell? ⟨g, 0, none⟩ = some (.int .u8 x)) (h1 : w.cell? ⟨g, 1, none⟩ = some (.int .u8 y)) (h2 : w.cell? ⟨g, 2, none⟩ = some (.int .u8 z)) (h3 : w.cell? ⟨g, 3, none⟩ = some (.int .u8 t)) : Bt w (.slice (some ⟨g, 0, none⟩) 4 4) [x, y, z, t] := by
  refine ⟨some ⟨g, 0, none⟩, 4, rfl, ⟨by simp, .inr ⟨g, 0, rfl, hg, fun i hi => ?_⟩⟩, (fun h => by cases h), by simp, by omega, fun q e => by cases e; rfl⟩
  simp at hi
  obtain rfl | rfl | rfl | rfl : i = 0 ∨ i = 1 ∨ i = 2 ∨ i = 3 := by omega
  · exact h0
  · exact h1
  · exact h2
  · exact h3
set_option maxRecDepth 100000 in
set_option maxHeartbeats 4000000 in
theorem put_good (v : Value) (xs : List Int) (w : World) (hb : Bt w v xs) (hx : ∀ x ∈ xs, 0 ≤ x ∧ x ≤ 255) (hl : xs.length ≤ 16777215) : Calls Try.prog 23 #[v] w (PutPost xs w) := by
  have HB := Lib.hid hb
  have HX := Lib.hid hx
  obtain ⟨a, cap, rfl, h1, h2⟩ := hb.row
  have t1 : ¬ (16777215 : Int) < xs.length := by omega
  have z1 : xs.length < 4294967296 := by omega
  have z2 := sumN_lt 0 xs
  have HL := Lib.hid hl
  have lb := hb.len
  clear h1 h2 hx hl hb
  go_enter Try.func23, Try.ntmps23
  go_wp2_with fail
  refine (four_any _ _ z1).mono ?_
  rintro e w1 ⟨rfl, hb1⟩
  have HB1 := Lib.hid hb1
  clear hb1
  go_wp2_with fail
  refine (sumof_any _ _ _ (HB.out.below HB1.out) HX.out).mono ?_
  rintro e w2 ⟨rfl, hb2⟩
  have HB2 : Hid (Below w.heap.size w w2) := below_self HB1.out hb2
  clear hb2 HB1
  go_wp2_with fail
  refine (four_any _ _ z2).mono ?_
  rintro e w3 ⟨rfl, hb3⟩
  have HB3 : Hid (Below w.heap.size w w3) := below_self HB2.out hb3
  clear hb3 HB2
  obtain ⟨L, hL⟩ : ∃ L, xs.length = L := ⟨_, rfl⟩
  obtain ⟨N, hN⟩ : ∃ N, sumN 0 xs = N := ⟨_, rfl⟩
  have HF : Hid (f4 L ++ f4 N ++ xs = frm xs) := by unfold Hid frm; rw [hL, hN]
  have hL2 : L ≤ 100000000 := by rw [← hL]; exact Nat.le_trans HL.out (by decide)
  rw [hL, hN]
  rw [hL] at HB lb
  clear hN z2 z1 HL
  have HLL := Lib.hid hL
  clear hL
  go_wp2_with (first
    | (refine wpList_make8 rfl _ _ rfl rfl (8 + L) _ rfl (by omega) (by omega) (w3.heap.size + 1 + 1) (by simp) ?_))
  intro v4 w4 ho4 hb4
  obtain ⟨wA, hA⟩ : ∃ wA, (w3.alloc (Obj.cells #[Value.int IntKind.u8 ((L : Int) % 256), Value.int IntKind.u8 ((L : Int) / 256 % 256), Value.int IntKind.u8 ((L : Int) / 65536 % 256), Value.int IntKind.u8 ((L : Int) / 16777216)] 61)).alloc (Obj.cells #[Value.int IntKind.u8 ((N : Int) % 256), Value.int IntKind.u8 ((N : Int) / 256 % 256), Value.int IntKind.u8 ((N : Int) / 65536 % 256), Value.int IntKind.u8 ((N : Int) / 16777216)] 61) = wA := ⟨_, rfl⟩
  have sA : w3.heap.size + 1 + 1 = wA.heap.size := by rw [← hA]; simp
  have b0 : Bt wA (.slice (some ⟨w3.heap.size, 0, none⟩) 4 4) (f4 L) := by
    rw [← hA]
    exact bt_four _ w3 _ _ _ _ _ (by simp; omega) (by simp [go_sem]) (by simp [go_sem]) (by simp [go_sem]) (by simp [go_sem])
  have b1 : Bt wA (.slice (some ⟨w3.heap.size + 1, 0, none⟩) 4 4) (f4 N) := by
    rw [← hA]
    exact bt_four _ w3 _ _ _ _ _ (by simp) (by simp [go_sem]) (by simp [go_sem]) (by simp [go_sem]) (by simp [go_sem])
  have bA : Below w.heap.size w wA := by
    rw [← hA]
    exact (HB3.out.alloc HB3.out.size _).alloc (by simp; have := HB3.out.size; omega) _
  have hbA : Below wA.heap.size wA w4 := by rw [hA] at hb4; rw [← sA]; exact hb4
  have B0 := Lib.hid (b0.below hbA)
  have B1 := Lib.hid (b1.below hbA)
  have HB4 : Hid (Below w.heap.size w w4) := below_self bA hbA
  have HO4 := Lib.hid ho4
  have hz4 := hbA.size
  have hz3 := HB3.out.size
  rw [← sA] at hz4
  clear b0 b1 bA hbA hb4 ho4 sA hA HB3
  go_wp2_with (refine wpList_app (o := ⟨some 23, _, _, _, _, _⟩) rfl _ _ rfl (w3.heap.size + 1 + 1) _ _ rfl HO4.out _ _ rfl B0.out (by simp [f4]) hz4 ?_)
  intro v5 w5 ho5 hb5 hz5
  have HB5 : Hid (Below w.heap.size w w5) := HB4.out.trans (hb5.mono (by omega))
  have B1' : Hid (Bt w5 (.slice (some ⟨w3.heap.size + 1, 0, none⟩) 4 4) (f4 N)) := B1.out.belowN (by omega) hb5
  have HO5 := Lib.hid ho5
  have hz5' : w3.heap.size + 1 + 1 ≤ w5.heap.size := by omega
  clear ho5 hb5 HO4 HB4 B0 B1 hz5
  go_wp2_with (refine wpList_app (o := ⟨some 26, _, _, _, _, _⟩) rfl _ _ rfl (w3.heap.size + 1 + 1) _ _ rfl HO5.out _ _ rfl B1'.out (by simp [f4]) hz5' ?_)
  intro v6 w6 ho6 hb6 hz6
  have HB6 : Hid (Below w.heap.size w w6) := HB5.out.trans (hb6.mono (by omega))
  have HO6 := Lib.hid ho6
  have hz6' : w3.heap.size + 1 + 1 ≤ w6.heap.size := by omega
  clear ho6 hb6 HO5 HB5 B1' hz6
  go_wp2_with (refine wpList_app (o := ⟨some 29, _, _, _, _, _⟩) rfl _ _ rfl (w3.heap.size + 1 + 1) _ _ rfl HO6.out _ _ rfl (HB.out.below HB6.out) (by simp [f4, HLL.out]; omega) hz6' ?_)
  intro v7 w7 ho7 hb7 hz7
  have HB7 : Hid (Below w.heap.size w w7) := HB6.out.trans (hb7.mono (by omega))
  have HO7 : Hid (Own8 w7 (w3.heap.size + 1 + 1) v7 (frm xs)) := by
    unfold Hid
    rw [← HF.out]
    simpa using ho7
  clear ho7 hb7 HO6 HB6 hz7
  go_wp2
  go_ret2
  exact ⟨v7, rfl, HO7.out.bt (by rw [frm_length, HLL.out]; omega), HB7.out⟩
end Go.Proofs.Ytfobdkhmffphmaa
