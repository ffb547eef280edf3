/-
  The walk of package frame's iterator over bodies.
-/
import Derived.Test.YtfobdkhmffphmaaFrm3
import Derived.Test.YtfobdkhmffphmaaRng
namespace Go.Proofs.Ytfobdkhmffphmaa
open Go.RowKit
set_option linter.unusedSimpArgs false
set_option linter.unusedVariables false
attribute [local go_sem] Oper.semAt_some

/-- All bodies that bytes begin with. -/
def allF : Nat → List Int → List (List Int)
  | 0, _ => []
  | f + 1, b => if (tkN b).2.2 = 0 then (tkN b).1 :: allF f (b.drop (8 + (tkN b).1.length)) else []
def allN (b : List Int) : List (List Int) := allF (b.length + 1) b
theorem tkN_ok (b : List Int) (h : (tkN b).2.2 = 0) : (tkN b).2.1 = 8 + ((tkN b).1.length : Int) ∧ 8 + (tkN b).1.length ≤ b.length := by
  unfold tkN tkG at h ⊢
  by_cases c0 : b.length < 8
  · rw [if_pos c0] at h; simp at h
  rw [if_neg c0] at h ⊢
  by_cases c1 : (16777215 : Int) < dec4 b
  · rw [if_pos c1] at h; simp at h
  rw [if_neg c1] at h ⊢
  by_cases c2 : b.length < 8 + dec4 b
  · rw [if_pos c2] at h; simp at h
  rw [if_neg c2] at h ⊢
  by_cases c3 : sumN 0 ((b.take (8 + dec4 b)).drop 8) ≠ dec4 (b.drop 4)
  · rw [if_pos c3] at h; simp at h
  rw [if_neg c3] at h ⊢
  have : ((b.take (8 + dec4 b)).drop 8).length = dec4 b := by simp; omega
  simp only [this]
  exact ⟨by omega, by omega⟩
/-- A body, and where it lies. -/
abbrev Bd : Type := Value × List Int
abbrev bdArgs (x : Bd) : Array Value := #[x.1, .int .i64 (8 + (x.2.length : Int))]
def bdPv (pre : List Bd) (x : Bd) : Prop := pre.length ≤ 1000000000 ∧ x.2.length ≤ 1000000000 ∧ ∃ a n c, x.1 = .slice a n c
/-- What a round of All's keeps: what lies below n₀, one box beyond it, and all rows of bytes. -/
structure KpA (n₀ B1 : Nat) (W W' : World) : Prop where
  low : Below n₀ W W'
  box : W'.heap[B1]? = W.heap[B1]?
  rows : ∀ (k : Nat) (cs : Array Value) (fr : Nat × Nat), W.heap[k]? = some (Obj.cells cs 5 fr) → W'.heap[k]? = W.heap[k]?
theorem KpA.trans {n₀ B1 : Nat} {A B C : World} (h : KpA n₀ B1 A B) (k : KpA n₀ B1 B C) : KpA n₀ B1 A C :=
  ⟨h.low.trans k.low, k.box.trans h.box, fun i cs fr hi => (k.rows i cs fr ((h.rows i cs fr hi).trans hi)).trans (h.rows i cs fr hi)⟩
/-- Bodies that lie in rows of their own. -/
def Rows8 (n₀ : Nat) (xs : List Bd) (W : World) : Prop := ∀ x ∈ xs, Own8 W n₀ x.1 x.2
theorem own8_rows {n₀ : Nat} {W W' : World} {v : Value} {xs : List Int} (h : Own8 W n₀ v xs) (hk : ∀ (k : Nat) (cs : Array Value) (fr : Nat × Nat), W.heap[k]? = some (Obj.cells cs 5 fr) → W'.heap[k]? = W.heap[k]?) : Own8 W' n₀ v xs := by
  obtain ⟨h1, h2⟩ := h
  refine ⟨h1, ?_⟩
  rcases h2 with h2 | ⟨g, cap, cur, hv, hg, hh, hr⟩
  · exact .inl h2
  · exact .inr ⟨g, cap, cur, hv, hg, (hk g _ _ hh).trans hh, hr⟩
theorem own8_below {n₀ : Nat} {W W' : World} {v : Value} {xs : List Int} (h : Own8 W n₀ v xs) (hb : Below W.heap.size W W') : Own8 W' n₀ v xs :=
  own8_rows h fun k cs fr hk => hb.block k (Array.getElem?_eq_some_iff.1 hk).1
theorem own8_le {n₀ n₁ : Nat} {W : World} {v : Value} {xs : List Int} (h : Own8 W n₁ v xs) (hn : n₀ ≤ n₁) : Own8 W n₀ v xs := by
  obtain ⟨h1, h2⟩ := h
  refine ⟨h1, ?_⟩
  rcases h2 with h2 | ⟨g, cap, cur, hv, hg, hr⟩
  · exact .inl h2
  · exact .inr ⟨g, cap, cur, hv, Nat.le_trans hn hg, hr⟩
theorem own8_slice {n₀ : Nat} {W : World} {v : Value} {xs : List Int} (h : Own8 W n₀ v xs) : ∃ a n c, v = .slice a n c := by
  rcases h.2 with ⟨rfl, _⟩ | ⟨g, cap, cur, rfl, _⟩
  · exact ⟨_, _, _, rfl⟩
  · exact ⟨_, _, _, rfl⟩
/-- The state between two rounds. -/
structure ItA (n₀ B1 : Nat) (vb : Value) (b : List Int) (J : List Bd → World → Prop) (pre : List Bd) (a f : Nat) (v3 : Value) (W : World) : Prop where
  all : pre.map (·.2) ++ allF f (b.drop a) = allN b
  fuel : (b.drop a).length < f
  own : Own8 W n₀ v3 (tkN (b.drop a)).1
  rows : Rows8 n₀ pre W
  inv : J pre W
  src : Bt W vb b
  box : W.cell? ⟨B1, 0, none⟩ = some vb
  size : n₀ ≤ W.heap.size ∧ B1 < W.heap.size
  len : pre.length ≤ a
theorem drop_range {b : List Int} (h : ∀ x ∈ b, 0 ≤ x ∧ x ≤ 255) (a : Nat) : ∀ x ∈ b.drop a, 0 ≤ x ∧ x ≤ 255 := fun x q => h x (List.mem_of_mem_drop q)
theorem tk_len (b : List Int) : (tkN b).1.length ≤ b.length := by
  unfold tkN tkG
  split
  · simp
  split
  · simp
  split
  · simp
  split
  · simp
  · simp only [List.length_drop, List.length_take]; omega
theorem slice_from (vb : Value) (b : List Int) (W : World) (h : Bt W vb b) (a : Nat) (ha : a ≤ b.length) : ∃ v', (∀ W', (Instr.slice 27 vb (some (.int .i64 (a : Int))) none none).run Try.prog W' = .ok v' W') ∧ Bt W v' (b.drop a) := by
  obtain ⟨ad, cap, rfl, h1, h2⟩ := h.row
  have key := bt_sliced h1 h2 a b.length ha (Nat.le_refl _)
  rw [List.take_length] at key
  have hu : Try.prog.underlying 27 = some (.slice (Try.prog.elem 27)) := by kernel_rfl
  have hs : ∀ w, (sizeOf (Try.prog.elem 27)).run Try.prog w = .ok 1 w := fun w => by kernel_rfl
  refine ⟨_, fun W' => ?_, key⟩
  rw [run_slice_l (ht := hu) (h0 := by omega) (h1 := by omega), hs]
  rfl
theorem ItA.src_of {n₀ B1 : Nat} {vb : Value} {b : List Int} {J : List Bd → World → Prop} {pre : List Bd} {a f : Nat} {v3 : Value} {W : World} (h : ItA n₀ B1 vb b J pre a f v3 W) : W.cell? ⟨B1, 0, none⟩ = some vb := h.box
set_option maxRecDepth 100000 in
set_option maxHeartbeats 4000000 in
theorem bodies1_seq (n n₀ B1 : Nat) (hn : 2 ≤ n) (vb : Value) (b : List Int) (w0 : World) (hb : Bt w0 vb b) (hx : ∀ x ∈ b, 0 ≤ x ∧ x ≤ 255) (hl : b.length ≤ 1000000000) (hbox : w0.cell? ⟨B1, 0, none⟩ = some vb) (hB1 : B1 < w0.heap.size) (hn0 : n₀ ≤ w0.heap.size)
    (hbn : ∀ W W', Below n₀ W W' → Bt W vb b → Bt W' vb b) :
    SeqP Fence.wide n Try.prog 31 #[.pointer (some ⟨B1, 0, none⟩)] bdArgs bdPv (KpA n₀ B1) (fun xs W => Rows8 n₀ xs W ∧ xs.map (·.2) = allN b) w0 := by
  intro l J W hW hJ hY h0
  have hbW : Bt W vb b := hb.below hW
  have hcW : W.cell? ⟨B1, 0, none⟩ = some vb := (hW.cell (p := ⟨B1, 0, none⟩) hB1).trans hbox
  have hzW := hW.size
  have HY := Lib.hid hY
  have HJ := Lib.hid hJ
  have HX := Lib.hid hx
  have H0 := Lib.hid h0
  have HBW := Lib.hid hbW
  have HBN := Lib.hid hbn
  clear hY hJ hx h0 hbW hbn hW hb hbox
  obtain ⟨va, vn, vc, hv⟩ : ∃ a n c, vb = .slice a n c := by
    obtain ⟨a, cap, e, _⟩ := HBW.out.row
    exact ⟨_, _, _, e⟩
  have HV := Lib.hid hv
  clear hv
  refine callsIn_of_wp Try.func31 rfl trivial ?_ rfl
  simp only [Try.ntmps31, List.size_toArray, List.length_cons, List.length_nil, Nat.reduceAdd, Nat.reduceSub, Array.replicate_succ, Array.replicate_zero, List.push_toArray, List.append_toArray, List.nil_append, List.cons_append]
  gi_wp2
  refine ⟨trivial, (fun h => (by cases h)), ?_⟩
  refine (callsIn_wide.2 (take_any _ b _ HBW.out HX.out hl)).mono ?_
  rintro e w1 ⟨v1, he1, ho1, hb1⟩
  rw [he1.out]
  have hz1 := hb1.size
  have HI : Hid (ItA n₀ B1 vb b J [] 0 (b.length + 1) v1 w1) := by
    refine ⟨rfl, (by simp), ?_, (fun x q => (by cases q)), HJ.out _ _ _ H0.out hb1, HBW.out.below hb1, (hb1.cell (p := ⟨B1, 0, none⟩) (by simp; omega)).trans hcW, (by omega), Nat.le_refl _⟩
    rw [List.drop_zero]
    exact own8_le ho1 (by omega)
  clear he1 ho1 hb1 hcW H0 HBW
  gi_wp2
  gi_loopw [3, 4, 5, 6] (fun s3 s4 s5 s6 wr => ∃ (pre : List Bd) (a f : Nat) (v3 : Value), a ≤ b.length ∧ s3 = v3 ∧ s4 = .int .i64 (tkN (b.drop a)).2.1 ∧ s5 = .int .i64 (tkN (b.drop a)).2.2 ∧ s6 = .int .i64 a ∧ Hid (ItA n₀ B1 vb b J pre a f v3 wr)) (fun _ _ _ s6 _ => b.length - (intOf s6).toNat)
  case atStart => exact ⟨[], 0, b.length + 1, v1, by omega, rfl, rfl, rfl, rfl, HI⟩
  case round =>
    clear HI
    obtain ⟨pre, a, f, v3, ha, rfl, rfl, rfl, rfl, hI⟩ := hrel
    by_cases he : (tkN (b.drop a)).2.2 = 0
    · obtain ⟨hsz, hle⟩ := tkN_ok (b.drop a) he
      have hbl : (tkN (b.drop a)).1.length ≤ 1000000000 := by have := tk_len (b.drop a); simp at this; omega
      have hpv : bdPv pre (u3, (tkN (b.drop a)).1) := ⟨by have := hI.out.len; omega, hbl, own8_slice hI.out.own⟩
      obtain ⟨fn, tmps, assign, body, hy, hR⟩ := HY.out pre (u3, (tkN (b.drop a)).1) wr hI.out.inv hpv
      dsimp only [bdArgs] at hy
      have hal : 8 + (tkN (b.drop a)).1.length ≤ b.length - a := by simpa using hle
      rw [he, hsz]
      obtain ⟨L, hL⟩ : ∃ L, (tkN (b.drop a)).1.length = L := ⟨_, rfl⟩
      rw [hL] at hy hal ⊢
      have HR := Lib.hid hR
      have HPV := Lib.hid hL
      have HE := Lib.hid he
      clear hpv hbl he hsz hle hL hR
      gi_wp2
      refine ⟨(fun h => (by cases h)), ?_⟩
      refine HR.out.mono ?_
      rintro e W3 ⟨rfl, hJ3, hk3⟩
      have hA := hI.out
      have hL := HPV.out
      have hbox3 : W3.cell? ⟨B1, 0, none⟩ = some vb := (World.cell?_of_block (w := wr) (a := ⟨B1, 0, none⟩) hk3.box).trans hA.box
      have hsrc3 := HBN.out wr W3 hk3.low hA.src
      obtain ⟨v4, hs4, hb4⟩ := slice_from vb b W3 hsrc3 (a + (8 + L)) (by omega)
      have hs4' : ∀ W', (Instr.slice 27 vb (some (.int .i64 ((a : Int) + (8 + (L : Int))))) none none).run Try.prog W' = .ok v4 W' := fun W' => by
        have := hs4 W'
        rw [show ((a + (8 + L) : Nat) : Int) = (a : Int) + (8 + (L : Int)) from by omega] at this
        exact this
      have hown3 : Own8 W3 n₀ u3 (tkN (b.drop a)).1 := own8_rows hA.own hk3.rows
      have hrows3 : Rows8 n₀ (pre ++ [(u3, (tkN (b.drop a)).1)]) W3 := by
        intro x q
        rcases List.mem_append.1 q with q | q
        · exact own8_rows (hA.rows x q) hk3.rows
        · simp at q; subst q; exact hown3
      have hz3 := hk3.low.size
      have hn3 := hA.size.1
      have hB3 : B1 < W3.heap.size := by
        have := Array.getElem?_eq_some_iff.1 ((hk3.box).trans (Array.getElem?_eq_getElem hA.size.2))
        exact this.1
      have hall : (pre ++ [(u3, (tkN (b.drop a)).1)]).map (·.2) ++ allF (f - 1) (b.drop (a + (8 + L))) = allN b := by
        have h1 := hA.all
        obtain ⟨f', rfl⟩ : ∃ f', f = f' + 1 := ⟨f - 1, by have := hA.fuel; omega⟩
        rw [allF, if_pos HE.out, List.drop_drop, hL] at h1
        simpa using h1
      have hfu := hA.fuel
      have hlen := hA.len
      have HJ3 := Lib.hid hJ3
      have HB4 := Lib.hid hb4
      have HS3 := Lib.hid hsrc3
      have HRW := Lib.hid hrows3
      have HAL := Lib.hid hall
      have hd : (b.drop (a + (8 + L))).length = b.length - (a + (8 + L)) := by simp
      have HD := Lib.hid hd
      have hdb : (b.drop a).length = b.length - a := by simp
      rw [hdb] at hfu
      clear hA hL hk3 hs4 hown3 hrows3 hall hJ3 hb4 hsrc3 hd hdb HR hI
      gi_wp2
      refine ⟨trivial, (fun h => (by cases h)), ?_⟩
      refine (callsIn_wide.2 (take_any _ (b.drop (a + (8 + L))) _ HB4.out (drop_range HX.out _) (by rw [HD.out]; omega))).mono ?_
      rintro e W5 ⟨v5, he5, ho5, hb5⟩
      rw [he5.out]
      have hz5 := hb5.size
      have HI5 : Hid (ItA n₀ B1 vb b J (pre ++ [(u3, (tkN (b.drop a)).1)]) (a + (8 + L)) (f - 1) v5 W5) :=
        ⟨HAL.out, (by rw [HD.out]; omega), own8_le ho5 (by omega), (fun x q => own8_below (HRW.out x q) hb5), HJ.out _ _ _ HJ3.out hb5, HS3.out.below hb5, (hb5.cell (p := ⟨B1, 0, none⟩) hB3).trans hbox3, ⟨(by omega), (by omega)⟩, (by simp; omega)⟩
      clear he5 ho5 hb5 HJ3 HB4 HS3 HRW HAL
      gi_wp2
      go_roundw
      case rel => exact ⟨_, a + (8 + L), f - 1, v5, by omega, rfl, rfl, rfl, by rw [show ((a + (8 + L) : Nat) : Int) = (a : Int) + (8 + (L : Int)) from by omega], HI5⟩
      case measure => simp [intOf]; omega
    · have hne : ((tkN (b.drop a)).2.2 == 0) = false := by simpa using he
      have HE := Lib.hid he
      clear he
      gi_wp2
      refine ⟨fun _ h => (by cases h), ?_⟩
      gi_wp2
      go_end0
      have hA := hI.out
      refine ⟨⟨_, rfl⟩, pre, ⟨hA.rows, ?_⟩, hA.inv⟩
      have h1 := hA.all
      obtain ⟨f', rfl⟩ : ∃ f', f = f' + 1 := ⟨f - 1, by have := hA.fuel; omega⟩
      rw [allF, if_neg HE.out, List.append_nil] at h1
      exact h1
end Go.Proofs.Ytfobdkhmffphmaa
