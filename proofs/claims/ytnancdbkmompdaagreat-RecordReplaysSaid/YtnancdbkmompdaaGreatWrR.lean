/-
 Texts put together: CdK, CdL, CdO, CdQ, CdT, CdU.
-/
import Derived.Test.YtnancdbkmompdaaGreatRY
import Derived.Test.YtnancdbkmompdaaGreatRZ
import Derived.Test.YtnancdbkmompdaaGreatRQD
import Derived.Deep.RegionHeld3
import Derived.IntWalk
import Derived.Test.YtnancdbkmompdaaGreatRQG
import Derived.Deep.CutBlock
import Derived.Test.YtnancdbkmompdaaGreatRQH
import Derived.SizedLaws
namespace Go.Proofs.YtnancdbkmompdaaGreat
open Go.RowKit
set_option linter.unusedSimpArgs false
set_option linter.unusedVariables false
set_option maxRecDepth 100000
set_option maxHeartbeats 40000000
theorem step_text {P : Program} {ops : Array Oper} {o : Oper} {a : Act} {w : World} {K : Act → World → Prop} {Q : Exit → Act → World → Prop} (hw : Region.wanted o (yielded ops a.tmps) = true) (src dst : TypeId) (x : Operand)
  (ho : o.op = .convert src dst x) (e : TypeId) (hs : P.underlying src = some (.slice e)) (he : P.underlying e = some (.int .u8)) (hd : P.underlying dst = some .string) (v : Value) (xs : List Int) (hx : a.eval x = v) (hb : Bt w v xs)
  (h : K (a.put o.dst (.string (txt xs))) w) : if Region.wanted o (yielded ops a.tmps) = true then Oper.wp P o a w K Q else K (a.put o.dst undef) w := by
 rw [if_pos hw]
 obtain ⟨ad, cap, rfl, h1, h2⟩ := hb.row
 unfold Oper.wp execOp
 simp only [ho, hx, run_text h1 h2 hs he hd, Sem.run_bind, Sem.run_pure, Result.andThen_ok]
 exact h
theorem build1 (x : Int) (w : World) : (Instr.buildSlice 33 1 #[(0, .int .u8 x)]).run Tryz.prog w = .ok (.slice (some ⟨w.heap.size, 0, none⟩) 1 1) (w.alloc (.cells #[.int .u8 x] 5)) := by kernel_rfl
theorem step_build1 {ops : Array Oper} {o : Oper} {a : Act} {w : World} {K : Act → World → Prop} {Q : Exit → Act → World → Prop} (hw : Region.wanted o (yielded ops a.tmps) = true) (x : Operand)
  (ho : o.op = .buildSlice 33 1 #[(0, x)]) (xv : Int) (hx : a.eval x = .int .u8 xv)
  (h : ∀ v' w', Bt w' v' [xv] → Below w.heap.size w w' → K (a.put o.dst v') w') : if Region.wanted o (yielded ops a.tmps) = true then Oper.wp Tryz.prog o a w K Q else K (a.put o.dst undef) w := by
 rw [if_pos hw]
 unfold Oper.wp execOp
 simp only [ho, List.map_toArray, List.map_cons, List.map_nil, hx, build1, Sem.run_bind, Sem.run_pure, Result.andThen_ok]
 exact h _ _ (bt_lit w [xv] 5 (0, 0) (by simp)) ((Below.refl _ w).alloc (Nat.le_refl _) _)
theorem text_byte (w : World) (x : Int) (h : 0 ≤ x ∧ x ≤ 255) (fr : Nat × Nat) : (convert 33 9 (.slice (some ⟨w.heap.size, 0, none⟩) 1 1)).run Tryz.prog (w.alloc (.cells #[.int .u8 x] 5 fr)) = .ok (.string (txt [x])) (w.alloc (.cells #[.int .u8 x] 5 fr)) := by
 obtain ⟨a, cap, e, h1, h2⟩ := (bt_lit w [x] 5 fr (by simp)).row
 cases e
 exact run_text (xs := [x]) h1 h2 Tryz.underlying33 Tryz.underlying5 Tryz.underlying9
theorem txt_append (a b : List Int) : txt (a ++ b) = txt a ++ txt b := by
 unfold txt
 apply ByteArray.ext
 simp
theorem refnum_small (f : Nat) (m : Int) (w : World) (h0 : 0 ≤ m) (h : m < 128) : Calls Tryz.prog 93 #[.int .i64 m] w fun e w' => e = .returned (.string (txt (encN (f + 1) m))) ∧ Below w.heap.size w w' := by
 have kx := fun (w : World) => text_byte w m (by omega)
 have hm : IntKind.u8.wrap m = m := IntWalk.u8_in _ (by omega)
 have t1 : decide (m < 0) = false := by simp; omega
 have t2 : decide ((281474976710656 : Int) < m) = false := by simp; omega
 have E : Hid (encN (f + 1) m = [m]) := by unfold Hid; rw [encN_succ, if_pos h]
 go_enter Tryz.func93, Tryz.ntmps93
 go_wp2
 go_ret
 exact ⟨ret_str (by rw [E.out]), (Below.refl _ _).alloc (Nat.le_refl _) _⟩
theorem refnum_any : ∀ (f : Nat) (m : Int) (w : World), 0 ≤ m → m < 128 ^ (f + 1) → m ≤ 281474976710656 → f ≤ 100 → Calls Tryz.prog 93 #[.int .i64 m] w fun e w' => e = .returned (.string (txt (encN (f + 1) m))) ∧ Below w.heap.size w w' := by
 intro f
 induction f with
 | zero => intro m w h0 h _ _; exact refnum_small 0 m w h0 (by simpa using h)
 | succ f ih =>
  intro m w h0 h1 h2 hf
  by_cases q : m < 128
  ·exact refnum_small (f + 1) m w h0 q
  have h3 : m / 128 < 128 ^ (f + 1) := by rw [Int.pow_succ] at h1; omega
  have HM2 : Hid (m / 128 ≤ 281474976710656) := by unfold Hid; omega
  have HE : Hid (txt [128 + m % 128] ++ txt (encN (f + 1) (m / 128)) = txt (encN (f + 1 + 1) m)) := by
   unfold Hid
   rw [encN_succ (f + 1) m, if_neg q, ← txt_append, Int.add_comm 128]
   rfl
  have zs : (txt [128 + m % 128]).size = 1 := txt_size _
  have zt : (txt (encN (f + 1) (m / 128))).size ≤ f + 1 := by
   rw [txt_size]
   have key : ∀ (f : Nat) (m : Int), (encN f m).length ≤ f := by
    intro f
    induction f with
    | zero => intro m; simp [encN]
    | succ f ih =>
     intro m
     rw [encN_succ]
     split
     ·simp
     ·rw [List.length_cons]; have := ih (m / 128); omega
   exact key _ _
  have zn : ¬ (9223372036854775807 < 1 + (txt (encN (f + 1) (m / 128))).size) := by omega
  have t1 : decide (m < 0) = false := by simp; omega
  have t2 : decide ((281474976710656 : Int) < m) = false := by simp; omega
  have t3 : decide (m < 128) = false := by simp; omega
  have m1 : m.tmod 128 = m % 128 := IntWalk.rem_in _ _ (by omega)
  have m2 : IntKind.i64.wrap (m.tdiv 128) = m / 128 := IntWalk.i64_quo _ _ ⟨by omega, by omega, by omega⟩
  have m3 : IntKind.i64.wrap (128 + m % 128) = 128 + m % 128 := IntWalk.i64_in _ (by omega)
  have m4 : IntKind.u8.wrap (128 + m % 128) = 128 + m % 128 := IntWalk.u8_in _ (by omega)
  clear zt
  go_enter Tryz.func93, Tryz.ntmps93
  go_wp2
  refine wp_region_held_drew (S := fun w' => Below w.heap.size w w') (by kernel_rfl) ?_ (fun hHeld => ?_)
  ·(first | exact (Below.refl _ _).drew | exact below_self (by assumption) (by assumption) | exact (by assumption : Below _ w _).alloc (by assumption : Below _ w _).size _ | assumption)
  refine tkA 0 (v := ?_) ?_ ?_
  rotate_left
  ·(intro w hSw; (try dsimp only at hSw); go_simp; try rfl)
  try simp only [Act.put, gA]
  refine tkA 1 (v := ?_) ?_ ?_
  rotate_left
  ·(intro w hSw; (try dsimp only at hSw); go_simp; try rfl)
  try simp only [Act.put, gA]
  refine tkA 2 (v := ?_) ?_ ?_
  rotate_left
  ·(intro w hSw; (try dsimp only at hSw); go_simp; try rfl)
  try simp only [Act.put, gA]
  refine tkA 3 (v := ?_) ?_ ?_
  rotate_left
  ·(intro w hSw; (try dsimp only at hSw); go_simp; try rfl)
  try simp only [Act.put, gA]
  refine tkA 6 (v := ?_) ?_ ?_
  rotate_left
  ·(intro w hSw; (try dsimp only at hSw); go_simp; try rfl)
  try simp only [Act.put, gA]
  refine tkA 7 (v := ?_) ?_ ?_
  rotate_left
  ·(intro w hSw; (try dsimp only at hSw); go_simp; try rfl)
  try simp only [Act.put, gA]
  refine wpAnyH_ready (rs := [4, 8]) (by kernel_rfl) (by simp) ?_
  refine (AllReadyH.cons rfl (fun K hK => ?_) (AllReadyH.cons rfl (fun K hK => ?_) AllReadyH.nil))
  ·
   refine step_build1 (by rfl) _ rfl (128 + m % 128) rfl ?_
   intro v4 w4 ht4 hb4
   have HT4 := Hd ht4
   clear ht4
   refine hK.out _ _ ?_ (fun hHeld => ?_)
   ·(first | exact (Below.refl _ _).drew | exact below_self (by assumption) (by assumption) | exact (by assumption : Below _ w _).alloc (by assumption : Below _ w _).size _ | assumption)
   clear hK K
   try simp only [Act.put, gA]
   refine wpAnyH_ready (rs := [5, 8]) (by kernel_rfl) (by simp) ?_
   refine (AllReadyH.cons rfl (fun K hK => ?_) (AllReadyH.cons rfl (fun K hK => ?_) AllReadyH.nil))
   ·
    refine step_text (by rfl) 33 9 _ rfl 5 Tryz.underlying33 Tryz.underlying5 Tryz.underlying9 _ [128 + m % 128] rfl (by first | exact HT4.out | exact HT4.out.below (by assumption)) ?_
    refine hK.out _ _ ?_ (fun hHeld => ?_)
    ·(first | exact (Below.refl _ _).drew | exact below_self (by assumption) (by assumption) | exact (by assumption : Below _ w _).alloc (by assumption : Below _ w _).size _ | assumption)
    clear hK K
    try simp only [Act.put, gA]
    refine wpAnyH_ready (rs := [8]) (by kernel_rfl) (by simp) ?_
    refine (AllReadyH.cons rfl (fun K hK => ?_) AllReadyH.nil)
    go_simp
    (go_at_call 93; refine (ih (m / 128) _ (by omega) h3 HM2.out (by omega)).mono ?_; rintro e y ⟨rfl, hy⟩)
    refine hK.out _ _ ?_ (fun hHeld => ?_)
    ·(first | exact (Below.refl _ _).drew | exact below_self (by assumption) (by assumption) | exact (by assumption : Below _ w _).alloc (by assumption : Below _ w _).size _ | assumption)
    clear hK K
    try simp only [Act.put, gA]
    refine tkA 9 (v := ?_) ?_ ?_
    rotate_left
    ·(intro w hSw; (try dsimp only at hSw); go_simp; try rfl)
    try simp only [Act.put, gA]
    refine tkA 10 (v := ?_) ?_ ?_
    rotate_left
    ·(intro w hSw; (try dsimp only at hSw); go_simp; try rfl)
    try simp only [Act.put, gA]
    refine wpAnyH_done (by kernel_rfl) ?_ _
    go_wp2
    go_ret
    exact ⟨ret_str HE.out, by assumption⟩
   ·
    go_simp
    (go_at_call 93; refine (ih (m / 128) _ (by omega) h3 HM2.out (by omega)).mono ?_; rintro e y ⟨rfl, hy⟩)
    refine hK.out _ _ ?_ (fun hHeld => ?_)
    ·(first | exact (Below.refl _ _).drew | exact below_self (by assumption) (by assumption) | exact (by assumption : Below _ w _).alloc (by assumption : Below _ w _).size _ | assumption)
    clear hK K
    try simp only [Act.put, gA]
    refine wpAnyH_ready (rs := [5]) (by kernel_rfl) (by simp) ?_
    refine (AllReadyH.cons rfl (fun K hK => ?_) AllReadyH.nil)
    refine step_text (by rfl) 33 9 _ rfl 5 Tryz.underlying33 Tryz.underlying5 Tryz.underlying9 _ [128 + m % 128] rfl (by first | exact HT4.out | exact HT4.out.below (by assumption)) ?_
    refine hK.out _ _ ?_ (fun hHeld => ?_)
    ·(first | exact (Below.refl _ _).drew | exact below_self (by assumption) (by assumption) | exact (by assumption : Below _ w _).alloc (by assumption : Below _ w _).size _ | assumption)
    clear hK K
    try simp only [Act.put, gA]
    refine tkA 9 (v := ?_) ?_ ?_
    rotate_left
    ·(intro w hSw; (try dsimp only at hSw); go_simp; try rfl)
    try simp only [Act.put, gA]
    refine tkA 10 (v := ?_) ?_ ?_
    rotate_left
    ·(intro w hSw; (try dsimp only at hSw); go_simp; try rfl)
    try simp only [Act.put, gA]
    refine wpAnyH_done (by kernel_rfl) ?_ _
    go_wp2
    go_ret
    exact ⟨ret_str HE.out, by assumption⟩
  ·
   go_simp
   (go_at_call 93; refine (ih (m / 128) _ (by omega) h3 HM2.out (by omega)).mono ?_; rintro e y ⟨rfl, hy⟩)
   refine hK.out _ _ ?_ (fun hHeld => ?_)
   ·(first | exact (Below.refl _ _).drew | exact below_self (by assumption) (by assumption) | exact (by assumption : Below _ w _).alloc (by assumption : Below _ w _).size _ | assumption)
   clear hK K
   try simp only [Act.put, gA]
   refine wpAnyH_ready (rs := [4]) (by kernel_rfl) (by simp) ?_
   refine (AllReadyH.cons rfl (fun K hK => ?_) AllReadyH.nil)
   refine step_build1 (by rfl) _ rfl (128 + m % 128) rfl ?_
   intro v4 w4 ht4 hb4
   have HT4 := Hd ht4
   clear ht4
   refine hK.out _ _ ?_ (fun hHeld => ?_)
   ·(first | exact (Below.refl _ _).drew | exact below_self (by assumption) (by assumption) | exact (by assumption : Below _ w _).alloc (by assumption : Below _ w _).size _ | assumption)
   clear hK K
   try simp only [Act.put, gA]
   refine wpAnyH_ready (rs := [5]) (by kernel_rfl) (by simp) ?_
   refine (AllReadyH.cons rfl (fun K hK => ?_) AllReadyH.nil)
   refine step_text (by rfl) 33 9 _ rfl 5 Tryz.underlying33 Tryz.underlying5 Tryz.underlying9 _ [128 + m % 128] rfl (by first | exact HT4.out | exact HT4.out.below (by assumption)) ?_
   refine hK.out _ _ ?_ (fun hHeld => ?_)
   ·(first | exact (Below.refl _ _).drew | exact below_self (by assumption) (by assumption) | exact (by assumption : Below _ w _).alloc (by assumption : Below _ w _).size _ | assumption)
   clear hK K
   try simp only [Act.put, gA]
   refine tkA 9 (v := ?_) ?_ ?_
   rotate_left
   ·(intro w hSw; (try dsimp only at hSw); go_simp; try rfl)
   try simp only [Act.put, gA]
   refine tkA 10 (v := ?_) ?_ ?_
   rotate_left
   ·(intro w hSw; (try dsimp only at hSw); go_simp; try rfl)
   try simp only [Act.put, gA]
   refine wpAnyH_done (by kernel_rfl) ?_ _
   go_wp2
   go_ret
   exact ⟨ret_str HE.out, by assumption⟩
theorem refnum_ok (n : Int) (w : World) (h : okN n) : Calls Tryz.prog 93 #[.int .i64 n] w fun e w' => e = .returned (.string (txt (enc n))) ∧ Below w.heap.size w w' :=
  refnum_any 7 n w h.1 (by have p : (128 : Int) ^ (7 + 1) = 72057594037927936 := by decide
                           rw [p]; have := h.2; omega) h.2 (by omega)
theorem refnum_bad (n : Int) (w : World) (h : ¬ okN n) : Calls Tryz.prog 93 #[.int .i64 n] w fun e w' => e = .returned (.string ⟨#[]⟩) ∧ Below w.heap.size w w' := by
 by_cases q : n < 0
 ·have t1 : decide (n < 0) = true := by simpa using q
  go_enter Tryz.func93, Tryz.ntmps93
  go_wp2
  go_ret
  exact ⟨rfl, Below.refl _ _⟩
 ·have t1 : decide (n < 0) = false := by simpa using q
  have t2 : decide ((281474976710656 : Int) < n) = true := by
   simp; have : ¬ (0 ≤ n ∧ n ≤ 281474976710656) := h
   omega
  go_enter Tryz.func93, Tryz.ntmps93
  go_wp2
  go_ret
  exact ⟨rfl, Below.refl _ _⟩
/-- What a call may write: block r; all else that was there stays. -/
structure Fo (r : Nat) (w w' : World) : Prop where
 os : w'.os = w.os
 tape : w'.tape = w.tape
 output : w'.output = w.output
 size : w.heap.size ≤ w'.heap.size
 block : ∀ k, k < w.heap.size → k ≠ r → w'.heap[k]? = w.heap[k]?
theorem Fo.refl (r : Nat) (w : World) : Fo r w w := ⟨rfl, rfl, rfl, Nat.le_refl _, fun _ _ _ => rfl⟩
theorem Fo.trans {r : Nat} {w w1 w2 : World} (h : Fo r w w1) (k : Fo r w1 w2) : Fo r w w2 :=
 ⟨k.os.trans h.os, k.tape.trans h.tape, k.output.trans h.output, Nat.le_trans h.size k.size, fun j h1 h2 => (k.block j (Nat.lt_of_lt_of_le h1 h.size) h2).trans (h.block j h1 h2)⟩
theorem Fo.of_below {r : Nat} {w w' : World} (h : Below w.heap.size w w') : Fo r w w' := ⟨h.os, h.tape, h.output, h.size, fun k hk _ => h.block k hk⟩
theorem Fo.set {r : Nat} {w w' : World} (h : Fo r w w') (o : Nat) (u : Value) : Fo r w (w'.setCell ⟨r, o, none⟩ u) :=
 ⟨h.os, h.tape, h.output, by simpa using h.size, fun k h1 h2 => (Below.heap_setCell _ _ _ _ h2).trans (h.block k h1 h2)⟩
theorem Bk.fo {r k : Nat} {w w' : World} {T : TypeId} {cs : List Value} (h : Bk w k T cs) (hF : Fo r w w') (hk : k ≠ r) : Bk w' k T cs := (hF.block k h.lt hk).trans h
/-- Texts that are no longer than any machine's memory. -/
structure Rch (l2 : List Ent) (l3 : List Ses) : Prop where
 e2 : ∀ x ∈ l2, x.1.size ≤ 140737488355328 ∧ x.2.1.size ≤ 140737488355328
 e3 : ∀ x ∈ l3, x.2.2.2.1.size ≤ 140737488355328 ∧ ∀ t ∈ x.2.2.2.2.2, t.size ≤ 140737488355328
instance (l : List Fd) : Decidable (Oks l) := by unfold Oks; infer_instance
/-- Texts of an instance, and of a snap, that are no longer than any machine's memory. -/
structure RchI (x : Ins) (y : Snp) : Prop where
 p : x.2.2.2.1.2.2.2.1.size ≤ 140737488355328
 v : x.2.2.2.1.2.2.2.2.1.size ≤ 140737488355328
 s : Rch y.2.1 y.2.2
end Go.Proofs.YtnancdbkmompdaaGreat
namespace Go.Proofs.YtnancdbkmompdaaGreat
open Go.ChangeShapes Go.WideShapes Go.ChangeAt Go.RowKit Go.Joins Go.Deep
set_option linter.unusedSimpArgs false
set_option linter.unusedVariables false
set_option maxRecDepth 100000
set_option maxHeartbeats 40000000
/-- What came in of a type reads so, and is so small, where nothing in it is longer than memory. -/
structure OpensR (P : Program) (t : TypeId) {α : Type} (S : Shp α) (R : α → Prop) : Prop where
 go : ∀ {H : Type} {enc : TypeId × Value → H} {w : World} {base : Nat} {spare : Nat → Bool} {held : Bool} (fuel : Nat) (cs : List Value) (y : DataW H × List MemPlace),
  DataW.trod enc P w base spare held fuel t cs = some y → (∀ n ∈ y.1.weights P t, n ≤ reachBytes) → ∃ x, S.is w cs x ∧ R x
/-- Fields of a struct from the j-th on read so. -/
structure OpensFR (P : Program) (fs : Array Field) (n j off : Nat) {α : Type} (S : Shp α) (R : α → Prop) : Prop where
 go : ∀ {H : Type} {enc : TypeId × Value → H} {w : World} {base : Nat} {spare : Nat → Bool} {held : Bool} (m : Nat) (cs : List Value), cs.length = n →
  (∀ (i : Nat) (f : Field), fs[i]? = some f → ∃ y, DataW.trod enc P w base spare held m f.type ((cs.drop f.offset).take (P.cellsOf f.type)) = some y ∧ ∀ n ∈ y.1.weights P f.type, n ≤ reachBytes) → ∃ x, S.is w (cs.drop off) x ∧ R x
end Go.Proofs.YtnancdbkmompdaaGreat
