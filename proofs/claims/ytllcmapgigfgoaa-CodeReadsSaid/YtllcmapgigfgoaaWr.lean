/-
  Texts put together: CdK, CdL, CdO, CdQ, CdT, CdU.
-/
import Derived.Test.YtllcmapgigfgoaaCdM
import Derived.Deep.RegionHeld3
import Derived.IntWalk
import Derived.Test.YtllcmapgigfgoaaCdS
import Derived.Deep.CutBlock
import Derived.Test.YtllcmapgigfgoaaCd8
import Derived.SizedLaws
namespace Go.Proofs.Ytllcmapgigfgoaa
open Go.RowKit
set_option linter.unusedSimpArgs false
set_option linter.unusedVariables false

theorem step_text {P : Program} {ops : Array Oper} {o : Oper} {a : Act} {w : World} {K : Act → World → Prop} {Q : Exit → Act → World → Prop} (hw : Region.wanted o (yielded ops a.tmps) = true) (src dst : TypeId) (x : Operand)
    (ho : o.op = .convert src dst x) (e : TypeId) (hs : P.underlying src = some (.slice e)) (he : P.underlying e = some (.int .u8)) (hd : P.underlying dst = some .string) (v : Value) (xs : List Int) (hx : a.eval x = v) (hb : Bt w v xs)
    (h : K (a.put o.dst (.string (txt xs))) w) : if Region.wanted o (yielded ops a.tmps) = true then Oper.wp P o a w K Q else K (a.put o.dst undef) w := by
  rw [if_pos hw]
  obtain ⟨ad, cap, rfl, h1, h2⟩ := hb.row
  unfold Oper.wp execOp
  simp only [ho, hx, run_text h1 h2 hs he hd, Sem.run_bind, Sem.run_pure, Result.andThen_ok]
  exact h
theorem build1 (x : Int) (w : World) : (Instr.buildSlice 49 1 #[(0, .int .u8 x)]).run Try.prog w = .ok (.slice (some ⟨w.heap.size, 0, none⟩) 1 1) (w.alloc (.cells #[.int .u8 x] 5)) := by kernel_rfl
theorem step_build1 {ops : Array Oper} {o : Oper} {a : Act} {w : World} {K : Act → World → Prop} {Q : Exit → Act → World → Prop} (hw : Region.wanted o (yielded ops a.tmps) = true) (x : Operand)
    (ho : o.op = .buildSlice 49 1 #[(0, x)]) (xv : Int) (hx : a.eval x = .int .u8 xv)
    (h : ∀ v' w', Bt w' v' [xv] → Below w.heap.size w w' → K (a.put o.dst v') w') : if Region.wanted o (yielded ops a.tmps) = true then Oper.wp Try.prog o a w K Q else K (a.put o.dst undef) w := by
  rw [if_pos hw]
  unfold Oper.wp execOp
  simp only [ho, List.map_toArray, List.map_cons, List.map_nil, hx, build1, Sem.run_bind, Sem.run_pure, Result.andThen_ok]
  exact h _ _ (bt_lit w [xv] 5 (0, 0) (by simp)) ((Below.refl _ w).alloc (Nat.le_refl _) _)
theorem text_byte (w : World) (x : Int) (h : 0 ≤ x ∧ x ≤ 255) (fr : Nat × Nat) : (convert 49 9 (.slice (some ⟨w.heap.size, 0, none⟩) 1 1)).run Try.prog (w.alloc (.cells #[.int .u8 x] 5 fr)) = .ok (.string (txt [x])) (w.alloc (.cells #[.int .u8 x] 5 fr)) := by
  obtain ⟨a, cap, e, h1, h2⟩ := (bt_lit w [x] 5 fr (by simp)).row
  cases e
  exact run_text (xs := [x]) h1 h2 Try.underlying49 Try.underlying5 Try.underlying9
theorem txt_append (a b : List Int) : txt (a ++ b) = txt a ++ txt b := by
  unfold txt
  apply ByteArray.ext
  simp

set_option maxRecDepth 100000 in
set_option maxHeartbeats 4000000 in
theorem refnum_small (f : Nat) (m : Int) (w : World) (h0 : 0 ≤ m) (h : m < 128) : Calls Try.prog 57 #[.int .i64 m] w fun e w' => e = .returned (.string (txt (encN (f + 1) m))) ∧ Below w.heap.size w w' := by
  have kx := fun (w : World) => text_byte w m (by omega)
  have hm : IntKind.u8.wrap m = m := IntWalk.u8_in _ (by omega)
  have t1 : decide (m < 0) = false := by simp; omega
  have t2 : decide ((281474976710656 : Int) < m) = false := by simp; omega
  have E : Hid (encN (f + 1) m = [m]) := by unfold Hid; rw [encN_succ, if_pos h]
  go_enter Try.func57, Try.ntmps57
  go_wp2
  go_ret
  exact ⟨ret_str (by rw [E.out]), (Below.refl _ _).alloc (Nat.le_refl _) _⟩
set_option maxRecDepth 100000 in
set_option maxHeartbeats 8000000 in
theorem refnum_any : ∀ (f : Nat) (m : Int) (w : World), 0 ≤ m → m < 128 ^ (f + 1) → m ≤ 281474976710656 → f ≤ 100 → Calls Try.prog 57 #[.int .i64 m] w fun e w' => e = .returned (.string (txt (encN (f + 1) m))) ∧ Below w.heap.size w w' := by
  intro f
  induction f with
  | zero => intro m w h0 h _ _; exact refnum_small 0 m w h0 (by simpa using h)
  | succ f ih =>
    intro m w h0 h1 h2 hf
    by_cases q : m < 128
    · exact refnum_small (f + 1) m w h0 q
    have h3 : m / 128 < 128 ^ (f + 1) := by rw [Int.pow_succ] at h1; omega
    have HM2 : Hid (m / 128 ≤ 281474976710656) := by unfold Hid; omega
    have HE : Hid (txt [128 + m % 128] ++ txt (encN (f + 1) (m / 128)) = txt (encN (f + 1 + 1) m)) := by
      unfold Hid
      rw [encN_succ (f + 1) m, if_neg q, ← txt_append, Int.add_comm 128]
      rfl
    have zs : (txt [128 + m % 128]).size = 1 := txt_size _
    have zt : (txt (encN (f + 1) (m / 128))).size ≤ f + 1 := by
      rw [txt_size]
      have key : ∀ (f : Nat) (m : Int), (encN f m).length ≤ f := by
        intro f
        induction f with
        | zero => intro m; simp [encN]
        | succ f ih =>
          intro m
          rw [encN_succ]
          split
          · simp
          · rw [List.length_cons]; have := ih (m / 128); omega
      exact key _ _
    have zn : ¬ (9223372036854775807 < 1 + (txt (encN (f + 1) (m / 128))).size) := by omega
    have t1 : decide (m < 0) = false := by simp; omega
    have t2 : decide ((281474976710656 : Int) < m) = false := by simp; omega
    have t3 : decide (m < 128) = false := by simp; omega
    have m1 : m.tmod 128 = m % 128 := IntWalk.rem_in _ _ (by omega)
    have m2 : IntKind.i64.wrap (m.tdiv 128) = m / 128 := IntWalk.i64_quo _ _ ⟨by omega, by omega, by omega⟩
    have m3 : IntKind.i64.wrap (128 + m % 128) = 128 + m % 128 := IntWalk.i64_in _ (by omega)
    have m4 : IntKind.u8.wrap (128 + m % 128) = 128 + m % 128 := IntWalk.u8_in _ (by omega)
    clear zt
    go_enter Try.func57, Try.ntmps57
    go_wp2
    refine wp_region_held_drew (S := fun w' => Below w.heap.size w w') (by kernel_rfl) ?_ (fun hHeld => ?_)
    · (first | exact (Below.refl _ _).drew | exact below_self (by assumption) (by assumption) | exact (by assumption : Below _ w _).alloc (by assumption : Below _ w _).size _ | assumption)
    refine wpAnyH_take (i := 0) (v := ?_) rfl (by kernel_rfl) (by kernel_rfl) (by kernel_rfl) (fun _ _ _ h => h) (Or.inl ⟨by rfl, ?_⟩) (by assumption) ?_
    rotate_left
    · (intro w hSw; (try dsimp only at hSw); go_simp; try rfl)
    try simp only [Act.put, List.setIfInBounds_toArray, List.set_cons_zero, List.set_cons_succ, List.getElem_toArray, List.getElem_cons_zero, List.getElem_cons_succ]
    refine wpAnyH_take (i := 1) (v := ?_) rfl (by kernel_rfl) (by kernel_rfl) (by kernel_rfl) (fun _ _ _ h => h) (Or.inl ⟨by rfl, ?_⟩) (by assumption) ?_
    rotate_left
    · (intro w hSw; (try dsimp only at hSw); go_simp; try rfl)
    try simp only [Act.put, List.setIfInBounds_toArray, List.set_cons_zero, List.set_cons_succ, List.getElem_toArray, List.getElem_cons_zero, List.getElem_cons_succ]
    refine wpAnyH_take (i := 2) (v := ?_) rfl (by kernel_rfl) (by kernel_rfl) (by kernel_rfl) (fun _ _ _ h => h) (Or.inl ⟨by rfl, ?_⟩) (by assumption) ?_
    rotate_left
    · (intro w hSw; (try dsimp only at hSw); go_simp; try rfl)
    try simp only [Act.put, List.setIfInBounds_toArray, List.set_cons_zero, List.set_cons_succ, List.getElem_toArray, List.getElem_cons_zero, List.getElem_cons_succ]
    refine wpAnyH_take (i := 3) (v := ?_) rfl (by kernel_rfl) (by kernel_rfl) (by kernel_rfl) (fun _ _ _ h => h) (Or.inl ⟨by rfl, ?_⟩) (by assumption) ?_
    rotate_left
    · (intro w hSw; (try dsimp only at hSw); go_simp; try rfl)
    try simp only [Act.put, List.setIfInBounds_toArray, List.set_cons_zero, List.set_cons_succ, List.getElem_toArray, List.getElem_cons_zero, List.getElem_cons_succ]
    refine wpAnyH_take (i := 6) (v := ?_) rfl (by kernel_rfl) (by kernel_rfl) (by kernel_rfl) (fun _ _ _ h => h) (Or.inl ⟨by rfl, ?_⟩) (by assumption) ?_
    rotate_left
    · (intro w hSw; (try dsimp only at hSw); go_simp; try rfl)
    try simp only [Act.put, List.setIfInBounds_toArray, List.set_cons_zero, List.set_cons_succ, List.getElem_toArray, List.getElem_cons_zero, List.getElem_cons_succ]
    refine wpAnyH_take (i := 7) (v := ?_) rfl (by kernel_rfl) (by kernel_rfl) (by kernel_rfl) (fun _ _ _ h => h) (Or.inl ⟨by rfl, ?_⟩) (by assumption) ?_
    rotate_left
    · (intro w hSw; (try dsimp only at hSw); go_simp; try rfl)
    try simp only [Act.put, List.setIfInBounds_toArray, List.set_cons_zero, List.set_cons_succ, List.getElem_toArray, List.getElem_cons_zero, List.getElem_cons_succ]
    refine wpAnyH_ready (rs := [4, 8]) (by kernel_rfl) (by simp) ?_
    refine (AllReadyH.cons rfl (fun K hK => ?_) (AllReadyH.cons rfl (fun K hK => ?_) AllReadyH.nil))
    ·
      refine step_build1 (by rfl) _ rfl (128 + m % 128) rfl ?_
      intro v4 w4 ht4 hb4
      have HT4 := Lib.hid ht4
      clear ht4
      refine hK.out _ _ ?_ (fun hHeld => ?_)
      · (first | exact (Below.refl _ _).drew | exact below_self (by assumption) (by assumption) | exact (by assumption : Below _ w _).alloc (by assumption : Below _ w _).size _ | assumption)
      clear hK K
      try simp only [Act.put, List.setIfInBounds_toArray, List.set_cons_zero, List.set_cons_succ, List.getElem_toArray, List.getElem_cons_zero, List.getElem_cons_succ]
      refine wpAnyH_ready (rs := [5, 8]) (by kernel_rfl) (by simp) ?_
      refine (AllReadyH.cons rfl (fun K hK => ?_) (AllReadyH.cons rfl (fun K hK => ?_) AllReadyH.nil))
      ·
        refine step_text (by rfl) 49 9 _ rfl 5 Try.underlying49 Try.underlying5 Try.underlying9 _ [128 + m % 128] rfl (by first | exact HT4.out | exact HT4.out.below (by assumption)) ?_
        refine hK.out _ _ ?_ (fun hHeld => ?_)
        · (first | exact (Below.refl _ _).drew | exact below_self (by assumption) (by assumption) | exact (by assumption : Below _ w _).alloc (by assumption : Below _ w _).size _ | assumption)
        clear hK K
        try simp only [Act.put, List.setIfInBounds_toArray, List.set_cons_zero, List.set_cons_succ, List.getElem_toArray, List.getElem_cons_zero, List.getElem_cons_succ]
        refine wpAnyH_ready (rs := [8]) (by kernel_rfl) (by simp) ?_
        refine (AllReadyH.cons rfl (fun K hK => ?_) AllReadyH.nil)
        go_simp
        (go_at_call 57; refine (ih (m / 128) _ (by omega) h3 HM2.out (by omega)).mono ?_; rintro e y ⟨rfl, hy⟩)
        refine hK.out _ _ ?_ (fun hHeld => ?_)
        · (first | exact (Below.refl _ _).drew | exact below_self (by assumption) (by assumption) | exact (by assumption : Below _ w _).alloc (by assumption : Below _ w _).size _ | assumption)
        clear hK K
        try simp only [Act.put, List.setIfInBounds_toArray, List.set_cons_zero, List.set_cons_succ, List.getElem_toArray, List.getElem_cons_zero, List.getElem_cons_succ]
        refine wpAnyH_take (i := 9) (v := ?_) rfl (by kernel_rfl) (by kernel_rfl) (by kernel_rfl) (fun _ _ _ h => h) (Or.inl ⟨by rfl, ?_⟩) (by assumption) ?_
        rotate_left
        · (intro w hSw; (try dsimp only at hSw); go_simp; try rfl)
        try simp only [Act.put, List.setIfInBounds_toArray, List.set_cons_zero, List.set_cons_succ, List.getElem_toArray, List.getElem_cons_zero, List.getElem_cons_succ]
        refine wpAnyH_take (i := 10) (v := ?_) rfl (by kernel_rfl) (by kernel_rfl) (by kernel_rfl) (fun _ _ _ h => h) (Or.inl ⟨by rfl, ?_⟩) (by assumption) ?_
        rotate_left
        · (intro w hSw; (try dsimp only at hSw); go_simp; try rfl)
        try simp only [Act.put, List.setIfInBounds_toArray, List.set_cons_zero, List.set_cons_succ, List.getElem_toArray, List.getElem_cons_zero, List.getElem_cons_succ]
        refine wpAnyH_done (by kernel_rfl) ?_ _
        go_wp2
        go_ret
        exact ⟨ret_str HE.out, by assumption⟩
      ·
        go_simp
        (go_at_call 57; refine (ih (m / 128) _ (by omega) h3 HM2.out (by omega)).mono ?_; rintro e y ⟨rfl, hy⟩)
        refine hK.out _ _ ?_ (fun hHeld => ?_)
        · (first | exact (Below.refl _ _).drew | exact below_self (by assumption) (by assumption) | exact (by assumption : Below _ w _).alloc (by assumption : Below _ w _).size _ | assumption)
        clear hK K
        try simp only [Act.put, List.setIfInBounds_toArray, List.set_cons_zero, List.set_cons_succ, List.getElem_toArray, List.getElem_cons_zero, List.getElem_cons_succ]
        refine wpAnyH_ready (rs := [5]) (by kernel_rfl) (by simp) ?_
        refine (AllReadyH.cons rfl (fun K hK => ?_) AllReadyH.nil)
        refine step_text (by rfl) 49 9 _ rfl 5 Try.underlying49 Try.underlying5 Try.underlying9 _ [128 + m % 128] rfl (by first | exact HT4.out | exact HT4.out.below (by assumption)) ?_
        refine hK.out _ _ ?_ (fun hHeld => ?_)
        · (first | exact (Below.refl _ _).drew | exact below_self (by assumption) (by assumption) | exact (by assumption : Below _ w _).alloc (by assumption : Below _ w _).size _ | assumption)
        clear hK K
        try simp only [Act.put, List.setIfInBounds_toArray, List.set_cons_zero, List.set_cons_succ, List.getElem_toArray, List.getElem_cons_zero, List.getElem_cons_succ]
        refine wpAnyH_take (i := 9) (v := ?_) rfl (by kernel_rfl) (by kernel_rfl) (by kernel_rfl) (fun _ _ _ h => h) (Or.inl ⟨by rfl, ?_⟩) (by assumption) ?_
        rotate_left
        · (intro w hSw; (try dsimp only at hSw); go_simp; try rfl)
        try simp only [Act.put, List.setIfInBounds_toArray, List.set_cons_zero, List.set_cons_succ, List.getElem_toArray, List.getElem_cons_zero, List.getElem_cons_succ]
        refine wpAnyH_take (i := 10) (v := ?_) rfl (by kernel_rfl) (by kernel_rfl) (by kernel_rfl) (fun _ _ _ h => h) (Or.inl ⟨by rfl, ?_⟩) (by assumption) ?_
        rotate_left
        · (intro w hSw; (try dsimp only at hSw); go_simp; try rfl)
        try simp only [Act.put, List.setIfInBounds_toArray, List.set_cons_zero, List.set_cons_succ, List.getElem_toArray, List.getElem_cons_zero, List.getElem_cons_succ]
        refine wpAnyH_done (by kernel_rfl) ?_ _
        go_wp2
        go_ret
        exact ⟨ret_str HE.out, by assumption⟩
    ·
      go_simp
      (go_at_call 57; refine (ih (m / 128) _ (by omega) h3 HM2.out (by omega)).mono ?_; rintro e y ⟨rfl, hy⟩)
      refine hK.out _ _ ?_ (fun hHeld => ?_)
      · (first | exact (Below.refl _ _).drew | exact below_self (by assumption) (by assumption) | exact (by assumption : Below _ w _).alloc (by assumption : Below _ w _).size _ | assumption)
      clear hK K
      try simp only [Act.put, List.setIfInBounds_toArray, List.set_cons_zero, List.set_cons_succ, List.getElem_toArray, List.getElem_cons_zero, List.getElem_cons_succ]
      refine wpAnyH_ready (rs := [4]) (by kernel_rfl) (by simp) ?_
      refine (AllReadyH.cons rfl (fun K hK => ?_) AllReadyH.nil)
      refine step_build1 (by rfl) _ rfl (128 + m % 128) rfl ?_
      intro v4 w4 ht4 hb4
      have HT4 := Lib.hid ht4
      clear ht4
      refine hK.out _ _ ?_ (fun hHeld => ?_)
      · (first | exact (Below.refl _ _).drew | exact below_self (by assumption) (by assumption) | exact (by assumption : Below _ w _).alloc (by assumption : Below _ w _).size _ | assumption)
      clear hK K
      try simp only [Act.put, List.setIfInBounds_toArray, List.set_cons_zero, List.set_cons_succ, List.getElem_toArray, List.getElem_cons_zero, List.getElem_cons_succ]
      refine wpAnyH_ready (rs := [5]) (by kernel_rfl) (by simp) ?_
      refine (AllReadyH.cons rfl (fun K hK => ?_) AllReadyH.nil)
      refine step_text (by rfl) 49 9 _ rfl 5 Try.underlying49 Try.underlying5 Try.underlying9 _ [128 + m % 128] rfl (by first | exact HT4.out | exact HT4.out.below (by assumption)) ?_
      refine hK.out _ _ ?_ (fun hHeld => ?_)
      · (first | exact (Below.refl _ _).drew | exact below_self (by assumption) (by assumption) | exact (by assumption : Below _ w _).alloc (by assumption : Below _ w _).size _ | assumption)
      clear hK K
      try simp only [Act.put, List.setIfInBounds_toArray, List.set_cons_zero, List.set_cons_succ, List.getElem_toArray, List.getElem_cons_zero, List.getElem_cons_succ]
      refine wpAnyH_take (i := 9) (v := ?_) rfl (by kernel_rfl) (by kernel_rfl) (by kernel_rfl) (fun _ _ _ h => h) (Or.inl ⟨by rfl, ?_⟩) (by assumption) ?_
      rotate_left
      · (intro w hSw; (try dsimp only at hSw); go_simp; try rfl)
      try simp only [Act.put, List.setIfInBounds_toArray, List.set_cons_zero, List.set_cons_succ, List.getElem_toArray, List.getElem_cons_zero, List.getElem_cons_succ]
      refine wpAnyH_take (i := 10) (v := ?_) rfl (by kernel_rfl) (by kernel_rfl) (by kernel_rfl) (fun _ _ _ h => h) (Or.inl ⟨by rfl, ?_⟩) (by assumption) ?_
      rotate_left
      · (intro w hSw; (try dsimp only at hSw); go_simp; try rfl)
      try simp only [Act.put, List.setIfInBounds_toArray, List.set_cons_zero, List.set_cons_succ, List.getElem_toArray, List.getElem_cons_zero, List.getElem_cons_succ]
      refine wpAnyH_done (by kernel_rfl) ?_ _
      go_wp2
      go_ret
      exact ⟨ret_str HE.out, by assumption⟩
theorem refnum_ok (n : Int) (w : World) (h : okN n) : Calls Try.prog 57 #[.int .i64 n] w fun e w' => e = .returned (.string (txt (enc n))) ∧ Below w.heap.size w w' :=
  refnum_any 7 n w h.1 (by have p : (128 : Int) ^ (7 + 1) = 72057594037927936 := by decide
                           rw [p]; have := h.2; omega) h.2 (by omega)
set_option maxHeartbeats 1600000 in
theorem refnum_bad (n : Int) (w : World) (h : ¬ okN n) : Calls Try.prog 57 #[.int .i64 n] w fun e w' => e = .returned (.string ⟨#[]⟩) ∧ Below w.heap.size w w' := by
  by_cases q : n < 0
  · have t1 : decide (n < 0) = true := by simpa using q
    go_enter Try.func57, Try.ntmps57
    go_wp2
    go_ret
    exact ⟨rfl, Below.refl _ _⟩
  · have t1 : decide (n < 0) = false := by simpa using q
    have t2 : decide ((281474976710656 : Int) < n) = true := by
      simp; have : ¬ (0 ≤ n ∧ n ≤ 281474976710656) := h
      omega
    go_enter Try.func57, Try.ntmps57
    go_wp2
    go_ret
    exact ⟨rfl, Below.refl _ _⟩
end Go.Proofs.Ytllcmapgigfgoaa
namespace Go.Proofs.Ytllcmapgigfgoaa
open Go.RowKit
set_option linter.unusedSimpArgs false
set_option linter.unusedVariables false

/-- What a call may write: block r; all else that was there stays. -/
structure Fo (r : Nat) (w w' : World) : Prop where
  os : w'.os = w.os
  tape : w'.tape = w.tape
  output : w'.output = w.output
  size : w.heap.size ≤ w'.heap.size
  block : ∀ k, k < w.heap.size → k ≠ r → w'.heap[k]? = w.heap[k]?
theorem Fo.refl (r : Nat) (w : World) : Fo r w w := ⟨rfl, rfl, rfl, Nat.le_refl _, fun _ _ _ => rfl⟩
theorem Fo.trans {r : Nat} {w w1 w2 : World} (h : Fo r w w1) (k : Fo r w1 w2) : Fo r w w2 :=
  ⟨k.os.trans h.os, k.tape.trans h.tape, k.output.trans h.output, Nat.le_trans h.size k.size, fun j h1 h2 => (k.block j (Nat.lt_of_lt_of_le h1 h.size) h2).trans (h.block j h1 h2)⟩
theorem Fo.of_below {r : Nat} {w w' : World} (h : Below w.heap.size w w') : Fo r w w' := ⟨h.os, h.tape, h.output, h.size, fun k hk _ => h.block k hk⟩
theorem Fo.set {r : Nat} {w w' : World} (h : Fo r w w') (o : Nat) (u : Value) : Fo r w (w'.setCell ⟨r, o, none⟩ u) :=
  ⟨h.os, h.tape, h.output, by simpa using h.size, fun k h1 h2 => (Below.heap_setCell _ _ _ _ h2).trans (h.block k h1 h2)⟩
theorem Fo.low {r B : Nat} {w w' : World} (h : Fo r w w') (hr : B ≤ r) (hB : B ≤ w.heap.size) : Below B w w' := ⟨h.os, h.tape, h.output, h.size, fun k hk => h.block k (by omega) (by omega)⟩
theorem Bk.fo {r k : Nat} {w w' : World} {T : TypeId} {cs : List Value} (h : Bk w k T cs) (hF : Fo r w w') (hk : k ≠ r) : Bk w' k T cs := (hF.block k h.lt hk).trans h
/-- The document's writer at r. -/
def OO (w : World) (r M : Nat) (st : Option (List Int)) : Prop := ∃ s : ByteArray, Bk w r 80 [.string s, .bool st.isNone] ∧ (st = none → s.size ≤ M) ∧ ∀ xs, st = some xs → byt s = xs
theorem OO.lt {w : World} {r M : Nat} {st : Option (List Int)} (h : OO w r M st) : r < w.heap.size := by obtain ⟨s, h, _⟩ := h; exact h.lt
theorem OO.below {w w' : World} {r M : Nat} {st : Option (List Int)} (h : OO w r M st) (hb : Below w.heap.size w w') : OO w' r M st := by
  obtain ⟨s, h, h2⟩ := h
  exact ⟨s, h.below hb, h2⟩
theorem OO.mono {w : World} {r M N : Nat} {st : Option (List Int)} (h : OO w r M st) (hM : M ≤ N) : OO w r N st := by
  obtain ⟨s, h, h2, h3⟩ := h
  exact ⟨s, h, fun q => Nat.le_trans (h2 q) hM, h3⟩
theorem OO.again {w : World} {r M N : Nat} {xs : List Int} (h : OO w r M (some xs)) : OO w r N (some xs) := by
  obtain ⟨s, h, h2, h3⟩ := h
  exact ⟨s, h, (fun q => by cases q), h3⟩
theorem OO.size {w : World} {r M : Nat} {st : Option (List Int)} {s : ByteArray} (h2 : st = none → s.size ≤ M) (h3 : ∀ xs, st = some xs → byt s = xs) (hs : (stl st).length ≤ 99999995000) (hM : 100000000000 ≤ M) : s.size ≤ M := by
  cases st with
  | none => exact h2 rfl
  | some xs =>
    have h4 := h3 xs rfl
    have h5 := byt_length s
    rw [h4] at h5
    simp [stl] at hs
    omega
def OP (r M : Nat) (st : Option (List Int)) (w : World) (e : Ending) (w' : World) : Prop := Hid (e = .returned (.tuple #[])) ∧ OO w' r M st ∧ Fo r w w'
theorem oo_upd {w w1 : World} {r M : Nat} {s t : ByteArray} {b b' : Bool} {st' : Option (List Int)} (hk : Bk w1 r 80 [.string s, .bool b]) (hF : Fo r w w1) (hb : b' = st'.isNone) (hn : st' = none → (s ++ t).size ≤ M) (hs : ∀ xs, st' = some xs → byt (s ++ t) = xs) :
    OO ((w1.setCell ⟨r, 1, none⟩ (.bool b')).setCell ⟨r, 0, none⟩ (.string (s ++ t))) r M st' ∧ Fo r w ((w1.setCell ⟨r, 1, none⟩ (.bool b')).setCell ⟨r, 0, none⟩ (.string (s ++ t))) :=
  ⟨⟨s ++ t, by rw [← hb]; exact (hk.set 1 (.bool b')).set 0 (.string (s ++ t)), hn, hs⟩, (hF.set 1 _).set 0 _⟩
theorem enc_ne (n : Int) (h : okN n) : enc n ≠ [] := by
  intro e
  unfold enc at e
  rw [encN_succ] at e
  split at e <;> cases e
set_option maxRecDepth 100000 in
set_option maxHeartbeats 1600000 in
theorem ro_num (r M : Nat) (n : Int) (st : Option (List Int)) (w : World) (h : OO w r M st) (hs : (stl st).length ≤ 99999995000) (hM : 100000000000 ≤ M ∧ M ≤ 9000000000000000000) :
    Calls Try.prog 28 #[.pointer (some ⟨r, 0, none⟩), .int .i64 n] w (OP r (M + 8) (wr1 st (.num n)) w) := by
  obtain ⟨s, hk, hn, hx⟩ := h
  have hsz := OO.size (w := w) (r := r) hn hx hs hM.1
  have HK := Lib.hid hk
  by_cases q : okN n
  · have hlt : (txt (enc n)).size ≤ 8 := by rw [txt_size]; exact enc_max n
    have k5 : ¬ (9223372036854775807 < s.size + (txt (enc n)).size) := by omega
    have hne : ((txt (enc n)).toList == []) = false := by
      have e := toList_eq_iff (txt (enc n)) ⟨#[]⟩
      rw [byt_txt (enc_byte n q)] at e
      have e2 : (ByteArray.toList ⟨#[]⟩) = [] := by simp
      rw [e2] at e
      rw [e]
      exact decide_eq_false (enc_ne n q)
    have HU : Hid (∀ w1 : World, Below w.heap.size w w1 → OO ((w1.setCell ⟨r, 1, none⟩ (.bool st.isNone)).setCell ⟨r, 0, none⟩ (.string (s ++ txt (enc n)))) r (M + 8) (wr1 st (.num n)) ∧ Fo r w ((w1.setCell ⟨r, 1, none⟩ (.bool st.isNone)).setCell ⟨r, 0, none⟩ (.string (s ++ txt (enc n))))) := Lib.hid (fun w1 hb => by
      refine oo_upd (b := st.isNone) (st' := wr1 st (.num n)) (hk.below hb) (Fo.of_below hb) ?_ (fun _ => by rw [ByteArray.size_append]; omega) (fun xs e => ?_)
      · cases st with
        | none => rfl
        | some ys => rw [wr1_ok rfl (show (Fd.num n).ok from q)]; rfl
      · cases st with
        | none => cases e
        | some ys =>
          rw [wr1_ok rfl (show (Fd.num n).ok from q)] at e
          cases e
          rw [byt_append, hx ys rfl, byt_txt (enc_byte n q)]
          rfl)
    clear hn hx hs hk
    cases st with
    | none =>
      go_enter Try.func28, Try.ntmps28
      go_wp2_with fail
      refine (refnum_ok n w q).mono ?_
      rintro e w1 ⟨rfl, hb⟩
      have hc := (HK.out.below hb)
      have c0 := hc.cell 0
      have c1 := hc.cell 1
      have z0 := hc.fz 0
      have z1 := hc.fz 1
      simp only [List.getElem?_cons_zero, List.getElem?_cons_succ, Option.isNone_none, Option.isNone_some] at c0 c1
      have HB := Lib.hid hb
      clear hb hc
      go_wp2_with fail
      go_end0
      exact ⟨rfl, HU.out w1 HB.out⟩
    | some ys =>
      go_enter Try.func28, Try.ntmps28
      go_wp2_with fail
      refine (refnum_ok n w q).mono ?_
      rintro e w1 ⟨rfl, hb⟩
      have hc := (HK.out.below hb)
      have c0 := hc.cell 0
      have c1 := hc.cell 1
      have z0 := hc.fz 0
      have z1 := hc.fz 1
      simp only [List.getElem?_cons_zero, List.getElem?_cons_succ, Option.isNone_none, Option.isNone_some] at c0 c1
      have HB := Lib.hid hb
      clear hb hc
      go_wp2_with fail
      go_end0
      exact ⟨rfl, HU.out w1 HB.out⟩
  · have k5 : ¬ (9223372036854775807 < s.size + 0) := by omega
    have HU : Hid (∀ w1 : World, Below w.heap.size w w1 → OO ((w1.setCell ⟨r, 1, none⟩ (.bool true)).setCell ⟨r, 0, none⟩ (.string (s ++ ⟨#[]⟩))) r (M + 8) (wr1 st (.num n)) ∧ Fo r w ((w1.setCell ⟨r, 1, none⟩ (.bool true)).setCell ⟨r, 0, none⟩ (.string (s ++ ⟨#[]⟩)))) := Lib.hid (fun w1 hb => by
      have e := wr1_bad (st := st) (show ¬ (Fd.num n).ok from q)
      rw [e]
      exact oo_upd (b := st.isNone) (hk.below hb) (Fo.of_below hb) rfl (fun _ => by rw [ByteArray.size_append]; show s.size + 0 ≤ _; omega) (fun xs e => by cases e))
    clear hn hx hs hk
    cases st with
    | none =>
      go_enter Try.func28, Try.ntmps28
      go_wp2_with fail
      refine (refnum_bad n w q).mono ?_
      rintro e w1 ⟨rfl, hb⟩
      have hc := (HK.out.below hb)
      have c0 := hc.cell 0
      have c1 := hc.cell 1
      have z0 := hc.fz 0
      have z1 := hc.fz 1
      simp only [List.getElem?_cons_zero, List.getElem?_cons_succ, Option.isNone_none, Option.isNone_some] at c0 c1
      have HB := Lib.hid hb
      clear hb hc
      go_wp2_with fail
      go_end0
      exact ⟨rfl, HU.out w1 HB.out⟩
    | some ys =>
      go_enter Try.func28, Try.ntmps28
      go_wp2_with fail
      refine (refnum_bad n w q).mono ?_
      rintro e w1 ⟨rfl, hb⟩
      have hc := (HK.out.below hb)
      have c0 := hc.cell 0
      have c1 := hc.cell 1
      have z0 := hc.fz 0
      have z1 := hc.fz 1
      simp only [List.getElem?_cons_zero, List.getElem?_cons_succ, Option.isNone_none, Option.isNone_some] at c0 c1
      have HB := Lib.hid hb
      clear hb hc
      go_wp2_with fail
      go_end0
      exact ⟨rfl, HU.out w1 HB.out⟩
/-- A field that is told to be spoilt, or not. -/
theorem oo_flag {w : World} {r M : Nat} {s : ByteArray} {b b' : Bool} {st' : Option (List Int)} (hk : Bk w r 80 [.string s, .bool b]) (hb : b' = st'.isNone) (hn : st' = none → s.size ≤ M) (hs : ∀ xs, st' = some xs → byt s = xs) :
    OO (w.setCell ⟨r, 1, none⟩ (.bool b')) r M st' ∧ Fo r w (w.setCell ⟨r, 1, none⟩ (.bool b')) :=
  ⟨⟨s, by rw [← hb]; exact hk.set 1 (.bool b'), hn, hs⟩, (Fo.refl _ _).set 1 _⟩
theorem oo_add {w : World} {r M : Nat} {s t : ByteArray} {b : Bool} {st' : Option (List Int)} (hk : Bk w r 80 [.string s, .bool b]) (hb : b = st'.isNone) (hn : st' = none → (s ++ t).size ≤ M) (hs : ∀ xs, st' = some xs → byt (s ++ t) = xs) :
    OO (w.setCell ⟨r, 0, none⟩ (.string (s ++ t))) r M st' ∧ Fo r w (w.setCell ⟨r, 0, none⟩ (.string (s ++ t))) :=
  ⟨⟨s ++ t, by rw [← hb]; exact hk.set 0 (.string (s ++ t)), hn, hs⟩, (Fo.refl _ _).set 0 _⟩
theorem wr1_num_cnt (st : Option (List Int)) (n : Nat) (h : n ≤ 1024) : wr1 st (.num n) = wr1 st (.cnt n) := by
  have hk : (Fd.num (n : Int)).ok := ⟨by omega, by omega⟩
  cases st with
  | none => rfl
  | some xs => rw [wr1_ok rfl hk, wr1_ok rfl (show (Fd.cnt n).ok from h)]; rfl
theorem stl_num (st : Option (List Int)) (n : Int) : (stl (wr1 st (.num n))).length ≤ (stl st).length + 8 := by
  by_cases q : okN n
  · cases st with
    | none => simp [wr1, stl]
    | some xs =>
      rw [wr1_ok rfl (show (Fd.num n).ok from q)]
      have h1 : (Fd.num n).enc.length ≤ 8 := enc_max n
      simp only [stl, Option.getD_some, List.length_append]
      omega
  · rw [wr1_bad (show ¬ (Fd.num n).ok from q)]
    simp [stl]
set_option maxRecDepth 100000 in
set_option maxHeartbeats 1600000 in
theorem ro_list (r M : Nat) (n : Nat) (st : Option (List Int)) (w : World) (h : OO w r M st) (hs : (stl st).length ≤ 99999990000) (hM : 100000000000 ≤ M ∧ M ≤ 9000000000000000000) (hn9 : n ≤ 9223372036854775807) :
    Calls Try.prog 59 #[.pointer (some ⟨r, 0, none⟩), .int .i64 n] w (OP r (M + 8) (wr1 st (.cnt n)) w) := by
  obtain ⟨s, hk, hn, hx⟩ := h
  have hsz := OO.size (w := w) (r := r) hn hx (by omega) hM.1
  have HK := Lib.hid hk
  have c1 := hk.cell 1
  have z1 := hk.fz 1
  simp only [List.getElem?_cons_zero, List.getElem?_cons_succ] at c1
  by_cases q : n ≤ 1024
  · have q1 : decide ((1024 : Int) < (n : Int)) = false := decide_eq_false (by omega)
    have q2 : decide (1024 < n) = false := decide_eq_false (by omega)
    have HU := Lib.hid (oo_flag (M := M) hk (b' := st.isNone) rfl hn hx)
    have hE := wr1_num_cnt st n q
    have HE := Lib.hid hE
    clear hk hn hx hE
    cases st with
    | none =>
      simp only [Option.isNone_none] at c1
      go_enter Try.func59, Try.ntmps59
      go_wp2_with fail
      refine (ro_num r M n none _ HU.out.1 (by omega) hM).mono ?_
      rintro e w2 ⟨he, h1, h2⟩
      rw [he.out]
      rw [HE.out] at h1
      have H1 := Lib.hid h1
      have H2 := Lib.hid (HU.out.2.trans h2)
      clear he h1 h2
      go_wp2_with fail
      go_end0
      exact ⟨rfl, H1.out, H2.out⟩
    | some ys =>
      simp only [Option.isNone_some] at c1
      go_enter Try.func59, Try.ntmps59
      go_wp2_with fail
      refine (ro_num r M n (some ys) _ HU.out.1 (by omega) hM).mono ?_
      rintro e w2 ⟨he, h1, h2⟩
      rw [he.out]
      rw [HE.out] at h1
      have H1 := Lib.hid h1
      have H2 := Lib.hid (HU.out.2.trans h2)
      clear he h1 h2
      go_wp2_with fail
      go_end0
      exact ⟨rfl, H1.out, H2.out⟩
  · have q1 : decide ((1024 : Int) < (n : Int)) = true := decide_eq_true (by omega)
    have q2 : decide (1024 < n) = true := decide_eq_true (by omega)
    have HU : Hid (OO (w.setCell ⟨r, 1, none⟩ (.bool true)) r M none ∧ Fo r w (w.setCell ⟨r, 1, none⟩ (.bool true))) := Lib.hid (oo_flag (M := M) hk rfl (fun _ => hsz) (fun xs e => by cases e))
    have HE := Lib.hid (wr1_bad (st := st) (show ¬ (Fd.cnt n).ok from q))
    rw [HE.out]
    clear hk hn hx HE
    cases st with
    | none =>
      simp only [Option.isNone_none] at c1
      go_enter Try.func59, Try.ntmps59
      go_wp2_with fail
      refine (ro_num r M n none _ HU.out.1 (by simp [stl]) hM).mono ?_
      rintro e w2 ⟨he, h1, h2⟩
      rw [he.out]
      have H1 := Lib.hid h1
      have H2 := Lib.hid (HU.out.2.trans h2)
      clear he h1 h2
      go_wp2_with fail
      go_end0
      exact ⟨rfl, H1.out, H2.out⟩
    | some ys =>
      simp only [Option.isNone_some] at c1
      go_enter Try.func59, Try.ntmps59
      go_wp2_with fail
      refine (ro_num r M n none _ HU.out.1 (by simp [stl]) hM).mono ?_
      rintro e w2 ⟨he, h1, h2⟩
      rw [he.out]
      have H1 := Lib.hid h1
      have H2 := Lib.hid (HU.out.2.trans h2)
      clear he h1 h2
      go_wp2_with fail
      go_end0
      exact ⟨rfl, H1.out, H2.out⟩
set_option maxRecDepth 100000 in
set_option maxHeartbeats 1600000 in
theorem ro_text (r M : Nat) (t : ByteArray) (st : Option (List Int)) (w : World) (h : OO w r M st) (hs : (stl st).length ≤ 99999990000) (hM : 100000000000 ≤ M ∧ M ≤ 9000000000000000000) (ht : t.size ≤ 140737488355328) :
    Calls Try.prog 58 #[.pointer (some ⟨r, 0, none⟩), .string t] w (OP r (M + 140737488355336) (wr1 st (.txt t)) w) := by
  obtain ⟨s, hk, hn, hx⟩ := h
  have hsz := OO.size (w := w) (r := r) hn hx (by omega) hM.1
  have HK := Lib.hid hk
  have c1 := hk.cell 1
  have z1 := hk.fz 1
  have hst : (t.size : Int) ≤ 9223372036854775807 := by omega
  simp only [List.getElem?_cons_zero, List.getElem?_cons_succ] at c1
  by_cases q : t.size ≤ 4096
  · have q1 : decide ((4096 : Int) < (t.size : Int)) = false := decide_eq_false (by omega)
    have q2 : decide (4096 < t.size) = false := decide_eq_false (by omega)
    have HU := Lib.hid (oo_flag (M := M) hk (b' := st.isNone) rfl hn hx)
    have hF : ∀ (s2 : ByteArray), (∀ xs, wr1 st (.num t.size) = some xs → byt s2 = xs) → ∀ xs, wr1 st (.txt t) = some xs → byt (s2 ++ t) = xs := by
      intro s2 h2 xs e
      cases st with
      | none => cases e
      | some ys =>
        rw [wr1_ok rfl (show (Fd.txt t).ok from q)] at e
        cases e
        rw [byt_append, h2 _ (wr1_ok rfl (show (Fd.num (t.size : Int)).ok from ⟨by omega, by omega⟩))]
        show (ys ++ enc t.size) ++ byt t = ys ++ (enc t.size ++ byt t)
        rw [List.append_assoc]
    have hB : (wr1 st (.num t.size)).isNone = (wr1 st (.txt t)).isNone := by
      cases st with
      | none => rfl
      | some ys => rw [wr1_ok rfl (show (Fd.txt t).ok from q), wr1_ok rfl (show (Fd.num (t.size : Int)).ok from ⟨by omega, by omega⟩)]; rfl
    have HF := Lib.hid hF
    have HB := Lib.hid hB
    clear hk hn hx hF hB
    cases st with
    | none =>
      simp only [Option.isNone_none] at c1
      go_enter Try.func58, Try.ntmps58
      go_wp2_with fail
      refine (ro_num r M t.size none _ HU.out.1 (by omega) hM).mono ?_
      rintro e w2 ⟨he, ⟨s2, hk2, hn2, hx2⟩, h2⟩
      rw [he.out]
      have hsz2 := OO.size (w := w2) (r := r) hn2 hx2 (by have := stl_num none t.size; omega) (by omega)
      have d0 := hk2.cell 0
      have z0 := hk2.fz 0
      simp only [List.getElem?_cons_zero] at d0
      have k5 : ¬ (9223372036854775807 < s2.size + t.size) := by omega
      have H1 := Lib.hid (oo_add (M := M + 140737488355336) (t := t) (st' := wr1 none (.txt t)) hk2 HB.out (fun _ => by rw [ByteArray.size_append]; omega) (HF.out s2 hx2))
      have H2 := Lib.hid (HU.out.2.trans h2)
      clear he hk2 hn2 hx2 h2
      go_wp2_with fail
      go_end0
      exact ⟨rfl, H1.out.1, H2.out.trans H1.out.2⟩
    | some ys =>
      simp only [Option.isNone_some] at c1
      go_enter Try.func58, Try.ntmps58
      go_wp2_with fail
      refine (ro_num r M t.size (some ys) _ HU.out.1 (by omega) hM).mono ?_
      rintro e w2 ⟨he, ⟨s2, hk2, hn2, hx2⟩, h2⟩
      rw [he.out]
      have hsz2 := OO.size (w := w2) (r := r) hn2 hx2 (by have := stl_num (some ys) t.size; omega) (by omega)
      have d0 := hk2.cell 0
      have z0 := hk2.fz 0
      simp only [List.getElem?_cons_zero] at d0
      have k5 : ¬ (9223372036854775807 < s2.size + t.size) := by omega
      have H1 := Lib.hid (oo_add (M := M + 140737488355336) (t := t) (st' := wr1 (some ys) (.txt t)) hk2 HB.out (fun _ => by rw [ByteArray.size_append]; omega) (HF.out s2 hx2))
      have H2 := Lib.hid (HU.out.2.trans h2)
      clear he hk2 hn2 hx2 h2
      go_wp2_with fail
      go_end0
      exact ⟨rfl, H1.out.1, H2.out.trans H1.out.2⟩
  · have q1 : decide ((4096 : Int) < (t.size : Int)) = true := decide_eq_true (by omega)
    have q2 : decide (4096 < t.size) = true := decide_eq_true (by omega)
    have HU : Hid (OO (w.setCell ⟨r, 1, none⟩ (.bool true)) r M none ∧ Fo r w (w.setCell ⟨r, 1, none⟩ (.bool true))) := Lib.hid (oo_flag (M := M) hk rfl (fun _ => hsz) (fun xs e => by cases e))
    have HE := Lib.hid (wr1_bad (st := st) (show ¬ (Fd.txt t).ok from q))
    rw [HE.out]
    clear hk hn hx HE
    cases st with
    | none =>
      simp only [Option.isNone_none] at c1
      go_enter Try.func58, Try.ntmps58
      go_wp2_with fail
      refine (ro_num r M t.size none _ HU.out.1 (by simp [stl]) hM).mono ?_
      rintro e w2 ⟨he, ⟨s2, hk2, hn2, hx2⟩, h2⟩
      rw [he.out]
      have hsz2 := OO.size (w := w2) (r := r) hn2 hx2 (by have := stl_num none t.size; simp [stl] at this ⊢; omega) (by omega)
      have d0 := hk2.cell 0
      have z0 := hk2.fz 0
      simp only [List.getElem?_cons_zero] at d0
      have k5 : ¬ (9223372036854775807 < s2.size + t.size) := by omega
      have H1 := Lib.hid (oo_add (M := M + 140737488355336) (t := t) (st' := none) hk2 rfl (fun _ => by rw [ByteArray.size_append]; omega) (fun xs e => by cases e))
      have H2 := Lib.hid (HU.out.2.trans h2)
      clear he hk2 hn2 hx2 h2
      go_wp2_with fail
      go_end0
      exact ⟨rfl, H1.out.1, H2.out.trans H1.out.2⟩
    | some ys =>
      simp only [Option.isNone_some] at c1
      go_enter Try.func58, Try.ntmps58
      go_wp2_with fail
      refine (ro_num r M t.size none _ HU.out.1 (by simp [stl]) hM).mono ?_
      rintro e w2 ⟨he, ⟨s2, hk2, hn2, hx2⟩, h2⟩
      rw [he.out]
      have hsz2 := OO.size (w := w2) (r := r) hn2 hx2 (by have := stl_num none t.size; simp [stl] at this ⊢; omega) (by omega)
      have d0 := hk2.cell 0
      have z0 := hk2.fz 0
      simp only [List.getElem?_cons_zero] at d0
      have k5 : ¬ (9223372036854775807 < s2.size + t.size) := by omega
      have H1 := Lib.hid (oo_add (M := M + 140737488355336) (t := t) (st' := none) hk2 rfl (fun _ => by rw [ByteArray.size_append]; omega) (fun xs e => by cases e))
      have H2 := Lib.hid (HU.out.2.trans h2)
      clear he hk2 hn2 hx2 h2
      go_wp2_with fail
      go_end0
      exact ⟨rfl, H1.out.1, H2.out.trans H1.out.2⟩
end Go.Proofs.Ytllcmapgigfgoaa
namespace Go.Proofs.Ytllcmapgigfgoaa
open Go.RowKit
set_option linter.unusedSimpArgs false
set_option linter.unusedVariables false

structure SO (w0 w : World) (r M b : Nat) (T : TypeId) (cs : List Value) (st : Option (List Int)) : Prop where
  oo : OO w r M st
  bx : Bk w b T cs
  ft : Fo r w0 w
  ne : b ≠ r
theorem SO.start {w : World} {r M : Nat} {st : Option (List Int)} (h : OO w r M st) (T : TypeId) (cs : List Value) : SO w (w.alloc (.cells cs.toArray T)) r M w.heap.size T cs st :=
  ⟨h.below ((Below.refl _ _).alloc (Nat.le_refl _) _), Bk.new w T cs, Fo.of_below ((Below.refl _ _).alloc (Nat.le_refl _) _), by have := h.lt; omega⟩
theorem SO.call {w0 w w1 : World} {r M M' b : Nat} {T : TypeId} {cs : List Value} {st st' : Option (List Int)} (h : SO w0 w r M b T cs st) (h1 : OO w1 r M' st') (h2 : Fo r w w1) : SO w0 w1 r M' b T cs st' := ⟨h1, h.bx.fo h2 h.ne, h.ft.trans h2, h.ne⟩
set_option maxRecDepth 100000 in
set_option maxHeartbeats 4000000 in
theorem ro_id (r M : Nat) (x0 : Int) (x1 : Int) (x2 : Int) (st : Option (List Int)) (K : Nat) (w : World) (h : OO w r M st) (hK : Sh K st) (hk : K + 3 ≤ 20000000) (hM : 100000000000 ≤ M ∧ M ≤ 8000000000000000000) :
    Calls Try.prog 29 #[.pointer (some ⟨r, 0, none⟩), .agg #[.int .i64 x0, .int .i64 x1, .int .i64 x2]] w (OP r (M + 24) (wrs st (idC.fs (x0, x1, x2))) w) := by
  have HO := Lib.hid (SO.start h 24 [.int .i64 x0, .int .i64 x1, .int .i64 x2])
  have HK := Lib.hid hK
  clear h hK
  go_enter Try.func29, Try.ntmps29
  have c0 := HO.out.bx.cell 0
  simp only [List.getElem?_cons_zero, List.getElem?_cons_succ] at c0
  go_wp2_with fail
  refine (ro_num r _ x0 _ _ HO.out.oo (Nat.le_trans (HK.out.max (by omega)) (by omega)) (by omega)).mono ?_
  rintro e w1 ⟨he, h1, h2⟩
  rw [he.out]
  have HO' := Lib.hid (HO.out.call h1 h2)
  have HK' := Lib.hid (HK.out.one (.num x0))
  clear he h1 h2 HO HK c0
  have HO := HO'
  have HK := HK'
  clear HO' HK'
  have c1 := HO.out.bx.cell 1
  simp only [List.getElem?_cons_zero, List.getElem?_cons_succ] at c1
  go_wp2_with fail
  refine (ro_num r _ x1 _ _ HO.out.oo (Nat.le_trans (HK.out.max (by omega)) (by omega)) (by omega)).mono ?_
  rintro e w2 ⟨he, h1, h2⟩
  rw [he.out]
  have HO' := Lib.hid (HO.out.call h1 h2)
  have HK' := Lib.hid (HK.out.one (.num x1))
  clear he h1 h2 HO HK c1
  have HO := HO'
  have HK := HK'
  clear HO' HK'
  have c2 := HO.out.bx.cell 2
  simp only [List.getElem?_cons_zero, List.getElem?_cons_succ] at c2
  go_wp2_with fail
  refine (ro_num r _ x2 _ _ HO.out.oo (Nat.le_trans (HK.out.max (by omega)) (by omega)) (by omega)).mono ?_
  rintro e w3 ⟨he, h1, h2⟩
  rw [he.out]
  have HO' := Lib.hid (HO.out.call h1 h2)
  have HK' := Lib.hid (HK.out.one (.num x2))
  clear he h1 h2 HO HK c2
  have HO := HO'
  have HK := HK'
  clear HO' HK'
  go_wp2_with fail
  go_end0
  refine ⟨rfl, ?_, HO.out.ft⟩
  have h1 := HO.out.oo
  exact h1
set_option maxRecDepth 100000 in
set_option maxHeartbeats 4000000 in
theorem ro_bal (r M : Nat) (x0 : Int) (x1 : Int) (st : Option (List Int)) (K : Nat) (w : World) (h : OO w r M st) (hK : Sh K st) (hk : K + 2 ≤ 20000000) (hM : 100000000000 ≤ M ∧ M ≤ 8000000000000000000) :
    Calls Try.prog 30 #[.pointer (some ⟨r, 0, none⟩), .agg #[.int .i64 x0, .int .i64 x1]] w (OP r (M + 16) (wrs st (balC.fs (x0, x1))) w) := by
  have HO := Lib.hid (SO.start h 26 [.int .i64 x0, .int .i64 x1])
  have HK := Lib.hid hK
  clear h hK
  go_enter Try.func30, Try.ntmps30
  have c0 := HO.out.bx.cell 0
  simp only [List.getElem?_cons_zero, List.getElem?_cons_succ] at c0
  go_wp2_with fail
  refine (ro_num r _ x0 _ _ HO.out.oo (Nat.le_trans (HK.out.max (by omega)) (by omega)) (by omega)).mono ?_
  rintro e w1 ⟨he, h1, h2⟩
  rw [he.out]
  have HO' := Lib.hid (HO.out.call h1 h2)
  have HK' := Lib.hid (HK.out.one (.num x0))
  clear he h1 h2 HO HK c0
  have HO := HO'
  have HK := HK'
  clear HO' HK'
  have c1 := HO.out.bx.cell 1
  simp only [List.getElem?_cons_zero, List.getElem?_cons_succ] at c1
  go_wp2_with fail
  refine (ro_num r _ x1 _ _ HO.out.oo (Nat.le_trans (HK.out.max (by omega)) (by omega)) (by omega)).mono ?_
  rintro e w2 ⟨he, h1, h2⟩
  rw [he.out]
  have HO' := Lib.hid (HO.out.call h1 h2)
  have HK' := Lib.hid (HK.out.one (.num x1))
  clear he h1 h2 HO HK c1
  have HO := HO'
  have HK := HK'
  clear HO' HK'
  go_wp2_with fail
  go_end0
  refine ⟨rfl, ?_, HO.out.ft⟩
  have h1 := HO.out.oo
  exact h1
theorem SO.mono {w0 w : World} {r M N b : Nat} {T : TypeId} {cs : List Value} {st : Option (List Int)} (h : SO w0 w r M b T cs st) (hM : M ≤ N) : SO w0 w r N b T cs st := ⟨h.oo.mono hM, h.bx, h.ft, h.ne⟩
theorem SO.again {w0 w : World} {r M N b : Nat} {T : TypeId} {cs : List Value} {xs : List Int} (h : SO w0 w r M b T cs (some xs)) : SO w0 w r N b T cs (some xs) := ⟨h.oo.again, h.bx, h.ft, h.ne⟩
theorem SO.bad {w0 w : World} {r M b : Nat} {T : TypeId} {cs : List Value} {st : Option (List Int)} (h : SO w0 w r M b T cs st) : w.cell? ⟨r, 1, none⟩ = some (.bool st.isNone) := by
  obtain ⟨s, hk, _⟩ := h.oo
  exact hk.cell 1
/-- A box that is laid, and written. -/
theorem boxO_bk (w : World) (T : TypeId) (z cs : Array Value) : Bk ((w.alloc (.cells z T)).setRow w.heap.size cs) w.heap.size T cs.toList := heap_setRow_same _ _ z cs _ (heap_alloc_new w _)
theorem boxO_below (w : World) (T : TypeId) (z cs : Array Value) : Below w.heap.size w ((w.alloc (.cells z T)).setRow w.heap.size cs) := below_setRow ((Below.refl _ _).alloc (Nat.le_refl _) _) (Nat.le_refl _) cs
theorem SO.under {w0 w w1 : World} {r M b : Nat} {T : TypeId} {cs : List Value} {st : Option (List Int)} (h : SO w0 w r M b T cs st) (hb : Below w.heap.size w w1) : SO w0 w1 r M b T cs st := ⟨h.oo.below hb, h.bx.below hb, h.ft.trans (Fo.of_below hb), h.ne⟩
theorem wrs_rest {α : Type} (A : Cod α) (st1 : Option (List Int)) (l : List α) (k : Nat) (h : wrs st1 ((l.take k).flatMap A.fs) = none) : wrs st1 (l.flatMap A.fs) = none := by
  have e : l.flatMap A.fs = (l.take k).flatMap A.fs ++ (l.drop k).flatMap A.fs := by rw [← List.flatMap_append, List.take_append_drop]
  rw [e, wrs_app, h, wrs_none]
set_option maxRecDepth 100000 in
set_option maxHeartbeats 8000000 in
theorem ro_inst (r M : Nat) (n0 : Int) (n1 : Int) (n2 : Int) (n3 : Int) (n4 : Int) (n5 : Int) (n6 : Int) (n7 : Int) (n8 : ByteArray) (n9 : ByteArray) (n10 : Int) (n11 : Int) (n12 : Int) (n13 : Int) (a : Option Addr) (m c : Nat) (rs : List (Cls 3)) (l : List Id3) (st : Option (List Int)) (K : Nat) (W w : World) (h : OO w r M st) (hW : Below W.heap.size W w) (hWr : W.heap.size ≤ r) (hK : Sh K st) (hk : K + 4000 ≤ 20000000) (hM : 100000000000 ≤ M ∧ M ≤ 7000000000000000000) (hsn8 : n8.size ≤ 140737488355328) (hsn9 : n9.size ≤ 140737488355328) (hr : RowIs KI idS W (.slice a m c) rs l) :
    Calls Try.prog 31 #[.pointer (some ⟨r, 0, none⟩), .agg #[.int .i64 n0, .int .i64 n1, .int .i64 n2, .int .i64 n3, .int .i64 n4, .int .i64 n5, .int .i64 n6, .int .i64 n7, .string n8, .string n9, .int .i64 n10, .int .i64 n11, .int .i64 n12, .int .i64 n13, .slice a m c]] w (OP r (M + 281474976710800) (wrs st (inC.fs (n0, (n1, n2), (n3, n4), (n5, n6, n7, n8, n9, n10, n11, n12), n13, l))) w) := by
  have hm : m = l.length ∧ m ≤ 9223372036854775807 := by
    obtain ⟨_, _, e⟩ := hr.rd.slice
    simp only [Value.slice.injEq] at e
    have h1 := hr.len
    have h2 := hr.rd.len
    unfold maxLen at h2
    omega
  have HR := Lib.hid hr
  have HBW := Lib.hid hW
  have HWr := Lib.hid hWr
  have HWs : Hid (W.heap.size ≤ w.heap.size) := Lib.hid hW.size
  have HL := Lib.hid hm.1
  have hm9 := hm.2
  have HO := Lib.hid (SO.start h 35 [.int .i64 n0, .int .i64 n1, .int .i64 n2, .int .i64 n3, .int .i64 n4, .int .i64 n5, .int .i64 n6, .int .i64 n7, .string n8, .string n9, .int .i64 n10, .int .i64 n11, .int .i64 n12, .int .i64 n13, .slice a m c])
  have HK := Lib.hid hK
  clear h hK hr hW hWr hm
  go_enter Try.func31, Try.ntmps31
  have c0 := HO.out.bx.cell 0
  simp only [List.getElem?_cons_zero, List.getElem?_cons_succ] at c0
  go_wp2_with fail
  refine (ro_num r _ n0 _ _ HO.out.oo (Nat.le_trans (HK.out.max (by omega)) (by omega)) (by omega)).mono ?_
  rintro e w1 ⟨he, h1, h2⟩
  rw [he.out]
  have HO' := Lib.hid (HO.out.call h1 h2)
  have HK' := Lib.hid (HK.out.one (.num n0))
  clear he h1 h2 HO HK c0 
  have HO := HO'
  have HK := HK'
  clear HO' HK' 
  have c1 := HO.out.bx.cell 1
  simp only [List.getElem?_cons_zero, List.getElem?_cons_succ] at c1
  have c2 := HO.out.bx.cell 2
  simp only [List.getElem?_cons_zero, List.getElem?_cons_succ] at c2
  go_wp2_with fail
  refine (ro_bal r _ n1 n2 _ _ _ HO.out.oo HK.out (by omega) (by omega)).mono ?_
  rintro e w2 ⟨he, h1, h2⟩
  rw [he.out]
  have HO' := Lib.hid (HO.out.call h1 h2)
  have HK' := Lib.hid (ShC.bal _ _ (n1, n2) HK.out)
  clear he h1 h2 HO HK c1 c2 
  have HO := HO'
  have HK := HK'
  clear HO' HK' 
  have c3 := HO.out.bx.cell 3
  simp only [List.getElem?_cons_zero, List.getElem?_cons_succ] at c3
  have c4 := HO.out.bx.cell 4
  simp only [List.getElem?_cons_zero, List.getElem?_cons_succ] at c4
  go_wp2_with fail
  refine (ro_bal r _ n3 n4 _ _ _ HO.out.oo HK.out (by omega) (by omega)).mono ?_
  rintro e w3 ⟨he, h1, h2⟩
  rw [he.out]
  have HO' := Lib.hid (HO.out.call h1 h2)
  have HK' := Lib.hid (ShC.bal _ _ (n3, n4) HK.out)
  clear he h1 h2 HO HK c3 c4 
  have HO := HO'
  have HK := HK'
  clear HO' HK' 
  have c5 := HO.out.bx.cell 5
  simp only [List.getElem?_cons_zero, List.getElem?_cons_succ] at c5
  have c6 := HO.out.bx.cell 6
  simp only [List.getElem?_cons_zero, List.getElem?_cons_succ] at c6
  have c7 := HO.out.bx.cell 7
  simp only [List.getElem?_cons_zero, List.getElem?_cons_succ] at c7
  have c8 := HO.out.bx.cell 8
  simp only [List.getElem?_cons_zero, List.getElem?_cons_succ] at c8
  have c9 := HO.out.bx.cell 9
  simp only [List.getElem?_cons_zero, List.getElem?_cons_succ] at c9
  have c10 := HO.out.bx.cell 10
  simp only [List.getElem?_cons_zero, List.getElem?_cons_succ] at c10
  have c11 := HO.out.bx.cell 11
  simp only [List.getElem?_cons_zero, List.getElem?_cons_succ] at c11
  have c12 := HO.out.bx.cell 12
  simp only [List.getElem?_cons_zero, List.getElem?_cons_succ] at c12
  have HC := Lib.hid (boxO_bk w3 30 #[.int .i64 0, .int .i64 0, .int .i64 0, .string ⟨#[]⟩, .string ⟨#[]⟩, .int .i64 0, .int .i64 0, .int .i64 0] #[.int .i64 n5, .int .i64 n6, .int .i64 n7, .string n8, .string n9, .int .i64 n10, .int .i64 n11, .int .i64 n12])
  have HNe : Hid (w3.heap.size ≠ r) := Lib.hid (by have := HO.out.oo.lt; omega)
  have HO' := Lib.hid (HO.out.under (boxO_below w3 30 #[.int .i64 0, .int .i64 0, .int .i64 0, .string ⟨#[]⟩, .string ⟨#[]⟩, .int .i64 0, .int .i64 0, .int .i64 0] #[.int .i64 n5, .int .i64 n6, .int .i64 n7, .string n8, .string n9, .int .i64 n10, .int .i64 n11, .int .i64 n12]))
  have HA := Lib.hid (heap_alloc_new w3 (.cells #[.int .i64 0, .int .i64 0, .int .i64 0, .string ⟨#[]⟩, .string ⟨#[]⟩, .int .i64 0, .int .i64 0, .int .i64 0] 30 (0, 0)))
  have d0 := HC.out.cell 0
  simp only [List.getElem?_cons_zero, List.getElem?_cons_succ] at d0
  go_wp2_with (refine wpList_store_row rfl 30 _ _ rfl w3.heap.size rfl #[.int .i64 n5, .int .i64 n6, .int .i64 n7, .string n8, .string n9, .int .i64 n10, .int .i64 n11, .int .i64 n12] rfl #[.int .i64 0, .int .i64 0, .int .i64 0, .string ⟨#[]⟩, .string ⟨#[]⟩, .int .i64 0, .int .i64 0, .int .i64 0] 30 HA.out (by kernel_rfl) rfl (by rw [← Array.all_toList]; rfl) ?_)
  clear HO HA c5 c6 c7 c8 c9 c10 c11 c12
  have HO := HO'
  clear HO'
  generalize ((w3.alloc (.cells #[.int .i64 0, .int .i64 0, .int .i64 0, .string ⟨#[]⟩, .string ⟨#[]⟩, .int .i64 0, .int .i64 0, .int .i64 0] 30)).setRow w3.heap.size #[.int .i64 n5, .int .i64 n6, .int .i64 n7, .string n8, .string n9, .int .i64 n10, .int .i64 n11, .int .i64 n12]) = wq at *
  obtain ⟨b2, hb2⟩ : ∃ z, w3.heap.size = z := ⟨_, rfl⟩
  rw [hb2] at HC HNe d0 ⊢
  clear hb2
  go_wp2_with fail
  refine (ro_num r _ n5 _ _ HO.out.oo (Nat.le_trans (HK.out.max (by omega)) (by omega)) (by omega)).mono ?_
  rintro e w4 ⟨he, h1, h2⟩
  rw [he.out]
  have HO' := Lib.hid (HO.out.call h1 h2)
  have HK' := Lib.hid (HK.out.one (.num n5))
  have HC' := Lib.hid (HC.out.fo h2 HNe.out)
  clear he h1 h2 HO HK d0 HC
  have HO := HO'
  have HK := HK'
  have HC := HC'
  clear HO' HK' HC'
  have c1 := HC.out.cell 1
  simp only [List.getElem?_cons_zero, List.getElem?_cons_succ] at c1
  go_wp2_with fail
  refine (ro_num r _ n6 _ _ HO.out.oo (Nat.le_trans (HK.out.max (by omega)) (by omega)) (by omega)).mono ?_
  rintro e w5 ⟨he, h1, h2⟩
  rw [he.out]
  have HO' := Lib.hid (HO.out.call h1 h2)
  have HK' := Lib.hid (HK.out.one (.num n6))
  have HC' := Lib.hid (HC.out.fo h2 HNe.out)
  clear he h1 h2 HO HK c1 HC
  have HO := HO'
  have HK := HK'
  have HC := HC'
  clear HO' HK' HC'
  have c2 := HC.out.cell 2
  simp only [List.getElem?_cons_zero, List.getElem?_cons_succ] at c2
  go_wp2_with fail
  refine (ro_num r _ n7 _ _ HO.out.oo (Nat.le_trans (HK.out.max (by omega)) (by omega)) (by omega)).mono ?_
  rintro e w6 ⟨he, h1, h2⟩
  rw [he.out]
  have HO' := Lib.hid (HO.out.call h1 h2)
  have HK' := Lib.hid (HK.out.one (.num n7))
  have HC' := Lib.hid (HC.out.fo h2 HNe.out)
  clear he h1 h2 HO HK c2 HC
  have HO := HO'
  have HK := HK'
  have HC := HC'
  clear HO' HK' HC'
  have c3 := HC.out.cell 3
  simp only [List.getElem?_cons_zero, List.getElem?_cons_succ] at c3
  go_wp2_with fail
  refine (ro_text r _ n8 _ _ HO.out.oo (HK.out.max (by omega)) (by omega) hsn8).mono ?_
  rintro e w7 ⟨he, h1, h2⟩
  rw [he.out]
  have HO' := Lib.hid (HO.out.call h1 h2)
  have HK' := Lib.hid (HK.out.one (.txt n8))
  have HC' := Lib.hid (HC.out.fo h2 HNe.out)
  clear he h1 h2 HO HK c3 HC
  have HO := HO'
  have HK := HK'
  have HC := HC'
  clear HO' HK' HC'
  have c4 := HC.out.cell 4
  simp only [List.getElem?_cons_zero, List.getElem?_cons_succ] at c4
  go_wp2_with fail
  refine (ro_text r _ n9 _ _ HO.out.oo (HK.out.max (by omega)) (by omega) hsn9).mono ?_
  rintro e w8 ⟨he, h1, h2⟩
  rw [he.out]
  have HO' := Lib.hid (HO.out.call h1 h2)
  have HK' := Lib.hid (HK.out.one (.txt n9))
  have HC' := Lib.hid (HC.out.fo h2 HNe.out)
  clear he h1 h2 HO HK c4 HC
  have HO := HO'
  have HK := HK'
  have HC := HC'
  clear HO' HK' HC'
  have c5 := HC.out.cell 5
  simp only [List.getElem?_cons_zero, List.getElem?_cons_succ] at c5
  go_wp2_with fail
  refine (ro_num r _ n10 _ _ HO.out.oo (Nat.le_trans (HK.out.max (by omega)) (by omega)) (by omega)).mono ?_
  rintro e w9 ⟨he, h1, h2⟩
  rw [he.out]
  have HO' := Lib.hid (HO.out.call h1 h2)
  have HK' := Lib.hid (HK.out.one (.num n10))
  have HC' := Lib.hid (HC.out.fo h2 HNe.out)
  clear he h1 h2 HO HK c5 HC
  have HO := HO'
  have HK := HK'
  have HC := HC'
  clear HO' HK' HC'
  have c6 := HC.out.cell 6
  simp only [List.getElem?_cons_zero, List.getElem?_cons_succ] at c6
  go_wp2_with fail
  refine (ro_num r _ n11 _ _ HO.out.oo (Nat.le_trans (HK.out.max (by omega)) (by omega)) (by omega)).mono ?_
  rintro e w10 ⟨he, h1, h2⟩
  rw [he.out]
  have HO' := Lib.hid (HO.out.call h1 h2)
  have HK' := Lib.hid (HK.out.one (.num n11))
  have HC' := Lib.hid (HC.out.fo h2 HNe.out)
  clear he h1 h2 HO HK c6 HC
  have HO := HO'
  have HK := HK'
  have HC := HC'
  clear HO' HK' HC'
  have c7 := HC.out.cell 7
  simp only [List.getElem?_cons_zero, List.getElem?_cons_succ] at c7
  go_wp2_with fail
  refine (ro_num r _ n12 _ _ HO.out.oo (Nat.le_trans (HK.out.max (by omega)) (by omega)) (by omega)).mono ?_
  rintro e w11 ⟨he, h1, h2⟩
  rw [he.out]
  have HO' := Lib.hid (HO.out.call h1 h2)
  have HK' := Lib.hid (HK.out.one (.num n12))
  have HC' := Lib.hid (HC.out.fo h2 HNe.out)
  clear he h1 h2 HO HK c7 HC
  have HO := HO'
  have HK := HK'
  have HC := HC'
  clear HO' HK' HC'
  have c13 := HO.out.bx.cell 13
  simp only [List.getElem?_cons_zero, List.getElem?_cons_succ] at c13
  go_wp2_with fail
  refine (ro_num r _ n13 _ _ HO.out.oo (Nat.le_trans (HK.out.max (by omega)) (by omega)) (by omega)).mono ?_
  rintro e w12 ⟨he, h1, h2⟩
  rw [he.out]
  have HO' := Lib.hid (HO.out.call h1 h2)
  have HK' := Lib.hid (HK.out.one (.num n13))
  have HC' := Lib.hid (HC.out.fo h2 HNe.out)
  clear he h1 h2 HO HK c13 HC
  have HO := HO'
  have HK := HK'
  have HC := HC'
  clear HO' HK' HC'
  have c14 := HO.out.bx.cell 14
  simp only [List.getElem?_cons_zero, List.getElem?_cons_succ] at c14
  go_wp2_with fail
  refine (ro_list r _ m _ _ HO.out.oo (HK.out.max (by omega)) (by omega) (by omega)).mono ?_
  rintro e w13 ⟨he, h1, h2⟩
  rw [he.out]
  have HO' := Lib.hid (HO.out.call h1 h2)
  have HK' := Lib.hid (HK.out.one (.cnt m))
  have HC' := Lib.hid (HC.out.fo h2 HNe.out)
  clear he h1 h2 HO HK c14 HC
  have HO := HO'
  have HK := HK'
  have HC := HC'
  clear HO' HK' HC'
  obtain ⟨st1, hst1⟩ : ∃ z, wr1 (wr1 (wr1 (wr1 (wr1 (wr1 (wr1 (wr1 (wr1 (wr1 (wrs (wrs (wr1 st (.num n0)) (balC.fs (n1, n2))) (balC.fs (n3, n4))) (.num n5)) (.num n6)) (.num n7)) (.txt n8)) (.txt n9)) (.num n10)) (.num n11)) (.num n12)) (.num n13)) (.cnt m) = z := ⟨_, rfl⟩
  have HE : Hid (wrs st (inC.fs (n0, (n1, n2), (n3, n4), (n5, n6, n7, n8, n9, n10, n11, n12), n13, l)) = wrs st1 (l.flatMap idC.fs)) := Lib.hid (by rw [← hst1, HL.out]; rfl)
  rw [hst1] at HO HK
  have HST := Lib.hid hst1
  clear hst1 HC
  have HO := Lib.hid (HO.out.mono (show _ ≤ M + 281474976710776 by omega))
  go_wp2_with fail
  go_loopw [5] (fun i wr => ∃ k : Nat, k ≤ m ∧ i = .int .i64 k ∧ Hid (SO w wr r (M + 281474976710776 + 24) w.heap.size 35 [.int .i64 n0, .int .i64 n1, .int .i64 n2, .int .i64 n3, .int .i64 n4, .int .i64 n5, .int .i64 n6, .int .i64 n7, .string n8, .string n9, .int .i64 n10, .int .i64 n11, .int .i64 n12, .int .i64 n13, .slice a m c] (wrs st1 ((l.take k).flatMap idC.fs)))) (fun i _ => m - (intOf i).toNat)
  case atStart => exact ⟨0, Nat.zero_le _, rfl, Lib.hid (by have h1 := HO.out.mono (show M + 281474976710776 ≤ M + 281474976710776 + 24 by omega); simpa [wrs] using h1)⟩
  case round =>
    clear HO
    obtain ⟨k, hk', rfl, HO⟩ := hrel
    have HBw := Lib.hid (HBW.out.trans (HO.out.ft.low HWr.out HWs.out))
    have y14 := HO.out.bx.cell 14
    have yb := HO.out.bad
    simp only [List.getElem?_cons_zero, List.getElem?_cons_succ] at y14
    obtain ⟨sk, hsk⟩ : ∃ z, wrs st1 ((l.take k).flatMap idC.fs) = z := ⟨_, rfl⟩
    rw [hsk] at HO yb
    by_cases hlt : k < m
    · have g1 : (k : Int) < (m : Int) := by omega
      have g2 : decide ((k : Int) < (m : Int)) = true := decide_eq_true g1
      have g3 : decide (k < m) = true := decide_eq_true hlt
      cases sk with
      | none =>
        simp only [Option.isNone_none] at yb
        have HX := Lib.hid (wrs_rest idC st1 l k hsk)
        clear hsk
        go_wp2_with fail
        go_end0
        rw [HE.out, HX.out]
        exact ⟨rfl, HO.out.oo, HO.out.ft⟩
      | some ys =>
        simp only [Option.isNone_some] at yb
        obtain ⟨hl, g, off, cs, ha, hg, hcs, hcel⟩ := HR.out.el2 rfl HBw.out k hlt
        subst ha
        obtain ⟨x, hx⟩ : ∃ x, l[k] = x := ⟨_, rfl⟩
        rw [hx] at hcs
        have HX := Lib.hid hx
        clear hx
        obtain ⟨x0, x1, x2⟩ := x
        have hcs : cs = [.int .i64 x0, .int .i64 x1, .int .i64 x2] := hcs
        subst hcs
        have y0 : wr.cell? ⟨g, off + k * 3, none⟩ = some (.int .i64 x0) := hcel 0 _ rfl
        have y1 : wr.cell? ⟨g, off + k * 3 + 1, none⟩ = some (.int .i64 x1) := hcel 1 _ rfl
        have y2 : wr.cell? ⟨g, off + k * 3 + 2, none⟩ = some (.int .i64 x2) := hcel 2 _ rfl
        have HS := Lib.hid (step_fs idC st1 l k (x0, x1, x2) hl HX.out)
        have HSh := Lib.hid (sh_part ShC.id HK.out l k)
        have hk1 : k ≤ 1024 := by
          by_cases q : k ≤ 1024
          · exact q
          · exfalso
            have e1 : st1 = none := by
              rw [← HST.out, wr1_bad (show ¬ (Fd.cnt m).ok from (by unfold Fd.ok; omega))]
            rw [e1, wrs_none] at hsk
            cases hsk
        rw [hsk] at HS HSh
        have HO' := Lib.hid (HO.out.again (N := M + 281474976710776))
        clear hcel hg hsk HO
        go_wp2_with fail
        refine (ro_id r _ x0 x1 x2 _ _ _ HO'.out.oo HSh.out (by omega) (by omega)).mono ?_
        rw [HS.out]
        rintro e wz ⟨he, h1, h2⟩
        rw [he.out]
        have HO2 := Lib.hid (HO'.out.call h1 h2)
        clear he h1 h2 y0 y1 y2 y14 yb HO' HBw
        go_wp2_with fail
        go_roundw
        case rel => exact ⟨k + 1, by omega, by go_num, HO2⟩
        case measure => simp [intOf]; omega
    · have hq : m = k := by omega
      clear hlt hk'
      subst hq
      rw [List.take_of_length_le (by rw [HL.out]; exact Nat.le_refl _)] at hsk
      go_wp2_with fail
      go_end0
      rw [HE.out, hsk]
      exact ⟨rfl, HO.out.oo, HO.out.ft⟩
end Go.Proofs.Ytllcmapgigfgoaa
namespace Go.Proofs.Ytllcmapgigfgoaa
open Go.RowKit
set_option linter.unusedSimpArgs false
set_option linter.unusedVariables false

theorem Fo.cellK {r : Nat} {w w' : World} (h : Fo r w w') {g j : Nat} (hg : g < w.heap.size) (hr : g ≠ r) : w'.cell? ⟨g, j, none⟩ = w.cell? ⟨g, j, none⟩ := by
  unfold World.cell?
  rw [show w'.heap[g]? = w.heap[g]? from h.block g hg hr]
/-- Texts that are no longer than any machine's memory. -/
structure Rch (l2 : List Ent) (l3 : List Ses) : Prop where
  e2 : ∀ x ∈ l2, x.1.size ≤ 140737488355328 ∧ x.2.1.size ≤ 140737488355328
  e3 : ∀ x ∈ l3, x.2.2.2.1.size ≤ 140737488355328 ∧ ∀ t ∈ x.2.2.2.2.2, t.size ≤ 140737488355328
set_option maxRecDepth 100000 in
set_option maxHeartbeats 16000000 in
theorem ro_snap (r M : Nat) (n0 : Int) (a1 : Option Addr) (m1 c1 : Nat) (a2 : Option Addr) (m2 c2 : Nat) (a3 : Option Addr) (m3 c3 : Nat) (rs1 : List (Cls 1)) (l1 : List Int) (rs2 : List (Cls 3)) (l2 : List Ent) (rs3 : List (Cls 6)) (l3 : List Ses) (st : Option (List Int)) (K : Nat) (W w : World) (h : OO w r M st) (hW : Below W.heap.size W w) (hWr : W.heap.size ≤ r) (hK : Sh K st) (hk : K + 1100000 ≤ 20000000) (hM : 100000000000 ≤ M ∧ M ≤ 7000000000000000000) (h1 : RowIs KN numS W (.slice a1 m1 c1) rs1 l1) (h2 : RowIs KE enS W (.slice a2 m2 c2) rs2 l2) (h3 : RowIs KZ seS W (.slice a3 m3 c3) rs3 l3) (hz : Rch l2 l3) :
    Calls Try.prog 32 #[.pointer (some ⟨r, 0, none⟩), .agg #[.int .i64 n0, .slice a1 m1 c1, .slice a2 m2 c2, .slice a3 m3 c3]] w (OP r (M + 562949953421432) (wrs st (snC.fs ((n0, l1), l2, l3))) w) := by
  have e1 : m1 = l1.length ∧ m1 ≤ 9223372036854775807 := by
    obtain ⟨_, _, e⟩ := h1.rd.slice
    simp only [Value.slice.injEq] at e
    have q1 := h1.len
    have q2 := h1.rd.len
    unfold maxLen at q2
    omega
  have e2 : m2 = l2.length ∧ m2 ≤ 9223372036854775807 := by
    obtain ⟨_, _, e⟩ := h2.rd.slice
    simp only [Value.slice.injEq] at e
    have q1 := h2.len
    have q2 := h2.rd.len
    unfold maxLen at q2
    omega
  have e3 : m3 = l3.length ∧ m3 ≤ 9223372036854775807 := by
    obtain ⟨_, _, e⟩ := h3.rd.slice
    simp only [Value.slice.injEq] at e
    have q1 := h3.len
    have q2 := h3.rd.len
    unfold maxLen at q2
    omega
  have H1 := Lib.hid h1
  have H2 := Lib.hid h2
  have H3 := Lib.hid h3
  have HZ := Lib.hid hz
  have HBW := Lib.hid hW
  have HWr := Lib.hid hWr
  have HWs : Hid (W.heap.size ≤ w.heap.size) := Lib.hid hW.size
  have HL1 := Lib.hid e1.1
  have HL2 := Lib.hid e2.1
  have HL3 := Lib.hid e3.1
  have f1 := e1.2
  have f2 := e2.2
  have f3 := e3.2
  have f1' : (m1 : Int) ≤ 9223372036854775807 := by omega
  have f2' : (m2 : Int) ≤ 9223372036854775807 := by omega
  have f3' : (m3 : Int) ≤ 9223372036854775807 := by omega
  have HO := Lib.hid (SO.start h 42 [.int .i64 n0, .slice a1 m1 c1, .slice a2 m2 c2, .slice a3 m3 c3])
  have HK := Lib.hid hK
  clear h hK h1 h2 h3 hW hWr hz e1 e2 e3
  go_enter Try.func32, Try.ntmps32
  have c0 := HO.out.bx.cell 0
  simp only [List.getElem?_cons_zero, List.getElem?_cons_succ] at c0
  go_wp2_with fail
  refine (ro_num r _ n0 _ _ HO.out.oo (Nat.le_trans (HK.out.max (by omega)) (by omega)) (by omega)).mono ?_
  rintro e w1 ⟨he, h1, h2⟩
  rw [he.out]
  have HO' := Lib.hid (HO.out.call h1 h2)
  have HK' := Lib.hid (HK.out.one (.num n0))
  clear he h1 h2 HO HK c0 
  have HO := HO'
  have HK := HK'
  clear HO' HK' 
  have c1 := HO.out.bx.cell 1
  simp only [List.getElem?_cons_zero, List.getElem?_cons_succ] at c1
  go_wp2_with fail
  refine (ro_list r _ m1 _ _ HO.out.oo (HK.out.max (by omega)) (by omega) (by omega)).mono ?_
  rintro e w2 ⟨he, h1, h2⟩
  rw [he.out]
  have HO' := Lib.hid (HO.out.call h1 h2)
  have HK' := Lib.hid (HK.out.one (.cnt m1))
  clear he h1 h2 HO HK c1 
  have HO := HO'
  have HK := HK'
  clear HO' HK' 
  obtain ⟨st1, hst1⟩ : ∃ z, wr1 (wr1 st (.num n0)) (.cnt m1) = z := ⟨_, rfl⟩
  have HST1 := Lib.hid hst1
  rw [hst1] at HO HK
  clear hst1
  have HO := Lib.hid (HO.out.mono (show _ ≤ M + 16 by omega))
  go_upto_block 0 with fail
  go_cut [4] from 20 to 42 (fun _ wx => Hid (SO w wx r (M + 24) w.heap.size 42 [.int .i64 n0, .slice a1 m1 c1, .slice a2 m2 c2, .slice a3 m3 c3] (wrs st1 (l1.flatMap numC.fs))))
  case first =>
    go_wp2_with fail
    go_loopw [4] (fun i wr => ∃ k : Nat, k ≤ m1 ∧ i = .int .i64 k ∧ Hid (SO w wr r (M + 16 + 8) w.heap.size 42 [.int .i64 n0, .slice a1 m1 c1, .slice a2 m2 c2, .slice a3 m3 c3] (wrs st1 ((l1.take k).flatMap numC.fs)))) (fun i _ => m1 - (intOf i).toNat)
    case atStart => exact ⟨0, Nat.zero_le _, rfl, Lib.hid (by have h1 := HO.out.mono (show M + 16 ≤ M + 16 + 8 by omega); simpa [wrs] using h1)⟩
    case round =>
      clear HO
      obtain ⟨k, hk', rfl, HO⟩ := hrel
      have HBw := Lib.hid (HBW.out.trans (HO.out.ft.low HWr.out HWs.out))
      have yl := HO.out.bx.cell 1
      have yb := HO.out.bad
      simp only [List.getElem?_cons_zero, List.getElem?_cons_succ] at yl
      obtain ⟨sk, hsk⟩ : ∃ z, wrs st1 ((l1.take k).flatMap numC.fs) = z := ⟨_, rfl⟩
      rw [hsk] at HO yb
      by_cases hlt : k < m1
      · have g1 : (k : Int) < (m1 : Int) := by omega
        have g2 : decide ((k : Int) < (m1 : Int)) = true := decide_eq_true g1
        have g3 : decide (k < m1) = true := decide_eq_true hlt
        cases sk with
        | none =>
          simp only [Option.isNone_none] at yb
          have HX := Lib.hid (wrs_rest numC st1 l1 k hsk)
          clear hsk
          go_wp2_with fail
          go_meet
          rw [HX.out]
          exact Lib.hid (HO.out.mono (by omega))
        | some ys =>
          simp only [Option.isNone_some] at yb
          obtain ⟨hl, g, off, cs, ha, hg, hcs, hcel⟩ := H1.out.el2 rfl HBw.out k hlt
          subst ha
          obtain ⟨x, hx⟩ : ∃ x, l1[k] = x := ⟨_, rfl⟩
          rw [hx] at hcs
          have HX := Lib.hid hx
          clear hx
          have hcs : cs = [.int .i64 x] := hcs
          subst hcs
          have y0 : wr.cell? ⟨g, off + k, none⟩ = some (.int .i64 x) := by have := hcel 0 _ rfl; simpa [KN, rawK] using this
          have HS := Lib.hid (step_fs numC st1 l1 k x hl HX.out)
          have HSh := Lib.hid (sh_part ShC.num HK.out l1 k)
          have hk1 : k ≤ 1024 := by
            by_cases q : k ≤ 1024
            · exact q
            · exfalso
              have e1 : st1 = none := by
                rw [← HST1.out, wr1_bad (show ¬ (Fd.cnt m1).ok from (by unfold Fd.ok; omega))]
              rw [e1, wrs_none] at hsk
              cases hsk
          rw [hsk] at HS HSh
          have HO' := Lib.hid (HO.out.again (N := M + 16))
          have HG : Hid (g < wr.heap.size ∧ g ≠ r) := Lib.hid (by
            obtain ⟨_, _, g', off', _, ha', hg', _⟩ := H1.out.el rfl k hlt
            simp only [Option.some.injEq, Addr.mk.injEq] at ha'
            obtain ⟨rfl, rfl, _⟩ := ha'
            exact ⟨hg, by have := HWr.out; omega⟩)
          clear hcel hg hsk HO
          have HO := HO'
          clear HO'
          go_wp2_with fail
          refine (ro_num r _ x _ _ HO.out.oo (Nat.le_trans (HSh.out.max (by omega)) (by omega)) (by omega)).mono ?_
          rw [show wr1 (some ys) (.num x) = wrs st1 ((l1.take (k + 1)).flatMap numC.fs) from HS.out]
          rintro e wz ⟨he, h1, h2⟩
          rw [he.out]
          have HO2 := Lib.hid (HO.out.call h1 h2)
          clear he h1 h2 HO y0 yl yb
          have HO := HO2
          clear HO2
          go_wp2_with fail
          go_roundw
          case rel => exact ⟨k + 1, by omega, by go_num, Lib.hid (HO.out.mono (by omega))⟩
          case measure => simp [intOf]; omega
      · have hq : m1 = k := by omega
        clear hlt hk'
        subst hq
        rw [List.take_of_length_le (by rw [HL1.out]; exact Nat.le_refl _)] at hsk
        go_wp2_with fail
        go_meet
        rw [hsk]
        exact Lib.hid (HO.out.mono (by omega))
  case rest =>
  have HO := hcut
  clear hcut
  have HK' : Hid (Sh (K + 2 + 1024) (wrs st1 (l1.flatMap numC.fs))) := Lib.hid (by
    by_cases q : m1 ≤ 1024
    · have h1 := ShC.num.fold l1 _ _ HK.out
      exact h1.le (by have := HL1.out; omega)
    · have e1 : st1 = none := by rw [← HST1.out, wr1_bad (show ¬ (Fd.cnt m1).ok from (by unfold Fd.ok; omega))]
      rw [e1, wrs_none]
      exact Sh.none _)
  clear HK
  have HK := HK'
  clear HK'
  have c2 := HO.out.bx.cell 2
  simp only [List.getElem?_cons_zero, List.getElem?_cons_succ] at c2
  go_wp2_with fail
  refine (ro_list r _ m2 _ _ HO.out.oo (HK.out.max (by omega)) (by omega) (by omega)).mono ?_
  rintro e w3 ⟨he, h1, h2⟩
  rw [he.out]
  have HO' := Lib.hid (HO.out.call h1 h2)
  have HK' := Lib.hid (HK.out.one (.cnt m2))
  clear he h1 h2 HO HK c2 
  have HO := HO'
  have HK := HK'
  clear HO' HK' 
  obtain ⟨st2, hst2⟩ : ∃ z, wr1 (wrs st1 (l1.flatMap numC.fs)) (.cnt m2) = z := ⟨_, rfl⟩
  have HST2 := Lib.hid hst2
  rw [hst2] at HO HK
  clear hst2
  have HO := Lib.hid (HO.out.mono (show _ ≤ M + 32 by omega))
  go_upto_block 2 with fail
  go_cut [5] from 48 to 85 (fun _ wx => Hid (SO w wx r (M + 281474976710712) w.heap.size 42 [.int .i64 n0, .slice a1 m1 c1, .slice a2 m2 c2, .slice a3 m3 c3] (wrs st2 (l2.flatMap enC.fs))))
  case first =>
    go_wp2_with fail
    go_loopw [5] (fun i wr => ∃ k : Nat, k ≤ m2 ∧ i = .int .i64 k ∧ Hid (SO w wr r (M + 32 + 281474976710680) w.heap.size 42 [.int .i64 n0, .slice a1 m1 c1, .slice a2 m2 c2, .slice a3 m3 c3] (wrs st2 ((l2.take k).flatMap enC.fs)))) (fun i _ => m2 - (intOf i).toNat)
    case atStart => exact ⟨0, Nat.zero_le _, rfl, Lib.hid (by have h1 := HO.out.mono (show M + 32 ≤ M + 32 + 281474976710680 by omega); simpa [wrs] using h1)⟩
    case round =>
      clear HO
      obtain ⟨k, hk', rfl, HO⟩ := hrel
      have HBw := Lib.hid (HBW.out.trans (HO.out.ft.low HWr.out HWs.out))
      have yl := HO.out.bx.cell 2
      have yb := HO.out.bad
      simp only [List.getElem?_cons_zero, List.getElem?_cons_succ] at yl
      obtain ⟨sk, hsk⟩ : ∃ z, wrs st2 ((l2.take k).flatMap enC.fs) = z := ⟨_, rfl⟩
      rw [hsk] at HO yb
      by_cases hlt : k < m2
      · have g1 : (k : Int) < (m2 : Int) := by omega
        have g2 : decide ((k : Int) < (m2 : Int)) = true := decide_eq_true g1
        have g3 : decide (k < m2) = true := decide_eq_true hlt
        cases sk with
        | none =>
          simp only [Option.isNone_none] at yb
          have HX := Lib.hid (wrs_rest enC st2 l2 k hsk)
          clear hsk
          go_wp2_with fail
          go_meet
          rw [HX.out]
          exact Lib.hid (HO.out.mono (by omega))
        | some ys =>
          simp only [Option.isNone_some] at yb
          obtain ⟨hl, g, off, cs, ha, hg, hcs, hcel⟩ := H2.out.el2 rfl HBw.out k hlt
          subst ha
          obtain ⟨x, hx⟩ : ∃ x, l2[k] = x := ⟨_, rfl⟩
          rw [hx] at hcs
          have HX := Lib.hid hx
          clear hx
          obtain ⟨x0, x1, x2⟩ := x
          have hcs0 : cs = [.string x0, .string x1, .int .i64 x2] := hcs.1
          have hz2 := HZ.out.e2 (x0, x1, x2) (HX.out ▸ List.getElem_mem hl)
          have hs0 : x0.size ≤ 140737488355328 := hz2.1
          have hs1 : x1.size ≤ 140737488355328 := hz2.2
          subst hcs0
          clear hcs hz2
          have y0 : wr.cell? ⟨g, off + k * 3, none⟩ = some (.string x0) := hcel 0 _ rfl
          have y1 : wr.cell? ⟨g, off + k * 3 + 1, none⟩ = some (.string x1) := hcel 1 _ rfl
          have y2 : wr.cell? ⟨g, off + k * 3 + 2, none⟩ = some (.int .i64 x2) := hcel 2 _ rfl
          have HS := Lib.hid (step_fs enC st2 l2 k (x0, x1, x2) hl HX.out)
          have HSh := Lib.hid (sh_part ShC.en HK.out l2 k)
          have hk1 : k ≤ 1024 := by
            by_cases q : k ≤ 1024
            · exact q
            · exfalso
              have e1 : st2 = none := by
                rw [← HST2.out, wr1_bad (show ¬ (Fd.cnt m2).ok from (by unfold Fd.ok; omega))]
              rw [e1, wrs_none] at hsk
              cases hsk
          rw [hsk] at HS HSh
          have HO' := Lib.hid (HO.out.again (N := M + 32))
          have HG : Hid (g < wr.heap.size ∧ g ≠ r) := Lib.hid (by
            obtain ⟨_, _, g', off', _, ha', hg', _⟩ := H2.out.el rfl k hlt
            simp only [Option.some.injEq, Addr.mk.injEq] at ha'
            obtain ⟨rfl, rfl, _⟩ := ha'
            exact ⟨hg, by have := HWr.out; omega⟩)
          clear hcel hg hsk HO
          have HO := HO'
          clear HO'
          go_wp2_with fail
          refine (ro_text r _ x0 _ _ HO.out.oo (HSh.out.max (by omega)) (by omega) hs0).mono ?_
          rintro e wz ⟨he, h1, h2⟩
          rw [he.out]
          have HO2 := Lib.hid (HO.out.call h1 h2)
          have y1' := (h2.cellK HG.out.1 HG.out.2).trans y1
          have y2' := (h2.cellK HG.out.1 HG.out.2).trans y2
          have HG' : Hid (_ < wz.heap.size ∧ _) := Lib.hid ⟨Nat.lt_of_lt_of_le HG.out.1 h2.size, HG.out.2⟩
          clear he h1 h2 HO HG y1 y2 y0 yl yb
          have HO := HO2
          have HG := HG'
          have y1 := y1'
          have y2 := y2'
          clear HO2 HG' y1' y2'
          have yl := HO.out.bx.cell 2
          simp only [List.getElem?_cons_zero, List.getElem?_cons_succ] at yl
          have HSh2 := Lib.hid (HSh.out.one (.txt x0))
          go_wp2_with fail
          refine (ro_text r _ x1 _ _ HO.out.oo (HSh2.out.max (by omega)) (by omega) hs1).mono ?_
          rintro e wy ⟨he, h1, h2⟩
          rw [he.out]
          have HO2 := Lib.hid (HO.out.call h1 h2)
          have y2' := (h2.cellK HG.out.1 HG.out.2).trans y2
          have HG' : Hid (_ < wy.heap.size ∧ _) := Lib.hid ⟨Nat.lt_of_lt_of_le HG.out.1 h2.size, HG.out.2⟩
          clear he h1 h2 HO HG y2 y1 yl
          have HO := HO2
          have HG := HG'
          have y2 := y2'
          clear HO2 HG' y2'
          have yl := HO.out.bx.cell 2
          simp only [List.getElem?_cons_zero, List.getElem?_cons_succ] at yl
          have HSh3 := Lib.hid (HSh2.out.one (.txt x1))
          go_wp2_with fail
          refine (ro_num r _ x2 _ _ HO.out.oo (Nat.le_trans (HSh3.out.max (by omega)) (by omega)) (by omega)).mono ?_
          rw [show wr1 (wr1 (wr1 (some ys) (.txt x0)) (.txt x1)) (.num x2) = wrs st2 ((l2.take (k + 1)).flatMap enC.fs) from HS.out]
          rintro e wx ⟨he, h1, h2⟩
          rw [he.out]
          have HO2 := Lib.hid (HO.out.call h1 h2)
          have HG' : Hid (_ < wx.heap.size ∧ _) := Lib.hid ⟨Nat.lt_of_lt_of_le HG.out.1 h2.size, HG.out.2⟩
          clear he h1 h2 HO HG  y2 yl
          have HO := HO2
          have HG := HG'
          clear HO2 HG' 
          go_wp2_with fail
          go_roundw
          case rel => exact ⟨k + 1, by omega, by go_num, Lib.hid (HO.out.mono (by omega))⟩
          case measure => simp [intOf]; omega
      · have hq : m2 = k := by omega
        clear hlt hk'
        subst hq
        rw [List.take_of_length_le (by rw [HL2.out]; exact Nat.le_refl _)] at hsk
        go_wp2_with fail
        go_meet
        rw [hsk]
        exact Lib.hid (HO.out.mono (by omega))
  case rest =>
  have HO := hcut
  clear hcut
  have HK' : Hid (Sh (K + 2 + 1024 + 1 + 3072) (wrs st2 (l2.flatMap enC.fs))) := Lib.hid (by
    by_cases q : m2 ≤ 1024
    · have h1 := ShC.en.fold l2 _ _ HK.out
      exact h1.le (by have := HL2.out; omega)
    · have e1 : st2 = none := by rw [← HST2.out, wr1_bad (show ¬ (Fd.cnt m2).ok from (by unfold Fd.ok; omega))]
      rw [e1, wrs_none]
      exact Sh.none _)
  clear HK
  have HK := HK'
  clear HK'
  have c3 := HO.out.bx.cell 3
  simp only [List.getElem?_cons_zero, List.getElem?_cons_succ] at c3
  go_wp2_with fail
  refine (ro_list r _ m3 _ _ HO.out.oo (HK.out.max (by omega)) (by omega) (by omega)).mono ?_
  rintro e w4 ⟨he, h1, h2⟩
  rw [he.out]
  have HO' := Lib.hid (HO.out.call h1 h2)
  have HK' := Lib.hid (HK.out.one (.cnt m3))
  clear he h1 h2 HO HK c3 
  have HO := HO'
  have HK := HK'
  clear HO' HK' 
  obtain ⟨st3, hst3⟩ : ∃ z, wr1 (wrs st2 (l2.flatMap enC.fs)) (.cnt m3) = z := ⟨_, rfl⟩
  have HST3 := Lib.hid hst3
  rw [hst3] at HO HK
  clear hst3
  have HO := Lib.hid (HO.out.mono (show _ ≤ M + 281474976710720 by omega))
  have HEE : Hid (wrs st (snC.fs ((n0, l1), l2, l3)) = wrs st3 (l3.flatMap seC.fs)) := Lib.hid (by
    rw [← HST3.out, ← HST2.out, ← HST1.out, HL1.out, HL2.out, HL3.out]
    unfold snC cfC
    simp only [pairC_fs, listC_fs, numC_fs, wrs_app, wrs_cons, List.cons_append, List.nil_append])
  go_wp2_with fail
  go_loopw [6] (fun i wr => ∃ k : Nat, k ≤ m3 ∧ i = .int .i64 k ∧ Hid (SO w wr r (M + 281474976710720 + 281474976710712) w.heap.size 42 [.int .i64 n0, .slice a1 m1 c1, .slice a2 m2 c2, .slice a3 m3 c3] (wrs st3 ((l3.take k).flatMap seC.fs)))) (fun i _ => m3 - (intOf i).toNat)
  case atStart => exact ⟨0, Nat.zero_le _, rfl, Lib.hid (by have h1 := HO.out.mono (show M + 281474976710720 ≤ M + 281474976710720 + 281474976710712 by omega); simpa [wrs] using h1)⟩
  case round =>
    clear HO
    obtain ⟨k, hk', rfl, HO⟩ := hrel
    have HBw := Lib.hid (HBW.out.trans (HO.out.ft.low HWr.out HWs.out))
    have yl := HO.out.bx.cell 3
    have yb := HO.out.bad
    simp only [List.getElem?_cons_zero, List.getElem?_cons_succ] at yl
    obtain ⟨sk, hsk⟩ : ∃ z, wrs st3 ((l3.take k).flatMap seC.fs) = z := ⟨_, rfl⟩
    rw [hsk] at HO yb
    by_cases hlt : k < m3
    · have g1 : (k : Int) < (m3 : Int) := by omega
      have g2 : decide ((k : Int) < (m3 : Int)) = true := decide_eq_true g1
      have g3 : decide (k < m3) = true := decide_eq_true hlt
      cases sk with
      | none =>
        simp only [Option.isNone_none] at yb
        have HX := Lib.hid (wrs_rest seC st3 l3 k hsk)
        clear hsk
        go_wp2_with fail
        go_end0
        rw [HEE.out, HX.out]
        exact ⟨rfl, HO.out.oo.mono (by omega), HO.out.ft⟩
      | some ys =>
        simp only [Option.isNone_some] at yb
        obtain ⟨hl, g, off, cs, ha, hg, hcs, hcel⟩ := H3.out.el2 rfl HBw.out k hlt
        subst ha
        obtain ⟨x, hx⟩ : ∃ x, l3[k] = x := ⟨_, rfl⟩
        rw [hx] at hcs
        have HX := Lib.hid hx
        clear hx
        obtain ⟨x0, x1, x2, x3, x4, x5⟩ := x
        obtain ⟨vn, rn, hcs0, _, hrn⟩ := hcs
        have hcs0 : cs = [.int .i64 x0, .int .i64 x1, .int .i64 x2, .string x3, .int .i64 x4, vn] := hcs0
        have hz3 := HZ.out.e3 (x0, x1, x2, x3, x4, x5) (HX.out ▸ List.getElem_mem hl)
        have hs3 : x3.size ≤ 140737488355328 := hz3.1
        have HT3 : Hid (∀ t ∈ x5, t.size ≤ 140737488355328) := Lib.hid hz3.2
        subst hcs0
        clear hz3
        obtain ⟨an, cn, hvn⟩ := hrn.rd.slice
        have hmxn := hrn.rd.len
        have hlnn := hrn.len
        obtain ⟨mn, hnn⟩ : ∃ mn, rn.length = mn := ⟨_, rfl⟩
        rw [hnn] at hvn hmxn hlnn
        subst hvn
        have hmn : mn ≤ 9223372036854775807 := by unfold maxLen at hmxn; omega
        have hmn' : (mn : Int) ≤ 9223372036854775807 := by omega
        have HRN := Lib.hid hrn
        have HLN : Hid (mn = x5.length) := Lib.hid hlnn
        clear hrn hnn hmxn hlnn
        have y0 : wr.cell? ⟨g, off + k * 6, none⟩ = some (.int .i64 x0) := hcel 0 _ rfl
        have y1 : wr.cell? ⟨g, off + k * 6 + 1, none⟩ = some (.int .i64 x1) := hcel 1 _ rfl
        have y2 : wr.cell? ⟨g, off + k * 6 + 2, none⟩ = some (.int .i64 x2) := hcel 2 _ rfl
        have y3 : wr.cell? ⟨g, off + k * 6 + 3, none⟩ = some (.string x3) := hcel 3 _ rfl
        have y4 : wr.cell? ⟨g, off + k * 6 + 4, none⟩ = some (.int .i64 x4) := hcel 4 _ rfl
        have y5 : wr.cell? ⟨g, off + k * 6 + 5, none⟩ = some (.slice an mn cn) := hcel 5 _ rfl
        have HS := Lib.hid (step_fs seC st3 l3 k (x0, x1, x2, x3, x4, x5) hl HX.out)
        have HSh := Lib.hid (sh_part ShC.se HK.out l3 k)
        have hk1 : k ≤ 1024 := by
          by_cases q : k ≤ 1024
          · exact q
          · exfalso
            have e1 : st3 = none := by
              rw [← HST3.out, wr1_bad (show ¬ (Fd.cnt m3).ok from (by unfold Fd.ok; omega))]
            rw [e1, wrs_none] at hsk
            cases hsk
        rw [hsk] at HS HSh
        have HO' := Lib.hid (HO.out.again (N := M + 281474976710720))
        have HG : Hid (g < wr.heap.size ∧ g ≠ r) := Lib.hid (by
          obtain ⟨_, _, g', off', _, ha', hg', _⟩ := H3.out.el rfl k hlt
          simp only [Option.some.injEq, Addr.mk.injEq] at ha'
          obtain ⟨rfl, rfl, _⟩ := ha'
          exact ⟨hg, by have := HWr.out; omega⟩)
        clear hcel hg hsk HO
        have HO := HO'
        clear HO'
        go_wp2_with fail
        refine (ro_num r _ x0 _ _ HO.out.oo (Nat.le_trans (HSh.out.max (by omega)) (by omega)) (by omega)).mono ?_
        rintro e wz ⟨he, h1, h2⟩
        rw [he.out]
        have HO2 := Lib.hid (HO.out.call h1 h2)
        have y1' := (h2.cellK HG.out.1 HG.out.2).trans y1
        have y2' := (h2.cellK HG.out.1 HG.out.2).trans y2
        have y3' := (h2.cellK HG.out.1 HG.out.2).trans y3
        have y4' := (h2.cellK HG.out.1 HG.out.2).trans y4
        have y5' := (h2.cellK HG.out.1 HG.out.2).trans y5
        have HG' : Hid (_ < wz.heap.size ∧ _) := Lib.hid ⟨Nat.lt_of_lt_of_le HG.out.1 h2.size, HG.out.2⟩
        clear he h1 h2 HO HG y1 y2 y3 y4 y5 y0 yl yb
        have HO := HO2
        have HG := HG'
        have y1 := y1'
        have y2 := y2'
        have y3 := y3'
        have y4 := y4'
        have y5 := y5'
        clear HO2 HG' y1' y2' y3' y4' y5'
        have yl := HO.out.bx.cell 3
        simp only [List.getElem?_cons_zero, List.getElem?_cons_succ] at yl
        have HSh2 := Lib.hid (HSh.out.one (.num x0))
        go_wp2_with fail
        refine (ro_num r _ x1 _ _ HO.out.oo (Nat.le_trans (HSh2.out.max (by omega)) (by omega)) (by omega)).mono ?_
        rintro e wy ⟨he, h1, h2⟩
        rw [he.out]
        have HO2 := Lib.hid (HO.out.call h1 h2)
        have y2' := (h2.cellK HG.out.1 HG.out.2).trans y2
        have y3' := (h2.cellK HG.out.1 HG.out.2).trans y3
        have y4' := (h2.cellK HG.out.1 HG.out.2).trans y4
        have y5' := (h2.cellK HG.out.1 HG.out.2).trans y5
        have HG' : Hid (_ < wy.heap.size ∧ _) := Lib.hid ⟨Nat.lt_of_lt_of_le HG.out.1 h2.size, HG.out.2⟩
        clear he h1 h2 HO HG y2 y3 y4 y5 y1 yl
        have HO := HO2
        have HG := HG'
        have y2 := y2'
        have y3 := y3'
        have y4 := y4'
        have y5 := y5'
        clear HO2 HG' y2' y3' y4' y5'
        have yl := HO.out.bx.cell 3
        simp only [List.getElem?_cons_zero, List.getElem?_cons_succ] at yl
        have HSh3 := Lib.hid (HSh2.out.one (.num x1))
        have HC := Lib.hid (boxO_bk wy 113 #[.int .i64 0, .string ⟨#[]⟩, .int .i64 0, .slice none 0 0] #[.int .i64 x2, .string x3, .int .i64 x4, .slice an mn cn])
        have HNe : Hid (wy.heap.size ≠ r) := Lib.hid (by have := HO.out.oo.lt; omega)
        have HO' := Lib.hid (HO.out.under (boxO_below wy 113 #[.int .i64 0, .string ⟨#[]⟩, .int .i64 0, .slice none 0 0] #[.int .i64 x2, .string x3, .int .i64 x4, .slice an mn cn]))
        have HA := Lib.hid (heap_alloc_new wy (.cells #[.int .i64 0, .string ⟨#[]⟩, .int .i64 0, .slice none 0 0] 113 (0, 0)))
        have d0 := HC.out.cell 0
        simp only [List.getElem?_cons_zero, List.getElem?_cons_succ] at d0
        go_wp2_with (refine wpList_store_row rfl 113 _ _ rfl wy.heap.size rfl #[.int .i64 x2, .string x3, .int .i64 x4, .slice an mn cn] rfl #[.int .i64 0, .string ⟨#[]⟩, .int .i64 0, .slice none 0 0] 113 HA.out (by kernel_rfl) rfl (by rw [← Array.all_toList]; rfl) ?_)
        clear HO HA y2 y3 y4 y5 yl HG
        have HO := HO'
        clear HO'
        generalize ((wy.alloc (.cells #[.int .i64 0, .string ⟨#[]⟩, .int .i64 0, .slice none 0 0] 113)).setRow wy.heap.size #[.int .i64 x2, .string x3, .int .i64 x4, .slice an mn cn]) = wq at *
        obtain ⟨b2, hb2⟩ : ∃ z, wy.heap.size = z := ⟨_, rfl⟩
        rw [hb2] at HC HNe d0 ⊢
        clear hb2
        have HKo := HK
        clear HK
        have HK := HSh3
        clear HSh3
        go_wp2_with fail
        refine (ro_num r _ x2 _ _ HO.out.oo (Nat.le_trans (HK.out.max (by omega)) (by omega)) (by omega)).mono ?_
        rintro e w21 ⟨he, h1, h2⟩
        rw [he.out]
        have HO' := Lib.hid (HO.out.call h1 h2)
        have HK' := Lib.hid (HK.out.one (.num x2))
        have HC' := Lib.hid (HC.out.fo h2 HNe.out)
        clear he h1 h2 HO HK d0 HC
        have HO := HO'
        have HK := HK'
        have HC := HC'
        clear HO' HK' HC'
        have c1 := HC.out.cell 1
        simp only [List.getElem?_cons_zero, List.getElem?_cons_succ] at c1
        go_wp2_with fail
        refine (ro_text r _ x3 _ _ HO.out.oo (HK.out.max (by omega)) (by omega) hs3).mono ?_
        rintro e w22 ⟨he, h1, h2⟩
        rw [he.out]
        have HO' := Lib.hid (HO.out.call h1 h2)
        have HK' := Lib.hid (HK.out.one (.txt x3))
        have HC' := Lib.hid (HC.out.fo h2 HNe.out)
        clear he h1 h2 HO HK c1 HC
        have HO := HO'
        have HK := HK'
        have HC := HC'
        clear HO' HK' HC'
        have c2 := HC.out.cell 2
        simp only [List.getElem?_cons_zero, List.getElem?_cons_succ] at c2
        go_wp2_with fail
        refine (ro_num r _ x4 _ _ HO.out.oo (Nat.le_trans (HK.out.max (by omega)) (by omega)) (by omega)).mono ?_
        rintro e w23 ⟨he, h1, h2⟩
        rw [he.out]
        have HO' := Lib.hid (HO.out.call h1 h2)
        have HK' := Lib.hid (HK.out.one (.num x4))
        have HC' := Lib.hid (HC.out.fo h2 HNe.out)
        clear he h1 h2 HO HK c2 HC
        have HO := HO'
        have HK := HK'
        have HC := HC'
        clear HO' HK' HC'
        have c3 := HC.out.cell 3
        simp only [List.getElem?_cons_zero, List.getElem?_cons_succ] at c3
        go_wp2_with fail
        refine (ro_list r _ mn _ _ HO.out.oo (HK.out.max (by omega)) (by omega) (by omega)).mono ?_
        rintro e w24 ⟨he, h1, h2⟩
        rw [he.out]
        have HO' := Lib.hid (HO.out.call h1 h2)
        have HK' := Lib.hid (HK.out.one (.cnt mn))
        have HC' := Lib.hid (HC.out.fo h2 HNe.out)
        clear he h1 h2 HO HK c3 HC
        have HO := HO'
        have HK := HK'
        have HC := HC'
        clear HO' HK' HC'
        obtain ⟨st4, hst4⟩ : ∃ z, wr1 (wr1 (wr1 (wr1 (wr1 (wr1 (some ys) (.num x0)) (.num x1)) (.num x2)) (.txt x3)) (.num x4)) (.cnt mn) = z := ⟨_, rfl⟩
        have HST4 := Lib.hid hst4
        rw [hst4] at HO HK
        have HS4 : Hid (wrs st4 (x5.flatMap txtC.fs) = wrs st3 ((l3.take (k + 1)).flatMap seC.fs)) := Lib.hid (by rw [← HS.out, ← hst4, HLN.out]; rfl)
        clear hst4 HS
        have HO := Lib.hid (HO.out.mono (show _ ≤ M + 422212465066096 by omega))
        go_wp2_with fail
        go_loopw [8] (fun i wr2 => ∃ j : Nat, j ≤ mn ∧ i = .int .i64 j ∧ Hid (SO w wr2 r (M + 422212465066096 + 140737488355336) w.heap.size 42 [.int .i64 n0, .slice a1 m1 c1, .slice a2 m2 c2, .slice (some ⟨g, off, none⟩) m3 c3] (wrs st4 ((x5.take j).flatMap txtC.fs))) ∧ Hid (Bk wr2 b2 113 [.int .i64 x2, .string x3, .int .i64 x4, .slice an mn cn])) (fun i _ => mn - (intOf i).toNat)
        case atStart => exact ⟨0, Nat.zero_le _, rfl, Lib.hid (by have h1 := HO.out.mono (show M + 422212465066096 ≤ M + 422212465066096 + 140737488355336 by omega); simpa [wrs] using h1), HC⟩
        case round =>
          clear HO HC
          obtain ⟨j, hj', rfl, HO, HC⟩ := hrel
          have HBw2 := Lib.hid (HBW.out.trans (HO.out.ft.low HWr.out HWs.out))
          have zl := HC.out.cell 3
          have yl := HO.out.bx.cell 3
          have zb := HO.out.bad
          simp only [List.getElem?_cons_zero, List.getElem?_cons_succ] at zl yl
          obtain ⟨sj, hsj⟩ : ∃ z, wrs st4 ((x5.take j).flatMap txtC.fs) = z := ⟨_, rfl⟩
          rw [hsj] at HO zb
          by_cases hlj : j < mn
          · have g1 : (j : Int) < (mn : Int) := by omega
            have g2 : decide ((j : Int) < (mn : Int)) = true := decide_eq_true g1
            have g3 : decide (j < mn) = true := decide_eq_true hlj
            cases sj with
            | none =>
              simp only [Option.isNone_none] at zb
              have HX2 := Lib.hid (wrs_rest txtC st4 x5 j hsj)
              clear hsj
              go_wp2_with fail
              go_roundw
              case rel => exact ⟨k + 1, by omega, by go_num, Lib.hid (by rw [← HS4.out, HX2.out]; exact HO.out.mono (by omega))⟩
              case measure => simp [intOf]; omega
            | some zs =>
              simp only [Option.isNone_some] at zb
              obtain ⟨hl5, g5, off5, cs5, ha5, hg5, hcs5, hcel5⟩ := HRN.out.el2 rfl HBw2.out j hlj
              subst ha5
              obtain ⟨t, ht⟩ : ∃ t, x5[j] = t := ⟨_, rfl⟩
              rw [ht] at hcs5
              have HTj := Lib.hid ht
              have hcs5' : cs5 = [.string t] := hcs5.1
              have hst : t.size ≤ 140737488355328 := HT3.out t (ht ▸ List.getElem_mem hl5)
              subst hcs5'
              have z0 : wr.cell? ⟨g5, off5 + j, none⟩ = some (.string t) := by have := hcel5 0 _ rfl; simpa [KT, rawK] using this
              have HSj := Lib.hid (step_fs txtC st4 x5 j t hl5 HTj.out)
              have HShj := Lib.hid (sh_part ShC.txt HK.out x5 j)
              have hj1 : j ≤ 1024 := by
                by_cases q : j ≤ 1024
                · exact q
                · exfalso
                  have e1 : st4 = none := by
                    rw [← HST4.out, wr1_bad (show ¬ (Fd.cnt mn).ok from (by unfold Fd.ok; omega))]
                  rw [e1, wrs_none] at hsj
                  cases hsj
              rw [hsj] at HSj HShj
              have HO' := Lib.hid (HO.out.again (N := M + 422212465066096))
              clear hcel5 hg5 hsj HO hcs5 ht
              have HO := HO'
              clear HO'
              go_wp2_with fail
              refine (ro_text r _ t _ _ HO.out.oo (HShj.out.max (by omega)) (by omega) hst).mono ?_
              rw [show wr1 (some zs) (.txt t) = wrs st4 ((x5.take (j + 1)).flatMap txtC.fs) from HSj.out]
              rintro e wv ⟨he, h1, h2⟩
              rw [he.out]
              have HO2 := Lib.hid (HO.out.call h1 h2)
              have HC2 := Lib.hid (HC.out.fo h2 HNe.out)
              clear he h1 h2 HO HC z0 zl yl zb
              go_wp2_with fail
              go_roundw
              case rel => exact ⟨j + 1, by omega, by go_num, Lib.hid (HO2.out.mono (by omega)), HC2⟩
              case measure => simp [intOf]; omega
          · have hq : mn = j := by omega
            clear hlj hj'
            subst hq
            rw [List.take_of_length_le (by rw [HLN.out]; exact Nat.le_refl _)] at hsj
            go_wp2_with fail
            go_roundw
            case rel => exact ⟨k + 1, by omega, by go_num, Lib.hid (by rw [← HS4.out, hsj]; exact HO.out.mono (by omega))⟩
            case measure => simp [intOf]; omega
    · have hq : m3 = k := by omega
      clear hlt hk'
      subst hq
      rw [List.take_of_length_le (by rw [HL3.out]; exact Nat.le_refl _)] at hsk
      go_wp2_with fail
      go_end0
      rw [HEE.out, hsk]
      exact ⟨rfl, HO.out.oo.mono (by omega), HO.out.ft⟩
end Go.Proofs.Ytllcmapgigfgoaa
namespace Go.Proofs.Ytllcmapgigfgoaa
open Go.RowKit
set_option linter.unusedSimpArgs false
set_option linter.unusedVariables false

instance (l : List Fd) : Decidable (Oks l) := by unfold Oks; infer_instance
/-- Texts of an instance, and of a snap, that are no longer than any machine's memory. -/
structure RchI (x : Ins) (y : Snp) : Prop where
  p : x.2.2.2.1.2.2.2.1.size ≤ 140737488355328
  v : x.2.2.2.1.2.2.2.2.1.size ≤ 140737488355328
  s : Rch y.2.1 y.2.2
def MsT (l : List Fd) (w : World) (e : Ending) (w' : World) : Prop := Below w.heap.size w w' ∧ ((Oks l ∧ Hid (e = .returned (.tuple #[.string (txt (eF l)), .bool true]))) ∨ (¬ Oks l ∧ Hid (e = .returned (.tuple #[.string ⟨#[]⟩, .bool false]))))
theorem eF_txt {l : List Fd} {s : ByteArray} (h : byt s = eF l) : s = txt (eF l) := by rw [← h, txt_byt]
set_option maxRecDepth 100000 in
set_option maxHeartbeats 16000000 in
theorem ro_msg (v : Value) (x : Msg7) (w : World) (h : MsgIs w v x) (hz : RchI x.2.2.2.2.2.1 x.2.2.2.2.2.2) :
    Calls Try.prog 13 #[v] w (MsT (msC.fs x) w) := by
  obtain ⟨cs, rfl, hs⟩ := h
  obtain ⟨a22, m22, p22, rs22, a24, m24, p24, rs24, a25, m25, p25, rs25, a26, m26, p26, rs26, hcs, hs16, hs17, hr22, hr24, hr25, hr26⟩ := ms_is hs
  obtain ⟨n0, n1, n2, ⟨n3, n4, n5⟩, ⟨n6, n7⟩, ⟨n8, ⟨n9, n10⟩, ⟨n11, n12⟩, ⟨n13, n14, n15, n16, n17, n18, n19, n20⟩, n21, l22⟩, ⟨n23, l24⟩, l25, l26⟩ := x
  obtain rfl : cs = #[.int .i64 n0, .int .i64 n1, .int .i64 n2, .int .i64 n3, .int .i64 n4, .int .i64 n5, .int .i64 n6, .int .i64 n7, .int .i64 n8, .int .i64 n9, .int .i64 n10, .int .i64 n11, .int .i64 n12, .int .i64 n13, .int .i64 n14, .int .i64 n15, .string n16, .string n17, .int .i64 n18, .int .i64 n19, .int .i64 n20, .int .i64 n21, .slice a22 m22 p22, .int .i64 n23, .slice a24 m24 p24, .slice a25 m25 p25, .slice a26 m26 p26] := by
    cases cs
    simpa [msV, inV, snV] using hcs
  have hz16 : n16.size ≤ 140737488355328 := hz.p
  have hz17 : n17.size ≤ 140737488355328 := hz.v
  have HRs : Hid (Rch l25 l26) := Lib.hid hz.s
  have HR22 := Lib.hid hr22
  have HR24 := Lib.hid hr24
  have HR25 := Lib.hid hr25
  have HR26 := Lib.hid hr26
  clear hs hcs hs16 hs17 hr22 hr24 hr25 hr26 hz
  have HB0 : Hid (Below w.heap.size w ((w.alloc (.cells #[.int .i64 n0, .int .i64 n1, .int .i64 n2, .int .i64 n3, .int .i64 n4, .int .i64 n5, .int .i64 n6, .int .i64 n7, .int .i64 n8, .int .i64 n9, .int .i64 n10, .int .i64 n11, .int .i64 n12, .int .i64 n13, .int .i64 n14, .int .i64 n15, .string n16, .string n17, .int .i64 n18, .int .i64 n19, .int .i64 n20, .int .i64 n21, .slice a22 m22 p22, .int .i64 n23, .slice a24 m24 p24, .slice a25 m25 p25, .slice a26 m26 p26] 44)).alloc (.cells #[.string ⟨#[]⟩, .bool false] 80))) := Lib.hid (((Below.refl _ _).alloc (Nat.le_refl _) _).alloc (by simp) _)
  obtain ⟨M, hM1, hM2⟩ : ∃ M : Nat, 100000000000 ≤ M ∧ M ≤ 100000000000 := ⟨100000000000, Nat.le_refl _, Nat.le_refl _⟩
  have HO : Hid (SO ((w.alloc (.cells #[.int .i64 n0, .int .i64 n1, .int .i64 n2, .int .i64 n3, .int .i64 n4, .int .i64 n5, .int .i64 n6, .int .i64 n7, .int .i64 n8, .int .i64 n9, .int .i64 n10, .int .i64 n11, .int .i64 n12, .int .i64 n13, .int .i64 n14, .int .i64 n15, .string n16, .string n17, .int .i64 n18, .int .i64 n19, .int .i64 n20, .int .i64 n21, .slice a22 m22 p22, .int .i64 n23, .slice a24 m24 p24, .slice a25 m25 p25, .slice a26 m26 p26] 44)).alloc (.cells #[.string ⟨#[]⟩, .bool false] 80)) ((w.alloc (.cells #[.int .i64 n0, .int .i64 n1, .int .i64 n2, .int .i64 n3, .int .i64 n4, .int .i64 n5, .int .i64 n6, .int .i64 n7, .int .i64 n8, .int .i64 n9, .int .i64 n10, .int .i64 n11, .int .i64 n12, .int .i64 n13, .int .i64 n14, .int .i64 n15, .string n16, .string n17, .int .i64 n18, .int .i64 n19, .int .i64 n20, .int .i64 n21, .slice a22 m22 p22, .int .i64 n23, .slice a24 m24 p24, .slice a25 m25 p25, .slice a26 m26 p26] 44)).alloc (.cells #[.string ⟨#[]⟩, .bool false] 80)) (w.heap.size + 1) M w.heap.size 44 [.int .i64 n0, .int .i64 n1, .int .i64 n2, .int .i64 n3, .int .i64 n4, .int .i64 n5, .int .i64 n6, .int .i64 n7, .int .i64 n8, .int .i64 n9, .int .i64 n10, .int .i64 n11, .int .i64 n12, .int .i64 n13, .int .i64 n14, .int .i64 n15, .string n16, .string n17, .int .i64 n18, .int .i64 n19, .int .i64 n20, .int .i64 n21, .slice a22 m22 p22, .int .i64 n23, .slice a24 m24 p24, .slice a25 m25 p25, .slice a26 m26 p26] (some [])) := Lib.hid
    ⟨⟨⟨#[]⟩, by have := Bk.new (w.alloc (.cells #[.int .i64 n0, .int .i64 n1, .int .i64 n2, .int .i64 n3, .int .i64 n4, .int .i64 n5, .int .i64 n6, .int .i64 n7, .int .i64 n8, .int .i64 n9, .int .i64 n10, .int .i64 n11, .int .i64 n12, .int .i64 n13, .int .i64 n14, .int .i64 n15, .string n16, .string n17, .int .i64 n18, .int .i64 n19, .int .i64 n20, .int .i64 n21, .slice a22 m22 p22, .int .i64 n23, .slice a24 m24 p24, .slice a25 m25 p25, .slice a26 m26 p26] 44)) 80 [.string ⟨#[]⟩, .bool false]; rwa [World.size_alloc] at this, (fun e => by cases e), (fun xs e => by cases e; rfl)⟩, (Bk.new w 44 [.int .i64 n0, .int .i64 n1, .int .i64 n2, .int .i64 n3, .int .i64 n4, .int .i64 n5, .int .i64 n6, .int .i64 n7, .int .i64 n8, .int .i64 n9, .int .i64 n10, .int .i64 n11, .int .i64 n12, .int .i64 n13, .int .i64 n14, .int .i64 n15, .string n16, .string n17, .int .i64 n18, .int .i64 n19, .int .i64 n20, .int .i64 n21, .slice a22 m22 p22, .int .i64 n23, .slice a24 m24 p24, .slice a25 m25 p25, .slice a26 m26 p26]).old _, Fo.refl _ _, by omega⟩
  have HK : Hid (Sh 0 (some [])) := Lib.hid (by simp [Sh, stl])
  go_enter Try.func13, Try.ntmps13
  have c0 := HO.out.bx.cell 0
  simp only [List.getElem?_cons_zero, List.getElem?_cons_succ] at c0
  go_wp2_with fail
  generalize ((w.alloc (.cells #[.int .i64 n0, .int .i64 n1, .int .i64 n2, .int .i64 n3, .int .i64 n4, .int .i64 n5, .int .i64 n6, .int .i64 n7, .int .i64 n8, .int .i64 n9, .int .i64 n10, .int .i64 n11, .int .i64 n12, .int .i64 n13, .int .i64 n14, .int .i64 n15, .string n16, .string n17, .int .i64 n18, .int .i64 n19, .int .i64 n20, .int .i64 n21, .slice a22 m22 p22, .int .i64 n23, .slice a24 m24 p24, .slice a25 m25 p25, .slice a26 m26 p26] 44)).alloc (.cells #[.string ⟨#[]⟩, .bool false] 80)) = w0 at *
  refine (ro_num _ _ n0 _ _ HO.out.oo (Nat.le_trans (HK.out.max (by omega)) (by omega)) (by omega)).mono ?_
  rintro e w1 ⟨he, h1, h2⟩
  rw [he.out]
  have HO' := Lib.hid (HO.out.call h1 h2)
  have HK' := Lib.hid (HK.out.one (.num n0))
  clear he h1 h2 HO HK c0
  have HO := HO'
  have HK := HK'
  clear HO' HK'
  have c1 := HO.out.bx.cell 1
  simp only [List.getElem?_cons_zero, List.getElem?_cons_succ] at c1
  go_wp2_with fail
  refine (ro_num _ _ n1 _ _ HO.out.oo (Nat.le_trans (HK.out.max (by omega)) (by omega)) (by omega)).mono ?_
  rintro e w2 ⟨he, h1, h2⟩
  rw [he.out]
  have HO' := Lib.hid (HO.out.call h1 h2)
  have HK' := Lib.hid (HK.out.one (.num n1))
  clear he h1 h2 HO HK c1
  have HO := HO'
  have HK := HK'
  clear HO' HK'
  have c2 := HO.out.bx.cell 2
  simp only [List.getElem?_cons_zero, List.getElem?_cons_succ] at c2
  go_wp2_with fail
  refine (ro_num _ _ n2 _ _ HO.out.oo (Nat.le_trans (HK.out.max (by omega)) (by omega)) (by omega)).mono ?_
  rintro e w3 ⟨he, h1, h2⟩
  rw [he.out]
  have HO' := Lib.hid (HO.out.call h1 h2)
  have HK' := Lib.hid (HK.out.one (.num n2))
  clear he h1 h2 HO HK c2
  have HO := HO'
  have HK := HK'
  clear HO' HK'
  have c3 := HO.out.bx.cell 3
  simp only [List.getElem?_cons_zero, List.getElem?_cons_succ] at c3
  have c4 := HO.out.bx.cell 4
  simp only [List.getElem?_cons_zero, List.getElem?_cons_succ] at c4
  have c5 := HO.out.bx.cell 5
  simp only [List.getElem?_cons_zero, List.getElem?_cons_succ] at c5
  go_wp2_with fail
  refine (ro_id _ _ n3 n4 n5 _ _ _ HO.out.oo HK.out (by omega) (by omega)).mono ?_
  rintro e w4 ⟨he, h1, h2⟩
  rw [he.out]
  have HO' := Lib.hid (HO.out.call h1 h2)
  have HK' := Lib.hid (ShC.id _ _ (n3, n4, n5) HK.out)
  clear he h1 h2 HO HK c3 c4 c5
  have HO := HO'
  have HK := HK'
  clear HO' HK'
  have c6 := HO.out.bx.cell 6
  simp only [List.getElem?_cons_zero, List.getElem?_cons_succ] at c6
  have c7 := HO.out.bx.cell 7
  simp only [List.getElem?_cons_zero, List.getElem?_cons_succ] at c7
  go_wp2_with fail
  refine (ro_bal _ _ n6 n7 _ _ _ HO.out.oo HK.out (by omega) (by omega)).mono ?_
  rintro e w5 ⟨he, h1, h2⟩
  rw [he.out]
  have HO' := Lib.hid (HO.out.call h1 h2)
  have HK' := Lib.hid (ShC.bal _ _ (n6, n7) HK.out)
  clear he h1 h2 HO HK c6 c7
  have HO := HO'
  have HK := HK'
  clear HO' HK'
  have c8 := HO.out.bx.cell 8
  simp only [List.getElem?_cons_zero, List.getElem?_cons_succ] at c8
  have c9 := HO.out.bx.cell 9
  simp only [List.getElem?_cons_zero, List.getElem?_cons_succ] at c9
  have c10 := HO.out.bx.cell 10
  simp only [List.getElem?_cons_zero, List.getElem?_cons_succ] at c10
  have c11 := HO.out.bx.cell 11
  simp only [List.getElem?_cons_zero, List.getElem?_cons_succ] at c11
  have c12 := HO.out.bx.cell 12
  simp only [List.getElem?_cons_zero, List.getElem?_cons_succ] at c12
  have c13 := HO.out.bx.cell 13
  simp only [List.getElem?_cons_zero, List.getElem?_cons_succ] at c13
  have c14 := HO.out.bx.cell 14
  simp only [List.getElem?_cons_zero, List.getElem?_cons_succ] at c14
  have c15 := HO.out.bx.cell 15
  simp only [List.getElem?_cons_zero, List.getElem?_cons_succ] at c15
  have c16 := HO.out.bx.cell 16
  simp only [List.getElem?_cons_zero, List.getElem?_cons_succ] at c16
  have c17 := HO.out.bx.cell 17
  simp only [List.getElem?_cons_zero, List.getElem?_cons_succ] at c17
  have c18 := HO.out.bx.cell 18
  simp only [List.getElem?_cons_zero, List.getElem?_cons_succ] at c18
  have c19 := HO.out.bx.cell 19
  simp only [List.getElem?_cons_zero, List.getElem?_cons_succ] at c19
  have c20 := HO.out.bx.cell 20
  simp only [List.getElem?_cons_zero, List.getElem?_cons_succ] at c20
  have c21 := HO.out.bx.cell 21
  simp only [List.getElem?_cons_zero, List.getElem?_cons_succ] at c21
  have c22 := HO.out.bx.cell 22
  simp only [List.getElem?_cons_zero, List.getElem?_cons_succ] at c22
  go_wp2_with fail
  refine (ro_inst _ _ n8 n9 n10 n11 n12 n13 n14 n15 n16 n17 n18 n19 n20 n21 a22 m22 p22 rs22 l22 _ _ w _ HO.out.oo (HB0.out.trans (HO.out.ft.low (by omega) HB0.out.size)) (by omega) HK.out (by omega) (by omega) hz16 hz17 HR22.out).mono ?_
  rintro e w6 ⟨he, h1, h2⟩
  rw [he.out]
  have HO' := Lib.hid (HO.out.call h1 h2)
  have HK' := Lib.hid (ShC.ins _ _ (n8, (n9, n10), (n11, n12), (n13, n14, n15, n16, n17, n18, n19, n20), n21, l22) HK.out)
  clear he h1 h2 HO HK c8 c9 c10 c11 c12 c13 c14 c15 c16 c17 c18 c19 c20 c21 c22
  have HO := HO'
  have HK := HK'
  clear HO' HK'
  have c23 := HO.out.bx.cell 23
  simp only [List.getElem?_cons_zero, List.getElem?_cons_succ] at c23
  have c24 := HO.out.bx.cell 24
  simp only [List.getElem?_cons_zero, List.getElem?_cons_succ] at c24
  have c25 := HO.out.bx.cell 25
  simp only [List.getElem?_cons_zero, List.getElem?_cons_succ] at c25
  have c26 := HO.out.bx.cell 26
  simp only [List.getElem?_cons_zero, List.getElem?_cons_succ] at c26
  go_wp2_with fail
  refine (ro_snap _ _ n23 a24 m24 p24 a25 m25 p25 a26 m26 p26 rs24 l24 rs25 l25 rs26 l26 _ _ w _ HO.out.oo (HB0.out.trans (HO.out.ft.low (by omega) HB0.out.size)) (by omega) HK.out (by omega) (by omega) HR24.out HR25.out HR26.out HRs.out).mono ?_
  rintro e w7 ⟨he, h1, h2⟩
  rw [he.out]
  have HO' := Lib.hid (HO.out.call h1 h2)
  have HK' := Lib.hid (ShC.sn _ _ ((n23, l24), l25, l26) HK.out)
  clear he h1 h2 HO HK c23 c24 c25 c26
  have HO := HO'
  have HK := HK'
  clear HO' HK'
  have HE : Hid (wrs (wrs (wrs (wrs (wr1 (wr1 (wr1 (some []) (.num n0)) (.num n1)) (.num n2)) (idC.fs (n3, n4, n5))) (balC.fs (n6, n7))) (inC.fs (n8, (n9, n10), (n11, n12), (n13, n14, n15, n16, n17, n18, n19, n20), n21, l22))) (snC.fs ((n23, l24), l25, l26)) = wrs (some []) (msC.fs (n0, n1, n2, (n3, n4, n5), (n6, n7), (n8, (n9, n10), (n11, n12), (n13, n14, n15, n16, n17, n18, n19, n20), n21, l22), ((n23, l24), l25, l26)))) := Lib.hid (by
    unfold msC
    simp only [pairC_fs, numC_fs, wrs_app, wrs_cons, List.cons_append, List.nil_append])
  have HBf := Lib.hid (HB0.out.trans (HO.out.ft.low (by omega) HB0.out.size))
  by_cases q : Oks (msC.fs (n0, n1, n2, (n3, n4, n5), (n6, n7), (n8, (n9, n10), (n11, n12), (n13, n14, n15, n16, n17, n18, n19, n20), n21, l22), ((n23, l24), l25, l26)))
  · have e1 := wrs_ok _ [] q
    rw [List.nil_append, ← HE.out] at e1
    obtain ⟨s, hk, _, hx⟩ := HO.out.oo
    have hsx := eF_txt (hx _ e1)
    rw [e1] at hk
    have c0 := hk.cell 0
    have c1 := hk.cell 1
    simp only [List.getElem?_cons_zero, List.getElem?_cons_succ, Option.isNone_some] at c0 c1
    rw [hsx] at c0
    have HQ := Lib.hid q
    clear hk hx e1 q hsx
    go_wp2_with fail
    go_ret2
    exact ⟨HBf.out, Or.inl ⟨HQ.out, rfl⟩⟩
  · have e1 := wrs_bad _ [] q
    rw [← HE.out] at e1
    obtain ⟨s, hk, _, hx⟩ := HO.out.oo
    rw [e1] at hk
    have c1 := hk.cell 1
    simp only [List.getElem?_cons_zero, List.getElem?_cons_succ, Option.isNone_none] at c1
    have HQ := Lib.hid q
    clear hk hx e1 q
    go_wp2_with fail
    go_ret2
    exact ⟨HBf.out, Or.inr ⟨HQ.out, rfl⟩⟩
/-- A message's text. -/
def txM (l : List Fd) : ByteArray := if Oks l then ⟨#[61]⟩ ++ txt (eF l) else ⟨#[110, 111, 110, 101]⟩
def TxP (l : List Fd) (w : World) (e : Ending) (w' : World) : Prop := Hid (e = .returned (.string (txM l))) ∧ Below w.heap.size w w'
theorem sh_len (x : Msg7) : (eF (msC.fs x)).length ≤ 99999999900 ∨ ¬ Oks (msC.fs x) := by
  by_cases q : Oks (msC.fs x)
  · have h := ShC.ms 0 (some []) x (by simp [Sh, stl])
    rw [wrs_ok _ [] q] at h
    unfold Sh stl at h
    simp only [Option.getD_some, List.nil_append] at h
    exact .inl (by omega)
  · exact .inr q
set_option maxRecDepth 100000 in
set_option maxHeartbeats 4000000 in
theorem ro_texts (v : Value) (x : Msg7) (w : World) (h : MsgIs w v x) (hz : RchI x.2.2.2.2.2.1 x.2.2.2.2.2.2) :
    Calls Try.prog 21 #[v] w (TxP (msC.fs x) w) := by
  have HM := Lib.hid h
  have HZ := Lib.hid hz
  obtain ⟨cs, rfl, hs⟩ := h
  have HI : Hid ((Try.prog.info? 44).map (·.size) = some cs.size) := Lib.hid (by rw [ms_size hs]; kernel_rfl)
  have HX := Lib.hid (bka_new w 44 cs)
  have HB0 : Hid (Below w.heap.size w (w.alloc (.cells cs 44))) := Lib.hid ((Below.refl _ _).alloc (Nat.le_refl _) _)
  clear hs hz
  go_enter Try.func21, Try.ntmps21
  go_wp2_with (refine wpList_load_row rfl _ _ rfl w.heap.size rfl 44 cs (0, 0) _ HX.out Try.underlying44 rfl HI.out ?_)
  refine (ro_msg _ x _ (HM.out.on HB0.out) HZ.out).mono ?_
  rintro e w1 ⟨hb, hq⟩
  have HB := Lib.hid (HB0.out.trans (hb.mono HB0.out.size))
  have HQ := Lib.hid hq
  clear hb hq HX HB0
  rcases HQ.out with ⟨q, he⟩ | ⟨q, he⟩
  · have hl := (sh_len x).resolve_right (fun k => k q)
    have hsz : (txt (eF (msC.fs x))).size ≤ 99999999900 := by rw [txt_size]; exact hl
    have k5 : ¬ (9223372036854775807 < 1 + (txt (eF (msC.fs x))).size) := by omega
    rw [he.out]
    have HE : Hid (txM (msC.fs x) = ⟨#[61]⟩ ++ txt (eF (msC.fs x))) := Lib.hid (by unfold txM; rw [if_pos q])
    clear he HQ q hl
    go_wp2_with fail
    go_ret
    exact ⟨Lib.hid (by rw [HE.out]; rfl), HB.out⟩
  · rw [he.out]
    have HE : Hid (txM (msC.fs x) = ⟨#[110, 111, 110, 101]⟩) := Lib.hid (by unfold txM; rw [if_neg q])
    clear he HQ q
    go_wp2_with fail
    go_ret
    exact ⟨Lib.hid (by rw [HE.out]; rfl), HB.out⟩
end Go.Proofs.Ytllcmapgigfgoaa
namespace Go.Proofs.Ytllcmapgigfgoaa
open Go.ChangeShapes Go.WideShapes Go.ChangeAt Go.RowKit Go.Joins Go.Deep
set_option linter.unusedSimpArgs false
set_option linter.unusedVariables false
set_option maxRecDepth 100000

/-- What came in of a type reads so, and is so small, where nothing in it is longer than memory. -/
structure OpensR (P : Program) (t : TypeId) {α : Type} (S : Shp α) (R : α → Prop) : Prop where
  go : ∀ {H : Type} {enc : TypeId × Value → H} {w : World} {base : Nat} {spare : Nat → Bool} {held : Bool} (fuel : Nat) (cs : List Value) (y : DataW H × List MemPlace),
    DataW.trod enc P w base spare held fuel t cs = some y → (∀ n ∈ y.1.weights P t, n ≤ reachBytes) → ∃ x, S.is w cs x ∧ R x
theorem OpensR.of {P : Program} {t : TypeId} {α : Type} {S : Shp α} (h : Opens P t S) : OpensR P t S (fun _ => True) := .mk fun fuel cs y hy _ => by
  obtain ⟨x, hx⟩ := h.go fuel cs y hy
  exact ⟨x, hx, trivial⟩
theorem OpensR.to {P : Program} {t : TypeId} {α : Type} {S S' : Shp α} {R : α → Prop} (h : OpensR P t S R) (hi : ∀ w cs x, S.is w cs x → S'.is w cs x) : OpensR P t S' R := .mk fun fuel cs y hy hw => by
  obtain ⟨x, hx, hr⟩ := h.go fuel cs y hy hw
  exact ⟨x, hi _ _ _ hx, hr⟩
def RT (n : ByteArray) : Prop := n.size ≤ 140737488355328
theorem opensR_tx {P : Program} {t : TypeId} (ht : P.underlying t = some .string) : OpensR P t txS RT := .mk fun fuel cs y h hw => by
  obtain ⟨s, e, hy, hm⟩ := DataW.trod_string ht h
  subst hy
  refine ⟨s, ⟨e, hm⟩, ?_⟩
  have h1 := hw s.data.toList.length (by unfold DataW.weights; exact List.mem_singleton.2 rfl)
  have h2 := reachBytes_lt
  have h3 : s.data.toList.length = s.size := by rw [Array.length_toList]; rfl
  unfold RT
  omega
/-- Fields of a struct from the j-th on read so. -/
structure OpensFR (P : Program) (fs : Array Field) (n j off : Nat) {α : Type} (S : Shp α) (R : α → Prop) : Prop where
  go : ∀ {H : Type} {enc : TypeId × Value → H} {w : World} {base : Nat} {spare : Nat → Bool} {held : Bool} (m : Nat) (cs : List Value), cs.length = n →
    (∀ (i : Nat) (f : Field), fs[i]? = some f → ∃ y, DataW.trod enc P w base spare held m f.type ((cs.drop f.offset).take (P.cellsOf f.type)) = some y ∧ ∀ n ∈ y.1.weights P f.type, n ≤ reachBytes) → ∃ x, S.is w (cs.drop off) x ∧ R x
theorem opensFR_last {P : Program} {fs : Array Field} {n j off k : Nat} {α : Type} {S : Shp α} {R : α → Prop} (f : Field) (hf : fs[j]? = some f) (ho : f.offset = off) (hk : P.cellsOf f.type = k) (hn : off + k = n) (h : OpensR P f.type S R) : OpensFR P fs n j off S R := .mk fun m cs hc hh => by
  obtain ⟨y, hy, hw⟩ := hh j f hf
  rw [ho, hk, List.take_of_length_le (by rw [List.length_drop]; omega)] at hy
  exact h.go _ _ _ hy hw
theorem opensFR_cons {P : Program} {fs : Array Field} {n j off k : Nat} {α β : Type} {S : Shp α} {S2 : Shp β} {R : α → Prop} {R2 : β → Prop} (f : Field) (hf : fs[j]? = some f) (ho : f.offset = off) (hk : P.cellsOf f.type = k) (h : OpensR P f.type S R) (ht : OpensFR P fs n (j + 1) (off + k) S2 R2) : OpensFR P fs n j off (pairS S S2) (fun p => R p.1 ∧ R2 p.2) := .mk fun m cs hc hh => by
  obtain ⟨y, hy, hw⟩ := hh j f hf
  rw [ho, hk] at hy
  obtain ⟨x1, h1, r1⟩ := h.go _ _ _ hy hw
  obtain ⟨x2, h2, r2⟩ := ht.go m cs hc hh
  refine ⟨(x1, x2), ⟨(cs.drop off).take k, cs.drop (off + k), ?_, h1, h2⟩, r1, r2⟩
  rw [← List.drop_drop, List.take_append_drop]
theorem opensR_struct {P : Program} {t : TypeId} {fs : Array Field} {n : Nat} {α : Type} {S : Shp α} {R : α → Prop} (ht : P.underlying t = some (.struct fs)) (hC : P.cellsOf t = n) (h : OpensFR P fs n 0 0 S R) : OpensR P t S R := .mk fun fuel cs y hy hw => by
  obtain ⟨ys, n', _, hyy, hlen, hyl, hf⟩ := DataW.trod_struct ht hy
  obtain ⟨x, hx, hr⟩ := h.go n' cs (by rw [hlen, hC]) (fun i f hi => by
    have hil : i < fs.size := (Array.getElem?_eq_some_iff.1 hi).1
    have hys : ys[i]? = some (ys[i]'(by omega)) := List.getElem?_eq_getElem (by omega)
    refine ⟨_, (hf i f hi).trans hys, fun n hn => ?_⟩
    refine hw n ?_
    subst hyy
    simp only [DataW.weights, ht]
    exact DataW.weights_mem_each (j := i) (t := f.type) (by simp [hi]) (by rw [List.getElem?_map, hys]; rfl) n hn)
  exact ⟨x, by simpa using hx, hr⟩
theorem weights_all {H : Type} {P : Program} {e : TypeId} {d : DataW H} {n : Nat} (hn : n ∈ d.weights P e) : ∀ l : List (DataW H), d ∈ l → n ∈ DataW.weightsAll P e l
  | [], h => by simp at h
  | x :: l, h => by
    simp only [DataW.weightsAll, List.mem_append]
    rcases List.mem_cons.1 h with rfl | h
    · exact .inl hn
    · exact .inr (weights_all hn l h)
theorem opensR_row {P : Program} {s : TypeId} {k : Nat} (K : Knd P (Cls k)) (hK : K.k = k) (hE : K.enc = Cls.cs) (hS : K.S = s) {α : Type} {S : Shp α} {R : α → Prop} (hC : P.cellsOf K.T = k) (h : OpensR P K.T S R) : OpensR P s (rowS K S) (fun l => ∀ x ∈ l, R x) := .mk @fun H enc w base spare held fuel cs y hy hw => by
  rcases open_slice (hS ▸ K.und) hy with ⟨rfl, _⟩ | ⟨a, len, cap, m, n, D, Pl, rfl, hb, hl, hm, hmm, hyy, hi⟩
  · exact ⟨[], ⟨_, [], rfl, Knd.Rd.nil _, rfl, fun j h1 => by simp at h1⟩, fun x hx => by simp at hx⟩
  · have hlm : len ≤ m := by rw [hmm]; split <;> omega
    have key : ∀ i, i < len → ∃ t : Cls k × α, (∀ j u, t.1.cs[j]? = some u → w.cell? ((a.add (i * k)).add j) = some u) ∧ (S.is w t.1.cs t.2 ∧ R t.2) := by
      intro i hil
      obtain ⟨cs', hc, ht'⟩ := hi i (by omega)
      rw [hC] at hc
      obtain ⟨_, hcl, hat⟩ := World.cells?_some hc
      obtain ⟨x, hx, hr⟩ := h.go _ _ _ ht' (fun n hn => hw n (by
        subst hyy
        simp only [DataW.weights, hS ▸ K.und]
        refine List.mem_cons_of_mem _ (List.mem_append_left _ (weights_all hn _ (List.mem_map.2 ⟨i, List.mem_range.2 hil, rfl⟩)))))
      refine ⟨(⟨cs', hcl, S.one hx⟩, x), fun j u hu => ?_, hx, hr⟩
      have hj : j < k := by have h1 : j < cs'.length := (List.getElem?_eq_some_iff.1 hu).1; rw [hcl] at h1; exact h1
      exact (hat j hj).trans hu
    obtain ⟨ts, hts, hp⟩ := list_ofR len key
    subst hts
    refine ⟨ts.map (·.2), ⟨_, ts.map (·.1), rfl, ⟨some a, cap, by rw [List.length_map], by rw [List.length_map]; exact Nat.le_trans hl hm, (fun q => by cases q), ?_⟩, by simp, fun j h1 h2 => ?_⟩, fun x hx => ?_⟩
    · by_cases h0 : ts = []
      · left; rw [h0]; rfl
      · right
        have hpos : 0 < ts.length := List.length_pos_iff.2 h0
        have hk := K.pos
        rw [hK] at hk
        obtain ⟨b, off, spot⟩ := a
        have hc0 := (hp 0 hpos).1 0 (ts[0].1.cs[0]'(by rw [ts[0].1.len]; exact hk)) (List.getElem?_eq_getElem _)
        have hspot : spot = none := by simpa [Addr.add] using World.cell?_spot hc0
        subst hspot
        refine ⟨b, off, rfl, ?_, fun t u hu => ?_⟩
        · by_cases g : b < w.heap.size
          · exact g
          · exfalso
            have e : w.heap[b]? = none := by simp; omega
            simp [World.cell?, Addr.add, e] at hc0
        · have ht : t < (K.row (ts.map (·.1))).length := (List.getElem?_eq_some_iff.1 hu).1
          rw [K.row_flat _ t ht] at hu
          rw [K.row_len, List.length_map, hK] at ht
          rw [hE, hK] at hu
          have hil : t / k < ts.length := by rw [Nat.div_lt_iff_lt_mul hk]; exact ht
          have e1 : (ts.map (·.1)).getD (t / k) K.d = ts[t / k].1 := by simp [List.getD, hil]
          rw [e1] at hu
          have h1 := (hp (t / k) hil).1 (t % k) u hu
          rw [Go.Deep.add_add] at h1
          have hdm : t / k * k + t % k = t := by rw [Nat.mul_comm]; exact Nat.div_add_mod t k
          rw [hdm] at h1
          by_cases h0 : t = 0
          · subst h0; simpa [Addr.add] using h1
          · simpa [Addr.add, h0] using h1
    · have h1' : j < ts.length := by simpa using h1
      simpa using (hp j h1').2.1
    · obtain ⟨q, hq, rfl⟩ := List.mem_map.1 hx
      obtain ⟨j, hj, rfl⟩ := List.getElem_of_mem hq
      exact (hp j hj).2.2
theorem OpensR.weak {P : Program} {t : TypeId} {α : Type} {S : Shp α} {R R' : α → Prop} (h : OpensR P t S R) (hi : ∀ x, R x → R' x) : OpensR P t S R' := .mk fun fuel cs y hy hw => by
  obtain ⟨x, hx, hr⟩ := h.go fuel cs y hy hw
  exact ⟨x, hx, hi _ hr⟩
theorem opensR_en : OpensR Try.prog 110 enS (fun x => RT x.1 ∧ RT x.2.1 ∧ True) :=
  (opensR_struct (P := Try.prog) (S := pairS txS (pairS txS numS)) Try.underlying110 (n := 3) (by kernel_rfl) (opensFR_cons _ rfl rfl (k := 1) (by kernel_rfl) (opensR_tx Try.underlying9) (opensFR_cons _ rfl rfl (k := 1) (by kernel_rfl) (opensR_tx Try.underlying9) (opensFR_last _ rfl rfl (k := 1) (by kernel_rfl) rfl (.of (opens_num Try.underlying3)))))).to (fun w cs x h => by
      obtain ⟨c1, c2, e, ⟨h1, s1⟩, d1, d2, e2, ⟨h2, s2⟩, h3⟩ := h
      subst h1 h2 h3 e2
      exact ⟨e, s1, s2⟩)
theorem opensR_strs : OpensR Try.prog 111 (rowS KT txS) (fun l => ∀ x ∈ l, RT x) := opensR_row KT rfl rfl rfl (by kernel_rfl) (opensR_tx Try.underlying9)
theorem opensR_ens : OpensR Try.prog 39 (rowS KE enS) (fun l => ∀ x ∈ l, RT x.1 ∧ RT x.2.1 ∧ True) := opensR_row KE rfl rfl rfl (by kernel_rfl) opensR_en
theorem opensR_rp : OpensR Try.prog 113 rpS (fun x => True ∧ RT x.2.1 ∧ True ∧ ∀ t ∈ x.2.2.2, RT t) :=
  OpensR.weak (opensR_struct (P := Try.prog) (S := rpS) Try.underlying113 (n := 4) (by kernel_rfl) (opensFR_cons _ rfl rfl (k := 1) (by kernel_rfl) (.of (opens_num Try.underlying50)) (opensFR_cons _ rfl rfl (k := 1) (by kernel_rfl) (opensR_tx Try.underlying9) (opensFR_cons _ rfl rfl (k := 1) (by kernel_rfl) (.of (opens_num Try.underlying3)) (opensFR_last _ rfl rfl (k := 1) (by kernel_rfl) rfl opensR_strs))))) (fun _ h => h)
theorem opensR_se : OpensR Try.prog 115 seS (fun x => True ∧ True ∧ True ∧ RT x.2.2.2.1 ∧ True ∧ ∀ t ∈ x.2.2.2.2.2, RT t) :=
  (opensR_struct (P := Try.prog) (S := pairS numS (pairS numS rpS)) Try.underlying115 (n := 6) (by kernel_rfl) (opensFR_cons _ rfl rfl (k := 1) (by kernel_rfl) (.of (opens_num Try.underlying3)) (opensFR_cons _ rfl rfl (k := 1) (by kernel_rfl) (.of (opens_num Try.underlying3)) (opensFR_last _ rfl rfl (k := 4) (by kernel_rfl) rfl opensR_rp)))).to (fun w cs x h => by
      obtain ⟨c1, c2, e, h1, d1, d2, e2, h2, e1', e2', e3, h3, f1, f2, e4, ⟨h4, s4⟩, g1, g2, e5, h5, v, rs, h6, h7⟩ := h
      subst h1 h2 h3 h4 h5 h6 e5 e4 e3 e2
      exact ⟨v, rs, e, s4, h7⟩)
theorem opensR_ses : OpensR Try.prog 40 (rowS KZ seS) (fun l => ∀ x ∈ l, True ∧ True ∧ True ∧ RT x.2.2.2.1 ∧ True ∧ ∀ t ∈ x.2.2.2.2.2, RT t) := opensR_row KZ rfl rfl rfl (by kernel_rfl) opensR_se
theorem opensR_cm : OpensR Try.prog 30 cmS (fun x => True ∧ True ∧ True ∧ RT x.2.2.2.1 ∧ RT x.2.2.2.2.1 ∧ True ∧ True ∧ True) :=
  OpensR.weak (opensR_struct (P := Try.prog) (S := cmS) Try.underlying30 (n := 8) (by kernel_rfl) (opensFR_cons _ rfl rfl (k := 1) (by kernel_rfl) (.of (opens_num Try.underlying3)) (opensFR_cons _ rfl rfl (k := 1) (by kernel_rfl) (.of (opens_num Try.underlying3)) (opensFR_cons _ rfl rfl (k := 1) (by kernel_rfl) (.of (opens_num Try.underlying28)) (opensFR_cons _ rfl rfl (k := 1) (by kernel_rfl) (opensR_tx Try.underlying9) (opensFR_cons _ rfl rfl (k := 1) (by kernel_rfl) (opensR_tx Try.underlying9) (opensFR_cons _ rfl rfl (k := 1) (by kernel_rfl) (.of (opens_num Try.underlying3)) (opensFR_cons _ rfl rfl (k := 1) (by kernel_rfl) (.of (opens_num Try.underlying3)) (opensFR_last _ rfl rfl (k := 1) (by kernel_rfl) rfl (.of (opens_num Try.underlying3))))))))))) (fun _ h => h)
def RI (x : Ins) : Prop := RT x.2.2.2.1.2.2.2.1 ∧ RT x.2.2.2.1.2.2.2.2.1
theorem opensR_in : OpensR Try.prog 35 inS RI :=
  (opensR_struct (P := Try.prog) (S := inS) Try.underlying35 (n := 15) (by kernel_rfl) (opensFR_cons _ rfl rfl (k := 1) (by kernel_rfl) (.of (opens_num Try.underlying27)) (opensFR_cons _ rfl rfl (k := 2) (by kernel_rfl) (.of opens_bal) (opensFR_cons _ rfl rfl (k := 2) (by kernel_rfl) (.of opens_bal) (opensFR_cons _ rfl rfl (k := 8) (by kernel_rfl) opensR_cm (opensFR_last _ rfl rfl (k := 2) (by kernel_rfl) rfl (.of opens_at))))))).weak (fun x h => ⟨h.2.2.2.1.2.2.2.1, h.2.2.2.1.2.2.2.2.1⟩)
theorem opensR_sn : OpensR Try.prog 42 snS (fun x => Rch x.2.1 x.2.2) :=
  (opensR_struct (P := Try.prog) (S := snS) Try.underlying42 (n := 4) (by kernel_rfl) (opensFR_cons _ rfl rfl (k := 2) (by kernel_rfl) (.of opens_cf) (opensFR_cons _ rfl rfl (k := 1) (by kernel_rfl) opensR_ens (opensFR_last _ rfl rfl (k := 1) (by kernel_rfl) rfl opensR_ses)))).weak (fun x h => ⟨fun y hy => ⟨(h.2.1 y hy).1, (h.2.1 y hy).2.1⟩, fun y hy => ⟨(h.2.2 y hy).2.2.2.1, (h.2.2 y hy).2.2.2.2.2⟩⟩)
theorem opensR_ms : OpensR Try.prog 44 msS (fun x => RchI x.2.2.2.2.2.1 x.2.2.2.2.2.2) :=
  (opensR_struct (P := Try.prog) (S := msS) Try.underlying44 (n := 27) (by kernel_rfl) (opensFR_cons _ rfl rfl (k := 1) (by kernel_rfl) (.of (opens_num Try.underlying22)) (opensFR_cons _ rfl rfl (k := 1) (by kernel_rfl) (.of (opens_num Try.underlying3)) (opensFR_cons _ rfl rfl (k := 1) (by kernel_rfl) (.of (opens_num Try.underlying3)) (opensFR_cons _ rfl rfl (k := 3) (by kernel_rfl) (.of opens_id) (opensFR_cons _ rfl rfl (k := 2) (by kernel_rfl) (.of opens_bal) (opensFR_cons _ rfl rfl (k := 15) (by kernel_rfl) opensR_in (opensFR_last _ rfl rfl (k := 4) (by kernel_rfl) rfl opensR_sn)))))))).weak (fun x h => ⟨h.2.2.2.2.2.1.1, h.2.2.2.2.2.1.2, h.2.2.2.2.2.2⟩)
theorem opensR_rc : OpensR Try.prog 46 rcS (fun x => RchI x.2.2.1 x.2.2.2) :=
  (opensR_struct (P := Try.prog) (S := rcS) Try.underlying46 (n := 23) (by kernel_rfl) (opensFR_cons _ rfl rfl (k := 1) (by kernel_rfl) (.of (opens_bool Try.underlying4)) (opensFR_cons _ rfl rfl (k := 3) (by kernel_rfl) (.of opens_id) (opensFR_cons _ rfl rfl (k := 15) (by kernel_rfl) opensR_in (opensFR_last _ rfl rfl (k := 4) (by kernel_rfl) rfl opensR_sn))))).weak (fun x h => ⟨h.2.2.1.1, h.2.2.1.2, h.2.2.2⟩)
theorem msg_of_argR {H : Type} {enc : TypeId × Value → H} {w : World} {r : Reach} {b0 base : Nat} {spare : Nat → Bool} {held : Bool} {v : Value} {d : DataW H} {p : List MemPlace}
    (hv : Value.okWide Try.prog w r b0 44 v) (h : DataW.Trod enc Try.prog w base spare held 44 v d p) (hw : ∀ n ∈ d.weights Try.prog 44, n ≤ reachBytes) : ∃ x : Msg7, MsgIs w v x ∧ RchI x.2.2.2.2.2.1 x.2.2.2.2.2.2 := by
  obtain ⟨cs, rfl, hsz⟩ := okWide_struct Try.underlying44 hv
  obtain ⟨fuel, hf⟩ := h
  obtain ⟨x, hx, hr⟩ := opensR_ms.go fuel _ _ hf hw
  exact ⟨x, ⟨cs, rfl, by simpa [Value.cells] using hx⟩, hr⟩
theorem rec_of_argR {H : Type} {enc : TypeId × Value → H} {w : World} {r : Reach} {b0 base : Nat} {spare : Nat → Bool} {held : Bool} {v : Value} {d : DataW H} {p : List MemPlace}
    (hv : Value.okWide Try.prog w r b0 46 v) (h : DataW.Trod enc Try.prog w base spare held 46 v d p) (hw : ∀ n ∈ d.weights Try.prog 46, n ≤ reachBytes) : ∃ x : Bool × Id3 × Ins × Snp, RecIs w v x ∧ RchI x.2.2.1 x.2.2.2 := by
  obtain ⟨cs, rfl, hsz⟩ := okWide_struct Try.underlying46 hv
  obtain ⟨fuel, hf⟩ := h
  obtain ⟨x, hx, hr⟩ := opensR_rc.go fuel _ _ hf hw
  exact ⟨x, ⟨cs, rfl, by simpa [Value.cells] using hx⟩, hr⟩
end Go.Proofs.Ytllcmapgigfgoaa
