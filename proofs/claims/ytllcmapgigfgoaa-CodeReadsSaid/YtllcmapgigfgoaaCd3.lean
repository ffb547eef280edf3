/-
  Package code: a struct in a box whose fields are walked one by one; calls through the interface.
-/
import Derived.Test.YtllcmapgigfgoaaCd2
import Derived.Test.YtllcmapgigfgoaaCdN
namespace Go.Proofs.Ytllcmapgigfgoaa
open Go.RowKit
set_option linter.unusedSimpArgs false
set_option linter.unusedVariables false

abbrev fW (c : Nat) : Value := .iface 116 (.pointer (some ⟨c, 0, none⟩))
abbrev fR (c : Nat) : Value := .iface 131 (.pointer (some ⟨c, 0, none⟩))
theorem mwnum (c : Nat) (w : World) : (method 285 116 (.pointer (some ⟨c, 0, none⟩)) "syndic/code.num").run Try.prog w = .ok (107, .pointer (some ⟨c, 0, none⟩)) w := by kernel_rfl
theorem mwtext (c : Nat) (w : World) : (method 285 116 (.pointer (some ⟨c, 0, none⟩)) "syndic/code.text").run Try.prog w = .ok (109, .pointer (some ⟨c, 0, none⟩)) w := by kernel_rfl
theorem mwcount (c : Nat) (w : World) : (method 285 116 (.pointer (some ⟨c, 0, none⟩)) "syndic/code.count").run Try.prog w = .ok (106, .pointer (some ⟨c, 0, none⟩)) w := by kernel_rfl
theorem mrnum (c : Nat) (w : World) : (method 285 131 (.pointer (some ⟨c, 0, none⟩)) "syndic/code.num").run Try.prog w = .ok (114, .pointer (some ⟨c, 0, none⟩)) w := by kernel_rfl
theorem mrtext (c : Nat) (w : World) : (method 285 131 (.pointer (some ⟨c, 0, none⟩)) "syndic/code.text").run Try.prog w = .ok (115, .pointer (some ⟨c, 0, none⟩)) w := by kernel_rfl
theorem mrcount (c : Nat) (w : World) : (method 285 131 (.pointer (some ⟨c, 0, none⟩)) "syndic/code.count").run Try.prog w = .ok (113, .pointer (some ⟨c, 0, none⟩)) w := by kernel_rfl
/-- Cells from o on are written, one by one. -/
def setCs (w : World) (x : Nat) : Nat → List Value → World
  | _, [] => w
  | o, v :: vs => setCs (w.setCell ⟨x, o, none⟩ v) x (o + 1) vs
def setL : List Value → Nat → List Value → List Value
  | cs, _, [] => cs
  | cs, o, v :: vs => setL (cs.set o v) (o + 1) vs
/-- Block x alone is written. -/
structure Sx (x : Nat) (w w' : World) : Prop where
  os : w'.os = w.os
  tape : w'.tape = w.tape
  output : w'.output = w.output
  size : w'.heap.size = w.heap.size
  block : ∀ k, k ≠ x → w'.heap[k]? = w.heap[k]?
theorem setCs_sx (x : Nat) : ∀ (vs : List Value) (w : World) (o : Nat), Sx x w (setCs w x o vs)
  | [], w, o => ⟨rfl, rfl, rfl, rfl, fun _ _ => rfl⟩
  | v :: vs, w, o => by
    have h := setCs_sx x vs (w.setCell ⟨x, o, none⟩ v) (o + 1)
    exact ⟨h.os, h.tape, h.output, h.size.trans (by simp), fun k hk => (h.block k hk).trans (Below.heap_setCell _ _ _ _ hk)⟩
theorem setCs_bk (x : Nat) (T : TypeId) : ∀ (vs : List Value) (w : World) (o : Nat) (cs : List Value), Bk w x T cs → Bk (setCs w x o vs) x T (setL cs o vs)
  | [], w, o, cs, h => h
  | v :: vs, w, o, cs, h => setCs_bk x T vs _ _ _ (h.set o v)
theorem Bk.sx {w w' : World} {x k : Nat} {T : TypeId} {cs : List Value} (h : Bk w k T cs) (s : Sx x w w') (hk : k ≠ x) : Bk w' k T cs := (s.block k hk).trans h
theorem Ft.sx {B b c x : Nat} {w w1 w2 : World} (h : Ft B b c w w1) (s : Sx x w1 w2) (hx : w.heap.size ≤ x) (hB : B ≤ x) : Ft B b c w w2 :=
  ⟨h.low.trans ⟨s.os, s.tape, s.output, by rw [s.size]; exact Nat.le_refl _, fun k hk => s.block k (by omega)⟩, fun k h1 h2 h3 h4 => (s.block k (by omega)).trans (h.keep k h1 h2 h3 h4)⟩
theorem WO.sx {B b c x : Nat} {w w' : World} {st : Option (List Int)} (h : WO w B b c st) (s : Sx x w w') {T : TypeId} {cs : List Value} (hk : Bk w x T cs) (hT : T ≠ 5) (hb : x ≠ b) (hc : x ≠ c) : WO w' B b c st :=
  h.keep (by rw [s.size]; exact Nat.le_refl _) (s.block _ (Ne.symm hb)) (s.block _ (Ne.symm hc)) (fun k hu => s.block k (fun e => bk_u8 hk hT (e ▸ hu)))
theorem RO.sx {B b c x : Nat} {w w' : World} {s0 : RSt} (h : RO w B b c s0) (s : Sx x w w') {T : TypeId} {cs : List Value} (hk : Bk w x T cs) (hT : T ≠ 5) (hb : x ≠ b) (hc : x ≠ c) : RO w' B b c s0 :=
  h.keep (by rw [s.size]; exact Nat.le_refl _) (s.block _ (Ne.symm hb)) (s.block _ (Ne.symm hc)) (fun k hu => s.block k (fun e => bk_u8 hk hT (e ▸ hu)))
/-- A walk of a struct: its box at x, the result's box behind it. -/
structure StB (w0 w : World) (B b c x : Nat) (T : TypeId) (cs zs : List Value) : Prop where
  x0 : w0.heap.size = x
  hb : b < x
  hc : c < x
  hB : B ≤ x
  hT : T ≠ 5
  bx : Bk w x T cs
  rs : Bk w (x + 1) T zs
  ft : Ft B b c w0 w
structure StW (w0 w : World) (B b c x : Nat) (T : TypeId) (cs zs : List Value) (st : Option (List Int)) : Prop extends StB w0 w B b c x T cs zs where
  ob : WO w B b c st
structure StR (w0 w : World) (B b c x : Nat) (T : TypeId) (cs zs : List Value) (st : RSt) : Prop extends StB w0 w B b c x T cs zs where
  ob : RO w B b c st
theorem two_boxes (w : World) (T : TypeId) (cs zs : List Value) : Bk ((w.alloc (.cells cs.toArray T)).alloc (.cells zs.toArray T)) w.heap.size T cs ∧ Bk ((w.alloc (.cells cs.toArray T)).alloc (.cells zs.toArray T)) (w.heap.size + 1) T zs := by
  refine ⟨(Bk.new w T cs).old _, ?_⟩
  have := Bk.new (w.alloc (.cells cs.toArray T)) T zs
  rwa [World.size_alloc] at this
theorem StW.start {w : World} {B b c : Nat} {st : Option (List Int)} (h : WO w B b c st) (T : TypeId) (hT : T ≠ 5) (cs zs : List Value) : StW w ((w.alloc (.cells cs.toArray T)).alloc (.cells zs.toArray T)) B b c w.heap.size T cs zs st :=
  ⟨⟨rfl, h.lb.1, h.bx.lt, by have := h.lb; omega, hT, (two_boxes w T cs zs).1, (two_boxes w T cs zs).2, ((Ft.refl _ _ _ _).alloc (by have := h.lb; omega) _).alloc (by have := h.lb; simp; omega) _⟩, h.below (((Below.refl _ _).alloc (Nat.le_refl _) _).alloc (by simp) _)⟩
theorem StR.start {w : World} {B b c : Nat} {s : RSt} (h : RO w B b c s) (T : TypeId) (hT : T ≠ 5) (cs zs : List Value) : StR w ((w.alloc (.cells cs.toArray T)).alloc (.cells zs.toArray T)) B b c w.heap.size T cs zs s :=
  ⟨⟨rfl, h.lt.1, h.lt.2, by have := h.lt; have := h.low; omega, hT, (two_boxes w T cs zs).1, (two_boxes w T cs zs).2, ((Ft.refl _ _ _ _).alloc (by have := h.lt; have := h.low; omega) _).alloc (by have := h.lt; have := h.low; simp; omega) _⟩, h.below (((Below.refl _ _).alloc (Nat.le_refl _) _).alloc (by simp) _)⟩
theorem StB.call {w0 w w1 : World} {B b c x : Nat} {T : TypeId} {cs zs : List Value} (h : StB w0 w B b c x T cs zs) (h2 : Ft B b c w w1) : StB w0 w1 B b c x T cs zs :=
  ⟨h.x0, h.hb, h.hc, h.hB, h.hT, h.bx.ft h2 (by have := h.hb; omega) (by have := h.hc; omega) h.hT, h.rs.ft h2 (by have := h.hb; omega) (by have := h.hc; omega) h.hT, h.ft.trans h2⟩
theorem StW.call {w0 w w1 : World} {B b c x : Nat} {T : TypeId} {cs zs : List Value} {st st' : Option (List Int)} (h : StW w0 w B b c x T cs zs st) (h1 : WO w1 B b c st') (h2 : Ft B b c w w1) : StW w0 w1 B b c x T cs zs st' := ⟨h.toStB.call h2, h1⟩
theorem StR.call {w0 w w1 : World} {B b c x : Nat} {T : TypeId} {cs zs : List Value} {st st' : RSt} (h : StR w0 w B b c x T cs zs st) (h1 : RO w1 B b c st') (h2 : Ft B b c w w1) : StR w0 w1 B b c x T cs zs st' := ⟨h.toStB.call h2, h1⟩
theorem StB.store {w0 w : World} {B b c x : Nat} {T : TypeId} {cs zs : List Value} (h : StB w0 w B b c x T cs zs) (o : Nat) (vs : List Value) : StB w0 (setCs w x o vs) B b c x T (setL cs o vs) zs :=
  ⟨h.x0, h.hb, h.hc, h.hB, h.hT, setCs_bk x T vs w o cs h.bx, h.rs.sx (setCs_sx x vs w o) (by omega), h.ft.sx (setCs_sx x vs w o) (by have := h.x0; omega) h.hB⟩
theorem StW.store {w0 w : World} {B b c x : Nat} {T : TypeId} {cs zs : List Value} {st : Option (List Int)} (h : StW w0 w B b c x T cs zs st) (o : Nat) (vs : List Value) : StW w0 (setCs w x o vs) B b c x T (setL cs o vs) zs st :=
  ⟨h.toStB.store o vs, h.ob.sx (setCs_sx x vs w o) h.bx h.hT (by have := h.hb; omega) (by have := h.hc; omega)⟩
theorem StR.store {w0 w : World} {B b c x : Nat} {T : TypeId} {cs zs : List Value} {st : RSt} (h : StR w0 w B b c x T cs zs st) (o : Nat) (vs : List Value) : StR w0 (setCs w x o vs) B b c x T (setL cs o vs) zs st :=
  ⟨h.toStB.store o vs, h.ob.sx (setCs_sx x vs w o) h.bx h.hT (by have := h.hb; omega) (by have := h.hc; omega)⟩
/-- The result's box is written. -/
theorem StB.result {w0 w : World} {B b c x : Nat} {T : TypeId} {cs zs : List Value} (h : StB w0 w B b c x T cs zs) (vs : List Value) : Bk (setCs w (x + 1) 0 vs) (x + 1) T (setL zs 0 vs) ∧ Ft B b c w0 (setCs w (x + 1) 0 vs) :=
  ⟨setCs_bk (x + 1) T vs w 0 zs h.rs, h.ft.sx (setCs_sx (x + 1) vs w 0) (by have := h.x0; omega) (by have := h.hB; omega)⟩
theorem StW.result {w0 w : World} {B b c x : Nat} {T : TypeId} {cs zs : List Value} {st : Option (List Int)} (h : StW w0 w B b c x T cs zs st) (vs : List Value) : WO (setCs w (x + 1) 0 vs) B b c st :=
  h.ob.sx (setCs_sx (x + 1) vs w 0) h.rs h.hT (by have := h.hb; omega) (by have := h.hc; omega)
theorem StR.result {w0 w : World} {B b c x : Nat} {T : TypeId} {cs zs : List Value} {st : RSt} (h : StR w0 w B b c x T cs zs st) (vs : List Value) : RO (setCs w (x + 1) 0 vs) B b c st :=
  h.ob.sx (setCs_sx (x + 1) vs w 0) h.rs h.hT (by have := h.hb; omega) (by have := h.hc; omega)
/-- How much is written at most. -/
def Sh (K : Nat) (st : Option (List Int)) : Prop := (stl st).length ≤ 4104 * K
theorem Sh.none (K : Nat) : Sh K none := by simp [Sh, stl]
theorem Sh.le {K L : Nat} {st : Option (List Int)} (h : Sh K st) (hl : K ≤ L) : Sh L st := by unfold Sh at h ⊢; omega
theorem Sh.one {K : Nat} {st : Option (List Int)} (h : Sh K st) (f : Fd) : Sh (K + 1) (wr1 st f) := by
  by_cases q : f.ok
  · cases st with
    | none => exact Sh.none _
    | some xs =>
      rw [wr1_ok rfl q]
      unfold Sh stl at h ⊢
      simp only [Option.getD_some, List.length_append] at h ⊢
      have : f.enc.length ≤ 4104 := by
        have h0 := f.enc_le
        cases f with
        | num n => have h1 : (Fd.num n).enc.length ≤ 8 := h0; omega
        | txt s => have h1 : (Fd.txt s).enc.length ≤ 8 + s.size := h0; have h2 : s.size ≤ 4096 := q; omega
        | cnt n => have h1 : (Fd.cnt n).enc.length ≤ 8 := h0; omega
      omega
  · rw [wr1_bad q]; exact Sh.none _
theorem Sh.many {K : Nat} : ∀ {st : Option (List Int)} (l : List Fd), Sh K st → Sh (K + l.length) (wrs st l)
  | st, [], h => h
  | st, f :: l, h => by
    rw [wrs_cons]
    have := Sh.many (K := K + 1) l (h.one f)
    rw [List.length_cons]
    exact this.le (by omega)
theorem Sh.max {K : Nat} {st : Option (List Int)} (h : Sh K st) (hk : K ≤ 20000000) : (stl st).length ≤ 99999990000 := by unfold Sh at h; omega
end Go.Proofs.Ytllcmapgigfgoaa
