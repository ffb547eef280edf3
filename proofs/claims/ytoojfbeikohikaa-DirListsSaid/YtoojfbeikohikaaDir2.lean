/-
  The replies; what is right; create.
-/
import Derived.Test.YtoojfbeikohikaaDir1
import Derived.StillTailTactics
import Derived.Deep.RegionHeld3
namespace Go.Proofs.Ytoojfbeikohikaa
open Go.RowKit Go.Sort
open Go.WideMaps
set_option linter.unusedSimpArgs false
set_option linter.unusedVariables false

theorem outB {w w' : World} {b : Nat} (h : Below w.heap.size w w') : w.grownBy w' (some b) := ⟨h.os, h.tape, h.output, h.size, fun k hk _ => h.block k hk⟩
theorem outT {w w1 w2 : World} {b : Nat} (h : w.grownBy w1 (some b)) (k : w1.grownBy w2 (some b)) : w.grownBy w2 (some b) :=
  ⟨k.os.trans h.os, k.tape.trans h.tape, k.output.trans h.output, Nat.le_trans h.size k.size, fun i hi hn => (k.block i (Nat.lt_of_lt_of_le hi h.size) hn).trans (h.block i hi hn)⟩
theorem outBelow {w w' : World} {b B : Nat} (h : w.grownBy w' (some b)) (hb : B ≤ b) (hB : B ≤ w.heap.size) : Below B w w' := (Below.refl B w).grown h hB (fun k e => by cases e; exact hb)
theorem DirAt.ne {w : World} {d b K : Nat} {l : List E3} (h : DirAt w d b K l) : d ≠ b := by
  rintro rfl
  obtain ⟨D, m, _, ⟨es, ck, hb, _⟩, _⟩ := h.map
  have := h.cell
  simp [World.cell?, hb] at this
theorem DirAt.lt {w : World} {d b K : Nat} {l : List E3} (h : DirAt w d b K l) : d < w.heap.size ∧ b < w.heap.size := by
  obtain ⟨D, m, _, hM, _⟩ := h.map
  exact ⟨World.block_lt_of_cell? w _ h.cell, hM.lt⟩
theorem DirAt.below {w w' : World} {d b K : Nat} {l : List E3} (h : DirAt w d b K l) (hb : Below w.heap.size w w') : DirAt w' d b K l := by
  obtain ⟨D, m, hm, hM, hI⟩ := h.map
  exact ⟨(hb.cell h.lt.1).trans h.cell, ⟨D, m, hm, hM.kept (row := none) ⟨hb.os, hb.tape, hb.output, hb.size, fun k hk _ => hb.block k hk⟩ (by simp), hI⟩, h.rise, h.keys⟩
/-- Another directory's map has turned. -/
theorem DirAt.out {w w' : World} {d b c K : Nat} {l : List E3} (h : DirAt w d b K l) (hg : w.grownBy w' (some c)) (hd : d ≠ c) (hb : b ≠ c) : DirAt w' d b K l := by
  obtain ⟨D, m, hm, hM, hI⟩ := h.map
  exact ⟨hg.cell h.cell (by simpa using hd), ⟨D, m, hm, hM.kept hg (by simpa using hb), hI⟩, h.rise, h.keys⟩
theorem DirAt.mono {w : World} {d b K K2 : Nat} {l : List E3} (h : DirAt w d b K l) (hK : K ≤ K2) : DirAt w d b K2 l := by
  obtain ⟨D, m, hm, hM, hI⟩ := h.map
  exact ⟨h.cell, ⟨D, m, by omega, hM, hI⟩, h.rise, h.keys⟩
theorem par_size (p : ByteArray) : (par p).size ≤ 1000 := by
  unfold par
  split
  · simp
  · have := pth_size _ (okN_dropLast (nm_ok p)); omega
theorem okP_ne {p : ByteArray} (hv : vld p = true) (hr : p ≠ pth []) : okP p := ⟨hv, fun e => hr ((root_iff hv).2 e)⟩

/-- A reply. -/
structure Rep where
  err : Int
  val : ByteArray
  ver : Int
  names : List ByteArray
def bad (n : Int) : Rep := ⟨n, { data := #[] }, 0, []⟩
abbrev repV (r : Rep) (v : Value) : Value := .agg #[.int .i64 r.err, .string r.val, .int .i64 r.ver, v]
def RepP (r : Rep) (w : World) (e : Ending) (w' : World) : Prop := ∃ v, Hid (e = .returned (repV r v)) ∧ Own1 w' w.heap.size 9 v (r.names.map .string)
theorem RepP.no (r : Rep) (hn : r.names = []) (w w' : World) : RepP r w (.returned (repV r (.slice none 0 0))) w' := ⟨_, rfl, by rw [hn]; exact Own1.nil _ _ _⟩
abbrev cmdV (cl sq op : Int) (p v : ByteArray) (ver a b : Int) : Value := .agg #[.int .i64 cl, .int .i64 sq, .int .i64 op, .string p, .string v, .int .i64 ver, .int .i64 a, .int .i64 b]
/-- The box of a command and the box of a reply, side by side. -/
abbrev box2 (w : World) (cl sq op : Int) (p v : ByteArray) (ver a b : Int) : World := (w.alloc (.cells #[.int .i64 cl, .int .i64 sq, .int .i64 op, .string p, .string v, .int .i64 ver, .int .i64 a, .int .i64 b] 34)).alloc (.cells #[.int .i64 0, .string { data := #[] }, .int .i64 0, .slice none 0 0] 30)
structure BX (N : Nat) (cl sq op : Int) (p v : ByteArray) (ver a b : Int) (w : World) : Prop where
  c : w.cell? ⟨N, 0, none⟩ = some (.int .i64 cl) ∧ w.cell? ⟨N, 1, none⟩ = some (.int .i64 sq) ∧ w.cell? ⟨N, 2, none⟩ = some (.int .i64 op) ∧ w.cell? ⟨N, 3, none⟩ = some (.string p) ∧ w.cell? ⟨N, 4, none⟩ = some (.string v) ∧ w.cell? ⟨N, 5, none⟩ = some (.int .i64 ver) ∧ w.cell? ⟨N, 6, none⟩ = some (.int .i64 a) ∧ w.cell? ⟨N, 7, none⟩ = some (.int .i64 b)
  r : w.cell? ⟨N + 1, 0, none⟩ = some (.int .i64 0) ∧ w.cell? ⟨N + 1, 1, none⟩ = some (.string { data := #[] }) ∧ w.cell? ⟨N + 1, 2, none⟩ = some (.int .i64 0) ∧ w.cell? ⟨N + 1, 3, none⟩ = some (.slice none 0 0)
  f : (∀ o, w.frozen? ⟨N, o, none⟩ = false) ∧ ∀ o, w.frozen? ⟨N + 1, o, none⟩ = false
  z : N + 2 ≤ w.heap.size
theorem BX.mk0 (w : World) (cl sq op : Int) (p v : ByteArray) (ver a b : Int) : BX w.heap.size cl sq op p v ver a b (box2 w cl sq op p v ver a b) := by
  refine ⟨?_, ?_, ?_, by simp⟩ <;> simp [go_sem]
theorem BX.out {N : Nat} {cl sq op : Int} {p v : ByteArray} {ver a b : Int} {w w' : World} {k : Nat} (h : BX N cl sq op p v ver a b w) (hg : w.grownBy w' (some k)) (hk : k < N) : BX N cl sq op p v ver a b w' := by
  have hz := h.z
  have e0 : ∀ o, w'.cell? ⟨N, o, none⟩ = w.cell? ⟨N, o, none⟩ := fun o => World.cell?_of_block (hg.block N (by omega) (by simp; omega))
  have e1 : ∀ o, w'.cell? ⟨N + 1, o, none⟩ = w.cell? ⟨N + 1, o, none⟩ := fun o => World.cell?_of_block (hg.block (N + 1) (by omega) (by simp; omega))
  have f0 : ∀ o, w'.frozen? ⟨N, o, none⟩ = w.frozen? ⟨N, o, none⟩ := fun o => World.frozen?_of_block (hg.block N (by omega) (by simp; omega))
  have f1 : ∀ o, w'.frozen? ⟨N + 1, o, none⟩ = w.frozen? ⟨N + 1, o, none⟩ := fun o => World.frozen?_of_block (hg.block (N + 1) (by omega) (by simp; omega))
  refine ⟨?_, ?_, ⟨fun o => (f0 o).trans (h.f.1 o), fun o => (f1 o).trans (h.f.2 o)⟩, Nat.le_trans hz hg.size⟩
  · simp only [e0]; exact h.c
  · simp only [e1]; exact h.r
theorem BX.below {N : Nat} {cl sq op : Int} {p v : ByteArray} {ver a b : Int} {w w' : World} (h : BX N cl sq op p v ver a b w) (hb : Below w.heap.size w w') : BX N cl sq op p v ver a b w' := by
  have hz := h.z
  have e0 : ∀ o, w'.cell? ⟨N, o, none⟩ = w.cell? ⟨N, o, none⟩ := fun o => hb.cell (p := ⟨N, o, none⟩) (by simp; omega)
  have e1 : ∀ o, w'.cell? ⟨N + 1, o, none⟩ = w.cell? ⟨N + 1, o, none⟩ := fun o => hb.cell (p := ⟨N + 1, o, none⟩) (by simp; omega)
  have f0 : ∀ o, w'.frozen? ⟨N, o, none⟩ = w.frozen? ⟨N, o, none⟩ := fun o => hb.frozen (p := ⟨N, o, none⟩) (by simp; omega)
  have f1 : ∀ o, w'.frozen? ⟨N + 1, o, none⟩ = w.frozen? ⟨N + 1, o, none⟩ := fun o => hb.frozen (p := ⟨N + 1, o, none⟩) (by simp; omega)
  refine ⟨?_, ?_, ⟨fun o => (f0 o).trans (h.f.1 o), fun o => (f1 o).trans (h.f.2 o)⟩, Nat.le_trans hz hb.size⟩
  · simp only [e0]; exact h.c
  · simp only [e1]; exact h.r
theorem box2_below (w : World) (cl sq op : Int) (p v : ByteArray) (ver a b : Int) : Below w.heap.size w (box2 w cl sq op p v ver a b) := ((Below.refl _ _).alloc (Nat.le_refl _) _).alloc (by simp) _
theorem failed_any (n : Int) (w : World) : Calls Try.prog 25 #[.int .i64 n] w fun e w' => e = .returned (repV (bad n) (.slice none 0 0)) ∧ Below w.heap.size w w' := by
  go_enter Try.func25, Try.ntmps25
  go_wp2
  exact bodyPost_ret (v := repV (bad n) (.slice none 0 0)) (by simp [results, Try.results25, go_sem, bad]) rfl ⟨rfl, (Below.refl _ _).alloc (Nat.le_refl _) _⟩
end Go.Proofs.Ytoojfbeikohikaa
