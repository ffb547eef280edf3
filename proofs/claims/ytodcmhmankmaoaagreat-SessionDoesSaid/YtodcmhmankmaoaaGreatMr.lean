/-
  Texts put together: RdM, RdI.
-/
import Derived.Test.YtodcmhmankmaoaaGreatJ6
namespace Go.Proofs.YtodcmhmankmaoaaGreat
open Go.RowKit
set_option linter.unusedSimpArgs false
set_option linter.unusedVariables false

/-- What is not more: few entries, small ones. -/
def FewE (l : List E3) : Prop := l.length ≤ 60 ∧ ∀ e ∈ l, e.1.size ≤ 300 ∧ e.2.1.size ≤ 300 ∧ e.2.2 ≤ 1099511627776
theorem few_of {l : List E3} (h : l.length ≤ 60) (ha : ∀ j, j < l.length → (l.getD j EK.d).1.size ≤ 300 ∧ (l.getD j EK.d).2.1.size ≤ 300 ∧ (l.getD j EK.d).2.2 ≤ 1099511627776) : FewE l := by
 refine ⟨h, fun e he => ?_⟩
 obtain ⟨j, hj, rfl⟩ := List.getElem_of_mem he
 have := ha j hj
 rw [List.getD, List.getElem?_eq_getElem hj] at this
 simpa only [Option.getD_some] using this
end Go.Proofs.YtodcmhmankmaoaaGreat
namespace Go.Proofs.YtodcmhmankmaoaaGreat
open Go.ChangeShapes Go.WideShapes Go.ChangeAt Go.RowKit Go.Joins Go.Deep
set_option linter.unusedSimpArgs false
set_option linter.unusedVariables false

theorem row_cells {P : Program} {α : Type} {K : Knd P α} {w : World} {g : Nat} : ∀ (l : List α) (off : Nat), (∀ i (hi : i < l.length) j u, (K.enc l[i])[j]? = some u → w.cell? ⟨g, off + (i * K.k + j), none⟩ = some u) → ∀ t u, (K.row l)[t]? = some u → w.cell? ⟨g, off + t, none⟩ = some u
 | [], off, _, t, u, ht => by simp [Knd.row] at ht
 | a :: l, off, h, t, u, ht => by
  unfold Knd.row at ht
  rw [List.flatMap_cons] at ht
  by_cases hk : t < K.k
  ·rw [List.getElem?_append_left (by rw [K.len]; exact hk)] at ht
   have := h 0 (by simp) t u ht
   rwa [Nat.zero_mul, Nat.zero_add] at this
  ·rw [List.getElem?_append_right (by rw [K.len]; omega), K.len] at ht
   have := row_cells l (off + K.k) (fun i hi j u hj => by
    have q := h (i + 1) (by simpa using hi) j u hj
    rw [Nat.add_mul, Nat.one_mul] at q
    rw [show off + K.k + (i * K.k + j) = off + (i * K.k + K.k + j) by omega]
    exact q) (t - K.k) u ht
   rwa [show off + K.k + (t - K.k) = off + t by omega] at this
set_option maxRecDepth 100000 in
theorem erow_of_arg {H : Type} {enc : TypeId × Value → H} {w : World} {r : Reach} {b0 base : Nat} {spare : Nat → Bool} {held : Bool} {v : Value} {d : DataW H} {p : List MemPlace}
  (hv : Value.okWide Tryz.prog w r b0 22 v) (h : DataW.Trod enc Tryz.prog w base spare held 22 v d p) : ∃ (a : Option Addr) (cap : Nat) (l : List E3), v = .slice a l.length cap ∧ EK.Rd w (.slice a l.length cap) l := by
 obtain ⟨a0, len0, cap0, rfl⟩ := okWide_slice Tryz.underlying22 hv
 obtain ⟨fuel, hf⟩ := h
 have hf2 : DataW.trod enc Tryz.prog w base spare held fuel 22 [.slice a0 len0 cap0] = some (d, p) := by simpa [Value.cells] using hf
 rcases open_slice_fields Tryz.underlying22 Tryz.underlying49 (by kernel_rfl) (by kernel_rfl) hf2 with ⟨hcs, _⟩ | ⟨x, len, cap, m, D, Pl, hcs, _, hl, hm, hmm, _, hi⟩
 ·simp at hcs
  obtain ⟨rfl, rfl, rfl⟩ := hcs
  exact ⟨none, 0, [], rfl, Knd.Rd.nil _⟩
 ·simp at hcs
  obtain ⟨rfl, rfl, rfl⟩ := hcs
  have hlm : len0 ≤ m := by rw [hmm]; split <;> omega
  have key : ∀ i, i < len0 → ∃ t : E3, w.cell? (x.add (i * 3 + 0)) = some (.string t.1) ∧ w.cell? (x.add (i * 3 + 1)) = some (.string t.2.1) ∧ w.cell? (x.add (i * 3 + 2)) = some (.int .i64 t.2.2) := by
   intro i hil
   obtain ⟨ys, n, _, _, _, hf⟩ := hi i (by omega)
   obtain ⟨v0, y0, c0, _, t0⟩ := hf 0 _ rfl
   obtain ⟨v1, y1, c1, _, t1⟩ := hf 1 _ rfl
   obtain ⟨v2, y2, c2, _, t2⟩ := hf 2 _ rfl
   obtain ⟨q0, e0, _, _⟩ := DataW.trod_string Tryz.underlying9 t0
   obtain ⟨q1, e1, _, _⟩ := DataW.trod_string Tryz.underlying9 t1
   obtain ⟨q2, e2, _, _⟩ := DataW.trod_int Tryz.underlying3 t2
   simp at e0 e1 e2
   subst e0 e1 e2
   exact ⟨(q0, q1, q2), c0, c1, c2⟩
  haveI : Inhabited E3 := ⟨EK.d⟩
  obtain ⟨ts, hts, hp⟩ := list_of len0 key
  subst hts
  refine ⟨some x, cap0, ts, rfl, ⟨some x, cap0, rfl, by omega, (fun q => by cases q), ?_⟩⟩
  by_cases h0 : ts.length = 0
  ·exact .inl (List.eq_nil_of_length_eq_zero h0)
  ·right
   have hc0 := (hp 0 (by omega)).1
   obtain ⟨b, off, spot⟩ := x
   have hspot : spot = none := by simpa [Addr.add] using World.cell?_spot hc0
   subst hspot
   refine ⟨b, off, rfl, block_lt_of_cell2 hc0 (by simp [Addr.add]), row_cells ts off (fun i hi j u hj => ?_)⟩
   obtain ⟨q0, q1, q2⟩ := hp i hi
   simp only [add_at] at q0 q1 q2
   have eg : ts.getD i default = ts[i] := by simp [List.getD, hi]
   rw [eg] at q0 q1 q2
   match j, hj with
   | 0, hj => cases hj; exact q0
   | 1, hj => cases hj; exact q1
   | 2, hj => cases hj; exact q2
   | j + 3, hj => cases hj
end Go.Proofs.YtodcmhmankmaoaaGreat
