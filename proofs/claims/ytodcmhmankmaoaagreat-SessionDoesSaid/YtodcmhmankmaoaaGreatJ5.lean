/-
  Texts put together: Cm0, Cm1.
-/
import Derived.Test.YtodcmhmankmaoaaGreatJ4
import Derived.RowKit3
import Derived.Deep.Slices
import Derived.Deep.Fields
import Derived.ChangeSame
import Derived.ProofKit
import Derived.OpenShut
import Derived.Lib.SmallJoins
namespace Go.Proofs.YtodcmhmankmaoaaGreat
open Go.ChangeShapes Go.WideShapes Go.ChangeAt Go.RowKit Go.Joins Go.Deep
set_option linter.unusedSimpArgs false
set_option linter.unusedVariables false

theorem array8 {α : Type} {cs : Array α} (h : cs.size = 8) : ∃ c0 c1 c2 c3 c4 c5 c6 c7, cs = #[c0, c1, c2, c3, c4, c5, c6, c7] := by
  obtain ⟨l⟩ := cs
  match l, h with
  | [c0, c1, c2, c3, c4, c5, c6, c7], _ => exact ⟨c0, c1, c2, c3, c4, c5, c6, c7, rfl⟩
/-- A struct of one-cell fields that came in. -/
theorem open_agg_fields {P : Program} {H : Type} {enc : TypeId × Value → H} {w : World} {base : Nat} {spare : Nat → Bool} {held : Bool} {r : Reach} {b0 : Nat} {t : TypeId} {fs : Array Field} {v : Value} {d : DataW H} {p : List MemPlace} (hs : P.underlying t = some (.struct fs)) (hone : oneCellFields P fs = true) (hC : P.cellsOf t = fs.size)
    (hv : Value.okWide P w r b0 t v) (h : DataW.Trod enc P w base spare held t v d p) :
    ∃ cs : Array Value, v = .agg cs ∧ cs.size = fs.size ∧ ∀ (j : Nat) (f : Field), fs[j]? = some f → ∃ (u : Value) (y : DataW H × List MemPlace) (n : Nat), cs[j]? = some u ∧ DataW.trod enc P w base spare held n f.type [u] = some y := by
  obtain ⟨cs, rfl, hsz⟩ := okWide_struct hs hv
  obtain ⟨fuel, hf⟩ := h
  obtain ⟨ys, n', _, _, hyl, hlen, hh⟩ := DataW.trod_struct hs hf
  refine ⟨cs, rfl, hsz.trans hC, fun j f hj => ?_⟩
  obtain ⟨ho, hk⟩ := hone_of hone j f hj
  have hjl : j < fs.size := (Array.getElem?_eq_some_iff.1 hj).1
  have hjc : j < cs.size := by omega
  have h1 := hh j f hj
  simp only [Value.cells] at h1
  rw [ho, hk] at h1
  have e1 : (cs.toList.drop j).take 1 = [cs[j]] := by
    rw [List.drop_eq_getElem_cons (by simpa using hjc)]
    simp
  rw [e1] at h1
  have hy : ys[j]? = some (ys[j]'(by omega)) := List.getElem?_eq_getElem (by omega)
  exact ⟨cs[j], ys[j]'(by omega), n', by simp [hjc], h1.trans hy⟩
set_option maxRecDepth 100000 in
/-- A command that came in. -/
theorem cmd_of_arg {H : Type} {enc : TypeId × Value → H} {w : World} {r : Reach} {b0 base : Nat} {spare : Nat → Bool} {held : Bool} {v : Value} {d : DataW H} {p : List MemPlace}
    (hv : Value.okWide Tryz.prog w r b0 40 v) (h : DataW.Trod enc Tryz.prog w base spare held 40 v d p) :
    ∃ (cl sq op : Int) (pa va : ByteArray) (ver a b : Int), v = .agg #[.int .i64 cl, .int .i64 sq, .int .i64 op, .string pa, .string va, .int .i64 ver, .int .i64 a, .int .i64 b] := by
  obtain ⟨cs, rfl, hsz, hf⟩ := open_agg_fields Tryz.underlying40 (by kernel_rfl) (by kernel_rfl) hv h
  obtain ⟨c0, c1, c2, c3, c4, c5, c6, c7, rfl⟩ := array8 hsz
  obtain ⟨u0, y0, n0, e0, t0⟩ := hf 0 _ rfl
  obtain ⟨u1, y1, n1, e1, t1⟩ := hf 1 _ rfl
  obtain ⟨u2, y2, n2, e2, t2⟩ := hf 2 _ rfl
  obtain ⟨u3, y3, n3, e3, t3⟩ := hf 3 _ rfl
  obtain ⟨u4, y4, n4, e4, t4⟩ := hf 4 _ rfl
  obtain ⟨u5, y5, n5, e5, t5⟩ := hf 5 _ rfl
  obtain ⟨u6, y6, n6, e6, t6⟩ := hf 6 _ rfl
  obtain ⟨u7, y7, n7, e7, t7⟩ := hf 7 _ rfl
  simp at e0 e1 e2 e3 e4 e5 e6 e7
  subst e0 e1 e2 e3 e4 e5 e6 e7
  obtain ⟨x0, q0, _, _⟩ := DataW.trod_int Tryz.underlying3 t0
  obtain ⟨x1, q1, _, _⟩ := DataW.trod_int Tryz.underlying3 t1
  obtain ⟨x2, q2, _, _⟩ := DataW.trod_int Tryz.underlying38 t2
  obtain ⟨x3, q3, _, _⟩ := DataW.trod_string Tryz.underlying9 t3
  obtain ⟨x4, q4, _, _⟩ := DataW.trod_string Tryz.underlying9 t4
  obtain ⟨x5, q5, _, _⟩ := DataW.trod_int Tryz.underlying3 t5
  obtain ⟨x6, q6, _, _⟩ := DataW.trod_int Tryz.underlying3 t6
  obtain ⟨x7, q7, _, _⟩ := DataW.trod_int Tryz.underlying3 t7
  simp at q0 q1 q2 q3 q4 q5 q6 q7
  subst q0 q1 q2 q3 q4 q5 q6 q7
  exact ⟨x0, x1, x2, x3, x4, x5, x6, x7, rfl⟩
end Go.Proofs.YtodcmhmankmaoaaGreat
namespace Go.Proofs.YtodcmhmankmaoaaGreat
open Go.ChangeShapes Go.WideShapes Go.ChangeAt Go.RowKit Go.Joins Go.Deep
set_option linter.unusedSimpArgs false
set_option linter.unusedVariables false

section
variable {H : Type} {enc : TypeId × Value → H} {P : Program} {w : World} {base : Nat} {spare : Nat → Bool} {held : Bool}
theorem open_slice_fields {t e : TypeId} {fs : Array Field} {fuel : Nat} {cs : List Value} {x : DataW H × List MemPlace} (ht : P.underlying t = some (.slice e)) (he : P.underlying e = some (.struct fs))
    (hone : oneCellFields P fs = true) (hC : P.cellsOf e = fs.size) (h : DataW.trod enc P w base spare held fuel t cs = some x) :
    (cs = [.slice none 0 0] ∧ x = (.nil, [])) ∨
    ∃ (a : Addr) (len cap m : Nat) (D : Nat → DataW H) (Pl : Nat → List MemPlace), cs = [.slice (some a) len cap] ∧ base ≤ a.block ∧ len ≤ cap ∧ cap ≤ maxLen ∧ m = (if spare a.block then cap else len) ∧
      x = (.slice ((List.range len).map D) ((List.range (m - len)).map fun j => D (len + j)), MemPlace.row a (m * fs.size) ++ (List.range m).flatMap Pl) ∧
      ∀ i, i < m → ∃ (ys : List (DataW H × List MemPlace)) (n : Nat), D i = .agg (ys.map (·.1)) ∧ Pl i = ys.flatMap (·.2) ∧ ys.length = fs.size ∧
        ∀ (j : Nat) (f : Field), fs[j]? = some f → ∃ (v : Value) (y : DataW H × List MemPlace), w.cell? (a.add (i * fs.size + j)) = some v ∧ ys[j]? = some y ∧ DataW.trod enc P w base spare held n f.type [v] = some y := by
  rcases open_slice ht h with h0 | ⟨a, len, cap, m, n, D, Pl, hcs, hb, hl, hm, hmm, hx, hi⟩
  · exact .inl h0
  · refine .inr ⟨a, len, cap, m, D, Pl, hcs, hb, hl, hm, hmm, by rw [hC] at hx; exact hx, fun i him => ?_⟩
    obtain ⟨cs', hc, ht'⟩ := hi i him
    rw [hC] at hc
    obtain ⟨ys, n', hn', hy, hlen, hyl, hf⟩ := DataW.trod_struct he ht'
    obtain ⟨_, hcl, hat⟩ := World.cells?_some hc
    simp only [Prod.mk.injEq] at hy
    refine ⟨ys, n', hy.1, hy.2, hyl, fun j f hj => ?_⟩
    obtain ⟨ho, hk⟩ := hone_of hone j f hj
    have hjl : j < fs.size := (Array.getElem?_eq_some_iff.1 hj).1
    have hcell := hat j hjl
    have hv : cs'[j]? = some (cs'[j]'(by omega)) := List.getElem?_eq_getElem (by omega)
    have h1 := hf j f hj
    rw [ho, hk] at h1
    have hone' : (cs'.drop j).take 1 = [cs'[j]'(by omega)] := by
      rw [List.drop_eq_getElem_cons (by omega)]
      rfl
    rw [hone'] at h1
    have hys : ys[j]? = some (ys[j]'(by omega)) := List.getElem?_eq_getElem (by omega)
    refine ⟨_, _, ?_, hys, h1.trans hys⟩
    rw [← Go.Deep.add_add, hcell, hv]
end
/-- A command. -/
structure Cm where
  cl : Int
  sq : Int
  op : Int
  pa : ByteArray
  va : ByteArray
  ver : Int
  a : Int
  b : Int
instance : Inhabited Cm := ⟨⟨0, 0, 0, ByteArray.empty, ByteArray.empty, 0, 0, 0⟩⟩
def CmAt (w : World) (g o : Nat) (t : Cm) : Prop :=
  w.cell? ⟨g, o, none⟩ = some (.int .i64 t.cl) ∧ w.cell? ⟨g, o + 1, none⟩ = some (.int .i64 t.sq) ∧ w.cell? ⟨g, o + 2, none⟩ = some (.int .i64 t.op) ∧ w.cell? ⟨g, o + 3, none⟩ = some (.string t.pa) ∧ w.cell? ⟨g, o + 4, none⟩ = some (.string t.va) ∧ w.cell? ⟨g, o + 5, none⟩ = some (.int .i64 t.ver) ∧ w.cell? ⟨g, o + 6, none⟩ = some (.int .i64 t.a) ∧ w.cell? ⟨g, o + 7, none⟩ = some (.int .i64 t.b)
theorem CmAt.below {w w' : World} {g o : Nat} {t : Cm} (h : CmAt w g o t) (hg : g < w.heap.size) (hb : Below w.heap.size w w') : CmAt w' g o t := by
  have k : ∀ j, w'.cell? ⟨g, j, none⟩ = w.cell? ⟨g, j, none⟩ := fun j => hb.cell (p := ⟨g, j, none⟩) hg
  unfold CmAt at h ⊢
  simp only [k]
  exact h
/-- Commands that can be read from an address. -/
def CRd (w : World) (a : Option Addr) (ts : List Cm) : Prop :=
  ts.length ≤ 9223372036854775807 ∧ (ts = [] ∨ ∃ g off, a = some ⟨g, off, none⟩ ∧ g < w.heap.size ∧ ∀ i, i < ts.length → CmAt w g (off + i * 8) (ts.getD i default))
theorem CRd.below {w w' : World} {a : Option Addr} {ts : List Cm} (h : CRd w a ts) (hb : Below w.heap.size w w') : CRd w' a ts := by
  obtain ⟨h1, h2⟩ := h
  refine ⟨h1, ?_⟩
  rcases h2 with h2 | ⟨b, off, ha, hbl, hc⟩
  · exact .inl h2
  · exact .inr ⟨b, off, ha, by have := hb.size; omega, fun i hi => (hc i hi).below hbl hb⟩
set_option maxRecDepth 100000 in
theorem crow_of_arg {H : Type} {enc : TypeId × Value → H} {w : World} {r : Reach} {b0 base : Nat} {spare : Nat → Bool} {held : Bool} {v : Value} {d : DataW H} {p : List MemPlace}
    (hv : Value.okWide Tryz.prog w r b0 23 v) (h : DataW.Trod enc Tryz.prog w base spare held 23 v d p) : ∃ (a : Option Addr) (cap : Nat) (ts : List Cm), v = .slice a ts.length cap ∧ CRd w a ts := by
  obtain ⟨a0, len0, cap0, rfl⟩ := okWide_slice Tryz.underlying23 hv
  obtain ⟨fuel, hf⟩ := h
  have hf2 : DataW.trod enc Tryz.prog w base spare held fuel 23 [.slice a0 len0 cap0] = some (d, p) := by simpa [Value.cells] using hf
  rcases open_slice_fields Tryz.underlying23 Tryz.underlying40 (by kernel_rfl) (by kernel_rfl) hf2 with ⟨hcs, _⟩ | ⟨x, len, cap, m, D, Pl, hcs, _, hl, hm, hmm, _, hi⟩
  · simp at hcs
    obtain ⟨rfl, rfl, rfl⟩ := hcs
    exact ⟨none, 0, [], rfl, ⟨by simp, .inl rfl⟩⟩
  · simp at hcs
    obtain ⟨rfl, rfl, rfl⟩ := hcs
    have hlm : len0 ≤ m := by rw [hmm]; split <;> omega
    have key : ∀ i, i < len0 → ∃ t : Cm, w.cell? (x.add (i * 8 + 0)) = some (.int .i64 t.cl) ∧ w.cell? (x.add (i * 8 + 1)) = some (.int .i64 t.sq) ∧ w.cell? (x.add (i * 8 + 2)) = some (.int .i64 t.op) ∧ w.cell? (x.add (i * 8 + 3)) = some (.string t.pa) ∧ w.cell? (x.add (i * 8 + 4)) = some (.string t.va) ∧ w.cell? (x.add (i * 8 + 5)) = some (.int .i64 t.ver) ∧ w.cell? (x.add (i * 8 + 6)) = some (.int .i64 t.a) ∧ w.cell? (x.add (i * 8 + 7)) = some (.int .i64 t.b) := by
      intro i hil
      obtain ⟨ys, n, _, _, _, hf⟩ := hi i (by omega)
      obtain ⟨v0, y0, c0, _, t0⟩ := hf 0 _ rfl
      obtain ⟨v1, y1, c1, _, t1⟩ := hf 1 _ rfl
      obtain ⟨v2, y2, c2, _, t2⟩ := hf 2 _ rfl
      obtain ⟨v3, y3, c3, _, t3⟩ := hf 3 _ rfl
      obtain ⟨v4, y4, c4, _, t4⟩ := hf 4 _ rfl
      obtain ⟨v5, y5, c5, _, t5⟩ := hf 5 _ rfl
      obtain ⟨v6, y6, c6, _, t6⟩ := hf 6 _ rfl
      obtain ⟨v7, y7, c7, _, t7⟩ := hf 7 _ rfl
      obtain ⟨q0, e0, _, _⟩ := DataW.trod_int Tryz.underlying3 t0
      obtain ⟨q1, e1, _, _⟩ := DataW.trod_int Tryz.underlying3 t1
      obtain ⟨q2, e2, _, _⟩ := DataW.trod_int Tryz.underlying38 t2
      obtain ⟨q3, e3, _, _⟩ := DataW.trod_string Tryz.underlying9 t3
      obtain ⟨q4, e4, _, _⟩ := DataW.trod_string Tryz.underlying9 t4
      obtain ⟨q5, e5, _, _⟩ := DataW.trod_int Tryz.underlying3 t5
      obtain ⟨q6, e6, _, _⟩ := DataW.trod_int Tryz.underlying3 t6
      obtain ⟨q7, e7, _, _⟩ := DataW.trod_int Tryz.underlying3 t7
      simp at e0 e1 e2 e3 e4 e5 e6 e7
      subst e0 e1 e2 e3 e4 e5 e6 e7
      exact ⟨⟨q0, q1, q2, q3, q4, q5, q6, q7⟩, c0, c1, c2, c3, c4, c5, c6, c7⟩
    obtain ⟨ts, hts, hp⟩ := list_of len0 key
    subst hts
    refine ⟨some x, cap0, ts, rfl, ⟨by unfold maxLen at hm; omega, ?_⟩⟩
    by_cases h0 : ts.length = 0
    · exact .inl (List.eq_nil_of_length_eq_zero h0)
    · right
      have hc0 := (hp 0 (by omega)).1
      obtain ⟨b, off, spot⟩ := x
      have hspot : spot = none := by simpa [Addr.add] using World.cell?_spot hc0
      subst hspot
      refine ⟨b, off, rfl, ?_, fun i hil => ?_⟩
      · exact block_lt_of_cell2 hc0 (by simp [Addr.add])
      · have hq := hp i hil
        simp only [add_at] at hq
        exact hq
end Go.Proofs.YtodcmhmankmaoaaGreat
