/-
  A slice of numbers that came in, opened to its cells; a configuration and a command likewise.
-/
import Derived.Test.YtchhcaoondfpiaaGreatInt
import Derived.RowKit3
import Derived.Deep.Slices
import Derived.Deep.Fields
import Derived.ChangeSame
import Derived.ProofKit
import Derived.OpenShut
import Derived.Lib.SmallJoins
namespace Go.Proofs.YtchhcaoondfpiaaGreat
open Go.ChangeShapes Go.WideShapes Go.ChangeAt Go.RowKit Go.Joins Go.Deep
set_option linter.unusedSimpArgs false
set_option linter.unusedVariables false
set_option maxRecDepth 100000

theorem block_lt_of_cell {w : World} {p : Addr} {v : Value} (h : w.cell? p = some v) (hs : p.spot = none) : p.block < w.heap.size := by
  by_cases g : p.block < w.heap.size
  · exact g
  · exfalso
    have e : w.heap[p.block]? = none := by simp; omega
    simp [World.cell?, hs, e] at h

theorem irow_of_trod {H : Type} {enc : TypeId × Value → H} {w : World} {base m : Nat} {spare : Nat → Bool} {held : Bool} {v : Value} {y : DataW H × List MemPlace}
    (h : DataW.trod enc Tryz.prog w base spare held m 22 [v] = some y) : ∃ (a : Option Addr) (cap : Nat) (zs : List Int), v = .slice a zs.length cap ∧ zs.length ≤ cap ∧ cap ≤ maxLen ∧ IRow w a zs ∧ (∀ n ∈ zs, (Lit.int .i64 n).wf = true) ∧ (a = none → cap = 0) := by
  rcases open_ints Tryz.underlying22 Tryz.underlying3 (by kernel_rfl) h with ⟨hcs, _⟩ | ⟨x, len, cap, zs, hcs, _, hl, hm, hz, _, hcell, hwz⟩
  · simp at hcs
    exact ⟨none, 0, [], hcs, Nat.le_refl _, Nat.zero_le _, ⟨by simp, .inl rfl⟩, by simp, fun _ => rfl⟩
  · simp at hcs
    have hlz : len ≤ zs.length := by rw [hz]; split <;> omega
    have e : (zs.take len).length = len := by simp; omega
    refine ⟨some x, cap, zs.take len, by rw [e]; exact hcs, by rw [e]; exact hl, hm, ⟨by rw [e]; unfold maxLen at hm; omega, ?_⟩, fun n hn => hwz n (List.mem_of_mem_take hn), fun h => by cases h⟩
    by_cases h0 : len = 0
    · left; subst h0; rfl
    · right
      have hc0 := hcell 0 (by omega)
      obtain ⟨b, off, spot⟩ := x
      have hspot : spot = none := by simpa [Addr.add] using World.cell?_spot hc0
      subst hspot
      refine ⟨b, off, rfl, ?_, fun i hi => ?_⟩
      · exact block_lt_of_cell hc0 (by simp [Addr.add])
      · have hi' : i < len := by rw [e] at hi; exact hi
        have := hcell i (by omega)
        rw [show (zs.take len).getD i 0 = zs.getD i 0 from by simp [List.getD, List.getElem?_take, hi']]
        by_cases hi0 : i = 0
        · subst hi0; simpa [Addr.add] using this
        · simpa [Addr.add, hi0] using this
theorem irow_of_arg {H : Type} {enc : TypeId × Value → H} {w : World} {r : Reach} {b0 base : Nat} {spare : Nat → Bool} {held : Bool} {v : Value} {d : DataW H} {p : List MemPlace}
    (hv : Value.okWide Tryz.prog w r b0 22 v) (h : DataW.Trod enc Tryz.prog w base spare held 22 v d p) : ∃ (a : Option Addr) (cap : Nat) (zs : List Int), v = .slice a zs.length cap ∧ zs.length ≤ cap ∧ cap ≤ maxLen ∧ IRow w a zs ∧ (∀ n ∈ zs, (Lit.int .i64 n).wf = true) ∧ (a = none → cap = 0) := by
  obtain ⟨a0, len0, cap0, rfl⟩ := okWide_slice Tryz.underlying22 hv
  obtain ⟨fuel, hf⟩ := h
  exact irow_of_trod (by simpa [Value.cells] using hf)
theorem config_of_arg {H : Type} {enc : TypeId × Value → H} {w : World} {r : Reach} {b0 base : Nat} {spare : Nat → Bool} {held : Bool} {v : Value} {d : DataW H} {p : List MemPlace}
    (hv : Value.okWide Tryz.prog w r b0 24 v) (h : DataW.Trod enc Tryz.prog w base spare held 24 v d p) :
    ∃ (ep : Int) (a : Option Addr) (cap : Nat) (zs : List Int), v = .agg #[.int .i64 ep, .slice a zs.length cap] ∧ (Lit.int .i64 ep).wf = true ∧ zs.length ≤ cap ∧ cap ≤ maxLen ∧ IRow w a zs ∧ (∀ n ∈ zs, (Lit.int .i64 n).wf = true) ∧ (a = none → cap = 0) := by
  obtain ⟨c0, c1, y0, y1, m, rfl, _, _, hy0, hy1⟩ := open_agg2 Tryz.underlying24 (by kernel_rfl) (by kernel_rfl) hv h
  obtain ⟨ep, e0, _, we⟩ := DataW.trod_int Tryz.underlying3 hy0
  obtain ⟨a, cap, zs, hzs, r1, r2, r3, r4⟩ := irow_of_trod hy1
  simp at e0
  subst e0 hzs
  exact ⟨ep, a, cap, zs, rfl, we, r1, r2, r3, r4⟩
/-- A configuration that came in. -/
theorem cfg_of_arg {H : Type} {enc : TypeId × Value → H} {w : World} {r : Reach} {b0 base : Nat} {spare : Nat → Bool} {held : Bool} {v : Value} {d : DataW H} {p : List MemPlace}
    (hv : Value.okWide Tryz.prog w r b0 24 v) (h : DataW.Trod enc Tryz.prog w base spare held 24 v d p) :
    ∃ (ep : Int) (a : Option Addr) (cap : Nat) (zs : List Int), v = .agg #[.int .i64 ep, .slice a zs.length cap] ∧ (Lit.int .i64 ep).wf = true ∧ It w (.slice a zs.length cap) zs := by
  obtain ⟨ep, a, cap, zs, h1, h2, h3, h4, h5, _, h7⟩ := config_of_arg hv h
  exact ⟨ep, a, cap, zs, h1, h2, ⟨a, cap, rfl, h5, h7, h3, by unfold maxLen at h4; omega⟩⟩
theorem array8 {α : Type} {cs : Array α} (h : cs.size = 8) : ∃ c0 c1 c2 c3 c4 c5 c6 c7, cs = #[c0, c1, c2, c3, c4, c5, c6, c7] := by
  obtain ⟨l⟩ := cs
  match l, h with
  | [c0, c1, c2, c3, c4, c5, c6, c7], _ => exact ⟨c0, c1, c2, c3, c4, c5, c6, c7, rfl⟩
/-- A struct of one-cell fields that came in. -/
theorem open_agg_fields {P : Program} {H : Type} {enc : TypeId × Value → H} {w : World} {base : Nat} {spare : Nat → Bool} {held : Bool} {r : Reach} {b0 : Nat} {t : TypeId} {fs : Array Field} {v : Value} {d : DataW H} {p : List MemPlace} (hs : P.underlying t = some (.struct fs)) (hone : oneCellFields P fs = true) (hC : P.cellsOf t = fs.size)
    (hv : Value.okWide P w r b0 t v) (h : DataW.Trod enc P w base spare held t v d p) :
    ∃ cs : Array Value, v = .agg cs ∧ cs.size = fs.size ∧ ∀ (j : Nat) (f : Field), fs[j]? = some f → ∃ (u : Value) (y : DataW H × List MemPlace) (n : Nat), cs[j]? = some u ∧ DataW.trod enc P w base spare held n f.type [u] = some y := by
  obtain ⟨cs, rfl, hsz⟩ := okWide_struct hs hv
  obtain ⟨fuel, hf⟩ := h
  obtain ⟨ys, n', _, _, hyl, hlen, hh⟩ := DataW.trod_struct hs hf
  refine ⟨cs, rfl, hsz.trans hC, fun j f hj => ?_⟩
  obtain ⟨ho, hk⟩ := hone_of hone j f hj
  have hjl : j < fs.size := (Array.getElem?_eq_some_iff.1 hj).1
  have hjc : j < cs.size := by omega
  have h1 := hh j f hj
  simp only [Value.cells] at h1
  rw [ho, hk] at h1
  have e1 : (cs.toList.drop j).take 1 = [cs[j]] := by
    rw [List.drop_eq_getElem_cons (by simpa using hjc)]
    simp
  rw [e1] at h1
  have hy : ys[j]? = some (ys[j]'(by omega)) := List.getElem?_eq_getElem (by omega)
  exact ⟨cs[j], ys[j]'(by omega), n', by simp [hjc], h1.trans hy⟩
/-- A command that came in. -/
theorem cmd_of_arg {H : Type} {enc : TypeId × Value → H} {w : World} {r : Reach} {b0 base : Nat} {spare : Nat → Bool} {held : Bool} {v : Value} {d : DataW H} {p : List MemPlace}
    (hv : Value.okWide Tryz.prog w r b0 43 v) (h : DataW.Trod enc Tryz.prog w base spare held 43 v d p) :
    ∃ (cl sq op : Int) (pa va : ByteArray) (ver a b : Int), v = .agg #[.int .i64 cl, .int .i64 sq, .int .i64 op, .string pa, .string va, .int .i64 ver, .int .i64 a, .int .i64 b] := by
  obtain ⟨cs, rfl, hsz, hf⟩ := open_agg_fields Tryz.underlying43 (by kernel_rfl) (by kernel_rfl) hv h
  obtain ⟨c0, c1, c2, c3, c4, c5, c6, c7, rfl⟩ := array8 hsz
  obtain ⟨u0, y0, n0, e0, t0⟩ := hf 0 _ rfl
  obtain ⟨u1, y1, n1, e1, t1⟩ := hf 1 _ rfl
  obtain ⟨u2, y2, n2, e2, t2⟩ := hf 2 _ rfl
  obtain ⟨u3, y3, n3, e3, t3⟩ := hf 3 _ rfl
  obtain ⟨u4, y4, n4, e4, t4⟩ := hf 4 _ rfl
  obtain ⟨u5, y5, n5, e5, t5⟩ := hf 5 _ rfl
  obtain ⟨u6, y6, n6, e6, t6⟩ := hf 6 _ rfl
  obtain ⟨u7, y7, n7, e7, t7⟩ := hf 7 _ rfl
  simp at e0 e1 e2 e3 e4 e5 e6 e7
  subst e0 e1 e2 e3 e4 e5 e6 e7
  obtain ⟨x0, q0, _, _⟩ := DataW.trod_int Tryz.underlying3 t0
  obtain ⟨x1, q1, _, _⟩ := DataW.trod_int Tryz.underlying3 t1
  obtain ⟨x2, q2, _, _⟩ := DataW.trod_int Tryz.underlying41 t2
  obtain ⟨x3, q3, _, _⟩ := DataW.trod_string Tryz.underlying9 t3
  obtain ⟨x4, q4, _, _⟩ := DataW.trod_string Tryz.underlying9 t4
  obtain ⟨x5, q5, _, _⟩ := DataW.trod_int Tryz.underlying3 t5
  obtain ⟨x6, q6, _, _⟩ := DataW.trod_int Tryz.underlying3 t6
  obtain ⟨x7, q7, _, _⟩ := DataW.trod_int Tryz.underlying3 t7
  simp at q0 q1 q2 q3 q4 q5 q6 q7
  subst q0 q1 q2 q3 q4 q5 q6 q7
  exact ⟨x0, x1, x2, x3, x4, x5, x6, x7, rfl⟩
end Go.Proofs.YtchhcaoondfpiaaGreat
