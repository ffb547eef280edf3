/-
  Arguments of package ids' laws, opened; the tables that the program lays.
-/
import Derived.Test.YtmkmdgehgllnbaaDoorIdsE
import Derived.ProofKit
import Derived.OpenShut
import Derived.Lib.SmallJoins
import Derived.Deep.Slices
import Derived.Deep.Fields
import Derived.ChangeSame
import Derived.LaidLaws
import Derived.LaidHandle
import Derived.Lib.LaidTab
import Derived.Lib.LaidIn
namespace Go.Proofs.YtmkmdgehgllnbaaDoor
open Go.ChangeShapes Go.WideShapes Go.ChangeAt Go.RowKit Go.Joins Go.Deep
set_option linter.unusedSimpArgs false
set_option linter.unusedVariables false

section
variable {H : Type} {enc : TypeId × Value → H} {P : Program} {w : World} {base : Nat} {spare : Nat → Bool} {held : Bool}
theorem open_slice_fields {t e : TypeId} {fs : Array Field} {fuel : Nat} {cs : List Value} {x : DataW H × List MemPlace} (ht : P.underlying t = some (.slice e)) (he : P.underlying e = some (.struct fs))
    (hone : oneCellFields P fs = true) (hC : P.cellsOf e = fs.size) (h : DataW.trod enc P w base spare held fuel t cs = some x) :
    (cs = [.slice none 0 0] ∧ x = (.nil, [])) ∨
    ∃ (a : Addr) (len cap m : Nat) (D : Nat → DataW H) (Pl : Nat → List MemPlace), cs = [.slice (some a) len cap] ∧ base ≤ a.block ∧ len ≤ cap ∧ cap ≤ maxLen ∧ m = (if spare a.block then cap else len) ∧
      x = (.slice ((List.range len).map D) ((List.range (m - len)).map fun j => D (len + j)), MemPlace.row a (m * fs.size) ++ (List.range m).flatMap Pl) ∧
      ∀ i, i < m → ∃ (ys : List (DataW H × List MemPlace)) (n : Nat), D i = .agg (ys.map (·.1)) ∧ Pl i = ys.flatMap (·.2) ∧ ys.length = fs.size ∧
        ∀ (j : Nat) (f : Field), fs[j]? = some f → ∃ (v : Value) (y : DataW H × List MemPlace), w.cell? (a.add (i * fs.size + j)) = some v ∧ ys[j]? = some y ∧ DataW.trod enc P w base spare held n f.type [v] = some y := by
  rcases open_slice ht h with h0 | ⟨a, len, cap, m, n, D, Pl, hcs, hb, hl, hm, hmm, hx, hi⟩
  · exact .inl h0
  · refine .inr ⟨a, len, cap, m, D, Pl, hcs, hb, hl, hm, hmm, by rw [hC] at hx; exact hx, fun i him => ?_⟩
    obtain ⟨cs', hc, ht'⟩ := hi i him
    rw [hC] at hc
    obtain ⟨ys, n', hn', hy, hlen, hyl, hf⟩ := DataW.trod_struct he ht'
    obtain ⟨_, hcl, hat⟩ := World.cells?_some hc
    simp only [Prod.mk.injEq] at hy
    refine ⟨ys, n', hy.1, hy.2, hyl, fun j f hj => ?_⟩
    obtain ⟨ho, hk⟩ := hone_of hone j f hj
    have hjl : j < fs.size := (Array.getElem?_eq_some_iff.1 hj).1
    have hcell := hat j hjl
    have hv : cs'[j]? = some (cs'[j]'(by omega)) := List.getElem?_eq_getElem (by omega)
    have h1 := hf j f hj
    rw [ho, hk] at h1
    have hone' : (cs'.drop j).take 1 = [cs'[j]'(by omega)] := by
      rw [List.drop_eq_getElem_cons (by omega)]
      rfl
    rw [hone'] at h1
    have hys : ys[j]? = some (ys[j]'(by omega)) := List.getElem?_eq_getElem (by omega)
    refine ⟨_, _, ?_, hys, h1.trans hys⟩
    rw [← Go.Deep.add_add, hcell, hv]
end
/-- Things one by one make a list. -/
theorem list_of {α : Type} [Inhabited α] {Pr : Nat → α → Prop} : ∀ n, (∀ i, i < n → ∃ t, Pr i t) → ∃ ts : List α, ts.length = n ∧ ∀ i, i < n → Pr i (ts.getD i default)
  | 0, _ => ⟨[], rfl, fun i h => by omega⟩
  | n + 1, h => by
    obtain ⟨ts, h1, h2⟩ := list_of n (fun i hi => h i (by omega))
    obtain ⟨t, ht⟩ := h n (by omega)
    refine ⟨ts ++ [t], by simp [h1], fun i hi => ?_⟩
    by_cases q : i < n
    · have := h2 i q
      simpa [List.getD, List.getElem?_append, h1, q] using this
    · obtain rfl : i = n := by omega
      simpa [List.getD, List.getElem?_append, h1] using ht
theorem block_lt_of_cell2 {w : World} {p : Addr} {v : Value} (h : w.cell? p = some v) (hs : p.spot = none) : p.block < w.heap.size := by
  by_cases g : p.block < w.heap.size
  · exact g
  · exfalso
    have e : w.heap[p.block]? = none := by simp; omega
    simp [World.cell?, hs, e] at h
theorem add_at (b o j : Nat) : (⟨b, o, none⟩ : Addr).add j = ⟨b, o + j, none⟩ := by unfold Addr.add; split <;> simp_all
/-- A row of instances that came in. -/
theorem idrow_of_arg {H : Type} {enc : TypeId × Value → H} {w : World} {r : Reach} {b0 base : Nat} {spare : Nat → Bool} {held : Bool} {v : Value} {d : DataW H} {p : List MemPlace}
    (hv : Value.okWide Tryd.prog w r b0 24 v) (h : DataW.Trod enc Tryd.prog w base spare held 24 v d p) : ∃ l, IK.Rd w v l ∧ okL l := by
  obtain ⟨a0, len0, cap0, rfl⟩ := okWide_slice Tryd.underlying24 hv
  obtain ⟨fuel, hf⟩ := h
  have hf2 : DataW.trod enc Tryd.prog w base spare held fuel 24 [.slice a0 len0 cap0] = some (d, p) := by simpa [Value.cells] using hf
  rcases open_slice_fields Tryd.underlying24 Tryd.underlying23 (by kernel_rfl) (by kernel_rfl) hf2 with ⟨hcs, _⟩ | ⟨x, len, cap, m, D, Pl, hcs, _, hl, hm, hmm, _, hi⟩
  · simp at hcs
    obtain ⟨rfl, rfl, rfl⟩ := hcs
    exact ⟨[], Knd.Rd.nil w, fun x h => by cases h⟩
  · simp at hcs
    obtain ⟨rfl, rfl, rfl⟩ := hcs
    have hlm : len0 ≤ m := by rw [hmm]; split <;> omega
    have key : ∀ i, i < len0 → ∃ t : I3, w.cell? (x.add (i * 3 + 0)) = some (.int .i64 t.1) ∧ w.cell? (x.add (i * 3 + 1)) = some (.int .i64 t.2.1) ∧ w.cell? (x.add (i * 3 + 2)) = some (.int .i64 t.2.2) ∧ okI t := by
      intro i hil
      obtain ⟨ys, n, _, _, _, hf⟩ := hi i (by omega)
      obtain ⟨v0, y0, c0, _, t0⟩ := hf 0 _ rfl
      obtain ⟨v1, y1, c1, _, t1⟩ := hf 1 _ rfl
      obtain ⟨v2, y2, c2, _, t2⟩ := hf 2 _ rfl
      obtain ⟨q0, e0, _, w0⟩ := DataW.trod_int Tryd.underlying3 t0
      obtain ⟨q1, e1, _, w1⟩ := DataW.trod_int Tryd.underlying3 t1
      obtain ⟨q2, e2, _, w2⟩ := DataW.trod_int Tryd.underlying3 t2
      simp at e0 e1 e2
      subst e0 e1 e2
      exact ⟨(q0, q1, q2), c0, c1, c2, w0, w1, w2⟩
    obtain ⟨ts, hts, hp⟩ := list_of len0 key
    subst hts
    refine ⟨ts, ⟨some x, cap0, rfl, Nat.le_trans hl hm, (fun q => by cases q), ?_⟩, ?_⟩
    · by_cases h0 : ts.length = 0
      · exact .inl (List.eq_nil_of_length_eq_zero h0)
      · right
        have hc0 := (hp 0 (by omega)).1
        obtain ⟨b, off, spot⟩ := x
        have hspot : spot = none := by simpa [Addr.add] using World.cell?_spot hc0
        subst hspot
        refine ⟨b, off, rfl, block_lt_of_cell2 hc0 (by simp [Addr.add]), fun t u hu => ?_⟩
        have ht : t < (IK.row ts).length := (List.getElem?_eq_some_iff.1 hu).1
        rw [IK.row_flat ts t ht] at hu
        rw [IK.row_len] at ht
        have ht3 : t < ts.length * 3 := ht
        have hil : t / 3 < ts.length := by omega
        obtain ⟨p0, p1, p2, _⟩ := hp (t / 3) hil
        rw [add_at] at p0 p1 p2
        have hu2 : (idE (ts.getD (t / 3) (0, 0, 0)))[t % 3]? = some u := hu
        have hdm : t / 3 * 3 + t % 3 = t := by omega
        rcases (by omega : t % 3 = 0 ∨ t % 3 = 1 ∨ t % 3 = 2) with e | e | e
        · rw [e] at hu2 hdm
          rw [← hdm, p0]
          simpa [idE, show (default : I3) = (0, 0, 0) from rfl] using hu2
        · rw [e] at hu2 hdm
          rw [← hdm, p1]
          simpa [idE, show (default : I3) = (0, 0, 0) from rfl] using hu2
        · rw [e] at hu2 hdm
          rw [← hdm, p2]
          simpa [idE, show (default : I3) = (0, 0, 0) from rfl] using hu2
    · intro t ht
      obtain ⟨i, hil, rfl⟩ := List.mem_iff_getElem.1 ht
      have := (hp i hil).2.2.2
      simpa [List.getD, hil] using this
/-- A world in which the tables lie as the program lays them. -/
noncomputable def laidWorld (os : Os) : World :=
  let w0 := World.holding Tryd.prog os ⟨#[], #[], []⟩
  let put (h : Array Obj) (g : Nat) (cs : Array Value) : Array Obj := h.modify g fun
    | .cells _ t frozen => .cells cs t frozen
    | o => o
  let vals : DataW Unit → Array Value := fun d => match d with
    | .agg l => (l.map fun x => match x with
      | .lit (.int k n) => Value.int k n
      | _ => undef).toArray
    | _ => #[]
  let h1 := put w0.heap 0 (vals Rows.laid_internal_strconv_uint64pow10)
  let h2 := put h1 1 (vals Rows.laid_math_bits_deBruijn32tab)
  let h3 := put h2 2 (vals Rows.laid_math_bits_deBruijn64tab)
  { w0 with heap := h3 }
def laidL : List (String × DataW Unit) := [("math/bits.deBruijn32tab", Rows.laid_math_bits_deBruijn32tab), ("math/bits.deBruijn64tab", Rows.laid_math_bits_deBruijn64tab), ("internal/strconv.uint64pow10", Rows.laid_internal_strconv_uint64pow10)]
set_option maxRecDepth 100000 in
theorem laid_met (os : Os) (args : Array Value) : laidMetH Tryd.prog laidL ((laidWorld os).forCall (fun _ _ => 0) ⟨#[], args, []⟩).memory := by
  show laidMet Tryd.prog laidL _
  exact (Go.LaidIn.of_run [0, 1, 2] 8 (by kernel_rfl) (by kernel_rfl) (by kernel_rfl) (by kernel_rfl)).met
set_option maxRecDepth 100000 in
theorem tb_of_laid {W : World} (h : laidMetH Tryd.prog laidL W) : TB W := by
  have h' : laidMet Tryd.prog laidL W := h
  obtain ⟨ps, hv, _⟩ := h'
  obtain ⟨_, _, _, _, _, q1, _, _, _, _, hv1, _⟩ := hv
  obtain ⟨_, _, _, _, _, q2, _, _, _, _, hv2, _⟩ := hv1
  obtain ⟨g', t', cs, fuel, p3, q3, hg', ht', hvar, hd, _, _⟩ := hv2
  obtain rfl := Option.some.inj ((show Tryd.prog.globalNamed "internal/strconv.uint64pow10" = some 0 by kernel_rfl).symm.trans hg')
  obtain rfl := Option.some.inj ((show (Tryd.prog.globals[(0 : Nat)]?).map (·.type) = some 71 by kernel_rfl).symm.trans ht')
  have hd' : DataW.trod (fun _ => ()) Tryd.prog W 0 (fun _ => true) false fuel 71 cs.toList = some (Lib.tabData .u64 Lib.pow10Tab, p3) := hd
  unfold TB Lib.TabIs
  rw [hvar, ← Lib.cells_of_tab Tryd.underlying71 Tryd.underlying54 (by kernel_rfl) (by kernel_rfl) hd']
end Go.Proofs.YtmkmdgehgllnbaaDoor
