/-
  Graph: nodes and instances that came in.
-/
import Derived.Test.YtlckjpjcfalfnaaGx
namespace Go.Proofs.Ytlckjpjcfalfnaa
open Go.RowKit Go.Sort
open Go.WideMaps
open Go.WideShapes Go.Joins
set_option linter.unusedSimpArgs false
set_option linter.unusedVariables false
set_option maxRecDepth 100000

theorem nrow_of_arg {H : Type} {enc : TypeId × Value → H} {w : World} {r : Reach} {b0 base : Nat} {spare : Nat → Bool} {held : Bool} {v : Value} {d : DataW H} {p : List MemPlace}
    (hv : Value.okWide Try.prog w r b0 22 v) (h : DataW.Trod enc Try.prog w base spare held 22 v d p) : ∃ nv, NRow w v nv := by
  obtain ⟨rs, l, hr⟩ := nds_of_arg hv h
  obtain ⟨nv, _, hn⟩ := nrow_of hr
  exact ⟨nv, hn⟩
theorem idr_of_arg {H : Type} {enc : TypeId × Value → H} {w : World} {r : Reach} {b0 base : Nat} {spare : Nat → Bool} {held : Bool} {v : Value} {d : DataW H} {p : List MemPlace}
    (hv : Value.okWide Try.prog w r b0 23 v) (h : DataW.Trod enc Try.prog w base spare held 23 v d p) : ∃ l, IK.Rd w v l ∧ okL l := by
  obtain ⟨a0, len0, cap0, rfl⟩ := okWide_slice Try.underlying23 hv
  obtain ⟨fuel, hf⟩ := h
  obtain ⟨l, v', hc, hr, ho⟩ := opens_ids.go fuel _ _ hf
  simp [Value.cells] at hc
  subst hc
  exact ⟨l, hr, ho⟩
/-- What is looked at: few nodes, with few steps each. -/
structure Fw (nv : List NV) (dn : List I3) : Prop where
  few : nv.length ≤ 14
  steps : ∀ n ∈ nv, n.d.dl.length ≤ 14
  over : dn.length ≤ 14
theorem fw_of {nv : List NV} {dn : List I3} (h : overB nv dn = false) : Fw nv dn := by
  unfold overB at h
  simp only [Bool.or_eq_false_iff, decide_eq_false_iff_not] at h
  obtain ⟨⟨h1, h2⟩, h3⟩ := h
  have hl : nv.length ≤ 14 := by omega
  refine ⟨hl, fun n hn => ?_, by omega⟩
  have q := List.any_eq_false.1 h1 n (by rw [List.take_of_length_le (by omega)]; exact hn)
  simp at q
  omega
/-- All that the nodes lead to. -/
def depsU (nv : List NV) : List I3 := nv.flatMap fun n => n.d.dl
theorem depsU_mem {nv : List NV} : ∀ n ∈ nv, ∀ y ∈ n.d.dl, y ∈ depsU nv := fun n hn y hy => List.mem_flatMap.2 ⟨n, hn, hy⟩
theorem depsU_len {nv : List NV} (h : ∀ n ∈ nv, n.d.dl.length ≤ 14) : (depsU nv).length ≤ nv.length * 14 := by
  unfold depsU
  induction nv with
  | nil => simp
  | cons a l ih =>
    have h1 := h a (List.mem_cons_self ..)
    have h2 := ih (fun n hn => h n (List.mem_cons_of_mem _ hn))
    rw [List.flatMap_cons, List.length_append, List.length_cons]
    omega
theorem depsU_ok {W : World} {nv : List NV} (h : ∀ n ∈ nv, n.Ok W) : okL (depsU nv) := fun y hy => by
  obtain ⟨n, hn, q⟩ := List.mem_flatMap.1 hy
  exact (h n hn).2.1 y q
end Go.Proofs.Ytlckjpjcfalfnaa
