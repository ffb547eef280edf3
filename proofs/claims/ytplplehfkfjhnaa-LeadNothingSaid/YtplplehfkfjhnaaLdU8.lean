/-
  A row of bytes that came in as numbers of eight bits.
-/
import Derived.Test.YtplplehfkfjhnaaMs
namespace Go.Proofs.Ytplplehfkfjhnaa
open Go.ChangeShapes Go.WideShapes Go.ChangeAt Go.RowKit Go.Joins Go.Deep
set_option linter.unusedSimpArgs false
set_option linter.unusedVariables false
set_option maxRecDepth 100000

def u8S : Shp Int where
  is := fun _ cs n => cs = [.int .u8 n] ∧ (Lit.int .u8 n).wf = true
  keep := fun h _ => h
  one := fun h v hv => by rw [h.1] at hv; simp at hv; subst hv; rfl
theorem opens_u8 {P : Program} {t : TypeId} (ht : P.underlying t = some (.int .u8)) : Opens P t u8S := .mk fun fuel cs y h => by
  obtain ⟨n, e, _, hw⟩ := DataW.trod_int ht h
  exact ⟨n, e, hw⟩
def clsU : Cls 1 := ⟨[.int .u8 0], rfl, by intro v hv; simp at hv; subst hv; rfl⟩
noncomputable def KU : Knd Try.prog (Cls 1) := rawK Try.prog 5 69 1 1 (.int .u8 0) Try.underlying69 (by kernel_rfl) rfl (by omega) (by omega) clsU
theorem opens_u8s : Opens Try.prog 69 (rowS KU u8S) := opens_row KU rfl rfl rfl (by kernel_rfl) (opens_u8 Try.underlying5)
theorem u8s_of_arg {H : Type} {enc : TypeId × Value → H} {w : World} {r : Reach} {b0 base : Nat} {spare : Nat → Bool} {held : Bool} {v : Value} {d : DataW H} {p : List MemPlace}
    (hv : Value.okWide Try.prog w r b0 69 v) (h : DataW.Trod enc Try.prog w base spare held 69 v d p) : ∃ (a : Option Addr) (n c : Nat), v = .slice a n c ∧ n ≤ 9223372036854775807 ∧
      ∀ i, i < n → ∃ (q off : Nat) (x : Int), a = some ⟨q, off, none⟩ ∧ q < w.heap.size ∧ w.cell? ⟨q, off + i, none⟩ = some (.int .u8 x) ∧ 0 ≤ x ∧ x ≤ 255 := by
  obtain ⟨rs, l, hr⟩ := arg_row Try.underlying69 opens_u8s hv h
  obtain ⟨a, c, e⟩ := rowSl hr
  subst e
  have hn := hr.rd.len
  rw [hr.len] at hn
  refine ⟨a, l.length, c, rfl, by unfold maxLen at hn; omega, fun i hi => ?_⟩
  obtain ⟨-, hl, g, off, cs, ha, hg, ⟨hcs, hwf⟩, hc⟩ := hr.el rfl i hi
  have h0 := hc 0 (.int .u8 l[i]) (by rw [hcs]; rfl)
  have eK : KU.k = 1 := rfl
  rw [eK] at h0
  simp [Lit.wf, IntKind.min, IntKind.max, IntKind.bits, IntKind.signed] at hwf
  exact ⟨g, off, l[i], ha, hg, by simpa using h0, by omega, by omega⟩
end Go.Proofs.Ytplplehfkfjhnaa
