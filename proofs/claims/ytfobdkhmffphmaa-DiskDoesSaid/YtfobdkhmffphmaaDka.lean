/-
  Acts that came in.
-/
import Derived.Test.YtfobdkhmffphmaaRaw
namespace Go.Proofs.Ytfobdkhmffphmaa
open Go.ChangeShapes Go.WideShapes Go.ChangeAt Go.RowKit Go.Joins Go.Deep
set_option linter.unusedSimpArgs false
set_option linter.unusedVariables false
set_option maxRecDepth 100000

theorem RowIs.el {P : Program} {k : Nat} {R : Knd P (Cls k)} (hR : R.enc = Cls.cs) {α : Type} {S : Shp α} {w : World} {a : Option Addr} {n c : Nat} {rs : List (Cls k)} {l : List α} (h : RowIs R S w (.slice a n c) rs l) (j : Nat) (hj : j < n) :
    n = l.length ∧ ∃ (hl : j < l.length) (g off : Nat) (cs : List Value), a = some ⟨g, off, none⟩ ∧ g < w.heap.size ∧ S.is w cs l[j] ∧ ∀ i u, cs[i]? = some u → w.cell? ⟨g, off + j * R.k + i, none⟩ = some u := by
  have hn : n = rs.length := by
    obtain ⟨a', c', e, _⟩ := h.rd
    simp only [Value.slice.injEq] at e
    exact e.2.1
  have hne : rs ≠ [] := by intro e; rw [e] at hn; simp at hn; omega
  obtain ⟨_, g, off, ha, hg, hc⟩ := h.rd.at hne
  have hjr : j < rs.length := by omega
  have hjl : j < l.length := by rw [← h.len]; exact hjr
  refine ⟨hn.trans h.len, hjl, g, off, rs[j].cs, ha, hg, h.at' j hjr hjl, fun i u hu => hc j hj i u ?_⟩
  have e1 : rs.getD j R.d = rs[j] := by simp [List.getD, hjr]
  rw [e1, hR]
  exact hu
theorem Opens.to {P : Program} {t : TypeId} {α β : Type} {S : Shp α} {R : Shp β} (h : Opens P t S) (f : α → β) (hi : ∀ w cs x, S.is w cs x → R.is w cs (f x)) : Opens P t R := .mk @fun H enc w base spare held fuel cs y hy => by
  obtain ⟨x, hx⟩ := h.go fuel cs y hy
  exact ⟨f x, hi _ _ _ hx⟩
structure Ac where
  k : Int
  bd : ByteArray
  n : Int
def acE (x : Ac) : List Value := [.int .i64 x.k, .string x.bd, .int .i64 x.n]
theorem acE_one (x : Ac) : ∀ v ∈ acE x, v.oneCell' = true := by
  intro v hv
  simp [acE] at hv
  rcases hv with rfl | rfl | rfl <;> rfl
def acS : Shp Ac where
  is := fun _ cs x => cs = acE x ∧ x.bd.size ≤ maxLen
  keep := fun h _ => h
  one := fun {w cs x} h => by rw [h.1]; exact acE_one x
def ac0 : Ac := ⟨0, ByteArray.empty, 0⟩
def clsAc : Cls 3 := ⟨acE ac0, rfl, acE_one _⟩
noncomputable def KAc : Knd Try.prog (Cls 3) := rawK Try.prog 32 22 3 32 (.agg #[.int .i64 0, .string ByteArray.empty, .int .i64 0]) Try.underlying22 (by kernel_rfl) rfl (by omega) (by omega) clsAc
theorem opens_ac : Opens Try.prog 32 acS :=
  (opens_struct (P := Try.prog) (S := pairS intS (pairS strS intS)) Try.underlying32 (n := 3) (by kernel_rfl) (opensF_cons _ rfl rfl (k := 1) (by kernel_rfl) (opens_int Try.underlying3) (opensF_cons _ rfl rfl (k := 1) (by kernel_rfl) (opens_str Try.underlying9) (opensF_last _ rfl rfl (k := 1) (by kernel_rfl) rfl (opens_int Try.underlying3))))).to (fun x => (⟨x.1, x.2.1, x.2.2⟩ : Ac))
    (fun w cs x h => by
      obtain ⟨_, _, e, ⟨h1, _⟩, _, _, e2, ⟨h2, z⟩, h3, _⟩ := h
      subst h1 h2 h3 e2
      exact ⟨e, z⟩)
theorem opens_acs : Opens Try.prog 22 (rowS KAc acS) := opens_row KAc rfl rfl rfl (by kernel_rfl) opens_ac
theorem acts_of_arg {H : Type} {enc : TypeId × Value → H} {w : World} {r : Reach} {b0 base : Nat} {spare : Nat → Bool} {held : Bool} {v : Value} {d : DataW H} {p : List MemPlace}
    (hv : Value.okWide Try.prog w r b0 22 v) (h : DataW.Trod enc Try.prog w base spare held 22 v d p) : ∃ (a : Option Addr) (n c : Nat) (l : List Ac), v = .slice a n c ∧ l.length = n ∧ n ≤ 9223372036854775807 ∧
      ∀ i (hi : i < l.length), ∃ (q off : Nat), a = some ⟨q, off, none⟩ ∧ q < w.heap.size ∧ l[i].bd.size ≤ maxLen ∧ ∀ j u, (acE l[i])[j]? = some u → w.cell? ⟨q, off + i * 3 + j, none⟩ = some u := by
  obtain ⟨rs, l, hr⟩ := arg_row Try.underlying22 opens_acs hv h
  obtain ⟨a, c, e⟩ := hr.rd.slice
  rw [hr.len] at e
  subst e
  have hn := hr.rd.len
  rw [hr.len] at hn
  refine ⟨a, l.length, c, l, rfl, rfl, by unfold maxLen at hn; omega, fun i hi => ?_⟩
  obtain ⟨-, hl, g, off, cs, ha, hg, ⟨hcs, hz⟩, hc⟩ := hr.el rfl i hi
  have eK : KAc.k = 3 := rfl
  rw [eK] at hc
  subst hcs
  exact ⟨g, off, ha, hg, hz, fun j u hu => hc j u hu⟩
end Go.Proofs.Ytfobdkhmffphmaa
