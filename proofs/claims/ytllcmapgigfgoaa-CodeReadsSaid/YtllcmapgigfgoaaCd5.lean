/-
  Package code: rows of like things.
-/
import Derived.Test.YtllcmapgigfgoaaCd4
namespace Go.Proofs.Ytllcmapgigfgoaa
open Go.RowKit
set_option linter.unusedSimpArgs false
set_option linter.unusedVariables false

theorem gCnt_le (s : RSt) : (gCnt s).1 ≤ 1024 := by
  unfold gCnt
  split
  · exact Nat.zero_le _
  · simp only; omega
/-- The elements of a row of like ones. -/
theorem zero_at {α : Type} {K : Knd Try.prog α} {w : World} {base N cz k : Nat} {az : Option Addr} {z : α} (h : K.Own w base (.slice az N cz) (List.replicate N z)) (hk : k < N) : ∃ g off, az = some ⟨g, off, none⟩ ∧ g < w.heap.size ∧ ∀ j u, (K.enc z)[j]? = some u → w.cell? ⟨g, off + k * K.k + j, none⟩ = some u := by
  obtain ⟨_, g, off, ha, hg, hc⟩ := h.rd.at (by intro e; have := congrArg List.length e; simp at this; omega)
  refine ⟨g, off, ha, hg, fun j u hu => hc k hk j u ?_⟩
  have e : (List.replicate N z).getD k K.d = z := by simp [List.getD, hk]
  rw [e]
  exact hu
end Go.Proofs.Ytllcmapgigfgoaa
