/-
 Rows of sessions compared; machines compared.
-/
import Derived.Test.YtodcmhmankmaoaaGreatSesD
namespace Go.Proofs.YtodcmhmankmaoaaGreat
open Go.RowKit Go.Sort
set_option linter.unusedSimpArgs false
set_option linter.unusedVariables false

theorem SVof.nms {w : World} {x : SV} {e : S3} (h : SVof w x e) : Nms w (slV x.sl x.n) e.2.2.names := by
 have h1 := h.row.own1
 exact h1.nms (by have := own1_small h1; rw [List.length_map] at this; exact this)
theorem MacAt.len {X w : World} {g d bk sb K : Nat} {m : Mac} (h : MacAt X g d bk sb K m w) : m.s.length ≤ K := by
 obtain ⟨D, n, hn, hM, hI⟩ := h.map
 have h1 := (clients_perm hM hI h.right.rise).length_eq
 have h2 : (intKeys D).length = Go.Maps.size D := by
  cases D <;> simp [intKeys, Go.Maps.size]
 rw [List.length_map, h2] at h1
 have := hM.size_le
 omega
end Go.Proofs.YtodcmhmankmaoaaGreat
