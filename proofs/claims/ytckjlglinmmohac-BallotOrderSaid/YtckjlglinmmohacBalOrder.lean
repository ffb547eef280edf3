/-
  The walk of BallotOrder: it returns true whatever the three ballots are.
-/
import Derived.Test.YtckjlglinmmohacBalOrdA
import Derived.Test.YtckjlglinmmohacBalOrdB
import Derived.Test.YtckjlglinmmohacBalOrdC
import Derived.Test.YtckjlglinmmohacBalOrdD
namespace Go.Proofs.Ytckjlglinmmohac
open Go.RowKit
set_option linter.unusedSimpArgs false
set_option linter.unusedVariables false
theorem order_any (a1 a2 b1 b2 c1 c2 : Int) (w : World) : Calls Try.prog 6 #[pr a1 a2, pr b1 b2, pr c1 c2] w fun e w' => e = .returned (.bool true) ∧ Below w.heap.size w w' := by
  have key : ∀ x1 x2 y1 y2 : Int, (lessB x1 x2 y1 y2 = true ∧ lessB y1 y2 x1 x2 = false) ∨ (lessB x1 x2 y1 y2 = false ∧ lessB y1 y2 x1 x2 = true) ∨ (x1 = y1 ∧ x2 = y2) := by
    intro x1 x2 y1 y2; simp [lessB]; omega
  have tr : lessB a1 a2 b1 b2 = true → lessB b1 b2 c1 c2 = true → lessB a1 a2 c1 c2 = true := by
    simp [lessB]; omega
  by_cases hb : a1 = b1
  · subst hb
    by_cases h2 : a2 = b2
    · subst h2
      exact order_p4 a1 a2 c1 c2 (by simp [lessB]) w
    · have hne : (a2 == b2) = false := by simpa using h2
      rcases key a1 a2 a1 b2 with ⟨x, y⟩ | ⟨x, y⟩ | ⟨_, h⟩
      · cases z : lessB a1 b2 c1 c2
        · exact order_p2b a1 a2 b2 c1 c2 hne x y z w
        · exact order_p1b a1 a2 b2 c1 c2 hne x y z (tr x z) w
      · exact order_p3b a1 a2 b2 c1 c2 hne x y w
      · exact absurd h h2
  · have hne : (a1 == b1) = false := by simpa using hb
    rcases key a1 a2 b1 b2 with ⟨x, y⟩ | ⟨x, y⟩ | ⟨h, _⟩
    · cases z : lessB b1 b2 c1 c2
      · exact order_p2a a1 a2 b1 b2 c1 c2 hne x y z w
      · exact order_p1a a1 a2 b1 b2 c1 c2 hne x y z (tr x z) w
    · exact order_p3a a1 a2 b1 b2 c1 c2 hne x y w
    · exact absurd h hb
end Go.Proofs.Ytckjlglinmmohac
