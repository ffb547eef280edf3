/-
  Package accept: may a message be heard: what Right calls.
-/
import Derived.Test.YtchhcaoondfpiaaGreatAcBa
import Derived.Test.YtchhcaoondfpiaaGreatAt5
namespace Go.Proofs.YtchhcaoondfpiaaGreat
open Go.RowKit Go.Sort
open Go.WideMaps
set_option linter.unusedSimpArgs false
set_option linter.unusedVariables false
set_option maxRecDepth 100000

set_option maxHeartbeats 1600000 in
theorem member_any {w : World} {B g mb K : Nat} {b : BSt} (h : BkAt w B g mb K b) {p : Nat} (hp : w.cell? ⟨p, 0, none⟩ = some (bP g)) (hn : b.ns.length ≤ 1000) (n : Int) : Calls Tryz.prog 38 #[.int .i64 n, .pointer (some ⟨p, 0, none⟩)] w fun e w' => e = .returned (.bool (inB n b.ns)) ∧ Below w.heap.size w w' := by
  obtain ⟨vn, h1, h2⟩ := h.box
  obtain ⟨a, c, rfl⟩ := OwnI.slice h2
  have hit := (OwnI.it h2 (by omega)).row
  obtain ⟨a', c', e, hr, _⟩ := hit
  injection e with e1 e2 e3
  subst e1
  have HC := Lib.hid (Cc.has_any b.ep n a c b.ns w hr)
  have c1 := h1.cell 1
  have c2 := h1.cell 2
  simp only [List.getElem?_cons_zero, List.getElem?_cons_succ] at c1 c2
  obtain ⟨L, hL⟩ : ∃ L, b.ns.length = L := ⟨_, rfl⟩
  rw [hL] at HC c2
  obtain ⟨Q, hQ⟩ : ∃ Q, inB n b.ns = Q := ⟨_, rfl⟩
  rw [hQ] at HC ⊢
  clear h h1 h2 hr hn hL hQ e2 e3
  go_enter Tryz.func38, Tryz.ntmps38
  go_wp2_with fail
  refine HC.out.mono ?_
  rintro e w1 ⟨rfl, hb⟩
  clear c1 c2 hp
  go_wp2
  go_ret
  exact ⟨rfl, hb⟩
/-- What Right reads. -/
structure RtS (w0 g : Nat) (nd ep : Int) (cs : List Value) (w' : World) : Prop where
  ms : Bk w' (w0 + 1) 54 cs
  bx : w'.cell? ⟨w0, 0, none⟩ = some (bP g)
  nd : w'.cell? ⟨g, 0, none⟩ = some (.int .i64 nd)
  ep : w'.cell? ⟨g, 1, none⟩ = some (.int .i64 ep)
end Go.Proofs.YtchhcaoondfpiaaGreat
