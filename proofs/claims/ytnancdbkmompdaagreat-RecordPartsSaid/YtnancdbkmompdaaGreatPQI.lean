/-
  Texts put together: Mf, Cf.
-/
import Derived.Test.YtnancdbkmompdaaGreatRows
import Derived.Test.YtnancdbkmompdaaGreatPQA
import Derived.Laws.ResultCell
import Derived.Deep.RegionHeld3
import Derived.Test.YtnancdbkmompdaaGreatPQH
import Derived.IntWalk
import Derived.Deep.QuietTactic
namespace Go.Proofs.YtnancdbkmompdaaGreat
set_option linter.unusedSimpArgs false
set_option linter.unusedVariables false
end Go.Proofs.YtnancdbkmompdaaGreat
namespace Go.Proofs.YtnancdbkmompdaaGreat
open Go.RowKit
set_option linter.unusedSimpArgs false
set_option linter.unusedVariables false

end Go.Proofs.YtnancdbkmompdaaGreat
namespace Go.Proofs.YtnancdbkmompdaaGreat
open Go.RowKit
set_option linter.unusedSimpArgs false
set_option linter.unusedVariables false

end Go.Proofs.YtnancdbkmompdaaGreat
namespace Go.Proofs.YtnancdbkmompdaaGreat
open Go.RowKit
set_option linter.unusedSimpArgs false
set_option linter.unusedVariables false

end Go.Proofs.YtnancdbkmompdaaGreat
namespace Go.Proofs.YtnancdbkmompdaaGreat
open Go.RowKit
set_option linter.unusedSimpArgs false
set_option linter.unusedVariables false

/-- A number as four bytes, the lowest first. -/
def f4 (n : Nat) : List Int := [(n : Int) % 256, (n : Int) / 256 % 256, (n : Int) / 65536 % 256, (n : Int) / 16777216]
end Go.Proofs.YtnancdbkmompdaaGreat
namespace Go.Proofs.YtnancdbkmompdaaGreat
open Go.RowKit
set_option linter.unusedSimpArgs false
set_option linter.unusedVariables false

section
variable {ops : Array Oper} {rest : List Oper} {o : Oper} {a : Act} {w : World} {Q : Exit → Act → World → Prop}
end

end Go.Proofs.YtnancdbkmompdaaGreat
namespace Go.Proofs.YtnancdbkmompdaaGreat
open Go.RowKit
set_option linter.unusedSimpArgs false
set_option linter.unusedVariables false

/-- The first eight bytes. -/
def C8 (g off : Nat) (n0 n1 n2 n3 n4 n5 n6 n7 : Int) (w' : World) : Prop :=
 w'.cell? ⟨g, off, none⟩ = some (.int .u8 n0) ∧ w'.cell? ⟨g, off + 1, none⟩ = some (.int .u8 n1) ∧ w'.cell? ⟨g, off + 2, none⟩ = some (.int .u8 n2) ∧ w'.cell? ⟨g, off + 3, none⟩ = some (.int .u8 n3) ∧
 w'.cell? ⟨g, off + 4, none⟩ = some (.int .u8 n4) ∧ w'.cell? ⟨g, off + 4 + 1, none⟩ = some (.int .u8 n5) ∧ w'.cell? ⟨g, off + 4 + 2, none⟩ = some (.int .u8 n6) ∧ w'.cell? ⟨g, off + 4 + 3, none⟩ = some (.int .u8 n7)
def K8 (w : World) (g off : Nat) (n0 n1 n2 n3 n4 n5 n6 n7 : Int) (w' : World) : Prop := C8 g off n0 n1 n2 n3 n4 n5 n6 n7 w ∧ g < w.heap.size ∧ Below w.heap.size w w'
theorem K8.below {w w1 w2 : World} {g off : Nat} {n0 n1 n2 n3 n4 n5 n6 n7 : Int} (h : K8 w g off n0 n1 n2 n3 n4 n5 n6 n7 w1) (hb : Below w1.heap.size w1 w2) : K8 w g off n0 n1 n2 n3 n4 n5 n6 n7 w2 := ⟨h.1, h.2.1, below_self h.2.2 hb⟩
theorem K8.drew {w w1 : World} {g off : Nat} {n0 n1 n2 n3 n4 n5 n6 n7 : Int} (h : K8 w g off n0 n1 n2 n3 n4 n5 n6 n7 w1) : K8 w g off n0 n1 n2 n3 n4 n5 n6 n7 w1.drew := h.below (Below.refl _ _).drew
theorem K8.parts {w w1 : World} {g off : Nat} {n0 n1 n2 n3 n4 n5 n6 n7 : Int} (h : K8 w g off n0 n1 n2 n3 n4 n5 n6 n7 w1) : (w1.cell? ⟨g, off, none⟩ = some (.int .u8 n0) ∧ w1.cell? ⟨g, off + 1, none⟩ = some (.int .u8 n1) ∧ w1.cell? ⟨g, off + 2, none⟩ = some (.int .u8 n2) ∧ w1.cell? ⟨g, off + 3, none⟩ = some (.int .u8 n3) ∧
 w1.cell? ⟨g, off + 4, none⟩ = some (.int .u8 n4) ∧ w1.cell? ⟨g, off + 4 + 1, none⟩ = some (.int .u8 n5) ∧ w1.cell? ⟨g, off + 4 + 2, none⟩ = some (.int .u8 n6) ∧ w1.cell? ⟨g, off + 4 + 3, none⟩ = some (.int .u8 n7)) ∧ K8 w g off n0 n1 n2 n3 n4 n5 n6 n7 w1 := by
 have e := h
 obtain ⟨⟨a0, a1, a2, a3, a4, a5, a6, a7⟩, hg, hb⟩ := h
 exact ⟨⟨(hb.cell (p := ⟨g, off, none⟩) hg).trans a0, (hb.cell (p := ⟨g, off + 1, none⟩) hg).trans a1, (hb.cell (p := ⟨g, off + 2, none⟩) hg).trans a2, (hb.cell (p := ⟨g, off + 3, none⟩) hg).trans a3, (hb.cell (p := ⟨g, off + 4, none⟩) hg).trans a4, (hb.cell (p := ⟨g, off + 4 + 1, none⟩) hg).trans a5, (hb.cell (p := ⟨g, off + 4 + 2, none⟩) hg).trans a6, (hb.cell (p := ⟨g, off + 4 + 3, none⟩) hg).trans a7⟩, e⟩
end Go.Proofs.YtnancdbkmompdaaGreat
namespace Go.Proofs.YtnancdbkmompdaaGreat
open Go.RowKit
set_option linter.unusedSimpArgs false
set_option linter.unusedVariables false

def szE (x : Ent) : Nat := x.1.size + x.2.1.size
def szT (l : List ByteArray) : Nat := (l.map (·.size)).sum
def szS (x : Ses) : Nat := x.2.2.2.1.size + x.2.2.2.2.2.length + szT x.2.2.2.2.2
def szEs (l : List Ent) : Nat := (l.map szE).sum
def szSs (l : List Ses) : Nat := (l.map szS).sum
/-- What can be written is so small. -/
structure Sml (m1 : Nat) (l2 : List Ent) (l3 : List Ses) : Prop where
 h1 : m1 ≤ 1024
 h2 : l2.length ≤ 1024
 h3 : l3.length ≤ 1024
 e2 : ∀ x ∈ l2, x.1.size ≤ 4096 ∧ x.2.1.size ≤ 4096
 e3 : ∀ x ∈ l3, x.2.2.2.1.size ≤ 4096 ∧ x.2.2.2.2.2.length ≤ 1024 ∧ ∀ t ∈ x.2.2.2.2.2, t.size ≤ 4096
theorem sum_le {α : Type} (f : α → Nat) (M : Nat) : ∀ (l : List α), (∀ x ∈ l, f x ≤ M) → (l.map f).sum ≤ l.length * M
 | [], _ => by simp
 | x :: l, h => by
  have h1 := sum_le f M l (fun y hy => h y (List.mem_cons_of_mem _ hy))
  have h2 := h x (List.mem_cons_self ..)
  simp only [List.map_cons, List.sum_cons, List.length_cons, Nat.add_mul]
  omega
theorem Sml.en {m1 : Nat} {l2 : List Ent} {l3 : List Ses} (h : Sml m1 l2 l3) (k : Nat) : szEs (l2.take k) ≤ 8388608 := by
 have h1 := sum_le szE 8192 (l2.take k) (fun x hx => by have := h.e2 x (List.mem_of_mem_take hx); unfold szE; omega)
 have h2 : (l2.take k).length ≤ 1024 := by rw [List.length_take]; have := h.h2; omega
 have h3 := Nat.mul_le_mul_right 8192 h2
 unfold szEs
 omega
theorem szT_le {l : List ByteArray} (h : ∀ t ∈ l, t.size ≤ 4096) (hl : l.length ≤ 1024) (k : Nat) : szT (l.take k) ≤ 4194304 := by
 have h1 := sum_le (·.size) 4096 (l.take k) (fun x hx => h x (List.mem_of_mem_take hx))
 have h2 : (l.take k).length ≤ 1024 := by rw [List.length_take]; omega
 have h3 := Nat.mul_le_mul_right 4096 h2
 unfold szT
 omega
theorem Sml.se {m1 : Nat} {l2 : List Ent} {l3 : List Ses} (h : Sml m1 l2 l3) (k : Nat) : szSs (l3.take k) ≤ 4500000000 := by
 have h1 := sum_le szS 4200000 (l3.take k) (fun x hx => by
  have := h.e3 x (List.mem_of_mem_take hx)
  have h4 := szT_le this.2.2 this.2.1 x.2.2.2.2.2.length
  rw [List.take_length] at h4
  unfold szS
  omega)
 have h2 : (l3.take k).length ≤ 1024 := by rw [List.length_take]; have := h.h3; omega
 have h3 := Nat.mul_le_mul_right 4200000 h2
 unfold szSs
 omega
end Go.Proofs.YtnancdbkmompdaaGreat
namespace Go.Proofs.YtnancdbkmompdaaGreat
open Go.RowKit
set_option linter.unusedSimpArgs false
set_option linter.unusedVariables false

end Go.Proofs.YtnancdbkmompdaaGreat
