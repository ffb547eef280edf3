/-
  Cells that commands read and write, on plain lists.
-/
import Derived.Test.YtphddigohmdbnaaTchP
namespace Go.Proofs.Ytphddigohmdbnaa
open Go
set_option linter.unusedSimpArgs false
set_option linter.unusedVariables false

abbrev Cl := ByteArray × Int
def rt : ByteArray := pth []
/-- The cells that an operation on a path reads. -/
def rds (op : Int) (p : ByteArray) : List Cl :=
  if vld p = false then [] else
  if op = 1 then (if nmL p = [] then [(rt, 101)] else [(par p, 101), (p, 101)]) else
  if op = 4 then [(p, 101), (p, 118)] else
  if op = 5 then [(p, 101), (p, 107)] else
  if nmL p = [] then [] else
  if op = 2 then [(p, 101), (p, 107)] else
  if op = 3 then [(p, 101)] else
  if op = 6 then [(p, 101), (p, 118)] else []
/-- The cells that it writes. -/
def wrs (op : Int) (p : ByteArray) : List Cl :=
  if vld p = false ∨ nmL p = [] then [] else
  if op = 1 ∨ op = 2 then [(p, 101), (p, 118), (par p, 107)] else
  if op = 3 ∨ op = 6 then [(p, 118)] else []
def memB (x : Cl) (l : List Cl) : Bool := l.any (fun c => decide (c = x))
def dst (o1 : Int) (p1 : ByteArray) (o2 : Int) (p2 : ByteArray) : Bool := (rds o2 p2 ++ wrs o2 p2).any (fun x => memB x (wrs o1 p1))
def mtr (o1 : Int) (p1 : ByteArray) (o2 : Int) (p2 : ByteArray) : Bool := dst o1 p1 o2 p2 || dst o2 p2 o1 p1
def ctl (o : Int) : Bool := decide (o = 7) || decide (o = 8) || decide (o = 9)
def bth (c1 o1 : Int) (p1 : ByteArray) (c2 o2 : Int) (p2 : ByteArray) : Bool :=
  !(decide (o1 = 0)) && !(decide (o2 = 0)) && (ctl o1 || ctl o2 || decide (c1 = c2) || mtr o1 p1 o2 p2)
theorem mtr_comm (o1 o2 : Int) (p1 p2 : ByteArray) : mtr o1 p1 o2 p2 = mtr o2 p2 o1 p1 := by unfold mtr; rw [Bool.or_comm]
theorem bth_comm (c1 c2 o1 o2 : Int) (p1 p2 : ByteArray) : bth c1 o1 p1 c2 o2 p2 = bth c2 o2 p2 c1 o1 p1 := by
  unfold bth
  rw [mtr_comm]
  have : decide (c1 = c2) = decide (c2 = c1) := by rw [decide_eq_decide]; exact eq_comm
  rw [this]
  cases decide (o1 = 0) <;> cases decide (o2 = 0) <;> cases ctl o1 <;> cases ctl o2 <;> rfl
theorem wrs_read {o : Int} (p : ByteArray) (h : o = 4 ∨ o = 5) : wrs o p = [] := by
  unfold wrs
  split
  · rfl
  · rcases h with rfl | rfl <;> simp
theorem bth_read {c1 c2 o1 o2 : Int} {p1 p2 : ByteArray} (h1 : o1 = 4 ∨ o1 = 5) (h2 : o2 = 4 ∨ o2 = 5) : bth c1 o1 p1 c2 o2 p2 = decide (c1 = c2) := by
  have w1 := wrs_read p1 h1
  have w2 := wrs_read p2 h2
  unfold bth mtr dst
  rw [w1, w2]
  have a1 : ctl o1 = false := by rcases h1 with rfl | rfl <;> rfl
  have a2 : ctl o2 = false := by rcases h2 with rfl | rfl <;> rfl
  have b1 : decide (o1 = 0) = false := by rcases h1 with rfl | rfl <;> rfl
  have b2 : decide (o2 = 0) = false := by rcases h2 with rfl | rfl <;> rfl
  rw [a1, a2, b1, b2]
  simp [memB]
theorem bth_none_l (c1 c2 o2 : Int) (p1 p2 : ByteArray) : bth c1 0 p1 c2 o2 p2 = false := rfl
theorem bth_none_r (c1 c2 o1 : Int) (p1 p2 : ByteArray) : bth c1 o1 p1 c2 0 p2 = false := by rw [bth_comm]; rfl
theorem rds_len (o : Int) (p : ByteArray) : (rds o p).length ≤ 2 := by
  unfold rds
  repeat' split
  all_goals simp
theorem wrs_len (o : Int) (p : ByteArray) : (wrs o p).length ≤ 3 := by
  unfold wrs
  repeat' split
  all_goals simp
end Go.Proofs.Ytphddigohmdbnaa
