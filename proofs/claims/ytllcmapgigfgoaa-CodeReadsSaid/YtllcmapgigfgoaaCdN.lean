/-
  The things that are written and read: plain.
-/
import Derived.Test.YtllcmapgigfgoaaCdM
namespace Go.Proofs.Ytllcmapgigfgoaa
set_option linter.unusedSimpArgs false
set_option linter.unusedVariables false

abbrev Id3 := Int × Int × Int
abbrev Bal := Int × Int
abbrev Cmd8 := Int × Int × Int × ByteArray × ByteArray × Int × Int × Int
abbrev Att := Int × List Id3
abbrev Ins := Int × Bal × Bal × Cmd8 × Att
abbrev Ent := ByteArray × ByteArray × Int
abbrev Rpl := Int × ByteArray × Int × List ByteArray
abbrev Ses := Int × Int × Rpl
abbrev Cfg := Int × List Int
abbrev Snp := Cfg × List Ent × List Ses
abbrev Msg7 := Int × Int × Int × Id3 × Bal × Ins × Snp
def idC : Cod Id3 := pairC numC (pairC numC numC)
def balC : Cod Bal := pairC numC numC
def cmC : Cod Cmd8 := pairC numC (pairC numC (pairC numC (pairC txtC (pairC txtC (pairC numC (pairC numC numC))))))
def enC : Cod Ent := pairC txtC (pairC txtC numC)
def atC : Cod Att := pairC numC (listC idC)
def inC : Cod Ins := pairC numC (pairC balC (pairC balC (pairC cmC atC)))
def rpC : Cod Rpl := pairC numC (pairC txtC (pairC numC (listC txtC)))
def cfC : Cod Cfg := pairC numC (listC numC)
def seC : Cod Ses := pairC numC (pairC numC rpC)
def snC : Cod Snp := pairC cfC (pairC (listC enC) (listC seC))
def msC : Cod Msg7 := pairC numC (pairC numC (pairC numC (pairC idC (pairC balC (pairC inC snC)))))
theorem numC_rd (s : RSt) : numC.rd s = gNum s := rfl
theorem txtC_rd (s : RSt) : txtC.rd s = gTxt s := rfl
theorem pairC_rd {α β : Type} (A : Cod α) (B : Cod β) (s : RSt) : (pairC A B).rd s = (((A.rd s).1, (B.rd (A.rd s).2).1), (B.rd (A.rd s).2).2) := rfl
theorem listC_rd {α : Type} (A : Cod α) (s : RSt) : (listC A).rd s = gList A.rd (gCnt s).1 (gCnt s).2 := rfl
theorem numC_fs (n : Int) : numC.fs n = [.num n] := rfl
theorem txtC_fs (n : ByteArray) : txtC.fs n = [.txt n] := rfl
theorem pairC_fs {α β : Type} (A : Cod α) (B : Cod β) (x : α × β) : (pairC A B).fs x = A.fs x.1 ++ B.fs x.2 := rfl
theorem listC_fs {α : Type} (A : Cod α) (l : List α) : (listC A).fs l = .cnt l.length :: l.flatMap A.fs := rfl
theorem wrs_one (st : Option (List Int)) (f : Fd) : wrs st [f] = wr1 st f := rfl
/-- Of a list of which each has m fields at most. -/
theorem flat_len {α : Type} (f : α → List Fd) (m : Nat) (hm : ∀ x, (f x).length ≤ m) : ∀ l : List α, (l.flatMap f).length ≤ l.length * m
  | [] => by simp
  | x :: l => by
    rw [List.flatMap_cons, List.length_append, List.length_cons, Nat.add_mul]
    have := flat_len f m hm l
    have := hm x
    omega
end Go.Proofs.Ytllcmapgigfgoaa
