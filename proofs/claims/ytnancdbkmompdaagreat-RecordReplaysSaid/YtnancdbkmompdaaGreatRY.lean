/-
  Rules in few signs.
-/
import Derived.WalkKit
import Derived.Lib.Hide
namespace Go.Proofs.YtnancdbkmompdaaGreat
theorem gA : (type_of% @List.setIfInBounds_toArray.{0}) ∧ (type_of% @List.set_cons_zero.{0}) ∧ (type_of% @List.set_cons_succ.{0}) ∧ (type_of% @List.getElem_toArray.{0}) ∧ (type_of% @List.getElem_cons_zero.{0}) ∧ (type_of% @List.getElem_cons_succ.{0}) :=
  ⟨@List.setIfInBounds_toArray.{0}, @List.set_cons_zero.{0}, @List.set_cons_succ.{0}, @List.getElem_toArray.{0}, @List.getElem_cons_zero.{0}, @List.getElem_cons_succ.{0}⟩
theorem gB : (type_of% @List.getElem?_cons_zero.{0}) ∧ (type_of% @List.getElem?_cons_succ.{0}) :=
  ⟨@List.getElem?_cons_zero.{0}, @List.getElem?_cons_succ.{0}⟩
theorem Hd {p : Prop} (h : p) : Go.RowKit.Hid p := Go.Lib.hid h
end Go.Proofs.YtnancdbkmompdaaGreat
