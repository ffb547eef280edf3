/-
  The map of a directory; whether a path is there.
-/
import Derived.Test.YtoojfbeikohikaaDirM
import Derived.Maps.OwnSet
import Derived.Maps.RangeWalk
namespace Go.Proofs.Ytoojfbeikohikaa
open Go.RowKit Go.Sort
open Go.WideMaps
set_option linter.unusedSimpArgs false
set_option linter.unusedVariables false

theorem strK : Go.Maps.Keyed Try.prog 9 := Go.Maps.string_keyed Try.underlying9
theorem zeroH (w : World) : (zeroValue 63).run Try.prog w = .ok (.agg #[.string ByteArray.empty, .int .i64 0]) w := by kernel_rfl
def kS (p : ByteArray) : Lit := .string p.data.toList
theorem kS_inj {p q : ByteArray} (h : kS p = kS q) : p = q := data_inj (by simpa [kS] using h)
theorem kS_lit (p : ByteArray) : WideAt.IsKeyLit (kS p) := by simp [kS, WideAt.IsKeyLit]
theorem kS_key {p : ByteArray} (h : p.size ≤ 1000) : keyOf Try.prog 9 (.string p) = some (kS p) := keyOf_string_mk Try.underlying9 (by unfold maxLen; omega)
theorem kS_inv {key : Value} {kl : Lit} (h : keyOf Try.prog 9 key = some kl) : ∃ p, key = .string p ∧ kl = kS p := by
  unfold keyOf at h
  simp only [Try.underlying9] at h
  cases key <;> simp [mapKey, Try.underlying9] at h
  exact ⟨_, rfl, h.2.symm⟩
/-- How what a path has reads. -/
def heldElem : Value → Option (DataW Unit × List MemPlace)
  | .agg ⟨[.string v, .int .i64 n]⟩ => some (.agg [.lit (.string v.data.toList), .lit (.int .i64 n)], [])
  | _ => none
abbrev hV (v : ByteArray) (n : Int) : Value := .agg #[.string v, .int .i64 n]
def hD (x : ByteArray × Int) : DataW Unit := .agg [.lit (.string x.1.data.toList), .lit (.int .i64 x.2)]
theorem heldElem_mk (v : ByteArray) (n : Int) : heldElem (hV v n) = some (hD (v, n), []) := rfl
theorem heldElem_inv {x : Value} {z : DataW Unit × List MemPlace} (h : heldElem x = some z) : ∃ v n, x = hV v n ∧ z = (hD (v, n), []) := by
  unfold heldElem at h
  split at h
  · exact ⟨_, _, rfl, (Option.some.inj h).symm⟩
  · cases h
theorem hD_inj {x y : ByteArray × Int} (h : hD x = hD y) : x = y := by
  simp only [hD, DataW.agg.injEq, List.cons.injEq, DataW.lit.injEq, Lit.string.injEq, Lit.int.injEq, true_and, and_true] at h
  exact Prod.ext (data_inj h.1) h.2
abbrev zH : ByteArray × Int := (ByteArray.empty, 0)
structure DirIs (D : DataW Unit) (l : List E3) : Prop where
  has : ∀ p, Maps.has D (kS p) = (fndD l p).isSome
  val : ∀ p x, fndD l p = some x → D.atKey (kS p) (hD zH) = hD x
  size : Maps.size D = l.length
  tidy : Maps.Tidy D
theorem DirIs.empty : DirIs (.map []) [] := ⟨fun x => rfl, fun p x h => (by cases h), rfl, Maps.tidy_empty⟩
theorem DirIs.look {D : DataW Unit} {l : List E3} (h : DirIs D l) (p : ByteArray) : D.atKey (kS p) (hD zH) = hD ((fndD l p).getD zH) := by
  cases e : fndD l p with
  | none =>
    have := h.has p
    rw [e] at this
    rw [Maps.atKey_of_not_has this]
    rfl
  | some x => rw [h.val p x e]; rfl
theorem DirIs.put {D : DataW Unit} {l : List E3} (h : DirIs D l) (hr : RisesD l) (hk : okKeys l) {p : ByteArray} (hp : okP p) (v : ByteArray) (n : Int) : DirIs (D.put (kS p) (hD (v, n))) (putD l p v n) := by
  refine ⟨fun q => ?_, fun q x hq => ?_, ?_, h.tidy.put (kS_lit p) _⟩
  · rw [fndD_put hr hk hp]
    by_cases e : q = p
    · subst e
      rw [if_pos rfl, Maps.has_put_same h.tidy.isMap (kS_lit q)]
      rfl
    · rw [if_neg e, Maps.has_put_other (fun k => e (kS_inj k)), h.has q]
  · rw [fndD_put hr hk hp] at hq
    by_cases e : q = p
    · subst e
      rw [if_pos rfl] at hq
      obtain rfl := Option.some.inj hq
      exact Maps.atKey_put_same h.tidy.isMap (kS_lit q) _ _
    · rw [if_neg e] at hq
      rw [Maps.atKey_put_other (fun k => e (kS_inj k)), h.val q x hq]
  · rw [Maps.size_put h.tidy, h.has, h.size, len_putD hr hk hp]
theorem DirIs.del {D : DataW Unit} {l : List E3} (h : DirIs D l) (hr : RisesD l) (p : ByteArray) : DirIs (D.del (kS p)) (delD l p) := by
  refine ⟨fun q => ?_, fun q x hq => ?_, ?_, h.tidy.del (kS p)⟩
  · rw [fndD_del hr]
    by_cases e : q = p
    · subst e
      rw [if_pos rfl, Maps.has_del_same]
      rfl
    · rw [if_neg e, Maps.has_del_other (fun k => e (kS_inj k)), h.has q]
  · rw [fndD_del hr] at hq
    by_cases e : q = p
    · subst e
      rw [if_pos rfl] at hq
      cases hq
    · rw [if_neg e] at hq
      rw [Maps.atKey_del_other (fun k => e (kS_inj k)), h.val q x hq]
  · have h1 := Maps.size_del (k := kS p) h.tidy
    have h2 := len_delD hr p
    rw [h.has, h.size] at h1
    split at h1 <;> rename_i q <;> simp [q] at h2 <;> omega
/-- The directory behind the pointer to block d, whose map is block b. -/
structure DirAt (w : World) (d b K : Nat) (l : List E3) : Prop where
  cell : w.cell? ⟨d, 0, none⟩ = some (.map (some b))
  map : ∃ (D : DataW Unit) (m : Nat), m ≤ K ∧ w.ownsMap (H := Unit) Try.prog 9 heldElem b m D ∧ DirIs D l
  rise : RisesD l
  keys : okKeys l
abbrev dP (d : Nat) : Value := .pointer (some ⟨d, 0, none⟩)
theorem eqRoot (p : ByteArray) : (p.toList == [47]) = decide (p = pth []) := by
  rw [Lib.toList_data, Bool.eq_iff_iff]
  simp only [beq_iff_eq, decide_eq_true_eq]
  constructor
  · intro h
    exact data_inj (by rw [h]; rfl)
  · rintro rfl; rfl
theorem there_any (d b K : Nat) (l : List E3) (p : ByteArray) (w : World) (hd : DirAt w d b K l) (hp : p.size ≤ 1000) :
    Calls Try.prog 47 #[dP d, .string p] w fun e w' => e = .returned (.bool (thrD l p)) ∧ Below w.heap.size w w' := by
  obtain ⟨D, m, hm, hM, hI⟩ := hd.map
  have c0 := hd.cell
  have HM := Lib.hid hM
  have HA : Hid (Maps.has D (kS p) = (fndD l p).isSome) := Lib.hid (hI.has p)
  have HK := Lib.hid (kS_key hp)
  have HR := Lib.hid (eqRoot p)
  clear hM hI hd hp hm
  go_enter Try.func47, Try.ntmps47
  go_wp2_with (at_lookup; refine wpList_lookup_own_ok _ rfl _ _ 53 rfl 9 63 strK Try.underlying53 heldElem (zeroH _) (hD zH) [] (heldElem_mk _ _) b m D rfl HM.out (.string p) (kS p) rfl HK.out ?_)
  intro v ps hv
  obtain ⟨v1, n1, rfl, _⟩ := heldElem_inv hv
  clear hv
  rw [HA.out]
  cases hF : (fndD l p).isSome with
  | true =>
    have HF := Lib.hid hF
    clear hF
    go_wp2
    go_ret
    exact ⟨by simp [thrD, HF.out], (Below.refl _ _).alloc (Nat.le_refl _) _⟩
  | false =>
    have HF := Lib.hid hF
    clear hF
    go_wp2
    go_ret
    exact ⟨by simp [thrD, HF.out, HR.out], (Below.refl _ _).alloc (Nat.le_refl _) _⟩
end Go.Proofs.Ytoojfbeikohikaa
