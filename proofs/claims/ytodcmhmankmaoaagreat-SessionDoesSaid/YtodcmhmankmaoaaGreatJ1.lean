/-
  Texts put together: DirM, Dir1, Dir2, Dir3, Dir4, Dir5, Dir6, Dir7, DirN, Dir8, Dir9, DirA.
-/
import Derived.Test.YtodcmhmankmaoaaGreatJP
import Derived.Maps.OwnSet
import Derived.Maps.RangeWalk
import Derived.StillTailTactics
import Derived.Deep.RegionHeld3
import Derived.Sort.OwnSorted
import Derived.Sort.KeysCollected
namespace Go.Proofs.YtodcmhmankmaoaaGreat
set_option linter.unusedSimpArgs false
set_option linter.unusedVariables false

/-- An entry: path, value, version. -/
abbrev E3 := ByteArray × ByteArray × Int
def okP (p : ByteArray) : Prop := vld p = true ∧ nmL p ≠ []
def RisesD (l : List E3) : Prop := l.Pairwise fun a b => lsr a.1 b.1 = true
def okKeys (l : List E3) : Prop := ∀ e ∈ l, okP e.1
def fndD (l : List E3) (p : ByteArray) : Option (ByteArray × Int) := (l.find? fun e => decide (e.1 = p)).map (·.2)
def putD (l : List E3) (p v : ByteArray) (n : Int) : List E3 := (l.filter fun e => lsr e.1 p) ++ (p, v, n) :: (l.filter fun e => lsr p e.1)
def delD (l : List E3) (p : ByteArray) : List E3 := l.filter fun e => decide (e.1 ≠ p)
def thrD (l : List E3) (p : ByteArray) : Bool := (fndD l p).isSome || decide (p = pth [])
def kidD (l : List E3) (p : ByteArray) : List ByteArray := (l.filter fun e => decide (par e.1 = p)).map fun e => lst e.1

theorem lsr_irr (p : ByteArray) : lsr p p = false := by simp [lsr, ltN_irr]
theorem lsr_trans {p q r : ByteArray} (h1 : lsr p q = true) (h2 : lsr q r = true) : lsr p r = true := by
  simp only [lsr, Bool.and_eq_true] at *
  exact ⟨⟨h1.1.1, h2.1.2⟩, ltN_trans _ _ _ h1.2 h2.2⟩
theorem lsr_tot {p q : ByteArray} (hp : okP p) (hq : okP q) (h : p ≠ q) : lsr p q = !lsr q p := by
  have hn : nmL p ≠ nmL q := fun e => h (nm_inj hp.1 hq.1 e)
  simp [lsr, hp.1, hq.1, ltN_tot _ _ hn]
theorem lsr_asym {p q : ByteArray} (h : lsr p q = true) : lsr q p = false := by
  cases e : lsr q p with
  | false => rfl
  | true => have := lsr_trans h e; rw [lsr_irr] at this; cases this
theorem lsr_ne {p q : ByteArray} (h : lsr p q = true) : p ≠ q := fun e => by subst e; rw [lsr_irr] at h; cases h

theorem RisesD.keys {l : List E3} (h : RisesD l) : (l.map (·.1)).Nodup := by
  rw [List.nodup_iff_pairwise_ne, List.pairwise_map]
  exact List.Pairwise.imp (fun {a b} q => lsr_ne q) h
theorem RisesD.one {l : List E3} (h : RisesD l) {a b : E3} (ha : a ∈ l) (hb : b ∈ l) (e : a.1 = b.1) : a = b := by
  induction l with
  | nil => cases ha
  | cons x l ih =>
    have hx := List.pairwise_cons.1 h
    rcases List.mem_cons.1 ha with rfl | ha'
    · rcases List.mem_cons.1 hb with rfl | hb'
      · rfl
      · exact absurd e (lsr_ne (hx.1 b hb'))
    · rcases List.mem_cons.1 hb with rfl | hb'
      · exact absurd e.symm (lsr_ne (hx.1 a ha'))
      · exact ih hx.2 ha' hb'
theorem fndD_some {l : List E3} (h : RisesD l) {p v : ByteArray} {n : Int} : fndD l p = some (v, n) ↔ (p, v, n) ∈ l := by
  unfold fndD
  constructor
  · intro q
    rw [Option.map_eq_some_iff] at q
    obtain ⟨e, he, hv⟩ := q
    have h1 := List.mem_of_find?_eq_some he
    have h2 := List.find?_some he
    obtain ⟨ep, ev⟩ := e
    simp only [decide_eq_true_eq] at h2 hv
    subst h2 hv
    exact h1
  · intro q
    cases hf : l.find? (fun e => decide (e.1 = p)) with
    | none =>
      have := List.find?_eq_none.1 hf _ q
      simp at this
    | some e =>
      have h1 := List.mem_of_find?_eq_some hf
      have h2 := List.find?_some hf
      have := h.one h1 q (by simpa using h2)
      subst this
      rfl
theorem fndD_none {l : List E3} {p : ByteArray} : fndD l p = none ↔ ∀ e ∈ l, e.1 ≠ p := by
  unfold fndD
  rw [Option.map_eq_none_iff, List.find?_eq_none]
  simp
theorem fndD_mem {l : List E3} {p : ByteArray} : (fndD l p).isSome = true ↔ ∃ e ∈ l, e.1 = p := by
  cases h : fndD l p with
  | none =>
    have := fndD_none.1 h
    simp only [Option.isSome_none, Bool.false_eq_true, false_iff]
    rintro ⟨e, he, q⟩
    exact this e he q
  | some x =>
    simp only [Option.isSome_some, true_iff]
    refine Classical.byContradiction fun q => ?_
    have : fndD l p = none := fndD_none.2 fun e he hq => q ⟨e, he, hq⟩
    rw [h] at this
    cases this
/-- Rows that rise and have the same things are the same. -/
theorem RisesD.ext : ∀ {l k : List E3}, RisesD l → RisesD k → (∀ e, e ∈ l ↔ e ∈ k) → l = k
  | [], k, _, _, h => by
    cases k with
    | nil => rfl
    | cons x k => exact absurd ((h x).2 (.head _)) (by simp)
  | x :: l, [], _, _, h => absurd ((h x).1 (.head _)) (by simp)
  | x :: l, y :: k, hl, hk, h => by
    have hx := List.pairwise_cons.1 hl
    have hy := List.pairwise_cons.1 hk
    have e : x = y := by
      rcases List.mem_cons.1 ((h x).1 (.head _)) with q | q
      · exact q
      · rcases List.mem_cons.1 ((h y).2 (.head _)) with r | r
        · exact r.symm
        · have h1 := hy.1 x q
          have h2 := hx.1 y r
          rw [lsr_asym h1] at h2
          cases h2
    subst e
    congr 1
    refine RisesD.ext hx.2 hy.2 fun z => ?_
    constructor
    · intro q
      rcases List.mem_cons.1 ((h z).1 (.tail _ q)) with r | r
      · subst r; exact absurd rfl (lsr_ne (hx.1 z q))
      · exact r
    · intro q
      rcases List.mem_cons.1 ((h z).2 (.tail _ q)) with r | r
      · subst r; exact absurd rfl (lsr_ne (hy.1 z q))
      · exact r
theorem RisesD.del {l : List E3} (h : RisesD l) (p : ByteArray) : RisesD (delD l p) := List.Pairwise.sublist List.filter_sublist h
theorem mem_delD {l : List E3} {p : ByteArray} {e : E3} : e ∈ delD l p ↔ e ∈ l ∧ e.1 ≠ p := by simp [delD, List.mem_filter]
theorem mem_putD {l : List E3} (hk : okKeys l) {p v : ByteArray} {n : Int} (hp : okP p) {e : E3} : e ∈ putD l p v n ↔ e = (p, v, n) ∨ (e ∈ l ∧ e.1 ≠ p) := by
  unfold putD
  rw [List.mem_append, List.mem_cons, List.mem_filter, List.mem_filter]
  constructor
  · rintro (⟨h, q⟩ | rfl | ⟨h, q⟩)
    · exact .inr ⟨h, lsr_ne q⟩
    · exact .inl rfl
    · exact .inr ⟨h, fun e => lsr_ne q e.symm⟩
  · rintro (rfl | ⟨h, q⟩)
    · exact .inr (.inl rfl)
    · have := lsr_tot (hk e h) hp q
      cases hl : lsr e.1 p with
      | true => exact .inl ⟨h, rfl⟩
      | false =>
        rw [hl] at this
        exact .inr (.inr ⟨h, by simpa using this.symm⟩)
theorem RisesD.put {l : List E3} (h : RisesD l) (p v : ByteArray) (n : Int) : RisesD (putD l p v n) := by
  unfold RisesD putD
  rw [List.pairwise_append, List.pairwise_cons]
  refine ⟨List.Pairwise.sublist List.filter_sublist h, ⟨?_, List.Pairwise.sublist List.filter_sublist h⟩, ?_⟩
  · intro a ha
    exact (List.mem_filter.1 ha).2
  · intro a ha b hb
    have h1 := (List.mem_filter.1 ha).2
    rcases List.mem_cons.1 hb with rfl | hb
    · exact h1
    · exact lsr_trans h1 (List.mem_filter.1 hb).2
theorem okKeys.put {l : List E3} (h : okKeys l) {p : ByteArray} (hp : okP p) (v : ByteArray) (n : Int) : okKeys (putD l p v n) := fun e he => by
  rcases (mem_putD h hp).1 he with rfl | ⟨q, _⟩
  · exact hp
  · exact h e q
theorem okKeys.del {l : List E3} (h : okKeys l) (p : ByteArray) : okKeys (delD l p) := fun e he => h e (mem_delD.1 he).1
theorem opt_ext {a b : Option (ByteArray × Int)} (h : ∀ v n, a = some (v, n) ↔ b = some (v, n)) : a = b := by
  cases a with
  | none =>
    cases b with
    | none => rfl
    | some y => exact absurd ((h y.1 y.2).2 rfl) (by simp)
  | some x => exact ((h x.1 x.2).1 rfl).symm
theorem fndD_put {l : List E3} (h : RisesD l) (hk : okKeys l) {p : ByteArray} (hp : okP p) (v : ByteArray) (n : Int) (q : ByteArray) : fndD (putD l p v n) q = if q = p then some (v, n) else fndD l q := by
  refine opt_ext fun u m => ?_
  rw [fndD_some (h.put p v n), mem_putD hk hp]
  by_cases e : q = p
  · subst e
    rw [if_pos rfl]
    simp [eq_comm]
  · rw [if_neg e, fndD_some h]
    simp [e]
theorem fndD_del {l : List E3} (h : RisesD l) (p q : ByteArray) : fndD (delD l p) q = if q = p then none else fndD l q := by
  refine opt_ext fun u m => ?_
  rw [fndD_some (h.del p), mem_delD]
  by_cases e : q = p
  · subst e
    rw [if_pos rfl]
    simp
  · rw [if_neg e, fndD_some h]
    simp [e]
theorem len_delD {l : List E3} (h : RisesD l) (p : ByteArray) : (delD l p).length + (if (fndD l p).isSome then 1 else 0) = l.length := by
  induction l with
  | nil => rfl
  | cons x l ih =>
    have hx := List.pairwise_cons.1 h
    have := ih hx.2
    by_cases e : x.1 = p
    · have hn : (fndD l p).isSome = false := by
        rw [Bool.eq_false_iff]
        intro q
        obtain ⟨y, hy, he⟩ := fndD_mem.1 q
        exact lsr_ne (hx.1 y hy) (by rw [e, he])
      have h1 : (fndD (x :: l) p).isSome = true := fndD_mem.2 ⟨x, .head _, e⟩
      rw [hn] at this
      rw [h1]
      have h2 : delD (x :: l) p = delD l p := by simp [delD, List.filter_cons, e]
      rw [h2]
      simp at this ⊢
      exact this
    · have h1 : (fndD (x :: l) p).isSome = (fndD l p).isSome := by simp [fndD, List.find?_cons, e]
      have h2 : delD (x :: l) p = x :: delD l p := by simp [delD, List.filter_cons, e]
      rw [h1, h2, List.length_cons, List.length_cons]
      omega
theorem len_putD {l : List E3} (h : RisesD l) (hk : okKeys l) {p : ByteArray} (hp : okP p) (v : ByteArray) (n : Int) : (putD l p v n).length = if (fndD l p).isSome then l.length else l.length + 1 := by
  have h1 := len_delD (h.put p v n) p
  rw [fndD_put h hk hp, if_pos rfl] at h1
  have h2 : delD (putD l p v n) p = delD l p := by
    refine RisesD.ext ((h.put p v n).del p) (h.del p) fun e => ?_
    rw [mem_delD, mem_delD, mem_putD hk hp]
    constructor
    · rintro ⟨rfl | q, r⟩
      · exact absurd rfl r
      · exact q
    · rintro ⟨q, r⟩
      exact ⟨.inr ⟨q, r⟩, r⟩
  rw [h2] at h1
  have h3 := len_delD h p
  simp at h1
  split at h3 <;> rename_i q <;> simp [q] <;> omega
end Go.Proofs.YtodcmhmankmaoaaGreat
namespace Go.Proofs.YtodcmhmankmaoaaGreat
open Go.RowKit Go.Sort
open Go.WideMaps
set_option linter.unusedSimpArgs false
set_option linter.unusedVariables false

theorem strK : Go.Maps.Keyed Tryz.prog 9 := Go.Maps.string_keyed Tryz.underlying9
theorem zeroH (w : World) : (zeroValue 68).run Tryz.prog w = .ok (.agg #[.string ByteArray.empty, .int .i64 0]) w := by kernel_rfl
def kS (p : ByteArray) : Lit := .string p.data.toList
theorem kS_inj {p q : ByteArray} (h : kS p = kS q) : p = q := data_inj (by simpa [kS] using h)
theorem kS_lit (p : ByteArray) : WideAt.IsKeyLit (kS p) := by simp [kS, WideAt.IsKeyLit]
theorem kS_key {p : ByteArray} (h : p.size ≤ 1000) : keyOf Tryz.prog 9 (.string p) = some (kS p) := keyOf_string_mk Tryz.underlying9 (by unfold maxLen; omega)
theorem kS_inv {key : Value} {kl : Lit} (h : keyOf Tryz.prog 9 key = some kl) : ∃ p, key = .string p ∧ kl = kS p := by
  unfold keyOf at h
  simp only [Tryz.underlying9] at h
  cases key <;> simp [mapKey, Tryz.underlying9] at h
  exact ⟨_, rfl, h.2.symm⟩
/-- How what a path has reads. -/
def heldElem : Value → Option (DataW Unit × List MemPlace)
  | .agg ⟨[.string v, .int .i64 n]⟩ => some (.agg [.lit (.string v.data.toList), .lit (.int .i64 n)], [])
  | _ => none
abbrev hV (v : ByteArray) (n : Int) : Value := .agg #[.string v, .int .i64 n]
def hD (x : ByteArray × Int) : DataW Unit := .agg [.lit (.string x.1.data.toList), .lit (.int .i64 x.2)]
theorem heldElem_mk (v : ByteArray) (n : Int) : heldElem (hV v n) = some (hD (v, n), []) := rfl
theorem heldElem_inv {x : Value} {z : DataW Unit × List MemPlace} (h : heldElem x = some z) : ∃ v n, x = hV v n ∧ z = (hD (v, n), []) := by
  unfold heldElem at h
  split at h
  · exact ⟨_, _, rfl, (Option.some.inj h).symm⟩
  · cases h
theorem hD_inj {x y : ByteArray × Int} (h : hD x = hD y) : x = y := by
  simp only [hD, DataW.agg.injEq, List.cons.injEq, DataW.lit.injEq, Lit.string.injEq, Lit.int.injEq, true_and, and_true] at h
  exact Prod.ext (data_inj h.1) h.2
abbrev zH : ByteArray × Int := (ByteArray.empty, 0)
structure DirIs (D : DataW Unit) (l : List E3) : Prop where
  has : ∀ p, Maps.has D (kS p) = (fndD l p).isSome
  val : ∀ p x, fndD l p = some x → D.atKey (kS p) (hD zH) = hD x
  size : Maps.size D = l.length
  tidy : Maps.Tidy D
theorem DirIs.empty : DirIs (.map []) [] := ⟨fun x => rfl, fun p x h => (by cases h), rfl, Maps.tidy_empty⟩
theorem DirIs.look {D : DataW Unit} {l : List E3} (h : DirIs D l) (p : ByteArray) : D.atKey (kS p) (hD zH) = hD ((fndD l p).getD zH) := by
  cases e : fndD l p with
  | none =>
    have := h.has p
    rw [e] at this
    rw [Maps.atKey_of_not_has this]
    rfl
  | some x => rw [h.val p x e]; rfl
theorem DirIs.put {D : DataW Unit} {l : List E3} (h : DirIs D l) (hr : RisesD l) (hk : okKeys l) {p : ByteArray} (hp : okP p) (v : ByteArray) (n : Int) : DirIs (D.put (kS p) (hD (v, n))) (putD l p v n) := by
  refine ⟨fun q => ?_, fun q x hq => ?_, ?_, h.tidy.put (kS_lit p) _⟩
  · rw [fndD_put hr hk hp]
    by_cases e : q = p
    · subst e
      rw [if_pos rfl, Maps.has_put_same h.tidy.isMap (kS_lit q)]
      rfl
    · rw [if_neg e, Maps.has_put_other (fun k => e (kS_inj k)), h.has q]
  · rw [fndD_put hr hk hp] at hq
    by_cases e : q = p
    · subst e
      rw [if_pos rfl] at hq
      obtain rfl := Option.some.inj hq
      exact Maps.atKey_put_same h.tidy.isMap (kS_lit q) _ _
    · rw [if_neg e] at hq
      rw [Maps.atKey_put_other (fun k => e (kS_inj k)), h.val q x hq]
  · rw [Maps.size_put h.tidy, h.has, h.size, len_putD hr hk hp]
theorem DirIs.del {D : DataW Unit} {l : List E3} (h : DirIs D l) (hr : RisesD l) (p : ByteArray) : DirIs (D.del (kS p)) (delD l p) := by
  refine ⟨fun q => ?_, fun q x hq => ?_, ?_, h.tidy.del (kS p)⟩
  · rw [fndD_del hr]
    by_cases e : q = p
    · subst e
      rw [if_pos rfl, Maps.has_del_same]
      rfl
    · rw [if_neg e, Maps.has_del_other (fun k => e (kS_inj k)), h.has q]
  · rw [fndD_del hr] at hq
    by_cases e : q = p
    · subst e
      rw [if_pos rfl] at hq
      cases hq
    · rw [if_neg e] at hq
      rw [Maps.atKey_del_other (fun k => e (kS_inj k)), h.val q x hq]
  · have h1 := Maps.size_del (k := kS p) h.tidy
    have h2 := len_delD hr p
    rw [h.has, h.size] at h1
    split at h1 <;> rename_i q <;> simp [q] at h2 <;> omega
/-- The directory behind the pointer to block d, whose map is block b. -/
structure DirAt (w : World) (d b K : Nat) (l : List E3) : Prop where
  cell : w.cell? ⟨d, 0, none⟩ = some (.map (some b))
  map : ∃ (D : DataW Unit) (m : Nat), m ≤ K ∧ w.ownsMap (H := Unit) Tryz.prog 9 heldElem b m D ∧ DirIs D l
  rise : RisesD l
  keys : okKeys l
abbrev dP (d : Nat) : Value := .pointer (some ⟨d, 0, none⟩)
theorem eqRoot (p : ByteArray) : (p.toList == [47]) = decide (p = pth []) := by
  rw [Lib.toList_data, Bool.eq_iff_iff]
  simp only [beq_iff_eq, decide_eq_true_eq]
  constructor
  · intro h
    exact data_inj (by rw [h]; rfl)
  · rintro rfl; rfl
theorem there_any (d b K : Nat) (l : List E3) (p : ByteArray) (w : World) (hd : DirAt w d b K l) (hp : p.size ≤ 1000) :
    Calls Tryz.prog 57 #[dP d, .string p] w fun e w' => e = .returned (.bool (thrD l p)) ∧ Below w.heap.size w w' := by
  obtain ⟨D, m, hm, hM, hI⟩ := hd.map
  have c0 := hd.cell
  have HM := Lib.hid hM
  have HA : Hid (Maps.has D (kS p) = (fndD l p).isSome) := Lib.hid (hI.has p)
  have HK := Lib.hid (kS_key hp)
  have HR := Lib.hid (eqRoot p)
  clear hM hI hd hp hm
  go_enter Tryz.func57, Tryz.ntmps57
  go_wp2_with (at_lookup; refine wpList_lookup_own_ok _ rfl _ _ 69 rfl 9 68 strK Tryz.underlying69 heldElem (zeroH _) (hD zH) [] (heldElem_mk _ _) b m D rfl HM.out (.string p) (kS p) rfl HK.out ?_)
  intro v ps hv
  obtain ⟨v1, n1, rfl, _⟩ := heldElem_inv hv
  clear hv
  rw [HA.out]
  cases hF : (fndD l p).isSome with
  | true =>
    have HF := Lib.hid hF
    clear hF
    go_wp2
    go_ret
    exact ⟨by simp [thrD, HF.out], (Below.refl _ _).alloc (Nat.le_refl _) _⟩
  | false =>
    have HF := Lib.hid hF
    clear hF
    go_wp2
    go_ret
    exact ⟨by simp [thrD, HF.out, HR.out], (Below.refl _ _).alloc (Nat.le_refl _) _⟩
end Go.Proofs.YtodcmhmankmaoaaGreat
namespace Go.Proofs.YtodcmhmankmaoaaGreat
open Go.RowKit Go.Sort
open Go.WideMaps
set_option linter.unusedSimpArgs false
set_option linter.unusedVariables false

theorem outB {w w' : World} {b : Nat} (h : Below w.heap.size w w') : w.grownBy w' (some b) := ⟨h.os, h.tape, h.output, h.size, fun k hk _ => h.block k hk⟩
theorem outT {w w1 w2 : World} {b : Nat} (h : w.grownBy w1 (some b)) (k : w1.grownBy w2 (some b)) : w.grownBy w2 (some b) :=
  ⟨k.os.trans h.os, k.tape.trans h.tape, k.output.trans h.output, Nat.le_trans h.size k.size, fun i hi hn => (k.block i (Nat.lt_of_lt_of_le hi h.size) hn).trans (h.block i hi hn)⟩
theorem outBelow {w w' : World} {b B : Nat} (h : w.grownBy w' (some b)) (hb : B ≤ b) (hB : B ≤ w.heap.size) : Below B w w' := (Below.refl B w).grown h hB (fun k e => by cases e; exact hb)
theorem DirAt.ne {w : World} {d b K : Nat} {l : List E3} (h : DirAt w d b K l) : d ≠ b := by
  rintro rfl
  obtain ⟨D, m, _, ⟨es, ck, hb, _⟩, _⟩ := h.map
  have := h.cell
  simp [World.cell?, hb] at this
theorem DirAt.lt {w : World} {d b K : Nat} {l : List E3} (h : DirAt w d b K l) : d < w.heap.size ∧ b < w.heap.size := by
  obtain ⟨D, m, _, hM, _⟩ := h.map
  exact ⟨World.block_lt_of_cell? w _ h.cell, hM.lt⟩
theorem DirAt.below {w w' : World} {d b K : Nat} {l : List E3} (h : DirAt w d b K l) (hb : Below w.heap.size w w') : DirAt w' d b K l := by
  obtain ⟨D, m, hm, hM, hI⟩ := h.map
  exact ⟨(hb.cell h.lt.1).trans h.cell, ⟨D, m, hm, hM.kept (row := none) ⟨hb.os, hb.tape, hb.output, hb.size, fun k hk _ => hb.block k hk⟩ (by simp), hI⟩, h.rise, h.keys⟩
/-- Another directory's map has turned. -/
theorem DirAt.out {w w' : World} {d b c K : Nat} {l : List E3} (h : DirAt w d b K l) (hg : w.grownBy w' (some c)) (hd : d ≠ c) (hb : b ≠ c) : DirAt w' d b K l := by
  obtain ⟨D, m, hm, hM, hI⟩ := h.map
  exact ⟨hg.cell h.cell (by simpa using hd), ⟨D, m, hm, hM.kept hg (by simpa using hb), hI⟩, h.rise, h.keys⟩
theorem DirAt.mono {w : World} {d b K K2 : Nat} {l : List E3} (h : DirAt w d b K l) (hK : K ≤ K2) : DirAt w d b K2 l := by
  obtain ⟨D, m, hm, hM, hI⟩ := h.map
  exact ⟨h.cell, ⟨D, m, by omega, hM, hI⟩, h.rise, h.keys⟩
theorem par_size (p : ByteArray) : (par p).size ≤ 1000 := by
  unfold par
  split
  · simp
  · have := pth_size _ (okN_dropLast (nm_ok p)); omega
theorem okP_ne {p : ByteArray} (hv : vld p = true) (hr : p ≠ pth []) : okP p := ⟨hv, fun e => hr ((root_iff hv).2 e)⟩

/-- A reply. -/
structure Rep where
  err : Int
  val : ByteArray
  ver : Int
  names : List ByteArray
def bad (n : Int) : Rep := ⟨n, { data := #[] }, 0, []⟩
abbrev repV (r : Rep) (v : Value) : Value := .agg #[.int .i64 r.err, .string r.val, .int .i64 r.ver, v]
def RepP (r : Rep) (w : World) (e : Ending) (w' : World) : Prop := ∃ v, Hid (e = .returned (repV r v)) ∧ Own1 w' w.heap.size 9 v (r.names.map .string)
theorem RepP.no (r : Rep) (hn : r.names = []) (w w' : World) : RepP r w (.returned (repV r (.slice none 0 0))) w' := ⟨_, rfl, by rw [hn]; exact Own1.nil _ _ _⟩
abbrev cmdV (cl sq op : Int) (p v : ByteArray) (ver a b : Int) : Value := .agg #[.int .i64 cl, .int .i64 sq, .int .i64 op, .string p, .string v, .int .i64 ver, .int .i64 a, .int .i64 b]
/-- The box of a command and the box of a reply, side by side. -/
abbrev box2 (w : World) (cl sq op : Int) (p v : ByteArray) (ver a b : Int) : World := (w.alloc (.cells #[.int .i64 cl, .int .i64 sq, .int .i64 op, .string p, .string v, .int .i64 ver, .int .i64 a, .int .i64 b] 40)).alloc (.cells #[.int .i64 0, .string { data := #[] }, .int .i64 0, .slice none 0 0] 36)
structure BX (N : Nat) (cl sq op : Int) (p v : ByteArray) (ver a b : Int) (w : World) : Prop where
  c : w.cell? ⟨N, 0, none⟩ = some (.int .i64 cl) ∧ w.cell? ⟨N, 1, none⟩ = some (.int .i64 sq) ∧ w.cell? ⟨N, 2, none⟩ = some (.int .i64 op) ∧ w.cell? ⟨N, 3, none⟩ = some (.string p) ∧ w.cell? ⟨N, 4, none⟩ = some (.string v) ∧ w.cell? ⟨N, 5, none⟩ = some (.int .i64 ver) ∧ w.cell? ⟨N, 6, none⟩ = some (.int .i64 a) ∧ w.cell? ⟨N, 7, none⟩ = some (.int .i64 b)
  r : w.cell? ⟨N + 1, 0, none⟩ = some (.int .i64 0) ∧ w.cell? ⟨N + 1, 1, none⟩ = some (.string { data := #[] }) ∧ w.cell? ⟨N + 1, 2, none⟩ = some (.int .i64 0) ∧ w.cell? ⟨N + 1, 3, none⟩ = some (.slice none 0 0)
  f : (∀ o, w.frozen? ⟨N, o, none⟩ = false) ∧ ∀ o, w.frozen? ⟨N + 1, o, none⟩ = false
  z : N + 2 ≤ w.heap.size
theorem BX.mk0 (w : World) (cl sq op : Int) (p v : ByteArray) (ver a b : Int) : BX w.heap.size cl sq op p v ver a b (box2 w cl sq op p v ver a b) := by
  refine ⟨?_, ?_, ?_, by simp⟩ <;> simp [go_sem]
theorem BX.out {N : Nat} {cl sq op : Int} {p v : ByteArray} {ver a b : Int} {w w' : World} {k : Nat} (h : BX N cl sq op p v ver a b w) (hg : w.grownBy w' (some k)) (hk : k < N) : BX N cl sq op p v ver a b w' := by
  have hz := h.z
  have e0 : ∀ o, w'.cell? ⟨N, o, none⟩ = w.cell? ⟨N, o, none⟩ := fun o => World.cell?_of_block (hg.block N (by omega) (by simp; omega))
  have e1 : ∀ o, w'.cell? ⟨N + 1, o, none⟩ = w.cell? ⟨N + 1, o, none⟩ := fun o => World.cell?_of_block (hg.block (N + 1) (by omega) (by simp; omega))
  have f0 : ∀ o, w'.frozen? ⟨N, o, none⟩ = w.frozen? ⟨N, o, none⟩ := fun o => World.frozen?_of_block (hg.block N (by omega) (by simp; omega))
  have f1 : ∀ o, w'.frozen? ⟨N + 1, o, none⟩ = w.frozen? ⟨N + 1, o, none⟩ := fun o => World.frozen?_of_block (hg.block (N + 1) (by omega) (by simp; omega))
  refine ⟨?_, ?_, ⟨fun o => (f0 o).trans (h.f.1 o), fun o => (f1 o).trans (h.f.2 o)⟩, Nat.le_trans hz hg.size⟩
  · simp only [e0]; exact h.c
  · simp only [e1]; exact h.r
theorem BX.below {N : Nat} {cl sq op : Int} {p v : ByteArray} {ver a b : Int} {w w' : World} (h : BX N cl sq op p v ver a b w) (hb : Below w.heap.size w w') : BX N cl sq op p v ver a b w' := by
  have hz := h.z
  have e0 : ∀ o, w'.cell? ⟨N, o, none⟩ = w.cell? ⟨N, o, none⟩ := fun o => hb.cell (p := ⟨N, o, none⟩) (by simp; omega)
  have e1 : ∀ o, w'.cell? ⟨N + 1, o, none⟩ = w.cell? ⟨N + 1, o, none⟩ := fun o => hb.cell (p := ⟨N + 1, o, none⟩) (by simp; omega)
  have f0 : ∀ o, w'.frozen? ⟨N, o, none⟩ = w.frozen? ⟨N, o, none⟩ := fun o => hb.frozen (p := ⟨N, o, none⟩) (by simp; omega)
  have f1 : ∀ o, w'.frozen? ⟨N + 1, o, none⟩ = w.frozen? ⟨N + 1, o, none⟩ := fun o => hb.frozen (p := ⟨N + 1, o, none⟩) (by simp; omega)
  refine ⟨?_, ?_, ⟨fun o => (f0 o).trans (h.f.1 o), fun o => (f1 o).trans (h.f.2 o)⟩, Nat.le_trans hz hb.size⟩
  · simp only [e0]; exact h.c
  · simp only [e1]; exact h.r
theorem box2_below (w : World) (cl sq op : Int) (p v : ByteArray) (ver a b : Int) : Below w.heap.size w (box2 w cl sq op p v ver a b) := ((Below.refl _ _).alloc (Nat.le_refl _) _).alloc (by simp) _
theorem failed_any (n : Int) (w : World) : Calls Tryz.prog 37 #[.int .i64 n] w fun e w' => e = .returned (repV (bad n) (.slice none 0 0)) ∧ Below w.heap.size w w' := by
  go_enter Tryz.func37, Tryz.ntmps37
  go_wp2
  exact bodyPost_ret (v := repV (bad n) (.slice none 0 0)) (by simp [results, Tryz.results37, go_sem, bad]) rfl ⟨rfl, (Below.refl _ _).alloc (Nat.le_refl _) _⟩
end Go.Proofs.YtodcmhmankmaoaaGreat
namespace Go.Proofs.YtodcmhmankmaoaaGreat
open Go.RowKit Go.Sort
open Go.WideMaps
set_option linter.unusedSimpArgs false
set_option linter.unusedVariables false

def rgt (o : Int) (p v : ByteArray) : Bool := vld p && (if o = 1 then decide (v.size ≤ 64) else if o = 3 ∨ o = 6 then decide (v.size ≤ 64) && decide (p ≠ pth []) else if o = 2 then decide (p ≠ pth []) else true)
set_option maxHeartbeats 1000000 in
theorem right_any (cl sq op : Int) (p v : ByteArray) (ver a b : Int) (w : World) (hp : p.size ≤ 1000) (hm : ML w) :
    Calls Tryz.prog 36 #[cmdV cl sq op p v ver a b] w fun e w' => e = .returned (.bool (rgt op p v)) ∧ Below w.heap.size w w' := by
  obtain ⟨X, hX⟩ : ∃ X, w.alloc (.cells #[.int .i64 cl, .int .i64 sq, .int .i64 op, .string p, .string v, .int .i64 ver, .int .i64 a, .int .i64 b] 40) = X := ⟨_, rfl⟩
  have hB : Below w.heap.size w X := by rw [← hX]; exact (Below.refl _ _).alloc (Nat.le_refl _) _
  have cV := valid_any p X hp (hm.below hB)
  have k2 : X.cell? ⟨w.heap.size, 2, none⟩ = some (.int .i64 op) := by rw [← hX]; simp [go_sem]
  have k3 : X.cell? ⟨w.heap.size, 3, none⟩ = some (.string p) := by rw [← hX]; simp [go_sem]
  have k4 : X.cell? ⟨w.heap.size, 4, none⟩ = some (.string v) := by rw [← hX]; simp [go_sem]
  have hz : w.heap.size < X.heap.size := by rw [← hX]; simp
  have K2 := Lib.hid k2
  have K3 := Lib.hid k3
  have K4 := Lib.hid k4
  have HB := Lib.hid hB
  have HR := Lib.hid (eqRoot p)
  have HZ := Lib.hid hz
  have HX := Lib.hid hX
  obtain ⟨V, hV⟩ : ∃ V, vld p = V := ⟨_, rfl⟩
  rw [hV] at cV
  have HV := Lib.hid hV
  clear hB k2 k4 hz hV hm hp
  go_enter Tryz.func36, Tryz.ntmps36
  go_wp2_with fail
  refine cV.mono ?_
  rintro e w1 ⟨rfl, hb⟩
  have k2 := (hb.cell (p := ⟨w.heap.size, 2, none⟩) HZ.out).trans K2.out
  have k3 := (hb.cell (p := ⟨w.heap.size, 3, none⟩) HZ.out).trans K3.out
  have k4 := (hb.cell (p := ⟨w.heap.size, 4, none⟩) HZ.out).trans K4.out
  have HB1 := Lib.hid (below_self HB.out hb)
  clear hb cV hX HX K2 K3 K4
  cases V with
  | false =>
    go_wp2
    go_ret
    exact ⟨by simp [rgt, HV.out], HB1.out⟩
  | true =>
    by_cases h1 : op = 1
    · subst h1
      go_wp2
      go_ret
      exact ⟨by simp [rgt, HV.out] <;> omega, HB1.out⟩
    by_cases h3 : op = 3
    · subst h3
      obtain ⟨B, hB⟩ : ∃ B, decide (p = pth []) = B := ⟨_, rfl⟩
      have q1 := HR.out
      rw [hB] at q1
      have HBB := Lib.hid hB
      clear hB
      by_cases hv : v.size ≤ 64
      · have HE : Hid (rgt 3 p v = !B) := Lib.hid (by simp [rgt, HV.out, hv, ← HBB.out])
        have hv2 : (v.size : Int) ≤ 64 := by omega
        have hv3 : decide ((v.size : Int) ≤ 64) = true := decide_eq_true hv2
        cases B
        all_goals
          go_wp2
          go_ret
          exact ⟨by rw [HE.out]; rfl, HB1.out⟩
      · have HE : Hid (rgt 3 p v = false) := Lib.hid (by simp [rgt, HV.out, hv])
        have hv2 : ¬ (v.size : Int) ≤ 64 := by omega
        have hv3 : decide ((v.size : Int) ≤ 64) = false := decide_eq_false hv2
        clear hv
        go_wp2
        go_ret
        exact ⟨by rw [HE.out]; rfl, HB1.out⟩
    by_cases h6 : op = 6
    · subst h6
      obtain ⟨B, hB⟩ : ∃ B, decide (p = pth []) = B := ⟨_, rfl⟩
      have q1 := HR.out
      rw [hB] at q1
      have HBB := Lib.hid hB
      clear hB
      by_cases hv : v.size ≤ 64
      · have HE : Hid (rgt 6 p v = !B) := Lib.hid (by simp [rgt, HV.out, hv, ← HBB.out])
        have hv2 : (v.size : Int) ≤ 64 := by omega
        have hv3 : decide ((v.size : Int) ≤ 64) = true := decide_eq_true hv2
        cases B
        all_goals
          go_wp2
          go_ret
          exact ⟨by rw [HE.out]; rfl, HB1.out⟩
      · have HE : Hid (rgt 6 p v = false) := Lib.hid (by simp [rgt, HV.out, hv])
        have hv2 : ¬ (v.size : Int) ≤ 64 := by omega
        have hv3 : decide ((v.size : Int) ≤ 64) = false := decide_eq_false hv2
        clear hv
        go_wp2
        go_ret
        exact ⟨by rw [HE.out]; rfl, HB1.out⟩
    by_cases h2 : op = 2
    · subst h2
      have q1 := HR.out
      obtain ⟨B, hB⟩ : ∃ B, decide (p = pth []) = B := ⟨_, rfl⟩
      rw [hB] at q1
      have HBB := Lib.hid hB
      clear hB h1 h3 h6
      cases B
      all_goals
        go_wp2
        go_ret
        exact ⟨by simpa [rgt, HV.out] using HBB.out, HB1.out⟩
    · have g1 : (op == 1) = false := by simpa using h1
      have g2 : (op == 2) = false := by simpa using h2
      have g3 : (op == 3) = false := by simpa using h3
      have g6 : (op == 6) = false := by simpa using h6
      have HE : Hid (rgt op p v = true) := Lib.hid (by simp [rgt, HV.out, h1, h2, h3, h6])
      clear h1 h2 h3 h6
      go_wp2
      go_ret
      exact ⟨by rw [HE.out]; rfl, HB1.out⟩
end Go.Proofs.YtodcmhmankmaoaaGreat
namespace Go.Proofs.YtodcmhmankmaoaaGreat
open Go.RowKit Go.Sort
open Go.WideMaps
set_option linter.unusedSimpArgs false
set_option linter.unusedVariables false

/-- What an operation comes to. -/
def AppP (r : Rep × List E3) (d bk K : Nat) (w : World) (e : Ending) (w' : World) : Prop := RepP r.1 w e w' ∧ DirAt w' d bk (K + 1) r.2 ∧ w.grownBy w' (some bk)
def crD (l : List E3) (p v : ByteArray) : Rep × List E3 := if thrD l p then (bad 3, l) else if thrD l (par p) then (⟨0, { data := #[] }, 1, []⟩, putD l p v 1) else (bad 2, l)
theorem below4 {w w2 : World} {N : Nat} (h : Below N w w2) (x y z u : Value) : Below N w ((((w2.setCell ⟨N + 1, 0, none⟩ x).setCell ⟨N + 1, 1, none⟩ y).setCell ⟨N + 1, 2, none⟩ z).setCell ⟨N + 1, 3, none⟩ u) :=
  (((h.setCell (by simp) _).setCell (by simp) _).setCell (by simp) _).setCell (by simp) _
theorem AppP.bad {n : Int} {l : List E3} {d bk K : Nat} {w w' : World} (hd : DirAt w d bk K l) (hb : Below w.heap.size w w') (v : Value) (hv : v = repV (bad n) (.slice none 0 0)) : AppP (bad n, l) d bk K w (.returned v) w' := by
  subst hv
  exact ⟨RepP.no _ rfl _ _, (hd.below hb).mono (Nat.le_succ _), outB hb⟩
theorem outN {w w1 w2 : World} {b : Nat} (h : w.grownBy w1 (some b)) (k : Below w.heap.size w1 w2) : w.grownBy w2 (some b) :=
  ⟨k.os.trans h.os, k.tape.trans h.tape, k.output.trans h.output, Nat.le_trans h.size k.size, fun i hi hn => (k.block i hi).trans (h.block i hi hn)⟩
theorem DirAt.low {w w' : World} {d b K N : Nat} {l : List E3} (h : DirAt w d b K l) (hb : Below N w w') (hd : d < N) (hbN : b < N) : DirAt w' d b K l := by
  obtain ⟨D, m, hm, ⟨es, ck, hh, hr⟩, hI⟩ := h.map
  exact ⟨(hb.cell (p := ⟨d, 0, none⟩) hd).trans h.cell, ⟨D, m, hm, ⟨es, ck, (hb.block b hbN).trans hh, hr⟩, hI⟩, h.rise, h.keys⟩
theorem AppP.ok {r : Rep} {l : List E3} {d bk K : Nat} {w w4 w5 : World} (hd : DirAt w4 d bk (K + 1) l) (hg : w.grownBy w4 (some bk)) (hlt : d < w.heap.size ∧ bk < w.heap.size) (hb : Below w.heap.size w4 w5) (hn : r.names = []) (v : Value) (hv : v = repV r (.slice none 0 0)) : AppP (r, l) d bk K w (.returned v) w5 := by
  subst hv
  exact ⟨RepP.no _ hn _ _, hd.low hb hlt.1 hlt.2, outN hg hb⟩
set_option maxRecDepth 100000 in
set_option maxHeartbeats 1000000 in
theorem create_any (d bk K : Nat) (l : List E3) (cl sq op : Int) (p v : ByteArray) (ver a b : Int) (w : World) (hd : DirAt w d bk K l) (hK : K ≤ 1000000) (hp : p.size ≤ 1000) (hv : vld p = true) (hm : ML w) :
    Calls Tryz.prog 61 #[dP d, cmdV cl sq op p v ver a b] w (AppP (crD l p v) d bk K w) := by
  obtain ⟨X, hX⟩ : ∃ X, box2 w cl sq op p v ver a b = X := ⟨_, rfl⟩
  have hB : Below w.heap.size w X := by rw [← hX]; exact box2_below ..
  have hBX : BX w.heap.size cl sq op p v ver a b X := by rw [← hX]; exact BX.mk0 ..
  have HD := Lib.hid hd
  have HDX := Lib.hid (hd.below hB)
  have HB := Lib.hid hB
  have HBX := Lib.hid hBX
  have HM := Lib.hid (hm.below hB)
  have HV := Lib.hid hv
  have HP := Lib.hid hp
  obtain ⟨c0, c1, c2, c3, c4, c5, c6, c7⟩ := hBX.c
  obtain ⟨r0, r1, r2, r3⟩ := hBX.r
  clear hd hB hBX hm hv hp c0 c1 c2 c4 c5 c6 c7 r0 r1 r2 r3
  go_enter Tryz.func61, Tryz.ntmps61
  go_wp2_with fail
  refine (there_any d bk K l p X HDX.out HP.out).mono ?_
  rintro e w1 ⟨rfl, hb⟩
  have HB1 := Lib.hid (below_self HB.out hb)
  have HD1 := Lib.hid (HDX.out.below hb)
  have HBX1 := Lib.hid (HBX.out.below hb)
  have HM1 := Lib.hid (HM.out.below hb)
  clear hb HDX HBX HM c3 hX
  obtain ⟨T, hT⟩ : ∃ T, thrD l p = T := ⟨_, rfl⟩
  rw [hT]
  have HT := Lib.hid hT
  clear hT
  cases T with
  | true =>
    go_wp2_with fail
    refine (failed_any 3 w1).mono ?_
    rintro e w2 ⟨rfl, hb⟩
    have HB2 := Lib.hid (below_self HB1.out hb)
    have HBX2 := HBX1.out.below hb
    obtain ⟨r0, r1, r2, r3⟩ := HBX2.r
    obtain ⟨f0, f1⟩ := HBX2.f
    have z2 := HBX2.z
    clear hb HBX2
    go_wp2
    refine bodyPost_ret (v := repV (bad 3) (.slice none 0 0)) (by simp [results, Tryz.results61, go_sem, bad, r0, r1, r2, r3, f1, show w.heap.size + 1 < w2.heap.size by omega]) rfl ?_
    rw [crD, if_pos HT.out]
    exact AppP.bad HD.out (below4 HB2.out _ _ _ _) _ rfl
  | false =>
    have c3 := HBX1.out.c.2.2.2.1
    go_wp2_with fail
    refine (parent_any p w1 HP.out HM1.out).mono ?_
    rintro e w2 ⟨rfl, hb⟩
    have HB2 := Lib.hid (below_self HB1.out hb)
    have HD2 := Lib.hid (HD1.out.below hb)
    have HBX2 := Lib.hid (HBX1.out.below hb)
    clear hb HB1 HD1 HBX1 HM1 c3
    go_wp2_with fail
    refine (there_any d bk K l (par p) w2 HD2.out (par_size p)).mono ?_
    rintro e w3 ⟨rfl, hb⟩
    have HB3 := Lib.hid (below_self HB2.out hb)
    have HD3 := Lib.hid (HD2.out.below hb)
    have HBX3 := Lib.hid (HBX2.out.below hb)
    clear hb HB2 HD2 HBX2
    obtain ⟨U, hU⟩ : ∃ U, thrD l (par p) = U := ⟨_, rfl⟩
    rw [hU]
    have HU := Lib.hid hU
    clear hU
    cases U with
    | false =>
      go_wp2_with fail
      refine (failed_any 2 w3).mono ?_
      rintro e w4 ⟨rfl, hb⟩
      have HB4 := Lib.hid (below_self HB3.out hb)
      have HBX4 := HBX3.out.below hb
      obtain ⟨r0, r1, r2, r3⟩ := HBX4.r
      obtain ⟨f0, f1⟩ := HBX4.f
      have z2 := HBX4.z
      clear hb HBX4
      go_wp2
      refine bodyPost_ret (v := repV (bad 2) (.slice none 0 0)) (by simp [results, Tryz.results61, go_sem, bad, r0, r1, r2, r3, f1, show w.heap.size + 1 < w4.heap.size by omega]) rfl ?_
      rw [crD, if_neg (by rw [HT.out]; simp), if_neg (by rw [HU.out]; simp)]
      exact AppP.bad HD.out (below4 HB4.out _ _ _ _) _ rfl
    | true =>
      obtain ⟨D, m, hm, hM, hI⟩ := HD3.out.map
      have HMX := Lib.hid hM
      have HI := Lib.hid hI
      have HMM := Lib.hid hm
      have dc := HD3.out.cell
      have c3 := HBX3.out.c.2.2.2.1
      have c4 := HBX3.out.c.2.2.2.2.1
      have HKEY := Lib.hid (kS_key HP.out)
      have hm' : m < maxLen := by unfold maxLen; omega
      have HMAX := Lib.hid hm'
      clear hm hM hI hm'
      go_wp2_with fail
      go_still_tail 9, (by kernel_rfl)
      refine wpList_mapUpdate_own _ rfl _ _ _ 69 rfl 9 68 strK Tryz.underlying69 heldElem bk m D rfl HMX.out.drew HMAX.out (.string p) (hV v 1) (kS p) rfl rfl HKEY.out (hD (v, 1)) [] (heldElem_mk _ _) ?_
      intro w4 hown hg
      have hg2 : w3.grownBy w4 (some bk) := ⟨hg.os, hg.tape, hg.output, hg.size, hg.block⟩
      have hlt := HD.out.lt
      have HBX4 := HBX3.out.out hg2 hlt.2
      have HO4 := Lib.hid hown
      have HG4 := Lib.hid (outT (outB (b := bk) HB3.out) hg2)
      have hdc : w4.cell? ⟨d, 0, none⟩ = some (.map (some bk)) := hg2.cell dc (by simpa using HD.out.ne)
      have HDC := Lib.hid hdc
      obtain ⟨r0, r1, r2, r3⟩ := HBX4.r
      obtain ⟨f0, f1⟩ := HBX4.f
      have z2 := HBX4.z
      clear hown hg hg2 hlt HBX4 hdc dc c3 c4
      go_wp2
      refine bodyPost_ret (v := repV ⟨0, { data := #[] }, 1, []⟩ (.slice none 0 0)) (by simp [results, Tryz.results61, go_sem, bad, r0, r1, r2, r3, f1, show w.heap.size + 1 < w4.heap.size by omega]) rfl ?_
      have hne : p ≠ pth [] := by
        intro h
        have := HT.out
        rw [thrD, h] at this
        simp at this
      have ho : okP p := okP_ne HV.out hne
      rw [crD, if_neg (by rw [HT.out]; simp), if_pos HU.out]
      have hlt := HD.out.lt
      have hD4 : DirAt w4 d bk (K + 1) (putD l p v 1) := ⟨HDC.out, ⟨_, m + 1, by have := HMM.out; omega, HO4.out, HI.out.put HD.out.rise HD.out.keys ho v 1⟩, HD.out.rise.put p v 1, HD.out.keys.put ho v 1⟩
      exact AppP.ok hD4 HG4.out hlt (below4 (Below.refl _ w4) _ _ _ _) rfl _ rfl
end Go.Proofs.YtodcmhmankmaoaaGreat
namespace Go.Proofs.YtodcmhmankmaoaaGreat
open Go.RowKit Go.Sort
open Go.WideMaps
set_option linter.unusedSimpArgs false
set_option linter.unusedVariables false

theorem look_run {w : World} {b m : Nat} {D : DataW Unit} {l : List E3} (hM : w.ownsMap (H := Unit) Tryz.prog 9 heldElem b m D) (hI : DirIs D l) {p : ByteArray} (hp : p.size ≤ 1000) :
    (Instr.lookup 69 (.map (some b)) (.string p) false).run Tryz.prog w = .ok (hV ((fndD l p).getD zH).1 ((fndD l p).getD zH).2) w := by
  obtain ⟨v, ps, hr, hv⟩ := hM.lookup strK Tryz.underlying69 (zeroH w) (heldElem_mk _ _) (kS_key hp)
  obtain ⟨u, n, rfl, hz⟩ := heldElem_inv hv
  have e := hI.look p
  have h1 := congrArg Prod.fst hz
  change D.atKey (kS p) (hD zH) = hD (u, n) at h1
  rw [e] at h1
  have := hD_inj h1
  rw [this]
  exact hr
theorem wpList_look {ops : Array Oper} {rest : List Oper} {o : Oper} {a : Act} {w : World} {Q : Exit → Act → World → Prop} (hgd : o.guard = none) (m x : Operand) (ho : o.op = .lookup 69 m x false) (b : Nat) (hm : a.eval m = .map (some b)) (p : ByteArray) (hx : a.eval x = .string p)
    (v : Value) (hr : (Instr.lookup 69 (.map (some b)) (.string p) false).run Tryz.prog w = .ok v w) (h : wpList Tryz.prog ops Q rest (a.put o.dst v) w) : wpList Tryz.prog ops Q (o :: rest) a w := by
  refine wpList_value (by simp [Region.wanted, hgd]) v w ?_ h
  unfold execOp
  simp only [ho, hm, hx, Sem.run_bind, hr, Result.andThen_ok, Sem.run_pure]
theorem run_ver (u : ByteArray) (n : Int) (w : World) : (Instr.field 68 (.agg #[.string u, .int .i64 n]) 1).run Tryz.prog w = .ok (.int .i64 n) w := by kernel_rfl
def setD (l : List E3) (p v : ByteArray) : Rep × List E3 := match fndD l p with
  | none => (bad 2, l)
  | some x => (⟨0, { data := #[] }, x.2 + 1, []⟩, putD l p v (x.2 + 1))
theorem thrD_no {l : List E3} {p : ByteArray} (h : p ≠ pth []) : thrD l p = (fndD l p).isSome := by simp [thrD, h]
set_option maxRecDepth 100000 in
set_option maxHeartbeats 1000000 in
theorem set_any (d bk K : Nat) (l : List E3) (cl sq op : Int) (p v : ByteArray) (ver a b : Int) (w : World) (hd : DirAt w d bk K l) (hK : K ≤ 1000000) (hp : p.size ≤ 1000) (hv : vld p = true) (hr : p ≠ pth []) (hver : ∀ e ∈ l, 0 ≤ e.2.2 ∧ e.2.2 ≤ 4000000000000) :
    Calls Tryz.prog 63 #[dP d, cmdV cl sq op p v ver a b] w (AppP (setD l p v) d bk K w) := by
  obtain ⟨X, hX⟩ : ∃ X, box2 w cl sq op p v ver a b = X := ⟨_, rfl⟩
  have hB : Below w.heap.size w X := by rw [← hX]; exact box2_below ..
  have hBX : BX w.heap.size cl sq op p v ver a b X := by rw [← hX]; exact BX.mk0 ..
  have HD := Lib.hid hd
  have HDX := Lib.hid (hd.below hB)
  have HB := Lib.hid hB
  have HBX := Lib.hid hBX
  have HV := Lib.hid hv
  have HP := Lib.hid hp
  have HVER := Lib.hid hver
  have HR := Lib.hid hr
  have c3 := hBX.c.2.2.2.1
  clear hd hB hBX hv hp hver hr
  go_enter Tryz.func63, Tryz.ntmps63
  go_wp2_with fail
  refine (there_any d bk K l p X HDX.out HP.out).mono ?_
  rintro e w1 ⟨rfl, hb⟩
  have HB1 := Lib.hid (below_self HB.out hb)
  have HD1 := Lib.hid (HDX.out.below hb)
  have HBX1 := Lib.hid (HBX.out.below hb)
  clear hb HDX HBX c3 hX
  rw [thrD_no HR.out]
  cases hF : fndD l p with
  | none =>
    have HF := Lib.hid hF
    clear hF
    rw [show (none : Option (ByteArray × Int)).isSome = false from rfl]
    go_wp2_with fail
    refine (failed_any 2 w1).mono ?_
    rintro e w2 ⟨rfl, hb⟩
    have HB2 := Lib.hid (below_self HB1.out hb)
    have HBX2 := HBX1.out.below hb
    obtain ⟨r0, r1, r2, r3⟩ := HBX2.r
    obtain ⟨f0, f1⟩ := HBX2.f
    have z2 := HBX2.z
    clear hb HBX2
    go_wp2
    refine bodyPost_ret (v := repV (bad 2) (.slice none 0 0)) (by simp [results, Tryz.results63, go_sem, bad, r0, r1, r2, r3, f1, show w.heap.size + 1 < w2.heap.size by omega]) rfl ?_
    rw [setD, HF.out]
    exact AppP.bad HD.out (below4 HB2.out _ _ _ _) _ rfl
  | some x =>
    obtain ⟨u, n⟩ := x
    have HF := Lib.hid hF
    have hn := HVER.out _ ((fndD_some HD.out.rise).1 hF)
    have n1 : 0 ≤ n := hn.1
    have n2 : n ≤ 4000000000000 := hn.2
    clear hF hn
    rw [show (some (u, n) : Option (ByteArray × Int)).isSome = true from rfl]
    obtain ⟨D, m, hm, hM, hI⟩ := HD1.out.map
    have hrun : (Instr.lookup 69 (.map (some bk)) (.string p) false).run Tryz.prog w1.drew = .ok (hV u n) w1.drew := by
      have := look_run hM.drew hI HP.out
      rw [HF.out] at this
      exact this
    have HRUN := Lib.hid hrun
    have HMX := Lib.hid hM
    have HI := Lib.hid hI
    have HMM := Lib.hid hm
    have dc := HD1.out.cell
    have c3 := HBX1.out.c.2.2.2.1
    have c4 := HBX1.out.c.2.2.2.2.1
    have HKEY := Lib.hid (kS_key HP.out)
    have hm' : m < maxLen := by unfold maxLen; omega
    have HMAX := Lib.hid hm'
    clear hm hM hI hm' hrun
    have hfd := run_ver u n
    go_wp2_with fail
    go_still_tail 6, (by kernel_rfl)
    refine wpList_look rfl _ _ rfl bk rfl p rfl (.agg #[.string u, .int .i64 n]) HRUN.out ?_
    go_wp2_with fail
    have hbd : Below w1.heap.size w1 w1.drew := (Below.refl _ _).drew
    have HBd := Lib.hid (below_self HB1.out hbd)
    have HDd := Lib.hid (HD1.out.below hbd)
    have HBXd := Lib.hid (HBX1.out.below hbd)
    have HMd : Hid (w1.drew.ownsMap (H := Unit) Tryz.prog 9 heldElem bk m D) := Lib.hid HMX.out.drew
    clear HRUN hbd dc c3 c4 HMX HBX1 HD1 HB1 hfd
    generalize w1.drew = w3 at *
    have dc := HDd.out.cell
    have c3 := HBXd.out.c.2.2.2.1
    have c4 := HBXd.out.c.2.2.2.2.1
    go_still_tail 10, (by kernel_rfl)
    refine wpList_mapUpdate_own _ rfl _ _ _ 69 rfl 9 68 strK Tryz.underlying69 heldElem bk m D rfl HMd.out.drew HMAX.out (.string p) (hV v (n + 1)) (kS p) rfl rfl HKEY.out (hD (v, n + 1)) [] (heldElem_mk _ _) ?_
    intro w4 hown hg
    have hg2 : w3.grownBy w4 (some bk) := ⟨hg.os, hg.tape, hg.output, hg.size, hg.block⟩
    have hlt := HD.out.lt
    have HBX4 := HBXd.out.out hg2 hlt.2
    have HO4 := Lib.hid hown
    have HG4 := Lib.hid (outT (outB (b := bk) HBd.out) hg2)
    have hdc : w4.cell? ⟨d, 0, none⟩ = some (.map (some bk)) := hg2.cell dc (by simpa using HD.out.ne)
    have HDC := Lib.hid hdc
    obtain ⟨r0, r1, r2, r3⟩ := HBX4.r
    obtain ⟨f0, f1⟩ := HBX4.f
    have z2 := HBX4.z
    clear hown hg hg2 hlt HBX4 hdc dc c3 c4
    go_wp2
    refine bodyPost_ret (v := repV ⟨0, { data := #[] }, n + 1, []⟩ (.slice none 0 0)) (by simp [results, Tryz.results63, go_sem, bad, r0, r1, r2, r3, f1, show w.heap.size + 1 < w4.heap.size by omega]) rfl ?_
    have ho : okP p := okP_ne HV.out HR.out
    rw [setD, HF.out]
    have hlt := HD.out.lt
    have hD4 : DirAt w4 d bk (K + 1) (putD l p v (n + 1)) := ⟨HDC.out, ⟨_, m + 1, by have := HMM.out; omega, HO4.out, HI.out.put HD.out.rise HD.out.keys ho v (n + 1)⟩, HD.out.rise.put p v (n + 1), HD.out.keys.put ho v (n + 1)⟩
    exact AppP.ok hD4 HG4.out hlt (below4 (Below.refl _ w4) _ _ _ _) rfl _ rfl
end Go.Proofs.YtodcmhmankmaoaaGreat
namespace Go.Proofs.YtodcmhmankmaoaaGreat
open Go.RowKit Go.Sort
open Go.WideMaps
set_option linter.unusedSimpArgs false
set_option linter.unusedVariables false

def gtD (l : List E3) (p : ByteArray) : Rep × List E3 := if thrD l p then (⟨0, ((fndD l p).getD zH).1, ((fndD l p).getD zH).2, []⟩, l) else (bad 2, l)
set_option maxRecDepth 100000 in
set_option maxHeartbeats 1000000 in
theorem get_any (d bk K : Nat) (l : List E3) (cl sq op : Int) (p v : ByteArray) (ver a b : Int) (w : World) (hd : DirAt w d bk K l) (hp : p.size ≤ 1000) :
    Calls Tryz.prog 64 #[dP d, cmdV cl sq op p v ver a b] w (AppP (gtD l p) d bk K w) := by
  obtain ⟨X, hX⟩ : ∃ X, box2 w cl sq op p v ver a b = X := ⟨_, rfl⟩
  have hB : Below w.heap.size w X := by rw [← hX]; exact box2_below ..
  have hBX : BX w.heap.size cl sq op p v ver a b X := by rw [← hX]; exact BX.mk0 ..
  have HD := Lib.hid hd
  have HDX := Lib.hid (hd.below hB)
  have HB := Lib.hid hB
  have HBX := Lib.hid hBX
  have HP := Lib.hid hp
  have c3 := hBX.c.2.2.2.1
  clear hd hB hBX hp
  go_enter Tryz.func64, Tryz.ntmps64
  go_wp2_with fail
  refine (there_any d bk K l p X HDX.out HP.out).mono ?_
  rintro e w1 ⟨rfl, hb⟩
  have HB1 := Lib.hid (below_self HB.out hb)
  have HD1 := Lib.hid (HDX.out.below hb)
  have HBX1 := Lib.hid (HBX.out.below hb)
  clear hb HDX HBX c3 hX
  obtain ⟨T, hT⟩ : ∃ T, thrD l p = T := ⟨_, rfl⟩
  rw [hT]
  have HT := Lib.hid hT
  clear hT
  cases T with
  | false =>
    go_wp2_with fail
    refine (failed_any 2 w1).mono ?_
    rintro e w2 ⟨rfl, hb⟩
    have HB2 := Lib.hid (below_self HB1.out hb)
    have HBX2 := HBX1.out.below hb
    obtain ⟨r0, r1, r2, r3⟩ := HBX2.r
    obtain ⟨f0, f1⟩ := HBX2.f
    have z2 := HBX2.z
    clear hb HBX2
    go_wp2
    refine bodyPost_ret (v := repV (bad 2) (.slice none 0 0)) (by simp [results, Tryz.results64, go_sem, bad, r0, r1, r2, r3, f1, show w.heap.size + 1 < w2.heap.size by omega]) rfl ?_
    rw [gtD, if_neg (by rw [HT.out]; simp)]
    exact AppP.bad HD.out (below4 HB2.out _ _ _ _) _ rfl
  | true =>
    obtain ⟨u, hu⟩ : ∃ u, ((fndD l p).getD zH).1 = u := ⟨_, rfl⟩
    obtain ⟨n, hn⟩ : ∃ n, ((fndD l p).getD zH).2 = n := ⟨_, rfl⟩
    obtain ⟨D, m, hm, hM, hI⟩ := HD1.out.map
    have h1 := look_run hM.drew hI HP.out
    have h2 := look_run (hM.drew.alloc (.cells #[.string { data := #[] }, .int .i64 0] 68)) hI HP.out
    have h3 := look_run (hM.alloc (.cells #[.string { data := #[] }, .int .i64 0] 68)).drew hI HP.out
    rw [hu, hn] at h1 h2 h3
    have HU := Lib.hid hu
    have HN := Lib.hid hn
    have dc := HD1.out.cell
    have c3 := HBX1.out.c.2.2.2.1
    have z1 := HBX1.out.z
    have dl := HD1.out.lt.1
    have q1 : w.heap.size < w1.heap.size := by omega
    have q2 : w.heap.size + 1 < w1.heap.size := by omega
    have q3 : d < w1.heap.size + 1 := by omega
    have dc2 : (w1.alloc (.cells #[.string { data := #[] }, .int .i64 0] 68)).cell? ⟨d, 0, none⟩ = some (.map (some bk)) := by rw [World.cell?_of_block (Below.heap_alloc _ _ d dl)]; exact dc
    have c32 : (w1.alloc (.cells #[.string { data := #[] }, .int .i64 0] 68)).cell? ⟨w.heap.size, 3, none⟩ = some (.string p) := by rw [World.cell?_of_block (Below.heap_alloc _ _ w.heap.size q1)]; exact c3
    clear hm hM hI hu hn
    go_wp2_with fail
    go_region
    all_goals
      have hbd : Below w1.heap.size w1 (w1.alloc (.cells #[.string u, .int .i64 n] 68)).drew := ((Below.refl _ _).alloc (Nat.le_refl _) _).drew
      have HB2 := Lib.hid (below_self HB1.out hbd)
      have HBX2 := HBX1.out.below hbd
      have k0 : (w1.alloc (.cells #[.string u, .int .i64 n] 68)).drew.cell? ⟨w1.heap.size, 0, none⟩ = some (.string u) := by simp [go_sem]
      have k1 : (w1.alloc (.cells #[.string u, .int .i64 n] 68)).drew.cell? ⟨w1.heap.size, 1, none⟩ = some (.int .i64 n) := by simp [go_sem]
      clear hbd h1 h2 h3 dc c3 z1 q1 q2 q3 dc2 c32 dl
      generalize (w1.alloc (.cells #[.string u, .int .i64 n] 68)).drew = w2 at *
      obtain ⟨r0, r1, r2, r3⟩ := HBX2.r
      obtain ⟨f0, f1⟩ := HBX2.f
      have z2 := HBX2.z
      clear HBX2
      go_wp2
      refine bodyPost_ret (v := repV ⟨0, u, n, []⟩ (.slice none 0 0)) (by simp [results, Tryz.results64, go_sem, bad, r0, r1, r2, r3, f1, show w.heap.size + 1 < w2.heap.size by omega]) rfl ?_
      rw [gtD, if_pos HT.out, HU.out, HN.out]
      exact AppP.ok ((HD.out.below HB2.out).mono (Nat.le_succ _)) (outB HB2.out) HD.out.lt (below4 (Below.refl _ w2) _ _ _ _) rfl _ rfl
end Go.Proofs.YtodcmhmankmaoaaGreat
namespace Go.Proofs.YtodcmhmankmaoaaGreat
open Go.RowKit Go.Sort
open Go.WideMaps
set_option linter.unusedSimpArgs false
set_option linter.unusedVariables false

theorem Own1.lower {w : World} {b b2 e : Nat} {v : Value} {xs : List Value} (h : Own1 w b e v xs) (hb : b2 ≤ b) : Own1 w b2 e v xs := by
  obtain ⟨h1, h2⟩ := h
  refine ⟨h1, ?_⟩
  rcases h2 with h2 | ⟨g, cap, cur, hv, hg, hr⟩
  · exact .inl h2
  · exact .inr ⟨g, cap, cur, hv, Nat.le_trans hb hg, hr⟩
theorem AppP.store {r : Rep × List E3} {d bk K : Nat} {w wk w5 : World} (hB : w.grownBy wk (some bk)) (hz : w.heap.size + 2 ≤ wk.heap.size) (hlt : d < w.heap.size ∧ bk < w.heap.size) {v : Value} (ho : Own1 w5 wk.heap.size 9 v (r.1.names.map .string)) (hd : DirAt w5 d bk (K + 1) r.2) (hg : wk.grownBy w5 (some bk))
    (x y z u : Value) (v2 : Value) (hv : v2 = repV r.1 v) : AppP r d bk K w (.returned v2) ((((w5.setCell ⟨w.heap.size + 1, 0, none⟩ x).setCell ⟨w.heap.size + 1, 1, none⟩ y).setCell ⟨w.heap.size + 1, 2, none⟩ z).setCell ⟨w.heap.size + 1, 3, none⟩ u) := by
  subst hv
  have hb : Below w.heap.size w5 _ := below4 (Below.refl w.heap.size w5) x y z u
  refine ⟨⟨v, rfl, ?_⟩, hd.low hb hlt.1 hlt.2, outN (outT hB hg) hb⟩
  refine Own1.lower (b := wk.heap.size) ?_ (by omega)
  refine ho.keepB fun k hk => ?_
  have hkk := own1_from ho k hk
  rw [Below.heap_setCell _ _ _ k (by simp; omega), Below.heap_setCell _ _ _ k (by simp; omega), Below.heap_setCell _ _ _ k (by simp; omega), Below.heap_setCell _ _ _ k (by simp; omega)]
def casD (l : List E3) (p v : ByteArray) (ver : Int) : Rep × List E3 := if thrD l p && decide (((fndD l p).getD zH).2 ≠ ver) then (⟨5, { data := #[] }, ((fndD l p).getD zH).2, []⟩, l) else setD l p v
set_option maxRecDepth 100000 in
set_option maxHeartbeats 1000000 in
theorem cas_any (d bk K : Nat) (l : List E3) (cl sq op : Int) (p v : ByteArray) (ver a b : Int) (w : World) (hd : DirAt w d bk K l) (hK : K ≤ 1000000) (hp : p.size ≤ 1000) (hv : vld p = true) (hr : p ≠ pth []) (hver : ∀ e ∈ l, 0 ≤ e.2.2 ∧ e.2.2 ≤ 4000000000000) :
    Calls Tryz.prog 66 #[dP d, cmdV cl sq op p v ver a b] w (AppP (casD l p v ver) d bk K w) := by
  obtain ⟨X, hX⟩ : ∃ X, box2 w cl sq op p v ver a b = X := ⟨_, rfl⟩
  have hB : Below w.heap.size w X := by rw [← hX]; exact box2_below ..
  have hBX : BX w.heap.size cl sq op p v ver a b X := by rw [← hX]; exact BX.mk0 ..
  have HD := Lib.hid hd
  have HV := Lib.hid hv
  have HR := Lib.hid hr
  have HVER := Lib.hid hver
  have HD1 := Lib.hid (hd.below hB)
  have HB1 := Lib.hid hB
  have HBX1 := Lib.hid hBX
  have HP := Lib.hid hp
  obtain ⟨u, hu⟩ : ∃ u, ((fndD l p).getD zH).1 = u := ⟨_, rfl⟩
  obtain ⟨n, hn⟩ : ∃ n, ((fndD l p).getD zH).2 = n := ⟨_, rfl⟩
  obtain ⟨D, m, hm, hM, hI⟩ := HD1.out.map
  have h1 := look_run hM.drew hI HP.out
  have h2 := look_run (hM.drew.alloc (.cells #[.string { data := #[] }, .int .i64 0] 68)) hI HP.out
  have h3 := look_run (hM.alloc (.cells #[.string { data := #[] }, .int .i64 0] 68)).drew hI HP.out
  rw [hu, hn] at h1 h2 h3
  have HU := Lib.hid hu
  have HN := Lib.hid hn
  have dc := HD1.out.cell
  have c3 := HBX1.out.c.2.2.2.1
  have z1 := HBX1.out.z
  have dl := HD1.out.lt.1
  have q1 : w.heap.size < X.heap.size := by omega
  have q2 : w.heap.size + 1 < X.heap.size := by omega
  have q3 : d < X.heap.size + 1 := by omega
  have dc2 : (X.alloc (.cells #[.string { data := #[] }, .int .i64 0] 68)).cell? ⟨d, 0, none⟩ = some (.map (some bk)) := by rw [World.cell?_of_block (Below.heap_alloc _ _ d dl)]; exact dc
  have c32 : (X.alloc (.cells #[.string { data := #[] }, .int .i64 0] 68)).cell? ⟨w.heap.size, 3, none⟩ = some (.string p) := by rw [World.cell?_of_block (Below.heap_alloc _ _ w.heap.size q1)]; exact c3
  clear hd hB hBX hp hm hM hI hu hn hv hr hver
  go_enter Tryz.func66, Tryz.ntmps66
  go_wp2_with fail
  go_region
  all_goals
    have hbd : Below X.heap.size X (X.alloc (.cells #[.string u, .int .i64 n] 68)).drew := ((Below.refl _ _).alloc (Nat.le_refl _) _).drew
    have HB2 := Lib.hid (below_self HB1.out hbd)
    have HBX2 := Lib.hid (HBX1.out.below hbd)
    have HD2 := Lib.hid (HD1.out.below hbd)
    have k1 : (X.alloc (.cells #[.string u, .int .i64 n] 68)).drew.cell? ⟨X.heap.size, 1, none⟩ = some (.int .i64 n) := by simp [go_sem]
    have z2 : X.heap.size < (X.alloc (.cells #[.string u, .int .i64 n] 68)).drew.heap.size := by simp
    have K1 := Lib.hid k1
    have Z2 := Lib.hid z2
    clear hbd h1 h2 h3 dc c3 z1 q1 q2 q3 dc2 c32 dl hX k1 z2
    generalize (X.alloc (.cells #[.string u, .int .i64 n] 68)).drew = w2 at *
    have c3 := HBX2.out.c.2.2.2.1
    go_wp2_with fail
    refine (there_any d bk K l p w2 HD2.out HP.out).mono ?_
    rintro e w3 ⟨rfl, hb⟩
    have HB3 := Lib.hid (below_self HB2.out hb)
    have HBX3 := Lib.hid (HBX2.out.below hb)
    have HD3 := Lib.hid (HD2.out.below hb)
    have k1 := (hb.cell (p := ⟨X.heap.size, 1, none⟩) Z2.out).trans K1.out
    obtain ⟨c0, c1, c2, c3, c4, c5, c6, c7⟩ := HBX3.out.c
    clear hb
    obtain ⟨T, hT⟩ : ∃ T, thrD l p = T := ⟨_, rfl⟩
    rw [hT]
    have HT := Lib.hid hT
    clear hT
    cases T with
    | false =>
      have HC := Lib.hid (set_any d bk K l cl sq op p v ver a b w3 HD3.out hK HP.out HV.out HR.out HVER.out)
      obtain ⟨R, hR⟩ : ∃ R, setD l p v = R := ⟨_, rfl⟩
      have HRR := Lib.hid hR
      clear hR
      go_wp2_with fail
      refine HC.out.mono ?_
      rintro e w5 ⟨⟨v5, he, ho⟩, hd5, hg5⟩
      rw [HRR.out] at he ho hd5
      obtain ⟨a5, cc5, hv5⟩ := ho.slice
      obtain ⟨M, hM⟩ : ∃ M, (List.map Value.string R.1.names).length = M := ⟨_, rfl⟩
      rw [hM] at hv5
      subst hv5
      have he2 := he.out
      subst he2
      have HO5 := Lib.hid ho
      have HD5 := Lib.hid hd5
      have HG5 := Lib.hid hg5
      have HBX5 := HBX3.out.out hg5 HD.out.lt.2
      obtain ⟨r0, r1, r2, r3⟩ := HBX5.r
      obtain ⟨f0, f1⟩ := HBX5.f
      have z5 := HBX5.z
      clear ho hd5 hg5 HBX5 he k1 c0 c1 c2 c3 c4 c5 c6 c7 hM
      go_wp2
      refine bodyPost_ret (v := repV R.1 (.slice a5 M cc5)) (by simp [results, Tryz.results66, go_sem, r0, r1, r2, r3, f1, show w.heap.size + 1 < w5.heap.size by omega]) rfl ?_
      have e1 : casD l p v ver = R := by rw [← HRR.out, casD, if_neg (by rw [HT.out]; simp)]
      rw [e1]
      exact AppP.store (outB HB3.out) HBX3.out.z HD.out.lt HO5.out HD5.out HG5.out _ _ _ _ _ rfl
    | true =>
    by_cases hnv : n = ver
    · have g1 : (n == ver) = true := by simpa using hnv
      have g2 : (n != ver) = false := by simpa using hnv
      have HNV := Lib.hid hnv
      clear hnv
      have HC := Lib.hid (set_any d bk K l cl sq op p v ver a b w3 HD3.out hK HP.out HV.out HR.out HVER.out)
      obtain ⟨R, hR⟩ : ∃ R, setD l p v = R := ⟨_, rfl⟩
      have HRR := Lib.hid hR
      clear hR
      go_wp2_with fail
      refine HC.out.mono ?_
      rintro e w5 ⟨⟨v5, he, ho⟩, hd5, hg5⟩
      rw [HRR.out] at he ho hd5
      obtain ⟨a5, cc5, hv5⟩ := ho.slice
      obtain ⟨M, hM⟩ : ∃ M, (List.map Value.string R.1.names).length = M := ⟨_, rfl⟩
      rw [hM] at hv5
      subst hv5
      have he2 := he.out
      subst he2
      have HO5 := Lib.hid ho
      have HD5 := Lib.hid hd5
      have HG5 := Lib.hid hg5
      have HBX5 := HBX3.out.out hg5 HD.out.lt.2
      obtain ⟨r0, r1, r2, r3⟩ := HBX5.r
      obtain ⟨f0, f1⟩ := HBX5.f
      have z5 := HBX5.z
      clear ho hd5 hg5 HBX5 he k1 c0 c1 c2 c3 c4 c5 c6 c7 hM
      go_wp2
      refine bodyPost_ret (v := repV R.1 (.slice a5 M cc5)) (by simp [results, Tryz.results66, go_sem, r0, r1, r2, r3, f1, show w.heap.size + 1 < w5.heap.size by omega]) rfl ?_
      have e1 : casD l p v ver = R := by rw [← HRR.out, casD, if_neg (by rw [HN.out, HNV.out]; simp)]
      rw [e1]
      exact AppP.store (outB HB3.out) HBX3.out.z HD.out.lt HO5.out HD5.out HG5.out _ _ _ _ _ rfl
    · have g1 : (n == ver) = false := by simpa using hnv
      have g2 : (n != ver) = true := by simpa using hnv
      have HNV := Lib.hid hnv
      obtain ⟨r0, r1, r2, r3⟩ := HBX3.out.r
      obtain ⟨f0, f1⟩ := HBX3.out.f
      have z5 := HBX3.out.z
      clear hnv
      go_wp2
      refine bodyPost_ret (v := repV ⟨5, { data := #[] }, n, []⟩ (.slice none 0 0)) (by simp [results, Tryz.results66, go_sem, r0, r1, r2, r3, f1, show w.heap.size + 1 < w3.heap.size by omega]) rfl ?_
      rw [casD, if_pos (by rw [HT.out, HN.out]; simpa using HNV.out), HN.out]
      exact AppP.ok ((HD.out.below HB3.out).mono (Nat.le_succ _)) (outB HB3.out) HD.out.lt (below4 (Below.refl _ w3) _ _ _ _) rfl _ rfl
end Go.Proofs.YtodcmhmankmaoaaGreat
namespace Go.Proofs.YtodcmhmankmaoaaGreat
open Go.RowKit Go.Sort
set_option linter.unusedSimpArgs false
set_option linter.unusedVariables false

theorem okN_last {ns : List (List UInt8)} (h : ns ≠ []) : ns = ns.dropLast ++ [ns.getLastD []] := by
  have := List.dropLast_concat_getLast h
  rw [List.getLastD_eq_getLast?, List.getLast?_eq_some_getLast h]
  exact this.symm
theorem pth_inj {a b : List (List UInt8)} (ha : okN a = true) (hb : okN b = true) (h : pth a = pth b) : a = b := by
  rw [← (pth_vld ha).2, ← (pth_vld hb).2, h]
theorem par_eq {p : ByteArray} (h : nmL p ≠ []) : par p = pth (nmL p).dropLast := by
  unfold par
  rw [if_neg (by simpa using h)]
theorem lst_eq {p : ByteArray} (h : nmL p ≠ []) : (lst p).data.toList = (nmL p).getLastD [] := by
  unfold lst
  rw [if_neg (by simpa using h), ofL_data]
theorem ltN_last (A : List (List UInt8)) (x y : List UInt8) : ltN (A ++ [x]) (A ++ [y]) = if x = y then false else Op.bytesLess x y := by
  induction A with
  | nil => simp [ltN]
  | cons a A ih => simp only [List.cons_append, ltN, if_true]; exact ih
theorem bl_lt (x y : List UInt8) : Op.bytesLess x y = decide (x < y) := bytesLess_eq x y
/-- Of two paths just below the same one the lesser has the lesser name. -/
theorem lst_rise {a b : ByteArray} (ha : okP a) (hb : okP b) (hp : par a = par b) (h : lsr a b = true) : (lst a).data.toList < (lst b).data.toList := by
  rw [par_eq ha.2, par_eq hb.2] at hp
  have hd := pth_inj (okN_dropLast (nm_ok a)) (okN_dropLast (nm_ok b)) hp
  simp only [lsr, Bool.and_eq_true] at h
  have h2 := h.2
  rw [okN_last ha.2, okN_last hb.2, hd, ltN_last] at h2
  rw [lst_eq ha.2, lst_eq hb.2]
  split at h2
  · cases h2
  · rw [bl_lt] at h2; simpa using h2
theorem kid_rise {l : List E3} (h : RisesD l) (hk : okKeys l) (p : ByteArray) : ((kidD l p).map (·.data.toList)).Pairwise (· < ·) := by
  unfold kidD
  rw [List.map_map, List.pairwise_map]
  have h1 : (l.filter fun e => decide (par e.1 = p)).Pairwise fun a b => lsr a.1 b.1 = true := List.Pairwise.sublist List.filter_sublist h
  refine List.Pairwise.imp_of_mem ?_ h1
  intro a b ha hb hl
  have ha := List.mem_filter.1 ha
  have hb := List.mem_filter.1 hb
  have e1 : par a.1 = p := by simpa using ha.2
  have e2 : par b.1 = p := by simpa using hb.2
  exact lst_rise (hk a ha.1) (hk b hb.1) (by rw [e1, e2]) hl
/-- The names of what was met so far. -/
def namesOf (ks : List (List UInt8)) (p : ByteArray) : List ByteArray := ((ks.map ofL).filter fun q => decide (par q = p)).map lst
theorem namesOf_snoc (ks : List (List UInt8)) (q : ByteArray) (p : ByteArray) : namesOf (ks ++ [q.data.toList]) p = namesOf ks p ++ (if par q = p then [lst q] else []) := by
  unfold namesOf
  rw [List.map_append, List.filter_append, List.map_append]
  congr 1
  by_cases e : par q = p <;> simp [ofL_of, e, List.filter_cons]
theorem keys_perm {D : DataW Unit} {l : List E3} {left : Lit → Bool} {ks : List (List UInt8)} (hI : DirIs D l) (hr : RisesD l) (h : Collected D left ks) (hl : ∀ kl, left kl = false) : (ks.map ofL).Perm (l.map (·.1)) := by
  have h1 : (ks.map ofL).Nodup := by
    rw [List.nodup_iff_pairwise_ne, List.pairwise_map]
    exact List.Pairwise.imp (fun {a b} q e => q (ofL_inj e)) (List.nodup_iff_pairwise_ne.1 h.1)
  rw [List.perm_ext_iff_of_nodup h1 hr.keys]
  intro q
  have h2 := h.2 q.data.toList
  rw [hl] at h2
  have h3 : Maps.has D (.string q.data.toList) = (fndD l q).isSome := hI.has q
  rw [h3, fndD_mem] at h2
  simp only [and_true] at h2
  rw [List.mem_map, List.mem_map]
  constructor
  · rintro ⟨x, hx, rfl⟩
    rw [ofL_data] at h2
    obtain ⟨e, he, hq⟩ := h2.1 hx
    exact ⟨e, he, hq⟩
  · rintro ⟨e, he, hq⟩
    exact ⟨q.data.toList, h2.2 ⟨e, he, hq⟩, ofL_of q⟩
theorem names_perm {l : List E3} {ks : List (List UInt8)} (h : (ks.map ofL).Perm (l.map (·.1))) (p : ByteArray) : (namesOf ks p).Perm (kidD l p) := by
  unfold namesOf kidD
  have h1 := ((h.filter fun q => decide (par q = p)).map lst)
  have e1 : (kidD l p) = ((l.map (·.1)).filter fun q => decide (par q = p)).map lst := by
    unfold kidD
    rw [List.filter_map, List.map_map]
    rfl
  unfold kidD at e1
  rw [e1]
  exact h1
theorem names_sorted {l : List E3} {ks : List (List UInt8)} (h : (ks.map ofL).Perm (l.map (·.1))) (hr : RisesD l) (hk : okKeys l) (p : ByteArray) : (((namesOf ks p).map (·.data.toList)).mergeSort fun x y => decide (x ≤ y)) = (kidD l p).map (·.data.toList) := by
  have h1 := (names_perm h p).map (·.data.toList)
  have h2 : _ = _ := mergeSort_of_perm h1
  refine h2.trans (List.mergeSort_of_pairwise ?_)
  refine List.Pairwise.imp ?_ (kid_rise hr hk p)
  intro a b q
  simp only [decide_eq_true_eq]
  first | exact List.le_of_lt q | exact Std.le_of_lt q | exact le_of_lt q
end Go.Proofs.YtodcmhmankmaoaaGreat
namespace Go.Proofs.YtodcmhmankmaoaaGreat
open Go.RowKit Go.Sort
open Go.WideMaps
set_option linter.unusedSimpArgs false
set_option linter.unusedVariables false

theorem okP_size {p : ByteArray} (h : okP p) : p.size ≤ 1000 := by
  have := pth_size _ (nm_ok p)
  rw [← vld_pth h.1] at this
  omega
theorem str_names (ns : List ByteArray) : ns.map Value.string = (ns.map (·.data.toList)).map Go.Proofs.encStr := by
  rw [List.map_map]
  refine List.map_congr_left fun s _ => ?_
  show Value.string s = Value.string (ofL s.data.toList)
  rw [ofL_of]
def KidP (l : List E3) (p : ByteArray) (w : World) (e : Ending) (w' : World) : Prop := ∃ v, Hid (e = .returned v) ∧ Own1 w' w.heap.size 9 v ((kidD l p).map .string) ∧ Below w.heap.size w w'
set_option maxRecDepth 100000 in
set_option maxHeartbeats 4000000 in
theorem children_any (d bk K : Nat) (l : List E3) (p : ByteArray) (w : World) (hd : DirAt w d bk K l) (hK : K ≤ 1000000) (hm : ML w) :
    Calls Tryz.prog 83 #[dP d, .string p] w (KidP l p w) := by
  obtain ⟨D, m, hmK, hM, hI⟩ := hd.map
  have HD := Lib.hid hd
  have HML := Lib.hid hm
  have HM := Lib.hid hM
  have HI := Lib.hid hI
  have HBL := Lib.hid hM.lt
  have dc := hd.cell
  have hsz : Maps.size D ≤ 1000000 := Nat.le_trans hM.size_le (by omega)
  obtain ⟨C, hC⟩ : ∃ C, Maps.size D = C := ⟨_, rfl⟩
  have HC := Lib.hid hC
  rw [hC] at hsz
  clear hd hm hM hI hC hmK
  go_enter Tryz.func83, Tryz.ntmps83
  go_wp2_with (at_range; refine wpList_range_own _ rfl _ 69 rfl 9 68 strK Tryz.underlying69 heldElem bk m D rfl HM.out ?_)
  intro w2 hr2 hg2 hz2
  have HR2 : Hid (w2.ranges (H := Unit) Tryz.prog 9 heldElem bk w.heap.size m D (Maps.has D) C) := Lib.hid (by have h := hr2; rw [HC.out] at h; exact h)
  have hb2 : Below w.heap.size w w2 := (Below.refl _ _).grown hg2 (Nat.le_refl _) (fun k e => by cases e)
  have HB2 := Lib.hid hb2
  clear hr2 hg2 hz2 hb2 dc
  go_wp2_with fail
  go_loopw [5] (fun sl wr => ∃ (v : Value) (left : Lit → Bool) (cnt : Nat) (ks : List (List UInt8)), v = sl ∧ Hid (wr.ranges (H := Unit) Tryz.prog 9 heldElem bk w.heap.size m D left cnt) ∧ Hid (Own1 wr w.heap.size 9 v ((namesOf ks p).map .string)) ∧ Hid (Collected D left ks) ∧ Hid (ks.length + cnt ≤ C) ∧ Hid (Below w.heap.size w wr)) (fun _ wr => wr.rangeLeft bk w.heap.size)
  case atStart => exact ⟨_, _, C, [], rfl, HR2, Lib.hid (Own1.nil _ _ _), Lib.hid (Collected.start D), Lib.hid (by simp), HB2⟩
  case round =>
    clear HR2 HB2
    obtain ⟨v, left, cnt, ks, rfl, hR, hO, hCol, hcnt, hB⟩ := hrel
    go_wp2_with (at_next; refine wpList_next_ranges _ rfl _ rfl 9 strK heldElem Value.string (fun c : ByteArray × Int => .agg #[.string c.1, .int .i64 c.2]) (fun key kl hk => by obtain ⟨x, hx, _⟩ := kS_inv hk; exact ⟨x, hx⟩) (fun v y hv => by obtain ⟨a, b, hx, _⟩ := heldElem_inv hv; exact ⟨(a, b), hx⟩) bk w.heap.size m _ _ _ rfl hR.out ?_ ?_)
    · intro hc0 hl0
      have hsr := names_sorted (keys_perm HI.out HD.out.rise hCol.out hl0) HD.out.rise HD.out.keys p
      have hpm := names_perm (keys_perm HI.out HD.out.rise hCol.out hl0) p
      rcases hO.out.2 with ⟨hv0, hx0⟩ | ⟨g, cap, cur, hv0, hbase, hgg, h1, h2, h3, hx⟩
      · subst hv0
        have hnil : namesOf ks p = [] := by
          have : (List.map Value.string (namesOf ks p)).length = 0 := by first | exact hx0 | (rw [hx0]; rfl)
          simpa using this
        rw [hnil] at hpm
        have hk0 : kidD l p = [] := by simpa using hpm.symm
        have HK0 := Lib.hid hk0
        have HS := Lib.hid (Tryz.slices_Sort_string_none none 0 wr)
        clear hsr hpm hx0 hnil hk0 hl0 hc0 hR hO hCol hcnt HM HI
        go_wp2_with (go_at_call 105; refine HS.out.mono ?_; rintro e w' ⟨rfl, rfl⟩)
        go_ret
        exact ⟨_, Lib.hid rfl, by rw [HK0.out]; exact Own1.nil _ _ _, hB.out⟩
      · obtain ⟨M, hM⟩ : ∃ M, (List.map Value.string (namesOf ks p)).length = M := ⟨_, rfl⟩
        have hM2 : ((namesOf ks p).map (·.data.toList)).length = M := by rw [← hM]; simp
        have hM3 : ((kidD l p).map (·.data.toList)).length = ((namesOf ks p).map (·.data.toList)).length := by simp [hpm.length_eq]
        rw [hM] at hv0 h1 hx
        subst hv0
        have hH : Holds Go.Proofs.encStr wr g 0 ((namesOf ks p).map (·.data.toList)).toArray := holds_of_block hgg (by rw [hM2, ← str_names]; simpa using hx)
        have hgl : g < wr.heap.size := (Array.getElem?_eq_some_iff.1 hgg).1
        have hMs : M ≤ 1000000 := by
          have q1 : (namesOf ks p).length ≤ ks.length := by unfold namesOf; rw [List.length_map]; refine Nat.le_trans (List.length_filter_le _ _) (by simp)
          have := hcnt.out
          rw [List.length_map] at hM
          omega
        have hcon := Tryz.slices_Sort_string g 0 cap ((namesOf ks p).map (·.data.toList)) wr hH hgl (by rw [hM2]; omega)
        rw [hsr, hM2] at hcon
        have HCON := Lib.hid hcon
        have HS : Hid (∀ n os, Own1 (grow (putRow Go.Proofs.encStr (Sort.ahead wr n) g 0 ((kidD l p).map (·.data.toList)).toArray) os) w.heap.size 9 (.slice (some ⟨g, 0, none⟩) M cap) ((kidD l p).map .string) ∧ wr.grownBy (grow (putRow Go.Proofs.encStr (Sort.ahead wr n) g 0 ((kidD l p).map (·.data.toList)).toArray) os) (some g)) := Lib.hid (fun n os => by
          refine ⟨?_, grownBy_sorted _⟩
          have := ownsRow_sorted (n := n) (os := os) hM3 hbase hgg (by rw [hM2]; exact h1) h2 h3
          rw [hM2, ← str_names] at this
          unfold Own1
          rw [show (List.map Value.string (kidD l p)).length = M by rw [List.length_map, ← hM2, ← hM3, List.length_map]]
          exact this)
        have HGB := Lib.hid hbase
        clear hcon hH hgl hMs hM hM2 hM3 hsr hpm h1 h2 h3 hx hgg hbase hl0 hc0 hR hO hCol hcnt HM HI
        go_wp2_with (go_at_call 105; refine HCON.out.mono ?_; rintro e w' ⟨rfl, nn, os, rfl⟩)
        go_ret
        exact ⟨_, Lib.hid rfl, (HS.out nn os).1, hB.out.grown (HS.out nn os).2 hB.out.size (fun j hj => by cases hj; exact HGB.out)⟩
    · intro x u n kl yd yp w3 cnt3 hkey hlk hv hat hrg3 hlt hg3 hs3 hen
      obtain ⟨x', ex, hkl⟩ := kS_inv hkey
      obtain rfl : x = x' := by simpa using ex
      subst hkl
      have hx : okP x := by
        have h1 : Maps.has D (kS x) = true := Maps.has_true_of_atKey hat
        rw [HI.out.has] at h1
        obtain ⟨e, he, hq⟩ := fndD_mem.1 h1
        rw [← hq]
        exact HD.out.keys e he
      have hC3 : Hid (Collected D (fun z => left z && !z.sameKey (kS x)) (ks ++ [x.data.toList])) := Lib.hid (hCol.out.step hlk hat)
      have hO3 : Hid (Own1 w3 w.heap.size 9 v ((namesOf ks p).map .string)) := Lib.hid (hO.out.keepB fun k hk => hg3.block k (World.ownsRow.lt hO.out k hk).2 (by
        have := row_ne_iter hO.out hR.out
        rw [hk] at this
        exact fun e => this e.symm))
      have hB3 : Hid (Below w.heap.size w w3) := Lib.hid (hB.out.grown hg3 hB.out.size (fun j hj => by cases hj; exact Nat.le_refl _))
      have hR3 := Lib.hid hrg3
      have hLT : Hid (cnt3 < cnt) := Lib.hid hlt
      have hLE := Lib.hid hR.out.left_eq
      have HX := Lib.hid hx
      have hz3 : w.heap.size ≤ w3.heap.size := hB3.out.size
      have hNL : Hid ((namesOf ks p).length ≤ 1000000) := Lib.hid (by
        have h1 : (namesOf ks p).length ≤ ks.length := by unfold namesOf; rw [List.length_map]; refine Nat.le_trans (List.length_filter_le _ _) (by simp)
        have := hcnt.out; omega)
      have hML3 := Lib.hid (HML.out.below hB3.out)
      clear ex hkey hlk hv hat hrg3 hlt hg3 hs3 hR hO hCol hB hx
      go_wp2_with fail
      refine (parent_any x w3 (okP_size HX.out) hML3.out).mono ?_
      rintro e w4 ⟨rfl, hb⟩
      have hb0 := Lib.hid hb
      have hB4 := Lib.hid (below_self hB3.out hb)
      have hO4 := Lib.hid (hO3.out.below hb)
      have hR4 := Lib.hid (hR3.out.kept (row := none) ⟨hb.os, hb.tape, hb.output, hb.size, fun k hk _ => hb.block k hk⟩ (by simp) (by simp))
      have hML4 := Lib.hid (hML3.out.below hb)
      have q1 : ((par x).toList == p.toList) = decide (par x = p) := by
        rw [Lib.toList_data, Lib.toList_data, Bool.eq_iff_iff]
        simp only [beq_iff_eq, decide_eq_true_eq]
        exact ⟨fun h => data_inj h, fun h => by rw [h]⟩
      have hNS := Lib.hid (namesOf_snoc ks x p)
      obtain ⟨B, hBB⟩ : ∃ B, decide (par x = p) = B := ⟨_, rfl⟩
      rw [hBB] at q1
      have HBB := Lib.hid hBB
      have hC4 : Hid ((ks ++ [x.data.toList]).length + cnt3 ≤ C) := Lib.hid (by have := hcnt.out; have := hLT.out; simp; omega)
      clear hb hB3 hO3 hR3 hML3 hBB hcnt hz3
      cases B with
      | false =>
        have hO5 : Hid (Own1 w4 w.heap.size 9 v ((namesOf (ks ++ [x.data.toList]) p).map .string)) := Lib.hid (by
          rw [hNS.out, if_neg (by simpa using HBB.out), List.append_nil]
          exact hO4.out)
        go_wp2
        go_roundw
        case rel => exact ⟨v, _, cnt3, _, rfl, hR4, hO5, hC3, hC4, hB4⟩
        case measure => rw [hR4.out.left_eq, hLE.out]; exact hLT.out
      | true =>
        go_wp2_with fail
        refine (last_any x w4 (okP_size HX.out) hML4.out).mono ?_
        rintro e w5 ⟨rfl, hb⟩
        have hB5 := Lib.hid (below_self hB4.out hb)
        have hO5 := Lib.hid (hO4.out.below hb)
        have hR5 := Lib.hid (hR4.out.kept (row := none) ⟨hb.os, hb.tape, hb.output, hb.size, fun k hk _ => hb.block k hk⟩ (by simp) (by simp))
        have hz5 : w.heap.size ≤ w5.heap.size := hB5.out.size
        clear hb hb0 hB4 hO4 hR4 hML4
        go_wp2_with (refine wpList_app1 rfl _ _ 34 9 _ 16 rfl Tryz.underlying34 infoStr rfl (by omega) w.heap.size _ ((namesOf ks p).map .string) rfl (hO5.out.below ((Below.refl _ _).alloc (Nat.le_refl _) _)) w5.heap.size (.string (lst x)) rfl ?hu rfl (by have := hNL.out; simp; omega) (by simp; omega) ?_)
        case hu => simp [go_sem]
        intro v6 w6 ho6 hb6 hz6 hg6
        have hO6 : Hid (Own1 w6 w.heap.size 9 v6 ((namesOf (ks ++ [x.data.toList]) p).map .string)) := Lib.hid (by
          rw [hNS.out, if_pos (by simpa using HBB.out), List.map_append]
          exact ho6)
        have hr5 := hR5.out.alloc (.cells #[.string (lst x)] 9)
        have ho5 := hO5.out.below ((Below.refl _ _).alloc (Nat.le_refl _) (.cells #[.string (lst x)] 9))
        have hR6 := Lib.hid (hr5.kept hg6 (row_ne_low ho5 HBL.out) (row_ne_iter ho5 hr5))
        have hB6 : Hid (Below w.heap.size w w6) := Lib.hid ((hB5.out.alloc hz5 _).trans hb6)
        clear ho6 hb6 hz6 hg6 hr5 ho5 hO5 hR5 hB5 hz5
        go_wp2
        go_roundw
        case rel => exact ⟨v6, _, cnt3, _, rfl, hR6, hO6, hC3, hC4, hB6⟩
        case measure => rw [hR6.out.left_eq, hLE.out]; exact hLT.out
end Go.Proofs.YtodcmhmankmaoaaGreat
namespace Go.Proofs.YtodcmhmankmaoaaGreat
open Go.RowKit Go.Sort
open Go.WideMaps
set_option linter.unusedSimpArgs false
set_option linter.unusedVariables false

def lsD (l : List E3) (p : ByteArray) : Rep × List E3 := if thrD l p then (⟨0, { data := #[] }, 0, kidD l p⟩, l) else (bad 2, l)
def rmD (l : List E3) (p : ByteArray) : Rep × List E3 := if thrD l p then (if 0 < (kidD l p).length then (bad 4, l) else (bad 0, delD l p)) else (bad 2, l)
set_option maxRecDepth 100000 in
set_option maxHeartbeats 1000000 in
theorem list_any (d bk K : Nat) (l : List E3) (cl sq op : Int) (p v : ByteArray) (ver a b : Int) (w : World) (hd : DirAt w d bk K l) (hK : K ≤ 1000000) (hp : p.size ≤ 1000) (hm : ML w) :
    Calls Tryz.prog 65 #[dP d, cmdV cl sq op p v ver a b] w (AppP (lsD l p) d bk K w) := by
  obtain ⟨X, hX⟩ : ∃ X, box2 w cl sq op p v ver a b = X := ⟨_, rfl⟩
  have hB : Below w.heap.size w X := by rw [← hX]; exact box2_below ..
  have hBX : BX w.heap.size cl sq op p v ver a b X := by rw [← hX]; exact BX.mk0 ..
  have HD := Lib.hid hd
  have HDX := Lib.hid (hd.below hB)
  have HB := Lib.hid hB
  have HBX := Lib.hid hBX
  have HP := Lib.hid hp
  have HM := Lib.hid (hm.below hB)
  have c3 := hBX.c.2.2.2.1
  clear hd hB hBX hp hm
  go_enter Tryz.func65, Tryz.ntmps65
  go_wp2_with fail
  refine (there_any d bk K l p X HDX.out HP.out).mono ?_
  rintro e w1 ⟨rfl, hb⟩
  have HB1 := Lib.hid (below_self HB.out hb)
  have HD1 := Lib.hid (HDX.out.below hb)
  have HBX1 := Lib.hid (HBX.out.below hb)
  have HM1 := Lib.hid (HM.out.below hb)
  clear hb HDX HBX c3 hX HM
  obtain ⟨T, hT⟩ : ∃ T, thrD l p = T := ⟨_, rfl⟩
  rw [hT]
  have HT := Lib.hid hT
  clear hT
  cases T with
  | false =>
    go_wp2_with fail
    refine (failed_any 2 w1).mono ?_
    rintro e w2 ⟨rfl, hb⟩
    have HB2 := Lib.hid (below_self HB1.out hb)
    have HBX2 := HBX1.out.below hb
    obtain ⟨r0, r1, r2, r3⟩ := HBX2.r
    obtain ⟨f0, f1⟩ := HBX2.f
    have z2 := HBX2.z
    clear hb HBX2
    go_wp2
    refine bodyPost_ret (v := repV (bad 2) (.slice none 0 0)) (by simp [results, Tryz.results65, go_sem, bad, r0, r1, r2, r3, f1, show w.heap.size + 1 < w2.heap.size by omega]) rfl ?_
    rw [lsD, if_neg (by rw [HT.out]; simp)]
    exact AppP.bad HD.out (below4 HB2.out _ _ _ _) _ rfl
  | true =>
    have c3 := HBX1.out.c.2.2.2.1
    go_wp2_with fail
    refine (children_any d bk K l p w1 HD1.out hK HM1.out).mono ?_
    rintro e w5 ⟨v5, he, ho, hb⟩
    obtain ⟨a5, cc5, hv5⟩ := ho.slice
    obtain ⟨M, hM⟩ : ∃ M, (List.map Value.string (kidD l p)).length = M := ⟨_, rfl⟩
    rw [hM] at hv5
    subst hv5
    have he2 := he.out
    subst he2
    have HO5 := Lib.hid ho
    have HBX5 := HBX1.out.below hb
    have HD5 := Lib.hid ((HD1.out.below hb).mono (Nat.le_succ K))
    have HG5 : Hid (w1.grownBy w5 (some bk)) := Lib.hid (outB hb)
    obtain ⟨r0, r1, r2, r3⟩ := HBX5.r
    obtain ⟨f0, f1⟩ := HBX5.f
    have z5 := HBX5.z
    clear ho HBX5 he hM hb c3
    go_wp2
    refine bodyPost_ret (v := repV ⟨0, { data := #[] }, 0, kidD l p⟩ (.slice a5 M cc5)) (by simp [results, Tryz.results65, go_sem, r0, r1, r2, r3, f1, show w.heap.size + 1 < w5.heap.size by omega]) rfl ?_
    rw [lsD, if_pos HT.out]
    exact AppP.store (outB HB1.out) HBX1.out.z HD.out.lt HO5.out HD5.out HG5.out _ _ _ _ _ rfl
set_option maxRecDepth 100000 in
set_option maxHeartbeats 1000000 in
theorem remove_any (d bk K : Nat) (l : List E3) (cl sq op : Int) (p v : ByteArray) (ver a b : Int) (w : World) (hd : DirAt w d bk K l) (hK : K ≤ 1000000) (hp : p.size ≤ 1000) (hm : ML w) :
    Calls Tryz.prog 62 #[dP d, cmdV cl sq op p v ver a b] w (AppP (rmD l p) d bk K w) := by
  obtain ⟨X, hX⟩ : ∃ X, box2 w cl sq op p v ver a b = X := ⟨_, rfl⟩
  have hB : Below w.heap.size w X := by rw [← hX]; exact box2_below ..
  have hBX : BX w.heap.size cl sq op p v ver a b X := by rw [← hX]; exact BX.mk0 ..
  have HD := Lib.hid hd
  have HDX := Lib.hid (hd.below hB)
  have HB := Lib.hid hB
  have HBX := Lib.hid hBX
  have HP := Lib.hid hp
  have HM := Lib.hid (hm.below hB)
  have c3 := hBX.c.2.2.2.1
  clear hd hB hBX hp hm
  go_enter Tryz.func62, Tryz.ntmps62
  go_wp2_with fail
  refine (there_any d bk K l p X HDX.out HP.out).mono ?_
  rintro e w1 ⟨rfl, hb⟩
  have HB1 := Lib.hid (below_self HB.out hb)
  have HD1 := Lib.hid (HDX.out.below hb)
  have HBX1 := Lib.hid (HBX.out.below hb)
  have HM1 := Lib.hid (HM.out.below hb)
  clear hb HDX HBX c3 hX HM
  obtain ⟨T, hT⟩ : ∃ T, thrD l p = T := ⟨_, rfl⟩
  rw [hT]
  have HT := Lib.hid hT
  clear hT
  cases T with
  | false =>
    go_wp2_with fail
    refine (failed_any 2 w1).mono ?_
    rintro e w2 ⟨rfl, hb⟩
    have HB2 := Lib.hid (below_self HB1.out hb)
    have HBX2 := HBX1.out.below hb
    obtain ⟨r0, r1, r2, r3⟩ := HBX2.r
    obtain ⟨f0, f1⟩ := HBX2.f
    have z2 := HBX2.z
    clear hb HBX2
    go_wp2
    refine bodyPost_ret (v := repV (bad 2) (.slice none 0 0)) (by simp [results, Tryz.results62, go_sem, bad, r0, r1, r2, r3, f1, show w.heap.size + 1 < w2.heap.size by omega]) rfl ?_
    rw [rmD, if_neg (by rw [HT.out]; simp)]
    exact AppP.bad HD.out (below4 HB2.out _ _ _ _) _ rfl
  | true =>
    have c3 := HBX1.out.c.2.2.2.1
    go_wp2_with fail
    refine (children_any d bk K l p w1 HD1.out hK HM1.out).mono ?_
    rintro e w3 ⟨v5, he, ho, hb⟩
    obtain ⟨a5, cc5, hv5⟩ := ho.slice
    obtain ⟨M, hM⟩ : ∃ M, (kidD l p).length = M := ⟨_, rfl⟩
    rw [List.length_map, hM] at hv5
    subst hv5
    have he2 := he.out
    subst he2
    have HMM := Lib.hid hM
    have HB3 := Lib.hid (below_self HB1.out hb)
    have HBX3 := Lib.hid (HBX1.out.below hb)
    have HD3 := Lib.hid (HD1.out.below hb)
    clear ho he hM hb c3 HB1 HBX1 HD1 HM1
    by_cases hpos : 0 < M
    · have k1 : (0 : Int) < (M : Int) := by omega
      have k2 : decide (0 < M) = true := decide_eq_true hpos
      have HPOS := Lib.hid hpos
      clear hpos
      go_wp2_with fail
      refine (failed_any 4 w3).mono ?_
      rintro e w4 ⟨rfl, hb⟩
      have HB4 := Lib.hid (below_self HB3.out hb)
      have HBX4 := HBX3.out.below hb
      obtain ⟨r0, r1, r2, r3⟩ := HBX4.r
      obtain ⟨f0, f1⟩ := HBX4.f
      have z2 := HBX4.z
      clear hb HBX4
      go_wp2
      refine bodyPost_ret (v := repV (bad 4) (.slice none 0 0)) (by simp [results, Tryz.results62, go_sem, bad, r0, r1, r2, r3, f1, show w.heap.size + 1 < w4.heap.size by omega]) rfl ?_
      rw [rmD, if_pos HT.out, if_pos (by rw [HMM.out]; exact HPOS.out)]
      exact AppP.bad HD.out (below4 HB4.out _ _ _ _) _ rfl
    · obtain rfl : M = 0 := by omega
      obtain ⟨D, m, hm, hM, hI⟩ := HD3.out.map
      have HMX := Lib.hid hM
      have HI := Lib.hid hI
      have HML := Lib.hid hm
      have dc := HD3.out.cell
      have c3 := HBX3.out.c.2.2.2.1
      have HKEY := Lib.hid (kS_key HP.out)
      clear hm hM hI hpos
      go_wp2_with fail
      go_still_tail 6, (by kernel_rfl)
      refine wpList_delete_own _ rfl _ _ 69 9 rfl 68 strK Tryz.underlying69 heldElem bk m D rfl HMX.out.drew (.string p) (kS p) rfl HKEY.out ?_
      intro w4 hown hturn
      have hg := hturn.grown
      have hg2 : w3.grownBy w4 (some bk) := ⟨hg.os, hg.tape, hg.output, hg.size, hg.block⟩
      have hlt := HD.out.lt
      have HBX4 := HBX3.out.out hg2 hlt.2
      have HO4 := Lib.hid hown
      have HG4 := Lib.hid (outT (outB (b := bk) HB3.out) hg2)
      have hdc : w4.cell? ⟨d, 0, none⟩ = some (.map (some bk)) := hg2.cell dc (by simpa using HD.out.ne)
      have HDC := Lib.hid hdc
      obtain ⟨r0, r1, r2, r3⟩ := HBX4.r
      obtain ⟨f0, f1⟩ := HBX4.f
      have z2 := HBX4.z
      clear hown hg hg2 hlt HBX4 hdc dc c3 hturn
      go_wp2
      refine bodyPost_ret (v := repV (bad 0) (.slice none 0 0)) (by simp [results, Tryz.results62, go_sem, bad, r0, r1, r2, r3, f1, show w.heap.size + 1 < w4.heap.size by omega]) rfl ?_
      rw [rmD, if_pos HT.out, if_neg (by rw [HMM.out]; simp)]
      have hlt := HD.out.lt
      have hD4 : DirAt w4 d bk (K + 1) (delD l p) := ⟨HDC.out, ⟨_, m, by have := HML.out; omega, HO4.out, HI.out.del HD.out.rise p⟩, HD.out.rise.del p, HD.out.keys.del p⟩
      exact AppP.ok hD4 HG4.out hlt (below4 (Below.refl _ w4) _ _ _ _) rfl _ rfl
end Go.Proofs.YtodcmhmankmaoaaGreat
namespace Go.Proofs.YtodcmhmankmaoaaGreat
open Go.RowKit
open Go.MapKept
set_option linter.unusedSimpArgs false
set_option linter.unusedVariables false

abbrev opT : TypeId := 38
theorem run_ins (w : World) (b : Nat) (es : Array MapEntry) (clock : Nat) (hb : w.heap[b]? = some (.map es clock)) (k : Int) (val : Value) (hf : Instr.findNow (.int .i64) (.int .i64 k) es.toList 0 = some none) :
    (Instr.mapUpdate 76 (.map (some b)) (.int .i64 k) val).run Tryz.prog w = .ok () { w with heap := w.heap.setIfInBounds b (.map (es.push ⟨.int .i64 k, val, clock⟩) (clock + 1)) } := by
  have hd : Tryz.prog.underlying opT = some (.int .i64) := Tryz.underlying38
  simp only [Instr.mapUpdate, Sem.run_bind, run_underlying Tryz.underlying76, Result.andThen_ok, Go.MapKept.run_getObj_map hb, Go.MapKept.run_checkKey (n := 9999) hd (show IsKey (.int .i64) (.int .i64 k) from rfl), Go.MapKept.run_findKey hd hf, Go.MapKept.run_setObj_map _ hb]
theorem heap_setm {w : World} {b : Nat} {es es' : Array MapEntry} {c c' : Nat} (hb : w.heap[b]? = some (.map es c)) : (w.heap.setIfInBounds b (.map es' c'))[b]? = some (.map es' c') ∧ ∀ k, k ≠ b → (w.heap.setIfInBounds b (.map es' c'))[k]? = w.heap[k]? := by
  have hl := (Array.getElem?_eq_some_iff.1 hb).1
  refine ⟨by simp [hl], fun k hk => ?_⟩
  rw [Array.getElem?_setIfInBounds]
  simp [Ne.symm hk]
theorem wpList_ins {ops : Array Oper} {rest : List Oper} {o : Oper} {a : Act} {w : World} {Q : Exit → Act → World → Prop} (hgd : o.guard = none) (m x v : Operand)
    (ho : o.op = .insert 76 m x v) (b : Nat) (es : Array MapEntry) (clock : Nat) (hm : a.eval m = .map (some b)) (hb : w.heap[b]? = some (.map es clock)) (k : Int) (val : Value) (hx : a.eval x = .int .i64 k) (hv : a.eval v = val)
    (hf : Instr.findNow (.int .i64) (.int .i64 k) es.toList 0 = some none)
    (h : ∀ w', w'.heap[b]? = some (.map (es.push ⟨.int .i64 k, val, clock⟩) (clock + 1)) → Below b w w' → w'.heap.size = w.heap.size → wpList Tryz.prog ops Q rest (a.put o.dst undef) w') : wpList Tryz.prog ops Q (o :: rest) a w := by
  refine wpList_done (by simp [Region.wanted, hgd]) _ ?_ (h { w with heap := w.heap.setIfInBounds b (.map (es.push ⟨.int .i64 k, val, clock⟩) (clock + 1)) } (heap_setm hb).1 ((Below.refl b w).grown (row := some b) ⟨rfl, rfl, rfl, by simp, fun k _ hk => (heap_setm hb).2 k (fun e => hk (by rw [e]))⟩ (Nat.le_of_lt (Array.getElem?_eq_some_iff.1 hb).1) (fun k e => by cases e; exact Nat.le_refl _)) (by simp))
  unfold execOp
  simp only [ho, hm, hx, hv, Sem.run_bind, run_ins w b es clock hb k val hf, Result.andThen_ok, Sem.run_pure]
abbrev fnV (n : Nat) : Value := .func (.func n) #[] #[]
abbrev tabE : Array MapEntry := #[⟨.int .i64 1, fnV 61, 0⟩, ⟨.int .i64 2, fnV 62, 1⟩, ⟨.int .i64 3, fnV 63, 2⟩, ⟨.int .i64 4, fnV 64, 3⟩, ⟨.int .i64 5, fnV 65, 4⟩, ⟨.int .i64 6, fnV 66, 5⟩]
theorem run_look (w : World) (b : Nat) (hb : w.heap[b]? = some (.map tabE 6)) (k : Int) (r : Option (Nat × Value)) (hf : Instr.findNow (.int .i64) (.int .i64 k) tabE.toList 0 = some r) (z : Value) (hz : ∀ w, (zeroValue 74).run Tryz.prog w = .ok z w) :
    (Instr.lookup 76 (.map (some b)) (.int .i64 k) true).run Tryz.prog w = .ok (.tuple #[(r.map (·.2)).getD z, .bool r.isSome]) w := by
  have hd : Tryz.prog.underlying opT = some (.int .i64) := Tryz.underlying38
  simp only [Instr.lookup, Sem.run_bind, run_underlying Tryz.underlying76, Result.andThen_ok, Go.MapKept.run_getObj_map hb, Sem.run_pure, Go.MapKept.run_checkKey (n := 9999) hd (show IsKey (.int .i64) (.int .i64 k) from rfl), Go.MapKept.run_findKey hd hf]
  cases r with
  | none => simp [hz]
  | some p => simp
def TabP (w : World) (e : Ending) (w' : World) : Prop := ∃ b, Hid (e = .returned (.map (some b))) ∧ w'.heap[b]? = some (.map tabE 6) ∧ Below w.heap.size w w'
set_option maxHeartbeats 800000 in
theorem operations_any (w : World) : Calls Tryz.prog 35 #[] w (TabP w) := by
  have hmm := @run_makeMap Tryz.prog
  have hA : Hid ((w.alloc (.map #[] 0)).heap[w.heap.size]? = some (.map #[] 0)) := Lib.hid (heap_alloc_new w _)
  have hB : Hid (Below w.heap.size w (w.alloc (.map #[] 0))) := Lib.hid ((Below.refl _ _).alloc (Nat.le_refl _) _)
  go_enter Tryz.func35, Tryz.ntmps35
  go_wp2_with (refine wpList_ins rfl _ _ _ rfl w.heap.size #[] 0 rfl hA.out 1 _ rfl rfl rfl ?_)
  intro w1 h1 b1 z1
  have H1 := Lib.hid h1
  have B1 := Lib.hid (hB.out.trans b1)
  clear h1 b1 z1 hA
  go_wp2_with (refine wpList_ins rfl _ _ _ rfl w.heap.size _ 1 rfl H1.out 2 _ rfl rfl rfl ?_)
  intro w2 h2 b2 z2
  have H2 := Lib.hid h2
  have B2 := Lib.hid (B1.out.trans b2)
  clear h2 b2 z2 H1
  go_wp2_with (refine wpList_ins rfl _ _ _ rfl w.heap.size _ 2 rfl H2.out 3 _ rfl rfl rfl ?_)
  intro w3 h3 b3 z3
  have H3 := Lib.hid h3
  have B3 := Lib.hid (B2.out.trans b3)
  clear h3 b3 z3 H2
  go_wp2_with (refine wpList_ins rfl _ _ _ rfl w.heap.size _ 3 rfl H3.out 4 _ rfl rfl rfl ?_)
  intro w4 h4 b4 z4
  have H4 := Lib.hid h4
  have B4 := Lib.hid (B3.out.trans b4)
  clear h4 b4 z4 H3
  go_wp2_with (refine wpList_ins rfl _ _ _ rfl w.heap.size _ 4 rfl H4.out 5 _ rfl rfl rfl ?_)
  intro w5 h5 b5 z5
  have H5 := Lib.hid h5
  have B5 := Lib.hid (B4.out.trans b5)
  clear h5 b5 z5 H4
  go_wp2_with (refine wpList_ins rfl _ _ _ rfl w.heap.size _ 5 rfl H5.out 6 _ rfl rfl rfl ?_)
  intro w6 h6 b6 z6
  have H6 := Lib.hid h6
  have B6 := Lib.hid (B5.out.trans b6)
  clear h6 b6 z6 H5
  go_wp2
  go_ret
  exact ⟨_, rfl, H6.out, B6.out⟩
theorem zeroF (w : World) : (zeroValue 74).run Tryz.prog w = .ok .nilFunc w := by kernel_rfl
theorem also3 {W w' : World} {q : Addr} {x : Value} (hb : Below W.heap.size W w') (hq : W.cell? q = some x) (hlt : q.block < W.heap.size) : w'.cell? q = some x ∧ Below W.heap.size W w' := ⟨(hb.cell hlt).trans hq, hb⟩
/-- A command, done. -/
def appD (l : List E3) (op : Int) (p v : ByteArray) (ver : Int) : Rep × List E3 :=
  if !rgt op p v then (bad 1, l) else if op = 1 then crD l p v else if op = 2 then rmD l p else if op = 3 then setD l p v else if op = 4 then gtD l p else if op = 5 then lsD l p else if op = 6 then casD l p v ver else (bad 1, l)
set_option maxRecDepth 100000 in
set_option maxHeartbeats 2000000 in
theorem apply_none (d bk K : Nat) (l : List E3) (cl sq op : Int) (p v : ByteArray) (ver a b : Int) (w : World) (hd : DirAt w d bk K l) (ho : ∀ k : Int, 1 ≤ k → k ≤ 6 → op ≠ k) :
    Calls Tryz.prog 10 #[dP d, cmdV cl sq op p v ver a b] w (AppP (appD l op p v ver) d bk K w) := by
  have g1 : (op == 1) = false := by simpa using ho 1 (by omega) (by omega)
  have g2 : (op == 2) = false := by simpa using ho 2 (by omega) (by omega)
  have g3 : (op == 3) = false := by simpa using ho 3 (by omega) (by omega)
  have g4 : (op == 4) = false := by simpa using ho 4 (by omega) (by omega)
  have g5 : (op == 5) = false := by simpa using ho 5 (by omega) (by omega)
  have g6 : (op == 6) = false := by simpa using ho 6 (by omega) (by omega)
  have HF : Hid (Instr.findNow (.int .i64) (.int .i64 op) tabE.toList 0 = some none) := by
    simp [Hid, Instr.findNow, Instr.sameNow, g1, g2, g3, g4, g5, g6]
  have HE : Hid (appD l op p v ver = (bad 1, l)) := Lib.hid (by
    have e1 := ho 1 (by omega) (by omega)
    have e2 := ho 2 (by omega) (by omega)
    have e3 := ho 3 (by omega) (by omega)
    have e4 := ho 4 (by omega) (by omega)
    have e5 := ho 5 (by omega) (by omega)
    have e6 := ho 6 (by omega) (by omega)
    simp [appD, e1, e2, e3, e4, e5, e6])
  clear g1 g2 g3 g4 g5 g6 ho
  obtain ⟨X, hX⟩ : ∃ X, box2 w cl sq op p v ver a b = X := ⟨_, rfl⟩
  have hB : Below w.heap.size w X := by rw [← hX]; exact box2_below ..
  have hBX : BX w.heap.size cl sq op p v ver a b X := by rw [← hX]; exact BX.mk0 ..
  have HD := Lib.hid hd
  have HDX := Lib.hid (hd.below hB)
  have HB := Lib.hid hB
  have HBX := Lib.hid hBX
  have HK2 := Lib.hid hBX.c.2.2.1
  have HLT : Hid ((⟨w.heap.size, 2, none⟩ : Addr).block < X.heap.size) := Lib.hid (by have := hBX.z; show w.heap.size < _; omega)
  go_enter Tryz.func10, Tryz.ntmps10
  clear hd hB hBX
  go_wp2_with fail
  go_region_held3 (fun w' => w'.cell? ⟨w.heap.size, 2, none⟩ = some (.int .i64 op) ∧ Below X.heap.size X w')
    (first
      | exact also3 (Below.refl _ _) HK2.out HLT.out
      | exact also3 (Below.refl _ _).drew HK2.out HLT.out
      | (go_split_ands; first | exact also3 (below_self (by assumption) (by assumption)) HK2.out HLT.out | exact also3 (by assumption) HK2.out HLT.out))
    (first
      | (go_at_call 35; refine (operations_any _).mono ?_; rintro e w1 ⟨b1, rfl, hb1, hb⟩; have hrun : (Instr.lookup 76 (.map (some b1)) (.int .i64 op) true).run Tryz.prog w1 = .ok (.tuple #[.nilFunc, .bool false]) w1 := run_look w1 b1 hb1 op (none) HF.out _ zeroF; clear hb1))
  all_goals
    go_split_ands
    have hb' : Below X.heap.size X w1 := by assumption
    have HB1 := Lib.hid (below_self HB.out hb')
    have HBX1 := Lib.hid (HBX.out.below hb')
    have HD1 := Lib.hid (HDX.out.below hb')
    clear hb' HBX HDX HB
    go_wp2_with fail
    refine (failed_any 1 w1).mono ?_
    rintro e w9 ⟨rfl, hb⟩
    have HB9 := Lib.hid (below_self HB1.out hb)
    have HBX9 := HBX1.out.below hb
    obtain ⟨r0, r1, r2, r3⟩ := HBX9.r
    obtain ⟨f0, f1⟩ := HBX9.f
    have z9 := HBX9.z
    clear hb HBX9 
    go_wp2
    refine bodyPost_ret (v := repV (bad 1) (.slice none 0 0)) (by simp [results, Tryz.results10, go_sem, bad, r0, r1, r2, r3, f1, show w.heap.size + 1 < w9.heap.size by omega]) rfl ?_
    rw [HE.out]
    exact AppP.bad HD.out (below4 HB9.out _ _ _ _) _ rfl
end Go.Proofs.YtodcmhmankmaoaaGreat
