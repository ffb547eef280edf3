/-
  Entries.
-/
import Derived.Test.YtoojfbeikohikaaDirD
import Derived.Shelf.Lay
import Derived.Ground.SlsfProg
namespace Go.Proofs.Ytoojfbeikohikaa
open Go.RowKit Go.Sort Go.Shelf
set_option linter.unusedSimpArgs false
set_option linter.unusedVariables false

shelf_lay_g SlLaysF0.n6 Slsf 6 at Try 26 as Try.sortEnts
def enE (x : E3) : List Value := [.string x.1, .string x.2.1, .int .i64 x.2.2]
/-- Entries as elements of rows. -/
noncomputable def EK : Knd Try.prog E3 where
  T := 43
  S := 35
  k := 3
  enc := enE
  z := .agg #[.string ByteArray.empty, .string ByteArray.empty, .int .i64 0]
  B := 40
  len := fun _ => rfl
  one := fun x v h => by simp [enE] at h; rcases h with rfl | rfl | rfl <;> rfl
  und := Try.underlying35
  info := by kernel_rfl
  zc := rfl
  pos := by omega
  small := by omega
  d := (ByteArray.empty, ByteArray.empty, 0)
/-- .. those of one row. -/
noncomputable def EK4 (l : List E3) (d : {e : E3 // e ∈ l}) : Knd Try.prog {e : E3 // e ∈ l} where
  T := 43
  S := 35
  k := 3
  enc := fun x => enE x.1
  z := .agg #[.string ByteArray.empty, .string ByteArray.empty, .int .i64 0]
  B := 40
  len := fun _ => rfl
  one := fun x v h => by simp [enE] at h; rcases h with rfl | rfl | rfl <;> rfl
  und := Try.underlying35
  info := by kernel_rfl
  zc := rfl
  pos := by omega
  small := by omega
  d := d
theorem own4 {l : List E3} {d : {e : E3 // e ∈ l}} {w : World} {base : Nat} {v : Value} {k : List {e : E3 // e ∈ l}} : (EK4 l d).Own w base v k ↔ EK.Own w base v (k.map (·.1)) := by
  have e : (EK4 l d).row k = EK.row (k.map (·.1)) := by
    unfold Knd.row
    rw [List.flatMap_map]
    rfl
  unfold Knd.Own
  rw [e, List.length_map]
  exact Iff.rfl
def ordS {l : List E3} (a b : {e : E3 // e ∈ l}) : Int := ordD a.1 b.1
theorem ordS_lt {l : List E3} (a b : {e : E3 // e ∈ l}) : ltOf ordS a b = lsr a.1.1 b.1.1 := by
  unfold ltOf ordS ordD
  cases h1 : lsr a.1.1 b.1.1
  · cases h2 : lsr b.1.1 a.1.1 <;> simp
  · simp
theorem ordS_swo {l : List E3} (hk : okKeys l) : SWO (ltOf (ordS (l := l))) where
  irrefl x := by rw [ordS_lt]; exact lsr_irr _
  trans x y z h k := by rw [ordS_lt] at *; exact lsr_trans h k
  ntrans x y z h k := by
    rw [ordS_lt] at *
    by_cases e : x.1.1 = y.1.1
    · rw [e]; exact k
    · by_cases e2 : y.1.1 = z.1.1
      · rw [← e2]; exact h
      · have h1 := lsr_tot (hk y.1 y.2) (hk x.1 x.2) (fun q => e q.symm)
        have k1 := lsr_tot (hk z.1 z.2) (hk y.1 y.2) (fun q => e2 q.symm)
        rw [h] at h1
        rw [k] at k1
        exact lsr_asym (lsr_trans (by simpa using k1) (by simpa using h1))
theorem ordS_tot {l : List E3} (hr : RisesD l) (hk : okKeys l) (x y : {e : E3 // e ∈ l}) (h : ltOf ordS x y = false) (k : ltOf ordS y x = false) : x = y := by
  rw [ordS_lt] at h k
  by_cases e : x.1.1 = y.1.1
  · exact Subtype.ext (hr.one x.2 y.2 e)
  · have := lsr_tot (hk x.1 x.2) (hk y.1 y.2) e
    rw [h, k] at this
    cases this
theorem mem_all {D : DataW Unit} {l : List E3} {left : Lit → Bool} {es : List E3} (hI : DirIs D l) (hr : RisesD l) (h : Collected D left (es.map (·.1.data.toList))) (hm : ∀ e ∈ es, e ∈ l) (hl : ∀ kl, left kl = false) : ∀ e, e ∈ es ↔ e ∈ l := by
  intro e
  refine ⟨hm e, fun he => ?_⟩
  have h1 := keys_perm hI hr h hl
  have h2 : e.1 ∈ (es.map (·.1.data.toList)).map ofL := h1.mem_iff.2 (List.mem_map.2 ⟨e, he, rfl⟩)
  rw [List.map_map, List.mem_map] at h2
  obtain ⟨e2, he2, hq⟩ := h2
  have hq : e2.1 = e.1 := by simpa [ofL_of] using hq
  rw [← hr.one (hm e2 he2) he hq]
  exact he2
theorem sorted_all {D : DataW Unit} {l : List E3} {left : Lit → Bool} {es : List {e : E3 // e ∈ l}} (hI : DirIs D l) (hr : RisesD l) (hk : okKeys l) (h : Collected D left ((es.map (·.1)).map (·.1.data.toList))) (hl : ∀ kl, left kl = false) :
    (es.mergeSort fun x y => !(ltOf ordS) y x).map (·.1) = l := by
  have hp := List.mergeSort_perm es (fun x y => !(ltOf ordS) y x)
  have hmem := mem_all hI hr h (fun e he => by obtain ⟨x, _, rfl⟩ := List.mem_map.1 he; exact x.2) hl
  have hnd : es.Nodup := by
    have := h.1
    rw [List.map_map, List.nodup_iff_pairwise_ne, List.pairwise_map] at this
    exact List.nodup_iff_pairwise_ne.2 (this.imp fun q e => q (by rw [e]))
  refine RisesD.ext ?_ hr fun e => ?_
  · unfold RisesD
    rw [List.pairwise_map]
    have s := ordS_swo hk
    have h1 := List.pairwise_mergeSort (le := fun x y : {e : E3 // e ∈ l} => !(ltOf ordS) y x) (fun a b c q k => by
      simp only [Bool.not_eq_true'] at *
      exact s.ntrans _ _ _ k q) (fun a b => by
      cases q : ltOf ordS b a
      · simp
      · rw [ordS_lt] at q
        simp [ordS_lt, lsr_asym q]) es
    have h2 := hp.nodup_iff.2 hnd
    exact (List.Pairwise.and h1 h2).imp (fun {a b} q => by
      have q1 : lsr b.1.1 a.1.1 = false := by have := q.1; rw [ordS_lt] at this; simpa using this
      cases k : lsr a.1.1 b.1.1
      · exact absurd (ordS_tot hr hk a b (by rw [ordS_lt]; exact k) (by rw [ordS_lt]; exact q1)) q.2
      · rfl)
  · rw [← hmem e, List.mem_map, List.mem_map]
    constructor
    · rintro ⟨x, hx, rfl⟩; exact ⟨x, hp.mem_iff.1 hx, rfl⟩
    · rintro ⟨x, hx, rfl⟩; exact ⟨x, hp.mem_iff.2 hx, rfl⟩
theorem lift_all {l : List E3} : ∀ (es : List E3), (∀ e ∈ es, e ∈ l) → ∃ k : List {e : E3 // e ∈ l}, k.map (·.1) = es
  | [], _ => ⟨[], rfl⟩
  | a :: es, h => by
    obtain ⟨k, hk⟩ := lift_all es fun e he => h e (.tail _ he)
    exact ⟨⟨a, h a (.head _)⟩ :: k, by simp [hk]⟩
def EntP (l : List E3) (w : World) (e : Ending) (w' : World) : Prop := ∃ v, Hid (e = .returned v) ∧ EK.Own w' w.heap.size v l ∧ Below w.heap.size w w'
end Go.Proofs.Ytoojfbeikohikaa
