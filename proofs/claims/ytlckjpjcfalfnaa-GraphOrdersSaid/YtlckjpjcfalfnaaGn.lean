/-
  Graph: nodes, as they lie in memory and as they come in.
-/
import Derived.Test.YtlckjpjcfalfnaaIds3
import Derived.Test.YtlckjpjcfalfnaaRaw
import Derived.Test.YtlckjpjcfalfnaaBk
import Derived.Test.YtlckjpjcfalfnaaMv
namespace Go.Proofs.Ytlckjpjcfalfnaa
open Go.RowKit Go.Sort
open Go.WideMaps
set_option linter.unusedSimpArgs false
set_option linter.unusedVariables false
set_option maxRecDepth 100000

theorem RowIs.typed {P : Program} {k : Nat} {R : Knd P (Cls k)} {α : Type} {S : Shp α} {K : Knd P α} {w : World} {v : Value} {rs : List (Cls k)} {l : List α} (h : RowIs R S w v rs l) (hR : R.enc = Cls.cs) (hS : ∀ w cs x, S.is w cs x → cs = K.enc x) : K.Rd w v l := by
  have e : R.row rs = K.row l := by
    unfold Knd.row
    rw [hR, List.flatMap_def, List.flatMap_def]
    congr 1
    refine List.ext_getElem (by simp [h.len]) fun j h1 h2 => ?_
    simp only [List.getElem_map]
    exact hS _ _ _ (h.at' j (by simpa using h1) (by simpa using h2))
  obtain ⟨a, c, hv, h1, h2, h3⟩ := h.rd
  rw [h.len] at hv h1
  refine ⟨a, c, hv, h1, h2, ?_⟩
  rw [e] at h3
  rcases h3 with h3 | h3
  · left
    have := h.len
    rw [h3] at this
    exact List.eq_nil_of_length_eq_zero this.symm
  · exact .inr h3
/-- The elements of a row, one by one. -/
theorem RowIs.el {P : Program} {k : Nat} {R : Knd P (Cls k)} (hR : R.enc = Cls.cs) {α : Type} {S : Shp α} {w : World} {a : Option Addr} {n c : Nat} {rs : List (Cls k)} {l : List α} (h : RowIs R S w (.slice a n c) rs l) (j : Nat) (hj : j < n) :
    n = l.length ∧ ∃ (hl : j < l.length) (g off : Nat) (cs : List Value), a = some ⟨g, off, none⟩ ∧ g < w.heap.size ∧ S.is w cs l[j] ∧ ∀ i u, cs[i]? = some u → w.cell? ⟨g, off + j * R.k + i, none⟩ = some u := by
  have hn : n = rs.length := by
    obtain ⟨a', c', e, _⟩ := h.rd
    simp only [Value.slice.injEq] at e
    exact e.2.1
  have hne : rs ≠ [] := by intro e; rw [e] at hn; simp at hn; omega
  obtain ⟨_, g, off, ha, hg, hc⟩ := h.rd.at hne
  have hjr : j < rs.length := by omega
  have hjl : j < l.length := by rw [← h.len]; exact hjr
  refine ⟨hn.trans h.len, hjl, g, off, rs[j].cs, ha, hg, h.at' j hjr hjl, fun i u hu => hc j hj i u ?_⟩
  have e1 : rs.getD j R.d = rs[j] := by simp [List.getD, hjr]
  rw [e1, hR]
  exact hu
theorem Opens.to {P : Program} {t : TypeId} {α β : Type} {S : Shp α} {R : Shp β} (h : Opens P t S) (f : α → β) (hi : ∀ w cs x, S.is w cs x → R.is w cs (f x)) : Opens P t R := .mk @fun H enc w base spare held fuel cs y hy => by
  obtain ⟨x, hx⟩ := h.go fuel cs y hy
  exact ⟨f x, hi _ _ _ hx⟩
abbrev At : Type := Int × List I3
theorem idE_one (x : I3) : ∀ v ∈ idE x, v.oneCell' = true := IK.one x
def idS : Shp I3 where
  is := fun _ cs x => cs = idE x ∧ okI x
  keep := fun h _ => h
  one := fun {w cs x} h => by rw [h.1]; exact idE_one x
theorem opens_id : Opens Try.prog 25 idS :=
  (opens_struct (P := Try.prog) (S := pairS intS (pairS intS intS)) Try.underlying25 (n := 3) (by kernel_rfl)
    (opensF_cons _ rfl rfl (k := 1) (by kernel_rfl) (opens_int Try.underlying3) (opensF_cons _ rfl rfl (k := 1) (by kernel_rfl) (opens_int Try.underlying3) (opensF_last _ rfl rfl (k := 1) (by kernel_rfl) rfl (opens_int Try.underlying3))))).to id
    (fun w cs x h => by
      obtain ⟨c1, c2, e, ⟨h1, w1⟩, d1, d2, e2, ⟨h2, w2⟩, h3, w3⟩ := h
      subst h1 h2 h3 e2
      exact ⟨e, w1, w2, w3⟩)
def clsI : Cls 3 := ⟨idE (0, 0, 0), rfl, idE_one _⟩
noncomputable def IR : Knd Try.prog (Cls 3) := rawK Try.prog 25 23 3 24 (.agg #[.int .i64 0, .int .i64 0, .int .i64 0]) Try.underlying23 (by kernel_rfl) rfl (by omega) (by omega) clsI
/-- A row of instances. -/
def idsS : Shp (List I3) where
  is := fun w cs l => ∃ v, cs = [v] ∧ IK.Rd w v l ∧ okL l
  keep := fun ⟨v, e, h, o⟩ hb => ⟨v, e, h.below hb, o⟩
  one := fun ⟨v, e, h, o⟩ u hu => by
    rw [e] at hu
    simp at hu
    subst hu
    obtain ⟨a, c, e2⟩ := h.slice
    subst e2
    rfl
theorem opens_ids : Opens Try.prog 23 idsS :=
  (opens_row IR rfl rfl rfl (by kernel_rfl) opens_id).to id (fun w cs l h => by
    obtain ⟨v, rs, e, hr⟩ := h
    refine ⟨v, e, hr.typed rfl (fun w cs x h => h.1), fun x hx => ?_⟩
    obtain ⟨j, hj, rfl⟩ := List.mem_iff_getElem.1 hx
    exact (hr.at' j (by rw [hr.len]; exact hj) hj).2)
/-- An attribute. -/
def atS : Shp At where
  is := fun w cs a => ∃ v, cs = [.int .i64 a.1, v] ∧ IK.Rd w v a.2 ∧ okL a.2
  keep := fun ⟨v, e, h, o⟩ hb => ⟨v, e, h.below hb, o⟩
  one := fun ⟨v, e, h, o⟩ u hu => by
    rw [e] at hu
    obtain ⟨a, c, e2⟩ := h.slice
    subst e2
    simp at hu
    rcases hu with rfl | rfl <;> rfl
theorem opens_at : Opens Try.prog 44 atS :=
  (opens_struct (P := Try.prog) (S := pairS intS idsS) Try.underlying44 (n := 2) (by kernel_rfl)
    (opensF_cons _ rfl rfl (k := 1) (by kernel_rfl) (opens_int Try.underlying3) (opensF_last _ rfl rfl (k := 1) (by kernel_rfl) rfl opens_ids))).to id
    (fun w cs x h => by
      obtain ⟨c1, c2, e, ⟨h1, _⟩, v, e2, h3, h4⟩ := h
      subst h1 e2
      exact ⟨v, e, h3, h4⟩)
/-- An instance, and where it stands. -/
structure Nd where
  id : I3
  sq : Int
  dl : List I3
def ndE (n : Nd) (v : Value) : List Value := idE n.id ++ [.int .i64 n.sq, v]
theorem ndE_one {n : Nd} {v : Value} (hv : v.oneCell' = true) : ∀ u ∈ ndE n v, u.oneCell' = true := by
  intro u hu
  unfold ndE at hu
  rcases List.mem_append.1 hu with q | q
  · exact idE_one _ u q
  · simp at q
    rcases q with rfl | rfl
    · rfl
    · exact hv
def ndS : Shp Nd where
  is := fun w cs n => ∃ v, cs = ndE n v ∧ okI n.id ∧ IK.Rd w v n.dl ∧ okL n.dl
  keep := fun ⟨v, e, i, h, o⟩ hb => ⟨v, e, i, h.below hb, o⟩
  one := fun {w cs n} ⟨v, e, i, h, o⟩ => by
    rw [e]
    obtain ⟨a, c, e2⟩ := h.slice
    subst e2
    exact ndE_one rfl
theorem opens_nd : Opens Try.prog 46 ndS :=
  (opens_struct (P := Try.prog) (S := pairS idS atS) Try.underlying46 (n := 5) (by kernel_rfl)
    (opensF_cons _ rfl rfl (k := 3) (by kernel_rfl) opens_id (opensF_last _ rfl rfl (k := 2) (by kernel_rfl) rfl opens_at))).to (fun x => (⟨x.1, x.2.1, x.2.2⟩ : Nd))
    (fun w cs x h => by
      obtain ⟨c1, c2, e, ⟨h1, w1⟩, v, h2, h3, h4⟩ := h
      subst h1 h2
      exact ⟨v, e, w1, h3, h4⟩)
def nd0 : Nd := ⟨(0, 0, 0), 0, []⟩
def clsN : Cls 5 := ⟨ndE nd0 (.slice none 0 0), rfl, ndE_one rfl⟩
noncomputable def NK : Knd Try.prog (Cls 5) := rawK Try.prog 46 22 5 56 (.agg (ndE nd0 (.slice none 0 0)).toArray) Try.underlying22 (by kernel_rfl) rfl (by omega) (by omega) clsN
theorem opens_nds : Opens Try.prog 22 (rowS NK ndS) := opens_row NK rfl rfl rfl (by kernel_rfl) opens_nd
theorem nds_of_arg {H : Type} {enc : TypeId × Value → H} {w : World} {r : Reach} {b0 base : Nat} {spare : Nat → Bool} {held : Bool} {v : Value} {d : DataW H} {p : List MemPlace}
    (hv : Value.okWide Try.prog w r b0 22 v) (h : DataW.Trod enc Try.prog w base spare held 22 v d p) : ∃ rs l, RowIs NK ndS w v rs l :=
  arg_row Try.underlying22 opens_nds hv h
/-- A node as it lies in a map: its list by its address. -/
structure NV where
  d : Nd
  a : Option Addr
  c : Nat
abbrev ndV (n : NV) : Value := .agg #[.int .i64 n.d.id.1, .int .i64 n.d.id.2.1, .int .i64 n.d.id.2.2, .int .i64 n.d.sq, .slice n.a n.d.dl.length n.c]
/-- Its list can be read, in a world from which on nothing of it turns. -/
def NV.Ok (W : World) (n : NV) : Prop := okI n.d.id ∧ okL n.d.dl ∧ IK.Rd W (.slice n.a n.d.dl.length n.c) n.d.dl
theorem snoc_ind {α : Type} {P : List α → Prop} (h0 : P []) (hs : ∀ l a, P l → P (l ++ [a])) : ∀ l, P l := by
  have h : ∀ l : List α, P l.reverse := by
    intro l
    induction l with
    | nil => exact h0
    | cons a l ih => rw [List.reverse_cons]; exact hs _ _ ih
  intro l
  have := h l.reverse
  rwa [List.reverse_reverse] at this
/-- Nodes by their instances. -/
def webL (l : List NV) : List (I3 × NV) := l.foldl (fun m n => putV m n.d.id n) []
theorem webL_snoc (l : List NV) (n : NV) : webL (l ++ [n]) = putV (webL l) n.d.id n := by unfold webL; rw [List.foldl_append]; rfl
theorem webL_nodup (l : List NV) : (keysV (webL l)).Nodup := by
  revert l
  refine snoc_ind List.nodup_nil fun l n ih => ?_
  rw [webL_snoc]
  exact nodup_putV ih _ _
theorem webL_len (l : List NV) : (webL l).length ≤ l.length := by
  revert l
  refine snoc_ind (Nat.le_refl _) fun l n ih => ?_
  rw [webL_snoc, len_putV (webL_nodup l)]
  split <;> simp <;> omega
theorem webL_mem : ∀ (l : List NV) (e : I3 × NV), e ∈ webL l → e.2 ∈ l ∧ e.1 = e.2.d.id := by
  refine snoc_ind (fun e h => by cases h) fun l n ih e h => ?_
  rw [webL_snoc] at h
  unfold putV at h
  rcases List.mem_append.1 h with q | q
  · have := ih _ (mem_delV.1 q).1
    exact ⟨by simp [this.1], this.2⟩
  · simp at q; subst q; simp
/-- All are there where no two have one instance. -/
theorem webL_all : ∀ (l : List NV), (l.map (·.d.id)).Nodup → webL l = l.map fun n => (n.d.id, n) := by
  refine snoc_ind (fun _ => rfl) fun l n ih h => ?_
  rw [List.map_append, List.nodup_append] at h
  rw [webL_snoc, ih h.1, List.map_append]
  unfold putV delV
  congr 1
  rw [List.filter_eq_self]
  intro e he
  obtain ⟨m, hm, rfl⟩ := List.mem_map.1 he
  have := h.2.2 m.d.id (List.mem_map.2 ⟨m, hm, rfl⟩) n.d.id (by simp)
  simpa using this
theorem webL_keys (l : List NV) (x : I3) : x ∈ keysV (webL l) ↔ x ∈ l.map (·.d.id) := by
  revert l
  refine snoc_ind Iff.rfl fun l n ih => ?_
  have e1 : keysV (webL (l ++ [n])) = keysV (delV (webL l) n.d.id) ++ [n.d.id] := by rw [webL_snoc]; unfold putV keysV; rw [List.map_append]; rfl
  rw [e1, List.mem_append, keys_delV, List.mem_filter, ih, List.map_append, List.mem_append]
  by_cases e : x = n.d.id <;> simp [e]
theorem webL_full : ∀ l : List NV, (webL l).length = l.length ↔ (l.map (·.d.id)).Nodup := by
  refine snoc_ind (by simp [webL]) fun l n ih => ?_
  rw [webL_snoc, len_putV (webL_nodup l), List.map_append, List.nodup_append, getV_isSome]
  have h1 := webL_len l
  by_cases q : hasI (keysV (webL l)) n.d.id = true
  · rw [if_pos q]
    have q2 := (webL_keys l n.d.id).1 ((hasI_iff _ _).1 q)
    constructor
    · intro e; simp at e; omega
    · intro e
      exact absurd rfl (e.2.2 _ q2 n.d.id (by simp))
  · rw [if_neg q]
    have q2 : n.d.id ∉ l.map (·.d.id) := fun h => q ((hasI_iff _ _).2 ((webL_keys l _).2 h))
    constructor
    · intro e
      refine ⟨ih.1 (by simp at e; omega), by simp, fun a ha b hb r => ?_⟩
      have hb2 : b = n.d.id := by simpa using hb
      rw [r, hb2] at ha
      exact q2 ha
    · intro e
      have := ih.2 e.1
      simp; omega
end Go.Proofs.Ytlckjpjcfalfnaa
