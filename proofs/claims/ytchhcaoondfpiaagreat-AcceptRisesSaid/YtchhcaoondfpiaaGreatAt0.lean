/-
  Attributes, commands and known instances, as they lie in memory and as they come in.
-/
import Derived.Test.YtchhcaoondfpiaaGreatAcIa
import Derived.Test.YtchhcaoondfpiaaGreatRaw
import Derived.Test.YtchhcaoondfpiaaGreatAtM
import Derived.Test.YtchhcaoondfpiaaGreatBk
namespace Go.Proofs.YtchhcaoondfpiaaGreat
open Go.RowKit
set_option linter.unusedSimpArgs false
set_option linter.unusedVariables false
set_option maxRecDepth 100000

/-- Rows of raw elements, as rows of things whose cells are known. -/
theorem RowIs.typed {P : Program} {k : Nat} {R : Knd P (Cls k)} {α : Type} {S : Shp α} {K : Knd P α} {w : World} {v : Value} {rs : List (Cls k)} {l : List α} (h : RowIs R S w v rs l) (hR : R.enc = Cls.cs) (hS : ∀ w cs x, S.is w cs x → cs = K.enc x) : K.Rd w v l := by
  have e : R.row rs = K.row l := by
    unfold Knd.row
    rw [hR, List.flatMap_def, List.flatMap_def]
    congr 1
    refine List.ext_getElem (by simp [h.len]) fun j h1 h2 => ?_
    simp only [List.getElem_map]
    exact hS _ _ _ (h.at' j (by simpa using h1) (by simpa using h2))
  obtain ⟨a, c, hv, h1, h2, h3⟩ := h.rd
  rw [h.len] at hv h1
  refine ⟨a, c, hv, h1, h2, ?_⟩
  rw [e] at h3
  rcases h3 with h3 | h3
  · left
    have := h.len
    rw [h3] at this
    exact List.eq_nil_of_length_eq_zero this.symm
  · exact .inr h3
/-- The elements of a row, one by one. -/
theorem RowIs.el {P : Program} {k : Nat} {R : Knd P (Cls k)} (hR : R.enc = Cls.cs) {α : Type} {S : Shp α} {w : World} {a : Option Addr} {n c : Nat} {rs : List (Cls k)} {l : List α} (h : RowIs R S w (.slice a n c) rs l) (j : Nat) (hj : j < n) :
    n = l.length ∧ ∃ (hl : j < l.length) (g off : Nat) (cs : List Value), a = some ⟨g, off, none⟩ ∧ g < w.heap.size ∧ S.is w cs l[j] ∧ ∀ i u, cs[i]? = some u → w.cell? ⟨g, off + j * R.k + i, none⟩ = some u := by
  have hn : n = rs.length := by
    obtain ⟨a', c', e, _⟩ := h.rd
    simp only [Value.slice.injEq] at e
    exact e.2.1
  have hne : rs ≠ [] := by intro e; rw [e] at hn; simp at hn; omega
  obtain ⟨_, g, off, ha, hg, hc⟩ := h.rd.at hne
  have hjr : j < rs.length := by omega
  have hjl : j < l.length := by rw [← h.len]; exact hjr
  refine ⟨hn.trans h.len, hjl, g, off, rs[j].cs, ha, hg, h.at' j hjr hjl, fun i u hu => hc j hj i u ?_⟩
  have e1 : rs.getD j R.d = rs[j] := by simp [List.getD, hjr]
  rw [e1, hR]
  exact hu
theorem Opens.to {P : Program} {t : TypeId} {α β : Type} {S : Shp α} {R : Shp β} (h : Opens P t S) (f : α → β) (hi : ∀ w cs x, S.is w cs x → R.is w cs (f x)) : Opens P t R := .mk @fun H enc w base spare held fuel cs y hy => by
  obtain ⟨x, hx⟩ := h.go fuel cs y hy
  exact ⟨f x, hi _ _ _ hx⟩
theorem idE_one (x : I3) : ∀ v ∈ idE x, v.oneCell' = true := IK.one x
def idS : Shp I3 where
  is := fun _ cs x => cs = idE x ∧ okI x
  keep := fun h _ => h
  one := fun {w cs x} h => by rw [h.1]; exact idE_one x
theorem opens_id : Opens Tryz.prog 37 idS :=
  (opens_struct (P := Tryz.prog) (S := pairS intS (pairS intS intS)) Tryz.underlying37 (n := 3) (by kernel_rfl)
    (opensF_cons _ rfl rfl (k := 1) (by kernel_rfl) (opens_int Tryz.underlying3) (opensF_cons _ rfl rfl (k := 1) (by kernel_rfl) (opens_int Tryz.underlying3) (opensF_last _ rfl rfl (k := 1) (by kernel_rfl) rfl (opens_int Tryz.underlying3))))).to id
    (fun w cs x h => by
      obtain ⟨c1, c2, e, ⟨h1, w1⟩, d1, d2, e2, ⟨h2, w2⟩, h3, w3⟩ := h
      subst h1 h2 h3 e2
      exact ⟨e, w1, w2, w3⟩)
def clsI : Cls 3 := ⟨idE (0, 0, 0), rfl, idE_one _⟩
noncomputable def IR : Knd Tryz.prog (Cls 3) := rawK Tryz.prog 37 44 3 24 (.agg #[.int .i64 0, .int .i64 0, .int .i64 0]) Tryz.underlying44 (by kernel_rfl) rfl (by omega) (by omega) clsI
/-- A row of instances. -/
def idsS : Shp (List I3) where
  is := fun w cs l => ∃ v, cs = [v] ∧ IK.Rd w v l ∧ okL l
  keep := fun ⟨v, e, h, o⟩ hb => ⟨v, e, h.below hb, o⟩
  one := fun ⟨v, e, h, o⟩ u hu => by
    rw [e] at hu
    simp at hu
    subst hu
    obtain ⟨a, c, e2⟩ := h.slice
    subst e2
    rfl
theorem opens_ids : Opens Tryz.prog 44 idsS :=
  (opens_row IR rfl rfl rfl (by kernel_rfl) opens_id).to id (fun w cs l h => by
    obtain ⟨v, rs, e, hr⟩ := h
    refine ⟨v, e, hr.typed rfl (fun w cs x h => h.1), fun x hx => ?_⟩
    obtain ⟨j, hj, rfl⟩ := List.mem_iff_getElem.1 hx
    exact (hr.at' j (by rw [hr.len]; exact hj) hj).2)
/-- An attribute. -/
def atS : Shp At where
  is := fun w cs a => ∃ v, cs = [.int .i64 a.1, v] ∧ IK.Rd w v a.2 ∧ okL a.2
  keep := fun ⟨v, e, h, o⟩ hb => ⟨v, e, h.below hb, o⟩
  one := fun ⟨v, e, h, o⟩ u hu => by
    rw [e] at hu
    obtain ⟨a, c, e2⟩ := h.slice
    subst e2
    simp at hu
    rcases hu with rfl | rfl <;> rfl
theorem opens_at : Opens Tryz.prog 46 atS :=
  (opens_struct (P := Tryz.prog) (S := pairS intS idsS) Tryz.underlying46 (n := 2) (by kernel_rfl)
    (opensF_cons _ rfl rfl (k := 1) (by kernel_rfl) (opens_int Tryz.underlying3) (opensF_last _ rfl rfl (k := 1) (by kernel_rfl) rfl opens_ids))).to id
    (fun w cs x h => by
      obtain ⟨c1, c2, e, ⟨h1, _⟩, v, e2, h3, h4⟩ := h
      subst h1 e2
      exact ⟨v, e, h3, h4⟩)
def clsA : Cls 2 := ⟨[.int .i64 0, .slice none 0 0], rfl, fun v hv => by simp at hv; rcases hv with rfl | rfl <;> rfl⟩
noncomputable def AtK : Knd Tryz.prog (Cls 2) := rawK Tryz.prog 46 154 2 32 (.agg #[.int .i64 0, .slice none 0 0]) Tryz.underlying154 (by kernel_rfl) rfl (by omega) (by omega) clsA
/-- A command. -/
structure CM where
  cl : Int
  sq : Int
  op : Int
  pa : ByteArray
  va : ByteArray
  ver : Int
  a : Int
  b : Int
def cmE (t : CM) : List Value := [.int .i64 t.cl, .int .i64 t.sq, .int .i64 t.op, .string t.pa, .string t.va, .int .i64 t.ver, .int .i64 t.a, .int .i64 t.b]
theorem cmE_one (t : CM) : ∀ v ∈ cmE t, v.oneCell' = true := by
  intro v hv
  simp only [cmE, List.mem_cons, List.not_mem_nil, or_false] at hv
  rcases hv with rfl | rfl | rfl | rfl | rfl | rfl | rfl | rfl <;> rfl
def cmS : Shp CM where
  is := fun _ cs t => cs = cmE t
  keep := fun h _ => h
  one := fun {w cs x} h => by rw [h]; exact cmE_one x
theorem opens_cm : Opens Tryz.prog 43 cmS :=
  (opens_struct (P := Tryz.prog) (S := pairS intS (pairS intS (pairS intS (pairS strS (pairS strS (pairS intS (pairS intS intS))))))) Tryz.underlying43 (n := 8) (by kernel_rfl)
    (opensF_cons _ rfl rfl (k := 1) (by kernel_rfl) (opens_int Tryz.underlying3) (opensF_cons _ rfl rfl (k := 1) (by kernel_rfl) (opens_int Tryz.underlying3) (opensF_cons _ rfl rfl (k := 1) (by kernel_rfl) (opens_int Tryz.underlying41)
    (opensF_cons _ rfl rfl (k := 1) (by kernel_rfl) (opens_str Tryz.underlying9) (opensF_cons _ rfl rfl (k := 1) (by kernel_rfl) (opens_str Tryz.underlying9) (opensF_cons _ rfl rfl (k := 1) (by kernel_rfl) (opens_int Tryz.underlying3)
    (opensF_cons _ rfl rfl (k := 1) (by kernel_rfl) (opens_int Tryz.underlying3) (opensF_last _ rfl rfl (k := 1) (by kernel_rfl) rfl (opens_int Tryz.underlying3)))))))))).to (fun x => (⟨x.1, x.2.1, x.2.2.1, x.2.2.2.1, x.2.2.2.2.1, x.2.2.2.2.2.1, x.2.2.2.2.2.2.1, x.2.2.2.2.2.2.2⟩ : CM))
    (fun w cs x h => by
      obtain ⟨_, _, e, ⟨h1, _⟩, _, _, e2, ⟨h2, _⟩, _, _, e3, ⟨h3, _⟩, _, _, e4, ⟨h4, _⟩, _, _, e5, ⟨h5, _⟩, _, _, e6, ⟨h6, _⟩, _, _, e7, ⟨h7, _⟩, h8, _⟩ := h
      subst h1 h2 h3 h4 h5 h6 h7 h8 e7 e6 e5 e4 e3 e2
      exact e)
/-- An instance that is known. -/
structure Kn where
  id : I3
  cm : CM
  a : At
def knE (k : Kn) (v : Value) : List Value := idE k.id ++ (cmE k.cm ++ [.int .i64 k.a.1, v])
theorem knE_one {k : Kn} {v : Value} (hv : v.oneCell' = true) : ∀ u ∈ knE k v, u.oneCell' = true := by
  intro u hu
  unfold knE at hu
  rcases List.mem_append.1 hu with q | q
  · exact idE_one _ u q
  · rcases List.mem_append.1 q with q | q
    · exact cmE_one _ u q
    · simp at q
      rcases q with rfl | rfl
      · rfl
      · exact hv
def knS : Shp Kn where
  is := fun w cs k => ∃ v, cs = knE k v ∧ okI k.id ∧ IK.Rd w v k.a.2 ∧ okL k.a.2
  keep := fun ⟨v, e, i, h, o⟩ hb => ⟨v, e, i, h.below hb, o⟩
  one := fun {w cs k} ⟨v, e, i, h, o⟩ => by
    rw [e]
    obtain ⟨a, c, e2⟩ := h.slice
    subst e2
    exact knE_one rfl
theorem opens_kn : Opens Tryz.prog 67 knS :=
  (opens_struct (P := Tryz.prog) (S := pairS idS (pairS cmS atS)) Tryz.underlying67 (n := 13) (by kernel_rfl)
    (opensF_cons _ rfl rfl (k := 3) (by kernel_rfl) opens_id (opensF_cons _ rfl rfl (k := 8) (by kernel_rfl) opens_cm (opensF_last _ rfl rfl (k := 2) (by kernel_rfl) rfl opens_at)))).to (fun x => (⟨x.1, x.2.1, x.2.2⟩ : Kn))
    (fun w cs x h => by
      obtain ⟨c1, c2, e, ⟨h1, w1⟩, d1, d2, e2, h2, v, h3, h4, h5⟩ := h
      subst h1 h3 e2
      have h2 : d1 = cmE x.2.1 := h2
      subst h2
      exact ⟨v, e, w1, h4, h5⟩)
def kn0 : Kn := ⟨(0, 0, 0), ⟨0, 0, 0, ByteArray.empty, ByteArray.empty, 0, 0, 0⟩, (0, [])⟩
def clsK : Cls 13 := ⟨knE kn0 (.slice none 0 0), rfl, knE_one rfl⟩
noncomputable def KnK : Knd Tryz.prog (Cls 13) := rawK Tryz.prog 67 60 13 136 (.agg (knE kn0 (.slice none 0 0)).toArray) Tryz.underlying60 (by kernel_rfl) rfl (by omega) (by omega) clsK
theorem opens_kns : Opens Tryz.prog 60 (rowS KnK knS) := opens_row KnK rfl rfl rfl (by kernel_rfl) opens_kn
/-- An attribute that came in. -/
theorem at_of_arg {H : Type} {enc : TypeId × Value → H} {w : World} {r : Reach} {b0 base : Nat} {spare : Nat → Bool} {held : Bool} {v : Value} {d : DataW H} {p : List MemPlace}
    (hv : Value.okWide Tryz.prog w r b0 46 v) (h : DataW.Trod enc Tryz.prog w base spare held 46 v d p) : ∃ s u l, v = .agg #[.int .i64 s, u] ∧ IK.Rd w u l ∧ okL l := by
  obtain ⟨cs, x, rfl, u, hu, h1, h2⟩ := arg_struct Tryz.underlying46 opens_at hv h
  refine ⟨x.1, u, x.2, ?_, h1, h2⟩
  cases cs
  simp at hu
  rw [hu]
theorem kn_of_arg {H : Type} {enc : TypeId × Value → H} {w : World} {r : Reach} {b0 base : Nat} {spare : Nat → Bool} {held : Bool} {v : Value} {d : DataW H} {p : List MemPlace}
    (hv : Value.okWide Tryz.prog w r b0 67 v) (h : DataW.Trod enc Tryz.prog w base spare held 67 v d p) : ∃ (k : Kn) (u : Value), v = .agg (knE k u).toArray ∧ okI k.id ∧ IK.Rd w u k.a.2 ∧ okL k.a.2 := by
  obtain ⟨cs, x, rfl, u, hu, h0, h1, h2⟩ := arg_struct Tryz.underlying67 opens_kn hv h
  refine ⟨x, u, ?_, h0, h1, h2⟩
  cases cs
  simp at hu
  rw [hu]
theorem kns_of_arg {H : Type} {enc : TypeId × Value → H} {w : World} {r : Reach} {b0 base : Nat} {spare : Nat → Bool} {held : Bool} {v : Value} {d : DataW H} {p : List MemPlace}
    (hv : Value.okWide Tryz.prog w r b0 60 v) (h : DataW.Trod enc Tryz.prog w base spare held 60 v d p) : ∃ rs l, RowIs KnK knS w v rs l :=
  arg_row Tryz.underlying60 opens_kns hv h
end Go.Proofs.YtchhcaoondfpiaaGreat
