/-
  Rows of elements that are told by their cells alone; what cells read as; whatever came in, opened.
-/
import Derived.Test.YtllcmapgigfgoaaRow
import Derived.ProofKit
import Derived.OpenShut
import Derived.Lib.SmallJoins
import Derived.Deep.Slices
import Derived.Deep.Fields
import Derived.ChangeSame
namespace Go.Proofs.Ytllcmapgigfgoaa
open Go.ChangeShapes Go.WideShapes Go.ChangeAt Go.RowKit Go.Joins Go.Deep
set_option linter.unusedSimpArgs false
set_option linter.unusedVariables false

/-- Cells of one element. -/
structure Cls (k : Nat) where
  cs : List Value
  len : cs.length = k
  one : ∀ v ∈ cs, v.oneCell' = true
/-- Rows of elements of k cells, whatever they are. -/
def rawK (P : Program) (T S : TypeId) (k B : Nat) (z : Value) (und : P.underlying S = some (.slice T)) (info : (P.info? T).map (fun i => (i.zero, i.size, i.bytes)) = some (some z, k, B)) (zc : z.cells.size = k) (pos : 0 < k) (small : B ≤ 100000) (d : Cls k) : Knd P (Cls k) where
  T := T
  S := S
  k := k
  enc := Cls.cs
  z := z
  B := B
  len := Cls.len
  one := fun x v h => x.one v h
  und := und
  info := info
  zc := zc
  pos := pos
  small := small
  d := d
/-- What cells read as, in a world. -/
structure Shp (α : Type) where
  is : World → List Value → α → Prop
  keep : ∀ {w w' : World} {cs : List Value} {x : α}, is w cs x → Below w.heap.size w w' → is w' cs x
  one : ∀ {w : World} {cs : List Value} {x : α}, is w cs x → ∀ v ∈ cs, v.oneCell' = true
def intS : Shp Int where
  is := fun _ cs n => cs = [.int .i64 n] ∧ (Lit.int .i64 n).wf = true
  keep := fun h _ => h
  one := fun h v hv => by rw [h.1] at hv; simp at hv; subst hv; rfl
def strS : Shp ByteArray where
  is := fun _ cs s => cs = [.string s] ∧ s.size ≤ maxLen
  keep := fun h _ => h
  one := fun h v hv => by rw [h.1] at hv; simp at hv; subst hv; rfl
def boolS : Shp Bool where
  is := fun _ cs b => cs = [.bool b]
  keep := fun h _ => h
  one := fun h v hv => by rw [h] at hv; simp at hv; subst hv; rfl
/-- Two, one behind the other. -/
def pairS {α β : Type} (S : Shp α) (R : Shp β) : Shp (α × β) where
  is := fun w cs x => ∃ c1 c2, cs = c1 ++ c2 ∧ S.is w c1 x.1 ∧ R.is w c2 x.2
  keep := fun ⟨c1, c2, e, h1, h2⟩ hb => ⟨c1, c2, e, S.keep h1 hb, R.keep h2 hb⟩
  one := fun ⟨c1, c2, e, h1, h2⟩ v hv => by
    rw [e] at hv
    rcases List.mem_append.1 hv with q | q
    · exact S.one h1 v q
    · exact R.one h2 v q
/-- As another thing. -/
def mapS {α β : Type} (S : Shp α) (f : α → β) : Shp β where
  is := fun w cs y => ∃ x, f x = y ∧ S.is w cs x
  keep := fun ⟨x, e, h⟩ hb => ⟨x, e, S.keep h hb⟩
  one := fun ⟨x, e, h⟩ => S.one h
/-- A row of elements, each of which reads as its thing. -/
structure RowIs {P : Program} {k : Nat} (K : Knd P (Cls k)) {α : Type} (S : Shp α) (w : World) (v : Value) (rs : List (Cls k)) (l : List α) : Prop where
  rd : K.Rd w v rs
  len : rs.length = l.length
  at' : ∀ (j : Nat) (h : j < rs.length) (h2 : j < l.length), S.is w rs[j].cs l[j]
theorem RowIs.on {P : Program} {k : Nat} {K : Knd P (Cls k)} {α : Type} {S : Shp α} {w w' : World} {v : Value} {rs : List (Cls k)} {l : List α} (h : RowIs K S w v rs l) (hb : Below w.heap.size w w') : RowIs K S w' v rs l :=
  ⟨h.rd.below hb, h.len, fun j h1 h2 => S.keep (h.at' j h1 h2) hb⟩
def rowS {P : Program} {k : Nat} (K : Knd P (Cls k)) {α : Type} (S : Shp α) : Shp (List α) where
  is := fun w cs l => ∃ v rs, cs = [v] ∧ RowIs K S w v rs l
  keep := fun ⟨v, rs, e, h⟩ hb => ⟨v, rs, e, h.on hb⟩
  one := fun ⟨v, rs, e, h⟩ u hu => by
    rw [e] at hu
    simp at hu
    subst hu
    obtain ⟨a, c, e2⟩ := h.rd.slice
    subst e2
    rfl
/-- What came in of a type reads so. -/
structure Opens (P : Program) (t : TypeId) {α : Type} (S : Shp α) : Prop where
  go : ∀ {H : Type} {enc : TypeId × Value → H} {w : World} {base : Nat} {spare : Nat → Bool} {held : Bool} (fuel : Nat) (cs : List Value) (y : DataW H × List MemPlace),
    DataW.trod enc P w base spare held fuel t cs = some y → ∃ x, S.is w cs x
theorem opens_int {P : Program} {t : TypeId} (ht : P.underlying t = some (.int .i64)) : Opens P t intS := .mk fun fuel cs y h => by
  obtain ⟨n, e, _, hw⟩ := DataW.trod_int ht h
  exact ⟨n, e, hw⟩
theorem opens_str {P : Program} {t : TypeId} (ht : P.underlying t = some .string) : Opens P t strS := .mk fun fuel cs y h => by
  obtain ⟨s, e, _, hw⟩ := DataW.trod_string ht h
  exact ⟨s, e, hw⟩
theorem opens_bool {P : Program} {t : TypeId} (ht : P.underlying t = some .bool) : Opens P t boolS := .mk fun fuel cs y h => by
  obtain ⟨b, e, _⟩ := DataW.trod_bool ht h
  exact ⟨b, e⟩
theorem Opens.map {P : Program} {t : TypeId} {α β : Type} {S : Shp α} (h : Opens P t S) (f : α → β) : Opens P t (mapS S f) := .mk fun fuel cs y hy => by
  obtain ⟨x, hx⟩ := h.go fuel cs y hy
  exact ⟨f x, x, rfl, hx⟩
/-- Fields of a struct from the j-th on read so. -/
structure OpensF (P : Program) (fs : Array Field) (n j off : Nat) {α : Type} (S : Shp α) : Prop where
  go : ∀ {H : Type} {enc : TypeId × Value → H} {w : World} {base : Nat} {spare : Nat → Bool} {held : Bool} (m : Nat) (cs : List Value), cs.length = n →
    (∀ (i : Nat) (f : Field), fs[i]? = some f → ∃ y, DataW.trod enc P w base spare held m f.type ((cs.drop f.offset).take (P.cellsOf f.type)) = some y) → ∃ x, S.is w (cs.drop off) x
theorem opensF_last {P : Program} {fs : Array Field} {n j off k : Nat} {α : Type} {S : Shp α} (f : Field) (hf : fs[j]? = some f) (ho : f.offset = off) (hk : P.cellsOf f.type = k) (hn : off + k = n) (h : Opens P f.type S) : OpensF P fs n j off S := .mk fun m cs hc hh => by
  obtain ⟨y, hy⟩ := hh j f hf
  rw [ho, hk, List.take_of_length_le (by rw [List.length_drop]; omega)] at hy
  exact h.go _ _ _ hy
theorem opensF_cons {P : Program} {fs : Array Field} {n j off k : Nat} {α β : Type} {S : Shp α} {R : Shp β} (f : Field) (hf : fs[j]? = some f) (ho : f.offset = off) (hk : P.cellsOf f.type = k) (h : Opens P f.type S) (ht : OpensF P fs n (j + 1) (off + k) R) : OpensF P fs n j off (pairS S R) := .mk fun m cs hc hh => by
  obtain ⟨y, hy⟩ := hh j f hf
  rw [ho, hk] at hy
  obtain ⟨x1, h1⟩ := h.go _ _ _ hy
  obtain ⟨x2, h2⟩ := ht.go m cs hc hh
  refine ⟨(x1, x2), (cs.drop off).take k, cs.drop (off + k), ?_, h1, h2⟩
  rw [← List.drop_drop, List.take_append_drop]
theorem opens_struct {P : Program} {t : TypeId} {fs : Array Field} {n : Nat} {α : Type} {S : Shp α} (ht : P.underlying t = some (.struct fs)) (hC : P.cellsOf t = n) (h : OpensF P fs n 0 0 S) : Opens P t S := .mk fun fuel cs y hy => by
  obtain ⟨ys, n', _, _, hlen, hyl, hf⟩ := DataW.trod_struct ht hy
  obtain ⟨x, hx⟩ := h.go n' cs (by rw [hlen, hC]) (fun i f hi => by
    have hil : i < fs.size := (Array.getElem?_eq_some_iff.1 hi).1
    have hys : ys[i]? = some (ys[i]'(by omega)) := List.getElem?_eq_getElem (by omega)
    exact ⟨_, (hf i f hi).trans hys⟩)
  exact ⟨x, by simpa using hx⟩
theorem list_ofR {α : Type} {Pr : Nat → α → Prop} : ∀ n, (∀ i, i < n → ∃ t, Pr i t) → ∃ ts : List α, ts.length = n ∧ ∀ i (h : i < ts.length), Pr i ts[i]
  | 0, _ => ⟨[], rfl, fun i h => by simp at h⟩
  | n + 1, h => by
    obtain ⟨ts, h1, h2⟩ := list_ofR n (fun i hi => h i (by omega))
    obtain ⟨t, ht⟩ := h n (by omega)
    refine ⟨ts ++ [t], by simp [h1], fun i hi => ?_⟩
    by_cases q : i < n
    · rw [List.getElem_append_left (by omega)]
      exact h2 i (by omega)
    · have : i = n := by simp [h1] at hi; omega
      subst this
      rw [List.getElem_append_right (by omega)]
      simpa [h1] using ht
theorem opens_row {P : Program} {s : TypeId} {k : Nat} (K : Knd P (Cls k)) (hK : K.k = k) (hE : K.enc = Cls.cs) (hS : K.S = s) {α : Type} {S : Shp α} (hC : P.cellsOf K.T = k) (h : Opens P K.T S) : Opens P s (rowS K S) := .mk @fun H enc w base spare held fuel cs y hy => by
  rcases open_slice (hS ▸ K.und) hy with ⟨rfl, _⟩ | ⟨a, len, cap, m, n, D, Pl, rfl, hb, hl, hm, hmm, _, hi⟩
  · exact ⟨[], _, [], rfl, Knd.Rd.nil _, rfl, fun j h1 => by simp at h1⟩
  · have hlm : len ≤ m := by rw [hmm]; split <;> omega
    have key : ∀ i, i < len → ∃ t : Cls k × α, (∀ j u, t.1.cs[j]? = some u → w.cell? ((a.add (i * k)).add j) = some u) ∧ S.is w t.1.cs t.2 := by
      intro i hil
      obtain ⟨cs', hc, ht'⟩ := hi i (by omega)
      rw [hC] at hc
      obtain ⟨_, hcl, hat⟩ := World.cells?_some hc
      obtain ⟨x, hx⟩ := h.go _ _ _ ht'
      refine ⟨(⟨cs', hcl, S.one hx⟩, x), fun j u hu => ?_, hx⟩
      have hj : j < k := by have h1 : j < cs'.length := (List.getElem?_eq_some_iff.1 hu).1; rw [hcl] at h1; exact h1
      exact (hat j hj).trans hu
    obtain ⟨ts, hts, hp⟩ := list_ofR len key
    subst hts
    refine ⟨ts.map (·.2), _, ts.map (·.1), rfl, ⟨some a, cap, by rw [List.length_map], by rw [List.length_map]; exact Nat.le_trans hl hm, (fun q => by cases q), ?_⟩, by simp, fun j h1 h2 => ?_⟩
    · by_cases h0 : ts = []
      · left; rw [h0]; rfl
      · right
        have hpos : 0 < ts.length := List.length_pos_iff.2 h0
        have hk := K.pos
        rw [hK] at hk
        obtain ⟨b, off, spot⟩ := a
        have hc0 := (hp 0 hpos).1 0 (ts[0].1.cs[0]'(by rw [ts[0].1.len]; exact hk)) (List.getElem?_eq_getElem _)
        have hspot : spot = none := by simpa [Addr.add] using World.cell?_spot hc0
        subst hspot
        refine ⟨b, off, rfl, ?_, fun t u hu => ?_⟩
        · by_cases g : b < w.heap.size
          · exact g
          · exfalso
            have e : w.heap[b]? = none := by simp; omega
            simp [World.cell?, Addr.add, e] at hc0
        · have ht : t < (K.row (ts.map (·.1))).length := (List.getElem?_eq_some_iff.1 hu).1
          rw [K.row_flat _ t ht] at hu
          rw [K.row_len, List.length_map, hK] at ht
          rw [hE, hK] at hu
          have hil : t / k < ts.length := by rw [Nat.div_lt_iff_lt_mul hk]; exact ht
          have e1 : (ts.map (·.1)).getD (t / k) K.d = ts[t / k].1 := by simp [List.getD, hil]
          rw [e1] at hu
          have h1 := (hp (t / k) hil).1 (t % k) u hu
          rw [Go.Deep.add_add] at h1
          have hdm : t / k * k + t % k = t := by rw [Nat.mul_comm]; exact Nat.div_add_mod t k
          rw [hdm] at h1
          by_cases h0 : t = 0
          · subst h0; simpa [Addr.add] using h1
          · simpa [Addr.add, h0] using h1
    · have h1' : j < ts.length := by simpa using h1
      simpa using (hp j h1').2
/-- A struct that came in. -/
theorem arg_struct {P : Program} {H : Type} {enc : TypeId × Value → H} {w : World} {base : Nat} {spare : Nat → Bool} {held : Bool} {r : Reach} {b0 : Nat} {t : TypeId} {fs : Array Field} {v : Value} {d : DataW H} {p : List MemPlace} {α : Type} {S : Shp α} (hs : P.underlying t = some (.struct fs)) (hO : Opens P t S)
    (hv : Value.okWide P w r b0 t v) (h : DataW.Trod enc P w base spare held t v d p) : ∃ cs x, v = .agg cs ∧ S.is w cs.toList x := by
  obtain ⟨cs, rfl, hsz⟩ := okWide_struct hs hv
  obtain ⟨fuel, hf⟩ := h
  obtain ⟨x, hx⟩ := hO.go fuel _ _ hf
  exact ⟨cs, x, rfl, by simpa [Value.cells] using hx⟩
/-- A row that came in. -/
theorem arg_row {P : Program} {H : Type} {enc : TypeId × Value → H} {w : World} {base : Nat} {spare : Nat → Bool} {held : Bool} {r : Reach} {b0 : Nat} {s e : TypeId} {v : Value} {d : DataW H} {p : List MemPlace} {k : Nat} {K : Knd P (Cls k)} {α : Type} {S : Shp α} (hs : P.underlying s = some (.slice e)) (hO : Opens P s (rowS K S))
    (hv : Value.okWide P w r b0 s v) (h : DataW.Trod enc P w base spare held s v d p) : ∃ rs l, RowIs K S w v rs l := by
  obtain ⟨a0, len0, cap0, rfl⟩ := okWide_slice hs hv
  obtain ⟨fuel, hf⟩ := h
  obtain ⟨l, v', rs, hc, hr⟩ := hO.go fuel _ _ hf
  simp [Value.cells] at hc
  subst hc
  exact ⟨rs, l, hr⟩
end Go.Proofs.Ytllcmapgigfgoaa
