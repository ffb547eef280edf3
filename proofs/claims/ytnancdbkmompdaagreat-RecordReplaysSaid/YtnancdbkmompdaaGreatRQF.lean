/-
  Texts put together: Raw, Cd4, Cd5.
-/
import Derived.Test.YtnancdbkmompdaaGreatRY
import Derived.Test.YtnancdbkmompdaaGreatRQD
import Derived.ProofKit
import Derived.OpenShut
import Derived.Lib.SmallJoins
import Derived.Deep.Slices
import Derived.Deep.Fields
import Derived.ChangeSame
import Derived.Test.YtnancdbkmompdaaGreatRQE
namespace Go.Proofs.YtnancdbkmompdaaGreat
open Go.ChangeShapes Go.WideShapes Go.ChangeAt Go.RowKit Go.Joins Go.Deep
set_option linter.unusedSimpArgs false
set_option linter.unusedVariables false
set_option maxRecDepth 100000
set_option maxHeartbeats 40000000
/-- Cells of one element. -/
structure Cls (k : Nat) where
 cs : List Value
 len : cs.length = k
 one : ∀ v ∈ cs, v.oneCell' = true
/-- Rows of elements of k cells, whatever they are. -/
def rawK (P : Program) (T S : TypeId) (k B : Nat) (z : Value) (und : P.underlying S = some (.slice T)) (info : (P.info? T).map (fun i => (i.zero, i.size, i.bytes)) = some (some z, k, B)) (zc : z.cells.size = k) (pos : 0 < k) (small : B ≤ 100000) (d : Cls k) : Knd P (Cls k) where
 T := T
 S := S
 k := k
 enc := Cls.cs
 z := z
 B := B
 len := Cls.len
 one := fun x v h => x.one v h
 und := und
 info := info
 zc := zc
 pos := pos
 small := small
 d := d
/-- What cells read as, in a world. -/
structure Shp (α : Type) where
 is : World → List Value → α → Prop
 keep : ∀ {w w' : World} {cs : List Value} {x : α}, is w cs x → Below w.heap.size w w' → is w' cs x
 one : ∀ {w : World} {cs : List Value} {x : α}, is w cs x → ∀ v ∈ cs, v.oneCell' = true
def intS : Shp Int where
 is := fun _ cs n => cs = [.int .i64 n] ∧ (Lit.int .i64 n).wf = true
 keep := fun h _ => h
 one := fun h v hv => by rw [h.1] at hv; simp at hv; subst hv; rfl
def strS : Shp ByteArray where
 is := fun _ cs s => cs = [.string s] ∧ s.size ≤ maxLen
 keep := fun h _ => h
 one := fun h v hv => by rw [h.1] at hv; simp at hv; subst hv; rfl
def boolS : Shp Bool where
 is := fun _ cs b => cs = [.bool b]
 keep := fun h _ => h
 one := fun h v hv => by rw [h] at hv; simp at hv; subst hv; rfl
/-- Two, one behind the other. -/
def pairS {α β : Type} (S : Shp α) (R : Shp β) : Shp (α × β) where
 is := fun w cs x => ∃ c1 c2, cs = c1 ++ c2 ∧ S.is w c1 x.1 ∧ R.is w c2 x.2
 keep := fun ⟨c1, c2, e, h1, h2⟩ hb => ⟨c1, c2, e, S.keep h1 hb, R.keep h2 hb⟩
 one := fun ⟨c1, c2, e, h1, h2⟩ v hv => by
  rw [e] at hv
  rcases List.mem_append.1 hv with q | q
  ·exact S.one h1 v q
  ·exact R.one h2 v q
/-- A row of elements, each of which reads as its thing. -/
structure RowIs {P : Program} {k : Nat} (K : Knd P (Cls k)) {α : Type} (S : Shp α) (w : World) (v : Value) (rs : List (Cls k)) (l : List α) : Prop where
 rd : K.Rd w v rs
 len : rs.length = l.length
 at' : ∀ (j : Nat) (h : j < rs.length) (h2 : j < l.length), S.is w rs[j].cs l[j]
theorem RowIs.on {P : Program} {k : Nat} {K : Knd P (Cls k)} {α : Type} {S : Shp α} {w w' : World} {v : Value} {rs : List (Cls k)} {l : List α} (h : RowIs K S w v rs l) (hb : Below w.heap.size w w') : RowIs K S w' v rs l :=
 ⟨h.rd.below hb, h.len, fun j h1 h2 => S.keep (h.at' j h1 h2) hb⟩
def rowS {P : Program} {k : Nat} (K : Knd P (Cls k)) {α : Type} (S : Shp α) : Shp (List α) where
 is := fun w cs l => ∃ v rs, cs = [v] ∧ RowIs K S w v rs l
 keep := fun ⟨v, rs, e, h⟩ hb => ⟨v, rs, e, h.on hb⟩
 one := fun ⟨v, rs, e, h⟩ u hu => by
  rw [e] at hu
  simp at hu
  subst hu
  obtain ⟨a, c, e2⟩ := h.rd.slice
  subst e2
  rfl
/-- What came in of a type reads so. -/
structure Opens (P : Program) (t : TypeId) {α : Type} (S : Shp α) : Prop where
 go : ∀ {H : Type} {enc : TypeId × Value → H} {w : World} {base : Nat} {spare : Nat → Bool} {held : Bool} (fuel : Nat) (cs : List Value) (y : DataW H × List MemPlace),
  DataW.trod enc P w base spare held fuel t cs = some y → ∃ x, S.is w cs x
theorem opens_int {P : Program} {t : TypeId} (ht : P.underlying t = some (.int .i64)) : Opens P t intS := .mk fun fuel cs y h => by
 obtain ⟨n, e, _, hw⟩ := DataW.trod_int ht h
 exact ⟨n, e, hw⟩
theorem opens_str {P : Program} {t : TypeId} (ht : P.underlying t = some .string) : Opens P t strS := .mk fun fuel cs y h => by
 obtain ⟨s, e, _, hw⟩ := DataW.trod_string ht h
 exact ⟨s, e, hw⟩
/-- Fields of a struct from the j-th on read so. -/
structure OpensF (P : Program) (fs : Array Field) (n j off : Nat) {α : Type} (S : Shp α) : Prop where
 go : ∀ {H : Type} {enc : TypeId × Value → H} {w : World} {base : Nat} {spare : Nat → Bool} {held : Bool} (m : Nat) (cs : List Value), cs.length = n →
  (∀ (i : Nat) (f : Field), fs[i]? = some f → ∃ y, DataW.trod enc P w base spare held m f.type ((cs.drop f.offset).take (P.cellsOf f.type)) = some y) → ∃ x, S.is w (cs.drop off) x
theorem opensF_last {P : Program} {fs : Array Field} {n j off k : Nat} {α : Type} {S : Shp α} (f : Field) (hf : fs[j]? = some f) (ho : f.offset = off) (hk : P.cellsOf f.type = k) (hn : off + k = n) (h : Opens P f.type S) : OpensF P fs n j off S := .mk fun m cs hc hh => by
 obtain ⟨y, hy⟩ := hh j f hf
 rw [ho, hk, List.take_of_length_le (by rw [List.length_drop]; omega)] at hy
 exact h.go _ _ _ hy
theorem opensF_cons {P : Program} {fs : Array Field} {n j off k : Nat} {α β : Type} {S : Shp α} {R : Shp β} (f : Field) (hf : fs[j]? = some f) (ho : f.offset = off) (hk : P.cellsOf f.type = k) (h : Opens P f.type S) (ht : OpensF P fs n (j + 1) (off + k) R) : OpensF P fs n j off (pairS S R) := .mk fun m cs hc hh => by
 obtain ⟨y, hy⟩ := hh j f hf
 rw [ho, hk] at hy
 obtain ⟨x1, h1⟩ := h.go _ _ _ hy
 obtain ⟨x2, h2⟩ := ht.go m cs hc hh
 refine ⟨(x1, x2), (cs.drop off).take k, cs.drop (off + k), ?_, h1, h2⟩
 rw [← List.drop_drop, List.take_append_drop]
theorem opens_struct {P : Program} {t : TypeId} {fs : Array Field} {n : Nat} {α : Type} {S : Shp α} (ht : P.underlying t = some (.struct fs)) (hC : P.cellsOf t = n) (h : OpensF P fs n 0 0 S) : Opens P t S := .mk fun fuel cs y hy => by
 obtain ⟨ys, n', _, _, hlen, hyl, hf⟩ := DataW.trod_struct ht hy
 obtain ⟨x, hx⟩ := h.go n' cs (by rw [hlen, hC]) (fun i f hi => by
  have hil : i < fs.size := (Array.getElem?_eq_some_iff.1 hi).1
  have hys : ys[i]? = some (ys[i]'(by omega)) := List.getElem?_eq_getElem (by omega)
  exact ⟨_, (hf i f hi).trans hys⟩)
 exact ⟨x, by simpa using hx⟩
theorem list_ofR {α : Type} {Pr : Nat → α → Prop} : ∀ n, (∀ i, i < n → ∃ t, Pr i t) → ∃ ts : List α, ts.length = n ∧ ∀ i (h : i < ts.length), Pr i ts[i]
 | 0, _ => ⟨[], rfl, fun i h => by simp at h⟩
 | n + 1, h => by
  obtain ⟨ts, h1, h2⟩ := list_ofR n (fun i hi => h i (by omega))
  obtain ⟨t, ht⟩ := h n (by omega)
  refine ⟨ts ++ [t], by simp [h1], fun i hi => ?_⟩
  by_cases q : i < n
  ·rw [List.getElem_append_left (by omega)]
   exact h2 i (by omega)
  ·have : i = n := by simp [h1] at hi; omega
   subst this
   rw [List.getElem_append_right (by omega)]
   simpa [h1] using ht
theorem opens_row {P : Program} {s : TypeId} {k : Nat} (K : Knd P (Cls k)) (hK : K.k = k) (hE : K.enc = Cls.cs) (hS : K.S = s) {α : Type} {S : Shp α} (hC : P.cellsOf K.T = k) (h : Opens P K.T S) : Opens P s (rowS K S) := .mk @fun H enc w base spare held fuel cs y hy => by
 rcases open_slice (hS ▸ K.und) hy with ⟨rfl, _⟩ | ⟨a, len, cap, m, n, D, Pl, rfl, hb, hl, hm, hmm, _, hi⟩
 ·exact ⟨[], _, [], rfl, Knd.Rd.nil _, rfl, fun j h1 => by simp at h1⟩
 ·have hlm : len ≤ m := by rw [hmm]; split <;> omega
  have key : ∀ i, i < len → ∃ t : Cls k × α, (∀ j u, t.1.cs[j]? = some u → w.cell? ((a.add (i * k)).add j) = some u) ∧ S.is w t.1.cs t.2 := by
   intro i hil
   obtain ⟨cs', hc, ht'⟩ := hi i (by omega)
   rw [hC] at hc
   obtain ⟨_, hcl, hat⟩ := World.cells?_some hc
   obtain ⟨x, hx⟩ := h.go _ _ _ ht'
   refine ⟨(⟨cs', hcl, S.one hx⟩, x), fun j u hu => ?_, hx⟩
   have hj : j < k := by have h1 : j < cs'.length := (List.getElem?_eq_some_iff.1 hu).1; rw [hcl] at h1; exact h1
   exact (hat j hj).trans hu
  obtain ⟨ts, hts, hp⟩ := list_ofR len key
  subst hts
  refine ⟨ts.map (·.2), _, ts.map (·.1), rfl, ⟨some a, cap, by rw [List.length_map], by rw [List.length_map]; exact Nat.le_trans hl hm, (fun q => by cases q), ?_⟩, by simp, fun j h1 h2 => ?_⟩
  ·by_cases h0 : ts = []
   ·left; rw [h0]; rfl
   ·right
    have hpos : 0 < ts.length := List.length_pos_iff.2 h0
    have hk := K.pos
    rw [hK] at hk
    obtain ⟨b, off, spot⟩ := a
    have hc0 := (hp 0 hpos).1 0 (ts[0].1.cs[0]'(by rw [ts[0].1.len]; exact hk)) (List.getElem?_eq_getElem _)
    have hspot : spot = none := by simpa [Addr.add] using World.cell?_spot hc0
    subst hspot
    refine ⟨b, off, rfl, ?_, fun t u hu => ?_⟩
    ·by_cases g : b < w.heap.size
     ·exact g
     ·exfalso
      have e : w.heap[b]? = none := by simp; omega
      simp [World.cell?, Addr.add, e] at hc0
    ·have ht : t < (K.row (ts.map (·.1))).length := (List.getElem?_eq_some_iff.1 hu).1
     rw [K.row_flat _ t ht] at hu
     rw [K.row_len, List.length_map, hK] at ht
     rw [hE, hK] at hu
     have hil : t / k < ts.length := by rw [Nat.div_lt_iff_lt_mul hk]; exact ht
     have e1 : (ts.map (·.1)).getD (t / k) K.d = ts[t / k].1 := by simp [List.getD, hil]
     rw [e1] at hu
     have h1 := (hp (t / k) hil).1 (t % k) u hu
     rw [Go.Deep.add_add] at h1
     have hdm : t / k * k + t % k = t := by rw [Nat.mul_comm]; exact Nat.div_add_mod t k
     rw [hdm] at h1
     by_cases h0 : t = 0
     ·subst h0; simpa [Addr.add] using h1
     ·simpa [Addr.add, h0] using h1
  ·have h1' : j < ts.length := by simpa using h1
   simpa using (hp j h1').2
/-- A struct that came in. -/
theorem arg_struct {P : Program} {H : Type} {enc : TypeId × Value → H} {w : World} {base : Nat} {spare : Nat → Bool} {held : Bool} {r : Reach} {b0 : Nat} {t : TypeId} {fs : Array Field} {v : Value} {d : DataW H} {p : List MemPlace} {α : Type} {S : Shp α} (hs : P.underlying t = some (.struct fs)) (hO : Opens P t S)
  (hv : Value.okWide P w r b0 t v) (h : DataW.Trod enc P w base spare held t v d p) : ∃ cs x, v = .agg cs ∧ S.is w cs.toList x := by
 obtain ⟨cs, rfl, hsz⟩ := okWide_struct hs hv
 obtain ⟨fuel, hf⟩ := h
 obtain ⟨x, hx⟩ := hO.go fuel _ _ hf
 exact ⟨cs, x, rfl, by simpa [Value.cells] using hx⟩
/-- The elements of a row, one by one. -/
theorem RowIs.el {P : Program} {k : Nat} {R : Knd P (Cls k)} (hR : R.enc = Cls.cs) {α : Type} {S : Shp α} {w : World} {a : Option Addr} {n c : Nat} {rs : List (Cls k)} {l : List α} (h : RowIs R S w (.slice a n c) rs l) (j : Nat) (hj : j < n) :
  n = l.length ∧ ∃ (hl : j < l.length) (g off : Nat) (cs : List Value), a = some ⟨g, off, none⟩ ∧ g < w.heap.size ∧ S.is w cs l[j] ∧ ∀ i u, cs[i]? = some u → w.cell? ⟨g, off + j * R.k + i, none⟩ = some u := by
 have hn : n = rs.length := by
  obtain ⟨a', c', e, _⟩ := h.rd
  simp only [Value.slice.injEq] at e
  exact e.2.1
 have hne : rs ≠ [] := by intro e; rw [e] at hn; simp at hn; omega
 obtain ⟨_, g, off, ha, hg, hc⟩ := h.rd.at hne
 have hjr : j < rs.length := by omega
 have hjl : j < l.length := by rw [← h.len]; exact hjr
 refine ⟨hn.trans h.len, hjl, g, off, rs[j].cs, ha, hg, h.at' j hjr hjl, fun i u hu => hc j hj i u ?_⟩
 have e1 : rs.getD j R.d = rs[j] := by simp [List.getD, hjr]
 rw [e1, hR]
 exact hu
/-- The same, at a later world. -/
theorem RowIs.el2 {P : Program} {k : Nat} {R : Knd P (Cls k)} (hR : R.enc = Cls.cs) {α : Type} {S : Shp α} {W w : World} {a : Option Addr} {n c : Nat} {rs : List (Cls k)} {l : List α} (h : RowIs R S W (.slice a n c) rs l) (hb : Below W.heap.size W w) (j : Nat) (hj : j < n) :
  ∃ (hl : j < l.length) (g off : Nat) (cs : List Value), a = some ⟨g, off, none⟩ ∧ g < w.heap.size ∧ S.is W cs l[j] ∧ ∀ i u, cs[i]? = some u → w.cell? ⟨g, off + j * R.k + i, none⟩ = some u := by
 obtain ⟨_, hl, g, off, cs, ha, hg, hcs, hc⟩ := h.el hR j hj
 exact ⟨hl, g, off, cs, ha, Nat.lt_of_lt_of_le hg hb.size, hcs, fun i u hu => (hb.cell (p := ⟨g, off + j * R.k + i, none⟩) hg).trans (hc i u hu)⟩
theorem Opens.to {P : Program} {t : TypeId} {α β : Type} {S : Shp α} {R : Shp β} (h : Opens P t S) (f : α → β) (hi : ∀ w cs x, S.is w cs x → R.is w cs (f x)) : Opens P t R := .mk @fun H enc w base spare held fuel cs y hy => by
 obtain ⟨x, hx⟩ := h.go fuel cs y hy
 exact ⟨f x, hi _ _ _ hx⟩
def idE (x : Id3) : List Value := [.int .i64 x.1, .int .i64 x.2.1, .int .i64 x.2.2]
def enE (x : Ent) : List Value := [.string x.1, .string x.2.1, .int .i64 x.2.2]
def seE (x : Ses) (v : Value) : List Value := [.int .i64 x.1, .int .i64 x.2.1, .int .i64 x.2.2.1, .string x.2.2.2.1, .int .i64 x.2.2.2.2.1, v]
def numS : Shp Int where
 is := fun _ cs n => cs = [.int .i64 n]
 keep := fun h _ => h
 one := fun h v hv => by rw [h] at hv; simp at hv; subst hv; rfl
def txS : Shp ByteArray where
 is := fun _ cs n => cs = [.string n] ∧ n.size ≤ maxLen
 keep := fun h _ => h
 one := fun h v hv => by rw [h.1] at hv; simp at hv; subst hv; rfl
def idS : Shp Id3 where
 is := fun _ cs x => cs = idE x
 keep := fun h _ => h
 one := fun h v hv => by rw [h] at hv; simp [idE] at hv; rcases hv with rfl | rfl | rfl <;> rfl
def enS : Shp Ent where
 is := fun _ cs x => cs = enE x ∧ x.1.size ≤ maxLen ∧ x.2.1.size ≤ maxLen
 keep := fun h _ => h
 one := fun h v hv => by rw [h.1] at hv; simp [enE] at hv; rcases hv with rfl | rfl | rfl <;> rfl
def clsI : Cls 3 := ⟨[.int .i64 0, .int .i64 0, .int .i64 0], rfl, by intro v hv; simp at hv; subst hv; rfl⟩
def clsN : Cls 1 := ⟨[.int .i64 0], rfl, by intro v hv; simp at hv; subst hv; rfl⟩
def clsT : Cls 1 := ⟨[.string ⟨#[]⟩], rfl, by intro v hv; simp at hv; subst hv; rfl⟩
def clsE : Cls 3 := ⟨[.string ⟨#[]⟩, .string ⟨#[]⟩, .int .i64 0], rfl, by intro v hv; simp at hv; rcases hv with rfl | rfl <;> rfl⟩
def clsZ : Cls 6 := ⟨[.int .i64 0, .int .i64 0, .int .i64 0, .string ⟨#[]⟩, .int .i64 0, .slice none 0 0], rfl, by intro v hv; simp only [List.mem_cons, List.not_mem_nil, or_false] at hv; rcases hv with rfl | rfl | rfl | rfl | rfl | rfl <;> rfl⟩
noncomputable def KI : Knd Tryz.prog (Cls 3) := rawK Tryz.prog 49 34 3 24 (.agg #[.int .i64 0, .int .i64 0, .int .i64 0]) Tryz.underlying34 (by kernel_rfl) rfl (by omega) (by omega) clsI
noncomputable def KN : Knd Tryz.prog (Cls 1) := rawK Tryz.prog 3 22 1 8 (.int .i64 0) Tryz.underlying22 (by kernel_rfl) rfl (by omega) (by omega) clsN
noncomputable def KT : Knd Tryz.prog (Cls 1) := rawK Tryz.prog 9 29 1 16 (.string ⟨#[]⟩) Tryz.underlying29 (by kernel_rfl) rfl (by omega) (by omega) clsT
noncomputable def KE : Knd Tryz.prog (Cls 3) := rawK Tryz.prog 71 25 3 40 (.agg #[.string ⟨#[]⟩, .string ⟨#[]⟩, .int .i64 0]) Tryz.underlying25 (by kernel_rfl) rfl (by omega) (by omega) clsE
noncomputable def KZ : Knd Tryz.prog (Cls 6) := rawK Tryz.prog 75 26 6 72 (.agg #[.int .i64 0, .int .i64 0, .int .i64 0, .string ⟨#[]⟩, .int .i64 0, .slice none 0 0]) Tryz.underlying26 (by kernel_rfl) rfl (by omega) (by omega) clsZ
def seS : Shp Ses where
 is := fun w cs x => ∃ v rs, cs = seE x v ∧ x.2.2.2.1.size ≤ maxLen ∧ RowIs KT txS w v rs x.2.2.2.2.2
 keep := fun ⟨v, rs, h1, h2, h3⟩ hb => ⟨v, rs, h1, h2, h3.on hb⟩
 one := fun ⟨v, rs, h1, h2, h3⟩ u hu => by
  obtain ⟨a, c, e⟩ := h3.rd.slice
  rw [h1] at hu
  simp [seE] at hu
  rcases hu with rfl | rfl | rfl | rfl | rfl | rfl
  all_goals first | rfl | (rw [e]; rfl)
/-- What a writer's call leaves that answers a row. -/
def WQ (B b c : Nat) (st : Option (List Int)) (w : World) (e : Ending) (w' : World) : Prop := ∃ a n cp, Hid (e = .returned (.slice a n cp)) ∧ WO w' B b c st ∧ Ft B b c w w'
/-- A block of a type. -/
def Ty (w : World) (k : Nat) (T : TypeId) : Prop := ∃ cs fr, w.heap[k]? = some (.cells cs T fr)
theorem Ty.not8 {w : World} {k : Nat} {T : TypeId} (h : Ty w k T) (hT : T ≠ 5) : ¬ U8 w k := by
 obtain ⟨cs, fr, h⟩ := h
 rintro ⟨cs2, fr2, q⟩
 rw [h] at q
 simp only [Option.some.injEq, Obj.cells.injEq] at q
 exact hT q.2.1
/-- What cells that were read read as: what they lead to lies from N on. -/
structure Rz (α : Type) where
 is : World → Nat → List Value → α → Prop
 keep : ∀ {w w' : World} {N : Nat} {cs : List Value} {x : α}, is w N cs x → (∀ k, N ≤ k → Ty w k 9 → w'.heap[k]? = w.heap[k]?) → is w' N cs x
 base : ∀ {w : World} {N M : Nat} {cs : List Value} {x : α}, is w N cs x → M ≤ N → is w M cs x
def plainR {α : Type} (enc : α → List Value) : Rz α := ⟨fun _ _ cs x => cs = enc x, fun h _ => h, fun h _ => h⟩
/-- A row that was read. -/
def OwnR {k : Nat} (K : Knd Tryz.prog (Cls k)) {α : Type} (R : Rz α) (w : World) (N : Nat) (v : Value) (l : List α) : Prop :=
 ∃ rs, K.Own w N v rs ∧ rs.length = l.length ∧ ∀ (j : Nat) (h : j < rs.length) (h2 : j < l.length), R.is w N rs[j].cs l[j]
theorem OwnR.keep {k : Nat} {K : Knd Tryz.prog (Cls k)} {α : Type} {R : Rz α} {w w' : World} {N : Nat} {v : Value} {l : List α} (h : OwnR K R w N v l) (hk : ∀ k, N ≤ k → (Ty w k 9 ∨ Ty w k K.T) → w'.heap[k]? = w.heap[k]?) : OwnR K R w' N v l := by
 obtain ⟨rs, h1, h2, h3⟩ := h
 exact ⟨rs, h1.keepB (fun j hj => hk j (h1.from j hj) (.inr (h1.blk j hj).2)), h2, fun j a b => R.keep (h3 j a b) (fun j hj hT => hk j hj (.inl hT))⟩
theorem OwnR.ft {k : Nat} {K : Knd Tryz.prog (Cls k)} {α : Type} {R : Rz α} {B b c : Nat} {w w' : World} {N : Nat} {v : Value} {l : List α} (h : OwnR K R w N v l) (hF : Ft B b c w w') (hb : b < N) (hc : c < N) (hT : K.T ≠ 5) : OwnR K R w' N v l :=
 h.keep fun j hj hq => by
  have h1 : ¬ U8 w j ∧ j < w.heap.size := by
   rcases hq with ⟨cs, fr, q⟩ | ⟨cs, fr, q⟩
   ·exact ⟨Ty.not8 ⟨cs, fr, q⟩ (by decide), (Array.getElem?_eq_some_iff.1 q).1⟩
   ·exact ⟨Ty.not8 ⟨cs, fr, q⟩ hT, (Array.getElem?_eq_some_iff.1 q).1⟩
  exact hF.keep j h1.2 (by omega) (by omega) h1.1
theorem OwnR.sx {k : Nat} {K : Knd Tryz.prog (Cls k)} {α : Type} {R : Rz α} {x : Nat} {w w' : World} {N : Nat} {v : Value} {l : List α} (h : OwnR K R w N v l) (s : Sx x w w') (hx : x < N) : OwnR K R w' N v l :=
 h.keep fun j hj _ => s.block j (by omega)
theorem OwnR.base {k : Nat} {K : Knd Tryz.prog (Cls k)} {α : Type} {R : Rz α} {w : World} {N M : Nat} {v : Value} {l : List α} (h : OwnR K R w N v l) (hM : M ≤ N) : OwnR K R w M v l := by
 obtain ⟨rs, h1, h2, h3⟩ := h
 exact ⟨rs, h1.base hM, h2, fun j a b => R.base (h3 j a b) hM⟩
theorem OwnR.nil {k : Nat} {K : Knd Tryz.prog (Cls k)} {α : Type} {R : Rz α} {w : World} {N : Nat} {v : Value} (h : K.Own w N v []) : OwnR K R w N v ([] : List α) := ⟨[], h, rfl, fun j h => by simp at h⟩
theorem OwnR.slice {k : Nat} {K : Knd Tryz.prog (Cls k)} {α : Type} {R : Rz α} {w : World} {N : Nat} {v : Value} {l : List α} (h : OwnR K R w N v l) : ∃ a c, v = .slice a l.length c := by
 obtain ⟨rs, h1, h2, h3⟩ := h
 rw [← h2]
 exact h1.slice
/-- One more. -/
theorem OwnR.more {k : Nat} {K : Knd Tryz.prog (Cls k)} {α : Type} {R : Rz α} {w w' : World} {N : Nat} {v v' : Value} {l : List α} {rs : List (Cls k)} {y : Cls k} {x : α} (h1 : K.Own w' N v' (rs ++ [y])) (h2 : rs.length = l.length) (h3 : ∀ (j : Nat) (h : j < rs.length) (h2 : j < l.length), R.is w' N rs[j].cs l[j]) (hy : R.is w' N y.cs x) : OwnR K R w' N v' (l ++ [x]) := by
 refine ⟨rs ++ [y], h1, by simp [h2], fun j a b => ?_⟩
 by_cases q : j < rs.length
 ·rw [List.getElem_append_left q, List.getElem_append_left (by omega)]
  exact h3 j q (by omega)
 ·have e : j = rs.length := by simp at a; omega
  subst e
  have e2 : (l ++ [x])[rs.length] = x := by
   rw [List.getElem_append_right (by omega)]
   simp [h2]
  rw [e2, List.getElem_append_right (by omega)]
  simpa using hy
def seR : Rz Ses where
 is := fun w N cs x => ∃ v, cs = seE x v ∧ OwnR KT (plainR fun t => [Value.string t]) w N v x.2.2.2.2.2
 keep := fun ⟨v, h1, h2⟩ hk => ⟨v, h1, h2.keep (fun k hk1 hq => hk k hk1 (hq.elim id id))⟩
 base := fun ⟨v, h1, h2⟩ hM => ⟨v, h1, h2.base hM⟩
/-- What a reader's call leaves that answers a row. -/
def RQ {k : Nat} (K : Knd Tryz.prog (Cls k)) {α : Type} (R : Rz α) (l : List α) (B b c : Nat) (s : RSt) (w : World) (e : Ending) (w' : World) : Prop := ∃ v, Hid (e = .returned v) ∧ OwnR K R w' w.heap.size v l ∧ RO w' B b c s ∧ Ft B b c w w'
theorem gList_snoc {α : Type} (g : RSt → α × RSt) : ∀ (n : Nat) (s : RSt), gList g (n + 1) s = ((gList g n s).1 ++ [(g (gList g n s).2).1], (g (gList g n s).2).2)
 | 0, s => rfl
 | n + 1, s => by
  have ih := gList_snoc g n (g s).2
  conv => lhs; unfold gList
  rw [ih]
  simp [gList]
theorem tW (c : Nat) (w : World) : (Instr.typeAssert (fW c) 127 121 true).run Tryz.prog w = .ok (.tuple #[.pointer none, .bool false]) w := by kernel_rfl
theorem tR (c : Nat) (w : World) : (Instr.typeAssert (fR c) 127 121 true).run Tryz.prog w = .ok (.tuple #[.pointer (some ⟨c, 0, none⟩), .bool true]) w := by kernel_rfl
/-- How much is written at most of a thing. -/
def ShC {α : Type} (A : Cod α) (m : Nat) : Prop := ∀ (K : Nat) (st : Option (List Int)) (x : α), Sh K st → Sh (K + m) (wrs st (A.fs x))
theorem ShC.num : ShC numC 1 := fun _ _ _ h => h.one _
theorem ShC.txt : ShC txtC 1 := fun _ _ _ h => h.one _
theorem ShC.pair {α β : Type} {A : Cod α} {B : Cod β} {m n : Nat} (h : ShC A m) (k : ShC B n) : ShC (pairC A B) (m + n) := fun K st x hs => by
 rw [pairC_fs, wrs_app, ← Nat.add_assoc]
 exact k _ _ _ (h _ _ _ hs)
theorem ShC.fold {α : Type} {A : Cod α} {m : Nat} (h : ShC A m) : ∀ (l : List α) (K : Nat) (st : Option (List Int)), Sh K st → Sh (K + l.length * m) (wrs st (l.flatMap A.fs))
 | [], K, st, hs => hs.le (by omega)
 | x :: l, K, st, hs => by
  rw [List.flatMap_cons, wrs_app, List.length_cons, Nat.add_mul]
  exact (ShC.fold h l _ _ (h _ _ x hs)).le (by omega)
theorem ShC.list {α : Type} {A : Cod α} {m : Nat} (h : ShC A m) : ShC (listC A) (1 + 1024 * m) := fun K st l hs => by
 rw [listC_fs, wrs_cons]
 by_cases q : l.length ≤ 1024
 ·have h1 := h.fold l _ _ (hs.one (.cnt l.length))
  have h2 : l.length * m ≤ 1024 * m := Nat.mul_le_mul_right _ q
  exact h1.le (by omega)
 ·rw [wr1_bad (show ¬ (Fd.cnt l.length).ok from q), wrs_none]
  exact Sh.none _
theorem ShC.id : ShC idC 3 := ShC.pair ShC.num (ShC.pair ShC.num ShC.num)
theorem ShC.bal : ShC balC 2 := ShC.pair ShC.num ShC.num
theorem ShC.cm : ShC cmC 8 := ShC.pair ShC.num (ShC.pair ShC.num (ShC.pair ShC.num (ShC.pair ShC.txt (ShC.pair ShC.txt (ShC.pair ShC.num (ShC.pair ShC.num ShC.num))))))
theorem ShC.en : ShC enC 3 := ShC.pair ShC.txt (ShC.pair ShC.txt ShC.num)
theorem ShC.att : ShC atC 3074 := ShC.pair ShC.num ShC.id.list
theorem ShC.ins : ShC inC 3087 := ShC.pair ShC.num (ShC.pair ShC.bal (ShC.pair ShC.bal (ShC.pair ShC.cm ShC.att)))
theorem ShC.rp : ShC rpC 1028 := ShC.pair ShC.num (ShC.pair ShC.txt (ShC.pair ShC.num ShC.txt.list))
theorem ShC.cf : ShC cfC 1026 := ShC.pair ShC.num ShC.num.list
theorem ShC.se : ShC seC 1030 := ShC.pair ShC.num (ShC.pair ShC.num ShC.rp)
theorem ShC.sn : ShC snC 1058820 := ShC.pair ShC.cf (ShC.pair ShC.en.list ShC.se.list)
theorem step_fs {α : Type} (A : Cod α) (st1 : Option (List Int)) (l : List α) (k : Nat) (x : α) (hl : k < l.length) (hx : l[k] = x) : wrs (wrs st1 ((l.take k).flatMap A.fs)) (A.fs x) = wrs st1 ((l.take (k + 1)).flatMap A.fs) := by
 rw [← wrs_app, List.take_succ_eq_append_getElem hl, List.flatMap_append, hx]
 simp
theorem sh_part {α : Type} {A : Cod α} {m : Nat} (h : ShC A m) {K : Nat} {st : Option (List Int)} (hs : Sh K st) (l : List α) (k : Nat) : Sh (K + k * m) (wrs st ((l.take k).flatMap A.fs)) := by
 have h1 := h.fold (l.take k) _ _ hs
 have h2 : (l.take k).length * m ≤ k * m := Nat.mul_le_mul_right _ (List.length_take_le _ _)
 exact h1.le (by omega)
/-- 'make([]T, n)'. -/
theorem Knd.makeN {P : Program} {α : Type} (K : Knd P α) {ops : Array Oper} {rest : List Oper} {o : Oper} {a : Act} {w : World} {Q : Exit → Act → World → Prop} (hw : Region.wanted o (yielded ops a.tmps) = true) (x y : Operand) (ho : o.op = .makeSlice K.S x y) (z : α) (hz : K.z.cells.toList = K.enc z) (c : Nat) (hx : a.eval x = .int .i64 (c : Int)) (hy : a.eval y = .int .i64 (c : Int)) (hc : c ≤ 1000000) (base : Nat) (hbase : base ≤ w.heap.size)
  (h : ∀ v' w', K.Own w' base v' (List.replicate c z) → Below w.heap.size w w' → w.grownBy w' none → wpList P ops Q rest (a.put o.dst v') w') : wpList P ops Q (o :: rest) a w := by
 obtain ⟨i0, hi, hz0, hz1, hz2⟩ := info_parts K.info
 have hs := K.small
 have hB : i0.bytes * c ≤ 281474976710656 := by
  rw [hz2]
  have h2 : K.B * c ≤ 100000 * 1000000 := Nat.mul_le_mul hs hc
  omega
 obtain ⟨w', hr, h1, h2⟩ := run_make_full (P := P) w base K.S K.T i0 K.z K.k K.und hi hz0 hz1 .i64 .i64 c hB (by unfold maxLen; omega) hbase
 have hgo := fun q => h (.slice (some ⟨w.heap.size, 0, none⟩) c c) w' q ((Below.refl _ w).grown h2 (Nat.le_refl _) (fun k e => by cases e)) h2
 refine wpList_value hw (.slice (some ⟨w.heap.size, 0, none⟩) c c) w' ?_ (hgo ?_)
 ·unfold execOp
  simp only [ho, hx, hy, hr, Sem.run_bind, Sem.run_pure, Result.andThen_ok]
 ·unfold Knd.Own
  have e : K.row (List.replicate c z) = (madeCells K.z.cells (c * K.k)).toList := by
   apply List.ext_getElem?
   intro j
   by_cases hj : j < c * K.k
   ·have hlen : j < (K.row (List.replicate c z)).length := by rw [K.row_len]; simpa using hj
    rw [K.row_flat _ j hlen]
    have hp := K.pos
    have h1 : j / K.k < c := by rw [Nat.div_lt_iff_lt_mul hp]; exact hj
    have e1 : (List.replicate c z).getD (j / K.k) K.d = z := by simp [List.getD, h1]
    have hm : j % K.k < K.k := Nat.mod_lt _ hp
    rw [e1, ← hz]
    simp [madeCells, hj, K.zc, hm]
   ·have hlen : (K.row (List.replicate c z)).length ≤ j := by rw [K.row_len]; simpa using hj
    rw [List.getElem?_eq_none hlen, List.getElem?_eq_none (by simp [madeCells]; omega)]
  rw [e]
  simpa using h1
end Go.Proofs.YtnancdbkmompdaaGreat
namespace Go.Proofs.YtnancdbkmompdaaGreat
open Go.RowKit
set_option linter.unusedSimpArgs false
set_option linter.unusedVariables false
set_option maxRecDepth 100000
set_option maxHeartbeats 40000000
theorem gCnt_le (s : RSt) : (gCnt s).1 ≤ 1024 := by
 unfold gCnt
 split
 ·exact Nat.zero_le _
 ·simp only; omega
/-- The elements of a row of like ones. -/
theorem zero_at {α : Type} {K : Knd Tryz.prog α} {w : World} {base N cz k : Nat} {az : Option Addr} {z : α} (h : K.Own w base (.slice az N cz) (List.replicate N z)) (hk : k < N) : ∃ g off, az = some ⟨g, off, none⟩ ∧ g < w.heap.size ∧ ∀ j u, (K.enc z)[j]? = some u → w.cell? ⟨g, off + k * K.k + j, none⟩ = some u := by
 obtain ⟨_, g, off, ha, hg, hc⟩ := h.rd.at (by intro e; have := congrArg List.length e; simp at this; omega)
 refine ⟨g, off, ha, hg, fun j u hu => hc k hk j u ?_⟩
 have e : (List.replicate N z).getD k K.d = z := by simp [List.getD, hk]
 rw [e]
 exact hu
end Go.Proofs.YtnancdbkmompdaaGreat
