/-
  Package code: rows of things: as they come in, and as they are read.
-/
import Derived.Test.YtllcmapgigfgoaaCd3
import Derived.Test.YtllcmapgigfgoaaRaw
namespace Go.Proofs.Ytllcmapgigfgoaa
open Go.ChangeShapes Go.WideShapes Go.ChangeAt Go.RowKit Go.Joins Go.Deep
set_option linter.unusedSimpArgs false
set_option linter.unusedVariables false

/-- The elements of a row, one by one. -/
theorem RowIs.el {P : Program} {k : Nat} {R : Knd P (Cls k)} (hR : R.enc = Cls.cs) {α : Type} {S : Shp α} {w : World} {a : Option Addr} {n c : Nat} {rs : List (Cls k)} {l : List α} (h : RowIs R S w (.slice a n c) rs l) (j : Nat) (hj : j < n) :
    n = l.length ∧ ∃ (hl : j < l.length) (g off : Nat) (cs : List Value), a = some ⟨g, off, none⟩ ∧ g < w.heap.size ∧ S.is w cs l[j] ∧ ∀ i u, cs[i]? = some u → w.cell? ⟨g, off + j * R.k + i, none⟩ = some u := by
  have hn : n = rs.length := by
    obtain ⟨a', c', e, _⟩ := h.rd
    simp only [Value.slice.injEq] at e
    exact e.2.1
  have hne : rs ≠ [] := by intro e; rw [e] at hn; simp at hn; omega
  obtain ⟨_, g, off, ha, hg, hc⟩ := h.rd.at hne
  have hjr : j < rs.length := by omega
  have hjl : j < l.length := by rw [← h.len]; exact hjr
  refine ⟨hn.trans h.len, hjl, g, off, rs[j].cs, ha, hg, h.at' j hjr hjl, fun i u hu => hc j hj i u ?_⟩
  have e1 : rs.getD j R.d = rs[j] := by simp [List.getD, hjr]
  rw [e1, hR]
  exact hu
/-- The same, at a later world. -/
theorem RowIs.el2 {P : Program} {k : Nat} {R : Knd P (Cls k)} (hR : R.enc = Cls.cs) {α : Type} {S : Shp α} {W w : World} {a : Option Addr} {n c : Nat} {rs : List (Cls k)} {l : List α} (h : RowIs R S W (.slice a n c) rs l) (hb : Below W.heap.size W w) (j : Nat) (hj : j < n) :
    ∃ (hl : j < l.length) (g off : Nat) (cs : List Value), a = some ⟨g, off, none⟩ ∧ g < w.heap.size ∧ S.is W cs l[j] ∧ ∀ i u, cs[i]? = some u → w.cell? ⟨g, off + j * R.k + i, none⟩ = some u := by
  obtain ⟨_, hl, g, off, cs, ha, hg, hcs, hc⟩ := h.el hR j hj
  exact ⟨hl, g, off, cs, ha, Nat.lt_of_lt_of_le hg hb.size, hcs, fun i u hu => (hb.cell (p := ⟨g, off + j * R.k + i, none⟩) hg).trans (hc i u hu)⟩
theorem Opens.to {P : Program} {t : TypeId} {α β : Type} {S : Shp α} {R : Shp β} (h : Opens P t S) (f : α → β) (hi : ∀ w cs x, S.is w cs x → R.is w cs (f x)) : Opens P t R := .mk @fun H enc w base spare held fuel cs y hy => by
  obtain ⟨x, hx⟩ := h.go fuel cs y hy
  exact ⟨f x, hi _ _ _ hx⟩
def idE (x : Id3) : List Value := [.int .i64 x.1, .int .i64 x.2.1, .int .i64 x.2.2]
def enE (x : Ent) : List Value := [.string x.1, .string x.2.1, .int .i64 x.2.2]
def seE (x : Ses) (v : Value) : List Value := [.int .i64 x.1, .int .i64 x.2.1, .int .i64 x.2.2.1, .string x.2.2.2.1, .int .i64 x.2.2.2.2.1, v]
def numS : Shp Int where
  is := fun _ cs n => cs = [.int .i64 n]
  keep := fun h _ => h
  one := fun h v hv => by rw [h] at hv; simp at hv; subst hv; rfl
def txS : Shp ByteArray where
  is := fun _ cs n => cs = [.string n] ∧ n.size ≤ maxLen
  keep := fun h _ => h
  one := fun h v hv => by rw [h.1] at hv; simp at hv; subst hv; rfl
def idS : Shp Id3 where
  is := fun _ cs x => cs = idE x
  keep := fun h _ => h
  one := fun h v hv => by rw [h] at hv; simp [idE] at hv; rcases hv with rfl | rfl | rfl <;> rfl
def enS : Shp Ent where
  is := fun _ cs x => cs = enE x ∧ x.1.size ≤ maxLen ∧ x.2.1.size ≤ maxLen
  keep := fun h _ => h
  one := fun h v hv => by rw [h.1] at hv; simp [enE] at hv; rcases hv with rfl | rfl | rfl <;> rfl
def clsI : Cls 3 := ⟨[.int .i64 0, .int .i64 0, .int .i64 0], rfl, by intro v hv; simp at hv; subst hv; rfl⟩
def clsN : Cls 1 := ⟨[.int .i64 0], rfl, by intro v hv; simp at hv; subst hv; rfl⟩
def clsT : Cls 1 := ⟨[.string ⟨#[]⟩], rfl, by intro v hv; simp at hv; subst hv; rfl⟩
def clsE : Cls 3 := ⟨[.string ⟨#[]⟩, .string ⟨#[]⟩, .int .i64 0], rfl, by intro v hv; simp at hv; rcases hv with rfl | rfl <;> rfl⟩
def clsZ : Cls 6 := ⟨[.int .i64 0, .int .i64 0, .int .i64 0, .string ⟨#[]⟩, .int .i64 0, .slice none 0 0], rfl, by intro v hv; simp only [List.mem_cons, List.not_mem_nil, or_false] at hv; rcases hv with rfl | rfl | rfl | rfl | rfl | rfl <;> rfl⟩
noncomputable def KI : Knd Try.prog (Cls 3) := rawK Try.prog 24 31 3 24 (.agg #[.int .i64 0, .int .i64 0, .int .i64 0]) Try.underlying31 (by kernel_rfl) rfl (by omega) (by omega) clsI
noncomputable def KN : Knd Try.prog (Cls 1) := rawK Try.prog 3 36 1 8 (.int .i64 0) Try.underlying36 (by kernel_rfl) rfl (by omega) (by omega) clsN
noncomputable def KT : Knd Try.prog (Cls 1) := rawK Try.prog 9 111 1 16 (.string ⟨#[]⟩) Try.underlying111 (by kernel_rfl) rfl (by omega) (by omega) clsT
noncomputable def KE : Knd Try.prog (Cls 3) := rawK Try.prog 110 39 3 40 (.agg #[.string ⟨#[]⟩, .string ⟨#[]⟩, .int .i64 0]) Try.underlying39 (by kernel_rfl) rfl (by omega) (by omega) clsE
noncomputable def KZ : Knd Try.prog (Cls 6) := rawK Try.prog 115 40 6 72 (.agg #[.int .i64 0, .int .i64 0, .int .i64 0, .string ⟨#[]⟩, .int .i64 0, .slice none 0 0]) Try.underlying40 (by kernel_rfl) rfl (by omega) (by omega) clsZ
def seS : Shp Ses where
  is := fun w cs x => ∃ v rs, cs = seE x v ∧ x.2.2.2.1.size ≤ maxLen ∧ RowIs KT txS w v rs x.2.2.2.2.2
  keep := fun ⟨v, rs, h1, h2, h3⟩ hb => ⟨v, rs, h1, h2, h3.on hb⟩
  one := fun ⟨v, rs, h1, h2, h3⟩ u hu => by
    obtain ⟨a, c, e⟩ := h3.rd.slice
    rw [h1] at hu
    simp [seE] at hu
    rcases hu with rfl | rfl | rfl | rfl | rfl | rfl
    all_goals first | rfl | (rw [e]; rfl)
/-- What a writer's call leaves that answers a row. -/
def WQ (B b c : Nat) (st : Option (List Int)) (w : World) (e : Ending) (w' : World) : Prop := ∃ a n cp, Hid (e = .returned (.slice a n cp)) ∧ WO w' B b c st ∧ Ft B b c w w'
/-- A block of a type. -/
def Ty (w : World) (k : Nat) (T : TypeId) : Prop := ∃ cs fr, w.heap[k]? = some (.cells cs T fr)
theorem Ty.not8 {w : World} {k : Nat} {T : TypeId} (h : Ty w k T) (hT : T ≠ 5) : ¬ U8 w k := by
  obtain ⟨cs, fr, h⟩ := h
  rintro ⟨cs2, fr2, q⟩
  rw [h] at q
  simp only [Option.some.injEq, Obj.cells.injEq] at q
  exact hT q.2.1
/-- What cells that were read read as: what they lead to lies from N on. -/
structure Rz (α : Type) where
  is : World → Nat → List Value → α → Prop
  keep : ∀ {w w' : World} {N : Nat} {cs : List Value} {x : α}, is w N cs x → (∀ k, N ≤ k → Ty w k 9 → w'.heap[k]? = w.heap[k]?) → is w' N cs x
  base : ∀ {w : World} {N M : Nat} {cs : List Value} {x : α}, is w N cs x → M ≤ N → is w M cs x
def plainR {α : Type} (enc : α → List Value) : Rz α := ⟨fun _ _ cs x => cs = enc x, fun h _ => h, fun h _ => h⟩
/-- A row that was read. -/
def OwnR {k : Nat} (K : Knd Try.prog (Cls k)) {α : Type} (R : Rz α) (w : World) (N : Nat) (v : Value) (l : List α) : Prop :=
  ∃ rs, K.Own w N v rs ∧ rs.length = l.length ∧ ∀ (j : Nat) (h : j < rs.length) (h2 : j < l.length), R.is w N rs[j].cs l[j]
theorem OwnR.keep {k : Nat} {K : Knd Try.prog (Cls k)} {α : Type} {R : Rz α} {w w' : World} {N : Nat} {v : Value} {l : List α} (h : OwnR K R w N v l) (hk : ∀ k, N ≤ k → (Ty w k 9 ∨ Ty w k K.T) → w'.heap[k]? = w.heap[k]?) : OwnR K R w' N v l := by
  obtain ⟨rs, h1, h2, h3⟩ := h
  exact ⟨rs, h1.keepB (fun j hj => hk j (h1.from j hj) (.inr (h1.blk j hj).2)), h2, fun j a b => R.keep (h3 j a b) (fun j hj hT => hk j hj (.inl hT))⟩
theorem OwnR.ft {k : Nat} {K : Knd Try.prog (Cls k)} {α : Type} {R : Rz α} {B b c : Nat} {w w' : World} {N : Nat} {v : Value} {l : List α} (h : OwnR K R w N v l) (hF : Ft B b c w w') (hb : b < N) (hc : c < N) (hT : K.T ≠ 5) : OwnR K R w' N v l :=
  h.keep fun j hj hq => by
    have h1 : ¬ U8 w j ∧ j < w.heap.size := by
      rcases hq with ⟨cs, fr, q⟩ | ⟨cs, fr, q⟩
      · exact ⟨Ty.not8 ⟨cs, fr, q⟩ (by decide), (Array.getElem?_eq_some_iff.1 q).1⟩
      · exact ⟨Ty.not8 ⟨cs, fr, q⟩ hT, (Array.getElem?_eq_some_iff.1 q).1⟩
    exact hF.keep j h1.2 (by omega) (by omega) h1.1
theorem OwnR.sx {k : Nat} {K : Knd Try.prog (Cls k)} {α : Type} {R : Rz α} {x : Nat} {w w' : World} {N : Nat} {v : Value} {l : List α} (h : OwnR K R w N v l) (s : Sx x w w') (hx : x < N) : OwnR K R w' N v l :=
  h.keep fun j hj _ => s.block j (by omega)
theorem OwnR.base {k : Nat} {K : Knd Try.prog (Cls k)} {α : Type} {R : Rz α} {w : World} {N M : Nat} {v : Value} {l : List α} (h : OwnR K R w N v l) (hM : M ≤ N) : OwnR K R w M v l := by
  obtain ⟨rs, h1, h2, h3⟩ := h
  exact ⟨rs, h1.base hM, h2, fun j a b => R.base (h3 j a b) hM⟩
theorem OwnR.nil {k : Nat} {K : Knd Try.prog (Cls k)} {α : Type} {R : Rz α} {w : World} {N : Nat} {v : Value} (h : K.Own w N v []) : OwnR K R w N v ([] : List α) := ⟨[], h, rfl, fun j h => by simp at h⟩
theorem OwnR.slice {k : Nat} {K : Knd Try.prog (Cls k)} {α : Type} {R : Rz α} {w : World} {N : Nat} {v : Value} {l : List α} (h : OwnR K R w N v l) : ∃ a c, v = .slice a l.length c := by
  obtain ⟨rs, h1, h2, h3⟩ := h
  rw [← h2]
  exact h1.slice
/-- One more. -/
theorem OwnR.more {k : Nat} {K : Knd Try.prog (Cls k)} {α : Type} {R : Rz α} {w w' : World} {N : Nat} {v v' : Value} {l : List α} {rs : List (Cls k)} {y : Cls k} {x : α} (h1 : K.Own w' N v' (rs ++ [y])) (h2 : rs.length = l.length) (h3 : ∀ (j : Nat) (h : j < rs.length) (h2 : j < l.length), R.is w' N rs[j].cs l[j]) (hy : R.is w' N y.cs x) : OwnR K R w' N v' (l ++ [x]) := by
  refine ⟨rs ++ [y], h1, by simp [h2], fun j a b => ?_⟩
  by_cases q : j < rs.length
  · rw [List.getElem_append_left q, List.getElem_append_left (by omega)]
    exact h3 j q (by omega)
  · have e : j = rs.length := by simp at a; omega
    subst e
    have e2 : (l ++ [x])[rs.length] = x := by
      rw [List.getElem_append_right (by omega)]
      simp [h2]
    rw [e2, List.getElem_append_right (by omega)]
    simpa using hy
def seR : Rz Ses where
  is := fun w N cs x => ∃ v, cs = seE x v ∧ OwnR KT (plainR fun t => [Value.string t]) w N v x.2.2.2.2.2
  keep := fun ⟨v, h1, h2⟩ hk => ⟨v, h1, h2.keep (fun k hk1 hq => hk k hk1 (hq.elim id id))⟩
  base := fun ⟨v, h1, h2⟩ hM => ⟨v, h1, h2.base hM⟩
/-- What a reader's call leaves that answers a row. -/
def RQ {k : Nat} (K : Knd Try.prog (Cls k)) {α : Type} (R : Rz α) (l : List α) (B b c : Nat) (s : RSt) (w : World) (e : Ending) (w' : World) : Prop := ∃ v, Hid (e = .returned v) ∧ OwnR K R w' w.heap.size v l ∧ RO w' B b c s ∧ Ft B b c w w'
theorem gList_snoc {α : Type} (g : RSt → α × RSt) : ∀ (n : Nat) (s : RSt), gList g (n + 1) s = ((gList g n s).1 ++ [(g (gList g n s).2).1], (g (gList g n s).2).2)
  | 0, s => rfl
  | n + 1, s => by
    have ih := gList_snoc g n (g s).2
    conv => lhs; unfold gList
    rw [ih]
    simp [gList]
theorem tW (c : Nat) (w : World) : (Instr.typeAssert (fW c) 123 131 true).run Try.prog w = .ok (.tuple #[.pointer none, .bool false]) w := by kernel_rfl
theorem tR (c : Nat) (w : World) : (Instr.typeAssert (fR c) 123 131 true).run Try.prog w = .ok (.tuple #[.pointer (some ⟨c, 0, none⟩), .bool true]) w := by kernel_rfl
/-- How much is written at most of a thing. -/
def ShC {α : Type} (A : Cod α) (m : Nat) : Prop := ∀ (K : Nat) (st : Option (List Int)) (x : α), Sh K st → Sh (K + m) (wrs st (A.fs x))
theorem ShC.num : ShC numC 1 := fun _ _ _ h => h.one _
theorem ShC.txt : ShC txtC 1 := fun _ _ _ h => h.one _
theorem ShC.pair {α β : Type} {A : Cod α} {B : Cod β} {m n : Nat} (h : ShC A m) (k : ShC B n) : ShC (pairC A B) (m + n) := fun K st x hs => by
  rw [pairC_fs, wrs_app, ← Nat.add_assoc]
  exact k _ _ _ (h _ _ _ hs)
theorem ShC.fold {α : Type} {A : Cod α} {m : Nat} (h : ShC A m) : ∀ (l : List α) (K : Nat) (st : Option (List Int)), Sh K st → Sh (K + l.length * m) (wrs st (l.flatMap A.fs))
  | [], K, st, hs => hs.le (by omega)
  | x :: l, K, st, hs => by
    rw [List.flatMap_cons, wrs_app, List.length_cons, Nat.add_mul]
    exact (ShC.fold h l _ _ (h _ _ x hs)).le (by omega)
theorem ShC.list {α : Type} {A : Cod α} {m : Nat} (h : ShC A m) : ShC (listC A) (1 + 1024 * m) := fun K st l hs => by
  rw [listC_fs, wrs_cons]
  by_cases q : l.length ≤ 1024
  · have h1 := h.fold l _ _ (hs.one (.cnt l.length))
    have h2 : l.length * m ≤ 1024 * m := Nat.mul_le_mul_right _ q
    exact h1.le (by omega)
  · rw [wr1_bad (show ¬ (Fd.cnt l.length).ok from q), wrs_none]
    exact Sh.none _
theorem ShC.id : ShC idC 3 := ShC.pair ShC.num (ShC.pair ShC.num ShC.num)
theorem ShC.bal : ShC balC 2 := ShC.pair ShC.num ShC.num
theorem ShC.cm : ShC cmC 8 := ShC.pair ShC.num (ShC.pair ShC.num (ShC.pair ShC.num (ShC.pair ShC.txt (ShC.pair ShC.txt (ShC.pair ShC.num (ShC.pair ShC.num ShC.num))))))
theorem ShC.en : ShC enC 3 := ShC.pair ShC.txt (ShC.pair ShC.txt ShC.num)
theorem ShC.att : ShC atC 3074 := ShC.pair ShC.num ShC.id.list
theorem ShC.ins : ShC inC 3087 := ShC.pair ShC.num (ShC.pair ShC.bal (ShC.pair ShC.bal (ShC.pair ShC.cm ShC.att)))
theorem ShC.rp : ShC rpC 1028 := ShC.pair ShC.num (ShC.pair ShC.txt (ShC.pair ShC.num ShC.txt.list))
theorem ShC.cf : ShC cfC 1026 := ShC.pair ShC.num ShC.num.list
theorem ShC.se : ShC seC 1030 := ShC.pair ShC.num (ShC.pair ShC.num ShC.rp)
theorem ShC.sn : ShC snC 1058820 := ShC.pair ShC.cf (ShC.pair ShC.en.list ShC.se.list)
theorem ShC.ms : ShC msC 1061915 := ShC.pair ShC.num (ShC.pair ShC.num (ShC.pair ShC.num (ShC.pair ShC.id (ShC.pair ShC.bal (ShC.pair ShC.ins ShC.sn)))))
theorem step_fs {α : Type} (A : Cod α) (st1 : Option (List Int)) (l : List α) (k : Nat) (x : α) (hl : k < l.length) (hx : l[k] = x) : wrs (wrs st1 ((l.take k).flatMap A.fs)) (A.fs x) = wrs st1 ((l.take (k + 1)).flatMap A.fs) := by
  rw [← wrs_app, List.take_succ_eq_append_getElem hl, List.flatMap_append, hx]
  simp
theorem sh_part {α : Type} {A : Cod α} {m : Nat} (h : ShC A m) {K : Nat} {st : Option (List Int)} (hs : Sh K st) (l : List α) (k : Nat) : Sh (K + k * m) (wrs st ((l.take k).flatMap A.fs)) := by
  have h1 := h.fold (l.take k) _ _ hs
  have h2 : (l.take k).length * m ≤ k * m := Nat.mul_le_mul_right _ (List.length_take_le _ _)
  exact h1.le (by omega)
/-- 'make([]T, n)'. -/
theorem Knd.makeN {P : Program} {α : Type} (K : Knd P α) {ops : Array Oper} {rest : List Oper} {o : Oper} {a : Act} {w : World} {Q : Exit → Act → World → Prop} (hw : Region.wanted o (yielded ops a.tmps) = true) (x y : Operand) (ho : o.op = .makeSlice K.S x y) (z : α) (hz : K.z.cells.toList = K.enc z) (c : Nat) (hx : a.eval x = .int .i64 (c : Int)) (hy : a.eval y = .int .i64 (c : Int)) (hc : c ≤ 1000000) (base : Nat) (hbase : base ≤ w.heap.size)
    (h : ∀ v' w', K.Own w' base v' (List.replicate c z) → Below w.heap.size w w' → w.grownBy w' none → wpList P ops Q rest (a.put o.dst v') w') : wpList P ops Q (o :: rest) a w := by
  obtain ⟨i0, hi, hz0, hz1, hz2⟩ := info_parts K.info
  have hs := K.small
  have hB : i0.bytes * c ≤ 281474976710656 := by
    rw [hz2]
    have h2 : K.B * c ≤ 100000 * 1000000 := Nat.mul_le_mul hs hc
    omega
  obtain ⟨w', hr, h1, h2⟩ := run_make_full (P := P) w base K.S K.T i0 K.z K.k K.und hi hz0 hz1 .i64 .i64 c hB (by unfold maxLen; omega) hbase
  have hgo := fun q => h (.slice (some ⟨w.heap.size, 0, none⟩) c c) w' q ((Below.refl _ w).grown h2 (Nat.le_refl _) (fun k e => by cases e)) h2
  refine wpList_value hw (.slice (some ⟨w.heap.size, 0, none⟩) c c) w' ?_ (hgo ?_)
  · unfold execOp
    simp only [ho, hx, hy, hr, Sem.run_bind, Sem.run_pure, Result.andThen_ok]
  · unfold Knd.Own
    have e : K.row (List.replicate c z) = (madeCells K.z.cells (c * K.k)).toList := by
      apply List.ext_getElem?
      intro j
      by_cases hj : j < c * K.k
      · have hlen : j < (K.row (List.replicate c z)).length := by rw [K.row_len]; simpa using hj
        rw [K.row_flat _ j hlen]
        have hp := K.pos
        have h1 : j / K.k < c := by rw [Nat.div_lt_iff_lt_mul hp]; exact hj
        have e1 : (List.replicate c z).getD (j / K.k) K.d = z := by simp [List.getD, h1]
        have hm : j % K.k < K.k := Nat.mod_lt _ hp
        rw [e1, ← hz]
        simp [madeCells, hj, K.zc, hm]
      · have hlen : (K.row (List.replicate c z)).length ≤ j := by rw [K.row_len]; simpa using hj
        rw [List.getElem?_eq_none hlen, List.getElem?_eq_none (by simp [madeCells]; omega)]
    rw [e]
    simpa using h1
end Go.Proofs.Ytllcmapgigfgoaa
