/-
  A machine: the directory and the map of sessions behind a pointer; New.
-/
import Derived.Test.YtbebjpfbbidaiaaGreatSes1
import Derived.Maps.OwnSet
import Derived.Maps.RangeWalk
import Derived.Lib.SlKeysI
namespace Go.Proofs.YtbebjpfbbidaiaaGreat
open Go.RowKit Go.Sort
open Go.WideMaps
set_option linter.unusedSimpArgs false
set_option linter.unusedVariables false

theorem intK : Go.Maps.Keyed Tryz.prog 3 := Go.Maps.int_keyed Tryz.underlying3
def kI (c : Int) : Lit := .int .i64 c
theorem kI_inj {a b : Int} (h : kI a = kI b) : a = b := by simpa [kI] using h
theorem kI_lit (c : Int) : WideAt.IsKeyLit (kI c) := by simp [kI, WideAt.IsKeyLit]
theorem kI_key {c : Int} (h1 : -9223372036854775808 ≤ c) (h2 : c ≤ 9223372036854775807) : keyOf Tryz.prog 3 (.int .i64 c) = some (kI c) :=
  Maps.keyOf_int_mk Tryz.underlying3 (by simp [Lit.wf, IntKind.min, IntKind.max, IntKind.bits, IntKind.signed]; omega)
theorem kI_inv {key : Value} {kl : Lit} (h : keyOf Tryz.prog 3 key = some kl) : ∃ c, key = .int .i64 c ∧ kl = kI c := by
  obtain ⟨x, hx, hk, _⟩ := Maps.keyOf_i64 Tryz.underlying3 h
  exact ⟨x, hx, hk⟩
/-- A session as it lies: the list by its address. -/
structure SV where
  cl : Int
  sq : Int
  er : Int
  vl : ByteArray
  vr : Int
  sl : Option (Nat × Nat)
  n : Nat
def slV : Option (Nat × Nat) → Nat → Value
  | none, _ => .slice none 0 0
  | some (g, c), n => .slice (some ⟨g, 0, none⟩) n c
abbrev svV (x : SV) : Value := .agg #[.int .i64 x.cl, .int .i64 x.sq, .int .i64 x.er, .string x.vl, .int .i64 x.vr, slV x.sl x.n]
def slD : Option (Nat × Nat) → Nat → DataW Unit
  | none, _ => .lit (.bool false)
  | some (g, c), n => .agg [.lit (.int .i64 g), .lit (.int .i64 c), .lit (.int .i64 n)]
def svD (x : SV) : DataW Unit := .agg [.lit (.int .i64 x.cl), .lit (.int .i64 x.sq), .lit (.int .i64 x.er), .lit (.string x.vl.data.toList), .lit (.int .i64 x.vr), slD x.sl x.n]
/-- How a session reads. -/
def sesElem : Value → Option (DataW Unit × List MemPlace)
  | .agg ⟨[.int .i64 c, .int .i64 q, .int .i64 e, .string v, .int .i64 n, .slice none 0 0]⟩ => some (svD ⟨c, q, e, v, n, none, 0⟩, [])
  | .agg ⟨[.int .i64 c, .int .i64 q, .int .i64 e, .string v, .int .i64 n, .slice (some ⟨g, 0, none⟩) m cc]⟩ => some (svD ⟨c, q, e, v, n, some (g, cc), m⟩, [])
  | _ => none
/-- Is it spelt in one way? -/
def SV.ok (x : SV) : Prop := x.sl = none → x.n = 0
theorem sesElem_mk {x : SV} (h : x.ok) : sesElem (svV x) = some (svD x, []) := by
  obtain ⟨c, q, e, v, n, sl, m⟩ := x
  cases sl with
  | none => obtain rfl : m = 0 := h rfl; rfl
  | some y => rfl
theorem sesElem_inv {u : Value} {z : DataW Unit × List MemPlace} (h : sesElem u = some z) : ∃ x : SV, x.ok ∧ u = svV x ∧ z = (svD x, []) := by
  unfold sesElem at h
  split at h
  · exact ⟨⟨_, _, _, _, _, none, 0⟩, (fun _ => rfl), rfl, (Option.some.inj h).symm⟩
  · exact ⟨⟨_, _, _, _, _, some (_, _), _⟩, (fun h => by cases h), rfl, (Option.some.inj h).symm⟩
  · cases h
theorem svD_inj {x y : SV} (hx : x.ok) (hy : y.ok) (h : svD x = svD y) : x = y := by
  obtain ⟨c, q, e, v, n, sl, m⟩ := x
  obtain ⟨c2, q2, e2, v2, n2, sl2, m2⟩ := y
  simp only [svD, DataW.agg.injEq, List.cons.injEq, DataW.lit.injEq, Lit.string.injEq, Lit.int.injEq, true_and, and_true] at h
  obtain ⟨rfl, rfl, rfl, hv, rfl, hs⟩ := h
  obtain rfl := data_inj hv
  cases sl with
  | none =>
    obtain rfl : m = 0 := hx rfl
    cases sl2 with
    | none => obtain rfl : m2 = 0 := hy rfl; rfl
    | some y => obtain ⟨a, b⟩ := y; simp [slD] at hs
  | some z =>
    obtain ⟨a, b⟩ := z
    cases sl2 with
    | none => simp [slD] at hs
    | some y =>
      obtain ⟨a2, b2⟩ := y
      simp only [slD, DataW.agg.injEq, List.cons.injEq, DataW.lit.injEq, Lit.int.injEq, true_and, and_true, Int.natCast_inj] at hs
      obtain ⟨rfl, rfl, rfl⟩ := hs
      rfl
def svZ : SV := ⟨0, 0, 0, { data := #[] }, 0, none, 0⟩
theorem zeroS (w : World) : (zeroValue 35).run Tryz.prog w = .ok (svV svZ) w := by kernel_rfl
/-- The session that a value holds. -/
structure SVof (w : World) (x : SV) (e : S3) : Prop where
  ok : x.ok
  cl : x.cl = e.1
  sq : x.sq = e.2.1
  er : x.er = e.2.2.err
  vl : x.vl = e.2.2.val
  vr : x.vr = e.2.2.ver
  row : SK.Own w 0 (slV x.sl x.n) e.2.2.names
theorem SVof.on {w w' : World} {x : SV} {e : S3} (h : SVof w x e) (hb : Below w.heap.size w w') : SVof w' x e := ⟨h.ok, h.cl, h.sq, h.er, h.vl, h.vr, h.row.below hb⟩
theorem SVof.out {w w' : World} {x : SV} {e : S3} {bk : Nat} (h : SVof w x e) (hg : w.grownBy w' (some bk)) (hne : ∀ g cs T fr, w.heap[g]? = some (.cells cs T fr) → g ≠ bk) : SVof w' x e := ⟨h.ok, h.cl, h.sq, h.er, h.vl, h.vr, h.row.out hg hne⟩
/-- The map of sessions is s. -/
structure SesIs (w : World) (D : DataW Unit) (s : List S3) : Prop where
  has : ∀ c, Maps.has D (kI c) = (fndS s c).isSome
  val : ∀ c q r, fndS s c = some (q, r) → ∃ x, D.atKey (kI c) (svD svZ) = svD x ∧ SVof w x (c, q, r)
  size : Maps.size D ≤ s.length
  tidy : Maps.Tidy D
theorem SesIs.empty (w : World) : SesIs w (.map []) [] := ⟨fun x => rfl, (fun c q r h => by cases h), Nat.le_refl _, Maps.tidy_empty⟩
theorem SesIs.on {w w' : World} {D : DataW Unit} {s : List S3} (h : SesIs w D s) (hb : Below w.heap.size w w') : SesIs w' D s :=
  ⟨h.has, fun c q r hf => by obtain ⟨x, h1, h2⟩ := h.val c q r hf; exact ⟨x, h1, h2.on hb⟩, h.size, h.tidy⟩
theorem SesIs.out {w w' : World} {D : DataW Unit} {s : List S3} {bk : Nat} (h : SesIs w D s) (hg : w.grownBy w' (some bk)) (hne : ∀ g cs T fr, w.heap[g]? = some (.cells cs T fr) → g ≠ bk) : SesIs w' D s :=
  ⟨h.has, fun c q r hf => by obtain ⟨x, h1, h2⟩ := h.val c q r hf; exact ⟨x, h1, h2.out hg hne⟩, h.size, h.tidy⟩
theorem SesIs.put {w : World} {D : DataW Unit} {s : List S3} (h : SesIs w D s) (hr : RisesS s) {c q : Int} {r : Rep} {x : SV} (hx : SVof w x (c, q, r)) : SesIs w (D.put (kI c) (svD x)) (putS s c q r) := by
  refine ⟨fun d => ?_, fun d q2 r2 hf => ?_, ?_, h.tidy.put (kI_lit c) _⟩
  · rw [fndS_put hr]
    by_cases e : d = c
    · subst e
      rw [if_pos rfl, Maps.has_put_same h.tidy.isMap (kI_lit d)]
      rfl
    · rw [if_neg e, Maps.has_put_other (fun k => e (kI_inj k)), h.has d]
  · rw [fndS_put hr] at hf
    by_cases e : d = c
    · subst e
      rw [if_pos rfl] at hf
      simp only [Option.some.injEq, Prod.mk.injEq] at hf
      obtain ⟨rfl, rfl⟩ := hf
      exact ⟨x, Maps.atKey_put_same h.tidy.isMap (kI_lit d) _ _, hx⟩
    · rw [if_neg e] at hf
      obtain ⟨y, h1, h2⟩ := h.val d q2 r2 hf
      exact ⟨y, by rw [Maps.atKey_put_other (fun k => e (kI_inj k))]; exact h1, h2⟩
  · rw [Maps.size_put h.tidy, h.has, len_putS_eq hr]
    have := h.size
    split <;> omega
/-- A machine at block g: its directory d, bk; its sessions' map at block sb. -/
structure MacAt (X : World) (g d bk sb K : Nat) (m : Mac) (w : World) : Prop where
  c0 : w.cell? ⟨g, 0, none⟩ = some (dP d)
  c1 : w.cell? ⟨g, 1, none⟩ = some (.map (some sb))
  lw : LW X d bk K m.l w
  map : ∃ (D : DataW Unit) (n : Nat), n ≤ K ∧ w.ownsMap (H := Unit) Tryz.prog 3 sesElem sb n D ∧ SesIs w D m.s
  lo : X.heap.size ≤ g ∧ X.heap.size ≤ sb
  ne : sb ≠ bk
  right : RightM m
theorem MacAt.cellNe {X w : World} {g d bk sb K b o : Nat} {m : Mac} {x : Value} (h : MacAt X g d bk sb K m w) (hc : w.cell? ⟨b, o, none⟩ = some x) : b ≠ sb := by
  rintro rfl
  obtain ⟨D, n, _, ⟨es, ck, hb, _⟩, _⟩ := h.map
  simp [World.cell?, hb] at hc
theorem MacAt.blkNe {X w : World} {g d bk sb K : Nat} {m : Mac} (h : MacAt X g d bk sb K m w) : ∀ b cs T fr, w.heap[b]? = some (.cells cs T fr) → b ≠ sb := by
  rintro b cs T fr hc rfl
  obtain ⟨D, n, _, ⟨es, ck, hb, _⟩, _⟩ := h.map
  rw [hb] at hc
  cases hc
theorem LW.blkNe {X w : World} {d bk K : Nat} {l : List E3} (h : LW X d bk K l w) : ∀ b cs T fr, w.heap[b]? = some (.cells cs T fr) → b ≠ bk := fun _ _ _ _ hc => h.dir.blkNe hc
theorem MacAt.on {X w w' : World} {g d bk sb K : Nat} {m : Mac} (h : MacAt X g d bk sb K m w) (hb : Below w.heap.size w w') : MacAt X g d bk sb K m w' := by
  have hl := World.block_lt_of_cell? w _ h.c0
  obtain ⟨D, n, hn, hM, hI⟩ := h.map
  exact ⟨(hb.cell (p := ⟨g, 0, none⟩) hl).trans h.c0, (hb.cell (p := ⟨g, 1, none⟩) hl).trans h.c1, h.lw.on hb, ⟨D, n, hn, hM.kept (row := none) ⟨hb.os, hb.tape, hb.output, hb.size, fun k hk _ => hb.block k hk⟩ (by simp), hI.on hb⟩, h.lo, h.ne, h.right⟩
/-- Another machine, while a map turns that is none of its own. -/
theorem MacAt.out {X w w' : World} {g d bk sb K b : Nat} {m : Mac} (h : MacAt X g d bk sb K m w) (hg : w.grownBy w' (some b)) (hX : X.heap.size ≤ b) (hc : ∀ p o x, w.cell? ⟨p, o, none⟩ = some x → p ≠ b) (hk : ∀ p cs T fr, w.heap[p]? = some (.cells cs T fr) → p ≠ b) (h1 : bk ≠ b) (h2 : sb ≠ b) : MacAt X g d bk sb K m w' := by
  obtain ⟨D, n, hn, hM, hI⟩ := h.map
  have hdb : d ≠ b := hc _ _ _ h.lw.dir.cell
  obtain ⟨mm, hm⟩ := h.lw.ml
  refine ⟨hg.cell h.c0 (by simpa using hc _ _ _ h.c0), hg.cell h.c1 (by simpa using hc _ _ _ h.c1), ⟨h.lw.dir.out hg hdb h1, ⟨mm, hg.cell hm (by simpa using hc _ _ _ hm)⟩, h.lw.below.grown hg h.lw.below.size (fun j hj => by cases hj; exact hX), h.lw.lo, h.lw.right, h.lw.ver⟩, ⟨D, n, hn, hM.kept hg (by simpa using h2), hI.out hg hk⟩, h.lo, h.ne, h.right⟩
theorem MacAt.mono {X w : World} {g d bk sb K K2 : Nat} {m : Mac} (h : MacAt X g d bk sb K m w) (hK : K ≤ K2) : MacAt X g d bk sb K2 m w := by
  obtain ⟨D, n, hn, hM, hI⟩ := h.map
  exact ⟨h.c0, h.c1, h.lw.mono hK, ⟨D, n, by omega, hM, hI⟩, h.lo, h.ne, h.right⟩
def MNewP (X : World) (e : Ending) (w' : World) : Prop := ∃ g d bk sb, Hid (e = .returned (dP g)) ∧ MacAt X g d bk sb 0 ⟨[], []⟩ w'
theorem mnew_any {X w : World} (hb : Below X.heap.size X w) (hm : ML w) : Calls Tryz.prog 26 #[] w fun e w' => MNewP X e w' := by
  have hmm := @run_makeMap Tryz.prog
  have HN := Lib.hid (lw_new hb hm)
  clear hb hm
  go_enter Tryz.func26, Tryz.ntmps26
  go_wp2_with (go_at_call 48; refine HN.out.mono ?_; rintro e w1 ⟨d, bk, he, hL⟩; have he := he.out; subst he; have HL := Lib.hid hL; clear hL)
  go_ret
  have hL := HL.out
  have hlt := hL.dir.lt
  have hz := hL.below.size
  refine ⟨w1.heap.size + 1, d, bk, w1.heap.size, rfl, ?_, ?_, (hL.on ((Below.refl _ _).alloc (Nat.le_refl _) _)).on ((Below.refl _ _).alloc (Nat.le_refl _) _), ⟨.map [], 0, Nat.le_refl _, (World.ownsMap_made (H := Unit) w1 Tryz.prog 3 sesElem).alloc _, SesIs.empty _⟩, ⟨by omega, hz⟩, by omega, RightM.empty⟩
  · simp [go_sem]
  · simp [go_sem]
end Go.Proofs.YtbebjpfbbidaiaaGreat
