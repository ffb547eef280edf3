/-
  Texts put together: AcA, AcB, AcC, AcE, AcF, AcG.
-/
import Derived.Test.YtchhcaoondfpiaaGreatAcM
import Derived.Test.YtchhcaoondfpiaaGreatLdB
import Derived.Test.YtchhcaoondfpiaaGreatCc
import Derived.StillTailTactics
import Derived.Deep.RegionHeld3
import Derived.Deep.QuietTactic
import Derived.Maps.RangeWalk
namespace Go.Proofs.YtchhcaoondfpiaaGreat
open Go.RowKit Go.Sort
open Go.WideMaps
set_option linter.unusedSimpArgs false
set_option linter.unusedVariables false
set_option maxRecDepth 100000

theorem Knd.Own.setA {P : Program} {α : Type} {K : Knd P α} {w : World} {base : Nat} {v : Value} {l : List α} (h : K.Own w base v l) {b : Nat} (hb : b < base) (o : Nat) (u : Value) : K.Own (w.setCell ⟨b, o, none⟩ u) base v l :=
  h.keepB fun k hk => Below.heap_setCell _ _ _ k (by have := h.from k hk; show k ≠ b; omega)
theorem Knd.Own.outA {P : Program} {α : Type} {K : Knd P α} {w w' : World} {base bk : Nat} {v : Value} {l : List α} (h : K.Own w base v l) (hg : w.grownBy w' (some bk)) (hne : ∀ g cs T fr, w.heap[g]? = some (.cells cs T fr) → g ≠ bk) : K.Own w' base v l :=
  h.keepB fun k hk => by
    obtain ⟨hlt, cs, fr, hc⟩ := h.blk k hk
    exact hg.block k hlt (by have := hne k cs _ fr hc; simpa using this)
/-- What is known of an instance as it lies in a map: the list by its address. -/
structure AV where
  st : Int
  pr : Bal
  vo : Bal
  cm : CM
  sq : Int
  sl : Option (Nat × Nat)
  n : Nat
def avS : Option (Nat × Nat) → Nat → Value
  | none, _ => .slice none 0 0
  | some (g, c), n => .slice (some ⟨g, 0, none⟩) n c
def avL : Option (Nat × Nat) → Nat → DataW Unit
  | none, _ => .lit (.bool false)
  | some (g, c), n => .agg [.lit (.int .i64 g), .lit (.int .i64 c), .lit (.int .i64 n)]
abbrev avV (x : AV) : Value := .agg #[.int .i64 x.st, .int .i64 x.pr.1, .int .i64 x.pr.2, .int .i64 x.vo.1, .int .i64 x.vo.2, .int .i64 x.cm.cl, .int .i64 x.cm.sq, .int .i64 x.cm.op, .string x.cm.pa, .string x.cm.va, .int .i64 x.cm.ver, .int .i64 x.cm.a, .int .i64 x.cm.b, .int .i64 x.sq, avS x.sl x.n]
def avD (x : AV) : DataW Unit := .agg [.lit (.int .i64 x.st), .lit (.int .i64 x.pr.1), .lit (.int .i64 x.pr.2), .lit (.int .i64 x.vo.1), .lit (.int .i64 x.vo.2), .lit (.int .i64 x.cm.cl), .lit (.int .i64 x.cm.sq), .lit (.int .i64 x.cm.op), .lit (.string x.cm.pa.data.toList), .lit (.string x.cm.va.data.toList), .lit (.int .i64 x.cm.ver), .lit (.int .i64 x.cm.a), .lit (.int .i64 x.cm.b), .lit (.int .i64 x.sq), avL x.sl x.n]
/-- How what is known of an instance reads. -/
def avElem : Value → Option (DataW Unit × List MemPlace)
  | .agg ⟨[.int .i64 a, .int .i64 b, .int .i64 c, .int .i64 d, .int .i64 e, .int .i64 f, .int .i64 g, .int .i64 h, .string i, .string j, .int .i64 k, .int .i64 l, .int .i64 m, .int .i64 q, .slice none 0 0]⟩ => some (avD ⟨a, (b, c), (d, e), ⟨f, g, h, i, j, k, l, m⟩, q, none, 0⟩, [])
  | .agg ⟨[.int .i64 a, .int .i64 b, .int .i64 c, .int .i64 d, .int .i64 e, .int .i64 f, .int .i64 g, .int .i64 h, .string i, .string j, .int .i64 k, .int .i64 l, .int .i64 m, .int .i64 q, .slice (some ⟨bk, 0, none⟩) n cc]⟩ => some (avD ⟨a, (b, c), (d, e), ⟨f, g, h, i, j, k, l, m⟩, q, some (bk, cc), n⟩, [])
  | _ => none
def AV.ok (x : AV) : Prop := x.sl = none → x.n = 0
theorem avElem_mk {x : AV} (h : x.ok) : avElem (avV x) = some (avD x, []) := by
  obtain ⟨a, ⟨b, c⟩, ⟨d, e⟩, ⟨f, g, h', i, j, k, l, m⟩, q, sl, n⟩ := x
  cases sl with
  | none => obtain rfl : n = 0 := h rfl; rfl
  | some y => rfl
theorem avElem_inv {u : Value} {z : DataW Unit × List MemPlace} (h : avElem u = some z) : ∃ x : AV, x.ok ∧ u = avV x ∧ z = (avD x, []) := by
  unfold avElem at h
  split at h
  · exact ⟨⟨_, (_, _), (_, _), ⟨_, _, _, _, _, _, _, _⟩, _, none, 0⟩, (fun _ => rfl), rfl, (Option.some.inj h).symm⟩
  · exact ⟨⟨_, (_, _), (_, _), ⟨_, _, _, _, _, _, _, _⟩, _, some (_, _), _⟩, (fun h => by cases h), rfl, (Option.some.inj h).symm⟩
  · cases h
theorem avD_inj {x y : AV} (hx : x.ok) (hy : y.ok) (h : avD x = avD y) : x = y := by
  obtain ⟨a, ⟨b, c⟩, ⟨d, e⟩, ⟨f, g, h', i, j, k, l, m⟩, q, sl, n⟩ := x
  obtain ⟨a2, ⟨b2, c2⟩, ⟨d2, e2⟩, ⟨f2, g2, h2, i2, j2, k2, l2, m2⟩, q2, sl2, n2⟩ := y
  simp only [avD, DataW.agg.injEq, List.cons.injEq, DataW.lit.injEq, Lit.string.injEq, Lit.int.injEq, true_and, and_true] at h
  obtain ⟨rfl, rfl, rfl, rfl, rfl, rfl, rfl, rfl, hp, hv, rfl, rfl, rfl, rfl, hs⟩ := h
  have e1 : i = i2 := by cases i; cases i2; congr 1; exact Array.toList_inj.1 hp
  have e2 : j = j2 := by cases j; cases j2; congr 1; exact Array.toList_inj.1 hv
  subst e1 e2
  cases sl with
  | none =>
    obtain rfl : n = 0 := hx rfl
    cases sl2 with
    | none => obtain rfl : n2 = 0 := hy rfl; rfl
    | some y => obtain ⟨a, b⟩ := y; simp [avL] at hs
  | some z =>
    obtain ⟨a, b⟩ := z
    cases sl2 with
    | none => simp [avL] at hs
    | some y =>
      obtain ⟨a2, b2⟩ := y
      simp only [avL, DataW.agg.injEq, List.cons.injEq, DataW.lit.injEq, Lit.int.injEq, true_and, and_true, Int.natCast_inj] at hs
      obtain ⟨rfl, rfl, rfl⟩ := hs
      rfl
def avZ : AV := ⟨0, (0, 0), (0, 0), ⟨0, 0, 0, { data := #[] }, { data := #[] }, 0, 0, 0⟩, 0, none, 0⟩
theorem zeroAv (w : World) : (zeroValue 48).run Tryz.prog w = .ok (avV avZ) w := by kernel_rfl
/-- What is known of an instance, as a value holds it. -/
structure AVof (w : World) (v : AV) (e : Ist) : Prop where
  ok : v.ok
  st : v.st = e.st
  pr : v.pr = e.pr
  vo : v.vo = e.vo
  cm : v.cm = e.cm
  sq : v.sq = e.at'.1
  row : IK.Own w 0 (avS v.sl v.n) e.at'.2
theorem AVof.on {w w' : World} {v : AV} {e : Ist} (h : AVof w v e) (hb : Below w.heap.size w w') : AVof w' v e := ⟨h.ok, h.st, h.pr, h.vo, h.cm, h.sq, h.row.below hb⟩
theorem AVof.out {w w' : World} {v : AV} {e : Ist} {bk : Nat} (h : AVof w v e) (hg : w.grownBy w' (some bk)) (hne : ∀ g cs T fr, w.heap[g]? = some (.cells cs T fr) → g ≠ bk) : AVof w' v e := ⟨h.ok, h.st, h.pr, h.vo, h.cm, h.sq, h.row.outA hg hne⟩
/-- As a row of cells. -/
theorem AVof.val {w : World} {v : AV} {e : Ist} (h : AVof w v e) : avV v = .agg (inE e (avS v.sl v.n)).toArray := by
  obtain ⟨a, b, c, d, q, sl, n⟩ := v
  obtain ⟨a2, b2, c2, d2, ⟨q2, l2⟩⟩ := e
  obtain ⟨h0, h1, h2, h3, h4, h5, h6⟩ := h
  simp only at h1 h2 h3 h4 h5
  subst h1 h2 h3 h4 h5
  rfl
theorem own_av {w : World} {base : Nat} {v : Value} {ns : List I3} (h : IK.Own w base v ns) : ∃ sl n, v = avS sl n ∧ (sl = none → n = 0) := by
  rcases h.2 with ⟨rfl, _⟩ | ⟨g, cap, cur, rfl, _⟩
  · exact ⟨none, 0, rfl, fun _ => rfl⟩
  · exact ⟨some (g, cap), ns.length, rfl, fun h => by cases h⟩
/-- What comes out of clone.Inst is one. -/
theorem AVof.of {w : World} {base : Nat} {x : Ist} {v' : Value} (h : IK.Own w base v' x.at'.2) : ∃ v, AVof w v x ∧ avS v.sl v.n = v' := by
  obtain ⟨sl, n, rfl, hn⟩ := own_av h
  exact ⟨⟨x.st, x.pr, x.vo, x.cm, x.at'.1, sl, n⟩, ⟨hn, rfl, rfl, rfl, rfl, rfl, h.base (Nat.zero_le _)⟩, rfl⟩
abbrev okB (l : List (I3 × Ist)) : Prop := ∀ e ∈ l, okI e.1
/-- The map of a book is l. -/
structure AcIs (w : World) (D : DataW Unit) (l : List (I3 × Ist)) : Prop where
  has : ∀ id, okI id → Maps.has D (kf id) = l.any fun e => decide (e.1 = id)
  val : ∀ id x, (id, x) ∈ l → ∃ v, D.atKey (kf id) (avD avZ) = avD v ∧ AVof w v x
  size : Maps.size D = l.length
  tidy : Maps.Tidy D
theorem AcIs.empty (w : World) : AcIs w (.map []) [] := ⟨fun x _ => rfl, (fun _ _ h => by cases h), rfl, Maps.tidy_empty⟩
theorem AcIs.on {w w' : World} {D : DataW Unit} {l : List (I3 × Ist)} (h : AcIs w D l) (hb : Below w.heap.size w w') : AcIs w' D l :=
  ⟨h.has, fun id x hm => by obtain ⟨v, h1, h2⟩ := h.val id x hm; exact ⟨v, h1, h2.on hb⟩, h.size, h.tidy⟩
theorem AcIs.out {w w' : World} {D : DataW Unit} {l : List (I3 × Ist)} {bk : Nat} (h : AcIs w D l) (hg : w.grownBy w' (some bk)) (hne : ∀ g cs T fr, w.heap[g]? = some (.cells cs T fr) → g ≠ bk) : AcIs w' D l :=
  ⟨h.has, fun id x hm => by obtain ⟨v, h1, h2⟩ := h.val id x hm; exact ⟨v, h1, h2.out hg hne⟩, h.size, h.tidy⟩
theorem setL_len : ∀ {l : List (I3 × Ist)}, RisesB l → ∀ (id : I3) (x : Ist), (setL l id x).length = if (l.any fun e => decide (e.1 = id)) then l.length else l.length + 1
  | [], _, id, x => rfl
  | a :: l, h, id, x => by
    have hp := List.pairwise_cons.1 h
    have ih := setL_len hp.2 id x
    by_cases e : a.1 = id
    · have h1 : ltI a.1 id = false := by rw [e, ltI_irrefl]
      have h2 : ltI id a.1 = false := by rw [e, ltI_irrefl]
      have h3 : lowB l id = [] := List.filter_eq_nil_iff.2 fun y hy q => by
        have := hp.1 y hy
        rw [e] at this
        have := ltI_trans this q
        rw [ltI_irrefl] at this
        cases this
      have h4 : upB l id = l := List.filter_eq_self.2 fun y hy => by rw [← e]; exact hp.1 y hy
      unfold setL at ih ⊢
      rw [show lowB (a :: l) id = lowB l id by unfold lowB; rw [List.filter_cons, h1]; rfl, show upB (a :: l) id = upB l id by unfold upB; rw [List.filter_cons, h2]; rfl, h3, h4]
      simp [e]
    · have h5 : (setL (a :: l) id x).length = (setL l id x).length + 1 := by
        unfold setL lowB upB
        cases q : ltI a.1 id with
        | true =>
          have q2 : ltI id a.1 = false := by
            cases q3 : ltI id a.1 with
            | false => rfl
            | true => have := ltI_trans q q3; rw [ltI_irrefl] at this; cases this
          rw [List.filter_cons, q, List.filter_cons, q2]
          simp <;> omega
        | false =>
          have q2 : ltI id a.1 = true := by
            cases q3 : ltI id a.1 with
            | true => rfl
            | false => exact absurd (ltI_total q q3) e
          rw [List.filter_cons, q, List.filter_cons, q2]
          simp <;> omega
      rw [h5, ih, List.any_cons, decide_eq_false e, Bool.false_or]
      split <;> simp
theorem setL_any {l : List (I3 × Ist)} (id o : I3) (x : Ist) : (setL l id x).any (fun e => decide (e.1 = o)) = (decide (o = id) || l.any fun e => decide (e.1 = o)) := by
  rw [Bool.eq_iff_iff]
  simp only [List.any_eq_true, Bool.or_eq_true, decide_eq_true_eq]
  constructor
  · rintro ⟨e, he, q⟩
    rcases mem_setL.1 he with h | h
    · rw [h] at q; exact .inl q.symm
    · exact .inr ⟨e, h.1, q⟩
  · rintro (h | ⟨e, he, q⟩)
    · exact ⟨(id, x), mem_setL.2 (.inl rfl), h.symm⟩
    · by_cases c : e.1 = id
      · exact ⟨(id, x), mem_setL.2 (.inl rfl), by rw [← q, c]⟩
      · exact ⟨e, mem_setL.2 (.inr ⟨he, c⟩), q⟩
theorem AcIs.put {w : World} {D : DataW Unit} {l : List (I3 × Ist)} (h : AcIs w D l) (hr : RisesB l) (ho : okB l) {id : I3} (hi : okI id) {x : Ist} {v : AV} (hx : AVof w v x) : AcIs w (D.put (kf id) (avD v)) (setL l id x) := by
  refine ⟨fun o hko => ?_, fun o y hm => ?_, ?_, h.tidy.put (kf_lit hi) _⟩
  · rw [setL_any]
    by_cases e : o = id
    · subst e
      rw [Maps.has_put_same h.tidy.isMap (kf_lit hi)]
      simp
    · rw [Maps.has_put_other (fun k => e (kf_inj hko hi k)), h.has o hko, decide_eq_false e, Bool.false_or]
  · rcases mem_setL.1 hm with e | ⟨hm, e⟩
    · obtain ⟨rfl, rfl⟩ := Prod.mk.inj e
      exact ⟨v, Maps.atKey_put_same h.tidy.isMap (kf_lit hi) _ _, hx⟩
    · obtain ⟨u, h1, h2⟩ := h.val o y hm
      exact ⟨u, by rw [Maps.atKey_put_other (fun k => e (kf_inj (ho _ hm) hi k))]; exact h1, h2⟩
  · rw [Maps.size_put h.tidy, h.has id hi, h.size, setL_len hr]
theorem AcIs.look {w : World} {D : DataW Unit} {l : List (I3 × Ist)} (h : AcIs w D l) (hr : RisesB l) {id : I3} (hi : okI id) : ∃ v, D.atKey (kf id) (avD avZ) = avD v ∧ AVof w v (getL l id) := by
  by_cases q : ∃ y, (id, y) ∈ l
  · obtain ⟨y, hy⟩ := q
    rw [getL_mem hr hy]
    exact h.val id y hy
  · have q1 : ∀ y, (id, y) ∉ l := fun y hy => q ⟨y, hy⟩
    rw [getL_none q1]
    have h1 := h.has id hi
    have h2 : (l.any fun e => decide (e.1 = id)) = false := by
      rw [List.any_eq_false]
      intro e he q
      have q : e.1 = id := by simpa using q
      exact q1 e.2 (by rw [← q]; exact he)
    rw [h2] at h1
    rw [Maps.atKey_of_not_has h1]
    exact ⟨avZ, rfl, ⟨fun _ => rfl, rfl, rfl, rfl, rfl, rfl, Knd.Own.nil _ _⟩⟩
end Go.Proofs.YtchhcaoondfpiaaGreat
namespace Go.Proofs.YtchhcaoondfpiaaGreat
open Go.RowKit Go.Sort
open Go.WideMaps
set_option linter.unusedSimpArgs false
set_option linter.unusedVariables false
set_option maxRecDepth 100000

theorem avK : Go.Maps.Keyed Tryz.prog 37 := idLaw
/-- The book behind the pointer to block g, whose map is block mb; all of it lies from B on; K bounds the map's count. -/
structure BkAt (w : World) (B g mb K : Nat) (b : BSt) : Prop where
  box : ∃ vn, Bk w g 85 [.int .i64 b.node, .int .i64 b.ep, vn, .map (some mb)] ∧ OwnI w B vn b.ns
  map : ∃ (D : DataW Unit) (m : Nat), m ≤ K ∧ w.ownsMap (H := Unit) Tryz.prog 37 avElem mb m D ∧ AcIs w D b.l
  lo : B ≤ g ∧ B ≤ mb
  rise : RisesB b.l
  keys : okB b.l
abbrev bP (g : Nat) : Value := .pointer (some ⟨g, 0, none⟩)
theorem BkAt.below {w w' : World} {B g mb K : Nat} {b : BSt} (h : BkAt w B g mb K b) (hb : Below w.heap.size w w') : BkAt w' B g mb K b := by
  obtain ⟨⟨vn, h1, h2⟩, ⟨D, m, h3, h4, h5⟩, h6, h7, h8⟩ := h
  exact ⟨⟨vn, h1.below hb, h2.below hb⟩, ⟨D, m, h3, h4.kept (row := none) ⟨hb.os, hb.tape, hb.output, hb.size, fun k hk _ => hb.block k hk⟩ (by simp), h5.on hb⟩, h6, h7, h8⟩
theorem BkAt.mono {w : World} {B g mb K K2 : Nat} {b : BSt} (h : BkAt w B g mb K b) (hK : K ≤ K2) : BkAt w B g mb K2 b := by
  obtain ⟨h1, ⟨D, m, h3, h4, h5⟩, h6, h7, h8⟩ := h
  exact ⟨h1, ⟨D, m, by omega, h4, h5⟩, h6, h7, h8⟩
theorem BkAt.lt {w : World} {B g mb K : Nat} {b : BSt} (h : BkAt w B g mb K b) : g < w.heap.size := by
  obtain ⟨vn, h1, _⟩ := h.box
  exact h1.lt
/-- No block of cells is the map's. -/
theorem BkAt.blkNe {w : World} {B g mb K : Nat} {b : BSt} (h : BkAt w B g mb K b) : ∀ k cs T fr, w.heap[k]? = some (.cells cs T fr) → k ≠ mb := by
  rintro k cs T fr hc rfl
  obtain ⟨D, n, _, ⟨es, ck, hb, _⟩, _⟩ := h.map
  rw [hb] at hc
  cases hc
/-- What New comes to. -/
def BnP (b : BSt) (w : World) (e : Ending) (w' : World) : Prop := ∃ g mb, Hid (e = .returned (bP g)) ∧ BkAt w' w.heap.size g mb 0 b ∧ Below w.heap.size w w'
set_option maxHeartbeats 4000000 in
theorem bnew_any (node ep : Int) (an : Option Addr) (cn : Nat) (ns : List Int) (w : World) (hc : It w (.slice an ns.length cn) ns) (hn : ns.length ≤ 1000) :
    Calls Tryz.prog 13 #[.int .i64 node, .agg #[.int .i64 ep, .slice an ns.length cn]] w (BnP ⟨node, ep, ns, []⟩ w) := by
  have hmm := @run_makeMap Tryz.prog
  obtain ⟨X, hX⟩ : ∃ X, w.alloc (.cells #[.int .i64 ep, .slice an ns.length cn] 24) = X := ⟨_, rfl⟩
  have hB : Below w.heap.size w X := by rw [← hX]; exact (Below.refl _ _).alloc (Nat.le_refl _) _
  have b1 : Bk X w.heap.size 24 [.int .i64 ep, .slice an ns.length cn] := by rw [← hX]; exact Bk.new w _ _
  have HB := Lib.hid hB
  have HCC : Hid (Calls Tryz.prog 33 #[.agg #[.int .i64 ep, .slice an ns.length cn]] X (Cc.CfPost ep ns X)) := Lib.hid (Cc.cclone_any ep an cn ns X (hc.below hB) (by omega))
  have c0 : X.cell? ⟨w.heap.size, 0, none⟩ = some (.int .i64 ep) := b1.cell 0
  have c1 : X.cell? ⟨w.heap.size, 1, none⟩ = some (.slice an ns.length cn) := b1.cell 1
  clear hB b1 hc
  go_enter Tryz.func13, Tryz.ntmps13
  go_wp2_with fail
  try rw [hX]
  refine HCC.out.mono ?_
  rintro e w1 ⟨v1, he, ho, hb⟩
  have he := he.out
  subst he
  obtain ⟨a1, c1', hv1⟩ := OwnI.slice ho
  subst hv1
  have HO := Lib.hid ho
  have HB1 := Lib.hid (below_self HB.out hb)
  clear ho hb
  go_wp2
  go_ret
  have hz := HB1.out.size
  refine ⟨w1.heap.size + 1, w1.heap.size, rfl, ⟨⟨.slice a1 ns.length c1', ?_, ?_⟩, ⟨.map [], 0, Nat.le_refl _, (World.ownsMap_made (H := Unit) w1 Tryz.prog 37 avElem).alloc _, AcIs.empty _⟩, ⟨by omega, hz⟩, List.Pairwise.nil, fun e he => (by cases he)⟩, ?_⟩
  · have h := Bk.new (w1.alloc (.map #[] 0)) 85 [.int .i64 node, .int .i64 ep, .slice a1 ns.length c1', .map (some w1.heap.size)]
    rw [World.size_alloc] at h
    exact h
  · exact (OwnI.base HO.out HB.out.size).below (((Below.refl _ _).alloc (Nat.le_refl _) _).alloc (by simp) _)
  · exact (HB1.out.alloc hz _).alloc (by simp; omega) _
/-- What the map answers for a key that it has or lacks. -/
theorem BkAt.look {w : World} {B g mb K : Nat} {b : BSt} (h : BkAt w B g mb K b) {id : I3} (hi : okI id) :
    ∃ v, AVof w v (getL b.l id) ∧ (Instr.lookup 83 (.map (some mb)) (idV id) false).run Tryz.prog w = .ok (avV v) w := by
  obtain ⟨D, m, _, hM, hI⟩ := h.map
  obtain ⟨v, h1, h2⟩ := hI.look h.rise hi
  obtain ⟨u, ps, hr, hv⟩ := hM.lookup avK Tryz.underlying83 (zeroAv w) (avElem_mk (x := avZ) (fun _ => rfl)) (kf_key hi)
  obtain ⟨y, hy, rfl, hz⟩ := avElem_inv hv
  have h3 := congrArg Prod.fst hz
  change D.atKey (kf id) (avD avZ) = avD y at h3
  rw [h1] at h3
  have e := avD_inj h2.ok hy h3
  subst e
  exact ⟨_, h2, hr⟩
theorem okB.set {l : List (I3 × Ist)} (h : okB l) {id : I3} (hi : okI id) (x : Ist) : okB (setL l id x) := by
  intro e he
  rcases mem_setL.1 he with q | q
  · rw [q]; exact hi
  · exact h e q.1
theorem wpList_alook {ops : Array Oper} {rest : List Oper} {o : Oper} {a : Act} {w : World} {Q : Exit → Act → World → Prop} (hgd : o.guard = none) (m x : Operand) (ho : o.op = .lookup 83 m x false) (b : Nat) (hm : a.eval m = .map (some b)) (id : I3) (hx : a.eval x = idV id)
    (v : Value) (hr : (Instr.lookup 83 (.map (some b)) (idV id) false).run Tryz.prog w = .ok v w) (h : wpList Tryz.prog ops Q rest (a.put o.dst v) w) : wpList Tryz.prog ops Q (o :: rest) a w := by
  refine wpList_value (by simp [Region.wanted, hgd]) v w ?_ h
  unfold execOp
  simp only [ho, hm, hx, Sem.run_bind, hr, Result.andThen_ok, Sem.run_pure]
/-- The book behind the map's change: the map has one more, all else of the book stands. -/
theorem BkAt.turn {w w' : World} {B g mb K m2 : Nat} {b : BSt} (h : BkAt w B g mb K b) (hg : w.grownBy w' (some mb)) {id : I3} (hi : okI id) {x : Ist} {v : AV} (hx : AVof w v x) {D : DataW Unit} (hI : AcIs w D b.l)
    (hm2 : m2 ≤ K + 1) (hM : w'.ownsMap (H := Unit) Tryz.prog 37 avElem mb m2 (D.put (kf id) (avD v))) : BkAt w' B g mb (K + 1) { b with l := setL b.l id x } := by
  obtain ⟨vn, h1, h2⟩ := h.box
  have hne := h.blkNe
  refine ⟨⟨vn, h1.grown hg (fun q => hne _ _ _ _ h1 (Option.some.inj q)), OwnI.keepB h2 fun k hk => ?_⟩, ⟨_, m2, hm2, hM, (hI.put h.rise h.keys hi hx).out hg hne⟩, h.lo, h.rise.set id x, h.keys.set hi x⟩
  obtain ⟨hlt, cs, fr, hc⟩ := OwnI.blk h2 k hk
  exact hg.block k hlt (fun q => hne _ _ _ _ hc (Option.some.inj q))
end Go.Proofs.YtchhcaoondfpiaaGreat
namespace Go.Proofs.YtchhcaoondfpiaaGreat
open Go.RowKit Go.Sort
open Go.WideMaps
set_option linter.unusedSimpArgs false
set_option linter.unusedVariables false
set_option maxRecDepth 100000

section
variable {P : Program} {ops : Array Oper} {o : Oper} {a : Act} {w : World} {K : Act → World → Prop} {Q : Exit → Act → World → Prop} {E : Prop}
theorem step_doneA (hg : o.guard = none) (w' : World) (hr : (execOp a.eval o).run P w = .ok .skip w') (hK : K (a.put o.dst undef) w') :
    if Region.wanted o (yielded ops a.tmps) = true then Oper.wp P o a w K Q else E := by
  rw [if_pos (by simp [Region.wanted, hg])]
  unfold Oper.wp
  rw [hr]
  exact hK
theorem step_store_rowA (hgd : o.guard = none) (t : TypeId) (x y : Operand) (ho : o.op = .store t x y) (g : Nat) (hx : a.eval x = .pointer (some ⟨g, 0, none⟩)) (cells : Array Value) (hy : a.eval y = .agg cells)
    (old : Array Value) (e : TypeId) (hg : w.heap[g]? = some (.cells old e (0, 0))) (hi : (P.info? t).map (·.size) = some cells.size) (hs : old.size = cells.size) (h1 : cells.all (·.oneCell') = true)
    (hK : K (a.put o.dst undef) (w.setRow g cells)) : if Region.wanted o (yielded ops a.tmps) = true then Oper.wp P o a w K Q else E := by
  refine step_doneA hgd _ ?_ hK
  unfold execOp
  simp only [ho, hx, hy, Instr.storeAt, Instr.sureAddr, Sem.run_bind, Sem.run_pure, Result.andThen_ok, run_storeVar_row w g e t old cells hg hi hs h1]
theorem step_mapA {H : Type} (hw : Region.wanted o (yielded ops a.tmps) = true) (m x v : Operand) (t : TypeId) (hop : o.op = Op.mapUpdate t m x v)
    (k e : TypeId) (Kd : Go.Maps.Keyed P k) (ht : P.underlying t = some (.map k e)) (R : Value → Option (DataW H × List MemPlace)) (b n : Nat) (D : DataW H)
    (hm : a.eval m = .map (some b)) (hown : w.ownsMap P k R b n D) (hn : n < maxLen) (key val : Value) (kl : Lit) (hx : a.eval x = key) (hv : a.eval v = val) (hkey : keyOf P k key = some kl)
    (d : DataW H) (ps : List MemPlace) (hval : R val = some (d, ps))
    (hK : ∀ w', w'.ownsMap P k R b (n + 1) (D.put kl d) → w.grownBy w' (some b) → K (a.put o.dst undef) w') : if Region.wanted o (yielded ops a.tmps) = true then Oper.wp P o a w K Q else E := by
  rw [if_pos hw]
  obtain ⟨w', hrun, r1, r2⟩ := hown.update Kd ht hn hkey hval
  unfold Oper.wp
  simp [execOp, hop, hm, hx, hv, hrun, Result.andThen]
  exact hK w' r1 r2
end
section
variable {P : Program} {ops : Array Oper} {Q : Exit → Act → World → Prop} {md : Region.Mode} {S : World → Prop} {fuel : Nat} {listed : Array Bool} {a : Act} {w : World}
/-- An operation that only reads comes first. -/
theorem tkA (i : Nat) {oi : Oper} {v : Value} (hy : ∀ w, S w → (execOp a.eval oi).run P w = .ok (.value v) w) (h : wpAnyH P md ops Q S fuel (listed.setIfInBounds i true) (a.put oi.dst v) w)
    (hi : ops[i]? = some oi := by rfl) (hs : Region.noSelect ops = true := by kernel_rfl) (hf : Region.free md ops listed i = true := by kernel_rfl) (hr : (Region.ready md ops listed).contains i = true := by kernel_rfl)
    (hQ : ∀ c a w, Q (.panic c) (a.put oi.dst v) w → Q (.panic c) a w := by exact fun _ _ _ h => h) (hw : Region.wanted oi (yielded ops a.tmps) = true := by rfl) (hS : S w := by assumption) : wpAnyH P md ops Q S (fuel + 1) listed a w :=
  wpAnyH_take hi hs hf hr hQ (Or.inl ⟨hw, hy⟩) hS h
/-- An operation whose guard does not hold. -/
theorem utA (i : Nat) {oi : Oper} (h : wpAnyH P md ops Q S fuel (listed.setIfInBounds i true) (a.put oi.dst undef) w)
    (hi : ops[i]? = some oi := by rfl) (hs : Region.noSelect ops = true := by kernel_rfl) (hf : Region.free md ops listed i = true := by kernel_rfl) (hr : (Region.ready md ops listed).contains i = true := by kernel_rfl)
    (hQ : ∀ c a w, Q (.panic c) (a.put oi.dst undef) w → Q (.panic c) a w := by exact fun _ _ _ h => h) (hw : Region.wanted oi (yielded ops a.tmps) = false := by rfl) (hS : S w := by assumption) : wpAnyH P md ops Q S (fuel + 1) listed a w :=
  wpAnyH_take hi hs hf hr hQ (Or.inr ⟨hw, rfl⟩) hS h
end
theorem gA1 : type_of% @List.setIfInBounds_toArray := @List.setIfInBounds_toArray
theorem gA2 : type_of% @List.set_cons_zero := @List.set_cons_zero
theorem gA3 : type_of% @List.set_cons_succ := @List.set_cons_succ
theorem gA4 : type_of% @List.getElem_toArray := @List.getElem_toArray
theorem gA5 : type_of% @List.getElem_cons_zero := @List.getElem_cons_zero
theorem gA6 : type_of% @List.getElem_cons_succ := @List.getElem_cons_succ
theorem Bk.newA {w : World} {g : Nat} (hg : w.heap.size = g) (T : TypeId) (cs : List Value) : Bk (w.alloc (.cells cs.toArray T)) g T cs := by subst hg; exact Bk.new w T cs
theorem all_toA {l : List Value} (h : l.all (·.oneCell') = true) : l.toArray.all (·.oneCell') = true := by rw [← Array.all_toList]; exact h
theorem bk_setRowA {w : World} {b : Nat} {T : TypeId} {cs ds : List Value} (h : Bk w b T cs) : Bk (w.setRow b ds.toArray) b T ds := heap_setRow_same w b cs.toArray ds.toArray T h
/-- What the map answers, in every later world. -/
theorem BkAt.look2 {w : World} {B g mb K : Nat} {b : BSt} (h : BkAt w B g mb K b) {id : I3} (hi : okI id) :
    ∃ v, AVof w v (getL b.l id) ∧ ∀ w2, Below w.heap.size w w2 → (Instr.lookup 83 (.map (some mb)) (idV id) false).run Tryz.prog w2 = .ok (avV v) w2 := by
  obtain ⟨D, m, _, hM, hI⟩ := h.map
  obtain ⟨v, h1, h2⟩ := hI.look h.rise hi
  refine ⟨v, h2, fun w2 hb => ?_⟩
  have hM2 : w2.ownsMap (H := Unit) Tryz.prog 37 avElem mb m D := hM.kept (row := none) ⟨hb.os, hb.tape, hb.output, hb.size, fun k hk _ => hb.block k hk⟩ (by simp)
  obtain ⟨u, ps, hr, hv⟩ := hM2.lookup avK Tryz.underlying83 (zeroAv w2) (avElem_mk (x := avZ) (fun _ => rfl)) (kf_key hi)
  obtain ⟨y, hy, rfl, hz⟩ := avElem_inv hv
  have h3 := congrArg Prod.fst hz
  change D.atKey (kf id) (avD avZ) = avD y at h3
  rw [h1] at h3
  have e := avD_inj h2.ok hy h3
  subst e
  exact hr
theorem BkAt.c3 {w : World} {B g mb K : Nat} {b : BSt} (h : BkAt w B g mb K b) : w.cell? ⟨g, 3, none⟩ = some (.map (some mb)) := by
  obtain ⟨vn, h1, _⟩ := h.box
  exact h1.cell 3
theorem BkAt.ltm {w : World} {B g mb K : Nat} {b : BSt} (h : BkAt w B g mb K b) : mb < w.heap.size := by
  obtain ⟨D, m, _, hM, _⟩ := h.map
  exact hM.lt
set_option maxHeartbeats 4000000 in
theorem bget_any {w : World} {B g mb K : Nat} {b : BSt} (h : BkAt w B g mb K b) {id : I3} (hi : okI id) (hl : (getL b.l id).at'.2.length ≤ 100000) : Calls Tryz.prog 20 #[bP g, idV id] w (InO (getL b.l id) w) := by
  obtain ⟨v, hv, hrun⟩ := h.look2 hi
  have hg := h.c3
  have hglt := h.lt
  have hrow := hv.row
  rw [hv.val] at hrun
  obtain ⟨x, hx⟩ : ∃ x, getL b.l id = x := ⟨_, rfl⟩
  rw [hx] at hrun hrow hl ⊢
  obtain ⟨i1, i2, i3⟩ := id
  obtain ⟨n0, ⟨n1, n2⟩, ⟨n3, n4⟩, ⟨n5, n6, n7, n8, n9, n10, n11, n12⟩, s, l⟩ := x
  simp only at hrow hl
  obtain ⟨a, c, hs⟩ := hrow.slice
  obtain ⟨M, hM⟩ : ∃ M, l.length = M := ⟨_, rfl⟩
  rw [hM] at hs
  rw [hs] at hrun hrow
  simp only [inE] at hrun
  obtain ⟨X, hX⟩ : ∃ X, (w.alloc (.cells #[.int .i64 i1, .int .i64 i2, .int .i64 i3] 37)).alloc (.cells #[.int .i64 0, .int .i64 0, .int .i64 0, .int .i64 0, .int .i64 0, .int .i64 0, .int .i64 0, .int .i64 0, .string ⟨#[]⟩, .string ⟨#[]⟩, .int .i64 0, .int .i64 0, .int .i64 0, .int .i64 0, .slice none 0 0] 48) = X := ⟨_, rfl⟩
  have hBX : Below w.heap.size w X := by rw [← hX]; exact ((Below.refl _ _).alloc (Nat.le_refl _) _).alloc (by simp) _
  have HID : Hid (Bk X w.heap.size 37 [.int .i64 i1, .int .i64 i2, .int .i64 i3]) := Lib.hid (by rw [← hX]; exact (Bk.new w _ _).old _)
  have HRX : Hid (Bk X (w.heap.size + 1) 48 [.int .i64 0, .int .i64 0, .int .i64 0, .int .i64 0, .int .i64 0, .int .i64 0, .int .i64 0, .int .i64 0, .string ⟨#[]⟩, .string ⟨#[]⟩, .int .i64 0, .int .i64 0, .int .i64 0, .int .i64 0, .slice none 0 0]) := Lib.hid (by rw [← hX]; exact Bk.newA (by simp) _ [.int .i64 0, .int .i64 0, .int .i64 0, .int .i64 0, .int .i64 0, .int .i64 0, .int .i64 0, .int .i64 0, .string ⟨#[]⟩, .string ⟨#[]⟩, .int .i64 0, .int .i64 0, .int .i64 0, .int .i64 0, .slice none 0 0])
  have HZX : Hid (w.heap.size + 2 ≤ X.heap.size) := Lib.hid (by rw [← hX]; simp)
  have HBX := Lib.hid hBX
  have HKP : Hid (∀ w', Below (w.heap.size + 1) X w' → w'.cell? ⟨g, 3, none⟩ = some (.map (some mb)) ∧ w'.cell? ⟨w.heap.size, 0, none⟩ = some (.int .i64 i1) ∧ w'.cell? ⟨w.heap.size, 1, none⟩ = some (.int .i64 i2) ∧ w'.cell? ⟨w.heap.size, 2, none⟩ = some (.int .i64 i3) ∧ (Instr.lookup 83 (.map (some mb)) (.agg #[.int .i64 i1, .int .i64 i2, .int .i64 i3]) false).run Tryz.prog w' = .ok (.agg #[.int .i64 n0, .int .i64 n1, .int .i64 n2, .int .i64 n3, .int .i64 n4, .int .i64 n5, .int .i64 n6, .int .i64 n7, .string n8, .string n9, .int .i64 n10, .int .i64 n11, .int .i64 n12, .int .i64 s, .slice a M c]) w') := Lib.hid fun w' hb => by
    have hb1 := HBX.out.trans (hb.mono (Nat.le_succ _))
    have q : ∀ j, w'.cell? ⟨w.heap.size, j, none⟩ = X.cell? ⟨w.heap.size, j, none⟩ := fun j => hb.cell (p := ⟨w.heap.size, j, none⟩) (Nat.lt_succ_self _)
    exact ⟨(hb1.cell (p := ⟨g, 3, none⟩) hglt).trans hg, (q 0).trans (HID.out.cell 0), (q 1).trans (HID.out.cell 1), (q 2).trans (HID.out.cell 2), hrun w' hb1⟩
  have HCI : Hid (∀ w', Below X.heap.size X w' → Calls Tryz.prog 49 #[.agg #[.int .i64 n0, .int .i64 n1, .int .i64 n2, .int .i64 n3, .int .i64 n4, .int .i64 n5, .int .i64 n6, .int .i64 n7, .string n8, .string n9, .int .i64 n10, .int .i64 n11, .int .i64 n12, .int .i64 s, .slice a M c]] w' (fun e w'' => ∃ a5 k5, Hid (e = .returned (.agg #[.int .i64 n0, .int .i64 n1, .int .i64 n2, .int .i64 n3, .int .i64 n4, .int .i64 n5, .int .i64 n6, .int .i64 n7, .string n8, .string n9, .int .i64 n10, .int .i64 n11, .int .i64 n12, .int .i64 s, .slice a5 M k5])) ∧ IK.Own w'' w'.heap.size (.slice a5 M k5) l ∧ Below w'.heap.size w' w'')) := Lib.hid fun w' hb => by
    have h := cinst_any ⟨n0, (n1, n2), (n3, n4), ⟨n5, n6, n7, n8, n9, n10, n11, n12⟩, (s, l)⟩ (.slice a M c) w' ((hrow.below HBX.out).below hb).rd hl
    simp only [inE] at h
    refine h.mono ?_
    rintro e w2 ⟨v', he, ho, hb⟩
    obtain ⟨a5, k5, hv⟩ := ho.slice
    simp only at ho hv
    rw [hM] at hv
    subst hv
    exact ⟨a5, k5, he, ho, hb⟩
  clear h hv hrun hrow hBX hs hx hl hM hi hg hglt
  go_enter Tryz.func20, Tryz.ntmps20
  go_wp2_with fail
  try rw [hX]
  clear hX
  refine wp_region_held_drew (S := (fun w' => w'.cell? ⟨g, 3, none⟩ = some (.map (some mb)) ∧ w'.cell? ⟨w.heap.size, 0, none⟩ = some (.int .i64 i1) ∧ w'.cell? ⟨w.heap.size, 1, none⟩ = some (.int .i64 i2) ∧ w'.cell? ⟨w.heap.size, 2, none⟩ = some (.int .i64 i3) ∧ (Instr.lookup 83 (.map (some mb)) (.agg #[.int .i64 i1, .int .i64 i2, .int .i64 i3]) false).run Tryz.prog w' = .ok (.agg #[.int .i64 n0, .int .i64 n1, .int .i64 n2, .int .i64 n3, .int .i64 n4, .int .i64 n5, .int .i64 n6, .int .i64 n7, .string n8, .string n9, .int .i64 n10, .int .i64 n11, .int .i64 n12, .int .i64 s, .slice a M c]) w')) (by kernel_rfl) ?_ (fun hHeld => ?_)
  · ((first
    | exact HKP.out _ hbS
    | exact HKP.out _ hb5
    | exact HKP.out _ (Below.refl _ _).drew
    | exact HKP.out _ (Below.refl _ _)
    | fail))
  refine tkA 0 (v := ?_) ?_ ?_
  rotate_left
  · (intro w hSw; (try dsimp only at hSw); go_simp; try rfl)
  try simp only [Act.put, gA1, gA2, gA3, gA4, gA5, gA6]
  refine tkA 1 (v := ?_) ?_ ?_
  rotate_left
  · (intro w hSw; (try dsimp only at hSw); go_simp; try rfl)
  try simp only [Act.put, gA1, gA2, gA3, gA4, gA5, gA6]
  refine tkA 2 (v := ?_) ?_ ?_
  rotate_left
  · (intro w hSw; (try dsimp only at hSw); go_simp; try rfl)
  try simp only [Act.put, gA1, gA2, gA3, gA4, gA5, gA6]
  refine tkA 3 (v := ?_) ?_ ?_
  rotate_left
  · (intro w hSw; (try dsimp only at hSw); go_simp; try rfl)
  try simp only [Act.put, gA1, gA2, gA3, gA4, gA5, gA6]
  refine tkA 4 (v := ?_) ?_ ?_
  rotate_left
  · (intro w hSw; (try dsimp only at hSw); go_simp; try rfl)
  try simp only [Act.put, gA1, gA2, gA3, gA4, gA5, gA6]
  refine tkA 5 (v := ?_) ?_ ?_
  rotate_left
  · (intro w hSw; (try dsimp only at hSw); go_simp; try rfl)
  try simp only [Act.put, gA1, gA2, gA3, gA4, gA5, gA6]
  refine wpAnyH_ready (rs := [6]) (by kernel_rfl) (by simp) ?_
  refine (AllReadyH.cons rfl (fun K hK => ?_) AllReadyH.nil)
  go_simp
  (go_at_call 49; refine (HCI.out _ (Below.refl _ _).drew).mono ?_; rintro e w5 ⟨a5, k5, he, ho5, hb⟩; have he := he.out; subst he; have hb5 : Below (w.heap.size + 1) X w5 := ((Below.refl _ _).drew).trans (hb.mono (show w.heap.size + 1 ≤ X.drew.heap.size from Nat.le_of_succ_le HZX.out)); have hR : Bk w5 (w.heap.size + 1) 48 [.int .i64 0, .int .i64 0, .int .i64 0, .int .i64 0, .int .i64 0, .int .i64 0, .int .i64 0, .int .i64 0, .string ⟨#[]⟩, .string ⟨#[]⟩, .int .i64 0, .int .i64 0, .int .i64 0, .int .i64 0, .slice none 0 0] := (HRX.out.below (below_self (Below.refl _ X).drew hb)))
  refine hK.out _ _ ?_ (fun hHeld => ?_)
  · ((first
    | exact HKP.out _ hbS
    | exact HKP.out _ hb5
    | exact HKP.out _ (Below.refl _ _).drew
    | exact HKP.out _ (Below.refl _ _)
    | fail))
  clear hK K
  try simp only [Act.put, gA1, gA2, gA3, gA4, gA5, gA6]
  refine wpAnyH_ready (rs := [7]) (by kernel_rfl) (by simp) ?_
  refine (AllReadyH.cons rfl (fun K hK => ?_) AllReadyH.nil)
  refine step_store_rowA rfl 48 _ _ rfl (w.heap.size + 1) rfl #[.int .i64 n0, .int .i64 n1, .int .i64 n2, .int .i64 n3, .int .i64 n4, .int .i64 n5, .int .i64 n6, .int .i64 n7, .string n8, .string n9, .int .i64 n10, .int .i64 n11, .int .i64 n12, .int .i64 s, .slice a5 M k5] rfl #[.int .i64 0, .int .i64 0, .int .i64 0, .int .i64 0, .int .i64 0, .int .i64 0, .int .i64 0, .int .i64 0, .string ⟨#[]⟩, .string ⟨#[]⟩, .int .i64 0, .int .i64 0, .int .i64 0, .int .i64 0, .slice none 0 0] 48 hR infoIn rfl (all_toA (by rfl)) ?_
  have hbS : Below (w.heap.size + 1) X (w5.setRow (w.heap.size + 1) #[.int .i64 n0, .int .i64 n1, .int .i64 n2, .int .i64 n3, .int .i64 n4, .int .i64 n5, .int .i64 n6, .int .i64 n7, .string n8, .string n9, .int .i64 n10, .int .i64 n11, .int .i64 n12, .int .i64 s, .slice a5 M k5]) := below_setRow hb5 (Nat.le_refl _) _
  refine hK.out _ _ ?_ (fun hHeld => ?_)
  · ((first
    | exact HKP.out _ hbS
    | exact HKP.out _ hb5
    | exact HKP.out _ (Below.refl _ _).drew
    | exact HKP.out _ (Below.refl _ _)
    | fail))
  clear hK K
  try simp only [Act.put, gA1, gA2, gA3, gA4, gA5, gA6]
  refine wpAnyH_done (by kernel_rfl) ?_ _
  go_split_ands
  clear HKP
  have hR6 : Bk (w5.setRow (w.heap.size + 1) #[.int .i64 n0, .int .i64 n1, .int .i64 n2, .int .i64 n3, .int .i64 n4, .int .i64 n5, .int .i64 n6, .int .i64 n7, .string n8, .string n9, .int .i64 n10, .int .i64 n11, .int .i64 n12, .int .i64 s, .slice a5 M k5]) (w.heap.size + 1) 48 [.int .i64 n0, .int .i64 n1, .int .i64 n2, .int .i64 n3, .int .i64 n4, .int .i64 n5, .int .i64 n6, .int .i64 n7, .string n8, .string n9, .int .i64 n10, .int .i64 n11, .int .i64 n12, .int .i64 s, .slice a5 M k5] := bk_setRowA hR
  have hlv := run_loadVar_row (P := Tryz.prog) _ _ _ _ _ (0, 0) _ hR6 Tryz.underlying48 rfl infoIn
  go_wp2
  refine bodyPost_ret (v := .agg #[.int .i64 n0, .int .i64 n1, .int .i64 n2, .int .i64 n3, .int .i64 n4, .int .i64 n5, .int .i64 n6, .int .i64 n7, .string n8, .string n9, .int .i64 n10, .int .i64 n11, .int .i64 n12, .int .i64 s, .slice a5 M k5]) (by simp [results, Tryz.results20, asAddr, Act.put, hlv]) rfl ⟨.slice a5 M k5, rfl, ?_, (HBX.out.trans ((hbS.mono (Nat.le_succ _)).trans (Below.refl _ _)))⟩
  refine (ho5.keepB (fun k hk => ?_)).base (show w.heap.size ≤ X.drew.heap.size from Nat.le_trans (Nat.le_add_right _ 2) HZX.out)
  have hk2 : X.heap.size ≤ k := ho5.from k hk
  have hz : w.heap.size + 2 ≤ X.heap.size := HZX.out
  have hne : ¬ (w.heap.size + 1 = k) := by omega
  simp only [World.setRow]
  rw [Array.getElem?_modify, if_neg hne]
/-- What Set comes to: the book has it, nothing else that was there turned but the book's map. -/
def StP (b : BSt) (id : I3) (x : Ist) (B g mb K : Nat) (w : World) (e : Ending) (w' : World) : Prop := Hid (e = .returned (.tuple #[])) ∧ BkAt w' B g mb (K + 1) { b with l := setL b.l id x } ∧ w.grownBy w' (some mb)
set_option maxHeartbeats 4000000 in
theorem bset_any {w : World} {B g mb K : Nat} {b : BSt} (h : BkAt w B g mb K b) {id : I3} (hi : okI id) (x : Ist) (u : Value) (hr : IK.Rd w u x.at'.2) (hl : x.at'.2.length ≤ 100000) (hK : K ≤ 100000) : Calls Tryz.prog 30 #[bP g, idV id, .agg (inE x u).toArray] w (StP b id x B g mb K w) := by
  have hg := h.c3
  have hglt := h.lt
  obtain ⟨i1, i2, i3⟩ := id
  obtain ⟨n0, ⟨n1, n2⟩, ⟨n3, n4⟩, ⟨n5, n6, n7, n8, n9, n10, n11, n12⟩, s, l⟩ := x
  simp only at hr hl
  obtain ⟨a, c, hs⟩ := hr.slice
  obtain ⟨M, hM⟩ : ∃ M, l.length = M := ⟨_, rfl⟩
  rw [hM] at hs
  subst hs
  simp only [inE]
  obtain ⟨X, hX⟩ : ∃ X, (w.alloc (.cells #[.int .i64 i1, .int .i64 i2, .int .i64 i3] 37)).alloc (.cells #[.int .i64 n0, .int .i64 n1, .int .i64 n2, .int .i64 n3, .int .i64 n4, .int .i64 n5, .int .i64 n6, .int .i64 n7, .string n8, .string n9, .int .i64 n10, .int .i64 n11, .int .i64 n12, .int .i64 s, .slice a M c] 48) = X := ⟨_, rfl⟩
  have hBX : Below w.heap.size w X := by rw [← hX]; exact ((Below.refl _ _).alloc (Nat.le_refl _) _).alloc (by simp) _
  have HID : Hid (Bk X w.heap.size 37 [.int .i64 i1, .int .i64 i2, .int .i64 i3]) := Lib.hid (by rw [← hX]; exact (Bk.new w _ _).old _)
  have HRX : Hid (Bk X (w.heap.size + 1) 48 [.int .i64 n0, .int .i64 n1, .int .i64 n2, .int .i64 n3, .int .i64 n4, .int .i64 n5, .int .i64 n6, .int .i64 n7, .string n8, .string n9, .int .i64 n10, .int .i64 n11, .int .i64 n12, .int .i64 s, .slice a M c]) := Lib.hid (by rw [← hX]; exact Bk.newA (by simp) _ [.int .i64 n0, .int .i64 n1, .int .i64 n2, .int .i64 n3, .int .i64 n4, .int .i64 n5, .int .i64 n6, .int .i64 n7, .string n8, .string n9, .int .i64 n10, .int .i64 n11, .int .i64 n12, .int .i64 s, .slice a M c])
  have HBX := Lib.hid hBX
  have hX1 := h.below hBX
  have H := Lib.hid hX1
  obtain ⟨D, m, hmK, hMo, hIs⟩ := hX1.map
  have HM := Lib.hid hMo
  have HIs := Lib.hid hIs
  have HI := Lib.hid hi
  have HKEY := Lib.hid (kf_key hi)
  have HMAX : Hid (m < maxLen) := Lib.hid (by unfold maxLen; omega)
  have HMK : Hid (m + 1 ≤ K + 1) := Lib.hid (by omega)
  have HKP : Hid (∀ w', X.grownBy w' (some mb) → w'.cell? ⟨g, 3, none⟩ = some (.map (some mb)) ∧ w'.cell? ⟨w.heap.size, 0, none⟩ = some (.int .i64 i1) ∧ w'.cell? ⟨w.heap.size, 1, none⟩ = some (.int .i64 i2) ∧ w'.cell? ⟨w.heap.size, 2, none⟩ = some (.int .i64 i3) ∧ w'.cell? ⟨w.heap.size + 1, 0, none⟩ = some (.int .i64 n0) ∧ w'.cell? ⟨w.heap.size + 1, 1, none⟩ = some (.int .i64 n1) ∧ w'.cell? ⟨w.heap.size + 1, 2, none⟩ = some (.int .i64 n2) ∧ w'.cell? ⟨w.heap.size + 1, 3, none⟩ = some (.int .i64 n3) ∧ w'.cell? ⟨w.heap.size + 1, 4, none⟩ = some (.int .i64 n4) ∧ w'.cell? ⟨w.heap.size + 1, 5, none⟩ = some (.int .i64 n5) ∧ w'.cell? ⟨w.heap.size + 1, 6, none⟩ = some (.int .i64 n6) ∧ w'.cell? ⟨w.heap.size + 1, 7, none⟩ = some (.int .i64 n7) ∧ w'.cell? ⟨w.heap.size + 1, 8, none⟩ = some (.string n8) ∧ w'.cell? ⟨w.heap.size + 1, 9, none⟩ = some (.string n9) ∧ w'.cell? ⟨w.heap.size + 1, 10, none⟩ = some (.int .i64 n10) ∧ w'.cell? ⟨w.heap.size + 1, 11, none⟩ = some (.int .i64 n11) ∧ w'.cell? ⟨w.heap.size + 1, 12, none⟩ = some (.int .i64 n12) ∧ w'.cell? ⟨w.heap.size + 1, 13, none⟩ = some (.int .i64 s) ∧ w'.cell? ⟨w.heap.size + 1, 14, none⟩ = some (.slice a M c)) := Lib.hid fun w' hb => by
    have e0 : w'.heap[g]? = X.heap[g]? := hb.block g (Nat.lt_of_lt_of_le hglt hBX.size) (by obtain ⟨vn, q, _⟩ := hX1.box; simpa using hX1.blkNe _ _ _ _ q)
    have e1 : Bk w' w.heap.size 37 [.int .i64 i1, .int .i64 i2, .int .i64 i3] := (hb.block _ HID.out.lt (by simpa using hX1.blkNe _ _ _ _ HID.out)).trans HID.out
    have e2 : Bk w' (w.heap.size + 1) 48 [.int .i64 n0, .int .i64 n1, .int .i64 n2, .int .i64 n3, .int .i64 n4, .int .i64 n5, .int .i64 n6, .int .i64 n7, .string n8, .string n9, .int .i64 n10, .int .i64 n11, .int .i64 n12, .int .i64 s, .slice a M c] := (hb.block _ HRX.out.lt (by simpa using hX1.blkNe _ _ _ _ HRX.out)).trans HRX.out
    exact ⟨(World.cell?_of_block e0).trans hX1.c3, e1.cell 0, e1.cell 1, e1.cell 2, e2.cell 0, e2.cell 1, e2.cell 2, e2.cell 3, e2.cell 4, e2.cell 5, e2.cell 6, e2.cell 7, e2.cell 8, e2.cell 9, e2.cell 10, e2.cell 11, e2.cell 12, e2.cell 13, e2.cell 14⟩
  have HCI : Hid (∀ w', Below X.heap.size X w' → Calls Tryz.prog 49 #[.agg #[.int .i64 n0, .int .i64 n1, .int .i64 n2, .int .i64 n3, .int .i64 n4, .int .i64 n5, .int .i64 n6, .int .i64 n7, .string n8, .string n9, .int .i64 n10, .int .i64 n11, .int .i64 n12, .int .i64 s, .slice a M c]] w' (fun e w'' => ∃ a5 k5, Hid (e = .returned (.agg #[.int .i64 n0, .int .i64 n1, .int .i64 n2, .int .i64 n3, .int .i64 n4, .int .i64 n5, .int .i64 n6, .int .i64 n7, .string n8, .string n9, .int .i64 n10, .int .i64 n11, .int .i64 n12, .int .i64 s, .slice a5 M k5])) ∧ IK.Own w'' w'.heap.size (.slice a5 M k5) l ∧ Below w'.heap.size w' w'')) := Lib.hid fun w' hb => by
    have h := cinst_any ⟨n0, (n1, n2), (n3, n4), ⟨n5, n6, n7, n8, n9, n10, n11, n12⟩, (s, l)⟩ (.slice a M c) w' ((hr.below HBX.out).below hb) hl
    simp only [inE] at h
    refine h.mono ?_
    rintro e w2 ⟨v', he, ho, hb⟩
    obtain ⟨a5, k5, hv⟩ := ho.slice
    simp only at ho hv
    rw [hM] at hv
    subst hv
    exact ⟨a5, k5, he, ho, hb⟩
  clear h hX1 hMo hIs hr hBX hl hM hi hg hglt hmK hK
  go_enter Tryz.func30, Tryz.ntmps30
  go_wp2_with fail
  try rw [hX]
  clear hX
  refine wp_region_held_drew (S := (fun w' => w'.cell? ⟨g, 3, none⟩ = some (.map (some mb)) ∧ w'.cell? ⟨w.heap.size, 0, none⟩ = some (.int .i64 i1) ∧ w'.cell? ⟨w.heap.size, 1, none⟩ = some (.int .i64 i2) ∧ w'.cell? ⟨w.heap.size, 2, none⟩ = some (.int .i64 i3) ∧ w'.cell? ⟨w.heap.size + 1, 0, none⟩ = some (.int .i64 n0) ∧ w'.cell? ⟨w.heap.size + 1, 1, none⟩ = some (.int .i64 n1) ∧ w'.cell? ⟨w.heap.size + 1, 2, none⟩ = some (.int .i64 n2) ∧ w'.cell? ⟨w.heap.size + 1, 3, none⟩ = some (.int .i64 n3) ∧ w'.cell? ⟨w.heap.size + 1, 4, none⟩ = some (.int .i64 n4) ∧ w'.cell? ⟨w.heap.size + 1, 5, none⟩ = some (.int .i64 n5) ∧ w'.cell? ⟨w.heap.size + 1, 6, none⟩ = some (.int .i64 n6) ∧ w'.cell? ⟨w.heap.size + 1, 7, none⟩ = some (.int .i64 n7) ∧ w'.cell? ⟨w.heap.size + 1, 8, none⟩ = some (.string n8) ∧ w'.cell? ⟨w.heap.size + 1, 9, none⟩ = some (.string n9) ∧ w'.cell? ⟨w.heap.size + 1, 10, none⟩ = some (.int .i64 n10) ∧ w'.cell? ⟨w.heap.size + 1, 11, none⟩ = some (.int .i64 n11) ∧ w'.cell? ⟨w.heap.size + 1, 12, none⟩ = some (.int .i64 n12) ∧ w'.cell? ⟨w.heap.size + 1, 13, none⟩ = some (.int .i64 s) ∧ w'.cell? ⟨w.heap.size + 1, 14, none⟩ = some (.slice a M c))) (by kernel_rfl) ?_ (fun hHeld => ?_)
  · ((first
    | exact HKP.out _ hw6
    | exact HKP.out _ hw5
    | exact HKP.out _ ⟨(Below.refl X.heap.size X).drew.os, (Below.refl X.heap.size X).drew.tape, (Below.refl X.heap.size X).drew.output, (Below.refl X.heap.size X).drew.size, fun k hk _ => (Below.refl X.heap.size X).drew.block k hk⟩
    | exact HKP.out _ ⟨rfl, rfl, rfl, Nat.le_refl _, fun k hk _ => rfl⟩
    | fail))
  refine tkA 0 (v := ?_) ?_ ?_
  rotate_left
  · (intro w hSw; (try dsimp only at hSw); go_simp; try rfl)
  try simp only [Act.put, gA1, gA2, gA3, gA4, gA5, gA6]
  refine tkA 1 (v := ?_) ?_ ?_
  rotate_left
  · (intro w hSw; (try dsimp only at hSw); go_simp; try rfl)
  try simp only [Act.put, gA1, gA2, gA3, gA4, gA5, gA6]
  refine tkA 2 (v := ?_) ?_ ?_
  rotate_left
  · (intro w hSw; (try dsimp only at hSw); go_simp; try rfl)
  try simp only [Act.put, gA1, gA2, gA3, gA4, gA5, gA6]
  refine tkA 3 (v := ?_) ?_ ?_
  rotate_left
  · (intro w hSw; (try dsimp only at hSw); go_simp; try rfl)
  try simp only [Act.put, gA1, gA2, gA3, gA4, gA5, gA6]
  refine tkA 4 (v := ?_) ?_ ?_
  rotate_left
  · (intro w hSw; (try dsimp only at hSw); go_simp; try rfl)
  try simp only [Act.put, gA1, gA2, gA3, gA4, gA5, gA6]
  refine tkA 5 (v := ?_) ?_ ?_
  rotate_left
  · (intro w hSw; (try dsimp only at hSw); go_simp; try rfl)
  try simp only [Act.put, gA1, gA2, gA3, gA4, gA5, gA6]
  refine wpAnyH_ready (rs := [6]) (by kernel_rfl) (by simp) ?_
  refine (AllReadyH.cons rfl (fun K hK => ?_) AllReadyH.nil)
  go_simp
  (go_at_call 49; refine (HCI.out _ (Below.refl _ _).drew).mono ?_; rintro e w5 ⟨a5, k5, he, ho5, hb⟩; have he := he.out; subst he; have hb5 : Below X.heap.size X w5 := below_self (Below.refl _ X).drew hb; have hw5 : X.grownBy w5 (some mb) := ⟨hb5.os, hb5.tape, hb5.output, hb5.size, fun k hk _ => hb5.block k hk⟩)
  refine hK.out _ _ ?_ (fun hHeld => ?_)
  · ((first
    | exact HKP.out _ hw6
    | exact HKP.out _ hw5
    | exact HKP.out _ ⟨(Below.refl X.heap.size X).drew.os, (Below.refl X.heap.size X).drew.tape, (Below.refl X.heap.size X).drew.output, (Below.refl X.heap.size X).drew.size, fun k hk _ => (Below.refl X.heap.size X).drew.block k hk⟩
    | exact HKP.out _ ⟨rfl, rfl, rfl, Nat.le_refl _, fun k hk _ => rfl⟩
    | fail))
  clear hK K
  try simp only [Act.put, gA1, gA2, gA3, gA4, gA5, gA6]
  refine wpAnyH_ready (rs := [7]) (by kernel_rfl) (by simp) ?_
  refine (AllReadyH.cons rfl (fun K hK => ?_) AllReadyH.nil)
  have HB5 := Lib.hid hb5
  obtain ⟨v5, hav, hsv⟩ := AVof.of (x := ⟨n0, (n1, n2), (n3, n4), ⟨n5, n6, n7, n8, n9, n10, n11, n12⟩, (s, l)⟩) ho5
  have HAV := Lib.hid hav
  have hval := avElem_mk hav.ok
  have hvv := hav.val
  rw [hsv] at hvv
  simp only [inE] at hvv
  rw [hvv] at hval
  have hM5 := HM.out.kept (row := none) ⟨hb5.os, hb5.tape, hb5.output, hb5.size, fun k hk _ => hb5.block k hk⟩ (by simp)
  have HM5 := Lib.hid hM5
  have HVAL := Lib.hid hval
  clear hM5 hval hvv hsv hav
  refine step_mapA (by rfl) _ _ _ _ rfl 37 48 avK Tryz.underlying83 avElem mb m D rfl HM5.out HMAX.out (.agg #[.int .i64 i1, .int .i64 i2, .int .i64 i3]) (.agg #[.int .i64 n0, .int .i64 n1, .int .i64 n2, .int .i64 n3, .int .i64 n4, .int .i64 n5, .int .i64 n6, .int .i64 n7, .string n8, .string n9, .int .i64 n10, .int .i64 n11, .int .i64 n12, .int .i64 s, .slice a5 M k5]) (kf (i1, i2, i3)) rfl rfl HKEY.out (avD v5) [] HVAL.out ?_
  intro w6 hown6 hg6
  have hw6 : X.grownBy w6 (some mb) := ⟨hg6.os.trans hw5.os, hg6.tape.trans hw5.tape, hg6.output.trans hw5.output, Nat.le_trans hw5.size hg6.size, fun k hk hn => (hg6.block k (Nat.lt_of_lt_of_le hk hw5.size) hn).trans (hw5.block k hk hn)⟩
  refine hK.out _ _ ?_ (fun hHeld => ?_)
  · ((first
    | exact HKP.out _ hw6
    | exact HKP.out _ hw5
    | exact HKP.out _ ⟨(Below.refl X.heap.size X).drew.os, (Below.refl X.heap.size X).drew.tape, (Below.refl X.heap.size X).drew.output, (Below.refl X.heap.size X).drew.size, fun k hk _ => (Below.refl X.heap.size X).drew.block k hk⟩
    | exact HKP.out _ ⟨rfl, rfl, rfl, Nat.le_refl _, fun k hk _ => rfl⟩
    | fail))
  clear hK K
  try simp only [Act.put, gA1, gA2, gA3, gA4, gA5, gA6]
  refine wpAnyH_done (by kernel_rfl) ?_ _
  go_split_ands
  clear HKP
  have HOWN := Lib.hid hown6
  have HG6 := Lib.hid hg6
  have hfin : StP b (i1, i2, i3) ⟨n0, (n1, n2), (n3, n4), ⟨n5, n6, n7, n8, n9, n10, n11, n12⟩, (s, l)⟩ B g mb K w (.returned (.tuple #[])) w6 := by
    refine ⟨Lib.hid rfl, ?_, ⟨hg6.os.trans ((HB5.out.os).trans HBX.out.os), hg6.tape.trans ((HB5.out.tape).trans HBX.out.tape), hg6.output.trans ((HB5.out.output).trans HBX.out.output), Nat.le_trans (Nat.le_trans HBX.out.size HB5.out.size) hg6.size, fun k hk hn => (hw6.block k (Nat.lt_of_lt_of_le hk HBX.out.size) hn).trans (HBX.out.block k hk)⟩⟩
    exact (H.out.below HB5.out).turn hg6 HI.out HAV.out (HIs.out.on HB5.out) HMK.out HOWN.out
  clear hw6 hw5 hb5 hown6 hg6 hb ho5
  go_wp2
  go_end0
  exact hfin
end Go.Proofs.YtchhcaoondfpiaaGreat
namespace Go.Proofs.YtchhcaoondfpiaaGreat
open Go.RowKit Go.Sort
open Go.WideMaps
set_option linter.unusedSimpArgs false
set_option linter.unusedVariables false
set_option maxRecDepth 100000

/-- A message: its value, as far as a book looks at it. -/
def MgA (w : World) (v : Value) (x : Mg) : Prop := ∃ (ua : Option Addr) (uc : Nat) (a1 : Option Addr) (d1 c1 : Nat) (a2 : Option Addr) (d2 c2 : Nat) (a3 : Option Addr) (d3 c3 : Nat), v = .agg (msE x (.slice ua x.ins.at'.2.length uc) (.slice a1 d1 c1) (.slice a2 d2 c2) (.slice a3 d3 c3)).toArray ∧ IK.Rd w (.slice ua x.ins.at'.2.length uc) x.ins.at'.2 ∧ okL x.ins.at'.2 ∧ okI x.id
theorem MgA.below {w w' : World} {v : Value} {x : Mg} (h : MgA w v x) (hb : Below w.heap.size w w') : MgA w' v x := by
  obtain ⟨ua, uc, a1, d1, c1, a2, d2, c2, a3, d3, c3, h1, h2, h3, h4⟩ := h
  exact ⟨ua, uc, a1, d1, c1, a2, d2, c2, a3, d3, c3, h1, h2.below hb, h3, h4⟩
theorem MsgIs.mga {w : World} {v : Value} {x : Mg} (h : MsgIs w v x) : MgA w v x := by
  obtain ⟨cs, e, u, u1, u2, u3, hm⟩ := h
  obtain ⟨a, c, a1, c1, a2, c2, a3, c3, e0, e1, e2, e3⟩ := hm.sl
  subst e0 e1 e2 e3
  have h1 := hm.ins.rd
  have h2 := hm.ins.ok
  have h3 := hm.cs
  exact ⟨a, c, a1, x.sn.1.2.length, c1, a2, x.sn.2.1.length, c2, a3, x.sn.2.2.length, c3, by rw [e, ← h3], h1, h2, hm.id⟩
/-- A row that can be read stands behind the turn of a block that holds no cells. -/
theorem Knd.Rd.outA {P : Program} {α : Type} {K : Knd P α} {w w' : World} {v : Value} {l : List α} {bk : Nat} (h : K.Rd w v l) (hg : w.grownBy w' (some bk)) (hne : ∀ g cs T fr, w.heap[g]? = some (.cells cs T fr) → g ≠ bk) : K.Rd w' v l := by
  obtain ⟨a, c, e, h1, h2, h3⟩ := h
  refine ⟨a, c, e, h1, h2, ?_⟩
  rcases h3 with q | ⟨g, off, ha, hg2, hc⟩
  · exact .inl q
  · by_cases hl : l = []
    · exact .inl hl
    · refine .inr ⟨g, off, ha, Nat.lt_of_lt_of_le hg2 hg.size, fun t u hu => ?_⟩
      have h5 := hc t u hu
      refine (World.cell?_of_block (hg.block g hg2 ?_)).trans h5
      intro e5
      have e6 : g = bk := Option.some.inj e5
      cases hh : w.heap[g]? with
      | none => simp [World.cell?, hh] at h5
      | some o =>
        cases o with
        | cells cs T fr => exact hne g cs T fr hh e6
        | _ => simp [World.cell?, hh] at h5
theorem MgA.out {w w' : World} {v : Value} {x : Mg} {bk : Nat} (h : MgA w v x) (hg : w.grownBy w' (some bk)) (hne : ∀ g cs T fr, w.heap[g]? = some (.cells cs T fr) → g ≠ bk) : MgA w' v x := by
  obtain ⟨ua, uc, a1, d1, c1, a2, d2, c2, a3, d3, c3, h1, h2, h3, h4⟩ := h
  exact ⟨ua, uc, a1, d1, c1, a2, d2, c2, a3, d3, c3, h1, h2.outA hg hne, h3, h4⟩
theorem BkAt.b0 {w : World} {B g mb K : Nat} {b : BSt} (h : BkAt w B g mb K b) : w.cell? ⟨g, 0, none⟩ = some (.int .i64 b.node) := by
  obtain ⟨vn, h1, _⟩ := h.box
  exact h1.cell 0
/-- One answer: a row of its own. -/
def AnP (M : Mg) (w : World) (e : Ending) (w' : World) : Prop := ∃ (g' : Nat) (u : Value), Hid (e = .returned (.slice (some ⟨g', 0, none⟩) 1 1)) ∧ Bk w' g' 54 (msE M u (.slice none 0 0) (.slice none 0 0) (.slice none 0 0)) ∧ IK.Own w' w.heap.size u M.ins.at'.2 ∧ w.heap.size ≤ g' ∧ Below w.heap.size w w'
set_option maxHeartbeats 4000000 in
theorem banswer_any {w : World} {B g mb K : Nat} {b : BSt} (h : BkAt w B g mb K b) (kd : Int) {v : Value} {m : Mg} (hm : MgA w v m) (x : Ist) (u : Value) (hr : IK.Rd w u x.at'.2) (hl : x.at'.2.length ≤ 100000) : Calls Tryz.prog 44 #[bP g, .int .i64 kd, v, .agg (inE x u).toArray] w (AnP (ansB b kd m m.bal x) w) := by
  have hg := h.b0
  have hglt := h.lt
  obtain ⟨nd, hnd⟩ : ∃ n, b.node = n := ⟨_, rfl⟩
  unfold ansB
  rw [hnd] at hg ⊢
  have HMV := Lib.hid hm
  obtain ⟨ua, uc, a1, d1, c1, a2, d2, c2, a3, d3, c3, rfl, hrd, hokl, hid⟩ := hm
  obtain ⟨n0, n1, n2, ⟨n3, n4, n5⟩, ⟨n6, n7⟩, ⟨n8, ⟨n9, n10⟩, ⟨n11, n12⟩, ⟨n13, n14, n15, n16, n17, n18, n19, n20⟩, n21, dl⟩, sn0⟩ := m
  obtain ⟨n23, sn1⟩ : ∃ q, sn0.1.1 = q := ⟨_, rfl⟩
  obtain ⟨M, hM⟩ : ∃ M, dl.length = M := ⟨_, rfl⟩
  have HMl := Lib.hid hM
  simp only at hrd hokl hid
  simp only [msE, inE, snV, hM, sn1, List.cons_append, List.nil_append] at hrd HMV ⊢
  clear hM sn1
  obtain ⟨p0, ⟨p1, p2⟩, ⟨p3, p4⟩, ⟨p5, p6, p7, p8, p9, p10, p11, p12⟩, ps, pl⟩ := x
  simp only at hr hl
  obtain ⟨pa, pk, hs⟩ := hr.slice
  obtain ⟨P, hP⟩ : ∃ P, pl.length = P := ⟨_, rfl⟩
  rw [hP] at hs
  subst hs
  simp only [inE]
  obtain ⟨X, hX⟩ : ∃ X, (w.alloc (.cells #[.int .i64 n0, .int .i64 n1, .int .i64 n2, .int .i64 n3, .int .i64 n4, .int .i64 n5, .int .i64 n6, .int .i64 n7, .int .i64 n8, .int .i64 n9, .int .i64 n10, .int .i64 n11, .int .i64 n12, .int .i64 n13, .int .i64 n14, .int .i64 n15, .string n16, .string n17, .int .i64 n18, .int .i64 n19, .int .i64 n20, .int .i64 n21, .slice ua M uc, .int .i64 n23, .slice a1 d1 c1, .slice a2 d2 c2, .slice a3 d3 c3] 54)).alloc (.cells #[.int .i64 p0, .int .i64 p1, .int .i64 p2, .int .i64 p3, .int .i64 p4, .int .i64 p5, .int .i64 p6, .int .i64 p7, .string p8, .string p9, .int .i64 p10, .int .i64 p11, .int .i64 p12, .int .i64 ps, .slice pa P pk] 48) = X := ⟨_, rfl⟩
  have hBX : Below w.heap.size w X := by rw [← hX]; exact ((Below.refl _ _).alloc (Nat.le_refl _) _).alloc (by simp) _
  have HMX : Hid (Bk X w.heap.size 54 [.int .i64 n0, .int .i64 n1, .int .i64 n2, .int .i64 n3, .int .i64 n4, .int .i64 n5, .int .i64 n6, .int .i64 n7, .int .i64 n8, .int .i64 n9, .int .i64 n10, .int .i64 n11, .int .i64 n12, .int .i64 n13, .int .i64 n14, .int .i64 n15, .string n16, .string n17, .int .i64 n18, .int .i64 n19, .int .i64 n20, .int .i64 n21, .slice ua M uc, .int .i64 n23, .slice a1 d1 c1, .slice a2 d2 c2, .slice a3 d3 c3]) := Lib.hid (by rw [← hX]; exact (Bk.new w _ _).old _)
  have HRX : Hid (Bk X (w.heap.size + 1) 48 [.int .i64 p0, .int .i64 p1, .int .i64 p2, .int .i64 p3, .int .i64 p4, .int .i64 p5, .int .i64 p6, .int .i64 p7, .string p8, .string p9, .int .i64 p10, .int .i64 p11, .int .i64 p12, .int .i64 ps, .slice pa P pk]) := Lib.hid (by rw [← hX]; exact Bk.newA (by simp) _ [.int .i64 p0, .int .i64 p1, .int .i64 p2, .int .i64 p3, .int .i64 p4, .int .i64 p5, .int .i64 p6, .int .i64 p7, .string p8, .string p9, .int .i64 p10, .int .i64 p11, .int .i64 p12, .int .i64 ps, .slice pa P pk])
  have HBX := Lib.hid hBX
  have HKP : Hid (∀ w', Below X.heap.size X w' → w'.cell? ⟨g, 0, none⟩ = some (.int .i64 nd) ∧ w'.cell? ⟨w.heap.size, 1, none⟩ = some (.int .i64 n1) ∧ w'.cell? ⟨w.heap.size, 3, none⟩ = some (.int .i64 n3) ∧ w'.cell? ⟨w.heap.size, 4, none⟩ = some (.int .i64 n4) ∧ w'.cell? ⟨w.heap.size, 5, none⟩ = some (.int .i64 n5) ∧ w'.cell? ⟨w.heap.size, 6, none⟩ = some (.int .i64 n6) ∧ w'.cell? ⟨w.heap.size, 7, none⟩ = some (.int .i64 n7) ∧ w'.cell? ⟨w.heap.size + 1, 0, none⟩ = some (.int .i64 p0) ∧ w'.cell? ⟨w.heap.size + 1, 1, none⟩ = some (.int .i64 p1) ∧ w'.cell? ⟨w.heap.size + 1, 2, none⟩ = some (.int .i64 p2) ∧ w'.cell? ⟨w.heap.size + 1, 3, none⟩ = some (.int .i64 p3) ∧ w'.cell? ⟨w.heap.size + 1, 4, none⟩ = some (.int .i64 p4) ∧ w'.cell? ⟨w.heap.size + 1, 5, none⟩ = some (.int .i64 p5) ∧ w'.cell? ⟨w.heap.size + 1, 6, none⟩ = some (.int .i64 p6) ∧ w'.cell? ⟨w.heap.size + 1, 7, none⟩ = some (.int .i64 p7) ∧ w'.cell? ⟨w.heap.size + 1, 8, none⟩ = some (.string p8) ∧ w'.cell? ⟨w.heap.size + 1, 9, none⟩ = some (.string p9) ∧ w'.cell? ⟨w.heap.size + 1, 10, none⟩ = some (.int .i64 p10) ∧ w'.cell? ⟨w.heap.size + 1, 11, none⟩ = some (.int .i64 p11) ∧ w'.cell? ⟨w.heap.size + 1, 12, none⟩ = some (.int .i64 p12) ∧ w'.cell? ⟨w.heap.size + 1, 13, none⟩ = some (.int .i64 ps) ∧ w'.cell? ⟨w.heap.size + 1, 14, none⟩ = some (.slice pa P pk)) := Lib.hid fun w' hb => by
    have e1 := HMX.out.below hb
    have e2 := HRX.out.below hb
    exact ⟨((HBX.out.trans (hb.mono HBX.out.size)).cell (p := ⟨g, 0, none⟩) hglt).trans hg, e1.cell 1, e1.cell 3, e1.cell 4, e1.cell 5, e1.cell 6, e1.cell 7, e2.cell 0, e2.cell 1, e2.cell 2, e2.cell 3, e2.cell 4, e2.cell 5, e2.cell 6, e2.cell 7, e2.cell 8, e2.cell 9, e2.cell 10, e2.cell 11, e2.cell 12, e2.cell 13, e2.cell 14⟩
  have HCI : Hid (∀ w', Below X.heap.size X w' → Calls Tryz.prog 49 #[.agg #[.int .i64 p0, .int .i64 p1, .int .i64 p2, .int .i64 p3, .int .i64 p4, .int .i64 p5, .int .i64 p6, .int .i64 p7, .string p8, .string p9, .int .i64 p10, .int .i64 p11, .int .i64 p12, .int .i64 ps, .slice pa P pk]] w' (fun e w'' => ∃ a5 k5, Hid (e = .returned (.agg #[.int .i64 p0, .int .i64 p1, .int .i64 p2, .int .i64 p3, .int .i64 p4, .int .i64 p5, .int .i64 p6, .int .i64 p7, .string p8, .string p9, .int .i64 p10, .int .i64 p11, .int .i64 p12, .int .i64 ps, .slice a5 P k5])) ∧ IK.Own w'' w'.heap.size (.slice a5 P k5) pl ∧ Below w'.heap.size w' w'')) := Lib.hid fun w' hb => by
    have h := cinst_any ⟨p0, (p1, p2), (p3, p4), ⟨p5, p6, p7, p8, p9, p10, p11, p12⟩, (ps, pl)⟩ (.slice pa P pk) w' ((hr.below HBX.out).below hb) hl
    simp only [inE] at h
    refine h.mono ?_
    rintro e w2 ⟨v', he, ho, hb⟩
    obtain ⟨a5, k5, hv⟩ := ho.slice
    simp only at ho hv
    rw [hP] at hv
    subst hv
    exact ⟨a5, k5, he, ho, hb⟩
  clear h hBX hr hl hP hg hglt hrd hokl hid hnd
  go_enter Tryz.func44, Tryz.ntmps44
  go_wp2_with fail
  try rw [hX]
  clear hX
  refine wp_region_held_drew (S := (fun w' => w'.cell? ⟨g, 0, none⟩ = some (.int .i64 nd) ∧ w'.cell? ⟨w.heap.size, 1, none⟩ = some (.int .i64 n1) ∧ w'.cell? ⟨w.heap.size, 3, none⟩ = some (.int .i64 n3) ∧ w'.cell? ⟨w.heap.size, 4, none⟩ = some (.int .i64 n4) ∧ w'.cell? ⟨w.heap.size, 5, none⟩ = some (.int .i64 n5) ∧ w'.cell? ⟨w.heap.size, 6, none⟩ = some (.int .i64 n6) ∧ w'.cell? ⟨w.heap.size, 7, none⟩ = some (.int .i64 n7) ∧ w'.cell? ⟨w.heap.size + 1, 0, none⟩ = some (.int .i64 p0) ∧ w'.cell? ⟨w.heap.size + 1, 1, none⟩ = some (.int .i64 p1) ∧ w'.cell? ⟨w.heap.size + 1, 2, none⟩ = some (.int .i64 p2) ∧ w'.cell? ⟨w.heap.size + 1, 3, none⟩ = some (.int .i64 p3) ∧ w'.cell? ⟨w.heap.size + 1, 4, none⟩ = some (.int .i64 p4) ∧ w'.cell? ⟨w.heap.size + 1, 5, none⟩ = some (.int .i64 p5) ∧ w'.cell? ⟨w.heap.size + 1, 6, none⟩ = some (.int .i64 p6) ∧ w'.cell? ⟨w.heap.size + 1, 7, none⟩ = some (.int .i64 p7) ∧ w'.cell? ⟨w.heap.size + 1, 8, none⟩ = some (.string p8) ∧ w'.cell? ⟨w.heap.size + 1, 9, none⟩ = some (.string p9) ∧ w'.cell? ⟨w.heap.size + 1, 10, none⟩ = some (.int .i64 p10) ∧ w'.cell? ⟨w.heap.size + 1, 11, none⟩ = some (.int .i64 p11) ∧ w'.cell? ⟨w.heap.size + 1, 12, none⟩ = some (.int .i64 p12) ∧ w'.cell? ⟨w.heap.size + 1, 13, none⟩ = some (.int .i64 ps) ∧ w'.cell? ⟨w.heap.size + 1, 14, none⟩ = some (.slice pa P pk))) (by kernel_rfl) ?_ (fun hHeld => ?_)
  · ((first
    | exact HKP.out _ hb6
    | exact HKP.out _ hb5
    | exact HKP.out _ (Below.refl _ _).drew
    | exact HKP.out _ (Below.refl _ _)
    | (refine HKP.out _ ?_; exact hb5.alloc hb5.size _)
    | fail))
  refine tkA 0 (v := ?_) ?_ ?_
  rotate_left
  · (intro w hSw; (try dsimp only at hSw); go_simp; try rfl)
  try simp only [Act.put, gA1, gA2, gA3, gA4, gA5, gA6]
  refine tkA 1 (v := ?_) ?_ ?_
  rotate_left
  · (intro w hSw; (try dsimp only at hSw); go_simp; try rfl)
  try simp only [Act.put, gA1, gA2, gA3, gA4, gA5, gA6]
  refine tkA 2 (v := ?_) ?_ ?_
  rotate_left
  · (intro w hSw; (try dsimp only at hSw); go_simp; try rfl)
  try simp only [Act.put, gA1, gA2, gA3, gA4, gA5, gA6]
  refine tkA 3 (v := ?_) ?_ ?_
  rotate_left
  · (intro w hSw; (try dsimp only at hSw); go_simp; try rfl)
  try simp only [Act.put, gA1, gA2, gA3, gA4, gA5, gA6]
  refine tkA 4 (v := ?_) ?_ ?_
  rotate_left
  · (intro w hSw; (try dsimp only at hSw); go_simp; try rfl)
  try simp only [Act.put, gA1, gA2, gA3, gA4, gA5, gA6]
  refine tkA 5 (v := ?_) ?_ ?_
  rotate_left
  · (intro w hSw; (try dsimp only at hSw); go_simp; try rfl)
  try simp only [Act.put, gA1, gA2, gA3, gA4, gA5, gA6]
  refine tkA 6 (v := ?_) ?_ ?_
  rotate_left
  · (intro w hSw; (try dsimp only at hSw); go_simp; try rfl)
  try simp only [Act.put, gA1, gA2, gA3, gA4, gA5, gA6]
  refine tkA 7 (v := ?_) ?_ ?_
  rotate_left
  · (intro w hSw; (try dsimp only at hSw); go_simp; try rfl)
  try simp only [Act.put, gA1, gA2, gA3, gA4, gA5, gA6]
  refine tkA 8 (v := ?_) ?_ ?_
  rotate_left
  · (intro w hSw; (try dsimp only at hSw); go_simp; try rfl)
  try simp only [Act.put, gA1, gA2, gA3, gA4, gA5, gA6]
  refine tkA 9 (v := ?_) ?_ ?_
  rotate_left
  · (intro w hSw; (try dsimp only at hSw); go_simp; try rfl)
  try simp only [Act.put, gA1, gA2, gA3, gA4, gA5, gA6]
  refine tkA 10 (v := ?_) ?_ ?_
  rotate_left
  · (intro w hSw; (try dsimp only at hSw); go_simp; try rfl)
  try simp only [Act.put, gA1, gA2, gA3, gA4, gA5, gA6]
  refine tkA 11 (v := ?_) ?_ ?_
  rotate_left
  · (intro w hSw; (try dsimp only at hSw); go_simp; try rfl)
  try simp only [Act.put, gA1, gA2, gA3, gA4, gA5, gA6]
  refine wpAnyH_ready (rs := [12]) (by kernel_rfl) (by simp) ?_
  refine (AllReadyH.cons rfl (fun K hK => ?_) AllReadyH.nil)
  go_simp
  (go_at_call 49; refine (HCI.out _ (Below.refl _ _).drew).mono ?_; rintro e w5 ⟨a5, k5, he, ho5, hb⟩; have he := he.out; subst he; have hb5 : Below X.heap.size X w5 := below_self (Below.refl _ X).drew hb)
  refine hK.out _ _ ?_ (fun hHeld => ?_)
  · ((first
    | exact HKP.out _ hb6
    | exact HKP.out _ hb5
    | exact HKP.out _ (Below.refl _ _).drew
    | exact HKP.out _ (Below.refl _ _)
    | (refine HKP.out _ ?_; exact hb5.alloc hb5.size _)
    | fail))
  clear hK K
  try simp only [Act.put, gA1, gA2, gA3, gA4, gA5, gA6]
  refine tkA 13 (v := ?_) ?_ ?_
  rotate_left
  · (intro w hSw; (try dsimp only at hSw); go_simp; try rfl)
  try simp only [Act.put, gA1, gA2, gA3, gA4, gA5, gA6]
  refine wpAnyH_ready (rs := [14]) (by kernel_rfl) (by simp) ?_
  refine (AllReadyH.cons rfl (fun K hK => ?_) AllReadyH.nil)
  go_simp
  refine hK.out _ _ ?_ (fun hHeld => ?_)
  · ((first
    | exact HKP.out _ hb6
    | exact HKP.out _ hb5
    | exact HKP.out _ (Below.refl _ _).drew
    | exact HKP.out _ (Below.refl _ _)
    | (refine HKP.out _ ?_; exact hb5.alloc hb5.size _)
    | fail))
  clear hK K
  try simp only [Act.put, gA1, gA2, gA3, gA4, gA5, gA6]
  refine tkA 15 (v := ?_) ?_ ?_
  rotate_left
  · (intro w hSw; (try dsimp only at hSw); go_simp; try rfl)
  try simp only [Act.put, gA1, gA2, gA3, gA4, gA5, gA6]
  refine wpAnyH_done (by kernel_rfl) ?_ _
  go_split_ands
  clear HKP
  have HO5 := Lib.hid ho5
  have HB5 := Lib.hid hb5
  clear ho5 hb5 hb
  go_wp2
  go_ret
  refine ⟨w5.heap.size, .slice a5 P k5, rfl, ?_, ?_, Nat.le_trans HBX.out.size HB5.out.size, (HBX.out.trans (HB5.out.mono HBX.out.size)).alloc (Nat.le_trans HBX.out.size HB5.out.size) _⟩
  · have hq := Bk.new w5 54 [.int .i64 kd, .int .i64 nd, .int .i64 n1, .int .i64 n3, .int .i64 n4, .int .i64 n5, .int .i64 n6, .int .i64 n7, .int .i64 p0, .int .i64 p1, .int .i64 p2, .int .i64 p3, .int .i64 p4, .int .i64 p5, .int .i64 p6, .int .i64 p7, .string p8, .string p9, .int .i64 p10, .int .i64 p11, .int .i64 p12, .int .i64 ps, .slice a5 P k5, .int .i64 0, .slice none 0 0, .slice none 0 0, .slice none 0 0]
    exact hq
  · exact (HO5.out.base (show w.heap.size ≤ X.drew.heap.size from HBX.out.size)).below ((Below.refl _ _).alloc (Nat.le_refl _) _)
end Go.Proofs.YtchhcaoondfpiaaGreat
namespace Go.Proofs.YtchhcaoondfpiaaGreat
open Go.RowKit Go.Sort
open Go.WideMaps
set_option linter.unusedSimpArgs false
set_option linter.unusedVariables false
set_option maxRecDepth 100000

/-- The book stands where another block turns that holds what is none of it. -/
theorem BkAt.blk {w w' : World} {B g mb K : Nat} {b : BSt} (h : BkAt w B g mb K b) {k0 : Nat} (hg : w.grownBy w' (some k0)) {cs : Array Value} {T : TypeId} {fr : Nat × Nat} (hk : w.heap[k0]? = some (.cells cs T fr)) (h1 : T ≠ 85) (h2 : T ≠ 3) (h3 : T ≠ 37) : BkAt w' B g mb K b := by
  obtain ⟨⟨vn, q1, q2⟩, ⟨D, m, q3, q4, q5⟩, q6, q7, q8⟩ := h
  have hne : ∀ j cs' T' fr', w.heap[j]? = some (.cells cs' T' fr') → T' ≠ T → some j ≠ some k0 := by
    intro j cs' T' fr' hj ht e
    rw [Option.some.inj e, hk] at hj
    cases hj
    exact ht rfl
  refine ⟨⟨vn, (hg.block g q1.lt (hne _ _ _ _ q1 (Ne.symm h1))).trans q1, OwnI.keepB q2 fun k hkk => ?_⟩, ⟨D, m, q3, q4.kept hg ?_, q5.has, ?_, q5.size, q5.tidy⟩, q6, q7, q8⟩
  · obtain ⟨hlt, cs', fr', hc⟩ := OwnI.blk q2 k hkk
    exact hg.block k hlt (hne _ _ _ _ hc (Ne.symm h2))
  · obtain ⟨es, ck, hb, _⟩ := q4
    intro e
    rw [Option.some.inj e, hk] at hb
    cases hb
  · intro id x hm
    obtain ⟨v, r1, r2⟩ := q5.val id x hm
    refine ⟨v, r1, ⟨r2.ok, r2.st, r2.pr, r2.vo, r2.cm, r2.sq, r2.row.keepB fun k hkk => ?_⟩⟩
    obtain ⟨hlt, cs', fr', hc⟩ := r2.row.blk k hkk
    exact hg.block k hlt (hne _ _ _ _ hc (Ne.symm h3))
theorem grown_setRow (w : World) (k0 : Nat) (cs : Array Value) : w.grownBy (w.setRow k0 cs) (some k0) :=
  ⟨rfl, rfl, rfl, by simp [World.setRow], fun k _ hn => by
    simp only [World.setRow]
    rw [Array.getElem?_modify, if_neg (fun e => hn (by rw [e]))]⟩
theorem grown_out {w X w' : World} {mb : Nat} (h : Below w.heap.size w X) (hg : X.grownBy w' (some mb)) : w.grownBy w' (some mb) :=
  ⟨hg.os.trans h.os, hg.tape.trans h.tape, hg.output.trans h.output, Nat.le_trans h.size hg.size, fun k hk hn => (hg.block k (Nat.lt_of_lt_of_le hk h.size) hn).trans (h.block k hk)⟩
theorem grown_on {w w1 w2 : World} {mb : Nat} (hg : w.grownBy w1 (some mb)) (h : Below w1.heap.size w1 w2) : w.grownBy w2 (some mb) :=
  ⟨h.os.trans hg.os, h.tape.trans hg.tape, h.output.trans hg.output, Nat.le_trans hg.size h.size, fun k hk hn => (h.block k (Nat.lt_of_lt_of_le hk hg.size)).trans (hg.block k hk hn)⟩
theorem grown_new {w w1 w2 : World} {mb k0 : Nat} (hg : w.grownBy w1 (some mb)) (h : w1.grownBy w2 (some k0)) (hk : w.heap.size ≤ k0) : w.grownBy w2 (some mb) :=
  ⟨h.os.trans hg.os, h.tape.trans hg.tape, h.output.trans hg.output, Nat.le_trans hg.size h.size, fun k hk' hn => (h.block k (Nat.lt_of_lt_of_le hk' hg.size) (fun e => by have e2 := Option.some.inj e; omega)).trans (hg.block k hk' hn)⟩
/-- What a vote comes to. -/
def VtP (b : BSt) (id : I3) (x : Ist) (u : Value) (B g mb K : Nat) (w : World) (e : Ending) (w' : World) : Prop := Hid (e = .returned (.agg (inE x u).toArray)) ∧ BkAt w' B g mb (K + 1) { b with l := setL b.l id x } ∧ w.grownBy w' (some mb)
set_option maxHeartbeats 4000000 in
theorem bvote_any {w : World} {B g mb K : Nat} {b : BSt} (h : BkAt w B g mb K b) (st : Int) {v : Value} {m : Mg} (hm : MgA w v m) (sq : Int) (l : List I3) (u : Value) (hr : IK.Rd w u l) (hl : l.length ≤ 100000) (hK : K ≤ 100000) :
    Calls Tryz.prog 86 #[bP g, .int .i64 st, v, .agg #[.int .i64 sq, u]] w (VtP b m.id ⟨st, m.bal, m.bal, m.ins.cm, (sq, l)⟩ u B g mb K w) := by
  have HMV := Lib.hid hm
  obtain ⟨ua, uc, a1, d1, c1, a2, d2, c2, a3, d3, c3, rfl, hrd, hokl, hid⟩ := hm
  obtain ⟨n0, n1, n2, ⟨n3, n4, n5⟩, ⟨n6, n7⟩, ⟨n8, ⟨n9, n10⟩, ⟨n11, n12⟩, ⟨n13, n14, n15, n16, n17, n18, n19, n20⟩, n21, dl⟩, sn0⟩ := m
  obtain ⟨n23, sn1⟩ : ∃ q, sn0.1.1 = q := ⟨_, rfl⟩
  obtain ⟨M, hM⟩ : ∃ M, dl.length = M := ⟨_, rfl⟩
  have HMl := Lib.hid hM
  simp only at hrd hokl hid
  simp only [msE, inE, snV, hM, sn1, List.cons_append, List.nil_append] at hrd HMV ⊢
  clear hM sn1
  obtain ⟨la, lk, hs⟩ := hr.slice
  obtain ⟨L, hL⟩ : ∃ L, l.length = L := ⟨_, rfl⟩
  rw [hL] at hs
  subst hs
  obtain ⟨X, hX⟩ : ∃ X, ((w.alloc (.cells #[.int .i64 n0, .int .i64 n1, .int .i64 n2, .int .i64 n3, .int .i64 n4, .int .i64 n5, .int .i64 n6, .int .i64 n7, .int .i64 n8, .int .i64 n9, .int .i64 n10, .int .i64 n11, .int .i64 n12, .int .i64 n13, .int .i64 n14, .int .i64 n15, .string n16, .string n17, .int .i64 n18, .int .i64 n19, .int .i64 n20, .int .i64 n21, .slice ua M uc, .int .i64 n23, .slice a1 d1 c1, .slice a2 d2 c2, .slice a3 d3 c3] 54)).alloc (.cells #[.int .i64 sq, .slice la L lk] 46)).alloc (.cells #[.int .i64 0, .int .i64 0, .int .i64 0, .int .i64 0, .int .i64 0, .int .i64 0, .int .i64 0, .int .i64 0, .string ⟨#[]⟩, .string ⟨#[]⟩, .int .i64 0, .int .i64 0, .int .i64 0, .int .i64 0, .slice none 0 0] 48) = X := ⟨_, rfl⟩
  have hBX : Below w.heap.size w X := by rw [← hX]; exact (((Below.refl _ _).alloc (Nat.le_refl _) _).alloc (by simp) _).alloc (by simp; omega) _
  have hzX : X.heap.size = w.heap.size + 3 := by rw [← hX]; simp
  have HMX : Hid (Bk X w.heap.size 54 [.int .i64 n0, .int .i64 n1, .int .i64 n2, .int .i64 n3, .int .i64 n4, .int .i64 n5, .int .i64 n6, .int .i64 n7, .int .i64 n8, .int .i64 n9, .int .i64 n10, .int .i64 n11, .int .i64 n12, .int .i64 n13, .int .i64 n14, .int .i64 n15, .string n16, .string n17, .int .i64 n18, .int .i64 n19, .int .i64 n20, .int .i64 n21, .slice ua M uc, .int .i64 n23, .slice a1 d1 c1, .slice a2 d2 c2, .slice a3 d3 c3]) := Lib.hid (by rw [← hX]; exact ((Bk.new w _ _).old _).old _)
  have HAX : Hid (Bk X (w.heap.size + 1) 46 [.int .i64 sq, .slice la L lk]) := Lib.hid (by rw [← hX]; exact (Bk.newA (by simp) _ [.int .i64 sq, .slice la L lk]).old _)
  have HRX : Hid (Bk X (w.heap.size + 2) 48 [.int .i64 0, .int .i64 0, .int .i64 0, .int .i64 0, .int .i64 0, .int .i64 0, .int .i64 0, .int .i64 0, .string ⟨#[]⟩, .string ⟨#[]⟩, .int .i64 0, .int .i64 0, .int .i64 0, .int .i64 0, .slice none 0 0]) := Lib.hid (by rw [← hX]; exact Bk.newA (by simp) _ [.int .i64 0, .int .i64 0, .int .i64 0, .int .i64 0, .int .i64 0, .int .i64 0, .int .i64 0, .int .i64 0, .string ⟨#[]⟩, .string ⟨#[]⟩, .int .i64 0, .int .i64 0, .int .i64 0, .int .i64 0, .slice none 0 0])
  obtain ⟨Y, hY⟩ : ∃ Y, X.alloc (.cells #[.int .i64 st, .int .i64 n6, .int .i64 n7, .int .i64 n6, .int .i64 n7, .int .i64 n13, .int .i64 n14, .int .i64 n15, .string n16, .string n17, .int .i64 n18, .int .i64 n19, .int .i64 n20, .int .i64 sq, .slice la L lk] 48) = Y := ⟨_, rfl⟩
  have hBY : Below X.heap.size X Y := by rw [← hY]; exact (Below.refl _ _).alloc (Nat.le_refl _) _
  have HVY : Hid (Bk Y X.heap.size 48 [.int .i64 st, .int .i64 n6, .int .i64 n7, .int .i64 n6, .int .i64 n7, .int .i64 n13, .int .i64 n14, .int .i64 n15, .string n16, .string n17, .int .i64 n18, .int .i64 n19, .int .i64 n20, .int .i64 sq, .slice la L lk]) := Lib.hid (by rw [← hY]; exact Bk.new X _ _)
  have HMY := Lib.hid (HMX.out.below hBY)
  have HRY := Lib.hid (HRX.out.below hBY)
  have hBwY : Below w.heap.size w Y := hBX.trans (hBY.mono hBX.size)
  have hBk := h.below hBwY
  have HSet : Hid (Calls Tryz.prog 30 #[bP g, .agg #[.int .i64 n3, .int .i64 n4, .int .i64 n5], .agg #[.int .i64 st, .int .i64 n6, .int .i64 n7, .int .i64 n6, .int .i64 n7, .int .i64 n13, .int .i64 n14, .int .i64 n15, .string n16, .string n17, .int .i64 n18, .int .i64 n19, .int .i64 n20, .int .i64 sq, .slice la L lk]] Y (StP b (n3, n4, n5) ⟨st, (n6, n7), (n6, n7), ⟨n13, n14, n15, n16, n17, n18, n19, n20⟩, (sq, l)⟩ B g mb K Y)) := Lib.hid (by
    have q := bset_any hBk (id := (n3, n4, n5)) hid ⟨st, (n6, n7), (n6, n7), ⟨n13, n14, n15, n16, n17, n18, n19, n20⟩, (sq, l)⟩ (.slice la L lk) (hr.below hBwY) hl hK
    simp only [inE] at q
    exact q)
  have HBK := Lib.hid hBk
  have HBwY := Lib.hid hBwY
  have HZX := Lib.hid hzX
  have x3 := HMX.out.cell 3
  have x4 := HMX.out.cell 4
  have x5 := HMX.out.cell 5
  have x6 := HMX.out.cell 6
  have x7 := HMX.out.cell 7
  have x13 := HMX.out.cell 13
  have x14 := HMX.out.cell 14
  have x15 := HMX.out.cell 15
  have x16 := HMX.out.cell 16
  have x17 := HMX.out.cell 17
  have x18 := HMX.out.cell 18
  have x19 := HMX.out.cell 19
  have x20 := HMX.out.cell 20
  have y0 := HAX.out.cell 0
  have y1 := HAX.out.cell 1
  have z3 := HMY.out.cell 3
  have z4 := HMY.out.cell 4
  have z5 := HMY.out.cell 5
  have xl := HMX.out.lt
  have yl := HAX.out.lt
  simp only [List.getElem?_cons_zero, List.getElem?_cons_succ] at x3 x4 x5 x6 x7 x13 x14 x15 x16 x17 x18 x19 x20 y0 y1 z3 z4 z5
  clear h hBX hzX hBY hBk hBwY hr hl hK hL hrd hokl hid HAX
  go_enter Tryz.func86, Tryz.ntmps86
  go_wp2_with (first | refine wpList_load_rowG rfl _ _ rfl X.heap.size rfl 48 _ (0, 0) _ HVY.out Tryz.underlying48 rfl infoIn ?_ | fail)
  refine HSet.out.mono ?_
  rintro e w5 ⟨he, hB5, hg5⟩
  rw [he.out]
  have HB5 := Lib.hid hB5
  have HG5 := Lib.hid hg5
  have HV5 : Hid (Bk w5 X.heap.size 48 [.int .i64 st, .int .i64 n6, .int .i64 n7, .int .i64 n6, .int .i64 n7, .int .i64 n13, .int .i64 n14, .int .i64 n15, .string n16, .string n17, .int .i64 n18, .int .i64 n19, .int .i64 n20, .int .i64 sq, .slice la L lk]) := Lib.hid ((hg5.block _ HVY.out.lt (by simpa using HBK.out.blkNe _ _ _ _ HVY.out)).trans HVY.out)
  have HR5 : Hid (Bk w5 (w.heap.size + 2) 48 [.int .i64 0, .int .i64 0, .int .i64 0, .int .i64 0, .int .i64 0, .int .i64 0, .int .i64 0, .int .i64 0, .string ⟨#[]⟩, .string ⟨#[]⟩, .int .i64 0, .int .i64 0, .int .i64 0, .int .i64 0, .slice none 0 0]) := Lib.hid ((hg5.block _ HRY.out.lt (by simpa using HBK.out.blkNe _ _ _ _ HRY.out)).trans HRY.out)
  have HONE : Hid ((#[.int .i64 st, .int .i64 n6, .int .i64 n7, .int .i64 n6, .int .i64 n7, .int .i64 n13, .int .i64 n14, .int .i64 n15, .string n16, .string n17, .int .i64 n18, .int .i64 n19, .int .i64 n20, .int .i64 sq, .slice la L lk] : Array Value).all (·.oneCell') = true) := Lib.hid (all_toA (by rfl))
  clear he hB5 hg5 hX hY x3 x4 x5 x6 x7 x13 x14 x15 x16 x17 x18 x19 x20 y0 y1 z3 z4 z5 HSet xl yl
  go_wp2_with (first
    | refine wpList_load_rowG rfl _ _ rfl X.heap.size rfl 48 _ (0, 0) _ HV5.out Tryz.underlying48 rfl infoIn ?_
    | refine wpList_store_row rfl 48 _ _ rfl (w.heap.size + 2) rfl #[.int .i64 st, .int .i64 n6, .int .i64 n7, .int .i64 n6, .int .i64 n7, .int .i64 n13, .int .i64 n14, .int .i64 n15, .string n16, .string n17, .int .i64 n18, .int .i64 n19, .int .i64 n20, .int .i64 sq, .slice la L lk] rfl _ 48 HR5.out infoIn rfl HONE.out ?_
    | fail)
  have hR6 : Bk (w5.setRow (w.heap.size + 2) #[.int .i64 st, .int .i64 n6, .int .i64 n7, .int .i64 n6, .int .i64 n7, .int .i64 n13, .int .i64 n14, .int .i64 n15, .string n16, .string n17, .int .i64 n18, .int .i64 n19, .int .i64 n20, .int .i64 sq, .slice la L lk]) (w.heap.size + 2) 48 [.int .i64 st, .int .i64 n6, .int .i64 n7, .int .i64 n6, .int .i64 n7, .int .i64 n13, .int .i64 n14, .int .i64 n15, .string n16, .string n17, .int .i64 n18, .int .i64 n19, .int .i64 n20, .int .i64 sq, .slice la L lk] := bk_setRowA HR5.out
  have hlv := run_loadVar_row (P := Tryz.prog) _ _ _ _ _ (0, 0) _ hR6 Tryz.underlying48 rfl infoIn
  refine bodyPost_ret (v := .agg #[.int .i64 st, .int .i64 n6, .int .i64 n7, .int .i64 n6, .int .i64 n7, .int .i64 n13, .int .i64 n14, .int .i64 n15, .string n16, .string n17, .int .i64 n18, .int .i64 n19, .int .i64 n20, .int .i64 sq, .slice la L lk]) (by simp [results, Tryz.results86, asAddr, Act.put, hlv]) rfl ⟨Lib.hid rfl, HB5.out.blk (grown_setRow _ _ _) HR5.out (by decide) (by decide) (by decide), grown_new (grown_out HBwY.out HG5.out) (grown_setRow _ _ _) (by omega)⟩
def comL (b : BSt) (m : Mg) (x : Ist) : BSt := if x.st ≠ 3 then { b with l := setL b.l m.id ⟨3, x.pr, m.ins.vo, m.ins.cm, m.ins.at'⟩ } else b
/-- What comes to a book and no answer. -/
def CoP (b : BSt) (B g mb K : Nat) (w : World) (e : Ending) (w' : World) : Prop := Hid (e = .returned (.slice none 0 0)) ∧ BkAt w' B g mb (K + 1) b ∧ w.grownBy w' (some mb)
set_option maxHeartbeats 4000000 in
theorem bcommit_any {w : World} {B g mb K : Nat} {b : BSt} (h : BkAt w B g mb K b) {v : Value} {m : Mg} (hm : MgA w v m) (x : Ist) (u : Value) (hr : IK.Rd w u x.at'.2) (hl : m.ins.at'.2.length ≤ 100000) (hK : K ≤ 100000) :
    Calls Tryz.prog 71 #[bP g, v, .agg (inE x u).toArray] w (CoP (comL b m x) B g mb K w) := by
  have HMV := Lib.hid hm
  obtain ⟨ua, uc, a1, d1, c1, a2, d2, c2, a3, d3, c3, rfl, hrd, hokl, hid⟩ := hm
  obtain ⟨n0, n1, n2, ⟨n3, n4, n5⟩, ⟨n6, n7⟩, ⟨n8, ⟨n9, n10⟩, ⟨n11, n12⟩, ⟨n13, n14, n15, n16, n17, n18, n19, n20⟩, n21, dl⟩, sn0⟩ := m
  obtain ⟨n23, sn1⟩ : ∃ q, sn0.1.1 = q := ⟨_, rfl⟩
  obtain ⟨M, hM⟩ : ∃ M, dl.length = M := ⟨_, rfl⟩
  have HMl := Lib.hid hM
  simp only at hrd hokl hid
  simp only [msE, inE, snV, hM, sn1, List.cons_append, List.nil_append] at hrd HMV ⊢
  clear hM sn1
  simp only at hl
  obtain ⟨p0, ⟨p1, p2⟩, ⟨p3, p4⟩, ⟨p5, p6, p7, p8, p9, p10, p11, p12⟩, ps, pl⟩ := x
  simp only at hr
  obtain ⟨pa, pk, hs⟩ := hr.slice
  obtain ⟨P, hP⟩ : ∃ P, pl.length = P := ⟨_, rfl⟩
  rw [hP] at hs
  subst hs
  simp only [inE]
  obtain ⟨X, hX⟩ : ∃ X, (w.alloc (.cells #[.int .i64 n0, .int .i64 n1, .int .i64 n2, .int .i64 n3, .int .i64 n4, .int .i64 n5, .int .i64 n6, .int .i64 n7, .int .i64 n8, .int .i64 n9, .int .i64 n10, .int .i64 n11, .int .i64 n12, .int .i64 n13, .int .i64 n14, .int .i64 n15, .string n16, .string n17, .int .i64 n18, .int .i64 n19, .int .i64 n20, .int .i64 n21, .slice ua M uc, .int .i64 n23, .slice a1 d1 c1, .slice a2 d2 c2, .slice a3 d3 c3] 54)).alloc (.cells #[.int .i64 p0, .int .i64 p1, .int .i64 p2, .int .i64 p3, .int .i64 p4, .int .i64 p5, .int .i64 p6, .int .i64 p7, .string p8, .string p9, .int .i64 p10, .int .i64 p11, .int .i64 p12, .int .i64 ps, .slice pa P pk] 48) = X := ⟨_, rfl⟩
  have hBX : Below w.heap.size w X := by rw [← hX]; exact ((Below.refl _ _).alloc (Nat.le_refl _) _).alloc (by simp) _
  have HMX : Hid (Bk X w.heap.size 54 [.int .i64 n0, .int .i64 n1, .int .i64 n2, .int .i64 n3, .int .i64 n4, .int .i64 n5, .int .i64 n6, .int .i64 n7, .int .i64 n8, .int .i64 n9, .int .i64 n10, .int .i64 n11, .int .i64 n12, .int .i64 n13, .int .i64 n14, .int .i64 n15, .string n16, .string n17, .int .i64 n18, .int .i64 n19, .int .i64 n20, .int .i64 n21, .slice ua M uc, .int .i64 n23, .slice a1 d1 c1, .slice a2 d2 c2, .slice a3 d3 c3]) := Lib.hid (by rw [← hX]; exact (Bk.new w _ _).old _)
  have HRX : Hid (Bk X (w.heap.size + 1) 48 [.int .i64 p0, .int .i64 p1, .int .i64 p2, .int .i64 p3, .int .i64 p4, .int .i64 p5, .int .i64 p6, .int .i64 p7, .string p8, .string p9, .int .i64 p10, .int .i64 p11, .int .i64 p12, .int .i64 ps, .slice pa P pk]) := Lib.hid (by rw [← hX]; exact Bk.newA (by simp) _ [.int .i64 p0, .int .i64 p1, .int .i64 p2, .int .i64 p3, .int .i64 p4, .int .i64 p5, .int .i64 p6, .int .i64 p7, .string p8, .string p9, .int .i64 p10, .int .i64 p11, .int .i64 p12, .int .i64 ps, .slice pa P pk])
  have hBk := h.below hBX
  have HSet : Hid (Calls Tryz.prog 30 #[bP g, .agg #[.int .i64 n3, .int .i64 n4, .int .i64 n5], .agg #[.int .i64 3, .int .i64 p1, .int .i64 p2, .int .i64 n11, .int .i64 n12, .int .i64 n13, .int .i64 n14, .int .i64 n15, .string n16, .string n17, .int .i64 n18, .int .i64 n19, .int .i64 n20, .int .i64 n21, .slice ua M uc]] X (StP b (n3, n4, n5) ⟨3, (p1, p2), (n11, n12), ⟨n13, n14, n15, n16, n17, n18, n19, n20⟩, (n21, dl)⟩ B g mb K X)) := Lib.hid (by
    have q := bset_any hBk (id := (n3, n4, n5)) hid ⟨3, (p1, p2), (n11, n12), ⟨n13, n14, n15, n16, n17, n18, n19, n20⟩, (n21, dl)⟩ (.slice ua M uc) (hrd.below hBX) hl hK
    simp only [inE, HMl.out] at q
    exact q)
  have HBK := Lib.hid hBk
  have HBX := Lib.hid hBX
  have x3 := HMX.out.cell 3
  have x4 := HMX.out.cell 4
  have x5 := HMX.out.cell 5
  have x11 := HMX.out.cell 11
  have x12 := HMX.out.cell 12
  have x13 := HMX.out.cell 13
  have x14 := HMX.out.cell 14
  have x15 := HMX.out.cell 15
  have x16 := HMX.out.cell 16
  have x17 := HMX.out.cell 17
  have x18 := HMX.out.cell 18
  have x19 := HMX.out.cell 19
  have x20 := HMX.out.cell 20
  have x21 := HMX.out.cell 21
  have x22 := HMX.out.cell 22
  have y0 := HRX.out.cell 0
  have y1 := HRX.out.cell 1
  have y2 := HRX.out.cell 2
  have xl := HMX.out.lt
  have yl := HRX.out.lt
  simp only [List.getElem?_cons_zero, List.getElem?_cons_succ] at x3 x4 x5 x11 x12 x13 x14 x15 x16 x17 x18 x19 x20 x21 x22 y0 y1 y2
  clear h hBX hBk hr hl hK hP hrd hokl hid HMX HRX
  by_cases g1 : p0 = 3
  · subst g1
    have e1 : comL b ⟨n0, n1, n2, (n3, n4, n5), (n6, n7), ⟨n8, (n9, n10), (n11, n12), ⟨n13, n14, n15, n16, n17, n18, n19, n20⟩, (n21, dl)⟩, sn0⟩ ⟨3, (p1, p2), (p3, p4), ⟨p5, p6, p7, p8, p9, p10, p11, p12⟩, (ps, pl)⟩ = b := if_neg (by simp)
    rw [e1]
    clear e1 HSet
    have HFin : Hid (BkAt X B g mb (K + 1) b) := Lib.hid (HBK.out.mono (Nat.le_succ _))
    clear HBK
    go_enter Tryz.func71, Tryz.ntmps71
    go_wp2
    go_ret
    subst hX
    exact ⟨Lib.hid rfl, HFin.out, ⟨HBX.out.os, HBX.out.tape, HBX.out.output, HBX.out.size, fun k hk _ => HBX.out.block k hk⟩⟩
  · have g2 : (p0 != 3) = true := by simp [g1]
    have e1 : comL b ⟨n0, n1, n2, (n3, n4, n5), (n6, n7), ⟨n8, (n9, n10), (n11, n12), ⟨n13, n14, n15, n16, n17, n18, n19, n20⟩, (n21, dl)⟩, sn0⟩ ⟨p0, (p1, p2), (p3, p4), ⟨p5, p6, p7, p8, p9, p10, p11, p12⟩, (ps, pl)⟩ = { b with l := setL b.l (n3, n4, n5) ⟨3, (p1, p2), (n11, n12), ⟨n13, n14, n15, n16, n17, n18, n19, n20⟩, (n21, dl)⟩ } := if_pos g1
    rw [e1]
    clear e1
    go_enter Tryz.func71, Tryz.ntmps71
    go_wp2_with fail
    refine HSet.out.mono ?_
    rintro e w5 ⟨he, hB5, hg5⟩
    rw [he.out]
    have HB5 := Lib.hid hB5
    have HG5 := Lib.hid hg5
    clear he hB5 hg5 hX x3 x4 x5 x11 x12 x13 x14 x15 x16 x17 x18 x19 x20 x21 x22 y0 y1 y2 HSet xl yl
    go_wp2
    go_ret
    exact ⟨Lib.hid rfl, HB5.out, grown_out HBX.out HG5.out⟩
end Go.Proofs.YtchhcaoondfpiaaGreat
namespace Go.Proofs.YtchhcaoondfpiaaGreat
open Go.RowKit Go.Sort
open Go.WideMaps
set_option linter.unusedSimpArgs false
set_option linter.unusedVariables false
set_option maxRecDepth 100000

/-- A row of answers, one at most. -/
def AnsIs (w : World) (N : Nat) (v : Value) (l : List Mg) : Prop := (l = [] ∧ v = .slice none 0 0) ∨ ∃ (M : Mg) (g' : Nat) (u : Value), l = [M] ∧ v = .slice (some ⟨g', 0, none⟩) 1 1 ∧ Bk w g' 54 (msE M u (.slice none 0 0) (.slice none 0 0) (.slice none 0 0)) ∧ IK.Own w N u M.ins.at'.2 ∧ N ≤ g'
theorem AnsIs.below {w w' : World} {N : Nat} {v : Value} {l : List Mg} (h : AnsIs w N v l) (hb : Below w.heap.size w w') : AnsIs w' N v l := by
  rcases h with q | ⟨M, g', u, h1, h2, h3, h4, h5⟩
  · exact .inl q
  · exact .inr ⟨M, g', u, h1, h2, h3.below hb, h4.below hb, h5⟩
/-- What hearing comes to: the book, and the answers. -/
def HrP (R : BSt × List Mg) (B g mb K : Nat) (w : World) (e : Ending) (w' : World) : Prop := ∃ v, Hid (e = .returned v) ∧ BkAt w' B g mb (K + 1) R.1 ∧ w.grownBy w' (some mb) ∧ AnsIs w' w.heap.size v R.2
theorem hrP_ans {M : Mg} {b' : BSt} {B g mb K N : Nat} {w w5 : World} {e : Ending} {w6 : World} (h : AnP M w5 e w6) (hB : BkAt w5 B g mb (K + 1) b') (hg : w.grownBy w5 (some mb)) : HrP (b', [M]) B g mb K w e w6 := by
  obtain ⟨g', u, he, h1, h2, h3, hb⟩ := h
  exact ⟨_, he, hB.below hb, grown_on hg hb, .inr ⟨M, g', u, rfl, rfl, h1, h2.base hg.size, Nat.le_trans hg.size h3⟩⟩
theorem load_rowS {P : Program} {o : Oper} {a : Act} {w : World} (ty : TypeId) (x : Operand) (ho : o.op = .load ty x) (g : Nat) (hx : a.eval x = .pointer (some ⟨g, 0, none⟩)) (t : TypeId) (cs : Array Value) (fr : Nat × Nat) (d : TypeDesc) (hg : w.heap[g]? = some (.cells cs t fr))
    (hu : P.underlying ty = some d) (hd : (match d with | .struct _ | .array _ _ => true | _ => false) = true) (hi : (P.info? ty).map (·.size) = some cs.size) : (execOp a.eval o).run P w = .ok (.value (.agg cs)) w := by
  unfold execOp
  simp only [ho, hx, Instr.loadAt, Instr.sureAddr, Sem.run_bind, Sem.run_pure, Result.andThen_ok, run_loadVar_row w g t ty cs fr d hg hu hd hi]
def accB (b : BSt) (m : Mg) : BSt × List Mg := ({ b with l := setL b.l m.id ⟨2, m.bal, m.bal, m.ins.cm, m.ins.at'⟩ }, [ansB b 3 m m.bal ⟨2, m.bal, m.bal, m.ins.cm, m.ins.at'⟩])
set_option maxHeartbeats 4000000 in
theorem baccept_any {w : World} {B g mb K : Nat} {b : BSt} (h : BkAt w B g mb K b) {v : Value} {m : Mg} (hm : MgA w v m) (x : Ist) (u : Value) (hr : IK.Rd w u x.at'.2) (hl : m.ins.at'.2.length ≤ 100000) (hK : K ≤ 100000) :
    Calls Tryz.prog 69 #[bP g, v, .agg (inE x u).toArray] w (HrP (accB b m) B g mb K w) := by
  have HMV := Lib.hid hm
  obtain ⟨ua, uc, a1, d1, c1, a2, d2, c2, a3, d3, c3, rfl, hrd, hokl, hid⟩ := hm
  obtain ⟨n0, n1, n2, ⟨n3, n4, n5⟩, ⟨n6, n7⟩, ⟨n8, ⟨n9, n10⟩, ⟨n11, n12⟩, ⟨n13, n14, n15, n16, n17, n18, n19, n20⟩, n21, dl⟩, sn0⟩ := m
  obtain ⟨n23, sn1⟩ : ∃ q, sn0.1.1 = q := ⟨_, rfl⟩
  obtain ⟨M, hM⟩ : ∃ M, dl.length = M := ⟨_, rfl⟩
  have HMl := Lib.hid hM
  simp only at hrd hokl hid
  simp only [msE, inE, snV, hM, sn1, List.cons_append, List.nil_append] at hrd HMV ⊢
  clear hM sn1
  simp only at hl
  obtain ⟨p0, ⟨p1, p2⟩, ⟨p3, p4⟩, ⟨p5, p6, p7, p8, p9, p10, p11, p12⟩, ps, pl⟩ := x
  simp only at hr
  obtain ⟨pa, pk, hs⟩ := hr.slice
  obtain ⟨P, hP⟩ : ∃ P, pl.length = P := ⟨_, rfl⟩
  rw [hP] at hs
  subst hs
  simp only [inE]
  obtain ⟨X, hX⟩ : ∃ X, (w.alloc (.cells #[.int .i64 n0, .int .i64 n1, .int .i64 n2, .int .i64 n3, .int .i64 n4, .int .i64 n5, .int .i64 n6, .int .i64 n7, .int .i64 n8, .int .i64 n9, .int .i64 n10, .int .i64 n11, .int .i64 n12, .int .i64 n13, .int .i64 n14, .int .i64 n15, .string n16, .string n17, .int .i64 n18, .int .i64 n19, .int .i64 n20, .int .i64 n21, .slice ua M uc, .int .i64 n23, .slice a1 d1 c1, .slice a2 d2 c2, .slice a3 d3 c3] 54)).alloc (.cells #[.int .i64 p0, .int .i64 p1, .int .i64 p2, .int .i64 p3, .int .i64 p4, .int .i64 p5, .int .i64 p6, .int .i64 p7, .string p8, .string p9, .int .i64 p10, .int .i64 p11, .int .i64 p12, .int .i64 ps, .slice pa P pk] 48) = X := ⟨_, rfl⟩
  have hBX : Below w.heap.size w X := by rw [← hX]; exact ((Below.refl _ _).alloc (Nat.le_refl _) _).alloc (by simp) _
  have HMX : Hid (Bk X w.heap.size 54 [.int .i64 n0, .int .i64 n1, .int .i64 n2, .int .i64 n3, .int .i64 n4, .int .i64 n5, .int .i64 n6, .int .i64 n7, .int .i64 n8, .int .i64 n9, .int .i64 n10, .int .i64 n11, .int .i64 n12, .int .i64 n13, .int .i64 n14, .int .i64 n15, .string n16, .string n17, .int .i64 n18, .int .i64 n19, .int .i64 n20, .int .i64 n21, .slice ua M uc, .int .i64 n23, .slice a1 d1 c1, .slice a2 d2 c2, .slice a3 d3 c3]) := Lib.hid (by rw [← hX]; exact (Bk.new w _ _).old _)
  have hBk := h.below hBX
  have HBX := Lib.hid hBX
  have hBd := hBk.below (Below.refl X.heap.size X).drew
  have HMd := Lib.hid ((HMV.out.below hBX).below (Below.refl X.heap.size X).drew)
  have HRd := Lib.hid ((hrd.below hBX).below (Below.refl X.heap.size X).drew)
  have HVo : Hid (Calls Tryz.prog 86 #[bP g, .int .i64 2, .agg #[.int .i64 n0, .int .i64 n1, .int .i64 n2, .int .i64 n3, .int .i64 n4, .int .i64 n5, .int .i64 n6, .int .i64 n7, .int .i64 n8, .int .i64 n9, .int .i64 n10, .int .i64 n11, .int .i64 n12, .int .i64 n13, .int .i64 n14, .int .i64 n15, .string n16, .string n17, .int .i64 n18, .int .i64 n19, .int .i64 n20, .int .i64 n21, .slice ua M uc, .int .i64 n23, .slice a1 d1 c1, .slice a2 d2 c2, .slice a3 d3 c3], .agg #[.int .i64 n21, .slice ua M uc]] X.drew (fun e w' => e = .returned (.agg #[.int .i64 2, .int .i64 n6, .int .i64 n7, .int .i64 n6, .int .i64 n7, .int .i64 n13, .int .i64 n14, .int .i64 n15, .string n16, .string n17, .int .i64 n18, .int .i64 n19, .int .i64 n20, .int .i64 n21, .slice ua M uc]) ∧ BkAt w' B g mb (K + 1) (accB b ⟨n0, n1, n2, (n3, n4, n5), (n6, n7), ⟨n8, (n9, n10), (n11, n12), ⟨n13, n14, n15, n16, n17, n18, n19, n20⟩, (n21, dl)⟩, sn0⟩).1 ∧ X.drew.grownBy w' (some mb))) := Lib.hid (by
    have q := bvote_any hBd 2 HMd.out n21 dl (.slice ua M uc) HRd.out hl hK
    refine q.mono ?_
    rintro e w5 ⟨he, q1, q2⟩
    exact ⟨he.out, q1, q2⟩)
  have HNe := Lib.hid hBd.blkNe
  have HAn : Hid (∀ w', X.drew.grownBy w' (some mb) → BkAt w' B g mb (K + 1) (accB b ⟨n0, n1, n2, (n3, n4, n5), (n6, n7), ⟨n8, (n9, n10), (n11, n12), ⟨n13, n14, n15, n16, n17, n18, n19, n20⟩, (n21, dl)⟩, sn0⟩).1 → Calls Tryz.prog 44 #[bP g, .int .i64 3, .agg #[.int .i64 n0, .int .i64 n1, .int .i64 n2, .int .i64 n3, .int .i64 n4, .int .i64 n5, .int .i64 n6, .int .i64 n7, .int .i64 n8, .int .i64 n9, .int .i64 n10, .int .i64 n11, .int .i64 n12, .int .i64 n13, .int .i64 n14, .int .i64 n15, .string n16, .string n17, .int .i64 n18, .int .i64 n19, .int .i64 n20, .int .i64 n21, .slice ua M uc, .int .i64 n23, .slice a1 d1 c1, .slice a2 d2 c2, .slice a3 d3 c3], .agg #[.int .i64 2, .int .i64 n6, .int .i64 n7, .int .i64 n6, .int .i64 n7, .int .i64 n13, .int .i64 n14, .int .i64 n15, .string n16, .string n17, .int .i64 n18, .int .i64 n19, .int .i64 n20, .int .i64 n21, .slice ua M uc]] w' (AnP (ansB b 3 ⟨n0, n1, n2, (n3, n4, n5), (n6, n7), ⟨n8, (n9, n10), (n11, n12), ⟨n13, n14, n15, n16, n17, n18, n19, n20⟩, (n21, dl)⟩, sn0⟩ (n6, n7) ⟨2, (n6, n7), (n6, n7), ⟨n13, n14, n15, n16, n17, n18, n19, n20⟩, (n21, dl)⟩) w')) := Lib.hid fun w' hg hB => by
    have q := banswer_any hB 3 (HMd.out.out hg HNe.out) ⟨2, (n6, n7), (n6, n7), ⟨n13, n14, n15, n16, n17, n18, n19, n20⟩, (n21, dl)⟩ (.slice ua M uc) (HRd.out.outA hg HNe.out) hl
    exact q
  have HKP : Hid (∀ w', X.grownBy w' (some mb) → Bk w' w.heap.size 54 [.int .i64 n0, .int .i64 n1, .int .i64 n2, .int .i64 n3, .int .i64 n4, .int .i64 n5, .int .i64 n6, .int .i64 n7, .int .i64 n8, .int .i64 n9, .int .i64 n10, .int .i64 n11, .int .i64 n12, .int .i64 n13, .int .i64 n14, .int .i64 n15, .string n16, .string n17, .int .i64 n18, .int .i64 n19, .int .i64 n20, .int .i64 n21, .slice ua M uc, .int .i64 n23, .slice a1 d1 c1, .slice a2 d2 c2, .slice a3 d3 c3]) := Lib.hid fun w' hb => (hb.block _ HMX.out.lt (by simpa using hBk.blkNe _ _ _ _ HMX.out)).trans HMX.out
  clear h hBX hBk hBd hr hl hK hP hrd hokl hid HMd HRd HNe HMX
  go_enter Tryz.func69, Tryz.ntmps69
  go_wp2_with fail
  try rw [hX]
  clear hX
  refine wp_region_held_drew (S := (fun w' => Bk w' w.heap.size 54 [.int .i64 n0, .int .i64 n1, .int .i64 n2, .int .i64 n3, .int .i64 n4, .int .i64 n5, .int .i64 n6, .int .i64 n7, .int .i64 n8, .int .i64 n9, .int .i64 n10, .int .i64 n11, .int .i64 n12, .int .i64 n13, .int .i64 n14, .int .i64 n15, .string n16, .string n17, .int .i64 n18, .int .i64 n19, .int .i64 n20, .int .i64 n21, .slice ua M uc, .int .i64 n23, .slice a1 d1 c1, .slice a2 d2 c2, .slice a3 d3 c3])) (by kernel_rfl) ?_ (fun hHeld => ?_)
  · ((first
    | exact HKP.out _ hw6
    | exact HKP.out _ hw5
    | exact HKP.out _ ⟨(Below.refl X.heap.size X).drew.os, (Below.refl X.heap.size X).drew.tape, (Below.refl X.heap.size X).drew.output, (Below.refl X.heap.size X).drew.size, fun k hk _ => (Below.refl X.heap.size X).drew.block k hk⟩
    | exact HKP.out _ ⟨rfl, rfl, rfl, Nat.le_refl _, fun k hk _ => rfl⟩
    | fail))
  refine tkA 0 (v := ?_) ?_ ?_
  rotate_left
  · (intro w hSw; (try dsimp only at hSw); go_simp; try rfl)
  try simp only [Act.put, gA1, gA2, gA3, gA4, gA5, gA6]
  refine tkA 1 (v := ?_) ?_ ?_
  rotate_left
  · (intro w' hSw; refine Eq.trans (load_rowS 54 (.tmp 4) (by rfl) w.heap.size (by rfl) 54 #[.int .i64 n0, .int .i64 n1, .int .i64 n2, .int .i64 n3, .int .i64 n4, .int .i64 n5, .int .i64 n6, .int .i64 n7, .int .i64 n8, .int .i64 n9, .int .i64 n10, .int .i64 n11, .int .i64 n12, .int .i64 n13, .int .i64 n14, .int .i64 n15, .string n16, .string n17, .int .i64 n18, .int .i64 n19, .int .i64 n20, .int .i64 n21, .slice ua M uc, .int .i64 n23, .slice a1 d1 c1, .slice a2 d2 c2, .slice a3 d3 c3] (0, 0) _ hSw Tryz.underlying54 rfl (by kernel_rfl)) ?_; rfl)
  try simp only [Act.put, gA1, gA2, gA3, gA4, gA5, gA6]
  refine tkA 2 (v := ?_) ?_ ?_
  rotate_left
  · (intro w hSw; (try dsimp only at hSw); go_simp; try rfl)
  try simp only [Act.put, gA1, gA2, gA3, gA4, gA5, gA6]
  refine tkA 3 (v := ?_) ?_ ?_
  rotate_left
  · (intro w' hSw; refine Eq.trans (load_rowS 54 (.tmp 4) (by rfl) w.heap.size (by rfl) 54 #[.int .i64 n0, .int .i64 n1, .int .i64 n2, .int .i64 n3, .int .i64 n4, .int .i64 n5, .int .i64 n6, .int .i64 n7, .int .i64 n8, .int .i64 n9, .int .i64 n10, .int .i64 n11, .int .i64 n12, .int .i64 n13, .int .i64 n14, .int .i64 n15, .string n16, .string n17, .int .i64 n18, .int .i64 n19, .int .i64 n20, .int .i64 n21, .slice ua M uc, .int .i64 n23, .slice a1 d1 c1, .slice a2 d2 c2, .slice a3 d3 c3] (0, 0) _ hSw Tryz.underlying54 rfl (by kernel_rfl)) ?_; rfl)
  try simp only [Act.put, gA1, gA2, gA3, gA4, gA5, gA6]
  refine tkA 4 (v := ?_) ?_ ?_
  rotate_left
  · (intro w hSw; (try dsimp only at hSw); go_simp; try rfl)
  try simp only [Act.put, gA1, gA2, gA3, gA4, gA5, gA6]
  refine tkA 5 (v := ?_) ?_ ?_
  rotate_left
  · (intro w hSw; (try dsimp only at hSw); go_simp; try rfl)
  try simp only [Act.put, gA1, gA2, gA3, gA4, gA5, gA6]
  refine tkA 6 (v := ?_) ?_ ?_
  rotate_left
  · (intro w' hSw; have e21 := Bk.cell hSw 21; have e22 := Bk.cell hSw 22; simp only [List.getElem?_cons_zero, List.getElem?_cons_succ] at e21 e22; go_simp; try rfl)
  try simp only [Act.put, gA1, gA2, gA3, gA4, gA5, gA6]
  refine wpAnyH_ready (rs := [7]) (by kernel_rfl) (by simp) ?_
  refine (AllReadyH.cons rfl (fun K hK => ?_) AllReadyH.nil)
  go_simp
  (go_at_call 86; refine HVo.out.mono ?_; rintro e w5 ⟨he, hB5, hg5⟩; subst he; have hw5 : X.grownBy w5 (some mb) := ⟨hg5.os, hg5.tape, hg5.output, hg5.size, hg5.block⟩)
  refine hK.out _ _ ?_ (fun hHeld => ?_)
  · ((first
    | exact HKP.out _ hw6
    | exact HKP.out _ hw5
    | exact HKP.out _ ⟨(Below.refl X.heap.size X).drew.os, (Below.refl X.heap.size X).drew.tape, (Below.refl X.heap.size X).drew.output, (Below.refl X.heap.size X).drew.size, fun k hk _ => (Below.refl X.heap.size X).drew.block k hk⟩
    | exact HKP.out _ ⟨rfl, rfl, rfl, Nat.le_refl _, fun k hk _ => rfl⟩
    | fail))
  clear hK K
  try simp only [Act.put, gA1, gA2, gA3, gA4, gA5, gA6]
  refine wpAnyH_ready (rs := [8]) (by kernel_rfl) (by simp) ?_
  refine (AllReadyH.cons rfl (fun K hK => ?_) AllReadyH.nil)
  go_simp
  (go_at_call 44; refine (HAn.out _ hg5 hB5).mono ?_; rintro e w6 ⟨g', u', he, hq1, hq2, hq3, hb6⟩; have he := he.out; subst he; have hw6 : X.grownBy w6 (some mb) := grown_on hw5 hb6)
  refine hK.out _ _ ?_ (fun hHeld => ?_)
  · ((first
    | exact HKP.out _ hw6
    | exact HKP.out _ hw5
    | exact HKP.out _ ⟨(Below.refl X.heap.size X).drew.os, (Below.refl X.heap.size X).drew.tape, (Below.refl X.heap.size X).drew.output, (Below.refl X.heap.size X).drew.size, fun k hk _ => (Below.refl X.heap.size X).drew.block k hk⟩
    | exact HKP.out _ ⟨rfl, rfl, rfl, Nat.le_refl _, fun k hk _ => rfl⟩
    | fail))
  clear hK K
  try simp only [Act.put, gA1, gA2, gA3, gA4, gA5, gA6]
  refine tkA 9 (v := ?_) ?_ ?_
  rotate_left
  · (intro w hSw; (try dsimp only at hSw); go_simp; try rfl)
  try simp only [Act.put, gA1, gA2, gA3, gA4, gA5, gA6]
  refine wpAnyH_done (by kernel_rfl) ?_ _
  go_split_ands
  clear HKP
  have HFin : Hid (HrP (accB b ⟨n0, n1, n2, (n3, n4, n5), (n6, n7), ⟨n8, (n9, n10), (n11, n12), ⟨n13, n14, n15, n16, n17, n18, n19, n20⟩, (n21, dl)⟩, sn0⟩) B g mb K w (.returned (.slice (some ⟨g', 0, none⟩) 1 1)) w6) := Lib.hid (hrP_ans (N := 0) ⟨g', u', Lib.hid rfl, hq1, hq2, hq3, hb6⟩ hB5 (grown_out HBX.out hw5))
  clear hw6 hw5 hb6 hq1 hq2 hq3 hB5 hg5
  go_wp2
  go_ret
  exact HFin.out
def preB (b : BSt) (m : Mg) (x : Ist) : BSt × List Mg := ({ b with l := setL b.l m.id { x with pr := m.bal } }, [ansB b 6 m m.bal { x with pr := m.bal }])
set_option maxHeartbeats 4000000 in
theorem bprepare_any {w : World} {B g mb K : Nat} {b : BSt} (h : BkAt w B g mb K b) {v : Value} {m : Mg} (hm : MgA w v m) (x : Ist) (av : AV) (hav : AVof w av x) (hl : x.at'.2.length ≤ 100000) (hK : K ≤ 100000) :
    Calls Tryz.prog 70 #[bP g, v, avV av] w (HrP (preB b m x) B g mb K w) := by
  rw [hav.val]
  have HMV := Lib.hid hm
  obtain ⟨ua, uc, a1, d1, c1, a2, d2, c2, a3, d3, c3, rfl, hrd, hokl, hid⟩ := hm
  obtain ⟨n0, n1, n2, ⟨n3, n4, n5⟩, ⟨n6, n7⟩, ⟨n8, ⟨n9, n10⟩, ⟨n11, n12⟩, ⟨n13, n14, n15, n16, n17, n18, n19, n20⟩, n21, dl⟩, sn0⟩ := m
  obtain ⟨n23, sn1⟩ : ∃ q, sn0.1.1 = q := ⟨_, rfl⟩
  obtain ⟨M, hM⟩ : ∃ M, dl.length = M := ⟨_, rfl⟩
  have HMl := Lib.hid hM
  simp only at hrd hokl hid
  simp only [msE, inE, snV, hM, sn1, List.cons_append, List.nil_append] at hrd HMV ⊢
  clear hM sn1
  have hr := hav.row
  obtain ⟨p0, ⟨p1, p2⟩, ⟨p3, p4⟩, ⟨p5, p6, p7, p8, p9, p10, p11, p12⟩, ps, pl⟩ := x
  simp only at hr hl
  obtain ⟨pa, pk, hs⟩ := hr.slice
  obtain ⟨P, hP⟩ : ∃ P, pl.length = P := ⟨_, rfl⟩
  rw [hP] at hs
  have hsn : av.sl = none → av.n = 0 := hav.ok
  obtain ⟨v2, hv2, hsv⟩ := AVof.of (x := ⟨p0, (n6, n7), (p3, p4), ⟨p5, p6, p7, p8, p9, p10, p11, p12⟩, (ps, pl)⟩) (hr.below (Below.refl _ w))
  rw [hs] at hr hsv ⊢
  simp only [inE]
  obtain ⟨X, hX⟩ : ∃ X, (w.alloc (.cells #[.int .i64 n0, .int .i64 n1, .int .i64 n2, .int .i64 n3, .int .i64 n4, .int .i64 n5, .int .i64 n6, .int .i64 n7, .int .i64 n8, .int .i64 n9, .int .i64 n10, .int .i64 n11, .int .i64 n12, .int .i64 n13, .int .i64 n14, .int .i64 n15, .string n16, .string n17, .int .i64 n18, .int .i64 n19, .int .i64 n20, .int .i64 n21, .slice ua M uc, .int .i64 n23, .slice a1 d1 c1, .slice a2 d2 c2, .slice a3 d3 c3] 54)).alloc (.cells #[.int .i64 p0, .int .i64 p1, .int .i64 p2, .int .i64 p3, .int .i64 p4, .int .i64 p5, .int .i64 p6, .int .i64 p7, .string p8, .string p9, .int .i64 p10, .int .i64 p11, .int .i64 p12, .int .i64 ps, .slice pa P pk] 48) = X := ⟨_, rfl⟩
  have hBX : Below w.heap.size w X := by rw [← hX]; exact ((Below.refl _ _).alloc (Nat.le_refl _) _).alloc (by simp) _
  have hMX : Bk X w.heap.size 54 [.int .i64 n0, .int .i64 n1, .int .i64 n2, .int .i64 n3, .int .i64 n4, .int .i64 n5, .int .i64 n6, .int .i64 n7, .int .i64 n8, .int .i64 n9, .int .i64 n10, .int .i64 n11, .int .i64 n12, .int .i64 n13, .int .i64 n14, .int .i64 n15, .string n16, .string n17, .int .i64 n18, .int .i64 n19, .int .i64 n20, .int .i64 n21, .slice ua M uc, .int .i64 n23, .slice a1 d1 c1, .slice a2 d2 c2, .slice a3 d3 c3] := by rw [← hX]; exact (Bk.new w _ _).old _
  have hRX : Bk X (w.heap.size + 1) 48 [.int .i64 p0, .int .i64 p1, .int .i64 p2, .int .i64 p3, .int .i64 p4, .int .i64 p5, .int .i64 p6, .int .i64 p7, .string p8, .string p9, .int .i64 p10, .int .i64 p11, .int .i64 p12, .int .i64 ps, .slice pa P pk] := by rw [← hX]; exact Bk.newA (by simp) _ [.int .i64 p0, .int .i64 p1, .int .i64 p2, .int .i64 p3, .int .i64 p4, .int .i64 p5, .int .i64 p6, .int .i64 p7, .string p8, .string p9, .int .i64 p10, .int .i64 p11, .int .i64 p12, .int .i64 ps, .slice pa P pk]
  have x6 := hMX.cell 6
  have x7 := hMX.cell 7
  have y1 := hRX.cell 1
  have y2 := hRX.cell 2
  have f1 := hRX.fz 1
  have f2 := hRX.fz 2
  have xl := hRX.lt
  simp only [List.getElem?_cons_zero, List.getElem?_cons_succ] at x6 x7 y1 y2
  obtain ⟨Y, hY⟩ : ∃ Y, (X.setCell ⟨w.heap.size + 1, 1, none⟩ (.int .i64 n6)).setCell ⟨w.heap.size + 1, 2, none⟩ (.int .i64 n7) = Y := ⟨_, rfl⟩
  have hBY : Below w.heap.size w Y := by
    rw [← hY]
    exact (hBX.setCell (show w.heap.size ≤ (⟨w.heap.size + 1, 1, none⟩ : Addr).block from Nat.le_succ _) _).setCell (show w.heap.size ≤ (⟨w.heap.size + 1, 2, none⟩ : Addr).block from Nat.le_succ _) _
  have HRY : Hid (Bk Y (w.heap.size + 1) 48 [.int .i64 p0, .int .i64 n6, .int .i64 n7, .int .i64 p3, .int .i64 p4, .int .i64 p5, .int .i64 p6, .int .i64 p7, .string p8, .string p9, .int .i64 p10, .int .i64 p11, .int .i64 p12, .int .i64 ps, .slice pa P pk]) := Lib.hid (by rw [← hY]; exact (hRX.set 1 (.int .i64 n6)).set 2 (.int .i64 n7))
  have HMY : Hid (Bk Y w.heap.size 54 [.int .i64 n0, .int .i64 n1, .int .i64 n2, .int .i64 n3, .int .i64 n4, .int .i64 n5, .int .i64 n6, .int .i64 n7, .int .i64 n8, .int .i64 n9, .int .i64 n10, .int .i64 n11, .int .i64 n12, .int .i64 n13, .int .i64 n14, .int .i64 n15, .string n16, .string n17, .int .i64 n18, .int .i64 n19, .int .i64 n20, .int .i64 n21, .slice ua M uc, .int .i64 n23, .slice a1 d1 c1, .slice a2 d2 c2, .slice a3 d3 c3]) := Lib.hid (by rw [← hY]; exact (hMX.other (by omega) 1 _).other (by omega) 2 _)
  have hBk := h.below hBY
  have HBY := Lib.hid hBY
  have HBK := Lib.hid hBk
  have c3Y := hBk.c3
  obtain ⟨D, mm, hmK, hMo, hIs⟩ := (hBk.below (Below.refl Y.heap.size Y).drew).map
  have HM := Lib.hid hMo
  have HIs := Lib.hid hIs
  have HAV : Hid (AVof Y.drew v2 ⟨p0, (n6, n7), (p3, p4), ⟨p5, p6, p7, p8, p9, p10, p11, p12⟩, (ps, pl)⟩) := Lib.hid ((hv2.on hBY).on (Below.refl Y.heap.size Y).drew)
  have HVAL : Hid (avElem (.agg #[.int .i64 p0, .int .i64 n6, .int .i64 n7, .int .i64 p3, .int .i64 p4, .int .i64 p5, .int .i64 p6, .int .i64 p7, .string p8, .string p9, .int .i64 p10, .int .i64 p11, .int .i64 p12, .int .i64 ps, .slice pa P pk]) = some (avD v2, [])) := Lib.hid (by
    have q := avElem_mk hv2.ok
    have q2 := hv2.val
    rw [hsv] at q2
    simp only [inE] at q2
    rw [q2] at q
    exact q)
  have HI := Lib.hid hid
  have HKEY := Lib.hid (kf_key hid)
  have HMAX : Hid (mm < maxLen) := Lib.hid (by unfold maxLen; omega)
  have HMK : Hid (mm + 1 ≤ K + 1) := Lib.hid (by omega)
  have HMd := Lib.hid ((HMV.out.below hBY).below (Below.refl Y.heap.size Y).drew)
  have HRd := Lib.hid ((hr.rd.below hBY).below (Below.refl Y.heap.size Y).drew)
  have HLX := Lib.hid hl
  have m3 := HMY.out.cell 3
  have m4 := HMY.out.cell 4
  have m5 := HMY.out.cell 5
  have y0 := HRY.out.cell 0
  have y3 := HRY.out.cell 3
  have y4 := HRY.out.cell 4
  have y5 := HRY.out.cell 5
  have y6 := HRY.out.cell 6
  have y7 := HRY.out.cell 7
  have y8 := HRY.out.cell 8
  have y9 := HRY.out.cell 9
  have y10 := HRY.out.cell 10
  have y11 := HRY.out.cell 11
  have y12 := HRY.out.cell 12
  have y13 := HRY.out.cell 13
  have y14 := HRY.out.cell 14
  have y1' := HRY.out.cell 1
  have y2' := HRY.out.cell 2
  simp only [List.getElem?_cons_zero, List.getElem?_cons_succ] at m3 m4 m5 y0 y1' y2' y3 y4 y5 y6 y7 y8 y9 y10 y11 y12 y13 y14
  have HK := Lib.hid hK
  clear h hBX hBY hBk hr hl hP hrd hokl hid hav hsn hs hsv hv2 hMo hIs hmK hMX hRX hK
  go_enter Tryz.func70, Tryz.ntmps70
  go_wp2_with fail
  try rw [hX]
  try rw [hY]
  clear hX hY x6 x7 y1 y2 f1 f2 xl
  go_still_tail 7, (by kernel_rfl)
  refine wpList_mapUpdate_own _ rfl _ _ _ 83 rfl 37 48 avK Tryz.underlying83 avElem mb mm D rfl HM.out HMAX.out (.agg #[.int .i64 n3, .int .i64 n4, .int .i64 n5]) (.agg #[.int .i64 p0, .int .i64 n6, .int .i64 n7, .int .i64 p3, .int .i64 p4, .int .i64 p5, .int .i64 p6, .int .i64 p7, .string p8, .string p9, .int .i64 p10, .int .i64 p11, .int .i64 p12, .int .i64 ps, .slice pa P pk]) (kf (n3, n4, n5)) rfl rfl HKEY.out (avD v2) [] HVAL.out ?_
  intro w6 hown hg6
  have hBd := HBK.out.below (Below.refl Y.heap.size Y).drew
  have hB6 : BkAt w6 B g mb (K + 1) (preB b ⟨n0, n1, n2, (n3, n4, n5), (n6, n7), ⟨n8, (n9, n10), (n11, n12), ⟨n13, n14, n15, n16, n17, n18, n19, n20⟩, (n21, dl)⟩, sn0⟩ ⟨p0, (p1, p2), (p3, p4), ⟨p5, p6, p7, p8, p9, p10, p11, p12⟩, (ps, pl)⟩).1 := hBd.turn hg6 HI.out HAV.out HIs.out HMK.out hown
  have hM6 : Bk w6 w.heap.size 54 [.int .i64 n0, .int .i64 n1, .int .i64 n2, .int .i64 n3, .int .i64 n4, .int .i64 n5, .int .i64 n6, .int .i64 n7, .int .i64 n8, .int .i64 n9, .int .i64 n10, .int .i64 n11, .int .i64 n12, .int .i64 n13, .int .i64 n14, .int .i64 n15, .string n16, .string n17, .int .i64 n18, .int .i64 n19, .int .i64 n20, .int .i64 n21, .slice ua M uc, .int .i64 n23, .slice a1 d1 c1, .slice a2 d2 c2, .slice a3 d3 c3] := (hg6.block _ HMY.out.lt (by simpa using hBd.blkNe _ _ _ _ HMY.out)).trans HMY.out
  have hR6 : Bk w6 (w.heap.size + 1) 48 [.int .i64 p0, .int .i64 n6, .int .i64 n7, .int .i64 p3, .int .i64 p4, .int .i64 p5, .int .i64 p6, .int .i64 p7, .string p8, .string p9, .int .i64 p10, .int .i64 p11, .int .i64 p12, .int .i64 ps, .slice pa P pk] := (hg6.block _ HRY.out.lt (by simpa using hBd.blkNe _ _ _ _ HRY.out)).trans HRY.out
  have hAn := banswer_any hB6 6 (HMd.out.out hg6 hBd.blkNe) ⟨p0, (n6, n7), (p3, p4), ⟨p5, p6, p7, p8, p9, p10, p11, p12⟩, (ps, pl)⟩ (.slice pa P pk) (HRd.out.outA hg6 hBd.blkNe) HLX.out
  have HAn : Hid (Calls Tryz.prog 44 #[bP g, .int .i64 6, .agg #[.int .i64 n0, .int .i64 n1, .int .i64 n2, .int .i64 n3, .int .i64 n4, .int .i64 n5, .int .i64 n6, .int .i64 n7, .int .i64 n8, .int .i64 n9, .int .i64 n10, .int .i64 n11, .int .i64 n12, .int .i64 n13, .int .i64 n14, .int .i64 n15, .string n16, .string n17, .int .i64 n18, .int .i64 n19, .int .i64 n20, .int .i64 n21, .slice ua M uc, .int .i64 n23, .slice a1 d1 c1, .slice a2 d2 c2, .slice a3 d3 c3], .agg #[.int .i64 p0, .int .i64 n6, .int .i64 n7, .int .i64 p3, .int .i64 p4, .int .i64 p5, .int .i64 p6, .int .i64 p7, .string p8, .string p9, .int .i64 p10, .int .i64 p11, .int .i64 p12, .int .i64 ps, .slice pa P pk]] w6 (AnP (ansB b 6 ⟨n0, n1, n2, (n3, n4, n5), (n6, n7), ⟨n8, (n9, n10), (n11, n12), ⟨n13, n14, n15, n16, n17, n18, n19, n20⟩, (n21, dl)⟩, sn0⟩ (n6, n7) ⟨p0, (n6, n7), (p3, p4), ⟨p5, p6, p7, p8, p9, p10, p11, p12⟩, (ps, pl)⟩) w6)) := Lib.hid hAn
  have HB6 := Lib.hid hB6
  have HM6 := Lib.hid hM6
  have HR6 := Lib.hid hR6
  have HG6 := Lib.hid (grown_out (w := w) HBY.out (w' := w6) ⟨hg6.os, hg6.tape, hg6.output, hg6.size, hg6.block⟩)
  clear hown hg6 hBd hB6 hM6 hR6 hAn m3 m4 m5 y0 y1' y2' y3 y4 y5 y6 y7 y8 y9 y10 y11 y12 y13 y14 c3Y HM HIs HAV HVAL HMd HRd
  go_wp2_with (first
    | refine wpList_load_rowG rfl _ _ rfl w.heap.size rfl 54 _ (0, 0) _ HM6.out Tryz.underlying54 rfl (by kernel_rfl) ?_
    | refine wpList_load_rowG rfl _ _ rfl (w.heap.size + 1) rfl 48 _ (0, 0) _ HR6.out Tryz.underlying48 rfl infoIn ?_
    | fail)
  refine HAn.out.mono ?_
  rintro e w7 ⟨g', u', he, hq1, hq2, hq3, hb6⟩
  rw [he.out]
  have HFin : Hid (HrP (preB b ⟨n0, n1, n2, (n3, n4, n5), (n6, n7), ⟨n8, (n9, n10), (n11, n12), ⟨n13, n14, n15, n16, n17, n18, n19, n20⟩, (n21, dl)⟩, sn0⟩ ⟨p0, (p1, p2), (p3, p4), ⟨p5, p6, p7, p8, p9, p10, p11, p12⟩, (ps, pl)⟩) B g mb K w (.returned (.slice (some ⟨g', 0, none⟩) 1 1)) w7) := Lib.hid (hrP_ans (N := 0) ⟨g', u', Lib.hid rfl, hq1, hq2, hq3, hb6⟩ HB6.out HG6.out)
  clear he hq1 hq2 hq3 hb6
  go_wp2
  go_ret
  exact HFin.out
end Go.Proofs.YtchhcaoondfpiaaGreat
