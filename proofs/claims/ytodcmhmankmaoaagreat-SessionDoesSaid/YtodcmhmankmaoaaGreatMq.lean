/-
  Texts put together: Sk, SesM, Ses1, Ses2, Ses3, Ses4, Ses5, Ses6.
-/
import Derived.Test.YtodcmhmankmaoaaGreatJ6
import Derived.Test.YtodcmhmankmaoaaGreatT1
import Derived.Lib.LazyBuf
import Derived.Maps.OwnSet
import Derived.Maps.RangeWalk
import Derived.Lib.SlKeysI
import Derived.StillTailTactics
import Derived.Deep.RegionHeld3
import Derived.Test.YtodcmhmankmaoaaGreatSht
namespace Go.Proofs.YtodcmhmankmaoaaGreat
open Go.RowKit
set_option linter.unusedSimpArgs false
set_option linter.unusedVariables false

/-- Texts as elements of rows. -/
noncomputable def SK : Knd Tryz.prog ByteArray where
 T := 9
 S := 34
 k := 1
 enc := fun x => [.string x]
 z := .string ByteArray.empty
 B := 16
 len := fun _ => rfl
 one := fun x v h => by simp at h; subst h; rfl
 und := Tryz.underlying34
 info := infoStr
 zc := rfl
 pos := by omega
 small := by omega
 d := ByteArray.empty
theorem sk_row (l : List ByteArray) : SK.row l = l.map .string := by
 unfold Knd.row
 rw [show SK.enc = fun x => [Value.string x] from rfl]
 induction l with
 | nil => rfl
 | cons x l ih => simp only [List.flatMap_cons, List.map_cons, ih]; rfl
theorem Own1.sk {w : World} {base : Nat} {v : Value} {l : List ByteArray} (h : Own1 w base 9 v (l.map .string)) : SK.Own w base v l := by
 unfold Knd.Own
 rw [sk_row]
 unfold Own1 at h
 rw [List.length_map] at h
 exact h
theorem Knd.Own.own1 {w : World} {base : Nat} {v : Value} {l : List ByteArray} (h : SK.Own w base v l) : Own1 w base 9 v (l.map .string) := by
 unfold Knd.Own at h
 rw [sk_row] at h
 unfold Own1
 rw [List.length_map]
 exact h
end Go.Proofs.YtodcmhmankmaoaaGreat
namespace Go.Proofs.YtodcmhmankmaoaaGreat
open Tc (ctl)
set_option linter.unusedSimpArgs false
set_option linter.unusedVariables false

/-- Whatever a session errs. -/
def NE6 (_ : Int) : Prop := True
/-- A client, its number, its reply. -/
abbrev S3 := Int × Int × Rep
def RisesS (s : List S3) : Prop := s.Pairwise fun a b => a.1 < b.1
def fndS (s : List S3) (c : Int) : Option (Int × Rep) := (s.find? fun e => decide (e.1 = c)).map (·.2)
def lowS (s : List S3) (c : Int) : List S3 := s.filter fun e => decide (e.1 < c)
def upS (s : List S3) (c : Int) : List S3 := s.filter fun e => decide (c < e.1)
def putS (s : List S3) (c q : Int) (r : Rep) : List S3 := lowS s c ++ (c, q, r) :: upS s c
theorem RisesS.one {l : List S3} (h : RisesS l) {a b : S3} (ha : a ∈ l) (hb : b ∈ l) (e : a.1 = b.1) : a = b := by
 induction l with
 | nil => cases ha
 | cons x l ih =>
  have hx := List.pairwise_cons.1 h
  rcases List.mem_cons.1 ha with rfl | ha'
  ·rcases List.mem_cons.1 hb with rfl | hb'
   ·rfl
   ·have := hx.1 b hb'; omega
  ·rcases List.mem_cons.1 hb with rfl | hb'
   ·have := hx.1 a ha'; omega
   ·exact ih hx.2 ha' hb'
theorem fndS_some {l : List S3} (h : RisesS l) {c q : Int} {r : Rep} : fndS l c = some (q, r) ↔ (c, q, r) ∈ l := by
 unfold fndS
 constructor
 ·intro g
  rw [Option.map_eq_some_iff] at g
  obtain ⟨e, he, hv⟩ := g
  have h1 := List.mem_of_find?_eq_some he
  have h2 := List.find?_some he
  obtain ⟨ep, ev⟩ := e
  simp only [decide_eq_true_eq] at h2 hv
  subst h2 hv
  exact h1
 ·intro g
  cases hf : l.find? (fun e => decide (e.1 = c)) with
  | none =>
   have := List.find?_eq_none.1 hf _ g
   simp at this
  | some e =>
   have h1 := List.mem_of_find?_eq_some hf
   have h2 := List.find?_some hf
   have := h.one h1 g (by simpa using h2)
   subst this
   rfl
theorem mem_putS {l : List S3} {c q : Int} {r : Rep} {e : S3} : e ∈ putS l c q r ↔ e = (c, q, r) ∨ (e ∈ l ∧ e.1 ≠ c) := by
 unfold putS lowS upS
 rw [List.mem_append, List.mem_cons, List.mem_filter, List.mem_filter]
 simp only [decide_eq_true_eq]
 constructor
 ·rintro (⟨h, g⟩ | rfl | ⟨h, g⟩)
  ·exact .inr ⟨h, by omega⟩
  ·exact .inl rfl
  ·exact .inr ⟨h, by omega⟩
 ·rintro (rfl | ⟨h, g⟩)
  ·exact .inr (.inl rfl)
  ·by_cases hl : e.1 < c
   ·exact .inl ⟨h, hl⟩
   ·exact .inr (.inr ⟨h, by omega⟩)
theorem RisesS.put {l : List S3} (h : RisesS l) (c q : Int) (r : Rep) : RisesS (putS l c q r) := by
 unfold RisesS putS lowS upS
 rw [List.pairwise_append, List.pairwise_cons]
 refine ⟨List.Pairwise.sublist List.filter_sublist h, ⟨?_, List.Pairwise.sublist List.filter_sublist h⟩, ?_⟩
 ·intro a ha
  simpa using (List.mem_filter.1 ha).2
 ·intro a ha b hb
  have h1 : a.1 < c := by simpa using (List.mem_filter.1 ha).2
  rcases List.mem_cons.1 hb with rfl | hb
  ·exact h1
  ·have h2 : c < b.1 := by simpa using (List.mem_filter.1 hb).2
   omega
theorem optS_ext {a b : Option (Int × Rep)} (h : ∀ v n, a = some (v, n) ↔ b = some (v, n)) : a = b := by
 cases a with
 | none =>
  cases b with
  | none => rfl
  | some y => exact absurd ((h y.1 y.2).2 rfl) (by simp)
 | some x => exact ((h x.1 x.2).1 rfl).symm
theorem fndS_put {l : List S3} (h : RisesS l) (c q : Int) (r : Rep) (d : Int) : fndS (putS l c q r) d = if d = c then some (q, r) else fndS l d := by
 refine optS_ext fun u m => ?_
 rw [fndS_some (h.put c q r), mem_putS]
 by_cases e : d = c
 ·subst e
  rw [if_pos rfl]
  simp [eq_comm]
 ·rw [if_neg e, fndS_some h]
  simp [e]
theorem RisesS.ext : ∀ {l k : List S3}, RisesS l → RisesS k → (∀ e, e ∈ l ↔ e ∈ k) → l = k
 | [], k, _, _, h => by
  cases k with
  | nil => rfl
  | cons x k => exact absurd ((h x).2 (.head _)) (by simp)
 | x :: l, [], _, _, h => absurd ((h x).1 (.head _)) (by simp)
 | x :: l, y :: k, hl, hk, h => by
  have hx := List.pairwise_cons.1 hl
  have hy := List.pairwise_cons.1 hk
  have e : x = y := by
   rcases List.mem_cons.1 ((h x).1 (.head _)) with g | g
   ·exact g
   ·rcases List.mem_cons.1 ((h y).2 (.head _)) with r | r
    ·exact r.symm
    ·have h1 := hy.1 x g
     have h2 := hx.1 y r
     omega
  subst e
  congr 1
  refine RisesS.ext hx.2 hy.2 fun z => ?_
  constructor
  ·intro g
   rcases List.mem_cons.1 ((h z).1 (.tail _ g)) with r | r
   ·subst r; have := hx.1 z g; omega
   ·exact r
  ·intro g
   rcases List.mem_cons.1 ((h z).2 (.tail _ g)) with r | r
   ·subst r; have := hy.1 z g; omega
   ·exact r
theorem len_putS_eq {l : List S3} (h : RisesS l) (c q : Int) (r : Rep) : (putS l c q r).length = if (fndS l c).isSome then l.length else l.length + 1 := by
 have key : ∀ l : List S3, RisesS l → (lowS l c).length + (upS l c).length + (if (fndS l c).isSome then 1 else 0) = l.length := by
  intro l
  induction l with
  | nil => intro _; rfl
  | cons x l ih =>
   intro h
   have hx := List.pairwise_cons.1 h
   have := ih hx.2
   by_cases e : x.1 = c
   ·have h1 : (fndS (x :: l) c).isSome = true := by simp [fndS, List.find?_cons, e]
    have h2 : (fndS l c).isSome = false := by
     cases hf : fndS l c with
     | none => rfl
     | some y =>
      have hm := (fndS_some (q := y.1) (r := y.2) hx.2).1 hf
      have := hx.1 _ hm
      simp only at this
      omega
    rw [h2] at this
    rw [h1]
    unfold lowS upS at this ⊢
    rw [List.filter_cons, List.filter_cons]
    simp [e] at this ⊢
    exact this
   ·have h1 : (fndS (x :: l) c).isSome = (fndS l c).isSome := by simp [fndS, List.find?_cons, e]
    rw [h1, List.length_cons]
    unfold lowS upS at this ⊢
    rw [List.filter_cons, List.filter_cons]
    by_cases hlt : x.1 < c
    ·have hn : ¬ c < x.1 := by omega
     simp only [hlt, hn, decide_true, decide_false, if_true, Bool.false_eq_true, if_false, List.length_cons]
     omega
    ·have hgt : c < x.1 := by omega
     simp only [hlt, hgt, decide_true, decide_false, if_true, Bool.false_eq_true, if_false, List.length_cons]
     omega
 have h1 := key l h
 unfold putS
 rw [List.length_append, List.length_cons]
 split at h1 <;> rename_i g <;> simp [g] <;> omega
/-- May a client and its number be? -/
def valS (cl sq : Int) : Bool := decide (0 ≤ cl) && decide (cl ≤ 1099511627776) && decide (1 ≤ sq) && decide (sq ≤ 1099511627776)
structure Mac where
 l : List E3
 s : List S3
/-- What a command is told without that it is done. -/
def actM (s : List S3) (t : Cm) : Option Rep :=
 if t.op = 0 then some (bad 0) else if valS t.cl t.sq = false then some (bad 1) else
 match fndS s t.cl with
 | some (q, r) => if t.sq < q then some (bad 6) else if q = t.sq then some r else none
 | none => none
def doM (m : Mac) (t : Cm) (c : Rep) : Rep × Mac :=
 if ctl t.op then (c, ⟨m.l, putS m.s t.cl t.sq c⟩) else ((appD m.l t.op t.pa t.va t.ver).1, ⟨(appD m.l t.op t.pa t.va t.ver).2, putS m.s t.cl t.sq (appD m.l t.op t.pa t.va t.ver).1⟩)
def appM (m : Mac) (t : Cm) (c : Rep) : Rep × Mac :=
 match actM m.s t with
 | some r => (r, m)
 | none => doM m t c
structure RightM (m : Mac) : Prop where
 dir : RightD m.l
 rise : RisesS m.s
 val : ∀ e ∈ m.s, valS e.1 e.2.1 = true
 err : ∀ e ∈ m.s, NE6 e.2.2.err
theorem app_err6 (l : List E3) (op : Int) (p v : ByteArray) (ver : Int) : NE6 (appD l op p v ver).1.err := trivial
theorem act_val {s : List S3} {t : Cm} (h : actM s t = none) : t.op ≠ 0 ∧ valS t.cl t.sq = true := by
 unfold actM at h
 split at h
 ·cases h
 ·rename_i h0
  split at h
  ·cases h
  ·rename_i h1
   exact ⟨h0, by simpa using h1⟩
theorem RightM.put {m : Mac} (h : RightM m) {l : List E3} (hl : RightD l) {c q : Int} (hv : valS c q = true) {r : Rep} (hr : NE6 r.err) : RightM ⟨l, putS m.s c q r⟩ := by
 refine ⟨hl, h.rise.put _ _ _, fun e he => ?_, fun e he => ?_⟩
 ·rcases mem_putS.1 he with rfl | ⟨h1, _⟩
  ·exact hv
  ·exact h.val e h1
 ·rcases mem_putS.1 he with rfl | ⟨h1, _⟩
  ·exact hr
  ·exact h.err e h1
theorem RightM.app {m : Mac} (h : RightM m) (t : Cm) {c : Rep} (hc : NE6 c.err) : RightM (appM m t c).2 := by
 unfold appM
 cases ha : actM m.s t with
 | some r => exact h
 | none =>
  have hv := (act_val ha).2
  simp only
  unfold doM
  split
  ·exact h.put h.dir hv hc
  ·exact h.put (h.dir.app _ _ _ _) hv (app_err6 _ _ _ _ _)
theorem RightM.empty : RightM ⟨[], []⟩ := ⟨RightD.empty, List.Pairwise.nil, (fun e he => by cases he), (fun e he => by cases he)⟩
theorem app_rep (m : Mac) (t : Cm) (c : Rep) : (∃ r, actM m.s t = some r ∧ appM m t c = (r, m)) ∨ (actM m.s t = none ∧ appM m t c = doM m t c) := by
 unfold appM
 cases h : actM m.s t with
 | some r => exact .inl ⟨r, rfl, rfl⟩
 | none => exact .inr ⟨rfl, rfl⟩
end Go.Proofs.YtodcmhmankmaoaaGreat
namespace Go.Proofs.YtodcmhmankmaoaaGreat
open Go.RowKit
set_option linter.unusedSimpArgs false
set_option linter.unusedVariables false

theorem Knd.Own.set {P : Program} {α : Type} {K : Knd P α} {w : World} {base : Nat} {v : Value} {l : List α} (h : K.Own w base v l) {b : Nat} (hb : b < base) (o : Nat) (u : Value) : K.Own (w.setCell ⟨b, o, none⟩ u) base v l :=
 h.keepB fun k hk => Below.heap_setCell _ _ _ k (by have := h.from k hk; show k ≠ b; omega)
theorem Knd.Own.out {P : Program} {α : Type} {K : Knd P α} {w w' : World} {base bk : Nat} {v : Value} {l : List α} (h : K.Own w base v l) (hg : w.grownBy w' (some bk)) (hne : ∀ g cs T fr, w.heap[g]? = some (.cells cs T fr) → g ≠ bk) : K.Own w' base v l :=
 h.keepB fun k hk => by
  obtain ⟨hlt, cs, fr, hc⟩ := h.blk k hk
  exact hg.block k hlt (by have := hne k cs _ fr hc; simpa using this)
/-- The copy of a list of texts. -/
def SclP (ns : List ByteArray) (w : World) (e : Ending) (w' : World) : Prop := ∃ v', Hid (e = .returned v') ∧ SK.Own w' w.heap.size v' ns ∧ Below w.heap.size w w'
set_option maxHeartbeats 400000 in
theorem sclone_any (v : Value) (ns : List ByteArray) (w : World) (h : SK.Rd w v ns) (hl : ns.length ≤ 100000) : Calls Tryz.prog 72 #[v] w (SclP ns w) := by
 have H := Lib.hid h
 have knil := fun (w : World) (a : Option Addr) (l c : Nat) => run_eql_slice_nil (P := Tryz.prog) w 34 9 a l c Tryz.underlying34
 obtain ⟨a, c, rfl, h1, h2, h3⟩ := h
 cases a with
 | none =>
  have hxs : ns = [] := by
   rcases h3 with h0 | ⟨g, off, ha, _⟩
   ·exact h0
   ·cases ha
  subst hxs
  obtain rfl := h2 rfl
  clear H h1 h2 h3
  go_enter Tryz.func72, Tryz.ntmps72
  go_wp2
  go_ret
  exact ⟨_, rfl, Knd.Own.nil _ _, Below.refl _ _⟩
 | some ad =>
  clear h1 h2 h3
  obtain ⟨N, hN⟩ : ∃ N, ns.length = N := ⟨_, rfl⟩
  rw [hN] at H hl ⊢
  have HN := Lib.hid hN
  clear hN
  go_enter Tryz.func72, Tryz.ntmps72
  have HO : Hid (SK.Own (w.alloc (.cells #[] 9)) w.heap.size (.slice (some ⟨w.heap.size, 0, none⟩) 0 0) []) := World.ownsRow_lit w #[] 0 (Nat.le_refl _) (by simp) rfl
  have HH := Lib.hid (H.out.below ((Below.refl w.heap.size w).alloc (Nat.le_refl _) (.cells #[] 9)))
  have hz : w.heap.size ≤ (w.alloc (.cells #[] 9)).heap.size := by simp
  go_wp2_with (refine SK.app rfl _ _ rfl w.heap.size _ [] rfl HO.out _ ns rfl HH.out (by simp only [List.length_nil]; rw [HN.out]; omega) hz ?_)
  intro v' w' ho hb _ _
  have HI := Lib.hid ho
  have HB := Lib.hid (((Below.refl w.heap.size w).alloc (Nat.le_refl _) (.cells #[] 9)).trans hb)
  clear ho hb
  go_wp2
  go_ret
  exact ⟨_, rfl, by simpa using HI.out, HB.out⟩
/-- A reply with a list of its own. -/
def RepO (r : Rep) (w : World) (e : Ending) (w' : World) : Prop := ∃ v, Hid (e = .returned (repV r v)) ∧ SK.Own w' w.heap.size v r.names ∧ Below w.heap.size w w'
set_option maxRecDepth 100000 in
set_option maxHeartbeats 1000000 in
theorem creply_any (r : Rep) (v : Value) (w : World) (h : SK.Rd w v r.names) (hl : r.names.length ≤ 100000) : Calls Tryz.prog 48 #[repV r v] w (RepO r w) := by
 obtain ⟨er, vl, vr, ns⟩ := r
 simp only at h hl
 obtain ⟨a, c, rfl⟩ := h.slice
 obtain ⟨N, hN⟩ : ∃ N, ns.length = N := ⟨_, rfl⟩
 rw [hN] at h ⊢
 have HN := Lib.hid hN
 obtain ⟨X, hX⟩ : ∃ X, (w.alloc (.cells #[.int .i64 er, .string vl, .int .i64 vr, .slice a N c] 36)).alloc (.cells #[.int .i64 0, .string { data := #[] }, .int .i64 0, .slice none 0 0] 36) = X := ⟨_, rfl⟩
 have hB : Below w.heap.size w X := by rw [← hX]; exact ((Below.refl _ _).alloc (Nat.le_refl _) _).alloc (by simp) _
 have hcs : (∀ j, X.cell? ⟨w.heap.size, j, none⟩ = #[Value.int .i64 er, .string vl, .int .i64 vr, .slice a N c][j]?) ∧ (∀ j, X.cell? ⟨w.heap.size + 1, j, none⟩ = #[Value.int .i64 0, .string { data := #[] }, .int .i64 0, .slice none 0 0][j]?) := by rw [← hX]; exact two_cells _ _ _ _ _
 have hfz : (∀ o, X.frozen? ⟨w.heap.size, o, none⟩ = false) ∧ (∀ o, X.frozen? ⟨w.heap.size + 1, o, none⟩ = false) := by rw [← hX]; constructor <;> intro o <;> simp [go_sem]
 have hz : w.heap.size + 2 ≤ X.heap.size := by rw [← hX]; simp
 have HCS := Lib.hid hcs
 have HFZ := Lib.hid hfz
 have HZ := Lib.hid hz
 have HB := Lib.hid hB
 have HS := Lib.hid (sclone_any (.slice a N c) ns X (h.below hB) hl)
 have k3 := hcs.1 3
 simp only [List.getElem?_toArray, List.getElem?_cons_zero, List.getElem?_cons_succ] at k3
 clear hcs hfz h hB hz hN
 go_enter Tryz.func48, Tryz.ntmps48
 go_wp2_with fail
 refine HS.out.mono ?_
 rintro e w1 ⟨v1, he, ho, hb⟩
 have he := he.out
 subst he
 obtain ⟨a1, c1, hv1⟩ := ho.slice
 rw [HN.out] at hv1
 subst hv1
 have l0 : (⟨w.heap.size, 0, none⟩ : Addr).block < X.heap.size := by have := HZ.out; show w.heap.size < _; omega
 have l1 : (⟨w.heap.size + 1, 0, none⟩ : Addr).block < X.heap.size := by have := HZ.out; show w.heap.size + 1 < _; omega
 have p0 := (hb.cell (p := ⟨w.heap.size, 0, none⟩) l0).trans (HCS.out.1 0)
 have p1 := (hb.cell (p := ⟨w.heap.size, 1, none⟩) l0).trans (HCS.out.1 1)
 have p2 := (hb.cell (p := ⟨w.heap.size, 2, none⟩) l0).trans (HCS.out.1 2)
 have p3 := (hb.cell (p := ⟨w.heap.size, 3, none⟩) l0).trans (HCS.out.1 3)
 have q0 := (hb.cell (p := ⟨w.heap.size + 1, 0, none⟩) l1).trans (HCS.out.2 0)
 have q1 := (hb.cell (p := ⟨w.heap.size + 1, 1, none⟩) l1).trans (HCS.out.2 1)
 have q2 := (hb.cell (p := ⟨w.heap.size + 1, 2, none⟩) l1).trans (HCS.out.2 2)
 have q3 := (hb.cell (p := ⟨w.heap.size + 1, 3, none⟩) l1).trans (HCS.out.2 3)
 simp only [List.getElem?_toArray, List.getElem?_cons_zero, List.getElem?_cons_succ] at p0 p1 p2 p3 q0 q1 q2 q3
 have f0 : ∀ o, w1.frozen? ⟨w.heap.size, o, none⟩ = false := fun o => (hb.frozen (p := ⟨w.heap.size, o, none⟩) l0).trans (HFZ.out.1 o)
 have f1 : ∀ o, w1.frozen? ⟨w.heap.size + 1, o, none⟩ = false := fun o => (hb.frozen (p := ⟨w.heap.size + 1, o, none⟩) l1).trans (HFZ.out.2 o)
 have z1 : w.heap.size + 2 ≤ w1.heap.size := by have := hb.size; have := HZ.out; omega
 have HO := Lib.hid (ho.base (b2 := w.heap.size + 2) HZ.out)
 have HB1 := Lib.hid (below_self HB.out hb)
 clear ho hb l0 l1 k3 hX
 go_wp2
 refine bodyPost_ret (v := repV ⟨er, vl, vr, ns⟩ (.slice a1 N c1)) (by simp [results, Tryz.results48, go_sem, p0, p1, p2, p3, q0, q1, q2, q3, f0, f1, show w.heap.size < w1.heap.size by omega, show w.heap.size + 1 < w1.heap.size by omega]) rfl ⟨_, rfl, ?_, ?_⟩
 ·exact Knd.Own.base (((((HO.out.set (by omega) _ _).set (by omega) _ _).set (by omega) _ _).set (by omega) _ _).set (by omega) _ _) (by omega)
 ·exact ((((HB1.out.setCell (by simp) _).setCell (by simp) _).setCell (by simp) _).setCell (by simp) _).setCell (by simp) _
theorem right9_any (c q : Int) (w : World) : Calls Tryz.prog 46 #[.int .i64 c, .int .i64 q] w fun e w' => e = .returned (.bool (valS c q)) ∧ w = w' := by
 obtain ⟨R, hR⟩ : ∃ R, valS c q = R := ⟨_, rfl⟩
 rw [hR]
 have HR := Lib.hid hR
 clear hR
 by_cases h1 : 0 ≤ c
 ·by_cases h2 : c ≤ 1099511627776
  ·by_cases h3 : 1 ≤ q
   ·by_cases h4 : q ≤ 1099511627776
    ·have e : R = true := by rw [← HR.out]; simp [valS, h1, h2, h3, h4]
     subst e
     go_enter Tryz.func46, Tryz.ntmps46
     go_wp2
     go_ret
     exact ⟨rfl, rfl⟩
    ·have e : R = false := by rw [← HR.out]; simp [valS, h4]
     subst e
     go_enter Tryz.func46, Tryz.ntmps46
     go_wp2
     go_ret
     exact ⟨rfl, rfl⟩
   ·have e : R = false := by rw [← HR.out]; simp [valS, h3]
    subst e
    go_enter Tryz.func46, Tryz.ntmps46
    go_wp2
    go_ret
    exact ⟨rfl, rfl⟩
  ·have e : R = false := by rw [← HR.out]; simp [valS, h2]
   subst e
   go_enter Tryz.func46, Tryz.ntmps46
   go_wp2
   go_ret
   exact ⟨rfl, rfl⟩
 ·have e : R = false := by rw [← HR.out]; simp [valS, h1]
  subst e
  go_enter Tryz.func46, Tryz.ntmps46
  go_wp2
  go_ret
  exact ⟨rfl, rfl⟩
theorem valid9_any (cl sq op : Int) (p v : ByteArray) (ver a b : Int) (w : World) : Calls Tryz.prog 22 #[cmdV cl sq op p v ver a b] w fun e w' => e = .returned (.bool (valS cl sq)) ∧ Below w.heap.size w w' := by
 have HR := Lib.hid (right9_any cl sq (w.alloc (.cells #[.int .i64 cl, .int .i64 sq, .int .i64 op, .string p, .string v, .int .i64 ver, .int .i64 a, .int .i64 b] 40)))
 go_enter Tryz.func22, Tryz.ntmps22
 go_wp2_with fail
 refine HR.out.mono ?_
 rintro e w1 ⟨rfl, rfl⟩
 go_wp2
 go_ret
 exact ⟨rfl, (Below.refl _ _).alloc (Nat.le_refl _) _⟩
end Go.Proofs.YtodcmhmankmaoaaGreat
namespace Go.Proofs.YtodcmhmankmaoaaGreat
open Go.RowKit Go.Sort
open Go.WideMaps
set_option linter.unusedSimpArgs false
set_option linter.unusedVariables false

theorem intK : Go.Maps.Keyed Tryz.prog 3 := Go.Maps.int_keyed Tryz.underlying3
def kI (c : Int) : Lit := .int .i64 c
theorem kI_inj {a b : Int} (h : kI a = kI b) : a = b := by simpa [kI] using h
theorem kI_lit (c : Int) : WideAt.IsKeyLit (kI c) := by simp [kI, WideAt.IsKeyLit]
theorem kI_key {c : Int} (h1 : -9223372036854775808 ≤ c) (h2 : c ≤ 9223372036854775807) : keyOf Tryz.prog 3 (.int .i64 c) = some (kI c) :=
 Maps.keyOf_int_mk Tryz.underlying3 (by simp [Lit.wf, IntKind.min, IntKind.max, IntKind.bits, IntKind.signed]; omega)
/-- A session as it lies: the list by its address. -/
structure SV where
 cl : Int
 sq : Int
 er : Int
 vl : ByteArray
 vr : Int
 sl : Option (Nat × Nat)
 n : Nat
def slV : Option (Nat × Nat) → Nat → Value
 | none, _ => .slice none 0 0
 | some (g, c), n => .slice (some ⟨g, 0, none⟩) n c
abbrev svV (x : SV) : Value := .agg #[.int .i64 x.cl, .int .i64 x.sq, .int .i64 x.er, .string x.vl, .int .i64 x.vr, slV x.sl x.n]
def slD : Option (Nat × Nat) → Nat → DataW Unit
 | none, _ => .lit (.bool false)
 | some (g, c), n => .agg [.lit (.int .i64 g), .lit (.int .i64 c), .lit (.int .i64 n)]
def svD (x : SV) : DataW Unit := .agg [.lit (.int .i64 x.cl), .lit (.int .i64 x.sq), .lit (.int .i64 x.er), .lit (.string x.vl.data.toList), .lit (.int .i64 x.vr), slD x.sl x.n]
/-- How a session reads. -/
def sesElem : Value → Option (DataW Unit × List MemPlace)
 | .agg ⟨[.int .i64 c, .int .i64 q, .int .i64 e, .string v, .int .i64 n, .slice none 0 0]⟩ => some (svD ⟨c, q, e, v, n, none, 0⟩, [])
 | .agg ⟨[.int .i64 c, .int .i64 q, .int .i64 e, .string v, .int .i64 n, .slice (some ⟨g, 0, none⟩) m cc]⟩ => some (svD ⟨c, q, e, v, n, some (g, cc), m⟩, [])
 | _ => none
/-- Is it spelt in one way? -/
def SV.ok (x : SV) : Prop := x.sl = none → x.n = 0
theorem sesElem_mk {x : SV} (h : x.ok) : sesElem (svV x) = some (svD x, []) := by
 obtain ⟨c, q, e, v, n, sl, m⟩ := x
 cases sl with
 | none => obtain rfl : m = 0 := h rfl; rfl
 | some y => rfl
theorem sesElem_inv {u : Value} {z : DataW Unit × List MemPlace} (h : sesElem u = some z) : ∃ x : SV, x.ok ∧ u = svV x ∧ z = (svD x, []) := by
 unfold sesElem at h
 split at h
 ·exact ⟨⟨_, _, _, _, _, none, 0⟩, (fun _ => rfl), rfl, (Option.some.inj h).symm⟩
 ·exact ⟨⟨_, _, _, _, _, some (_, _), _⟩, (fun h => by cases h), rfl, (Option.some.inj h).symm⟩
 ·cases h
theorem svD_inj {x y : SV} (hx : x.ok) (hy : y.ok) (h : svD x = svD y) : x = y := by
 obtain ⟨c, q, e, v, n, sl, m⟩ := x
 obtain ⟨c2, q2, e2, v2, n2, sl2, m2⟩ := y
 simp only [svD, DataW.agg.injEq, List.cons.injEq, DataW.lit.injEq, Lit.string.injEq, Lit.int.injEq, true_and, and_true] at h
 obtain ⟨rfl, rfl, rfl, hv, rfl, hs⟩ := h
 obtain rfl := data_inj hv
 cases sl with
 | none =>
  obtain rfl : m = 0 := hx rfl
  cases sl2 with
  | none => obtain rfl : m2 = 0 := hy rfl; rfl
  | some y => obtain ⟨a, b⟩ := y; simp [slD] at hs
 | some z =>
  obtain ⟨a, b⟩ := z
  cases sl2 with
  | none => simp [slD] at hs
  | some y =>
   obtain ⟨a2, b2⟩ := y
   simp only [slD, DataW.agg.injEq, List.cons.injEq, DataW.lit.injEq, Lit.int.injEq, true_and, and_true, Int.natCast_inj] at hs
   obtain ⟨rfl, rfl, rfl⟩ := hs
   rfl
def svZ : SV := ⟨0, 0, 0, { data := #[] }, 0, none, 0⟩
theorem zeroS (w : World) : (zeroValue 51).run Tryz.prog w = .ok (svV svZ) w := by kernel_rfl
/-- The session that a value holds. -/
structure SVof (w : World) (x : SV) (e : S3) : Prop where
 ok : x.ok
 cl : x.cl = e.1
 sq : x.sq = e.2.1
 er : x.er = e.2.2.err
 vl : x.vl = e.2.2.val
 vr : x.vr = e.2.2.ver
 row : SK.Own w 0 (slV x.sl x.n) e.2.2.names
theorem SVof.on {w w' : World} {x : SV} {e : S3} (h : SVof w x e) (hb : Below w.heap.size w w') : SVof w' x e := ⟨h.ok, h.cl, h.sq, h.er, h.vl, h.vr, h.row.below hb⟩
theorem SVof.out {w w' : World} {x : SV} {e : S3} {bk : Nat} (h : SVof w x e) (hg : w.grownBy w' (some bk)) (hne : ∀ g cs T fr, w.heap[g]? = some (.cells cs T fr) → g ≠ bk) : SVof w' x e := ⟨h.ok, h.cl, h.sq, h.er, h.vl, h.vr, h.row.out hg hne⟩
/-- The map of sessions is s. -/
structure SesIs (w : World) (D : DataW Unit) (s : List S3) : Prop where
 has : ∀ c, Maps.has D (kI c) = (fndS s c).isSome
 val : ∀ c q r, fndS s c = some (q, r) → ∃ x, D.atKey (kI c) (svD svZ) = svD x ∧ SVof w x (c, q, r)
 size : Maps.size D ≤ s.length
 tidy : Maps.Tidy D
theorem SesIs.empty (w : World) : SesIs w (.map []) [] := ⟨fun x => rfl, (fun c q r h => by cases h), Nat.le_refl _, Maps.tidy_empty⟩
theorem SesIs.on {w w' : World} {D : DataW Unit} {s : List S3} (h : SesIs w D s) (hb : Below w.heap.size w w') : SesIs w' D s :=
 ⟨h.has, fun c q r hf => by obtain ⟨x, h1, h2⟩ := h.val c q r hf; exact ⟨x, h1, h2.on hb⟩, h.size, h.tidy⟩
theorem SesIs.out {w w' : World} {D : DataW Unit} {s : List S3} {bk : Nat} (h : SesIs w D s) (hg : w.grownBy w' (some bk)) (hne : ∀ g cs T fr, w.heap[g]? = some (.cells cs T fr) → g ≠ bk) : SesIs w' D s :=
 ⟨h.has, fun c q r hf => by obtain ⟨x, h1, h2⟩ := h.val c q r hf; exact ⟨x, h1, h2.out hg hne⟩, h.size, h.tidy⟩
theorem SesIs.put {w : World} {D : DataW Unit} {s : List S3} (h : SesIs w D s) (hr : RisesS s) {c q : Int} {r : Rep} {x : SV} (hx : SVof w x (c, q, r)) : SesIs w (D.put (kI c) (svD x)) (putS s c q r) := by
 refine ⟨fun d => ?_, fun d q2 r2 hf => ?_, ?_, h.tidy.put (kI_lit c) _⟩
 ·rw [fndS_put hr]
  by_cases e : d = c
  ·subst e
   rw [if_pos rfl, Maps.has_put_same h.tidy.isMap (kI_lit d)]
   rfl
  ·rw [if_neg e, Maps.has_put_other (fun k => e (kI_inj k)), h.has d]
 ·rw [fndS_put hr] at hf
  by_cases e : d = c
  ·subst e
   rw [if_pos rfl] at hf
   simp only [Option.some.injEq, Prod.mk.injEq] at hf
   obtain ⟨rfl, rfl⟩ := hf
   exact ⟨x, Maps.atKey_put_same h.tidy.isMap (kI_lit d) _ _, hx⟩
  ·rw [if_neg e] at hf
   obtain ⟨y, h1, h2⟩ := h.val d q2 r2 hf
   exact ⟨y, by rw [Maps.atKey_put_other (fun k => e (kI_inj k))]; exact h1, h2⟩
 ·rw [Maps.size_put h.tidy, h.has, len_putS_eq hr]
  have := h.size
  split <;> omega
/-- A machine at block g: its directory d, bk; its sessions' map at block sb. -/
structure MacAt (X : World) (g d bk sb K : Nat) (m : Mac) (w : World) : Prop where
 c0 : w.cell? ⟨g, 0, none⟩ = some (dP d)
 c1 : w.cell? ⟨g, 1, none⟩ = some (.map (some sb))
 lw : LW X d bk K m.l w
 map : ∃ (D : DataW Unit) (n : Nat), n ≤ K ∧ w.ownsMap (H := Unit) Tryz.prog 3 sesElem sb n D ∧ SesIs w D m.s
 lo : X.heap.size ≤ g ∧ X.heap.size ≤ sb
 ne : sb ≠ bk
 right : RightM m
theorem MacAt.cellNe {X w : World} {g d bk sb K b o : Nat} {m : Mac} {x : Value} (h : MacAt X g d bk sb K m w) (hc : w.cell? ⟨b, o, none⟩ = some x) : b ≠ sb := by
 rintro rfl
 obtain ⟨D, n, _, ⟨es, ck, hb, _⟩, _⟩ := h.map
 simp [World.cell?, hb] at hc
theorem MacAt.blkNe {X w : World} {g d bk sb K : Nat} {m : Mac} (h : MacAt X g d bk sb K m w) : ∀ b cs T fr, w.heap[b]? = some (.cells cs T fr) → b ≠ sb := by
 rintro b cs T fr hc rfl
 obtain ⟨D, n, _, ⟨es, ck, hb, _⟩, _⟩ := h.map
 rw [hb] at hc
 cases hc
theorem LW.blkNe {X w : World} {d bk K : Nat} {l : List E3} (h : LW X d bk K l w) : ∀ b cs T fr, w.heap[b]? = some (.cells cs T fr) → b ≠ bk := fun _ _ _ _ hc => h.dir.blkNe hc
theorem MacAt.on {X w w' : World} {g d bk sb K : Nat} {m : Mac} (h : MacAt X g d bk sb K m w) (hb : Below w.heap.size w w') : MacAt X g d bk sb K m w' := by
 have hl := World.block_lt_of_cell? w _ h.c0
 obtain ⟨D, n, hn, hM, hI⟩ := h.map
 exact ⟨(hb.cell (p := ⟨g, 0, none⟩) hl).trans h.c0, (hb.cell (p := ⟨g, 1, none⟩) hl).trans h.c1, h.lw.on hb, ⟨D, n, hn, hM.kept (row := none) ⟨hb.os, hb.tape, hb.output, hb.size, fun k hk _ => hb.block k hk⟩ (by simp), hI.on hb⟩, h.lo, h.ne, h.right⟩
/-- Another machine, while a map turns that is none of its own. -/
theorem MacAt.out {X w w' : World} {g d bk sb K b : Nat} {m : Mac} (h : MacAt X g d bk sb K m w) (hg : w.grownBy w' (some b)) (hX : X.heap.size ≤ b) (hc : ∀ p o x, w.cell? ⟨p, o, none⟩ = some x → p ≠ b) (hk : ∀ p cs T fr, w.heap[p]? = some (.cells cs T fr) → p ≠ b) (h1 : bk ≠ b) (h2 : sb ≠ b) : MacAt X g d bk sb K m w' := by
 obtain ⟨D, n, hn, hM, hI⟩ := h.map
 have hdb : d ≠ b := hc _ _ _ h.lw.dir.cell
 obtain ⟨mm, hm⟩ := h.lw.ml
 refine ⟨hg.cell h.c0 (by simpa using hc _ _ _ h.c0), hg.cell h.c1 (by simpa using hc _ _ _ h.c1), ⟨h.lw.dir.out hg hdb h1, ⟨mm, hg.cell hm (by simpa using hc _ _ _ hm)⟩, h.lw.below.grown hg h.lw.below.size (fun j hj => by cases hj; exact hX), h.lw.lo, h.lw.right, h.lw.ver⟩, ⟨D, n, hn, hM.kept hg (by simpa using h2), hI.out hg hk⟩, h.lo, h.ne, h.right⟩
theorem MacAt.mono {X w : World} {g d bk sb K K2 : Nat} {m : Mac} (h : MacAt X g d bk sb K m w) (hK : K ≤ K2) : MacAt X g d bk sb K2 m w := by
 obtain ⟨D, n, hn, hM, hI⟩ := h.map
 exact ⟨h.c0, h.c1, h.lw.mono hK, ⟨D, n, by omega, hM, hI⟩, h.lo, h.ne, h.right⟩
def MNewP (X : World) (e : Ending) (w' : World) : Prop := ∃ g d bk sb, Hid (e = .returned (dP g)) ∧ MacAt X g d bk sb 0 ⟨[], []⟩ w'
theorem mnew_any {X w : World} (hb : Below X.heap.size X w) (hm : ML w) : Calls Tryz.prog 44 #[] w fun e w' => MNewP X e w' := by
 have hmm := @run_makeMap Tryz.prog
 have HN := Lib.hid (lw_new hb hm)
 clear hb hm
 go_enter Tryz.func44, Tryz.ntmps44
 go_wp2_with (go_at_call 27; refine HN.out.mono ?_; rintro e w1 ⟨d, bk, he, hL⟩; have he := he.out; subst he; have HL := Lib.hid hL; clear hL)
 go_ret
 have hL := HL.out
 have hlt := hL.dir.lt
 have hz := hL.below.size
 refine ⟨w1.heap.size + 1, d, bk, w1.heap.size, rfl, ?_, ?_, (hL.on ((Below.refl _ _).alloc (Nat.le_refl _) _)).on ((Below.refl _ _).alloc (Nat.le_refl _) _), ⟨.map [], 0, Nat.le_refl _, (World.ownsMap_made (H := Unit) w1 Tryz.prog 3 sesElem).alloc _, SesIs.empty _⟩, ⟨by omega, hz⟩, by omega, RightM.empty⟩
 ·simp [go_sem]
 ·simp [go_sem]
end Go.Proofs.YtodcmhmankmaoaaGreat
namespace Go.Proofs.YtodcmhmankmaoaaGreat
open Go.RowKit
set_option linter.unusedSimpArgs false
set_option linter.unusedVariables false

theorem own_sl {w : World} {base : Nat} {v : Value} {ns : List ByteArray} (h : SK.Own w base v ns) : ∃ sl n, v = slV sl n ∧ (sl = none → n = 0) := by
 rcases h.2 with ⟨rfl, _⟩ | ⟨g, cap, cur, rfl, _⟩
 ·exact ⟨none, 0, rfl, fun _ => rfl⟩
 ·exact ⟨some (g, cap), ns.length, rfl, fun h => by cases h⟩
def SesO (c q : Int) (r : Rep) (w : World) (e : Ending) (w' : World) : Prop := ∃ sl n, Hid (e = .returned (svV ⟨c, q, r.err, r.val, r.ver, sl, n⟩)) ∧ (sl = none → n = 0) ∧ SK.Own w' w.heap.size (slV sl n) r.names ∧ Below w.heap.size w w'
set_option maxRecDepth 100000 in
set_option maxHeartbeats 2000000 in
theorem csession_any (c q : Int) (r : Rep) (v : Value) (w : World) (h : SK.Rd w v r.names) (hl : r.names.length ≤ 100000) : Calls Tryz.prog 47 #[.agg #[.int .i64 c, .int .i64 q, .int .i64 r.err, .string r.val, .int .i64 r.ver, v]] w (SesO c q r w) := by
 obtain ⟨er, vl, vr, ns⟩ := r
 simp only at h hl ⊢
 obtain ⟨a, cc, rfl⟩ := h.slice
 obtain ⟨N, hN⟩ : ∃ N, ns.length = N := ⟨_, rfl⟩
 rw [hN] at h ⊢
 have HN := Lib.hid hN
 obtain ⟨X, hX⟩ : ∃ X, (w.alloc (.cells #[Value.int .i64 c, .int .i64 q, .int .i64 er, .string vl, .int .i64 vr, .slice a N cc] 51)).alloc (.cells #[Value.int .i64 0, .int .i64 0, .int .i64 0, .string { data := #[] }, .int .i64 0, .slice none 0 0] 51) = X := ⟨_, rfl⟩
 have hB : Below w.heap.size w X := by rw [← hX]; exact ((Below.refl _ _).alloc (Nat.le_refl _) _).alloc (by simp) _
 have hcs : (∀ j, X.cell? ⟨w.heap.size, j, none⟩ = #[Value.int .i64 c, .int .i64 q, .int .i64 er, .string vl, .int .i64 vr, .slice a N cc][j]?) ∧ (∀ j, X.cell? ⟨w.heap.size + 1, j, none⟩ = #[Value.int .i64 0, .int .i64 0, .int .i64 0, .string { data := #[] }, .int .i64 0, .slice none 0 0][j]?) := by rw [← hX]; exact two_cells _ _ _ _ _
 have hfz : (∀ o, X.frozen? ⟨w.heap.size, o, none⟩ = false) ∧ (∀ o, X.frozen? ⟨w.heap.size + 1, o, none⟩ = false) := by rw [← hX]; constructor <;> intro o <;> simp [go_sem]
 have hz : w.heap.size + 2 ≤ X.heap.size := by rw [← hX]; simp
 have HCS := Lib.hid hcs
 have HFZ := Lib.hid hfz
 have HZ := Lib.hid hz
 have HB := Lib.hid hB
 have HS := Lib.hid (creply_any ⟨er, vl, vr, ns⟩ (.slice a N cc) X (h.below hB) hl)
 have k2 := hcs.1 2
 have k3 := hcs.1 3
 have k4 := hcs.1 4
 have k5 := hcs.1 5
 simp only [List.getElem?_toArray, List.getElem?_cons_zero, List.getElem?_cons_succ] at k2 k3 k4 k5
 clear hcs hfz h hB hz hN
 go_enter Tryz.func47, Tryz.ntmps47
 go_wp2_with fail
 refine HS.out.mono ?_
 rintro e w1 ⟨v1, he, ho, hb⟩
 have he := he.out
 subst he
 simp only at ho
 obtain ⟨sl, n, rfl, hsl⟩ := own_sl ho
 obtain ⟨a1, c1, hv1⟩ := ho.slice
 rw [HN.out] at hv1
 have HV1 := Lib.hid hv1
 rw [hv1]
 have l0 : (⟨w.heap.size, 0, none⟩ : Addr).block < X.heap.size := by have := HZ.out; show w.heap.size < _; omega
 have l1 : (⟨w.heap.size + 1, 0, none⟩ : Addr).block < X.heap.size := by have := HZ.out; show w.heap.size + 1 < _; omega
 have p0 := (hb.cell (p := ⟨w.heap.size, 0, none⟩) l0).trans (HCS.out.1 0)
 have p1 := (hb.cell (p := ⟨w.heap.size, 1, none⟩) l0).trans (HCS.out.1 1)
 have p2 := (hb.cell (p := ⟨w.heap.size, 2, none⟩) l0).trans (HCS.out.1 2)
 have p3 := (hb.cell (p := ⟨w.heap.size, 3, none⟩) l0).trans (HCS.out.1 3)
 have p4 := (hb.cell (p := ⟨w.heap.size, 4, none⟩) l0).trans (HCS.out.1 4)
 have p5 := (hb.cell (p := ⟨w.heap.size, 5, none⟩) l0).trans (HCS.out.1 5)
 have q0 := (hb.cell (p := ⟨w.heap.size + 1, 0, none⟩) l1).trans (HCS.out.2 0)
 have q1 := (hb.cell (p := ⟨w.heap.size + 1, 1, none⟩) l1).trans (HCS.out.2 1)
 have q2 := (hb.cell (p := ⟨w.heap.size + 1, 2, none⟩) l1).trans (HCS.out.2 2)
 have q3 := (hb.cell (p := ⟨w.heap.size + 1, 3, none⟩) l1).trans (HCS.out.2 3)
 have q4 := (hb.cell (p := ⟨w.heap.size + 1, 4, none⟩) l1).trans (HCS.out.2 4)
 have q5 := (hb.cell (p := ⟨w.heap.size + 1, 5, none⟩) l1).trans (HCS.out.2 5)
 simp only [List.getElem?_toArray, List.getElem?_cons_zero, List.getElem?_cons_succ] at p0 p1 p2 p3 p4 p5 q0 q1 q2 q3 q4 q5
 have f0 : ∀ o, w1.frozen? ⟨w.heap.size, o, none⟩ = false := fun o => (hb.frozen (p := ⟨w.heap.size, o, none⟩) l0).trans (HFZ.out.1 o)
 have f1 : ∀ o, w1.frozen? ⟨w.heap.size + 1, o, none⟩ = false := fun o => (hb.frozen (p := ⟨w.heap.size + 1, o, none⟩) l1).trans (HFZ.out.2 o)
 have z1 : w.heap.size + 2 ≤ w1.heap.size := by have := hb.size; have := HZ.out; omega
 have HO := Lib.hid (ho.base (b2 := w.heap.size + 2) HZ.out)
 have HB1 := Lib.hid (below_self HB.out hb)
 have HSL := Lib.hid hsl
 clear ho hb l0 l1 k2 k3 k4 k5 hX hv1 hsl
 go_wp2
 refine bodyPost_ret (v := .agg #[.int .i64 c, .int .i64 q, .int .i64 er, .string vl, .int .i64 vr, .slice a1 N c1]) (by simp [results, Tryz.results47, go_sem, p0, p1, p2, p3, p4, p5, q0, q1, q2, q3, q4, q5, f0, f1, show w.heap.size < w1.heap.size by omega, show w.heap.size + 1 < w1.heap.size by omega]) rfl ⟨sl, n, by rw [← HV1.out]; rfl, HSL.out, ?_, ?_⟩
 ·exact Knd.Own.base (((((((((((HO.out.set (by omega) _ _).set (by omega) _ _).set (by omega) _ _).set (by omega) _ _).set (by omega) _ _).set (by omega) _ _).set (by omega) _ _).set (by omega) _ _).set (by omega) _ _).set (by omega) _ _)) (by omega)
 ·exact ((((((((((HB1.out.setCell (by simp) _).setCell (by simp) _).setCell (by simp) _).setCell (by simp) _).setCell (by simp) _).setCell (by simp) _).setCell (by simp) _).setCell (by simp) _).setCell (by simp) _).setCell (by simp) _)
end Go.Proofs.YtodcmhmankmaoaaGreat
namespace Go.Proofs.YtodcmhmankmaoaaGreat
open Go.RowKit Go.Sort
open Go.WideMaps
set_option linter.unusedSimpArgs false
set_option linter.unusedVariables false

abbrev cmV (t : Cm) : Value := .agg #[.int .i64 t.cl, .int .i64 t.sq, .int .i64 t.op, .string t.pa, .string t.va, .int .i64 t.ver, .int .i64 t.a, .int .i64 t.b]
/-- One map turned, and then another one. -/
structure Two (w w' : World) (b1 b2 : Nat) : Prop where
 mid : ∃ w1, w.grownBy w1 (some b1) ∧ w1.grownBy w' (some b2) ∧ (∀ p o x, w1.cell? ⟨p, o, none⟩ = some x → p ≠ b2) ∧ (∀ p cs T fr, w1.heap[p]? = some (.cells cs T fr) → p ≠ b2)
/-- The boxes of a command, of a reply, and of the result. -/
structure BX3 (N : Nat) (t : Cm) (r : Rep) (v : Value) (w : World) : Prop where
 c : CB N t w
 k0 : w.cell? ⟨N + 1, 0, none⟩ = some (.int .i64 r.err)
 k1 : w.cell? ⟨N + 1, 1, none⟩ = some (.string r.val)
 k2 : w.cell? ⟨N + 1, 2, none⟩ = some (.int .i64 r.ver)
 k3 : w.cell? ⟨N + 1, 3, none⟩ = some v
 r0 : w.cell? ⟨N + 2, 0, none⟩ = some (.int .i64 0)
 r1 : w.cell? ⟨N + 2, 1, none⟩ = some (.string { data := #[] })
 r2 : w.cell? ⟨N + 2, 2, none⟩ = some (.int .i64 0)
 r3 : w.cell? ⟨N + 2, 3, none⟩ = some (.slice none 0 0)
 f : ∀ o, w.frozen? ⟨N + 2, o, none⟩ = false
 z : N + 3 ≤ w.heap.size
abbrev box3 (w : World) (t : Cm) (r : Rep) (v : Value) : World := ((w.alloc (.cells #[.int .i64 t.cl, .int .i64 t.sq, .int .i64 t.op, .string t.pa, .string t.va, .int .i64 t.ver, .int .i64 t.a, .int .i64 t.b] 40)).alloc (.cells #[.int .i64 r.err, .string r.val, .int .i64 r.ver, v] 36)).alloc (.cells #[.int .i64 0, .string { data := #[] }, .int .i64 0, .slice none 0 0] 36)
theorem box3_below (w : World) (t : Cm) (r : Rep) (v : Value) : Below w.heap.size w (box3 w t r v) := (((Below.refl _ _).alloc (Nat.le_refl _) _).alloc (by simp) _).alloc (by simp; omega) _
theorem BX3.mk' (w : World) (t : Cm) (r : Rep) (v : Value) : BX3 w.heap.size t r v (box3 w t r v) := by
 have h2 : ∀ j, (box3 w t r v).cell? ⟨w.heap.size + 2, j, none⟩ = #[Value.int .i64 0, .string { data := #[] }, .int .i64 0, .slice none 0 0][j]? := fun j => by
  have h := new_cell ((w.alloc (.cells #[.int .i64 t.cl, .int .i64 t.sq, .int .i64 t.op, .string t.pa, .string t.va, .int .i64 t.ver, .int .i64 t.a, .int .i64 t.b] 40)).alloc (.cells #[.int .i64 r.err, .string r.val, .int .i64 r.ver, v] 36)) #[.int .i64 0, .string { data := #[] }, .int .i64 0, .slice none 0 0] 36 j
  rwa [World.size_alloc, World.size_alloc] at h
 have h1 : ∀ j, (box3 w t r v).cell? ⟨w.heap.size + 1, j, none⟩ = #[Value.int .i64 r.err, .string r.val, .int .i64 r.ver, v][j]? := fun j => by
  rw [old_cell _ _ _ _ (by simp)]
  exact (two_cells _ _ _ _ _).2 j
 refine ⟨?_, h1 0, h1 1, h1 2, h1 3, h2 0, h2 1, h2 2, h2 3, ?_, by simp⟩
 ·exact ((CB.mk' t w _).low ((Below.refl _ _).alloc (Nat.le_refl _) _)).low ((Below.refl _ _).alloc (Nat.le_refl _) _)
 ·intro o; simp [go_sem]
theorem BX3.on {N : Nat} {t : Cm} {r : Rep} {v : Value} {w w' : World} (h : BX3 N t r v w) (hb : Below w.heap.size w w') : BX3 N t r v w' := by
 have hz := h.z
 have e1 : ∀ o, w'.cell? ⟨N + 1, o, none⟩ = w.cell? ⟨N + 1, o, none⟩ := fun o => hb.cell (p := ⟨N + 1, o, none⟩) (by show N + 1 < _; omega)
 have e2 : ∀ o, w'.cell? ⟨N + 2, o, none⟩ = w.cell? ⟨N + 2, o, none⟩ := fun o => hb.cell (p := ⟨N + 2, o, none⟩) (by show N + 2 < _; omega)
 exact ⟨h.c.low hb, (e1 0).trans h.k0, (e1 1).trans h.k1, (e1 2).trans h.k2, (e1 3).trans h.k3, (e2 0).trans h.r0, (e2 1).trans h.r1, (e2 2).trans h.r2, (e2 3).trans h.r3, fun o => (hb.frozen (p := ⟨N + 2, o, none⟩) (by show N + 2 < _; omega)).trans (h.f o), Nat.le_trans hz hb.size⟩
theorem BX3.out {N : Nat} {t : Cm} {r : Rep} {v : Value} {w w' : World} {k : Nat} (h : BX3 N t r v w) (hg : w.grownBy w' (some k)) (hk : k < N) : BX3 N t r v w' := by
 have hz := h.z
 have e1 : ∀ o, w'.cell? ⟨N + 1, o, none⟩ = w.cell? ⟨N + 1, o, none⟩ := fun o => World.cell?_of_block (hg.block (N + 1) (by omega) (by simp; omega))
 have e2 : ∀ o, w'.cell? ⟨N + 2, o, none⟩ = w.cell? ⟨N + 2, o, none⟩ := fun o => World.cell?_of_block (hg.block (N + 2) (by omega) (by simp; omega))
 have f2 : ∀ o, w'.frozen? ⟨N + 2, o, none⟩ = w.frozen? ⟨N + 2, o, none⟩ := fun o => World.frozen?_of_block (hg.block (N + 2) (by omega) (by simp; omega))
 have e0 : ∀ o, w'.cell? ⟨N, o, none⟩ = w.cell? ⟨N, o, none⟩ := fun o => World.cell?_of_block (hg.block N (by omega) (by simp; omega))
 exact ⟨⟨(e0 0).trans h.c.c0, (e0 1).trans h.c.c1, (e0 2).trans h.c.c2, (e0 3).trans h.c.c3, (e0 4).trans h.c.c4, (e0 5).trans h.c.c5, (e0 6).trans h.c.c6, (e0 7).trans h.c.c7⟩, (e1 0).trans h.k0, (e1 1).trans h.k1, (e1 2).trans h.k2, (e1 3).trans h.k3, (e2 0).trans h.r0, (e2 1).trans h.r1, (e2 2).trans h.r2, (e2 3).trans h.r3, fun o => (f2 o).trans (h.f o), Nat.le_trans hz hg.size⟩
/-- What Apply comes to. -/
def MApP (R : Rep × Mac) (X : World) (g d bk sb K : Nat) (w : World) (e : Ending) (w' : World) : Prop := ∃ v, Hid (e = .returned (repV R.1 v)) ∧ SK.Own w' w.heap.size v R.1.names ∧ MacAt X g d bk sb (K + 1) R.2 w' ∧ Two w w' bk sb
theorem grown_refl (w : World) (b : Option Nat) : w.grownBy w b := ⟨rfl, rfl, rfl, Nat.le_refl _, fun _ _ _ => rfl⟩
theorem MacAt.two {X w w' : World} {g d bk sb K : Nat} {m : Mac} (h : MacAt X g d bk sb K m w) (hb : Below w.heap.size w w') : Two w w' bk sb :=
 ⟨w, grown_refl w _, outB hb, fun p o x hc => h.cellNe hc, h.blkNe⟩
theorem MApP.quiet {r : Rep} {X w w' : World} {g d bk sb K : Nat} {m : Mac} (h : MacAt X g d bk sb K m w) (hb : Below w.heap.size w w') (hn : r.names = []) (v : Value) (hv : v = repV r (.slice none 0 0)) : MApP (r, m) X g d bk sb K w (.returned v) w' := by
 subst hv
 exact ⟨_, rfl, by rw [hn]; exact Knd.Own.nil _ _, (h.on hb).mono (Nat.le_succ _), h.two hb⟩
theorem below4c {w w2 : World} {N b : Nat} (h : Below N w w2) (hb : N ≤ b) (x y z u : Value) : Below N w ((((w2.setCell ⟨b, 0, none⟩ x).setCell ⟨b, 1, none⟩ y).setCell ⟨b, 2, none⟩ z).setCell ⟨b, 3, none⟩ u) :=
 (((h.setCell hb _).setCell hb _).setCell hb _).setCell hb _
set_option maxRecDepth 100000 in
set_option maxHeartbeats 1000000 in
theorem mapply_none {X w : World} {g d bk sb K : Nat} {m : Mac} (h : MacAt X g d bk sb K m w) (t : Cm) (r : Rep) (vc : Value) (ho : t.op = 0) (hv : ∃ a n c, vc = .slice a n c) :
  Calls Tryz.prog 20 #[dP g, cmV t, repV r vc] w (MApP (bad 0, m) X g d bk sb K w) := by
 obtain ⟨a, n, c, rfl⟩ := hv
 obtain ⟨Z, hZ⟩ : ∃ Z, box3 w t r (.slice a n c) = Z := ⟨_, rfl⟩
 have hB : Below w.heap.size w Z := by rw [← hZ]; exact box3_below ..
 have hX3 : BX3 w.heap.size t r (.slice a n c) Z := by rw [← hZ]; exact BX3.mk' ..
 have o1 : (t.op == 0) = true := by simp [ho]
 have c2 := hX3.c.c2
 have r0 := hX3.r0
 have r1 := hX3.r1
 have r2 := hX3.r2
 have r3 := hX3.r3
 have f := hX3.f
 have z := hX3.z
 have H := Lib.hid h
 have HB := Lib.hid hB
 clear h hB hX3 ho
 go_enter Tryz.func20, Tryz.ntmps20
 go_wp2
 refine bodyPost_ret (v := repV (bad 0) (.slice none 0 0)) (by simp [results, Tryz.results20, go_sem, bad, r0, r1, r2, r3, f, show w.heap.size + 2 < Z.heap.size by omega]) rfl ?_
 exact MApP.quiet H.out (below4c HB.out (by omega) _ _ _ _) rfl _ rfl
set_option maxRecDepth 100000 in
set_option maxHeartbeats 1000000 in
theorem mapply_bad {X w : World} {g d bk sb K : Nat} {m : Mac} (h : MacAt X g d bk sb K m w) (t : Cm) (r : Rep) (vc : Value) (ho : t.op ≠ 0) (hval : valS t.cl t.sq = false) (hv : ∃ a n c, vc = .slice a n c) :
  Calls Tryz.prog 20 #[dP g, cmV t, repV r vc] w (MApP (bad 1, m) X g d bk sb K w) := by
 obtain ⟨a, n, c, rfl⟩ := hv
 obtain ⟨Z, hZ⟩ : ∃ Z, box3 w t r (.slice a n c) = Z := ⟨_, rfl⟩
 have hB : Below w.heap.size w Z := by rw [← hZ]; exact box3_below ..
 have hX3 : BX3 w.heap.size t r (.slice a n c) Z := by rw [← hZ]; exact BX3.mk' ..
 have o1 : (t.op == 0) = false := by simpa using ho
 obtain ⟨c0, c1, c2, c3, c4, c5, c6, c7⟩ := hX3.c
 have HX3 := Lib.hid hX3
 have H := Lib.hid h
 have HB := Lib.hid hB
 have HV := Lib.hid (valid9_any t.cl t.sq t.op t.pa t.va t.ver t.a t.b Z)
 rw [hval] at HV
 clear h hB hX3 ho hval
 go_enter Tryz.func20, Tryz.ntmps20
 go_wp2_with fail
 refine HV.out.mono ?_
 rintro e w1 ⟨rfl, hb⟩
 have HX4 := HX3.out.on hb
 have r0 := HX4.r0
 have r1 := HX4.r1
 have r2 := HX4.r2
 have r3 := HX4.r3
 have f := HX4.f
 have z := HX4.z
 have HB1 := Lib.hid (below_self HB.out hb)
 clear hb HX4 hZ c0 c1 c2 c3 c4 c5 c6 c7
 go_wp2
 refine bodyPost_ret (v := repV (bad 1) (.slice none 0 0)) (by simp [results, Tryz.results20, go_sem, bad, r0, r1, r2, r3, f, show w.heap.size + 2 < w1.heap.size by omega]) rfl ?_
 exact MApP.quiet H.out (below4c HB1.out (by omega) _ _ _ _) rfl _ rfl
end Go.Proofs.YtodcmhmankmaoaaGreat
namespace Go.Proofs.YtodcmhmankmaoaaGreat
open Go.RowKit Go.Sort
open Go.WideMaps
set_option linter.unusedSimpArgs false
set_option linter.unusedVariables false

abbrev sesV (c q : Int) (r : Rep) (v : Value) : Value := .agg #[.int .i64 c, .int .i64 q, .int .i64 r.err, .string r.val, .int .i64 r.ver, v]
theorem look_some {w : World} {b n : Nat} {D : DataW Unit} {s : List S3} (hM : w.ownsMap (H := Unit) Tryz.prog 3 sesElem b n D) (hI : SesIs w D s) {c q : Int} {r : Rep} (hf : fndS s c = some (q, r)) (hk : keyOf Tryz.prog 3 (.int .i64 c) = some (kI c)) :
  ∃ v, SK.Own w 0 v r.names ∧ ∀ w2 : World, w2.ownsMap (H := Unit) Tryz.prog 3 sesElem b n D → (Instr.lookup 85 (.map (some b)) (.int .i64 c) true).run Tryz.prog w2 = .ok (.tuple #[sesV c q r v, .bool true]) w2 := by
 obtain ⟨x0, h1, h2⟩ := hI.val c q r hf
 refine ⟨slV x0.sl x0.n, h2.row, fun w2 hM2 => ?_⟩
 obtain ⟨v, ps, hr, hv⟩ := hM2.look_ok intK Tryz.underlying85 (zeroS w2) (sesElem_mk (x := svZ) (fun _ => rfl)) hk
 obtain ⟨x, hx, rfl, hz⟩ := sesElem_inv hv
 have e := congrArg Prod.fst hz
 change D.atKey (kI c) (svD svZ) = svD x at e
 rw [h1] at e
 have hxx := svD_inj h2.ok hx e
 subst hxx
 have hh : Maps.has D (kI c) = true := by rw [hI.has, hf]; rfl
 rw [hh] at hr
 rw [hr]
 obtain ⟨a1, a2, a3, a4, a5⟩ := (⟨h2.cl, h2.sq, h2.er, h2.vl, h2.vr⟩ : _ ∧ _ ∧ _ ∧ _ ∧ _)
 simp only at a1 a2 a3 a4 a5
 simp only [svV, sesV, a1, a2, a3, a4, a5]
theorem look_none {w : World} {b n : Nat} {D : DataW Unit} {s : List S3} (hI : SesIs w D s) {c : Int} (hf : fndS s c = none) (hk : keyOf Tryz.prog 3 (.int .i64 c) = some (kI c)) :
  ∀ w2 : World, w2.ownsMap (H := Unit) Tryz.prog 3 sesElem b n D → (Instr.lookup 85 (.map (some b)) (.int .i64 c) true).run Tryz.prog w2 = .ok (.tuple #[sesV 0 0 (bad 0) (.slice none 0 0), .bool false]) w2 := by
 intro w2 hM2
 obtain ⟨v, ps, hr, hv⟩ := hM2.look_ok intK Tryz.underlying85 (zeroS w2) (sesElem_mk (x := svZ) (fun _ => rfl)) hk
 obtain ⟨x, hx, rfl, hz⟩ := sesElem_inv hv
 have e := congrArg Prod.fst hz
 have hh : Maps.has D (kI c) = false := by rw [hI.has, hf]; rfl
 rw [hh] at hr
 have e2 : D.atKey (kI c) (svD svZ) = svD x := e
 rw [Maps.atKey_of_not_has hh] at e2
 have hxx := svD_inj (x := svZ) (y := x) (fun _ => rfl) hx e2
 subst hxx
 rw [hr]
 rfl
theorem valS_b {c q : Int} (h : valS c q = true) : 0 ≤ c ∧ c ≤ 1099511627776 ∧ 1 ≤ q ∧ q ≤ 1099511627776 := by
 simp only [valS, Bool.and_eq_true, decide_eq_true_eq] at h
 exact ⟨h.1.1.1, h.1.1.2, h.1.2, h.2⟩
set_option maxRecDepth 100000 in
set_option maxHeartbeats 2000000 in
theorem mapply_old {X w : World} {g d bk sb K : Nat} {m : Mac} (h : MacAt X g d bk sb K m w) (t : Cm) (r : Rep) (vc : Value) (ho : t.op ≠ 0) (hval : valS t.cl t.sq = true) (hv : ∃ a n c, vc = .slice a n c) {q5 : Int} {r5 : Rep} (hf : fndS m.s t.cl = some (q5, r5)) (hq : t.sq < q5) :
  Calls Tryz.prog 20 #[dP g, cmV t, repV r vc] w (MApP (bad 6, m) X g d bk sb K w) := by
 obtain ⟨a, n, c, rfl⟩ := hv
 obtain ⟨Z, hZ⟩ : ∃ Z, box3 w t r (.slice a n c) = Z := ⟨_, rfl⟩
 have hB : Below w.heap.size w Z := by rw [← hZ]; exact box3_below ..
 have hX3 : BX3 w.heap.size t r (.slice a n c) Z := by rw [← hZ]; exact BX3.mk' ..
 have o1 : (t.op == 0) = false := by simpa using ho
 obtain ⟨c0, c1, c2, c3, c4, c5, c6, c7⟩ := hX3.c
 have HX3 := Lib.hid hX3
 have H := Lib.hid h
 have HZm := Lib.hid (h.on hB)
 have HB := Lib.hid hB
 have HV := Lib.hid (valid9_any t.cl t.sq t.op t.pa t.va t.ver t.a t.b Z)
 rw [hval] at HV
 have HVB := Lib.hid (valS_b hval)
 have HF := Lib.hid hf
 clear hf
 clear h hB hX3 ho hval
 go_enter Tryz.func20, Tryz.ntmps20
 go_wp2_with fail
 refine HV.out.mono ?_
 rintro e w1 ⟨rfl, hb⟩
 have HX4 := Lib.hid (HX3.out.on hb)
 have HB1 := Lib.hid (below_self HB.out hb)
 have H1 := Lib.hid (HZm.out.on hb)
 clear hb hZ c0 c1 c2 c3 c4 c5 c6 c7 HX3 HB HZm HV
 obtain ⟨D, nn, hnn, hM, hI⟩ := H1.out.map
 have hkey : keyOf Tryz.prog 3 (.int .i64 t.cl) = some (kI t.cl) := kI_key (by have := HVB.out; omega) (by have := HVB.out; omega)
 have HM := Lib.hid hM
 have HKEY := Lib.hid hkey
 have HNN := Lib.hid hnn
 have HI := Lib.hid hI
 obtain ⟨vs, hown, hrun⟩ := look_some hM hI HF.out hkey
 obtain ⟨a5, c5, rfl⟩ := hown.slice
 obtain ⟨N5, hN5⟩ : ∃ N, r5.names.length = N := ⟨_, rfl⟩
 rw [hN5] at hown hrun
 have HN5 := Lib.hid hN5
 have HRUN := Lib.hid hrun
 have HOWN := Lib.hid hown
 obtain ⟨er5, vl5, vr5, ns5⟩ := r5
 have HKP : Hid (∀ w', Below w1.heap.size w1 w' → w'.cell? ⟨g, 1, none⟩ = some (.map (some sb)) ∧ w'.cell? ⟨w.heap.size, 0, none⟩ = some (.int .i64 t.cl) ∧ (Instr.lookup 85 (.map (some sb)) (.int .i64 t.cl) true).run Tryz.prog w' = .ok (.tuple #[.agg #[Value.int .i64 t.cl, .int .i64 q5, .int .i64 er5, .string vl5, .int .i64 vr5, .slice a5 N5 c5], .bool true]) w' ∧ Below w1.heap.size w1 w') := Lib.hid (fun w' hb => ⟨(H1.out.on hb).c1, (HX4.out.on hb).c.c0, HRUN.out w' (HM.out.kept (row := none) ⟨hb.os, hb.tape, hb.output, hb.size, fun k hk _ => hb.block k hk⟩ (by simp)), hb⟩)
 clear hM hI hkey hnn hown hrun
 go_wp2_with fail
 refine wp_region_held_drew (S := (fun w' => w'.cell? ⟨g, 1, none⟩ = some (.map (some sb)) ∧ w'.cell? ⟨w.heap.size, 0, none⟩ = some (.int .i64 t.cl) ∧ (Instr.lookup 85 (.map (some sb)) (.int .i64 t.cl) true).run Tryz.prog w' = .ok (.tuple #[.agg #[Value.int .i64 t.cl, .int .i64 q5, .int .i64 er5, .string vl5, .int .i64 vr5, .slice a5 N5 c5], .bool true]) w' ∧ Below w1.heap.size w1 w')) (by kernel_rfl) ?_ (fun hHeld => ?_)
 ·((first
  | exact HKP.out _ (((Below.refl _ _).alloc (Nat.le_refl _) _).drew)
  | exact HKP.out _ ((((Below.refl _ _).drew).alloc (Nat.le_refl _) _))
  | exact HKP.out _ ((Below.refl _ _).alloc (Nat.le_refl _) _)
  | exact HKP.out _ (Below.refl _ _).drew
  | exact HKP.out _ (Below.refl _ _)
  | fail))
 (refine tkA 0 (v := ?_) ?_ ?_; rotate_left; focus (intro w hSw; (try dsimp only at hSw); go_simp; try rfl)); try simp only [Act.put, gA1, gA2, gA3, gA4, gA5, gA6]
 (refine tkA 1 (v := ?_) ?_ ?_; rotate_left; focus (intro w hSw; (try dsimp only at hSw); go_simp; try rfl)); try simp only [Act.put, gA1, gA2, gA3, gA4, gA5, gA6]
 (refine tkA 2 (v := ?_) ?_ ?_; rotate_left; focus (intro w hSw; (try dsimp only at hSw); go_simp; try rfl)); try simp only [Act.put, gA1, gA2, gA3, gA4, gA5, gA6]
 (refine tkA 3 (v := ?_) ?_ ?_; rotate_left; focus (intro w hSw; (try dsimp only at hSw); go_simp; try rfl)); try simp only [Act.put, gA1, gA2, gA3, gA4, gA5, gA6]
 (refine tkA 4 (v := ?_) ?_ ?_; rotate_left; focus (intro w hSw; (try dsimp only at hSw); go_simp; try rfl)); try simp only [Act.put, gA1, gA2, gA3, gA4, gA5, gA6]
 (refine tkA 5 (v := ?_) ?_ ?_; rotate_left; focus (intro w hSw; (try dsimp only at hSw); go_simp; try rfl)); try simp only [Act.put, gA1, gA2, gA3, gA4, gA5, gA6]
 (refine tkA 6 (v := ?_) ?_ ?_; rotate_left; focus (intro w hSw; (try dsimp only at hSw); go_simp; try rfl)); try simp only [Act.put, gA1, gA2, gA3, gA4, gA5, gA6]
 (refine tkA 7 (v := ?_) ?_ ?_; rotate_left; focus (intro w hSw; (try dsimp only at hSw); go_simp; try rfl)); try simp only [Act.put, gA1, gA2, gA3, gA4, gA5, gA6]
 (refine tkA 8 (v := ?_) ?_ ?_; rotate_left; focus (intro w hSw; (try dsimp only at hSw); go_simp; try rfl)); try simp only [Act.put, gA1, gA2, gA3, gA4, gA5, gA6]
 (refine tkA 9 (v := ?_) ?_ ?_; rotate_left; focus (intro w hSw; (try dsimp only at hSw); go_simp; try rfl)); try simp only [Act.put, gA1, gA2, gA3, gA4, gA5, gA6]
 refine wpAnyH_ready (rs := [10]) (by kernel_rfl) (by simp) ?_
 refine (AllReadyH.cons rfl (fun K hK => ?_) AllReadyH.nil)
 go_simp
 refine hK.out _ _ ?_ (fun hHeld => ?_)
 ·((first
  | exact HKP.out _ (((Below.refl _ _).alloc (Nat.le_refl _) _).drew)
  | exact HKP.out _ ((((Below.refl _ _).drew).alloc (Nat.le_refl _) _))
  | exact HKP.out _ ((Below.refl _ _).alloc (Nat.le_refl _) _)
  | exact HKP.out _ (Below.refl _ _).drew
  | exact HKP.out _ (Below.refl _ _)
  | fail))
 clear hK K
 try simp only [Act.put, gA1, gA2, gA3, gA4, gA5, gA6]
 refine wpAnyH_ready (rs := [11]) (by kernel_rfl) (by simp) ?_
 refine (AllReadyH.cons rfl (fun K hK => ?_) AllReadyH.nil)
 go_simp
 refine hK.out _ _ ?_ (fun hHeld => ?_)
 ·((first
  | exact HKP.out _ (((Below.refl _ _).alloc (Nat.le_refl _) _).drew)
  | exact HKP.out _ ((((Below.refl _ _).drew).alloc (Nat.le_refl _) _))
  | exact HKP.out _ ((Below.refl _ _).alloc (Nat.le_refl _) _)
  | exact HKP.out _ (Below.refl _ _).drew
  | exact HKP.out _ (Below.refl _ _)
  | fail))
 clear hK K
 try simp only [Act.put, gA1, gA2, gA3, gA4, gA5, gA6]
 (refine tkA 12 (v := ?_) ?_ ?_; rotate_left; focus (intro w hSw; (try dsimp only at hSw); go_simp; try rfl)); try simp only [Act.put, gA1, gA2, gA3, gA4, gA5, gA6]
 refine wpAnyH_done (by kernel_rfl) ?_ _
 go_split_ands
 clear HKP HRUN
 obtain ⟨Y, hY⟩ : ∃ Y, (w1.alloc (.cells #[Value.int .i64 t.cl, .int .i64 q5, .int .i64 er5, .string vl5, .int .i64 vr5, .slice a5 N5 c5] 51)).drew = Y := ⟨_, rfl⟩
 have hBY : Below w1.heap.size w1 Y := by rw [← hY]; exact ((Below.refl _ _).alloc (Nat.le_refl _) _).drew
 have HBY := Lib.hid hBY
 have HBw := Lib.hid (below_self HB1.out hBY)
 have HX5 := Lib.hid (HX4.out.on hBY)
 have H5 := Lib.hid (H1.out.on hBY)
 have hcs : ∀ j, Y.cell? ⟨w1.heap.size, j, none⟩ = #[Value.int .i64 t.cl, .int .i64 q5, .int .i64 er5, .string vl5, .int .i64 vr5, .slice a5 N5 c5][j]? := fun j => by rw [← hY]; exact new_cell w1 _ 51 j
 obtain ⟨g5, hg5⟩ : ∃ g, w1.heap.size = g := ⟨_, rfl⟩
 rw [hg5] at hcs
 rw [hY, hg5]
 clear hY hg5
 have HO5 := Lib.hid (HOWN.out.below HBY.out)
 have l0 := hcs 0
 have l1 := hcs 1
 have l2 := hcs 2
 have l3 := hcs 3
 have l4 := hcs 4
 have l5 := hcs 5
 simp only [List.getElem?_toArray, List.getElem?_cons_zero, List.getElem?_cons_succ] at l0 l1 l2 l3 l4 l5
 have c1 := HX5.out.c.c1
 clear hcs hBY
 have s1 : t.sq < q5 := hq
 have r0 := HX5.out.r0
 have r1 := HX5.out.r1
 have r2 := HX5.out.r2
 have r3 := HX5.out.r3
 have f := HX5.out.f
 have z := HX5.out.z
 go_wp2
 refine bodyPost_ret (v := repV (bad 6) (.slice none 0 0)) (by simp [results, Tryz.results20, go_sem, bad, r0, r1, r2, r3, f, show w.heap.size + 2 < Y.heap.size by omega]) rfl ?_
 exact MApP.quiet H.out (below4c HBw.out (by omega) _ _ _ _) rfl _ rfl
set_option maxRecDepth 100000 in
set_option maxHeartbeats 2000000 in
theorem mapply_same {X w : World} {g d bk sb K : Nat} {m : Mac} (h : MacAt X g d bk sb K m w) (t : Cm) (r : Rep) (vc : Value) (ho : t.op ≠ 0) (hval : valS t.cl t.sq = true) (hv : ∃ a n c, vc = .slice a n c) {q5 : Int} {r5 : Rep} (hf : fndS m.s t.cl = some (q5, r5)) (hq : q5 = t.sq) (hsmall : ∀ e ∈ m.s, e.2.2.names.length ≤ 100000) :
  Calls Tryz.prog 20 #[dP g, cmV t, repV r vc] w (MApP (r5, m) X g d bk sb K w) := by
 obtain ⟨a, n, c, rfl⟩ := hv
 obtain ⟨Z, hZ⟩ : ∃ Z, box3 w t r (.slice a n c) = Z := ⟨_, rfl⟩
 have hB : Below w.heap.size w Z := by rw [← hZ]; exact box3_below ..
 have hX3 : BX3 w.heap.size t r (.slice a n c) Z := by rw [← hZ]; exact BX3.mk' ..
 have o1 : (t.op == 0) = false := by simpa using ho
 obtain ⟨c0, c1, c2, c3, c4, c5, c6, c7⟩ := hX3.c
 have HX3 := Lib.hid hX3
 have H := Lib.hid h
 have HZm := Lib.hid (h.on hB)
 have HB := Lib.hid hB
 have HV := Lib.hid (valid9_any t.cl t.sq t.op t.pa t.va t.ver t.a t.b Z)
 rw [hval] at HV
 have HVB := Lib.hid (valS_b hval)
 have HF := Lib.hid hf
 clear hf
 have HQ := Lib.hid hq
 clear hq
 clear h hB hX3 ho hval
 go_enter Tryz.func20, Tryz.ntmps20
 go_wp2_with fail
 refine HV.out.mono ?_
 rintro e w1 ⟨rfl, hb⟩
 have HX4 := Lib.hid (HX3.out.on hb)
 have HB1 := Lib.hid (below_self HB.out hb)
 have H1 := Lib.hid (HZm.out.on hb)
 clear hb hZ c0 c1 c2 c3 c4 c5 c6 c7 HX3 HB HZm HV
 obtain ⟨D, nn, hnn, hM, hI⟩ := H1.out.map
 have hkey : keyOf Tryz.prog 3 (.int .i64 t.cl) = some (kI t.cl) := kI_key (by have := HVB.out; omega) (by have := HVB.out; omega)
 have HM := Lib.hid hM
 have HKEY := Lib.hid hkey
 have HNN := Lib.hid hnn
 have HI := Lib.hid hI
 obtain ⟨vs, hown, hrun⟩ := look_some hM hI HF.out hkey
 obtain ⟨a5, c5, rfl⟩ := hown.slice
 obtain ⟨N5, hN5⟩ : ∃ N, r5.names.length = N := ⟨_, rfl⟩
 rw [hN5] at hown hrun
 have HN5 := Lib.hid hN5
 have HRUN := Lib.hid hrun
 have HOWN := Lib.hid hown
 obtain ⟨er5, vl5, vr5, ns5⟩ := r5
 have HKP : Hid (∀ w', Below w1.heap.size w1 w' → w'.cell? ⟨g, 1, none⟩ = some (.map (some sb)) ∧ w'.cell? ⟨w.heap.size, 0, none⟩ = some (.int .i64 t.cl) ∧ (Instr.lookup 85 (.map (some sb)) (.int .i64 t.cl) true).run Tryz.prog w' = .ok (.tuple #[.agg #[Value.int .i64 t.cl, .int .i64 q5, .int .i64 er5, .string vl5, .int .i64 vr5, .slice a5 N5 c5], .bool true]) w' ∧ Below w1.heap.size w1 w') := Lib.hid (fun w' hb => ⟨(H1.out.on hb).c1, (HX4.out.on hb).c.c0, HRUN.out w' (HM.out.kept (row := none) ⟨hb.os, hb.tape, hb.output, hb.size, fun k hk _ => hb.block k hk⟩ (by simp)), hb⟩)
 clear hM hI hkey hnn hown hrun
 go_wp2_with fail
 refine wp_region_held_drew (S := (fun w' => w'.cell? ⟨g, 1, none⟩ = some (.map (some sb)) ∧ w'.cell? ⟨w.heap.size, 0, none⟩ = some (.int .i64 t.cl) ∧ (Instr.lookup 85 (.map (some sb)) (.int .i64 t.cl) true).run Tryz.prog w' = .ok (.tuple #[.agg #[Value.int .i64 t.cl, .int .i64 q5, .int .i64 er5, .string vl5, .int .i64 vr5, .slice a5 N5 c5], .bool true]) w' ∧ Below w1.heap.size w1 w')) (by kernel_rfl) ?_ (fun hHeld => ?_)
 ·((first
  | exact HKP.out _ (((Below.refl _ _).alloc (Nat.le_refl _) _).drew)
  | exact HKP.out _ ((((Below.refl _ _).drew).alloc (Nat.le_refl _) _))
  | exact HKP.out _ ((Below.refl _ _).alloc (Nat.le_refl _) _)
  | exact HKP.out _ (Below.refl _ _).drew
  | exact HKP.out _ (Below.refl _ _)
  | fail))
 (refine tkA 0 (v := ?_) ?_ ?_; rotate_left; focus (intro w hSw; (try dsimp only at hSw); go_simp; try rfl)); try simp only [Act.put, gA1, gA2, gA3, gA4, gA5, gA6]
 (refine tkA 1 (v := ?_) ?_ ?_; rotate_left; focus (intro w hSw; (try dsimp only at hSw); go_simp; try rfl)); try simp only [Act.put, gA1, gA2, gA3, gA4, gA5, gA6]
 (refine tkA 2 (v := ?_) ?_ ?_; rotate_left; focus (intro w hSw; (try dsimp only at hSw); go_simp; try rfl)); try simp only [Act.put, gA1, gA2, gA3, gA4, gA5, gA6]
 (refine tkA 3 (v := ?_) ?_ ?_; rotate_left; focus (intro w hSw; (try dsimp only at hSw); go_simp; try rfl)); try simp only [Act.put, gA1, gA2, gA3, gA4, gA5, gA6]
 (refine tkA 4 (v := ?_) ?_ ?_; rotate_left; focus (intro w hSw; (try dsimp only at hSw); go_simp; try rfl)); try simp only [Act.put, gA1, gA2, gA3, gA4, gA5, gA6]
 (refine tkA 5 (v := ?_) ?_ ?_; rotate_left; focus (intro w hSw; (try dsimp only at hSw); go_simp; try rfl)); try simp only [Act.put, gA1, gA2, gA3, gA4, gA5, gA6]
 (refine tkA 6 (v := ?_) ?_ ?_; rotate_left; focus (intro w hSw; (try dsimp only at hSw); go_simp; try rfl)); try simp only [Act.put, gA1, gA2, gA3, gA4, gA5, gA6]
 (refine tkA 7 (v := ?_) ?_ ?_; rotate_left; focus (intro w hSw; (try dsimp only at hSw); go_simp; try rfl)); try simp only [Act.put, gA1, gA2, gA3, gA4, gA5, gA6]
 (refine tkA 8 (v := ?_) ?_ ?_; rotate_left; focus (intro w hSw; (try dsimp only at hSw); go_simp; try rfl)); try simp only [Act.put, gA1, gA2, gA3, gA4, gA5, gA6]
 (refine tkA 9 (v := ?_) ?_ ?_; rotate_left; focus (intro w hSw; (try dsimp only at hSw); go_simp; try rfl)); try simp only [Act.put, gA1, gA2, gA3, gA4, gA5, gA6]
 refine wpAnyH_ready (rs := [10]) (by kernel_rfl) (by simp) ?_
 refine (AllReadyH.cons rfl (fun K hK => ?_) AllReadyH.nil)
 go_simp
 refine hK.out _ _ ?_ (fun hHeld => ?_)
 ·((first
  | exact HKP.out _ (((Below.refl _ _).alloc (Nat.le_refl _) _).drew)
  | exact HKP.out _ ((((Below.refl _ _).drew).alloc (Nat.le_refl _) _))
  | exact HKP.out _ ((Below.refl _ _).alloc (Nat.le_refl _) _)
  | exact HKP.out _ (Below.refl _ _).drew
  | exact HKP.out _ (Below.refl _ _)
  | fail))
 clear hK K
 try simp only [Act.put, gA1, gA2, gA3, gA4, gA5, gA6]
 refine wpAnyH_ready (rs := [11]) (by kernel_rfl) (by simp) ?_
 refine (AllReadyH.cons rfl (fun K hK => ?_) AllReadyH.nil)
 go_simp
 refine hK.out _ _ ?_ (fun hHeld => ?_)
 ·((first
  | exact HKP.out _ (((Below.refl _ _).alloc (Nat.le_refl _) _).drew)
  | exact HKP.out _ ((((Below.refl _ _).drew).alloc (Nat.le_refl _) _))
  | exact HKP.out _ ((Below.refl _ _).alloc (Nat.le_refl _) _)
  | exact HKP.out _ (Below.refl _ _).drew
  | exact HKP.out _ (Below.refl _ _)
  | fail))
 clear hK K
 try simp only [Act.put, gA1, gA2, gA3, gA4, gA5, gA6]
 (refine tkA 12 (v := ?_) ?_ ?_; rotate_left; focus (intro w hSw; (try dsimp only at hSw); go_simp; try rfl)); try simp only [Act.put, gA1, gA2, gA3, gA4, gA5, gA6]
 refine wpAnyH_done (by kernel_rfl) ?_ _
 go_split_ands
 clear HKP HRUN
 obtain ⟨Y, hY⟩ : ∃ Y, (w1.alloc (.cells #[Value.int .i64 t.cl, .int .i64 q5, .int .i64 er5, .string vl5, .int .i64 vr5, .slice a5 N5 c5] 51)).drew = Y := ⟨_, rfl⟩
 have hBY : Below w1.heap.size w1 Y := by rw [← hY]; exact ((Below.refl _ _).alloc (Nat.le_refl _) _).drew
 have HBY := Lib.hid hBY
 have HBw := Lib.hid (below_self HB1.out hBY)
 have HX5 := Lib.hid (HX4.out.on hBY)
 have H5 := Lib.hid (H1.out.on hBY)
 have hcs : ∀ j, Y.cell? ⟨w1.heap.size, j, none⟩ = #[Value.int .i64 t.cl, .int .i64 q5, .int .i64 er5, .string vl5, .int .i64 vr5, .slice a5 N5 c5][j]? := fun j => by rw [← hY]; exact new_cell w1 _ 51 j
 obtain ⟨g5, hg5⟩ : ∃ g, w1.heap.size = g := ⟨_, rfl⟩
 rw [hg5] at hcs
 rw [hY, hg5]
 clear hY hg5
 have HO5 := Lib.hid (HOWN.out.below HBY.out)
 have l0 := hcs 0
 have l1 := hcs 1
 have l2 := hcs 2
 have l3 := hcs 3
 have l4 := hcs 4
 have l5 := hcs 5
 simp only [List.getElem?_toArray, List.getElem?_cons_zero, List.getElem?_cons_succ] at l0 l1 l2 l3 l4 l5
 have c1 := HX5.out.c.c1
 clear hcs hBY
 have s1 : ¬ t.sq < q5 := by have := HQ.out; omega
 have s2 : (q5 == t.sq) = true := by simp [HQ.out]
 have HCR := Lib.hid (creply_any ⟨er5, vl5, vr5, ns5⟩ (.slice a5 N5 c5) Y HO5.out.rd (by simpa using hsmall _ ((fndS_some H.out.right.rise).1 HF.out)))
 clear hsmall
 go_wp2_with fail
 refine HCR.out.mono ?_
 rintro e w2 ⟨v2, he, ho2, hb⟩
 have he := he.out
 subst he
 obtain ⟨a6, c6, hv6⟩ := ho2.slice
 simp only at hv6 ho2
 rw [HN5.out] at hv6
 subst hv6
 have HX6 := HX5.out.on hb
 have r0 := HX6.r0
 have r1 := HX6.r1
 have r2 := HX6.r2
 have r3 := HX6.r3
 have f := HX6.f
 have z := HX6.z
 have HO6 := Lib.hid (ho2.base (b2 := w.heap.size + 3) HX5.out.z)
 have HB6 := Lib.hid (below_self HBw.out hb)
 clear hb ho2 HX6 l0 l1 l2 l3 l4 l5 c1
 go_wp2
 refine bodyPost_ret (v := repV ⟨er5, vl5, vr5, ns5⟩ (.slice a6 N5 c6)) (by simp [results, Tryz.results20, go_sem, r0, r1, r2, r3, f, show w.heap.size + 2 < w2.heap.size by omega]) rfl ?_
 have hB9 := below4c HB6.out (b := w.heap.size + 2) (by omega) (.int .i64 er5) (.string vl5) (.int .i64 vr5) (.slice a6 N5 c6)
 exact ⟨_, rfl, ((((HO6.out.set (by omega) _ _).set (by omega) _ _).set (by omega) _ _).set (by omega) _ _).base (by omega), (H.out.on hB9).mono (Nat.le_succ _), H.out.two hB9⟩
end Go.Proofs.YtodcmhmankmaoaaGreat
namespace Go.Proofs.YtodcmhmankmaoaaGreat
open Go.RowKit Go.Sort
open Go.WideMaps
set_option linter.unusedSimpArgs false
set_option linter.unusedVariables false

theorem step_map {H : Type} {P : Program} {ops : Array Oper} {o : Oper} {a : Act} {w : World} {K : Act → World → Prop} {Q : Exit → Act → World → Prop} {E : Prop} (hw : Region.wanted o (yielded ops a.tmps) = true) (m x v : Operand) (t : TypeId) (hop : o.op = Op.mapUpdate t m x v)
  (k e : TypeId) (Kd : Go.Maps.Keyed P k) (ht : P.underlying t = some (.map k e)) (R : Value → Option (DataW H × List MemPlace)) (b n : Nat) (D : DataW H)
  (hm : a.eval m = .map (some b)) (hown : w.ownsMap P k R b n D) (hn : n < maxLen) (key val : Value) (kl : Lit) (hx : a.eval x = key) (hv : a.eval v = val) (hkey : keyOf P k key = some kl)
  (d : DataW H) (ps : List MemPlace) (hval : R val = some (d, ps))
  (hK : ∀ w', w'.ownsMap P k R b (n + 1) (D.put kl d) → w.grownBy w' (some b) → K (a.put o.dst undef) w') : if Region.wanted o (yielded ops a.tmps) = true then Oper.wp P o a w K Q else E := by
 rw [if_pos hw]
 obtain ⟨w', hrun, r1, r2⟩ := hown.update Kd ht hn hkey hval
 unfold Oper.wp
 simp [execOp, hop, hm, hx, hv, hrun, Result.andThen]
 exact hK w' r1 r2
/-- All that was there is, but two blocks. -/
structure Gr2 (w w' : World) (b1 b2 : Nat) : Prop where
 os : w'.os = w.os
 tape : w'.tape = w.tape
 output : w'.output = w.output
 size : w.heap.size ≤ w'.heap.size
 block : ∀ k, k < w.heap.size → k ≠ b1 → k ≠ b2 → w'.heap[k]? = w.heap[k]?
theorem Gr2.two {w w' : World} {b1 b2 : Nat} (h : Gr2 w w' b1 b2) (hb : ∃ es ck, w.heap[b2]? = some (.map es ck)) : Two w w' b1 b2 := by
 obtain ⟨es, ck, hb⟩ := hb
 have hlt : b2 < w.heap.size := (Array.getElem?_eq_some_iff.1 hb).1
 have hlt2 : b2 < w'.heap.size := Nat.lt_of_lt_of_le hlt h.size
 have hm : ({ w' with heap := w'.heap.setIfInBounds b2 (.map es ck) } : World).heap[b2]? = some (.map es ck) := by simp [hlt2]
 refine ⟨{ w' with heap := w'.heap.setIfInBounds b2 (.map es ck) }, ⟨h.os, h.tape, h.output, by simpa using h.size, fun k hk hn => ?_⟩, ⟨rfl, rfl, rfl, by simp, fun k hk hn => ?_⟩, ?_, ?_⟩
 ·by_cases e : k = b2
  ·subst e; rw [hm, hb]
  ·rw [Array.getElem?_setIfInBounds, if_neg (fun e2 => e e2.symm)]
   exact h.block k hk (fun e2 => hn (by rw [e2])) e
 ·have e : b2 ≠ k := fun e2 => hn (by rw [e2])
  show w'.heap[k]? = (w'.heap.setIfInBounds b2 (.map es ck))[k]?
  rw [Array.getElem?_setIfInBounds, if_neg e]
 ·rintro p o x hc rfl
  simp [World.cell?, hm] at hc
 ·rintro p cs T fr hc rfl
  rw [hm] at hc
  cases hc
theorem outSet {w W : World} {b : Option Nat} (h : w.grownBy W b) {k : Nat} (hk : w.heap.size ≤ k) (o : Nat) (x : Value) : w.grownBy (W.setCell ⟨k, o, none⟩ x) b :=
 ⟨h.os, h.tape, h.output, by simpa using h.size, fun i hi hn => (Below.heap_setCell _ _ _ i (by show i ≠ k; omega)).trans (h.block i hi hn)⟩
theorem MacAt.lt {X w : World} {g d bk sb K : Nat} {m : Mac} (h : MacAt X g d bk sb K m w) : g < w.heap.size ∧ d < w.heap.size ∧ bk < w.heap.size ∧ sb < w.heap.size := by
 obtain ⟨D, n, _, hM, _⟩ := h.map
 exact ⟨World.block_lt_of_cell? w _ h.c0, h.lw.dir.lt.1, h.lw.dir.lt.2, hM.lt⟩
theorem MacAt.isMap {X w : World} {g d bk sb K : Nat} {m : Mac} (h : MacAt X g d bk sb K m w) : ∃ es ck, w.heap[sb]? = some (.map es ck) := by
 obtain ⟨D, n, _, ⟨es, ck, hb, _⟩, _⟩ := h.map
 exact ⟨es, ck, hb⟩
/-- Behind what the directory did: the pointers, and the sessions as they were. -/
structure MidM (X : World) (g d bk sb K : Nat) (l : List E3) (s : List S3) (W : World) : Prop where
 c0 : W.cell? ⟨g, 0, none⟩ = some (dP d)
 c1 : W.cell? ⟨g, 1, none⟩ = some (.map (some sb))
 lw : LW X d bk (K + 1) l W
 map : ∃ (D : DataW Unit) (n : Nat), n ≤ K ∧ W.ownsMap (H := Unit) Tryz.prog 3 sesElem sb n D ∧ SesIs W D s
theorem MidM.on {X W W' : World} {g d bk sb K : Nat} {l : List E3} {s : List S3} (h : MidM X g d bk sb K l s W) (hb : Below W.heap.size W W') : MidM X g d bk sb K l s W' := by
 have hl := World.block_lt_of_cell? W _ h.c0
 obtain ⟨D, n, hn, hM, hI⟩ := h.map
 exact ⟨(hb.cell (p := ⟨g, 0, none⟩) hl).trans h.c0, (hb.cell (p := ⟨g, 1, none⟩) hl).trans h.c1, h.lw.on hb, ⟨D, n, hn, hM.kept (row := none) ⟨hb.os, hb.tape, hb.output, hb.size, fun k hk _ => hb.block k hk⟩ (by simp), hI.on hb⟩⟩
theorem MacAt.mid {X w W : World} {g d bk sb K : Nat} {m : Mac} {l : List E3} (h : MacAt X g d bk sb K m w) (G : w.grownBy W (some bk)) (hd : DirAt W d bk (K + 1) l) (hr : RightD l) (hv : verB (1099511627776 + (K + 1)) l) : MidM X g d bk sb K l m.s W := by
 obtain ⟨D, n, hn, hM, hI⟩ := h.map
 obtain ⟨mm, hm⟩ := h.lw.ml
 exact ⟨G.cell h.c0 (by simpa using h.lw.ne _ _ _ h.c0), G.cell h.c1 (by simpa using h.lw.ne _ _ _ h.c1), ⟨hd, ⟨mm, G.cell hm (by simpa using h.lw.ne _ _ _ hm)⟩, h.lw.below.grown G h.lw.below.size (fun j hj => by cases hj; exact h.lw.lo.2), h.lw.lo, hr, hv⟩, ⟨D, n, hn, hM.kept G (by simpa using h.ne), hI.out G h.lw.blkNe⟩⟩
/-- The session is set. -/
theorem MidM.put {X W W' : World} {g d bk sb K : Nat} {l : List E3} {s : List S3} (h : MidM X g d bk sb K l s W) {D : DataW Unit} {n : Nat} {c q : Int} {r : Rep} {x : SV} (hn : n ≤ K) (hI : SesIs W D s) (hM : W'.ownsMap (H := Unit) Tryz.prog 3 sesElem sb (n + 1) (D.put (kI c) (svD x))) (hg : W.grownBy W' (some sb)) (hx : SVof W x (c, q, r))
  (hX : X.heap.size ≤ g ∧ X.heap.size ≤ sb) (hne : sb ≠ bk) (hR : RightM ⟨l, putS s c q r⟩) (hrs : RisesS s) : MacAt X g d bk sb (K + 1) ⟨l, putS s c q r⟩ W' := by
 have hcN : ∀ p o y, W.cell? ⟨p, o, none⟩ = some y → p ≠ sb := by
  rintro p o y hc rfl
  obtain ⟨D2, n2, _, ⟨es, ck, hb, _⟩, _⟩ := h.map
  simp [World.cell?, hb] at hc
 have hbN : ∀ p cs T fr, W.heap[p]? = some (.cells cs T fr) → p ≠ sb := by
  rintro p cs T fr hc rfl
  obtain ⟨D2, n2, _, ⟨es, ck, hb, _⟩, _⟩ := h.map
  rw [hb] at hc
  cases hc
 obtain ⟨mm, hm⟩ := h.lw.ml
 have hdb : d ≠ sb := hcN _ _ _ h.lw.dir.cell
 exact ⟨hg.cell h.c0 (by simpa using hcN _ _ _ h.c0), hg.cell h.c1 (by simpa using hcN _ _ _ h.c1), ⟨h.lw.dir.out hg hdb hne.symm, ⟨mm, hg.cell hm (by simpa using hcN _ _ _ hm)⟩, h.lw.below.grown hg h.lw.below.size (fun j hj => by cases hj; exact hX.2), h.lw.lo, h.lw.right, h.lw.ver⟩, ⟨_, n + 1, by omega, hM, (hI.put hrs hx).out hg hbN⟩, hX, hne, hR⟩
theorem heap_set_cells0 {w : World} {p : Nat} {t : TypeId} (h : ∃ cs fr, w.heap[p]? = some (.cells cs t fr)) (o : Nat) (u : Value) : ∃ cs fr, (w.setCell ⟨p, o, none⟩ u).heap[p]? = some (.cells cs t fr) := by
 obtain ⟨cs, fr, hh⟩ := h
 refine ⟨cs.setIfInBounds o u, fr, ?_⟩
 simp [World.setCell, Array.getElem?_modify, hh]
theorem heap_set_cells {w : World} {b o : Nat} {x : Value} {T : TypeId} (h : ∃ cs fr, w.heap[b]? = some (.cells cs T fr)) : ∃ cs fr, (w.setCell ⟨b, o, none⟩ x).heap[b]? = some (.cells cs T fr) := heap_set_cells0 h o x
theorem SK_set {w : World} {base b o : Nat} {v x : Value} {ns : List ByteArray} (h : SK.Own w base v ns) (hb : ∃ cs fr, w.heap[b]? = some (.cells cs 36 fr)) : SK.Own (w.setCell ⟨b, o, none⟩ x) base v ns := by
 refine h.keepB fun k hk => Below.heap_setCell _ _ _ k ?_
 rintro (rfl : k = b)
 obtain ⟨_, cs, fr, hc⟩ := h.blk k hk
 obtain ⟨cs2, fr2, hc2⟩ := hb
 rw [hc] at hc2
 simp only [Option.some.injEq, Obj.cells.injEq] at hc2
 have : (9 : TypeId) = 36 := hc2.2.1
 exact absurd this (by decide)
theorem MacAt.set {X w : World} {g d bk sb K b o : Nat} {m : Mac} {x : Value} (h : MacAt X g d bk sb K m w) (hb : ∃ cs fr, w.heap[b]? = some (.cells cs 36 fr)) (hg : g < b) (hd : d < b) (hX : X.heap.size ≤ b) (hml : ∃ mm, w.cell? ⟨0, 0, none⟩ = some (.int .i64 mm) ∧ 0 < b) : MacAt X g d bk sb K m (w.setCell ⟨b, o, none⟩ x) := by
 obtain ⟨cs, fr, hb'⟩ := hb
 obtain ⟨D, n, hn, hM, hI⟩ := h.map
 obtain ⟨D2, n2, hn2, hM2, hI2⟩ := h.lw.dir.map
 obtain ⟨mm, hm, hml⟩ := hml
 have hblk : ∀ k, k ≠ b → (w.setCell ⟨b, o, none⟩ x).heap[k]? = w.heap[k]? := fun k hk => Below.heap_setCell _ _ _ k hk
 have hc : ∀ k j, k ≠ b → (w.setCell ⟨b, o, none⟩ x).cell? ⟨k, j, none⟩ = w.cell? ⟨k, j, none⟩ := fun k j hk => World.cell?_of_block (hblk k hk)
 have hsb : sb ≠ b := fun e => h.blkNe b cs _ fr hb' e.symm
 have hbk : bk ≠ b := fun e => h.lw.blkNe b cs _ fr hb' e.symm
 refine ⟨(hc g 0 (by omega)).trans h.c0, (hc g 1 (by omega)).trans h.c1, ⟨⟨(hc d 0 (by omega)).trans h.lw.dir.cell, ⟨D2, n2, hn2, hM2.setCell hbk x, hI2⟩, h.lw.dir.rise, h.lw.dir.keys⟩, ⟨mm, (hc _ 0 (by omega)).trans hm⟩, h.lw.below.setCell hX _, h.lw.lo, h.lw.right, h.lw.ver⟩, ⟨D, n, hn, hM.setCell hsb x, ?_⟩, h.lo, h.ne, h.right⟩
 exact ⟨hI.has, fun c q r hf => by
  obtain ⟨y, h1, h2⟩ := hI.val c q r hf
  exact ⟨y, h1, ⟨h2.ok, h2.cl, h2.sq, h2.er, h2.vl, h2.vr, SK_set h2.row ⟨cs, fr, hb'⟩⟩⟩, hI.size, hI.tidy⟩
theorem BX3.low {N M : Nat} {t : Cm} {r : Rep} {v : Value} {w w' : World} (h : BX3 N t r v w) (hb : Below M w w') (hM : N + 3 ≤ M) : BX3 N t r v w' := by
 have hz := h.z
 have e0 : ∀ o, w'.cell? ⟨N, o, none⟩ = w.cell? ⟨N, o, none⟩ := fun o => hb.cell (p := ⟨N, o, none⟩) (by show N < _; omega)
 have e1 : ∀ o, w'.cell? ⟨N + 1, o, none⟩ = w.cell? ⟨N + 1, o, none⟩ := fun o => hb.cell (p := ⟨N + 1, o, none⟩) (by show N + 1 < _; omega)
 have e2 : ∀ o, w'.cell? ⟨N + 2, o, none⟩ = w.cell? ⟨N + 2, o, none⟩ := fun o => hb.cell (p := ⟨N + 2, o, none⟩) (by show N + 2 < _; omega)
 exact ⟨⟨(e0 0).trans h.c.c0, (e0 1).trans h.c.c1, (e0 2).trans h.c.c2, (e0 3).trans h.c.c3, (e0 4).trans h.c.c4, (e0 5).trans h.c.c5, (e0 6).trans h.c.c6, (e0 7).trans h.c.c7⟩, (e1 0).trans h.k0, (e1 1).trans h.k1, (e1 2).trans h.k2, (e1 3).trans h.k3, (e2 0).trans h.r0, (e2 1).trans h.r1, (e2 2).trans h.r2, (e2 3).trans h.r3, fun o => (hb.frozen (p := ⟨N + 2, o, none⟩) (by show N + 2 < _; omega)).trans (h.f o), Nat.le_trans hz hb.size⟩
/-- The result's box is a reply's. -/
def TyR (b : Nat) (w : World) : Prop := ∃ cs fr, w.heap[b]? = some (.cells cs 36 fr)
theorem TyR.blk {b : Nat} {w w' : World} (h : TyR b w) (he : w'.heap[b]? = w.heap[b]?) : TyR b w' := by
 obtain ⟨cs, fr, hb⟩ := h
 exact ⟨cs, fr, he.trans hb⟩
theorem TyR.on {b : Nat} {w w' : World} (h : TyR b w) (hb : Below w.heap.size w w') : TyR b w' := h.blk (hb.block b (by obtain ⟨cs, fr, hh⟩ := h; exact (Array.getElem?_eq_some_iff.1 hh).1))
theorem tyR_box3 (w : World) (t : Cm) (r : Rep) (v : Value) : TyR (w.heap.size + 2) (box3 w t r v) := by
 have h := heap_alloc_new ((w.alloc (.cells #[.int .i64 t.cl, .int .i64 t.sq, .int .i64 t.op, .string t.pa, .string t.va, .int .i64 t.ver, .int .i64 t.a, .int .i64 t.b] 40)).alloc (.cells #[.int .i64 r.err, .string r.val, .int .i64 r.ver, v] 36)) (.cells #[.int .i64 0, .string { data := #[] }, .int .i64 0, .slice none 0 0] 36)
 rw [World.size_alloc, World.size_alloc] at h
 exact ⟨_, _, h⟩
/-- At the end: the result is stored. -/
theorem MApP.store {X w W5 W6 W7 : World} {g d bk sb K : Nat} {m m2 : Mac} {r : Rep} {v : Value} (h : MacAt X g d bk sb K m w) (G5 : w.grownBy W5 (some bk)) (hg6 : W5.grownBy W6 (some sb)) (hb7 : Below W6.heap.size W6 W7) (h6 : MacAt X g d bk sb (K + 1) m2 W6) (hty : TyR (w.heap.size + 2) W7) (ho : SK.Own W7 (w.heap.size + 3) v r.names)
  (x y z u : Value) (v2 : Value) (hv : v2 = repV r v) : MApP (r, m2) X g d bk sb K w (.returned v2) ((((W7.setCell ⟨w.heap.size + 2, 0, none⟩ x).setCell ⟨w.heap.size + 2, 1, none⟩ y).setCell ⟨w.heap.size + 2, 2, none⟩ z).setCell ⟨w.heap.size + 2, 3, none⟩ u) := by
 subst hv
 have hlt := h.lt
 have h7 := h6.on hb7
 obtain ⟨mm, hm⟩ := h.lw.ml
 have hml := World.block_lt_of_cell? w _ hm
 simp only at hml
 have mlk : ∀ W, MacAt X g d bk sb (K + 1) m2 W → ∃ mm, W.cell? ⟨0, 0, none⟩ = some (.int .i64 mm) ∧ 0 < w.heap.size + 2 := fun W hW => by
  obtain ⟨m3, h3⟩ := hW.lw.ml
  exact ⟨m3, h3, by omega⟩
 have hX : X.heap.size ≤ w.heap.size + 2 := by have := h.lw.below.size; omega
 have s1 := h7.set (b := w.heap.size + 2) (o := 0) (x := x) hty (by omega) (by omega) hX (mlk _ h7)
 have t1 := heap_set_cells (o := 0) (x := x) hty
 have s2 := s1.set (b := w.heap.size + 2) (o := 1) (x := y) t1 (by omega) (by omega) hX (mlk _ s1)
 have t2 := heap_set_cells (o := 1) (x := y) t1
 have s3 := s2.set (b := w.heap.size + 2) (o := 2) (x := z) t2 (by omega) (by omega) hX (mlk _ s2)
 have t3 := heap_set_cells (o := 2) (x := z) t2
 have s4 := s3.set (b := w.heap.size + 2) (o := 3) (x := u) t3 (by omega) (by omega) hX (mlk _ s3)
 refine ⟨v, rfl, ((((ho.set (by omega) _ _).set (by omega) _ _).set (by omega) _ _).set (by omega) _ _).base (by omega), s4, ?_⟩
 refine Gr2.two ⟨?_, ?_, ?_, ?_, fun k hk h1 h2 => ?_⟩ h.isMap
 ·exact hb7.os.trans (hg6.os.trans G5.os)
 ·exact hb7.tape.trans (hg6.tape.trans G5.tape)
 ·exact hb7.output.trans (hg6.output.trans G5.output)
 ·have := G5.size; have := hg6.size; have := hb7.size; simp; omega
 ·have z5 := G5.size
  have z6 := hg6.size
  rw [Below.heap_setCell _ _ _ k (by show k ≠ w.heap.size + 2; omega), Below.heap_setCell _ _ _ k (by show k ≠ w.heap.size + 2; omega), Below.heap_setCell _ _ _ k (by show k ≠ w.heap.size + 2; omega), Below.heap_setCell _ _ _ k (by show k ≠ w.heap.size + 2; omega), hb7.block k (by omega), hg6.block k (by omega) (fun e => h2 (Option.some.inj e)), G5.block k hk (fun e => h1 (Option.some.inj e))]
end Go.Proofs.YtodcmhmankmaoaaGreat
