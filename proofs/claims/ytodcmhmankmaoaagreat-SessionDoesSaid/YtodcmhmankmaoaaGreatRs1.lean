/-
 The document's machine: sessions as they lie in a row, wherever their lists are; what the loops of Apply come to, plainly.
-/
import Derived.Test.YtodcmhmankmaoaaGreatSesC
import Derived.Test.YtodcmhmankmaoaaGreatRdA
import Derived.Test.YtodcmhmankmaoaaGreatSht
import Derived.Deep.RegionLaw
namespace Go.Proofs.YtodcmhmankmaoaaGreat
open Go.RowKit Go.Sort
set_option linter.unusedSimpArgs false
set_option linter.unusedVariables false
set_option maxRecDepth 100000

theorem Bk.newA {w : World} {g : Nat} (hg : w.heap.size = g) (T : TypeId) (cs : List Value) : Bk (w.alloc (.cells cs.toArray T)) g T cs := by subst hg; exact Bk.new w T cs
/-- A session as it lies, its list anywhere. -/
structure SG where
 cl : Int
 sq : Int
 er : Int
 vl : ByteArray
 vr : Int
 a : Option Addr
 n : Nat
 c : Nat
def sgZ : SG := ⟨0, 0, 0, { data := #[] }, 0, none, 0, 0⟩
/-- Sessions as elements of rows, wherever their lists are. -/
noncomputable def SF : Knd Tryz.prog SG where
 T := 51
 S := 46
 k := 6
 enc := fun x => [.int .i64 x.cl, .int .i64 x.sq, .int .i64 x.er, .string x.vl, .int .i64 x.vr, .slice x.a x.n x.c]
 z := svV svZ
 B := 72
 len := fun _ => rfl
 one := fun x v h => by
  simp only [List.mem_cons, List.not_mem_nil, or_false] at h
  rcases h with rfl | rfl | rfl | rfl | rfl | rfl <;> rfl
 und := Tryz.underlying46
 info := infoSes
 zc := rfl
 pos := by omega
 small := by omega
 d := sgZ
/-- A list of names that came in, or one of a row of its own. -/
def NG (X w : World) (v : Value) (ns : List ByteArray) : Prop := SK.Rd X v ns ∨ SK.Own w X.heap.size v ns
theorem sk_nms {w : World} {v : Value} {ns : List ByteArray} (h : SK.Rd w v ns) : Nms w v ns := by
 obtain ⟨a, c, e, h1, h2, h3⟩ := h
 refine ⟨a, c, e, by unfold maxLen at h1; omega, ?_⟩
 rcases h3 with h3 | ⟨g, off, ha, hg, hc⟩
 ·exact .inl h3
 ·exact .inr ⟨g, off, ha, hg, fun i hi => hc i _ (by rw [sk_row]; simp [List.getD, hi])⟩
theorem NG.rd {X w : World} {v : Value} {ns : List ByteArray} (h : NG X w v ns) (hb : Below X.heap.size X w) : SK.Rd w v ns := by
 rcases h with h | h
 ·exact h.below hb
 ·exact h.rd
theorem NG.nms {X w : World} {v : Value} {ns : List ByteArray} (h : NG X w v ns) (hb : Below X.heap.size X w) : Nms w v ns := sk_nms (h.rd hb)
theorem NG.slice {X w : World} {v : Value} {ns : List ByteArray} (h : NG X w v ns) : ∃ a c, v = .slice a ns.length c := by
 rcases h with h | h
 ·exact h.slice
 ·exact h.slice
theorem NG.fr {X w w' : World} {S : Nat → Prop} {v : Value} {ns : List ByteArray} (h : NG X w v ns) (hf : Fr S w w') (hs : ∀ k cs fr, w.heap[k]? = some (.cells cs 9 fr) → ¬ S k) : NG X w' v ns := by
 rcases h with h | h
 ·exact .inl h
 ·refine .inr (hf.own h fun k hk => ?_)
  obtain ⟨_, cs, fr, e⟩ := h.blk k hk
  exact hs k cs fr e
theorem NG.on {X w w' : World} {v : Value} {ns : List ByteArray} (h : NG X w v ns) (hb : Below w.heap.size w w') : NG X w' v ns :=
 h.fr (Fr.ofBelow hb) fun k cs fr e q => absurd (Array.getElem?_eq_some_iff.1 e).1 (Nat.not_lt.2 q)
/-- The session that lies there. -/
structure GOf (X w : World) (x : SG) (e : S3) : Prop where
 cl : x.cl = e.1
 sq : x.sq = e.2.1
 er : x.er = e.2.2.err
 vl : x.vl = e.2.2.val
 vr : x.vr = e.2.2.ver
 row : NG X w (.slice x.a x.n x.c) e.2.2.names
structure MatchG (X w : World) (xs : List SG) (s : List S3) : Prop where
 len : xs.length = s.length
 at' : ∀ j, j < s.length → GOf X w (xs.getD j sgZ) (s.getD j zS)
theorem MatchG.fr {X w w' : World} {S : Nat → Prop} {xs : List SG} {s : List S3} (h : MatchG X w xs s) (hf : Fr S w w') (hs : ∀ k cs fr, w.heap[k]? = some (.cells cs 9 fr) → ¬ S k) : MatchG X w' xs s :=
 ⟨h.len, fun j hj => have q := h.at' j hj; ⟨q.cl, q.sq, q.er, q.vl, q.vr, q.row.fr hf hs⟩⟩
theorem MatchG.on {X w w' : World} {xs : List SG} {s : List S3} (h : MatchG X w xs s) (hb : Below w.heap.size w w') : MatchG X w' xs s :=
 h.fr (Fr.ofBelow hb) fun k cs fr e q => absurd (Array.getElem?_eq_some_iff.1 e).1 (Nat.not_lt.2 q)
theorem MatchG.nil (X w : World) : MatchG X w [] [] := ⟨rfl, fun j hj => absurd hj (Nat.not_lt_zero _)⟩
theorem MatchG.snoc {X w : World} {xs : List SG} {s : List S3} (h : MatchG X w xs s) {x : SG} {e : S3} (hx : GOf X w x e) : MatchG X w (xs ++ [x]) (s ++ [e]) := by
 refine ⟨by simp [h.len], fun j hj => ?_⟩
 rw [List.length_append, List.length_singleton] at hj
 by_cases hjl : j < s.length
 ·have hjx : j < xs.length := by rw [h.len]; exact hjl
  have q := h.at' j hjl
  simp only [List.getD, List.getElem?_append_left hjl, List.getElem?_append_left hjx] at q ⊢
  exact q
 ·have ej : j = s.length := by omega
  subst ej
  have e1 : (xs ++ [x]).getD s.length sgZ = x := by simp [List.getD, List.getElem?_append, h.len]
  have e2 : (s ++ [e]).getD s.length zS = e := by simp [List.getD]
  rw [e1, e2]
  exact hx
theorem sgCell {w : World} {a : Option Addr} {n c : Nat} {l : List SG} (h : SF.Rd w (.slice a n c) l) (k : Nat) (hk : k < n) : n = l.length ∧ ∃ g off, a = some ⟨g, off, none⟩ ∧ g < w.heap.size ∧ k < l.length ∧
  w.cell? ⟨g, off + k * 6, none⟩ = some (.int .i64 (l.getD k sgZ).cl) ∧ w.cell? ⟨g, off + k * 6 + 1, none⟩ = some (.int .i64 (l.getD k sgZ).sq) ∧ w.cell? ⟨g, off + k * 6 + 2, none⟩ = some (.int .i64 (l.getD k sgZ).er) ∧ w.cell? ⟨g, off + k * 6 + 3, none⟩ = some (.string (l.getD k sgZ).vl) ∧ w.cell? ⟨g, off + k * 6 + 4, none⟩ = some (.int .i64 (l.getD k sgZ).vr) ∧ w.cell? ⟨g, off + k * 6 + 5, none⟩ = some (.slice (l.getD k sgZ).a (l.getD k sgZ).n (l.getD k sgZ).c) := by
 have hl : l ≠ [] := by
  intro e
  obtain ⟨a', c', e', _⟩ := h
  subst e
  simp at e'
  omega
 obtain ⟨hn, g, off, rfl, hg, hc⟩ := h.at hl
 exact ⟨hn, g, off, rfl, hg, by omega, hc k hk 0 _ rfl, hc k hk 1 _ rfl, hc k hk 2 _ rfl, hc k hk 3 _ rfl, hc k hk 4 _ rfl, hc k hk 5 _ rfl⟩
/-- The document's machine at block r. -/
structure RM (X w : World) (base r : Nat) (v0 u : Value) (xs : List SG) (m : Mac) : Prop where
 rd : RD w base r 58 [u] v0 m.l
 own : SF.Own w base u xs
 mt : MatchG X w xs m.s
theorem RM.on {X w w' : World} {base r : Nat} {v0 u : Value} {xs : List SG} {m : Mac} (h : RM X w base r v0 u xs m) (hb : Below w.heap.size w w') : RM X w' base r v0 u xs m := ⟨h.rd.below hb, h.own.below hb, h.mt.on hb⟩
/-- What a command is answered by the document, and leaves. -/
def RMP (R : Rep × Mac) (X w : World) (base r : Nat) (v0 u : Value) (e : Ending) (w' : World) : Prop :=
 (∃ v, Hid (e = .returned (repV R.1 v)) ∧ NG X w' v R.1.names) ∧ (∃ v' u' xs', RM X w' base r v' u' xs' R.2 ∧ ∀ q, v'.ownBlock = some q → v0.ownBlock = some q ∨ w.heap.size ≤ q) ∧ Fr (fun k => k = r ∨ v0.ownBlock = some k) w w'
theorem RMP.quiet {R : Rep} {X w w' : World} {base r : Nat} {v0 u : Value} {xs : List SG} {m : Mac} (h : RM X w base r v0 u xs m) (hb : Below w.heap.size w w') {v e : Value} (he : e = repV R v) (hn : NG X w' v R.names) : RMP (R, m) X w base r v0 u (.returned e) w' :=
 ⟨⟨v, Lib.hid (by rw [he]), hn⟩, ⟨v0, u, xs, h.on hb, fun q hq => .inl hq⟩, (Fr.ofBelow hb).mono fun j hj q => absurd hj (Nat.not_lt.2 q)⟩
theorem NG.none (X w : World) : NG X w (.slice none 0 0) [] := .inr (Knd.Own.nil _ _)
/-- Where a client is, up to the k-th. -/
def AtI (s : List S3) (c : Int) (k : Nat) (A : Int) : Prop := (A = -1 ∧ ∀ j, j < k → (s.getD j zS).1 ≠ c) ∨ ∃ j, j < k ∧ j < s.length ∧ A = (j : Int) ∧ (s.getD j zS).1 = c
theorem AtI.start (s : List S3) (c : Int) : AtI s c 0 (-1) := .inl ⟨rfl, fun j hj => absurd hj (Nat.not_lt_zero _)⟩
theorem AtI.here {s : List S3} {c : Int} {k : Nat} (hk : k < s.length) (h : (s.getD k zS).1 = c) : AtI s c (k + 1) (k : Int) := .inr ⟨k, Nat.lt_succ_self _, hk, rfl, h⟩
theorem AtI.on {s : List S3} {c : Int} {k : Nat} {A : Int} (h : AtI s c k A) (hn : (s.getD k zS).1 ≠ c) : AtI s c (k + 1) A := by
 rcases h with ⟨e, h⟩ | ⟨j, h1, h2, h3, h4⟩
 ·refine .inl ⟨e, fun j hj => ?_⟩
  by_cases ej : j = k
  ·rw [ej]; exact hn
  ·exact h j (by omega)
 ·exact .inr ⟨j, by omega, h2, h3, h4⟩
theorem AtI.fnd {s : List S3} (hr : RisesS s) {c A : Int} (h : AtI s c s.length A) : (A = -1 ∧ fndS s c = none) ∨ ∃ j q r, j < s.length ∧ A = (j : Int) ∧ s.getD j zS = (c, q, r) ∧ fndS s c = some (q, r) := by
 rcases h with ⟨e, h⟩ | ⟨j, _, h2, h3, h4⟩
 ·refine .inl ⟨e, ?_⟩
  cases hf : fndS s c with
  | none => rfl
  | some y =>
   obtain ⟨q, r⟩ := y
   obtain ⟨j, hj, e⟩ := List.getElem_of_mem ((fndS_some hr).1 hf)
   refine absurd ?_ (h j hj)
   simp [List.getD, hj, e]
 ·obtain ⟨⟨c', q, r⟩, hE⟩ : ∃ E, s.getD j zS = E := ⟨_, rfl⟩
  rw [hE] at h4
  simp only at h4
  subst h4
  refine .inr ⟨j, q, r, h2, h3, hE, (fndS_some hr).2 ?_⟩
  rw [← hE, List.getD, List.getElem?_eq_getElem h2]
  exact List.getElem_mem h2
/-- Sessions gone through up to the k-th, and the new one put in, if it is. -/
def QI (s : List S3) (x : S3) (k : Nat) (done : Bool) (S : List S3) : Prop :=
 S = lowS (s.take k) x.1 ++ (if done then x :: upS (s.take k) x.1 else []) ∧ (done = false → upS (s.take k) x.1 = []) ∧ (done = true → ∃ j, j < k ∧ j < s.length ∧ x.1 < (s.getD j zS).1)
theorem QI.start (s : List S3) (x : S3) : QI s x 0 false [] := ⟨by simp [lowS], (fun _ => by simp [upS]), (fun h => by cases h)⟩
theorem takeQ {s : List S3} {k : Nat} (hk : k < s.length) : s.take (k + 1) = s.take k ++ [s.getD k zS] := by
 rw [List.take_succ_eq_append_getElem hk]
 simp [List.getD, hk]
theorem lowS_app (a b : List S3) (c : Int) : lowS (a ++ b) c = lowS a c ++ lowS b c := List.filter_append ..
theorem upS_app (a b : List S3) (c : Int) : upS (a ++ b) c = upS a c ++ upS b c := List.filter_append ..
theorem low0 {e : S3} {c : Int} (h : ¬ e.1 < c) : lowS [e] c = [] := by simp [lowS]; omega
theorem low1 {e : S3} {c : Int} (h : e.1 < c) : lowS [e] c = [e] := by simp [lowS, h]
theorem up0 {e : S3} {c : Int} (h : ¬ c < e.1) : upS [e] c = [] := by simp [upS]; omega
theorem up1 {e : S3} {c : Int} (h : c < e.1) : upS [e] c = [e] := by simp [upS, h]
theorem QI.len {s S : List S3} {x : S3} {k : Nat} {d : Bool} (h : QI s x k d S) : S.length ≤ 2 * k + 1 := by
 rw [h.1, List.length_append]
 have h1 : (lowS (s.take k) x.1).length ≤ k := Nat.le_trans (List.length_filter_le _ _) (List.length_take_le _ _)
 have h2 : (upS (s.take k) x.1).length ≤ k := Nat.le_trans (List.length_filter_le _ _) (List.length_take_le _ _)
 cases d <;> simp <;> omega
theorem QI.skip {s S : List S3} {x : S3} {k : Nat} {d : Bool} (h : QI s x k d S) (hk : k < s.length) (he : (s.getD k zS).1 = x.1) : QI s x (k + 1) d S := by
 have e1 : lowS [s.getD k zS] x.1 = [] := low0 (by omega)
 have e2 : upS [s.getD k zS] x.1 = [] := up0 (by omega)
 obtain ⟨h1, h2, h3⟩ := h
 refine ⟨?_, fun q => ?_, fun q => ?_⟩
 ·rw [takeQ hk, lowS_app, upS_app, e1, e2, List.append_nil, List.append_nil]; exact h1
 ·rw [takeQ hk, upS_app, e2, List.append_nil]; exact h2 q
 ·obtain ⟨j, a, b, c⟩ := h3 q; exact ⟨j, by omega, b, c⟩
theorem QI.stay {s S : List S3} {x : S3} {k : Nat} (h : QI s x k false S) (hk : k < s.length) (hl : (s.getD k zS).1 < x.1) : QI s x (k + 1) false (S ++ [s.getD k zS]) := by
 have e1 : lowS [s.getD k zS] x.1 = [s.getD k zS] := low1 hl
 have e2 : upS [s.getD k zS] x.1 = [] := up0 (by omega)
 obtain ⟨h1, h2, h3⟩ := h
 refine ⟨?_, fun q => ?_, fun q => by cases q⟩
 ·rw [takeQ hk, lowS_app, e1, h1]; simp
 ·rw [takeQ hk, upS_app, e2, List.append_nil]; exact h2 rfl
theorem QI.here {s S : List S3} {x : S3} {k : Nat} (h : QI s x k false S) (hk : k < s.length) (hl : x.1 < (s.getD k zS).1) : QI s x (k + 1) true (S ++ [x] ++ [s.getD k zS]) := by
 have e1 : lowS [s.getD k zS] x.1 = [] := low0 (by omega)
 have e2 : upS [s.getD k zS] x.1 = [s.getD k zS] := up1 hl
 obtain ⟨h1, h2, h3⟩ := h
 refine ⟨?_, (fun q => by cases q), fun _ => ⟨k, Nat.lt_succ_self _, hk, hl⟩⟩
 rw [takeQ hk, lowS_app, upS_app, e1, e2, h2 rfl, h1]
 simp
theorem QI.on {s S : List S3} (hr : RisesS s) {x : S3} {k : Nat} (h : QI s x k true S) (hk : k < s.length) : QI s x (k + 1) true (S ++ [s.getD k zS]) := by
 obtain ⟨h1, h2, h3⟩ := h
 obtain ⟨j, a, b, c⟩ := h3 rfl
 have hl : x.1 < (s.getD k zS).1 := by
  have q := List.pairwise_iff_getElem.1 hr j k b hk a
  simp only [List.getD, List.getElem?_eq_getElem b, Option.getD_some] at c
  simp only [List.getD, List.getElem?_eq_getElem hk, Option.getD_some]
  exact Int.lt_trans c q
 have e1 : lowS [s.getD k zS] x.1 = [] := low0 (by omega)
 have e2 : upS [s.getD k zS] x.1 = [s.getD k zS] := up1 hl
 refine ⟨?_, (fun q => by cases q), fun _ => ⟨k, Nat.lt_succ_self _, hk, hl⟩⟩
 rw [takeQ hk, lowS_app, upS_app, e1, e2, h1]
 simp
theorem QI.end' {s S : List S3} {c q : Int} {r : Rep} {d : Bool} (h : QI s (c, q, r) s.length d S) : (if d then S else S ++ [(c, q, r)]) = putS s c q r := by
 obtain ⟨h1, h2, h3⟩ := h
 rw [List.take_length] at h1 h2
 cases d with
 | true => simpa [putS] using h1
 | false =>
  have := h2 rfl
  simp only at h1 this
  simp [putS, h1, this]
end Go.Proofs.YtodcmhmankmaoaaGreat
