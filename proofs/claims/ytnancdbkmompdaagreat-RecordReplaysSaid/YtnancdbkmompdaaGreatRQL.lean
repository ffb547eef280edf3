/-
  Texts put together: Rcv, IdsM, Ids1, Ids2.
-/
import Derived.Test.YtnancdbkmompdaaGreatRY
import Derived.Test.YtnancdbkmompdaaGreatRQA
import Derived.LoopTactic
import Derived.Test.YtnancdbkmompdaaGreatRows
import Derived.Test.YtnancdbkmompdaaGreatRQD
import Derived.Test.YtnancdbkmompdaaGreatRQF
import Derived.Deep.RegionHeld3
import Derived.Sort.Grow
import Derived.Maps.OwnSet
import Derived.Maps.RangeWalk
import Derived.DeepKeys4
namespace Go.Proofs.YtnancdbkmompdaaGreat.Cv
open Go.RowKit
set_option linter.unusedSimpArgs false
set_option linter.unusedVariables false
set_option maxRecDepth 100000
set_option maxHeartbeats 40000000
/-- A slice of numbers, as it lies in memory. -/
def IRow (w : World) (a : Option Addr) (zs : List Int) : Prop :=
 zs.length ≤ 9223372036854775807 ∧ (zs = [] ∨ ∃ b off, a = some ⟨b, off, none⟩ ∧ b < w.heap.size ∧ ∀ i, i < zs.length → w.cell? ⟨b, off + i, none⟩ = some (.int .i64 (zs.getD i 0)))
theorem IRow.below {w w' : World} {a : Option Addr} {zs : List Int} (h : IRow w a zs) (hb : Below w.heap.size w w') : IRow w' a zs := by
 obtain ⟨h1, h2⟩ := h
 refine ⟨h1, ?_⟩
 rcases h2 with h2 | ⟨b, off, ha, hbl, hc⟩
 ·exact .inl h2
 ·exact .inr ⟨b, off, ha, by have := hb.size; omega, fun i hi => by rw [hb.cell (p := ⟨b, off + i, none⟩) hbl]; exact hc i hi⟩
/-- How a slice's address and capacity fit its numbers. -/
def FitsI (a : Option Addr) (xs : List Int) (cap : Nat) : Prop := (a = none → cap = 0) ∧ xs.length ≤ cap ∧ cap ≤ 9223372036854775807
/-- A slice of numbers. -/
structure It (w : World) (v : Value) (xs : List Int) : Prop where
 row : ∃ a cap, v = .slice a xs.length cap ∧ IRow w a xs ∧ FitsI a xs cap
/-- A slice of numbers that lies from a block on. -/
structure ItF (w : World) (base : Nat) (v : Value) (xs : List Int) : Prop where
 it : It w v xs
 from_ : ∀ k, v.ownBlock = some k → base ≤ k
 flat : ∀ ad n c, v = .slice (some ad) n c → ad.spot = none
section
variable {ops : Array Oper} {rest : List Oper} {o : Oper} {a : Act} {w : World} {Q : Exit → Act → World → Prop}
end
end Go.Proofs.YtnancdbkmompdaaGreat.Cv
namespace Go.Proofs.YtnancdbkmompdaaGreat.Cv
set_option linter.unusedSimpArgs false
set_option linter.unusedVariables false
set_option maxRecDepth 100000
set_option maxHeartbeats 40000000
/-- Does the list rise? -/
def Rises (l : List Int) : Prop := l.Pairwise (· < ·)
theorem Rises.head {x : Int} {l : List Int} (h : Rises (x :: l)) : ∀ y ∈ l, x < y := (List.pairwise_cons.1 h).1
/-- Where one goes in: behind all lesser ones. -/
def spot (x : Int) (l : List Int) : Nat := (l.filter fun y => decide (y < x)).length
/-- With one more. -/
def ins (x : Int) (l : List Int) : List Int := l.take (spot x l) ++ [x] ++ l.drop (spot x l)
/-- Without one. -/
def del (x : Int) (l : List Int) : List Int := l.filter fun y => !(y == x)
/-- May a number be a node's? -/
def isN (n : Int) : Bool := decide (0 ≤ n) && decide (n ≤ 31)
/-- The nodes' part of what may be. -/
def Nodes (l : List Int) : Prop := Rises l ∧ (∀ x ∈ l, 0 ≤ x ∧ x ≤ 31) ∧ 1 ≤ l.length ∧ l.length ≤ 7
/-- May a configuration be? -/
def Val (ep : Int) (l : List Int) : Prop := 0 ≤ ep ∧ ep ≤ 1048576 ∧ Nodes l
instance (l : List Int) : Decidable (Rises l) := inferInstanceAs (Decidable (List.Pairwise _ _))
instance (l : List Int) : Decidable (Nodes l) := inferInstanceAs (Decidable (_ ∧ _))
instance (ep : Int) (l : List Int) : Decidable (Val ep l) := inferInstanceAs (Decidable (_ ∧ _))
def valB (ep : Int) (l : List Int) : Bool := decide (Val ep l)
/-- What a change comes to: what is wrong, the epoch, the nodes. -/
structure Chg where
 err : Int
 ep : Int
 ns : List Int
def no (e : Int) : Chg := ⟨e, 0, []⟩
theorem isN_iff (n : Int) : isN n = true ↔ 0 ≤ n ∧ n ≤ 31 := by simp [isN]
/-- What a change that goes through does. -/
inductive Does (l : List Int) (op a b : Int) : List Int → Prop
 | add : op = 7 → 0 ≤ a → a ≤ 31 → a ∉ l → l.length < 7 → Does l op a b (ins a l)
 | rem : op = 8 → a ∈ l → 1 < l.length → Does l op a b (del a l)
 | rep : op = 9 → a ∈ l → 0 ≤ b → b ≤ 31 → b ∉ l → Does l op a b (ins b (del a l))
/-- A list rises where each rises above the one ahead. -/
theorem rises_of : ∀ {l : List Int}, (∀ i, i + 1 < l.length → l.getD i 0 < l.getD (i + 1) 0) → Rises l
 | [], _ => List.Pairwise.nil
 | [x], _ => by simp [Rises]
 | x :: y :: l, h => by
  have h0 := h 0 (by simp)
  simp at h0
  have ht : Rises (y :: l) := rises_of fun i hi => by have := h (i + 1) (by simpa using hi); simpa using this
  refine List.pairwise_cons.2 ⟨fun z hz => ?_, ht⟩
  simp only [List.mem_cons] at hz
  rcases hz with e | e
  ·subst e; exact h0
  ·have := ht.head z e; omega
theorem rises_lt {l : List Int} (h : Rises l) {i j : Nat} (hij : i < j) (hj : j < l.length) : l.getD i 0 < l.getD j 0 := by
 have := List.pairwise_iff_getElem.1 h i j (by omega) hj hij
 simpa [List.getD, List.getElem?_eq_getElem (show i < l.length by omega), List.getElem?_eq_getElem hj] using this
/-- What was looked at so far. -/
def okTo (l : List Int) (k : Nat) : Prop := (∀ i, i < k → isN (l.getD i 0) = true) ∧ ∀ i, i + 1 < k → l.getD i 0 < l.getD (i + 1) 0
theorem okTo_zero (l : List Int) : okTo l 0 := ⟨fun i h => by omega, fun i h => by omega⟩
theorem okTo_succ {l : List Int} {k : Nat} (h : okTo l k) (h1 : isN (l.getD k 0) = true) (h2 : 0 < k → l.getD (k - 1) 0 < l.getD k 0) : okTo l (k + 1) :=
 ⟨fun i hi => by
  by_cases e : i = k
  ·subst e; exact h1
  ·exact h.1 i (by omega), fun i hi => by
  by_cases e : i + 1 = k
  ·subst e; exact h2 (by omega)
  ·exact h.2 i (by omega)⟩
theorem okTo_all {l : List Int} (h : okTo l l.length) : Rises l ∧ ∀ x ∈ l, 0 ≤ x ∧ x ≤ 31 :=
 ⟨rises_of h.2, fun x hx => by
  obtain ⟨i, hi, rfl⟩ := List.mem_iff_getElem.1 hx
  have := h.1 i hi
  rw [isN_iff] at this
  simpa [List.getD, List.getElem?_eq_getElem hi] using this⟩
theorem valB_ok {ep : Int} {l : List Int} (h0 : 0 ≤ ep) (h1 : ep ≤ 1048576) (h2 : 1 ≤ l.length) (h3 : l.length ≤ 7) (h : okTo l l.length) : valB ep l = true := by
 simp only [valB, decide_eq_true_eq]
 obtain ⟨a, b⟩ := okTo_all h
 exact ⟨h0, h1, a, b, h2, h3⟩
theorem valB_no1 {ep : Int} {l : List Int} {k : Nat} (hk : k < l.length) (h : isN (l.getD k 0) = false) : valB ep l = false := by
 simp only [valB, decide_eq_false_iff_not]
 rintro ⟨_, _, _, b, _⟩
 have := b (l.getD k 0) (by simp [List.getD, List.getElem?_eq_getElem hk])
 rw [← isN_iff, h] at this
 cases this
theorem valB_no2 {ep : Int} {l : List Int} {k : Nat} (hk : k < l.length) (h0 : 0 < k) (h : ¬ l.getD (k - 1) 0 < l.getD k 0) : valB ep l = false := by
 simp only [valB, decide_eq_false_iff_not]
 rintro ⟨_, _, a, _⟩
 exact h (rises_lt a (by omega) hk)
theorem valB_no0 {ep : Int} {l : List Int} (h : ep < 0 ∨ 1048576 < ep ∨ l.length < 1 ∨ 7 < l.length) : valB ep l = false := by
 simp only [valB, decide_eq_false_iff_not]
 rintro ⟨h0, h1, _, _, h2, h3⟩
 omega
end Go.Proofs.YtnancdbkmompdaaGreat.Cv
namespace Go.Proofs.YtnancdbkmompdaaGreat.Cv
open Go.RowKit
set_option linter.unusedSimpArgs false
set_option linter.unusedVariables false
set_option maxRecDepth 100000
set_option maxHeartbeats 40000000
abbrev cfgV (ep : Int) (a : Option Addr) (n c : Nat) : Value := .agg #[.int .i64 ep, .slice a n c]
theorem isNode_any (n : Int) (w : World) : Calls Tryz.prog 69 #[.int .i64 n] w fun e w' => e = .returned (.bool (isN n)) ∧ w = w' := by
 by_cases h1 : 0 ≤ n
 ·by_cases h2 : n ≤ 31
  ·have e1 : isN n = true := by simp [isN, h1, h2]
   rw [e1]; clear e1
   go_enter Tryz.func69, Tryz.ntmps69
   go_wp2
   go_ret
   exact ⟨rfl, rfl⟩
  ·have e1 : isN n = false := by simp [isN, h1, h2]
   rw [e1]; clear e1
   go_enter Tryz.func69, Tryz.ntmps69
   go_wp2
   go_ret
   exact ⟨rfl, rfl⟩
 ·have e1 : isN n = false := by simp [isN, h1]
  have d1 : decide (0 ≤ n) = false := by simpa using h1
  rw [e1]; clear e1
  go_enter Tryz.func69, Tryz.ntmps69
  go_wp2
  go_ret
  exact ⟨rfl, rfl⟩
/-- The world that a configuration was laid in. -/
abbrev boxC (w : World) (ep : Int) (a : Option Addr) (n c : Nat) : World := w.alloc (.cells #[.int .i64 ep, .slice a n c] 24)
theorem valid_any (ep : Int) (a : Option Addr) (cap : Nat) (ns : List Int) (w : World) (hr : IRow w a ns) : Calls Tryz.prog 43 #[cfgV ep a ns.length cap] w fun e w' => e = .returned (.bool (valB ep ns)) ∧ Below w.heap.size w w' := by
 have hbel : Below w.heap.size w (boxC w ep a ns.length cap) := (Below.refl _ _).alloc (Nat.le_refl _) _
 obtain ⟨hl, hrow⟩ := hr.below hbel
 have HB := Hd hbel
 clear hbel hr
 by_cases t1 : ep < 0
 ·have HE := Hd (valB_no0 (ep := ep) (l := ns) (.inl t1))
  clear hrow
  go_enter Tryz.func43, Tryz.ntmps43
  go_wp2
  go_ret
  exact ⟨ret_bool HE.out.symm, HB.out⟩
 have d1 : decide (ep < 0) = false := by simpa using t1
 by_cases t2 : 1048576 < ep
 ·have HE := Hd (valB_no0 (ep := ep) (l := ns) (.inr (.inl t2)))
  clear hrow
  go_enter Tryz.func43, Tryz.ntmps43
  go_wp2
  go_ret
  exact ⟨ret_bool HE.out.symm, HB.out⟩
 have d2 : decide (1048576 < ep) = false := by simpa using t2
 by_cases t3 : (ns.length : Int) < 1
 ·have HE := Hd (valB_no0 (ep := ep) (l := ns) (.inr (.inr (.inl (by omega)))))
  clear hrow
  go_enter Tryz.func43, Tryz.ntmps43
  go_wp2
  go_ret
  exact ⟨ret_bool HE.out.symm, HB.out⟩
 have d3 : decide ((ns.length : Int) < 1) = false := by simpa using t3
 by_cases t4 : (7 : Int) < ns.length
 ·have HE := Hd (valB_no0 (ep := ep) (l := ns) (.inr (.inr (.inr (by omega)))))
  clear hrow
  go_enter Tryz.func43, Tryz.ntmps43
  go_wp2
  go_ret
  exact ⟨ret_bool HE.out.symm, HB.out⟩
 have d4 : decide ((7 : Int) < ns.length) = false := by simpa using t4
 rcases hrow with h0 | ⟨b, off, rfl, hb, hc⟩
 ·subst h0; simp at t3
 have HV : Hid (okTo ns ns.length → valB ep ns = true) := fun h => valB_ok (by omega) (by omega) (by omega) (by omega) h
 have HC := Hd hc
 have g1 : 0 ≤ ep := by omega
 have g2 : ep ≤ 1048576 := by omega
 clear hc hl
 go_enter Tryz.func43, Tryz.ntmps43
 go_wp2
 go_loop [28] (fun i => ∃ k : Nat, k ≤ ns.length ∧ i = .int .i64 k ∧ Hid (okTo ns k)) (fun i => ns.length - (intOf i).toNat)
 case atStart => exact ⟨0, Nat.zero_le _, rfl, okTo_zero ns⟩
 case round =>
  obtain ⟨k, hk, rfl, hH⟩ := hrel
  by_cases hlt : k < ns.length
  ·have hcell := HC.out k hlt
   obtain ⟨z, hz⟩ : ∃ z, ns.getD k 0 = z := ⟨_, rfl⟩
   rw [hz] at hcell
   have HZ := Hd hz
   clear hz
   cases q1 : isN z
   ·have Q1 := Hd q1
    have HE : Hid (valB ep ns = false) := valB_no1 hlt (by rw [HZ.out]; exact q1)
    clear q1
    go_wp2_with (go_at_call 69; refine (isNode_any _ _).mono ?_; rw [Q1.out]; rintro e w' ⟨rfl, rfl⟩)
    go_ret
    exact ⟨ret_bool HE.out.symm, HB.out⟩
   have Q1 := Hd q1
   clear q1
   by_cases t5 : 0 < k
   ·have hcell2 := HC.out (k - 1) (by omega)
    obtain ⟨y, hy⟩ : ∃ y, ns.getD (k - 1) 0 = y := ⟨_, rfl⟩
    rw [hy] at hcell2
    have HY := Hd hy
    clear hy
    have t6 : (0 : Int) < k := by omega
    have t7 : (k : Int) - 1 < ns.length := by omega
    by_cases t8 : z ≤ y
    ·have HE : Hid (valB ep ns = false) := valB_no2 hlt t5 (by rw [HZ.out, HY.out]; omega)
     go_wp2_with (go_at_call 69; refine (isNode_any _ _).mono ?_; rw [Q1.out]; rintro e w' ⟨rfl, rfl⟩)
     go_ret
     exact ⟨ret_bool HE.out.symm, HB.out⟩
    ·have HE : Hid (okTo ns (k + 1)) := okTo_succ hH.out (by rw [HZ.out]; exact Q1.out) (fun _ => by rw [HZ.out, HY.out]; omega)
     go_wp2_with (go_at_call 69; refine (isNode_any _ _).mono ?_; rw [Q1.out]; rintro e w' ⟨rfl, rfl⟩)
     go_round
     case rel => exact ⟨k + 1, by omega, by go_num, HE⟩
     case measure => simp [intOf]; omega
   ·have HE : Hid (okTo ns (k + 1)) := okTo_succ hH.out (by rw [HZ.out]; exact Q1.out) (fun h => absurd h t5)
    have t6 : decide ((0 : Int) < k) = false := by simp; omega
    go_wp2_with (go_at_call 69; refine (isNode_any _ _).mono ?_; rw [Q1.out]; rintro e w' ⟨rfl, rfl⟩)
    go_round
    case rel => exact ⟨k + 1, by omega, by go_num, HE⟩
    case measure => simp [intOf]; omega
  ·have : k = ns.length := by omega
   subst this
   have HE : Hid (valB ep ns = true) := HV.out hH.out
   go_wp2
   go_ret
   exact ⟨ret_bool HE.out.symm, HB.out⟩
end Go.Proofs.YtnancdbkmompdaaGreat.Cv
namespace Go.Proofs.YtnancdbkmompdaaGreat
set_option linter.unusedSimpArgs false
set_option linter.unusedVariables false
set_option maxRecDepth 100000
set_option maxHeartbeats 40000000
/-- An instance: epoch, node, number. -/
abbrev I3 : Type := Int × Int × Int
def ltI (a b : I3) : Bool := if a.1 ≠ b.1 then decide (a.1 < b.1) else if a.2.2 ≠ b.2.2 then decide (a.2.2 < b.2.2) else decide (a.2.1 < b.2.1)
theorem ltI_iff (a b : I3) : ltI a b = true ↔ a.1 < b.1 ∨ (a.1 = b.1 ∧ (a.2.2 < b.2.2 ∨ (a.2.2 = b.2.2 ∧ a.2.1 < b.2.1))) := by
 unfold ltI
 split
 ·simp; omega
 ·split
  ·simp; omega
  ·simp; omega
theorem ltI_irrefl (a : I3) : ltI a a = false := by rw [Bool.eq_false_iff]; intro h; rw [ltI_iff] at h; omega
theorem ltI_trans {a b c : I3} (h : ltI a b = true) (k : ltI b c = true) : ltI a c = true := by rw [ltI_iff] at *; omega
theorem ltI_asymm {a b : I3} (h : ltI a b = true) : ltI b a = false := by rw [Bool.eq_false_iff]; intro k; rw [ltI_iff] at *; omega
theorem i3_ext {a b : I3} (h1 : a.1 = b.1) (h2 : a.2.1 = b.2.1) (h3 : a.2.2 = b.2.2) : a = b := Prod.ext h1 (Prod.ext h2 h3)
theorem ltI_total {a b : I3} (h : ltI a b = false) (k : ltI b a = false) : a = b := by
 rw [Bool.eq_false_iff, ne_eq, ltI_iff] at h k
 exact i3_ext (by omega) (by omega) (by omega)
/-- It rises, each once. -/
abbrev Rises (l : List I3) : Prop := l.Pairwise fun a b => ltI a b = true
theorem Rises.uniq : ∀ {a b : List I3}, Rises a → Rises b → (∀ x, x ∈ a ↔ x ∈ b) → a = b
 | [], [], _, _, _ => rfl
 | [], y :: b, _, _, h => by have := (h y).2 (by simp); simp at this
 | x :: a, [], _, _, h => by have := (h x).1 (by simp); simp at this
 | x :: a, y :: b, ha, hb, h => by
  replace ha := List.pairwise_cons.1 ha
  replace hb := List.pairwise_cons.1 hb
  have e : x = y := by
   have h1 := (h x).1 (by simp)
   have h2 := (h y).2 (by simp)
   rcases List.mem_cons.1 h1 with e | m
   ·exact e
   ·rcases List.mem_cons.1 h2 with e | m2
    ·exact e.symm
    ·have q1 := hb.1 x m
     have q2 := ha.1 y m2
     rw [ltI_asymm q1] at q2; cases q2
  subst e
  have : a = b := Rises.uniq ha.2 hb.2 (fun z => by
   have hz := h z
   simp only [List.mem_cons] at hz
   constructor
   ·intro m
    rcases hz.1 (.inr m) with e | m2
    ·subst e; have := ha.1 z m; rw [ltI_irrefl] at this; cases this
    ·exact m2
   ·intro m
    rcases hz.2 (.inr m) with e | m2
    ·subst e; have := hb.1 z m; rw [ltI_irrefl] at this; cases this
    ·exact m2)
  rw [this]
/-- Put at its place. -/
def hasI (l : List I3) (x : I3) : Bool := l.any fun y => decide (y = x)
theorem hasI_iff (l : List I3) (x : I3) : hasI l x = true ↔ x ∈ l := by unfold hasI; simp
theorem hasI_false (l : List I3) (x : I3) : hasI l x = false ↔ x ∉ l := by rw [← hasI_iff]; simp
def putI (l : List I3) (x : I3) : List I3 := if hasI l x then l else (l.takeWhile fun y => !ltI x y) ++ x :: l.dropWhile fun y => !ltI x y
def clnI (l : List I3) : List I3 := l.foldl putI []
theorem mem_putI (l : List I3) (x y : I3) : y ∈ putI l x ↔ y = x ∨ y ∈ l := by
 unfold putI
 split
 ·rename_i h
  rw [hasI_iff] at h
  constructor
  ·exact .inr
  ·rintro (rfl | m)
   ·exact h
   ·exact m
 ·have e : ∀ z, z ∈ l ↔ z ∈ (l.takeWhile fun y => !ltI x y) ∨ z ∈ (l.dropWhile fun y => !ltI x y) := by
   intro z; rw [← List.mem_append, List.takeWhile_append_dropWhile]
  rw [List.mem_append, List.mem_cons, e y]
  constructor
  ·rintro (h | h | h)
   ·exact .inr (.inl h)
   ·exact .inl h
   ·exact .inr (.inr h)
  ·rintro (h | h | h)
   ·exact .inr (.inl h)
   ·exact .inl h
   ·exact .inr (.inr h)
theorem drop_after {x : I3} : ∀ {l : List I3}, Rises l → ∀ z ∈ l.dropWhile (fun y => !ltI x y), ltI x z = true
 | [], _, z, h => by simp at h
 | y :: l, hl, z, h => by
  replace hl := List.pairwise_cons.1 hl
  rw [List.dropWhile_cons] at h
  cases q : ltI x y with
  | false => rw [q] at h; exact drop_after hl.2 z (by simpa using h)
  | true =>
   rw [q] at h
   simp at h
   rcases h with rfl | h
   ·exact q
   ·exact ltI_trans q (hl.1 z h)
theorem take_before {x : I3} : ∀ {l : List I3}, x ∉ l → ∀ z ∈ l.takeWhile (fun y => !ltI x y), ltI z x = true
 | [], _, z, h => by simp at h
 | y :: l, hx, z, h => by
  rw [List.takeWhile_cons] at h
  cases q : ltI x y with
  | true => rw [q] at h; simp at h
  | false =>
   rw [q] at h
   simp at h
   simp at hx
   rcases h with rfl | h
   ·cases k : ltI z x with
    | true => rfl
    | false => exact absurd (ltI_total q k) hx.1
   ·exact take_before hx.2 z h
theorem rises_putI {l : List I3} (x : I3) (h : Rises l) : Rises (putI l x) := by
 unfold putI
 split
 ·exact h
 ·rename_i hn
  have hx : x ∉ l := by rw [← hasI_false]; simpa using hn
  rw [Rises, List.pairwise_append]
  refine ⟨h.sublist (List.takeWhile_sublist _), ?_, ?_⟩
  ·rw [List.pairwise_cons]
   exact ⟨drop_after h, h.sublist (List.dropWhile_sublist _)⟩
  ·intro a ha b hb
   have h1 := take_before hx a ha
   rcases List.mem_cons.1 hb with rfl | hb
   ·exact h1
   ·exact ltI_trans h1 (drop_after h b hb)
theorem foldl_putI (l : List I3) : ∀ o, (Rises o → Rises (l.foldl putI o)) ∧ ∀ y, y ∈ l.foldl putI o ↔ y ∈ o ∨ y ∈ l := by
 induction l with
 | nil => intro o; exact ⟨id, fun y => by simp⟩
 | cons x l ih =>
  intro o
  refine ⟨fun h => (ih _).1 (rises_putI x h), fun y => ?_⟩
  rw [List.foldl_cons, (ih _).2, mem_putI, List.mem_cons]
  constructor
  ·rintro ((h | h) | h)
   ·exact .inr (.inl h)
   ·exact .inl h
   ·exact .inr (.inr h)
  ·rintro (h | h | h)
   ·exact .inl (.inr h)
   ·exact .inl (.inl h)
   ·exact .inr h
theorem clnI_rises (l : List I3) : Rises (clnI l) := (foldl_putI l []).1 List.Pairwise.nil
theorem mem_clnI (l : List I3) (y : I3) : y ∈ clnI l ↔ y ∈ l := by unfold clnI; rw [(foldl_putI l []).2]; simp
/-- A rising list of just those is the set. -/
theorem clnI_eq {l a : List I3} (h : Rises a) (hm : ∀ x, x ∈ a ↔ x ∈ l) : clnI l = a := (clnI_rises l).uniq h fun x => (mem_clnI l x).trans (hm x).symm
def uniI (a b : List I3) : List I3 := clnI (a ++ b)
theorem mem_uniI (a b : List I3) (y : I3) : y ∈ uniI a b ↔ y ∈ a ∨ y ∈ b := by unfold uniI; rw [mem_clnI, List.mem_append]
theorem len_putI (l : List I3) (x : I3) : (putI l x).length ≤ l.length + 1 := by
 unfold putI
 split
 ·omega
 ·have := congrArg List.length (List.takeWhile_append_dropWhile (p := fun y => !ltI x y) (l := l))
  rw [List.length_append] at this
  simp only [List.length_append, List.length_cons]
  omega
theorem foldl_len (l : List I3) : ∀ o, (l.foldl putI o).length ≤ o.length + l.length := by
 induction l with
 | nil => intro o; simp
 | cons x l ih => intro o; have := ih (putI o x); have := len_putI o x; simp only [List.foldl_cons, List.length_cons]; omega
theorem len_clnI (l : List I3) : (clnI l).length ≤ l.length := by have := foldl_len l []; simpa [clnI] using this
end Go.Proofs.YtnancdbkmompdaaGreat
namespace Go.Proofs.YtnancdbkmompdaaGreat
open Go.RowKit Go.Sort
set_option linter.unusedSimpArgs false
set_option linter.unusedVariables false
set_option maxRecDepth 100000
set_option maxHeartbeats 40000000
/-- Instances as elements of rows. -/
noncomputable def IK : Knd Tryz.prog I3 where
 T := 49
 S := 34
 k := 3
 enc := idE
 z := .agg #[.int .i64 0, .int .i64 0, .int .i64 0]
 B := 24
 len := fun _ => rfl
 one := fun x v h => by simp [idE] at h; rcases h with rfl | rfl | rfl <;> rfl
 und := Tryz.underlying34
 info := by kernel_rfl
 zc := rfl
 pos := by omega
 small := by omega
 d := (0, 0, 0)
/-- New blocks, and draws, and nothing else. -/
def Grew (w w' : World) : Prop := ∃ q os, w' = grow (w.drewN q) os
theorem Grew.below {w w' : World} (h : Grew w w') : Below w.heap.size w w' := by
 obtain ⟨q, os, rfl⟩ := h
 refine ⟨rfl, rfl, rfl, by simp, fun k hk => ?_⟩
 rw [heap_grow_old _ _ (by simpa using hk)]
 rfl
theorem grew_two (w : World) (o1 o2 : Obj) : Grew w ((w.alloc o1).alloc o2) := ⟨0, #[o1] ++ #[o2], by rw [alloc_eq_grow, alloc_eq_grow, grow_grow]; rfl⟩
theorem Grew.trans {a b c : World} (h : Grew a b) (k : Grew b c) : Grew a c := by
 obtain ⟨q, os, rfl⟩ := h
 obtain ⟨q2, os2, rfl⟩ := k
 refine ⟨q + q2, os ++ os2, ?_⟩
 rw [← grow_grow]
 simp [grow, World.drewN, Nat.add_assoc]
theorem grew_alloc (w : World) (o : Obj) : Grew w (w.alloc o) := ⟨0, #[o], by rw [alloc_eq_grow]; rfl⟩
theorem less_any (a1 a2 a3 b1 b2 b3 : Int) (w : World) :
  Calls Tryz.prog 103 #[.agg #[.int .i64 a1, .int .i64 a2, .int .i64 a3], .agg #[.int .i64 b1, .int .i64 b2, .int .i64 b3]] w fun e w' => e = .returned (.bool (ltI (a1, a2, a3) (b1, b2, b3))) ∧ Grew w w' := by
 by_cases g1 : a1 = b1
 ·subst g1
  by_cases g2 : a3 = b3
  ·subst g2
   by_cases g3 : a2 < b2
   ·have e1 : ltI (a1, a2, a3) (a1, b2, a3) = true := by simp [ltI, g3]
    rw [e1]
    go_enter Tryz.func103, Tryz.ntmps103
    go_wp2
    go_ret
    exact ⟨rfl, grew_two _ _ _⟩
   ·have e1 : ltI (a1, a2, a3) (a1, b2, a3) = false := by simp [ltI, g3]
    rw [e1]
    go_enter Tryz.func103, Tryz.ntmps103
    go_wp2
    go_ret
    exact ⟨rfl, grew_two _ _ _⟩
  ·by_cases g3 : a3 < b3
   ·have e1 : ltI (a1, a2, a3) (a1, b2, b3) = true := by simp [ltI, g2, g3]
    rw [e1]
    go_enter Tryz.func103, Tryz.ntmps103
    go_wp2
    go_ret
    exact ⟨rfl, grew_two _ _ _⟩
   ·have e1 : ltI (a1, a2, a3) (a1, b2, b3) = false := by simp [ltI, g2, g3]
    rw [e1]
    go_enter Tryz.func103, Tryz.ntmps103
    go_wp2
    go_ret
    exact ⟨rfl, grew_two _ _ _⟩
 ·by_cases g3 : a1 < b1
  ·have e1 : ltI (a1, a2, a3) (b1, b2, b3) = true := by simp [ltI, g1, g3]
   rw [e1]
   go_enter Tryz.func103, Tryz.ntmps103
   go_wp2
   go_ret
   exact ⟨rfl, grew_two _ _ _⟩
  ·have e1 : ltI (a1, a2, a3) (b1, b2, b3) = false := by simp [ltI, g1, g3]
   rw [e1]
   go_enter Tryz.func103, Tryz.ntmps103
   go_wp2
   go_ret
   exact ⟨rfl, grew_two _ _ _⟩
theorem rless_any (a1 a2 a3 b1 b2 b3 : Int) (w : World) :
  Calls Tryz.prog 53 #[.agg #[.int .i64 a1, .int .i64 a2, .int .i64 a3], .agg #[.int .i64 b1, .int .i64 b2, .int .i64 b3]] w fun e w' => e = .returned (.bool (ltI (a1, a2, a3) (b1, b2, b3))) ∧ Grew w w' := by
 by_cases g1 : a1 = b1
 ·subst g1
  by_cases g2 : a3 = b3
  ·subst g2
   by_cases g3 : a2 < b2
   ·have e1 : ltI (a1, a2, a3) (a1, b2, a3) = true := by simp [ltI, g3]
    rw [e1]
    go_enter Tryz.func53, Tryz.ntmps53
    go_wp2
    go_ret
    exact ⟨rfl, grew_two _ _ _⟩
   ·have e1 : ltI (a1, a2, a3) (a1, b2, a3) = false := by simp [ltI, g3]
    rw [e1]
    go_enter Tryz.func53, Tryz.ntmps53
    go_wp2
    go_ret
    exact ⟨rfl, grew_two _ _ _⟩
  ·by_cases g3 : a3 < b3
   ·have e1 : ltI (a1, a2, a3) (a1, b2, b3) = true := by simp [ltI, g2, g3]
    rw [e1]
    go_enter Tryz.func53, Tryz.ntmps53
    go_wp2
    go_ret
    exact ⟨rfl, grew_two _ _ _⟩
   ·have e1 : ltI (a1, a2, a3) (a1, b2, b3) = false := by simp [ltI, g2, g3]
    rw [e1]
    go_enter Tryz.func53, Tryz.ntmps53
    go_wp2
    go_ret
    exact ⟨rfl, grew_two _ _ _⟩
 ·by_cases g3 : a1 < b1
  ·have e1 : ltI (a1, a2, a3) (b1, b2, b3) = true := by simp [ltI, g1, g3]
   rw [e1]
   go_enter Tryz.func53, Tryz.ntmps53
   go_wp2
   go_ret
   exact ⟨rfl, grew_two _ _ _⟩
  ·have e1 : ltI (a1, a2, a3) (b1, b2, b3) = false := by simp [ltI, g1, g3]
   rw [e1]
   go_enter Tryz.func53, Tryz.ntmps53
   go_wp2
   go_ret
   exact ⟨rfl, grew_two _ _ _⟩
/-- As sorting asks for it. -/
def ordI (a b : I3) : Int := if ltI a b then -1 else if ltI b a then 1 else 0
theorem order_any (a1 a2 a3 b1 b2 b3 : Int) (w : World) :
  Calls Tryz.prog 92 #[.agg #[.int .i64 a1, .int .i64 a2, .int .i64 a3], .agg #[.int .i64 b1, .int .i64 b2, .int .i64 b3]] w fun e w' => e = .returned (.int .i64 (ordI (a1, a2, a3) (b1, b2, b3))) ∧ Grew w w' := by
 have c1 := fun W => less_any a1 a2 a3 b1 b2 b3 W
 have c2 := fun W => less_any b1 b2 b3 a1 a2 a3 W
 unfold ordI
 cases h1 : ltI (a1, a2, a3) (b1, b2, b3) with
 | true =>
  rw [h1] at c1
  have HC1 := Hd c1
  clear c1 c2 h1
  simp only [if_true]
  go_enter Tryz.func92, Tryz.ntmps92
  go_wp2_with (go_at_call 103; refine (HC1.out _).mono ?_; rintro e w1 ⟨rfl, hg⟩; have HG := Hd hg; clear hg)
  go_ret
  exact ⟨rfl, (grew_two _ _ _).trans HG.out⟩
 | false =>
  rw [h1] at c1
  have HC1 := Hd c1
  cases h2 : ltI (b1, b2, b3) (a1, a2, a3) with
  | true =>
   rw [h2] at c2
   have HC2 := Hd c2
   clear c1 c2 h1 h2
   simp only [if_true, if_false, Bool.false_eq_true]
   go_enter Tryz.func92, Tryz.ntmps92
   go_wp2_with fail
   refine (HC1.out _).mono ?_
   rintro e w1 ⟨rfl, hg⟩
   have d0 : w1.cell? ⟨w.heap.size, 0, none⟩ = some (.int .i64 a1) := (hg.below.cell (p := ⟨w.heap.size, 0, none⟩) (by simp; omega)).trans ((two_cells w _ _ _ _).1 0)
   have d1 : w1.cell? ⟨w.heap.size, 1, none⟩ = some (.int .i64 a2) := (hg.below.cell (p := ⟨w.heap.size, 1, none⟩) (by simp; omega)).trans ((two_cells w _ _ _ _).1 1)
   have d2 : w1.cell? ⟨w.heap.size, 2, none⟩ = some (.int .i64 a3) := (hg.below.cell (p := ⟨w.heap.size, 2, none⟩) (by simp; omega)).trans ((two_cells w _ _ _ _).1 2)
   have d3 : w1.cell? ⟨w.heap.size + 1, 0, none⟩ = some (.int .i64 b1) := (hg.below.cell (p := ⟨w.heap.size + 1, 0, none⟩) (by simp)).trans ((two_cells w _ _ _ _).2 0)
   have d4 : w1.cell? ⟨w.heap.size + 1, 1, none⟩ = some (.int .i64 b2) := (hg.below.cell (p := ⟨w.heap.size + 1, 1, none⟩) (by simp)).trans ((two_cells w _ _ _ _).2 1)
   have d5 : w1.cell? ⟨w.heap.size + 1, 2, none⟩ = some (.int .i64 b3) := (hg.below.cell (p := ⟨w.heap.size + 1, 2, none⟩) (by simp)).trans ((two_cells w _ _ _ _).2 2)
   have hz : w.heap.size + 1 < w1.heap.size := by have := hg.below.size; simp at this; omega
   have HG := Hd hg
   clear hg
   go_wp2_with fail
   refine (HC2.out _).mono ?_
   rintro e w2 ⟨rfl, hg2⟩
   have HG2 := Hd hg2
   clear hg2 d0 d1 d2 d3 d4 d5 hz
   go_wp2
   go_ret
   exact ⟨rfl, ((grew_two _ _ _).trans HG.out).trans HG2.out⟩
  | false =>
   rw [h2] at c2
   have HC2 := Hd c2
   clear c1 c2 h1 h2
   simp only [if_true, if_false, Bool.false_eq_true]
   go_enter Tryz.func92, Tryz.ntmps92
   go_wp2_with fail
   refine (HC1.out _).mono ?_
   rintro e w1 ⟨rfl, hg⟩
   have d0 : w1.cell? ⟨w.heap.size, 0, none⟩ = some (.int .i64 a1) := (hg.below.cell (p := ⟨w.heap.size, 0, none⟩) (by simp; omega)).trans ((two_cells w _ _ _ _).1 0)
   have d1 : w1.cell? ⟨w.heap.size, 1, none⟩ = some (.int .i64 a2) := (hg.below.cell (p := ⟨w.heap.size, 1, none⟩) (by simp; omega)).trans ((two_cells w _ _ _ _).1 1)
   have d2 : w1.cell? ⟨w.heap.size, 2, none⟩ = some (.int .i64 a3) := (hg.below.cell (p := ⟨w.heap.size, 2, none⟩) (by simp; omega)).trans ((two_cells w _ _ _ _).1 2)
   have d3 : w1.cell? ⟨w.heap.size + 1, 0, none⟩ = some (.int .i64 b1) := (hg.below.cell (p := ⟨w.heap.size + 1, 0, none⟩) (by simp)).trans ((two_cells w _ _ _ _).2 0)
   have d4 : w1.cell? ⟨w.heap.size + 1, 1, none⟩ = some (.int .i64 b2) := (hg.below.cell (p := ⟨w.heap.size + 1, 1, none⟩) (by simp)).trans ((two_cells w _ _ _ _).2 1)
   have d5 : w1.cell? ⟨w.heap.size + 1, 2, none⟩ = some (.int .i64 b3) := (hg.below.cell (p := ⟨w.heap.size + 1, 2, none⟩) (by simp)).trans ((two_cells w _ _ _ _).2 2)
   have hz : w.heap.size + 1 < w1.heap.size := by have := hg.below.size; simp at this; omega
   have HG := Hd hg
   clear hg
   go_wp2_with fail
   refine (HC2.out _).mono ?_
   rintro e w2 ⟨rfl, hg2⟩
   have HG2 := Hd hg2
   clear hg2 d0 d1 d2 d3 d4 d5 hz
   go_wp2
   go_ret
   exact ⟨rfl, ((grew_two _ _ _).trans HG.out).trans HG2.out⟩
theorem laidOutI : laidOutB Tryz.prog = true := by kernel_rfl
theorem idRow : (49 : TypeId) < Tryz.prog.types.size := of_decide_eq_true (by kernel_rfl)
theorem idCells : Tryz.prog.cellsOf 49 = 3 := by kernel_rfl
theorem intCells : Tryz.prog.cellsOf 3 = 1 := by kernel_rfl
theorem idDeep : Tryz.prog.keyType 49 = true := by kernel_rfl
theorem idWide : (match Tryz.prog.underlying 49 with | some (.array _ _) | some (.struct _) => true | _ => false) = true := by kernel_rfl
theorem idLaw : Go.Maps.Keyed Tryz.prog 49 := Go.Maps.Keyed.of_law (deep_law_laid laidOutI (m := 3) (by omega) idRow (by kernel_rfl) idWide)
def okI (x : I3) : Prop := (Lit.int .i64 x.1).wf = true ∧ (Lit.int .i64 x.2.1).wf = true ∧ (Lit.int .i64 x.2.2).wf = true
abbrev idW (x : I3) : Value := .agg #[.int .i64 x.1, .int .i64 x.2.1, .int .i64 x.2.2]
theorem pos_succ {a b : Nat} (h : a < b) : ∃ n, b = n + 1 := ⟨b - 1, by omega⟩
theorem idKey (x : I3) (h : okI x) : ∃ kl, keyOf Tryz.prog 49 (idW x) = some kl := by
 obtain ⟨n, hn⟩ := pos_succ idRow
 have hf : (idW x).formed Tryz.prog 49 = true := by simp [Value.formed, Tryz.underlying49, idCells]
 unfold keyOf
 simp only [Tryz.underlying49, idDeep, hf, hn, Value.cells]
 simp [Program.keyLits, Tryz.underlying49, Tryz.underlying3, idCells, intCells, h.1, h.2.1, h.2.2]
/-- What reads as a key is an instance. -/
theorem idKey_inv (key : Value) (kl : Lit) (h : keyOf Tryz.prog 49 key = some kl) : ∃ x, key = idW x ∧ okI x := by
 obtain ⟨n, hn⟩ := pos_succ idRow
 unfold keyOf at h
 simp only [Tryz.underlying49, idDeep, Bool.true_and] at h
 split at h
 ·rename_i hf
  obtain ⟨cs, rfl, hsz⟩ : ∃ cs, key = .agg cs ∧ cs.size = 3 := by
   cases key <;> simp [Value.formed, Tryz.underlying49, idCells] at hf
   exact ⟨_, rfl, hf⟩
  obtain ⟨l⟩ := cs
  match l, hsz with
  | [c0, c1, c2], _ =>
   simp only [hn, Value.cells] at h
   simp [Program.keyLits, Tryz.underlying49, Tryz.underlying3, idCells, intCells, List.mapM_cons, Option.bind_eq_some_iff] at h
   obtain ⟨a, h0, _, ⟨b, h1, _, ⟨c, h2, _⟩, _⟩, _⟩ := h
   obtain ⟨x0, rfl, w0⟩ : ∃ x, c0 = .int .i64 x ∧ (Lit.int .i64 x).wf = true := by cases c0 <;> simp at h0; obtain ⟨⟨rfl, q⟩, _⟩ := h0; exact ⟨_, rfl, q⟩
   obtain ⟨x1, rfl, w1⟩ : ∃ x, c1 = .int .i64 x ∧ (Lit.int .i64 x).wf = true := by cases c1 <;> simp at h1; obtain ⟨⟨rfl, q⟩, _⟩ := h1; exact ⟨_, rfl, q⟩
   obtain ⟨x2, rfl, w2⟩ : ∃ x, c2 = .int .i64 x ∧ (Lit.int .i64 x).wf = true := by cases c2 <;> simp at h2; obtain ⟨⟨rfl, q⟩, _⟩ := h2; exact ⟨_, rfl, q⟩
   exact ⟨(x0, x1, x2), rfl, w0, w1, w2⟩
 ·cases h
/-- An instance as a key. -/
noncomputable def kf (x : I3) : Lit := (keyOf Tryz.prog 49 (idW x)).getD (.bool false)
theorem kf_key {x : I3} (h : okI x) : keyOf Tryz.prog 49 (idW x) = some (kf x) := by
 obtain ⟨kl, hk⟩ := idKey x h
 unfold kf
 rw [hk]
 rfl
theorem kf_inj {a b : I3} (ha : okI a) (hb : okI b) (h : kf a = kf b) : a = b := by
 have k1 := kf_key ha
 have k2 := kf_key hb
 rw [← h] at k2
 have := idLaw.inj k1 k2
 simp only [Value.agg.injEq, Array.mk.injEq, List.cons.injEq, Value.int.injEq, true_and, and_true] at this
 exact i3_ext this.1 this.2.1 this.2.2
theorem kf_lit {x : I3} (h : okI x) : WideAt.IsKeyLit (kf x) := idLaw.key (kf_key h)
theorem kf_same {a : I3} (ha : okI a) : (kf a).sameKey (kf a) = true := by
 have hk := kf_lit ha
 cases h : kf a <;> rw [h] at hk <;> simp_all [Lit.sameKey, WideAt.IsKeyLit]
theorem kf_same_iff {a b : I3} (ha : okI a) (hb : okI b) : (kf a).sameKey (kf b) = decide (a = b) := by
 by_cases h : a = b
 ·subst h; rw [kf_same ha]; simp
 ·rw [decide_eq_false h]
  exact Maps.sameKey_ne (fun e => h (kf_inj ha hb e))
/-- A map that reads as the set of a list. -/
structure SetIs (D : DataW Unit) (l : List I3) : Prop where
 has : ∀ x, okI x → Maps.has D (kf x) = hasI l x
 size : Maps.size D = (clnI l).length
 tidy : Maps.Tidy D
theorem SetIs.empty : SetIs (.map []) [] := ⟨fun x _ => rfl, rfl, Maps.tidy_empty⟩
theorem hasI_app (l k : List I3) (x : I3) : hasI (l ++ k) x = (hasI l x || hasI k x) := by unfold hasI; rw [List.any_append]
theorem clnI_snoc (l : List I3) (x : I3) : clnI (l ++ [x]) = putI (clnI l) x := by simp [clnI, List.foldl_append]
theorem hasI_cln (l : List I3) (x : I3) : hasI (clnI l) x = hasI l x := by rw [Bool.eq_iff_iff, hasI_iff, hasI_iff, mem_clnI]
theorem len_putI_eq (l : List I3) (x : I3) : (putI l x).length = if hasI l x then l.length else l.length + 1 := by
 unfold putI
 split
 ·rfl
 ·have := congrArg List.length (List.takeWhile_append_dropWhile (p := fun y => !ltI x y) (l := l))
  rw [List.length_append] at this
  simp only [List.length_append, List.length_cons]
  omega
theorem SetIs.put {D : DataW Unit} {l : List I3} (h : SetIs D l) {x : I3} (hx : okI x) (d : DataW Unit) : SetIs (D.put (kf x) d) (l ++ [x]) := by
 refine ⟨fun y hy => ?_, ?_, h.tidy.put (kf_lit hx) d⟩
 ·rw [hasI_app]
  by_cases e : y = x
  ·subst e
   rw [Maps.has_put_same h.tidy.isMap (kf_lit hx)]
   simp [hasI]
  ·rw [Maps.has_put_other (fun q => e (kf_inj hy hx q)), h.has y hy]
   have : hasI [x] y = false := by rw [hasI_false]; simpa using e
   rw [this, Bool.or_false]
 ·rw [Maps.size_put h.tidy, h.has x hx, h.size, clnI_snoc, len_putI_eq, hasI_cln]
theorem filter_ne_len : ∀ (l : List I3) (x : I3), l.Nodup → (l.filter fun y => decide (y ≠ x)).length + (if hasI l x then 1 else 0) = l.length
 | [], x, _ => rfl
 | a :: l, x, h => by
  have hn := List.nodup_cons.1 h
  have ih := filter_ne_len l x hn.2
  by_cases e : a = x
  ·subst e
   have h1 : hasI l a = false := by rw [hasI_false]; exact hn.1
   have h2 : hasI (a :: l) a = true := by rw [hasI_iff]; simp
   rw [h1] at ih
   rw [h2, List.filter_cons]
   simp at ih ⊢
   simpa using ih
  ·have h2 : hasI (a :: l) x = hasI l x := by
    rw [Bool.eq_iff_iff, hasI_iff, hasI_iff, List.mem_cons]
    constructor
    ·rintro (q | q)
     ·exact absurd q.symm e
     ·exact q
    ·exact .inr
   rw [h2, List.filter_cons, if_pos (by simpa using e), List.length_cons, List.length_cons]
   omega
abbrev okL (l : List I3) : Prop := ∀ x ∈ l, okI x
end Go.Proofs.YtnancdbkmompdaaGreat
