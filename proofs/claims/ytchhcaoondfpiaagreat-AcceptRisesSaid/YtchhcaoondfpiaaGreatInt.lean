/-
  Rows of numbers: how they lie, what is asked of them, and rows of one's own.
-/
import Derived.Test.YtchhcaoondfpiaaGreatArr
import Derived.LoopTactic
namespace Go.Proofs.YtchhcaoondfpiaaGreat
open Go.RowKit
set_option linter.unusedSimpArgs false
set_option linter.unusedVariables false

theorem bcell {W w1 : World} (hb : Below W.heap.size W w1) : (∀ b o, b < W.heap.size → w1.cell? ⟨b, o, none⟩ = W.cell? ⟨b, o, none⟩) ∧ (∀ b o, b < W.heap.size → w1.frozen? ⟨b, o, none⟩ = W.frozen? ⟨b, o, none⟩) :=
  ⟨fun b o h => hb.cell (p := ⟨b, o, none⟩) h, fun b o h => hb.frozen (p := ⟨b, o, none⟩) h⟩

/-- A slice of numbers, as it lies in memory. -/
def IRow (w : World) (a : Option Addr) (zs : List Int) : Prop :=
  zs.length ≤ 9223372036854775807 ∧ (zs = [] ∨ ∃ b off, a = some ⟨b, off, none⟩ ∧ b < w.heap.size ∧ ∀ i, i < zs.length → w.cell? ⟨b, off + i, none⟩ = some (.int .i64 (zs.getD i 0)))
theorem IRow.below {w w' : World} {a : Option Addr} {zs : List Int} (h : IRow w a zs) (hb : Below w.heap.size w w') : IRow w' a zs := by
  obtain ⟨h1, h2⟩ := h
  refine ⟨h1, ?_⟩
  rcases h2 with h2 | ⟨b, off, ha, hbl, hc⟩
  · exact .inl h2
  · exact .inr ⟨b, off, ha, by have := hb.size; omega, fun i hi => by rw [hb.cell (p := ⟨b, off + i, none⟩) hbl]; exact hc i hi⟩

/-- Is the number in the list? -/
def inB (n : Int) (zs : List Int) : Bool := decide (n ∈ zs)
theorem inB_nil (n : Int) : inB n [] = false := by simp [inB]
theorem take_succ_getD (zs : List Int) (k : Nat) (h : k < zs.length) : zs.take (k + 1) = zs.take k ++ [zs.getD k 0] := by
  rw [List.take_succ_eq_append_getElem h]; simp [List.getD, h]
theorem inB_snoc (n : Int) (zs : List Int) (k : Nat) (h : k < zs.length) : inB n (zs.take (k + 1)) = (inB n (zs.take k) || (zs[k] == n)) := by
  rw [List.take_succ_eq_append_getElem h, Bool.eq_iff_iff]
  unfold inB
  simp only [decide_eq_true_eq, Bool.or_eq_true, beq_iff_eq, List.mem_append, List.mem_singleton]
  constructor
  · rintro (h | h)
    · exact Or.inl h
    · exact Or.inr h.symm
  · rintro (h | h)
    · exact Or.inl h
    · exact Or.inr h.symm
theorem inB_at (n : Int) (zs : List Int) (k : Nat) (h : k < zs.length) (e : zs[k] = n) : inB n zs = true := by
  simp [inB]; rw [← e]; simp

set_option maxHeartbeats 400000 in
/-- syndicref05.In. -/
theorem refIn_any (a : Option Addr) (cap : Nat) (zs : List Int) (n : Int) (w : World) (hr : IRow w a zs) :
    Calls Tryz.prog 62 #[.slice a zs.length cap, .int .i64 n] w fun e w' => e = .returned (.bool (inB n zs)) ∧ w = w' := by
  obtain ⟨hl, hrow⟩ := hr
  go_enter Tryz.func62, Tryz.ntmps62
  go_wp2
  go_loop [5] (fun i => ∃ k : Nat, k ≤ zs.length ∧ i = .int .i64 k ∧ Hid (inB n (zs.take k) = false)) (fun i => zs.length - (intOf i).toNat)
  case atStart => exact ⟨0, Nat.zero_le _, rfl, inB_nil n⟩
  case round =>
    obtain ⟨k, hk, rfl, hH⟩ := hrel
    by_cases hlt : k < zs.length
    · rcases hrow with h0 | ⟨b, off, rfl, hb, hc⟩
      · rw [h0] at hlt; simp at hlt
      · have hcell := hc k hlt
        have hs := inB_snoc n zs k hlt
        have HC := Lib.hid hc
        clear hc
        by_cases he : zs[k] = n
        · have hf := Lib.hid (inB_at n zs k hlt he)
          have hE : (zs[k] == n) = true := by simpa using he
          have HE := Lib.hid he
          clear he hs
          go_wp2
          go_ret
          exact ⟨ret_bool hf.out.symm, rfl⟩
        · have hE : (zs[k] == n) = false := by simpa using he
          rw [hH.out, hE] at hs
          have HS : Hid (inB n (zs.take (k + 1)) = false) := hs
          clear hs he
          go_wp2
          go_round
          case rel => exact ⟨k + 1, by omega, by go_num, HS⟩
          case measure => simp [intOf]; omega
    · have : k = zs.length := by omega
      subst this
      have hH' := hH.out
      rw [List.take_length] at hH'
      have hF := Lib.hid hH'
      clear hH'
      go_wp2
      go_ret
      exact ⟨ret_bool hF.out.symm, rfl⟩

/-- What slices.Index hands back: a number that is not below 0 just where the number is in the list. -/
def IxPost (n : Int) (zs : List Int) (w : World) (e : Ending) (w' : World) : Prop := ∃ j : Int, e = .returned (.int .i64 j) ∧ (decide (0 ≤ j)) = inB n zs ∧ w = w'

set_option maxHeartbeats 400000 in
theorem index_any (a : Option Addr) (cap : Nat) (zs : List Int) (n : Int) (w : World) (hr : IRow w a zs) :
    Calls Tryz.prog 83 #[.slice a zs.length cap, .int .i64 n] w (IxPost n zs w) := by
  obtain ⟨hl, hrow⟩ := hr
  go_enter Tryz.func83, Tryz.ntmps83
  go_wp2
  go_loop [8] (fun i => ∃ k : Nat, k ≤ zs.length ∧ i = .int .i64 k ∧ Hid (inB n (zs.take k) = false)) (fun i => zs.length - (intOf i).toNat)
  case atStart => exact ⟨0, Nat.zero_le _, rfl, inB_nil n⟩
  case round =>
    obtain ⟨k, hk, rfl, hH⟩ := hrel
    by_cases hlt : k < zs.length
    · rcases hrow with h0 | ⟨b, off, rfl, hb, hc⟩
      · rw [h0] at hlt; simp at hlt
      · have hcell := hc k hlt
        have hs := inB_snoc n zs k hlt
        have HC := Lib.hid hc
        clear hc
        by_cases he : zs[k] = n
        · have hf := Lib.hid (inB_at n zs k hlt he)
          have hE : (n == zs[k]) = true := by simpa using he.symm
          have HE := Lib.hid he
          clear he hs
          go_wp2
          go_ret
          exact ⟨_, rfl, by rw [hf.out]; simp, rfl⟩
        · have hE : (n == zs[k]) = false := by simpa using fun h => he h.symm
          rw [hH.out, (by simpa using he : (zs[k] == n) = false)] at hs
          have HS : Hid (inB n (zs.take (k + 1)) = false) := hs
          clear hs he
          go_wp2
          go_round
          case rel => exact ⟨k + 1, by omega, by go_num, HS⟩
          case measure => simp [intOf]; omega
    · have : k = zs.length := by omega
      subst this
      have hH' := hH.out
      rw [List.take_length] at hH'
      have hF := Lib.hid hH'
      clear hH'
      go_wp2
      go_ret
      exact ⟨_, rfl, by rw [hF.out]; simp, rfl⟩

set_option maxHeartbeats 400000 in
theorem contains_any (a : Option Addr) (cap : Nat) (zs : List Int) (n : Int) (w : World) (hr : IRow w a zs) :
    Calls Tryz.prog 64 #[.slice a zs.length cap, .int .i64 n] w fun e w' => e = .returned (.bool (inB n zs)) ∧ w = w' := by
  have HR := Lib.hid hr
  clear hr
  go_enter Tryz.func64, Tryz.ntmps64
  go_wp2_with (go_at_call 83; refine (index_any _ _ zs n _ HR.out).mono ?_; rintro e w' ⟨j, rfl, hj, rfl⟩; have HJ := Lib.hid hj; clear hj)
  go_ret
  exact ⟨ret_bool HJ.out, rfl⟩


abbrev i6v (xs : List Int) : List Value := xs.map (Value.int .i64)
/-- How a slice's address and capacity fit its numbers. -/
def FitsI (a : Option Addr) (xs : List Int) (cap : Nat) : Prop := (a = none → cap = 0) ∧ xs.length ≤ cap ∧ cap ≤ 9223372036854775807
/-- A slice of numbers. -/
structure It (w : World) (v : Value) (xs : List Int) : Prop where
  row : ∃ a cap, v = .slice a xs.length cap ∧ IRow w a xs ∧ FitsI a xs cap
theorem It.below {w w' : World} {v : Value} {xs : List Int} (h : It w v xs) (hb : Below w.heap.size w w') : It w' v xs := by
  obtain ⟨a, cap, e, h1, h2⟩ := h.row
  exact ⟨a, cap, e, h1.below hb, h2⟩
theorem It.alloc {w : World} {v : Value} {xs : List Int} (h : It w v xs) (o : Obj) : It (w.alloc o) v xs := h.below ((Below.refl _ _).alloc (Nat.le_refl _) o)
theorem It.nil (w : World) : It w (.slice none 0 0) [] := ⟨none, 0, rfl, ⟨by simp, .inl rfl⟩, fun _ => rfl, by simp, by omega⟩
theorem It.len {w : World} {v : Value} {xs : List Int} (h : It w v xs) : xs.length ≤ 9223372036854775807 := by
  obtain ⟨a, cap, e, h1, h2⟩ := h.row
  exact h1.1
theorem info64 : (Tryz.prog.info? 3).map (fun i => (i.zero, i.size, i.bytes)) = some (some (.int .i64 0), 1, 8) := by kernel_rfl
/-- A row of numbers of one's own, from a block on. -/
def OwnI (w : World) (base : Nat) (v : Value) (xs : List Int) : Prop := w.ownsRow base 3 1 v xs.length (i6v xs)
theorem OwnI.it {w : World} {base : Nat} {v : Value} {xs : List Int} (h : OwnI w base v xs) (hl : xs.length ≤ 9223372036854775807) : It w v xs := by
  obtain ⟨_, h | ⟨g, cap, cur, rfl, hg, hh, hn, hmx, hs, hx⟩⟩ := h
  · obtain ⟨rfl, h0⟩ := h
    have : xs = [] := List.eq_nil_of_length_eq_zero h0
    subst this
    exact It.nil w
  · refine ⟨some ⟨g, 0, none⟩, cap, rfl, ⟨hl, ?_⟩, (fun h => by cases h), hn, (by unfold maxLen at hmx; omega)⟩
    by_cases h0 : xs = []
    · exact .inl h0
    · refine .inr ⟨g, 0, rfl, ?_, fun i hi => ?_⟩
      · by_cases q : g < w.heap.size
        · exact q
        · have : w.heap[g]? = none := by simp; omega
          rw [this] at hh; cases hh
      · have e : cur[i]? = some (.int .i64 (xs.getD i 0)) := by
          have h1 : (cur.toList.take (xs.length * 1))[i]? = (i6v xs)[i]? := by rw [hx]
          rw [List.getElem?_take, if_pos (by omega)] at h1
          rw [← Array.getElem?_toList, h1]
          simp [List.getD, hi]
        simp [World.cell?, hh, e]
theorem ownI_from {w : World} {base : Nat} {v : Value} {xs : List Int} (h : OwnI w base v xs) : ∀ k, v.ownBlock = some k → base ≤ k := by
  intro k hk
  rcases h.2 with ⟨rfl, _⟩ | ⟨g, cap, cur, rfl, hg, _⟩
  · cases hk
  · simp [Value.ownBlock] at hk; omega
/-- A slice of numbers that lies from a block on. -/
structure ItF (w : World) (base : Nat) (v : Value) (xs : List Int) : Prop where
  it : It w v xs
  from_ : ∀ k, v.ownBlock = some k → base ≤ k
  flat : ∀ ad n c, v = .slice (some ad) n c → ad.spot = none
theorem ItF.nil (w : World) (base : Nat) : ItF w base (.slice none 0 0) [] := ⟨It.nil w, (fun k e => by cases e), (fun ad n c e => by cases e)⟩
theorem ItF.mono {w : World} {b b2 : Nat} {v : Value} {xs : List Int} (h : ItF w b v xs) (hb : b2 ≤ b) : ItF w b2 v xs := ⟨h.it, (fun k e => Nat.le_trans hb (h.from_ k e)), h.flat⟩
theorem ItF.below {w w' : World} {b : Nat} {v : Value} {xs : List Int} (h : ItF w b v xs) (hb : Below w.heap.size w w') : ItF w' b v xs := ⟨h.it.below hb, h.from_, h.flat⟩
theorem OwnI.itF {w : World} {base : Nat} {v : Value} {xs : List Int} (h : OwnI w base v xs) (hl : xs.length ≤ 9223372036854775807) : ItF w base v xs := ⟨h.it hl, ownI_from h, fun ad n c e => by
  rcases h.2 with ⟨rfl, _⟩ | ⟨g, cap, cur, rfl, _⟩
  · cases e
  · simp only [Value.slice.injEq, Option.some.injEq] at e
    rw [← e.1]⟩
theorem ItF.set {w : World} {b : Nat} {v : Value} {xs : List Int} (h : ItF w b v xs) {a : Addr} (ha : a.block < b) (u : Value) : ItF (w.setCell a u) b v xs := by
  obtain ⟨⟨ad, cap, rfl, h1, h2⟩, hf, hfl⟩ := h
  refine ⟨⟨ad, cap, rfl, ⟨h1.1, ?_⟩, h2⟩, hf, hfl⟩
  rcases h1.2 with h0 | ⟨g, off, rfl, hg, hc⟩
  · exact .inl h0
  · have hb := hf g rfl
    exact .inr ⟨g, off, rfl, by simpa using hg, fun i hi => by
      rw [← hc i hi]
      exact World.cell?_of_block (Below.heap_setCell _ _ _ _ (by show g ≠ _; omega))⟩
theorem OwnI.nil (w : World) (base : Nat) : OwnI w base (.slice none 0 0) [] := ⟨rfl, .inl ⟨rfl, rfl⟩⟩
theorem OwnI.below {w w' : World} {base : Nat} {v : Value} {xs : List Int} (h : OwnI w base v xs) (hb : Below w.heap.size w w') : OwnI w' base v xs := by
  obtain ⟨h1, h2⟩ := h
  refine ⟨h1, ?_⟩
  rcases h2 with h2 | ⟨g, cap, cur, hv, hg, hh, hr⟩
  · exact .inl h2
  · exact .inr ⟨g, cap, cur, hv, hg, (hb.block g (Array.getElem?_eq_some_iff.1 hh).1).trans hh, hr⟩
theorem OwnI.alloc {w : World} {base : Nat} {v : Value} {xs : List Int} (h : OwnI w base v xs) (o : Obj) : OwnI (w.alloc o) base v xs := World.ownsRow.alloc h o
theorem irow_news {w : World} {ad : Addr} {xs : List Int} (h : IRow w (some ad) xs) : ∀ (j : Nat) (u : Value), (i6v xs)[j]? = some u → w.cell? (ad.add j) = some u := by
  intro j u hu
  rcases h.2 with h0 | ⟨b, off, ha, _, hc⟩
  · subst h0; simp at hu
  · cases ha
    have hj : j < xs.length := by
      have := (List.getElem?_eq_some_iff.1 hu).1
      simpa using this
    have e : u = .int .i64 (xs.getD j 0) := by
      simp [hj] at hu; simp [List.getD, hj, ← hu]
    rw [e]
    by_cases h0 : j = 0
    · subst h0; simpa [Addr.add] using hc 0 hj
    · simpa [Addr.add, h0] using hc j hj
theorem it_sliced {w : World} {xs : List Int} {ad : Option Addr} {cap : Nat} (h1 : IRow w ad xs) (h2 : FitsI ad xs cap) (l h m : Nat) (hlh : l ≤ h) (hh : h ≤ xs.length) (hm : h ≤ m) (hmc : m ≤ cap) : It w (sliced ad l h m 1) ((xs.take h).drop l) := by
  have hlen : ((xs.take h).drop l).length = h - l := by simp; omega
  unfold sliced
  by_cases q : m = l
  · rw [if_pos q]
    have hz : (xs.take h).drop l = [] := List.eq_nil_of_length_eq_zero (by rw [hlen]; omega)
    rw [hz]
    refine ⟨ad, m - l, by rw [show h - l = 0 from by omega]; rfl, ⟨by simp, .inl rfl⟩, fun e => by have := h2.1 e; omega, by simp, by have := h2.2.2; omega⟩
  · rw [if_neg q]
    refine ⟨ad.map (·.add (l * 1)), m - l, by rw [hlen], ⟨by rw [hlen]; have := h1.1; omega, ?_⟩, ?_, by rw [hlen]; omega, by have := h2.2.2; omega⟩
    · rcases h1.2 with h0 | ⟨g, off, ha, hg, hc⟩
      · left; subst h0; simp at hh; subst hh; simp
      · by_cases z : (xs.take h).drop l = []
        · exact .inl z
        right
        subst ha
        refine ⟨g, off + l, ?_, hg, fun i hi => ?_⟩
        · simp only [Option.map_some]
          congr 1
          unfold Addr.add
          by_cases z : l = 0
          · subst z; rfl
          · simp [z]
        · rw [hlen] at hi
          have := hc (l + i) (by omega)
          rw [Nat.add_assoc, this]
          congr 2
          simp [List.getD, List.getElem?_take, show l + i < h from by omega]
    · intro e
      cases ad with
      | none => have := h2.1 rfl; omega
      | some x => cases e
theorem It.cell {w : World} {v : Value} {xs : List Int} (h : It w v xs) {i : Nat} (hi : i < xs.length) : ∃ g off c, v = .slice (some ⟨g, off, none⟩) xs.length c ∧ g < w.heap.size ∧ ∀ j, j < xs.length → w.cell? ⟨g, off + j, none⟩ = some (.int .i64 (xs.getD j 0)) := by
  obtain ⟨a, c, rfl, h1, h2⟩ := h.row
  rcases h1.2 with h0 | ⟨g, off, rfl, hg, hc⟩
  · subst h0; simp at hi
  · exact ⟨g, off, c, rfl, hg, hc⟩
section
variable {ops : Array Oper} {rest : List Oper} {o : Oper} {a : Act} {w : World} {Q : Exit → Act → World → Prop}
/-- 'append(s, x...)' of numbers, s a row of one's own: the run. -/
theorem run_appI {base : Nat} {v : Value} {xs : List Int} (hown : OwnI w base v xs) {vy : Value} {ys : List Int} (hy : It w vy ys) (hl : xs.length + ys.length ≤ 100000000000) (hbase : base ≤ w.heap.size) (ty : TypeId) :
    ∃ v' w', (Builtin.append_ #[22, 22] ty #[v, vy]).run Tryz.prog w = .ok v' w' ∧ OwnI w' base v' (xs ++ ys) ∧ Below base w w' ∧ w.heap.size ≤ w'.heap.size ∧ w.grownBy w' v.ownBlock := by
  obtain ⟨i0, hi, hz0, hz1, hz2⟩ := info_parts info64
  obtain ⟨ad, cap, rfl, h1, h2⟩ := hy.row
  cases ad with
  | none =>
    have hys : ys = [] := by
      rcases h1.2 with h0 | ⟨g, off, ha, _⟩
      · exact h0
      · cases ha
    subst hys
    obtain rfl := h2.1 rfl
    have hr := run_append_owned_none (P := Tryz.prog) w base 22 ty 3 i0 1 Tryz.underlying22 hi v xs.length (i6v xs) hown
    exact ⟨v, w, hr, by simpa using hown, Below.refl _ _, Nat.le_refl _, ⟨rfl, rfl, rfl, Nat.le_refl _, fun _ _ _ => rfl⟩⟩
  | some ad =>
    obtain ⟨v', w', hr, q1, q2, _⟩ := run_append_own (P := Tryz.prog) w base 22 ty 3 i0 (.int .i64 0) 1 8 Tryz.underlying22 hi hz0 hz1 hz2 rfl (by decide) v xs.length (i6v xs) hown ad ys.length cap (i6v ys) (by simp) (irow_news h1) (by intro u hu; simp at hu; obtain ⟨z, _, rfl⟩ := hu; rfl) (by unfold maxLen; omega) (by omega) hbase
    refine ⟨v', w', hr, ?_, (Below.refl base w).grown q2 hbase (ownI_from hown), q2.size, q2⟩
    unfold OwnI
    rw [List.length_append]
    have e : i6v (xs ++ ys) = i6v xs ++ i6v ys := by simp [i6v]
    rw [e]; exact q1
theorem wpList_appI (hgd : o.guard = none) (s x : Operand) (ho : o.op = .call { callee := .builtin .append, args := #[s, x], argTypes := #[22, 22] })
    (base : Nat) (v : Value) (xs : List Int) (hs : a.eval s = v) (hown : OwnI w base v xs) (vy : Value) (ys : List Int) (hx : a.eval x = vy) (hy : It w vy ys) (hl : xs.length + ys.length ≤ 100000000000) (hbase : base ≤ w.heap.size)
    (h : ∀ v' w', OwnI w' base v' (xs ++ ys) → Below base w w' → w.heap.size ≤ w'.heap.size → w.grownBy w' v.ownBlock → wpList Tryz.prog ops Q rest (a.put o.dst v') w') : wpList Tryz.prog ops Q (o :: rest) a w := by
  obtain ⟨v', w', hr, q1, q2, q3, q4⟩ := run_appI hown hy hl hbase o.type
  refine wpList_value (by simp [Region.wanted, hgd]) v' w' ?_ (h v' w' q1 q2 q3 q4)
  unfold execOp
  simp only [ho, resolve, invoke, builtin, Sem.run_bind, Sem.run_pure, Result.andThen_ok, List.map_toArray, List.map_cons, List.map_nil, hs, hx, hr]
/-- 'append(s[:k:k], x)': there is no room: a row of one's own. -/
theorem run_app_full {g off : Nat} {xs : List Int} (h1 : IRow w (some ⟨g, off, none⟩) xs) (g2 : Nat) (x : Int) (hx : w.cell? ⟨g2, 0, none⟩ = some (.int .i64 x)) (hl : xs.length ≤ 100000) (ty : TypeId) :
    ∃ v' w', (Builtin.append_ #[22, 22] ty #[.slice (some ⟨g, off, none⟩) xs.length xs.length, .slice (some ⟨g2, 0, none⟩) 1 1]).run Tryz.prog w = .ok v' w' ∧ OwnI w' w.heap.size v' (xs ++ [x]) ∧ Below w.heap.size w w' ∧ w'.heap.size = w.heap.size + 1 := by
  obtain ⟨i0, hi, hz0, hz1, hz2⟩ := info_parts info64
  have hr := run_append_grow (P := Tryz.prog) w 22 ty 3 i0 (.int .i64 0) Tryz.underlying22 hi hz0 ⟨g, off, none⟩ xs.length xs.length (i6v xs) (by simp [hz1]) (irow_news h1) ⟨g2, 0, none⟩ 1 1 [.int .i64 x] (by simp [hz1]) (by
    intro j v hj
    match j, hj with
    | 0, hj => simp at hj; subst hj; simpa [Addr.add] using hx) (by omega) (by omega) (growslice_fits (by omega) (by rw [hz2]; omega))
  refine ⟨_, _, hr, ⟨by simp, .inr ⟨w.heap.size, grownCap w (xs.length + 1) xs.length 3, _, by rw [List.length_append]; rfl, Nat.le_refl _, heap_alloc_new w.drew _, ?_, grownCap_le_maxLen w _ _ _ (by unfold maxLen; omega), ?_, ?_⟩⟩, ((Below.refl _ w).drew).alloc (Nat.le_refl _) _, by simp⟩
  · rw [List.length_append]; exact grownCap_ge w (xs.length + 1) xs.length 3
  · have := grownCap_ge w (xs.length + 1) xs.length 3
    simp [size_zeroCells, Value.cells]
    omega
  · have e : ∀ R : List Value, List.take ((xs ++ [x]).length * 1) ((i6v xs ++ [Value.int .i64 x]) ++ R) = i6v xs ++ [Value.int .i64 x] := fun R => by
      rw [show (xs ++ [x]).length * 1 = (i6v xs ++ [Value.int .i64 x]).length from by simp]
      exact List.take_left
    have := e (Builtin.zeroCells (Value.int .i64 0).cells (grownCap w (xs.length + 1) xs.length 3 - (xs.length + 1))).toList
    simpa [i6v] using this
/-- 'append(nil, x)'. -/
theorem run_app_nil (g2 : Nat) (x : Int) (hx : w.cell? ⟨g2, 0, none⟩ = some (.int .i64 x)) (ty : TypeId) :
    ∃ v' w', (Builtin.append_ #[22, 22] ty #[.slice none 0 0, .slice (some ⟨g2, 0, none⟩) 1 1]).run Tryz.prog w = .ok v' w' ∧ OwnI w' w.heap.size v' [x] ∧ Below w.heap.size w w' ∧ w'.heap.size = w.heap.size + 1 := by
  obtain ⟨i0, hi, hz0, hz1, hz2⟩ := info_parts info64
  have hr := run_append_nil (P := Tryz.prog) w 22 ty 3 i0 (.int .i64 0) Tryz.underlying22 hi hz0 ⟨g2, 0, none⟩ 1 1 [.int .i64 x] (by simp [hz1]) (by
    intro j v hj
    match j, hj with
    | 0, hj => simp at hj; subst hj; simpa [Addr.add] using hx) (by omega) (by omega) (by rw [hz2]; omega)
  refine ⟨_, _, hr, ⟨by simp, .inr ⟨w.heap.size, grownCap w 1 0 3, _, rfl, Nat.le_refl _, heap_alloc_new w.drew _, grownCap_ge w 1 0 3, grownCap_le_maxLen w _ _ _ (by unfold maxLen; omega), ?_, by simp⟩⟩, ((Below.refl _ w).drew).alloc (Nat.le_refl _) _, by simp⟩
  have := grownCap_ge w 1 0 3
  simp [size_zeroCells, Value.cells]
  omega
end
end Go.Proofs.YtchhcaoondfpiaaGreat
