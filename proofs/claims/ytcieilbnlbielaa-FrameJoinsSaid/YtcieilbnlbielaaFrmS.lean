/-
  The walk of the document's All, layer 3.
-/
import Derived.Test.YtcieilbnlbielaaFrmU
namespace Go.Proofs.Ytcieilbnlbielaa
open Go.RowKit
set_option linter.unusedSimpArgs false
set_option linter.unusedVariables false

/-- An own row of values, each a cell. -/
def Own1 (w : World) (base e : Nat) (v : Value) (vs : List Value) : Prop := w.ownsRow base e 1 v vs.length vs
theorem own1_from {w : World} {base e : Nat} {v : Value} {vs : List Value} (h : Own1 w base e v vs) : ∀ k, v.ownBlock = some k → base ≤ k := by
  intro k hk
  rcases h.2 with ⟨rfl, _⟩ | ⟨g, cap, cur, rfl, hg, _⟩
  · cases hk
  · simp [Value.ownBlock] at hk; omega
theorem Own1.nil (w : World) (base e : Nat) : Own1 w base e (.slice none 0 0) [] := ⟨rfl, .inl ⟨rfl, rfl⟩⟩
theorem Own1.slice {w : World} {base e : Nat} {v : Value} {vs : List Value} (h : Own1 w base e v vs) : ∃ a c, v = .slice a vs.length c := by
  rcases h.2 with ⟨rfl, h0⟩ | ⟨g, cap, cur, rfl, _⟩
  · exact ⟨_, _, by rw [h0]⟩
  · exact ⟨_, _, rfl⟩
theorem Own1.below {w w' : World} {base e : Nat} {v : Value} {vs : List Value} (h : Own1 w base e v vs) (hb : Below w.heap.size w w') : Own1 w' base e v vs := by
  obtain ⟨h1, h2⟩ := h
  refine ⟨h1, ?_⟩
  rcases h2 with h2 | ⟨g, cap, cur, hv, hg, hh, hr⟩
  · exact .inl h2
  · exact .inr ⟨g, cap, cur, hv, hg, (hb.block g (Array.getElem?_eq_some_iff.1 hh).1).trans hh, hr⟩
theorem Own1.cell {w : World} {base e : Nat} {v : Value} {vs : List Value} (h : Own1 w base e v vs) (k : Nat) (hk : k < vs.length) : ∃ g c, v = .slice (some ⟨g, 0, none⟩) vs.length c ∧ g < w.heap.size ∧ w.cell? ⟨g, k, none⟩ = some (vs.getD k undef) := by
  rcases h.2 with ⟨rfl, h0⟩ | ⟨g, cap, cur, rfl, hg, hh, hn, hm, hs, hx⟩
  · omega
  · refine ⟨g, cap, rfl, (Array.getElem?_eq_some_iff.1 hh).1, ?_⟩
    have e1 : cur[k]? = some (vs.getD k undef) := by
      have h1 : (cur.toList.take (vs.length * 1))[k]? = vs[k]? := by rw [hx]
      rw [List.getElem?_take, if_pos (by omega)] at h1
      rw [← Array.getElem?_toList, h1]
      simp [List.getD, hk]
    simp [World.cell?, hh, e1]
section
variable {ops : Array Oper} {rest : List Oper} {o : Oper} {a : Act} {w : World} {Q : Exit → Act → World → Prop}
/-- 'append(s, x)', s a row of one's own, x one value that is a cell. -/
theorem wpList_app1 (hgd : o.guard = none) (s x : Operand) (t e : TypeId) (z : Value) (bytes : Nat) (ho : o.op = .call { callee := .builtin .append, args := #[s, x], argTypes := #[t, t] })
    (ht : Try.prog.underlying t = some (.slice e)) (hinfo : (Try.prog.info? e).map (fun i => (i.zero, i.size, i.bytes)) = some (some z, 1, bytes)) (hzs : z.cells.size = 1) (hby : bytes ≤ 100)
    (base : Nat) (v : Value) (vs : List Value) (hs : a.eval s = v) (hown : Own1 w base e v vs) (g : Nat) (u : Value) (hx : a.eval x = .slice (some ⟨g, 0, none⟩) 1 1) (hu : w.cell? ⟨g, 0, none⟩ = some u) (h1 : u.oneCell' = true)
    (hl : vs.length ≤ 1000000000) (hbase : base ≤ w.heap.size)
    (h : ∀ v' w', Own1 w' base e v' (vs ++ [u]) → Below base w w' → w.heap.size ≤ w'.heap.size → w.grownBy w' v.ownBlock → wpList Try.prog ops Q rest (a.put o.dst v') w') : wpList Try.prog ops Q (o :: rest) a w := by
  obtain ⟨i0, hi, hz0, hz1, hz2⟩ := info_parts hinfo
  refine wpList_append_own _ hgd s x t ho base e i0 z 1 bytes ht hi hz0 hz1 hz2 hzs (by decide) v vs.length vs hs hown ⟨g, 0, none⟩ 1 1 [u] hx rfl ?_ (by intro q hq; simp at hq; subst hq; exact h1) (by unfold maxLen; omega) (Nat.le_trans (Nat.mul_le_mul (show vs.length + 1 ≤ 1000000001 by omega) hby) (by decide)) hbase ?_
  · intro j q hj
    match j, hj with
    | 0, hj => simp at hj; subst hj; simpa [Addr.add] using hu
  · intro v' w' q1 q2 _
    refine h v' w' ?_ ((Below.refl base w).grown q2 hbase (own1_from hown)) q2.size q2
    unfold Own1
    rw [List.length_append]
    exact q1
end
theorem infoStr : (Try.prog.info? 9).map (fun i => (i.zero, i.size, i.bytes)) = some (some (.string ByteArray.empty), 1, 16) := by kernel_rfl
/-- All bytes of frames. -/
def totL (l : List (List Int)) : Nat := (l.map fun x => 8 + x.length).sum
theorem totL_snoc (l : List (List Int)) (x : List Int) : totL (l ++ [x]) = totL l + (8 + x.length) := by simp [totL]
theorem tot_L (xs : List Bd) : tot xs = (totL (xs.map (·.2)) : Nat) := by
  induction xs with
  | nil => rfl
  | cons x r ih => simp only [tot, totL, List.map_cons, List.sum_cons] at ih ⊢; rw [ih]; simp
/-- More fuel than bytes is fuel enough. -/
theorem allF_fuel (f : Nat) : ∀ (g : Nat) (b : List Int), b.length < f → b.length < g → allF f b = allF g b := by
  induction f with
  | zero => intro g b h; omega
  | succ f ih =>
    intro g b h1 h2
    match g, h2 with
    | g + 1, h2 =>
      unfold allF
      by_cases c : (tkN b).2.2 = 0
      · rw [if_pos c, if_pos c]
        have := tkN_ok b c
        rw [ih g _ (by simp; omega) (by simp; omega)]
      · rw [if_neg c, if_neg c]
theorem allN_step (b : List Int) : allN b = if (tkN b).2.2 = 0 then (tkN b).1 :: allN (b.drop (8 + (tkN b).1.length)) else [] := by
  unfold allN
  conv => lhs; unfold allF
  by_cases c : (tkN b).2.2 = 0
  · rw [if_pos c, if_pos c]
    have := tkN_ok b c
    rw [allF_fuel b.length ((b.drop (8 + (tkN b).1.length)).length + 1) _ (by simp; omega) (by simp)]
  · rw [if_neg c, if_neg c]
def strs (l : List (List Int)) : List Value := l.map fun x => .string (txt x)
def RAllPost (b : List Int) (w : World) (e : Ending) (w' : World) : Prop := ∃ lv, Hid (e = .returned (.tuple #[lv, .int .i64 (totL (allN b) : Nat)])) ∧ Own1 w' w.heap.size 9 lv (strs (allN b)) ∧ Below w.heap.size w w'
set_option maxRecDepth 100000 in
set_option maxHeartbeats 4000000 in
theorem rall_any (b : ByteArray) (w : World) (hb : b.size ≤ 1000000) : Calls Try.prog 15 #[.string b] w (RAllPost (byt b) w) := by
  have hbl := byt_length b
  have HBL := Lib.hid hbl
  clear hbl
  go_enter Try.func15, Try.ntmps15
  go_wp2
  go_loopw [4, 5] (fun lv c wr => ∃ (k : Nat) (pre : List (List Int)), k ≤ b.size ∧ pre.length ≤ k ∧ c = .int .i64 k ∧ Hid (pre ++ allN ((byt b).drop k) = allN (byt b)) ∧ Hid (totL pre = k) ∧ Hid (Own1 wr w.heap.size 9 lv (strs pre)) ∧ Hid (Below w.heap.size w wr)) (fun _ c _ => b.size - (intOf c).toNat)
  case atStart => exact ⟨0, [], by omega, by simp, rfl, rfl, rfl, Own1.nil _ _ _, Below.refl _ _⟩
  case round =>
    obtain ⟨k, pre, hk, hpk, rfl, hA, hT, hO, hB⟩ := hrel
    have k1 : (k : Int) ≤ b.size := by omega
    have hcs : (b.extract k b.size).size ≤ 1000000 := by simp; omega
    have hcut : byt (b.extract k b.size) = (byt b).drop k := by rw [byt_extract, List.take_of_length_le (by rw [HBL.out]; omega)]
    have HCUT := Lib.hid hcut
    have HCS := Lib.hid hcs
    clear hcut hcs
    go_wp2_with fail
    refine (rtake_any _ _ HCS.out).mono ?_
    rw [HCUT.out]
    rintro e w1 ⟨rfl, hb1⟩
    have hstep := allN_step ((byt b).drop k)
    have hok := tkN_ok ((byt b).drop k)
    obtain ⟨X, hX⟩ : ∃ X, (tkN ((byt b).drop k)).1 = X := ⟨_, rfl⟩
    obtain ⟨m, hm⟩ : ∃ m, (tkN ((byt b).drop k)).2.1 = m := ⟨_, rfl⟩
    obtain ⟨er, her⟩ : ∃ er, (tkN ((byt b).drop k)).2.2 = er := ⟨_, rfl⟩
    rw [hX, hm, her] at hok
    rw [hX, her] at hstep
    rw [hX, hm, her]
    have hB1 : Below w.heap.size w w1 := below_self hB.out hb1
    have hO1 := hO.out.below hb1
    have hz1 := hB1.size
    have HB1 := Lib.hid hB1
    have HO1 := Lib.hid hO1
    clear hX hm her hB hO hb1 hB1 hO1
    by_cases c : er = 0
    · subst c
      rw [if_pos rfl] at hstep
      obtain ⟨ho1, ho2⟩ := hok rfl
      subst ho1
      have hlen : (List.drop k (byt b)).length = b.size - k := by rw [List.length_drop, HBL.out]
      have hS := hstep
      have HS := Lib.hid hS
      clear hS hstep hok
      rw [hlen] at ho2
      clear hlen
      have hkx : k + (8 + X.length) ≤ b.size := by omega
      go_wp2_with (refine wpList_app1 rfl _ _ 36 9 _ 16 rfl Try.underlying36 infoStr rfl (by omega) w.heap.size _ (strs pre) rfl (HO1.out.below ((Below.refl _ _).alloc (Nat.le_refl _) _)) w1.heap.size (.string (txt X)) rfl ?hu rfl (by simp [strs]; omega) (by simp; omega) ?_)
      case hu => simp [go_sem]
      intro v2 w2 ho3 hb3 _ _
      have hB2 : Below w.heap.size w w2 := (HB1.out.alloc hz1 _).trans hb3
      have HB2 := Lib.hid hB2
      have HO2 := Lib.hid ho3
      clear ho3 hb3 hB2 HB1 HO1
      go_wp2
      go_roundw
      case rel =>
        refine ⟨k + (8 + X.length), pre ++ [X], hkx, by simp; omega, by first | (simp; done) | (simp; omega), ?_, ?_, ?_, HB2.out⟩
        · unfold Hid
          rw [← hA.out, HS.out, List.drop_drop]
          simp
        · unfold Hid; rw [totL_snoc, hT.out]
        · unfold Hid; have := HO2.out; simpa [strs] using this
      case measure => simp [intOf]; omega
    · rw [if_neg c] at hstep
      have hS := hA.out
      rw [hstep, List.append_nil] at hS
      have HS := Lib.hid hS
      have c1 : (er == 0) = false := by simpa using c
      have c2 : (er != 0) = true := by simpa using c
      clear hS hstep hok hA
      go_wp2
      go_ret2
      refine ⟨u4, ?_, ?_, HB1.out⟩
      · unfold Hid; rw [← HS.out, hT.out]; rfl
      · rw [← HS.out]; exact HO1.out
end Go.Proofs.Ytcieilbnlbielaa
