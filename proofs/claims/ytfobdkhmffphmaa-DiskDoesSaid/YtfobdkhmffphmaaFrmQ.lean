/-
  Bodies and their frames, one behind the other: laws that serve wherever frames are.
-/
import Derived.Test.YtfobdkhmffphmaaFrm5
import Derived.Test.YtfobdkhmffphmaaStrs
namespace Go.Proofs.Ytfobdkhmffphmaa
open Go.RowKit
set_option linter.unusedSimpArgs false
set_option linter.unusedVariables false

set_option linter.unusedSimpArgs false
set_option linter.unusedVariables false

/-- An own row of values, each a cell. -/
def Own1 (w : World) (base e : Nat) (v : Value) (vs : List Value) : Prop := w.ownsRow base e 1 v vs.length vs
theorem own1_from {w : World} {base e : Nat} {v : Value} {vs : List Value} (h : Own1 w base e v vs) : ∀ k, v.ownBlock = some k → base ≤ k := by
  intro k hk
  rcases h.2 with ⟨rfl, _⟩ | ⟨g, cap, cur, rfl, hg, _⟩
  · cases hk
  · simp [Value.ownBlock] at hk; omega
theorem Own1.nil (w : World) (base e : Nat) : Own1 w base e (.slice none 0 0) [] := ⟨rfl, .inl ⟨rfl, rfl⟩⟩
theorem Own1.slice {w : World} {base e : Nat} {v : Value} {vs : List Value} (h : Own1 w base e v vs) : ∃ a c, v = .slice a vs.length c := by
  rcases h.2 with ⟨rfl, h0⟩ | ⟨g, cap, cur, rfl, _⟩
  · exact ⟨_, _, by rw [h0]⟩
  · exact ⟨_, _, rfl⟩
theorem Own1.below {w w' : World} {base e : Nat} {v : Value} {vs : List Value} (h : Own1 w base e v vs) (hb : Below w.heap.size w w') : Own1 w' base e v vs := by
  obtain ⟨h1, h2⟩ := h
  refine ⟨h1, ?_⟩
  rcases h2 with h2 | ⟨g, cap, cur, hv, hg, hh, hr⟩
  · exact .inl h2
  · exact .inr ⟨g, cap, cur, hv, hg, (hb.block g (Array.getElem?_eq_some_iff.1 hh).1).trans hh, hr⟩
theorem Own1.cell {w : World} {base e : Nat} {v : Value} {vs : List Value} (h : Own1 w base e v vs) (k : Nat) (hk : k < vs.length) : ∃ g c, v = .slice (some ⟨g, 0, none⟩) vs.length c ∧ g < w.heap.size ∧ w.cell? ⟨g, k, none⟩ = some (vs.getD k undef) := by
  rcases h.2 with ⟨rfl, h0⟩ | ⟨g, cap, cur, rfl, hg, hh, hn, hm, hs, hx⟩
  · omega
  · refine ⟨g, cap, rfl, (Array.getElem?_eq_some_iff.1 hh).1, ?_⟩
    have e1 : cur[k]? = some (vs.getD k undef) := by
      have h1 : (cur.toList.take (vs.length * 1))[k]? = vs[k]? := by rw [hx]
      rw [List.getElem?_take, if_pos (by omega)] at h1
      rw [← Array.getElem?_toList, h1]
      simp [List.getD, hk]
    simp [World.cell?, hh, e1]
section
variable {ops : Array Oper} {rest : List Oper} {o : Oper} {a : Act} {w : World} {Q : Exit → Act → World → Prop}
/-- 'append(s, x)', s a row of one's own, x one value that is a cell. -/
theorem wpList_app1 (hgd : o.guard = none) (s x : Operand) (t e : TypeId) (z : Value) (bytes : Nat) (ho : o.op = .call { callee := .builtin .append, args := #[s, x], argTypes := #[t, t] })
    (ht : Try.prog.underlying t = some (.slice e)) (hinfo : (Try.prog.info? e).map (fun i => (i.zero, i.size, i.bytes)) = some (some z, 1, bytes)) (hzs : z.cells.size = 1) (hby : bytes ≤ 100)
    (base : Nat) (v : Value) (vs : List Value) (hs : a.eval s = v) (hown : Own1 w base e v vs) (g : Nat) (u : Value) (hx : a.eval x = .slice (some ⟨g, 0, none⟩) 1 1) (hu : w.cell? ⟨g, 0, none⟩ = some u) (h1 : u.oneCell' = true)
    (hl : vs.length ≤ 1000000000) (hbase : base ≤ w.heap.size)
    (h : ∀ v' w', Own1 w' base e v' (vs ++ [u]) → Below base w w' → w.heap.size ≤ w'.heap.size → w.grownBy w' v.ownBlock → wpList Try.prog ops Q rest (a.put o.dst v') w') : wpList Try.prog ops Q (o :: rest) a w := by
  obtain ⟨i0, hi, hz0, hz1, hz2⟩ := info_parts hinfo
  refine wpList_append_own _ hgd s x t ho base e i0 z 1 bytes ht hi hz0 hz1 hz2 hzs (by decide) v vs.length vs hs hown ⟨g, 0, none⟩ 1 1 [u] hx rfl ?_ (by intro q hq; simp at hq; subst hq; exact h1) (by unfold maxLen; omega) (Nat.le_trans (Nat.mul_le_mul (show vs.length + 1 ≤ 1000000001 by omega) hby) (by decide)) hbase ?_
  · intro j q hj
    match j, hj with
    | 0, hj => simp at hj; subst hj; simpa [Addr.add] using hu
  · intro v' w' q1 q2 _
    refine h v' w' ?_ ((Below.refl base w).grown q2 hbase (own1_from hown)) q2.size q2
    unfold Own1
    rw [List.length_append]
    exact q1
end
/-- All bytes of frames. -/
def totL (l : List (List Int)) : Nat := (l.map fun x => 8 + x.length).sum
theorem totL_snoc (l : List (List Int)) (x : List Int) : totL (l ++ [x]) = totL l + (8 + x.length) := by simp [totL]
theorem tot_L (xs : List Bd) : tot xs = (totL (xs.map (·.2)) : Nat) := by
  induction xs with
  | nil => rfl
  | cons x r ih => simp only [tot, totL, List.map_cons, List.sum_cons] at ih ⊢; rw [ih]; simp
/-- More fuel than bytes is fuel enough. -/
theorem allF_fuel (f : Nat) : ∀ (g : Nat) (b : List Int), b.length < f → b.length < g → allF f b = allF g b := by
  induction f with
  | zero => intro g b h; omega
  | succ f ih =>
    intro g b h1 h2
    match g, h2 with
    | g + 1, h2 =>
      unfold allF
      by_cases c : (tkN b).2.2 = 0
      · rw [if_pos c, if_pos c]
        have := tkN_ok b c
        rw [ih g _ (by simp; omega) (by simp; omega)]
      · rw [if_neg c, if_neg c]
theorem allN_step (b : List Int) : allN b = if (tkN b).2.2 = 0 then (tkN b).1 :: allN (b.drop (8 + (tkN b).1.length)) else [] := by
  unfold allN
  conv => lhs; unfold allF
  by_cases c : (tkN b).2.2 = 0
  · rw [if_pos c, if_pos c]
    have := tkN_ok b c
    rw [allF_fuel b.length ((b.drop (8 + (tkN b).1.length)).length + 1) _ (by simp; omega) (by simp)]
  · rw [if_neg c, if_neg c]
set_option linter.unusedSimpArgs false
set_option linter.unusedVariables false

theorem allF_len (f : Nat) : ∀ (b : List Int), ∀ X ∈ allF f b, X.length ≤ b.length := by
  induction f with
  | zero => intro b X h; simp [allF] at h
  | succ f ih =>
    intro b X h
    unfold allF at h
    by_cases c : (tkN b).2.2 = 0
    · rw [if_pos c] at h
      rcases List.mem_cons.1 h with h | h
      · rw [h]; exact tk_len b
      · have := ih _ X h; simp at this; omega
    · rw [if_neg c] at h; simp at h
theorem allF_count (f : Nat) : ∀ (b : List Int), (allF f b).length ≤ b.length := by
  induction f with
  | zero => intro b; simp [allF]
  | succ f ih =>
    intro b
    unfold allF
    by_cases c : (tkN b).2.2 = 0
    · rw [if_pos c]
      have := tkN_ok b c
      have := ih (b.drop (8 + (tkN b).1.length))
      simp at this ⊢
      omega
    · rw [if_neg c]; simp
/-- What All hands back, told as a list of bodies. -/
structure AllRow (w : World) (lv : Value) (L : List (List Int)) : Prop where
  row : ∃ a c, lv = .slice a L.length c
  cell : ∀ k, k < L.length → ∃ g c xv, lv = .slice (some ⟨g, 0, none⟩) L.length c ∧ g < w.heap.size ∧ w.cell? ⟨g, k, none⟩ = some xv ∧ Bt w xv (L.getD k [])
theorem AllRow.below {w w' : World} {lv : Value} {L : List (List Int)} (h : AllRow w lv L) (hb : Below w.heap.size w w') : AllRow w' lv L := by
  refine ⟨h.row, fun k hk => ?_⟩
  obtain ⟨g, c, xv, e, hg, hc, ht⟩ := h.cell k hk
  exact ⟨g, c, xv, e, by have := hb.size; omega, (hb.cell (p := ⟨g, k, none⟩) hg).trans hc, ht.below hb⟩
theorem allrow_of {w' : World} {base : Nat} {lv : Value} {xs : List Bd} {L : List (List Int)} (hm : xs.map (·.2) = L) (hr : w'.ownsRow base 27 1 lv xs.length (xs.map (·.1))) (h8 : Rows8 base xs w') (hl : ∀ X ∈ L, X.length ≤ 9223372036854775807) : AllRow w' lv L := by
  have hn : L.length = xs.length := by rw [← hm]; simp
  have ho : Own1 w' base 27 lv (xs.map (·.1)) := by unfold Own1; rw [List.length_map]; exact hr
  refine ⟨?_, fun k hk => ?_⟩
  · obtain ⟨a, c, e⟩ := ho.slice
    exact ⟨a, c, by rw [e, hn, List.length_map]⟩
  · obtain ⟨g, c, e, hg, hc⟩ := ho.cell k (by rw [List.length_map]; omega)
    rw [List.length_map, ← hn] at e
    have hkx : k < xs.length := by omega
    have e1 : (xs.map (·.1)).getD k undef = (xs[k]).1 := by simp [List.getD, hkx]
    have e2 : L.getD k [] = (xs[k]).2 := by rw [← hm]; simp [List.getD, hkx]
    rw [e1] at hc
    refine ⟨g, c, _, e, hg, hc, ?_⟩
    rw [e2]
    exact (h8 _ (List.getElem_mem hkx)).bt (hl _ (by rw [← hm]; exact List.mem_map_of_mem (List.getElem_mem hkx)))
def AllP2 (b : List Int) (w : World) (e : Ending) (w' : World) : Prop := ∃ lv, Hid (e = .returned (.tuple #[lv, .int .i64 (totL (allN b) : Nat)])) ∧ AllRow w' lv (allN b) ∧ Below w.heap.size w w'
theorem all_any2 (v : Value) (b : List Int) (w : World) (hb : Bt w v b) (hx : ∀ x ∈ b, 0 ≤ x ∧ x ≤ 255) (hl : b.length ≤ 1000000000) : Calls Try.prog 21 #[v] w (AllP2 b w) := by
  refine (all_any v b w hb hx hl).mono ?_
  rintro e w' ⟨lv, xs, he, hm, hr, h8, hB⟩
  refine ⟨lv, ?_, allrow_of hm hr h8 (fun X q => Nat.le_trans (allF_len _ _ X q) (by omega)), hB⟩
  unfold Hid
  rw [he.out, tot_L, hm]
/-- Frames, one behind another. -/
def joinN (L : List (List Int)) : List Int := (L.map frm).flatten
theorem joinN_snoc (L : List (List Int)) (x : List Int) : joinN (L ++ [x]) = joinN L ++ frm x := by simp [joinN]
theorem joinN_len (L : List (List Int)) : (joinN L).length = totL L := by
  induction L with
  | nil => rfl
  | cons x r ih => simp only [joinN, totL, List.map_cons, List.flatten_cons, List.length_append, frm_length, List.sum_cons] at ih ⊢; omega
theorem totL_le (L : List (List Int)) (h : ∀ X ∈ L, X.length ≤ 500) : totL L ≤ 508 * L.length := by
  induction L with
  | nil => simp [totL]
  | cons x r ih =>
    have := h x (by simp)
    have := ih (fun X q => h X (by simp [q]))
    simp only [totL, List.map_cons, List.sum_cons, List.length_cons] at this ⊢
    omega
set_option linter.unusedSimpArgs false
set_option linter.unusedVariables false

theorem dec4_f4 (n : Nat) (r : List Int) (h : n < 4294967296) : dec4 (f4 n ++ r) = n := by
  unfold dec4 f4
  simp
  omega
theorem dec4_take (l : List Int) : dec4 (l.take 4) = dec4 l := by
  match l with
  | [] => rfl
  | [a] => rfl
  | [a, b] => rfl
  | [a, b, c] => rfl
  | a :: b :: c :: d :: r => rfl
def GoodL (L : List (List Int)) : Prop := ∀ X ∈ L, X.length ≤ 500 ∧ ∀ x ∈ X, 0 ≤ x ∧ x ≤ 255
theorem dec4_frm (X r : List Int) (h : X.length ≤ 500) : dec4 (frm X ++ r) = X.length := by
  unfold frm
  rw [List.append_assoc, List.append_assoc]
  exact dec4_f4 _ _ (by omega)
theorem tk_front (X r : List Int) (h : X.length ≤ 500) : tkN (frm X ++ r) = (X, ((8 + X.length : Nat) : Int), 0) := by
  have hd := dec4_frm X r h
  have hl : (frm X ++ r).length = X.length + 8 + r.length := by rw [List.length_append, frm_length]
  have hdr : (frm X ++ r).drop 4 = f4 (sumN 0 X) ++ (X ++ r) := by simp [frm, f4]
  have hdr8 : ((frm X ++ r).take (8 + X.length)).drop 8 = X := by
    rw [List.take_append_of_le_length (by rw [frm_length]; omega), List.take_of_length_le (by rw [frm_length]; omega)]
    simp [frm, f4]
  unfold tkN tkG
  rw [hd, hdr, dec4_f4 _ _ (sumN_lt 0 X), hdr8]
  rw [if_neg (by omega), if_neg (by omega), if_neg (by omega), if_neg (by simp)]
theorem tk_part (X r : List Int) (c : Nat) (h : X.length ≤ 500) (hc : c < 8 + X.length) : (tkN ((frm X ++ r).take c)).2.2 ≠ 0 := by
  have hl : ((frm X ++ r).take c).length = c := by rw [List.length_take, List.length_append, frm_length]; omega
  unfold tkN tkG
  by_cases c8 : c < 8
  · rw [if_pos (by omega)]; simp
  have hd : dec4 ((frm X ++ r).take c) = X.length := by
    rw [← dec4_take, List.take_take, Nat.min_eq_left (by omega), dec4_take, dec4_frm X r h]
  rw [hd, if_neg (by omega), if_neg (by omega), if_pos (by omega)]
  simp
theorem allN_front (X r : List Int) (h : X.length ≤ 500) : allN (frm X ++ r) = X :: allN r := by
  rw [allN_step, tk_front X r h, if_pos rfl]
  congr 2
  exact List.drop_left' (by rw [frm_length]; show X.length + 8 = 8 + X.length; omega)
theorem joinN_cons (X : List Int) (L : List (List Int)) : joinN (X :: L) = frm X ++ joinN L := by simp [joinN]
theorem joinN_append (A B : List (List Int)) : joinN (A ++ B) = joinN A ++ joinN B := by simp [joinN]
theorem allN_join (L : List (List Int)) (r : List Int) (h : GoodL L) : allN (joinN L ++ r) = L ++ allN r := by
  induction L with
  | nil => rfl
  | cons X L ih =>
    rw [joinN_cons, List.append_assoc, allN_front _ _ (h X (by simp)).1, ih (fun Y q => h Y (by simp [q]))]
    rfl
theorem allN_nil : allN [] = [] := by rw [allN_step]; rfl
def cutN : List (List Int) → Nat → Nat
  | [], _ => 0
  | X :: r, c => if 8 + X.length ≤ c then cutN r (c - (8 + X.length)) + 1 else 0
theorem cutN_le (L : List (List Int)) : ∀ c, cutN L c ≤ L.length := by
  induction L with
  | nil => intro c; simp [cutN]
  | cons X L ih =>
    intro c
    unfold cutN
    split
    · have := ih (c - (8 + X.length)); simp; omega
    · simp
theorem cutN_tot (L : List (List Int)) : ∀ c, totL (L.take (cutN L c)) ≤ c := by
  induction L with
  | nil => intro c; simp [totL]
  | cons X L ih =>
    intro c
    unfold cutN
    split
    · have := ih (c - (8 + X.length))
      simp only [List.take_succ_cons, totL, List.map_cons, List.sum_cons] at this ⊢
      omega
    · simp [totL]
theorem cutN_more (L : List (List Int)) : ∀ c, cutN L c < L.length → c < totL (L.take (cutN L c)) + (8 + (L.getD (cutN L c) []).length) := by
  induction L with
  | nil => intro c h; simp at h
  | cons X L ih =>
    intro c h
    unfold cutN at h ⊢
    by_cases q : 8 + X.length ≤ c
    · rw [if_pos q] at h ⊢
      have := ih (c - (8 + X.length)) (by simpa using h)
      simp only [List.take_succ_cons, totL, List.map_cons, List.sum_cons, List.getD_cons_succ] at this ⊢
      omega
    · rw [if_neg q]
      simp [totL]
      omega
theorem allN_cut (L : List (List Int)) (h : GoodL L) : ∀ c, c ≤ totL L → allN ((joinN L).take c) = L.take (cutN L c) := by
  induction L with
  | nil => intro c _; simp [joinN, cutN, allN_nil]
  | cons X L ih =>
    intro c hc
    have hX := (h X (by simp)).1
    rw [joinN_cons]
    unfold cutN
    by_cases q : 8 + X.length ≤ c
    · rw [if_pos q, List.take_append, List.take_of_length_le (by rw [frm_length]; omega), frm_length, allN_front _ _ hX, Nat.add_comm X.length 8]
      rw [ih (fun Y q => h Y (by simp [q])) _ (by simp only [totL, List.map_cons, List.sum_cons] at hc ⊢; omega)]
      rfl
    · rw [if_neg q, allN_step, if_neg (tk_part X _ c hX (by omega))]
      rfl
theorem joinN_range (L : List (List Int)) (h : GoodL L) : ∀ x ∈ joinN L, 0 ≤ x ∧ x ≤ 255 := by
  induction L with
  | nil => intro x q; simp [joinN] at q
  | cons X L ih =>
    intro x q
    rw [joinN_cons] at q
    rcases List.mem_append.1 q with q | q
    · exact frm_range (h X (by simp)).2 (by have := (h X (by simp)).1; omega) x q
    · exact ih (fun Y q => h Y (by simp [q])) x q
end Go.Proofs.Ytfobdkhmffphmaa
