/-
  The walk of PathsJoin.
-/
import Derived.Test.YtdhmalpeooobfaaPthU
namespace Go.Proofs.Ytdhmalpeooobfaa
open Go.RowKit
set_option linter.unusedSimpArgs false
set_option linter.unusedVariables false

theorem jn_far (p q : ByteArray) (w : World) (hm : ML w) (h : 300 < p.size ∨ 300 < q.size) :
    Calls Try.prog 7 #[.string p, .string q] w fun e w' => e = .returned (.bool true) ∧ Below w.heap.size w w' := by
  have HM := Lib.hid hm
  have HB : Hid (Below w.heap.size w w) := Lib.hid (Below.refl _ _)
  clear hm
  by_cases h1 : p.size ≤ 300
  · have k1 : ¬ (300 : Int) < p.size := by omega
    have k2 : (300 : Int) < q.size := by omega
    clear h
    go_enter Try.func7, Try.ntmps7
    go_wp2_with (first
      | (go_at_call 9; refine (works_any _ (HM.out.below HB.out)).mono ?_; rintro e w1 ⟨rfl, hb⟩; replace HB := Lib.hid (below_self HB.out hb); clear hb))
    go_ret
    exact ⟨rfl, HB.out⟩
  · have k1 : (300 : Int) < p.size := by omega
    clear h
    go_enter Try.func7, Try.ntmps7
    go_wp2_with (first
      | (go_at_call 9; refine (works_any _ (HM.out.below HB.out)).mono ?_; rintro e w1 ⟨rfl, hb⟩; replace HB := Lib.hid (below_self HB.out hb); clear hb))
    go_ret
    exact ⟨rfl, HB.out⟩
theorem jn_bad (p q : ByteArray) (w : World) (hm : ML w) (hp : p.size ≤ 300) (hq : q.size ≤ 300) (h : vld p = false ∨ vld q = false) :
    Calls Try.prog 7 #[.string p, .string q] w fun e w' => e = .returned (.bool true) ∧ Below w.heap.size w w' := by
  have HM := Lib.hid hm
  have HB : Hid (Below w.heap.size w w) := Lib.hid (Below.refl _ _)
  have hp1 : ¬ (300 : Int) < p.size := by omega
  have hq1 : ¬ (300 : Int) < q.size := by omega
  have hp2 : p.size ≤ 1000 := by omega
  have hq2 : q.size ≤ 1000 := by omega
  clear hm hp hq
  cases vp : vld p with
  | false =>
    clear h
    go_enter Try.func7, Try.ntmps7
    go_wp2_with (first
      | (go_at_call 9; refine (works_any _ (HM.out.below HB.out)).mono ?_; rintro e w1 ⟨rfl, hb⟩; replace HB := Lib.hid (below_self HB.out hb); clear hb)
      | (go_at_call 10; refine (valid_any _ _ (by assumption) (HM.out.below HB.out)).mono ?_; rintro e w1 ⟨rfl, hb⟩; replace HB := Lib.hid (below_self HB.out hb); clear hb))
    go_ret
    exact ⟨rfl, HB.out⟩
  | true =>
    have vq : vld q = false := by
      rcases h with h | h
      · rw [vp] at h; cases h
      · exact h
    clear h
    go_enter Try.func7, Try.ntmps7
    go_wp2_with (first
      | (go_at_call 9; refine (works_any _ (HM.out.below HB.out)).mono ?_; rintro e w1 ⟨rfl, hb⟩; replace HB := Lib.hid (below_self HB.out hb); clear hb)
      | (go_at_call 10; refine (valid_any _ _ (by assumption) (HM.out.below HB.out)).mono ?_; rintro e w1 ⟨rfl, hb⟩; replace HB := Lib.hid (below_self HB.out hb); clear hb))
    go_ret
    exact ⟨rfl, HB.out⟩
theorem own_cap0 {w : World} {base e : Nat} {a : Option Addr} {n c : Nat} {vs : List Value} (h : Own1 w base e (.slice a n c) vs) : a = none → c = 0 := by
  rintro rfl
  rcases h.2 with ⟨hv, h0⟩ | ⟨g, cap, cur, hv, _⟩
  · simp only [Value.slice.injEq] at hv
    exact hv.2.2
  · simp at hv
/-- What is said of the joint path. -/
def JnEnd (p q r : ByteArray) (E : Int) : Prop :=
  (8 < (nmL p).length + (nmL q).length ∧ r = ByteArray.empty ∧ E = 1) ∨
  ((nmL p).length + (nmL q).length ≤ 8 ∧ E = 0 ∧ r.size ≤ 1000 ∧ vld r = true ∧ dpt r = ((nmL p).length : Int) + ((nmL q).length : Int) ∧
    ((nmL q = [] ∧ r = p) ∨ (nmL q ≠ [] ∧ blw p r = true ∧ lst r = lst q)))
theorem jn_end (p q : ByteArray) (vp : vld p = true) (vq : vld q = true) : JnEnd p q (ofP (tx (nmL p ++ nmL q))) (ofE (tx (nmL p ++ nmL q))) := by
  have hd := tx_data (nmL p ++ nmL q)
  unfold JnEnd ofP ofE
  rw [hd]
  by_cases h8 : (nmL p).length + (nmL q).length ≤ 8
  · have hok : okN (nmL p ++ nmL q) = true := okN_mk (fun n hn => by
      rcases List.mem_append.1 hn with h | h
      · exact okN_all (nm_ok p) n h
      · exact okN_all (nm_ok q) n h) (by simp; omega)
    rw [hok]
    obtain ⟨e1, e2⟩ := pth_vld hok
    have hs := pth_size _ hok
    refine .inr ⟨h8, rfl, by simp only [if_true]; omega, by simpa using e1, ?_, ?_⟩
    · simp only [if_true]
      rw [dpt_of e1, e2, List.length_append]
      simp
    · simp only [if_true]
      by_cases hn : nmL q = []
      · refine .inl ⟨hn, ?_⟩
        rw [hn, List.append_nil]
        exact (vld_pth vp).symm
      · refine .inr ⟨hn, ?_, ?_⟩
        · unfold blw
          rw [vp, e1, e2]
          have : 0 < (nmL q).length := List.length_pos_iff.2 hn
          simp [this]
        · unfold lst
          have h0 : (nmL q).length ≠ 0 := fun h => hn (List.eq_nil_of_length_eq_zero h)
          rw [e2, List.length_append, if_neg (by omega), if_neg h0]
          congr 1
          rw [List.getLastD_eq_getLast?, List.getLastD_eq_getLast?, List.getLast?_append]
          cases hl : (nmL q).getLast? with
          | none => exact absurd (List.getLast?_eq_none_iff.1 hl) hn
          | some x => rfl
  · have hok : okN (nmL p ++ nmL q) = false := by
      apply Bool.eq_false_iff.2
      intro hc
      have := okN_len hc
      simp at this
      omega
    rw [hok]
    exact .inl ⟨by omega, rfl, rfl⟩
section
variable {ops : Array Oper} {rest : List Oper} {o : Oper} {a : Act} {w : World} {Q : Exit → Act → World → Prop}
/-- 'append(l, x...)' of texts, its length under a name. -/
theorem wpList_appS2 {n : Nat} (hgd : o.guard = none) (s x : Operand) (ho : o.op = .call { callee := .builtin .append, args := #[s, x], argTypes := #[25, 25] })
    (base : Nat) (v : Value) (vs : List ByteArray) (hs : a.eval s = v) (hown : Own1 w base 9 v (vs.map .string)) (ad : Option Addr) (cap : Nat) (ss : List ByteArray) (hn : ss.length = n) (hx : a.eval x = .slice ad n cap) (hy : SRd w ad ss) (hc : ad = none → cap = 0)
    (hl : vs.length + ss.length ≤ 1000000) (hbase : base ≤ w.heap.size)
    (h : ∀ v' w', Own1 w' base 9 v' ((vs ++ ss).map .string) → Below base w w' → w.heap.size ≤ w'.heap.size → wpList Try.prog ops Q rest (a.put o.dst v') w') : wpList Try.prog ops Q (o :: rest) a w := by
  subst hn
  exact wpList_appS hgd s x ho base v vs hs hown ad cap ss hx hy hc hl hbase h
end
set_option maxHeartbeats 4000000 in
theorem jn_long (p q : ByteArray) (w : World) (hm : ML w) (hp : p.size ≤ 300) (hq : q.size ≤ 300) (vp : vld p = true) (vq : vld q = true) (r : ByteArray) (E : Int) (hr : ofP (tx (nmL p ++ nmL q)) = r) (hE : ofE (tx (nmL p ++ nmL q)) = E) (h : 8 < (nmL p).length + (nmL q).length) (hr0 : r = ByteArray.empty) (hE1 : E = 1) :
    Calls Try.prog 7 #[.string p, .string q] w fun e w' => e = .returned (.bool true) ∧ Below w.heap.size w w' := by
  have HM := Lib.hid hm
  have HB : Hid (Below w.heap.size w w) := Lib.hid (Below.refl _ _)
  have hp1 : ¬ (300 : Int) < p.size := by omega
  have hq1 : ¬ (300 : Int) < q.size := by omega
  have hp2 : p.size ≤ 1000 := by omega
  have hq2 : q.size ≤ 1000 := by omega
  have l1 := okN_len (nm_ok p)
  have l2 := okN_len (nm_ok q)
  have hd1 := dpt_of vp
  have hd2 := dpt_of vq
  obtain ⟨n, hn⟩ : ∃ n, (nmL p).length = n := ⟨_, rfl⟩
  obtain ⟨m, hmq⟩ : ∃ m, (nmL q).length = m := ⟨_, rfl⟩
  rw [hn] at l1 hd1
  rw [hmq] at l2 hd2
  have t1 : (tx (nmL p)).length = n := by rw [tx_len, hn]
  have t2 : (tx (nmL q)).length = m := by rw [tx_len, hmq]
  have t3 : tx (nmL p) ++ tx (nmL q) = tx (nmL p ++ nmL q) := by simp [tx]
  have t4 : (tx (nmL p ++ nmL q)).length = n + m := by rw [← t3, List.length_append, t1, t2]
  have HN := Lib.hid hn
  have HMQ := Lib.hid hmq
  have T1 := Lib.hid t1
  have T2 := Lib.hid t2
  have T3 := Lib.hid t3
  have T4 := Lib.hid t4
  have HR := Lib.hid hr
  have HE := Lib.hid hE
  subst hr0 hE1
  rw [hn, hmq] at h
  have h8 : (8 : Int) < (n : Int) + (m : Int) := by omega
  clear hd1 hd2
  clear hm hp hq t1 t2 t3 t4 hn hmq hr hE
  go_enter Try.func7, Try.ntmps7
  go_wp2_with (first
    | (go_at_call 9; refine (works_any _ (HM.out.below HB.out)).mono ?_; rintro e w1 ⟨rfl, hb⟩; replace HB := Lib.hid (below_self HB.out hb); clear hb)
    | (go_at_call 10; refine (valid_any _ _ (by assumption) (HM.out.below HB.out)).mono ?_; rintro e w1 ⟨rfl, hb⟩; replace HB := Lib.hid (below_self HB.out hb); clear hb))
  refine (names_any _ _ (by assumption) (HM.out.below HB.out)).mono ?_
  rintro e wn ⟨v, he, ho, hb⟩
  subst he
  obtain ⟨a1, c1, hv, hs1⟩ := srd_of_own ho (by rw [T1.out]; omega)
  rw [hv] at ho
  have hc0 := own_cap0 ho
  rw [T1.out] at hv
  subst hv
  have HS1 := Lib.hid hs1
  have HC1 := Lib.hid hc0
  replace HB := Lib.hid (below_self HB.out hb)
  have hl1 : ([] : List ByteArray).length + (tx (nmL p)).length ≤ 1000000 := by rw [T1.out]; simp; omega
  clear ho hb hs1 hc0
  go_wp2_with (refine wpList_appS2 (n := n) rfl _ _ rfl w.heap.size _ [] rfl (Own1.nil _ _ _) a1 c1 (tx (nmL p)) T1.out rfl HS1.out HC1.out hl1 HB.out.size ?_)
  intro v2 w2 ho2 hb2 hz2
  have HO2 : Hid (Own1 w2 w.heap.size 9 v2 ((tx (nmL p)).map .string)) := Lib.hid ho2
  replace HB := Lib.hid (HB.out.trans hb2)
  clear ho2 hb2 hz2 HS1 HC1 hl1
  go_wp2_with fail
  refine (names_any _ _ (by assumption) (HM.out.below HB.out)).mono ?_
  rintro e wm ⟨v, he, ho, hb⟩
  subst he
  obtain ⟨a3, c3, hv, hs3⟩ := srd_of_own ho (by rw [T2.out]; omega)
  rw [hv] at ho
  have hc0 := own_cap0 ho
  rw [T2.out] at hv
  subst hv
  have HS3 := Lib.hid hs3
  have HC3 := Lib.hid hc0
  replace HO2 := Lib.hid (HO2.out.below hb)
  replace HB := Lib.hid (below_self HB.out hb)
  have hl3 : (tx (nmL p)).length + (tx (nmL q)).length ≤ 1000000 := by rw [T1.out, T2.out]; omega
  clear ho hb hs3 hc0
  go_wp2_with (refine wpList_appS2 (n := m) rfl _ _ rfl w.heap.size _ (tx (nmL p)) rfl HO2.out a3 c3 (tx (nmL q)) T2.out rfl HS3.out HC3.out hl3 HB.out.size ?_)
  intro v4 w4 ho4 hb4 hz4
  have ho5 : Own1 w4 w.heap.size 9 v4 ((tx (nmL p ++ nmL q)).map .string) := by rw [← T3.out, List.map_append]; exact ho4
  obtain ⟨a4, c4, hv, hs4⟩ := srd_of_own ho5 (by rw [T4.out]; omega)
  rw [hv] at ho5
  have hc4 := ho5.cap
  have hO := of_any a4 c4 (tx (nmL p ++ nmL q)) w4 hs4 hc4
  rw [HR.out, HE.out, T4.out] at hO
  rw [T4.out] at hv
  subst hv
  replace HB := Lib.hid (HB.out.trans hb4)
  clear ho4 ho5 hb4 hz4 hs4 hc4 HS3 HC3 hl3 HO2
  go_wp2_with fail
  refine hO.mono ?_
  rintro e w1 ⟨rfl, hb⟩
  replace HB := Lib.hid (below_self HB.out hb)
  clear hb hO
  go_wp2_with (first
    | (go_at_call 10; refine (valid_any _ _ (by assumption) (HM.out.below HB.out)).mono ?_; rintro e w1 ⟨rfl, hb⟩; replace HB := Lib.hid (below_self HB.out hb); clear hb))
  go_ret
  exact ⟨rfl, HB.out⟩
set_option maxHeartbeats 4000000 in
theorem jn_root (p q : ByteArray) (w : World) (hm : ML w) (hp : p.size ≤ 300) (hq : q.size ≤ 300) (vp : vld p = true) (vq : vld q = true) (r : ByteArray) (E : Int) (hr : ofP (tx (nmL p ++ nmL q)) = r) (hE : ofE (tx (nmL p ++ nmL q)) = E) (h : (nmL p).length + (nmL q).length ≤ 8) (hE0 : E = 0) (hrs : r.size ≤ 1000) (vr : vld r = true) (hdr : dpt r = ((nmL p).length : Int) + ((nmL q).length : Int)) (hq0 : nmL q = []) (hrp : r = p) :
    Calls Try.prog 7 #[.string p, .string q] w fun e w' => e = .returned (.bool true) ∧ Below w.heap.size w w' := by
  have HM := Lib.hid hm
  have HB : Hid (Below w.heap.size w w) := Lib.hid (Below.refl _ _)
  have hp1 : ¬ (300 : Int) < p.size := by omega
  have hq1 : ¬ (300 : Int) < q.size := by omega
  have hp2 : p.size ≤ 1000 := by omega
  have hq2 : q.size ≤ 1000 := by omega
  have l1 := okN_len (nm_ok p)
  have l2 := okN_len (nm_ok q)
  have hd1 := dpt_of vp
  have hd2 := dpt_of vq
  obtain ⟨n, hn⟩ : ∃ n, (nmL p).length = n := ⟨_, rfl⟩
  obtain ⟨m, hmq⟩ : ∃ m, (nmL q).length = m := ⟨_, rfl⟩
  rw [hn] at l1 hd1
  rw [hmq] at l2 hd2
  have t1 : (tx (nmL p)).length = n := by rw [tx_len, hn]
  have t2 : (tx (nmL q)).length = m := by rw [tx_len, hmq]
  have t3 : tx (nmL p) ++ tx (nmL q) = tx (nmL p ++ nmL q) := by simp [tx]
  have t4 : (tx (nmL p ++ nmL q)).length = n + m := by rw [← t3, List.length_append, t1, t2]
  have HN := Lib.hid hn
  have HMQ := Lib.hid hmq
  have T1 := Lib.hid t1
  have T2 := Lib.hid t2
  have T3 := Lib.hid t3
  have T4 := Lib.hid t4
  have HR := Lib.hid hr
  have HE := Lib.hid hE
  subst hE0
  rw [hn, hmq] at h hdr
  have h8 : ¬ (8 : Int) < (n : Int) + (m : Int) := by omega
  obtain ⟨s1, s2⟩ := (root_str vq).1 hq0
  obtain ⟨s3, s4⟩ := str_eq p
  have s5 : (r.toList == p.toList) = true := by rw [hrp]; exact s3
  clear hq0 hrp
  clear hm hp hq t1 t2 t3 t4 hn hmq hr hE
  go_enter Try.func7, Try.ntmps7
  go_wp2_with (first
    | (go_at_call 9; refine (works_any _ (HM.out.below HB.out)).mono ?_; rintro e w1 ⟨rfl, hb⟩; replace HB := Lib.hid (below_self HB.out hb); clear hb)
    | (go_at_call 10; refine (valid_any _ _ (by assumption) (HM.out.below HB.out)).mono ?_; rintro e w1 ⟨rfl, hb⟩; replace HB := Lib.hid (below_self HB.out hb); clear hb))
  refine (names_any _ _ (by assumption) (HM.out.below HB.out)).mono ?_
  rintro e wn ⟨v, he, ho, hb⟩
  subst he
  obtain ⟨a1, c1, hv, hs1⟩ := srd_of_own ho (by rw [T1.out]; omega)
  rw [hv] at ho
  have hc0 := own_cap0 ho
  rw [T1.out] at hv
  subst hv
  have HS1 := Lib.hid hs1
  have HC1 := Lib.hid hc0
  replace HB := Lib.hid (below_self HB.out hb)
  have hl1 : ([] : List ByteArray).length + (tx (nmL p)).length ≤ 1000000 := by rw [T1.out]; simp; omega
  clear ho hb hs1 hc0
  go_wp2_with (refine wpList_appS2 (n := n) rfl _ _ rfl w.heap.size _ [] rfl (Own1.nil _ _ _) a1 c1 (tx (nmL p)) T1.out rfl HS1.out HC1.out hl1 HB.out.size ?_)
  intro v2 w2 ho2 hb2 hz2
  have HO2 : Hid (Own1 w2 w.heap.size 9 v2 ((tx (nmL p)).map .string)) := Lib.hid ho2
  replace HB := Lib.hid (HB.out.trans hb2)
  clear ho2 hb2 hz2 HS1 HC1 hl1
  go_wp2_with fail
  refine (names_any _ _ (by assumption) (HM.out.below HB.out)).mono ?_
  rintro e wm ⟨v, he, ho, hb⟩
  subst he
  obtain ⟨a3, c3, hv, hs3⟩ := srd_of_own ho (by rw [T2.out]; omega)
  rw [hv] at ho
  have hc0 := own_cap0 ho
  rw [T2.out] at hv
  subst hv
  have HS3 := Lib.hid hs3
  have HC3 := Lib.hid hc0
  replace HO2 := Lib.hid (HO2.out.below hb)
  replace HB := Lib.hid (below_self HB.out hb)
  have hl3 : (tx (nmL p)).length + (tx (nmL q)).length ≤ 1000000 := by rw [T1.out, T2.out]; omega
  clear ho hb hs3 hc0
  go_wp2_with (refine wpList_appS2 (n := m) rfl _ _ rfl w.heap.size _ (tx (nmL p)) rfl HO2.out a3 c3 (tx (nmL q)) T2.out rfl HS3.out HC3.out hl3 HB.out.size ?_)
  intro v4 w4 ho4 hb4 hz4
  have ho5 : Own1 w4 w.heap.size 9 v4 ((tx (nmL p ++ nmL q)).map .string) := by rw [← T3.out, List.map_append]; exact ho4
  obtain ⟨a4, c4, hv, hs4⟩ := srd_of_own ho5 (by rw [T4.out]; omega)
  rw [hv] at ho5
  have hc4 := ho5.cap
  have hO := of_any a4 c4 (tx (nmL p ++ nmL q)) w4 hs4 hc4
  rw [HR.out, HE.out, T4.out] at hO
  rw [T4.out] at hv
  subst hv
  replace HB := Lib.hid (HB.out.trans hb4)
  clear ho4 ho5 hb4 hz4 hs4 hc4 HS3 HC3 hl3 HO2
  go_wp2_with fail
  refine hO.mono ?_
  rintro e w1 ⟨rfl, hb⟩
  replace HB := Lib.hid (below_self HB.out hb)
  clear hb hO
  go_wp2_with (first
    | (go_at_call 10; refine (valid_any _ _ (by assumption) (HM.out.below HB.out)).mono ?_; rintro e w1 ⟨rfl, hb⟩; replace HB := Lib.hid (below_self HB.out hb); clear hb)
    | (go_at_call 15; refine (depth_any _ _ (by assumption) (HM.out.below HB.out)).mono ?_; rintro e w1 ⟨rfl, hb⟩; replace HB := Lib.hid (below_self HB.out hb); clear hb)
    | (go_at_call 21; refine (below_any _ _ _ (by assumption) (by assumption) (HM.out.below HB.out)).mono ?_; rintro e w1 ⟨rfl, hb⟩; replace HB := Lib.hid (below_self HB.out hb); clear hb)
    | (go_at_call 19; refine (last_any _ _ (by assumption) (HM.out.below HB.out)).mono ?_; rintro e w1 ⟨rfl, hb⟩; replace HB := Lib.hid (below_self HB.out hb); clear hb))
  go_ret
  exact ⟨rfl, HB.out⟩
set_option maxHeartbeats 4000000 in
theorem jn_below (p q : ByteArray) (w : World) (hm : ML w) (hp : p.size ≤ 300) (hq : q.size ≤ 300) (vp : vld p = true) (vq : vld q = true) (r : ByteArray) (E : Int) (hr : ofP (tx (nmL p ++ nmL q)) = r) (hE : ofE (tx (nmL p ++ nmL q)) = E) (h : (nmL p).length + (nmL q).length ≤ 8) (hE0 : E = 0) (hrs : r.size ≤ 1000) (vr : vld r = true) (hdr : dpt r = ((nmL p).length : Int) + ((nmL q).length : Int)) (hq0 : nmL q ≠ []) (hbl : blw p r = true) (hll : lst r = lst q) :
    Calls Try.prog 7 #[.string p, .string q] w fun e w' => e = .returned (.bool true) ∧ Below w.heap.size w w' := by
  have HM := Lib.hid hm
  have HB : Hid (Below w.heap.size w w) := Lib.hid (Below.refl _ _)
  have hp1 : ¬ (300 : Int) < p.size := by omega
  have hq1 : ¬ (300 : Int) < q.size := by omega
  have hp2 : p.size ≤ 1000 := by omega
  have hq2 : q.size ≤ 1000 := by omega
  have l1 := okN_len (nm_ok p)
  have l2 := okN_len (nm_ok q)
  have hd1 := dpt_of vp
  have hd2 := dpt_of vq
  obtain ⟨n, hn⟩ : ∃ n, (nmL p).length = n := ⟨_, rfl⟩
  obtain ⟨m, hmq⟩ : ∃ m, (nmL q).length = m := ⟨_, rfl⟩
  rw [hn] at l1 hd1
  rw [hmq] at l2 hd2
  have t1 : (tx (nmL p)).length = n := by rw [tx_len, hn]
  have t2 : (tx (nmL q)).length = m := by rw [tx_len, hmq]
  have t3 : tx (nmL p) ++ tx (nmL q) = tx (nmL p ++ nmL q) := by simp [tx]
  have t4 : (tx (nmL p ++ nmL q)).length = n + m := by rw [← t3, List.length_append, t1, t2]
  have HN := Lib.hid hn
  have HMQ := Lib.hid hmq
  have T1 := Lib.hid t1
  have T2 := Lib.hid t2
  have T3 := Lib.hid t3
  have T4 := Lib.hid t4
  have HR := Lib.hid hr
  have HE := Lib.hid hE
  subst hE0
  rw [hn, hmq] at h hdr
  have h8 : ¬ (8 : Int) < (n : Int) + (m : Int) := by omega
  obtain ⟨s1, s2⟩ := (root_str vq).2 hq0
  obtain ⟨L, hL⟩ : ∃ L, lst q = L := ⟨_, rfl⟩
  rw [hL] at hll
  obtain ⟨s3, s4⟩ := str_eq L
  clear hq0
  clear hm hp hq t1 t2 t3 t4 hn hmq hr hE
  go_enter Try.func7, Try.ntmps7
  go_wp2_with (first
    | (go_at_call 9; refine (works_any _ (HM.out.below HB.out)).mono ?_; rintro e w1 ⟨rfl, hb⟩; replace HB := Lib.hid (below_self HB.out hb); clear hb)
    | (go_at_call 10; refine (valid_any _ _ (by assumption) (HM.out.below HB.out)).mono ?_; rintro e w1 ⟨rfl, hb⟩; replace HB := Lib.hid (below_self HB.out hb); clear hb))
  refine (names_any _ _ (by assumption) (HM.out.below HB.out)).mono ?_
  rintro e wn ⟨v, he, ho, hb⟩
  subst he
  obtain ⟨a1, c1, hv, hs1⟩ := srd_of_own ho (by rw [T1.out]; omega)
  rw [hv] at ho
  have hc0 := own_cap0 ho
  rw [T1.out] at hv
  subst hv
  have HS1 := Lib.hid hs1
  have HC1 := Lib.hid hc0
  replace HB := Lib.hid (below_self HB.out hb)
  have hl1 : ([] : List ByteArray).length + (tx (nmL p)).length ≤ 1000000 := by rw [T1.out]; simp; omega
  clear ho hb hs1 hc0
  go_wp2_with (refine wpList_appS2 (n := n) rfl _ _ rfl w.heap.size _ [] rfl (Own1.nil _ _ _) a1 c1 (tx (nmL p)) T1.out rfl HS1.out HC1.out hl1 HB.out.size ?_)
  intro v2 w2 ho2 hb2 hz2
  have HO2 : Hid (Own1 w2 w.heap.size 9 v2 ((tx (nmL p)).map .string)) := Lib.hid ho2
  replace HB := Lib.hid (HB.out.trans hb2)
  clear ho2 hb2 hz2 HS1 HC1 hl1
  go_wp2_with fail
  refine (names_any _ _ (by assumption) (HM.out.below HB.out)).mono ?_
  rintro e wm ⟨v, he, ho, hb⟩
  subst he
  obtain ⟨a3, c3, hv, hs3⟩ := srd_of_own ho (by rw [T2.out]; omega)
  rw [hv] at ho
  have hc0 := own_cap0 ho
  rw [T2.out] at hv
  subst hv
  have HS3 := Lib.hid hs3
  have HC3 := Lib.hid hc0
  replace HO2 := Lib.hid (HO2.out.below hb)
  replace HB := Lib.hid (below_self HB.out hb)
  have hl3 : (tx (nmL p)).length + (tx (nmL q)).length ≤ 1000000 := by rw [T1.out, T2.out]; omega
  clear ho hb hs3 hc0
  go_wp2_with (refine wpList_appS2 (n := m) rfl _ _ rfl w.heap.size _ (tx (nmL p)) rfl HO2.out a3 c3 (tx (nmL q)) T2.out rfl HS3.out HC3.out hl3 HB.out.size ?_)
  intro v4 w4 ho4 hb4 hz4
  have ho5 : Own1 w4 w.heap.size 9 v4 ((tx (nmL p ++ nmL q)).map .string) := by rw [← T3.out, List.map_append]; exact ho4
  obtain ⟨a4, c4, hv, hs4⟩ := srd_of_own ho5 (by rw [T4.out]; omega)
  rw [hv] at ho5
  have hc4 := ho5.cap
  have hO := of_any a4 c4 (tx (nmL p ++ nmL q)) w4 hs4 hc4
  rw [HR.out, HE.out, T4.out] at hO
  rw [T4.out] at hv
  subst hv
  replace HB := Lib.hid (HB.out.trans hb4)
  clear ho4 ho5 hb4 hz4 hs4 hc4 HS3 HC3 hl3 HO2
  go_wp2_with fail
  refine hO.mono ?_
  rintro e w1 ⟨rfl, hb⟩
  replace HB := Lib.hid (below_self HB.out hb)
  clear hb hO
  go_wp2_with (first
    | (go_at_call 10; refine (valid_any _ _ (by assumption) (HM.out.below HB.out)).mono ?_; rintro e w1 ⟨rfl, hb⟩; replace HB := Lib.hid (below_self HB.out hb); clear hb)
    | (go_at_call 15; refine (depth_any _ _ (by assumption) (HM.out.below HB.out)).mono ?_; rintro e w1 ⟨rfl, hb⟩; replace HB := Lib.hid (below_self HB.out hb); clear hb)
    | (go_at_call 21; refine (below_any _ _ _ (by assumption) (by assumption) (HM.out.below HB.out)).mono ?_; rintro e w1 ⟨rfl, hb⟩; replace HB := Lib.hid (below_self HB.out hb); clear hb)
    | (go_at_call 19; refine (last_any _ _ (by assumption) (HM.out.below HB.out)).mono ?_; rintro e w1 ⟨rfl, hb⟩; replace HB := Lib.hid (below_self HB.out hb); clear hb))
  go_ret
  exact ⟨rfl, HB.out⟩
theorem join_law (p q : ByteArray) (w : World) (hm : ML w) :
    Calls Try.prog 7 #[.string p, .string q] w fun e w' => e = .returned (.bool true) ∧ Below w.heap.size w w' := by
  by_cases h : 300 < p.size ∨ 300 < q.size
  · exact jn_far p q w hm h
  · have h1 : p.size ≤ 300 := by omega
    have h2 : q.size ≤ 300 := by omega
    by_cases hb : vld p = false ∨ vld q = false
    · exact jn_bad p q w hm h1 h2 hb
    · have vp : vld p = true := by cases e : vld p <;> simp_all
      have vq : vld q = true := by cases e : vld q <;> simp_all
      rcases jn_end p q vp vq with ⟨a, b, c⟩ | ⟨a, b, c, d, e, f⟩
      · exact jn_long p q w hm h1 h2 vp vq _ _ rfl rfl a b c
      · rcases f with ⟨f, g⟩ | ⟨f, g, i⟩
        · exact jn_root p q w hm h1 h2 vp vq _ _ rfl rfl a b c d e f g
        · exact jn_below p q w hm h1 h2 vp vq _ _ rfl rfl a b c d e f g i
end Go.Proofs.Ytdhmalpeooobfaa
