/-
  The walks of package paths: what is made of names.
-/
import Derived.Test.YtdhmalpeooobfaaPthC
namespace Go.Proofs.Ytdhmalpeooobfaa
open Go.RowKit
set_option linter.unusedSimpArgs false
set_option linter.unusedVariables false

theorem Own1.cap {w : World} {base e : Nat} {a : Option Addr} {n c : Nat} {vs : List Value} (h : Own1 w base e (.slice a n c) vs) : n ≤ c := by
  rcases h.2 with ⟨hv, h0⟩ | ⟨g, cap, cur, hv, hg, hh, hn, _⟩
  · simp only [Value.slice.injEq] at hv
    omega
  · simp only [Value.slice.injEq] at hv
    omega
theorem tx_len (ns : List (List UInt8)) : (tx ns).length = ns.length := by simp [tx]
theorem tx_inj {a b : List (List UInt8)} (h : tx a = tx b) : a = b := by
  have : (tx a).map (·.data.toList) = (tx b).map (·.data.toList) := by rw [h]
  simpa [tx, ofL_data, Function.comp_def] using this
theorem tx_data (ns : List (List UInt8)) : (tx ns).map (·.data.toList) = ns := by simp [tx, ofL_data, Function.comp_def]
theorem tx_take (ns : List (List UInt8)) (k : Nat) : (tx ns).take k = tx (ns.take k) := by simp [tx, List.map_take]
theorem tx_of (ss : List ByteArray) : tx (ss.map (·.data.toList)) = ss := by
  unfold tx
  rw [List.map_map]
  have : (ofL ∘ fun x : ByteArray => x.data.toList) = id := by funext s; exact ofL_of s
  rw [this, List.map_id]
theorem tx_getD (ns : List (List UInt8)) (k : Nat) (h : k < ns.length) : (tx ns).getD k ByteArray.empty = ofL (ns.getD k []) := by simp [tx, List.getD, h]
/-- What cut gives: names that can be read. -/
theorem cut_srd {p : ByteArray} {w w' : World} {v : Value} (h : Own1 w' w.heap.size 9 v ((tx (nmL p)).map .string)) : ∃ a c, v = .slice a (nmL p).length c ∧ SRd w' a (tx (nmL p)) ∧ (nmL p).length ≤ c := by
  have h8 := okN_len (nm_ok p)
  obtain ⟨a, c, rfl, hs⟩ := srd_of_own h (by rw [tx_len]; omega)
  rw [tx_len] at h ⊢
  exact ⟨a, c, rfl, hs, h.cap⟩
theorem join_any (a : Option Addr) (c : Nat) (ns : List (List UInt8)) (w : World) (hs : SRd w a (tx ns)) (hc : ns.length ≤ c) (hl : (jn ns).length ≤ 1000000000) (hn : ns.length ≤ 1000000000) :
    Calls Try.prog 29 #[.slice a ns.length c, .string { data := #[47] }] w fun e w' => e = .returned (.string (ofL (jn ns))) ∧ Below w.heap.size w w' := by
  rcases hs.2 with h0 | ⟨g, off, rfl, hg, hcl⟩
  · have : ns = [] := tx_inj (a := ns) (b := []) h0
    subst this
    exact (Try.strings_Join_none a c _ w).mono fun e w' ⟨he, hw⟩ => ⟨he, hw ▸ Below.refl _ _⟩
  · have := Try.strings_Join g off c (tx ns) { data := #[47] } w (fun j x hj => by
      have hjl : j < (tx ns).length := (List.getElem?_eq_some_iff.1 hj).1
      have e := hcl j hjl
      simp only [List.getD, hj, Option.getD_some] at e
      exact e) hg (by rw [tx_len]; omega) (by rw [tx_len]; omega) (by
        rw [tx_data]
        show (jn ns).length ≤ _
        omega)
    rw [tx_data, tx_len] at this
    exact this
theorem cat47 (X : List UInt8) : ({ data := #[47] } : ByteArray) ++ ofL X = ofL (47 :: X) := by
  apply data_inj
  rw [ofL_data]
  simp [ofL]
def rtP (ns : List (List UInt8)) (w : World) (e : Ending) (w' : World) : Prop := e = .returned (.string (pth ns)) ∧ Below w.heap.size w w'
theorem jn_len (ns : List (List UInt8)) (h : okN ns = true) : (jn ns).length ≤ 136 := by
  have h8 := okN_len h
  have hN := okN_all h
  have key : ∀ l : List (List UInt8), (∀ n ∈ l, nmB n = true) → (jn l).length ≤ 17 * l.length := by
    intro l
    induction l with
    | nil => intro _; simp [jn_nil]
    | cons x r ih =>
      intro hl
      have hx := hl x (by simp)
      have hxl : x.length ≤ 16 := by
        unfold nmB at hx
        simp only [Bool.and_eq_true, decide_eq_true_eq] at hx
        exact hx.2
      have hr := ih (fun n hn => hl n (by simp [hn]))
      cases r with
      | nil => rw [jn_one]; simp; omega
      | cons y r =>
        rw [jn_cons]
        simp only [List.length_append, List.length_cons] at hr ⊢
        omega
  have := key ns hN
  omega
theorem pth_size (ns : List (List UInt8)) (h : okN ns = true) : (pth ns).size ≤ 137 := by
  have := jn_len ns h
  unfold pth
  rw [ofL_size]
  simp
  omega
theorem valid_any (p : ByteArray) (w : World) (hp : p.size ≤ 1000) (hm : ML w) : Calls Try.prog 10 #[.string p] w fun e w' => e = .returned (.bool (vld p)) ∧ Below w.heap.size w w' := by
  have cC := cut_any p w hp hm
  clear hm hp
  obtain ⟨B, hB⟩ : ∃ B, vld p = B := ⟨_, rfl⟩
  rw [hB]
  go_enter Try.func10, Try.ntmps10
  go_wp2_with fail
  refine cC.mono ?_
  rintro e w1 ⟨v, he, ho, hb⟩
  rw [hB] at he
  subst he
  have HBl := Lib.hid hb
  clear ho hb hB cC
  go_wp2
  go_ret
  exact ⟨rfl, HBl.out⟩
def NamP (p : ByteArray) (w : World) (e : Ending) (w' : World) : Prop := ∃ v, Hid (e = .returned v) ∧ Own1 w' w.heap.size 9 v ((tx (nmL p)).map .string) ∧ Below w.heap.size w w'
theorem names_any (p : ByteArray) (w : World) (hp : p.size ≤ 1000) (hm : ML w) : Calls Try.prog 13 #[.string p] w (NamP p w) := by
  have cC := cut_any p w hp hm
  clear hm hp
  go_enter Try.func13, Try.ntmps13
  go_wp2_with fail
  refine cC.mono ?_
  rintro e w1 ⟨v, he, ho, hb⟩
  subst he
  have HO := Lib.hid ho
  have HBl := Lib.hid hb
  clear ho hb cC
  go_wp2
  go_ret
  exact ⟨v, rfl, HO.out, HBl.out⟩
theorem depth_any (p : ByteArray) (w : World) (hp : p.size ≤ 1000) (hm : ML w) : Calls Try.prog 15 #[.string p] w fun e w' => e = .returned (.int .i64 (dpt p)) ∧ Below w.heap.size w w' := by
  have cC := cut_any p w hp hm
  clear hm hp
  cases hB : vld p with
  | true =>
    have e1 : dpt p = ((nmL p).length : Int) := by unfold dpt; rw [hB]; rfl
    obtain ⟨n, hn⟩ : ∃ n, (nmL p).length = n := ⟨_, rfl⟩
    rw [e1, hn]
    go_enter Try.func15, Try.ntmps15
    go_wp2_with fail
    refine cC.mono ?_
    rintro e w1 ⟨v, he, ho, hb⟩
    rw [hB] at he
    subst he
    obtain ⟨a, c, hv, hs, hcap⟩ := cut_srd ho
    rw [hn] at hv
    subst hv
    have HBl := Lib.hid hb
    clear ho hb hB cC hs hcap e1 hn
    go_wp2
    go_ret
    exact ⟨rfl, HBl.out⟩
  | false =>
    have e1 : dpt p = -1 := by unfold dpt; rw [hB]; rfl
    rw [e1]
    go_enter Try.func15, Try.ntmps15
    go_wp2_with fail
    refine cC.mono ?_
    rintro e w1 ⟨v, he, ho, hb⟩
    rw [hB] at he
    subst he
    have HBl := Lib.hid hb
    clear ho hb hB cC e1
    go_wp2
    go_ret
    exact ⟨rfl, HBl.out⟩
set_option maxHeartbeats 1000000 in
theorem last_any (p : ByteArray) (w : World) (hp : p.size ≤ 1000) (hm : ML w) : Calls Try.prog 19 #[.string p] w fun e w' => e = .returned (.string (lst p)) ∧ Below w.heap.size w w' := by
  have cC := cut_any p w hp hm
  have hn8 := okN_len (nm_ok p)
  clear hm hp
  by_cases h0 : (nmL p).length = 0
  · have e1 : lst p = ByteArray.empty := by unfold lst; rw [if_pos h0]
    rw [e1]
    go_enter Try.func19, Try.ntmps19
    go_wp2_with fail
    refine cC.mono ?_
    rintro e w1 ⟨v, he, ho, hb⟩
    obtain ⟨B, hB⟩ : ∃ B, vld p = B := ⟨_, rfl⟩
    rw [hB] at he
    subst he
    obtain ⟨a, c, hv, hs, hcap⟩ := cut_srd ho
    rw [h0] at hv
    subst hv
    have HBl := Lib.hid hb
    clear ho hb hB cC hs hcap e1 h0
    go_wp2
    go_ret
    exact ⟨rfl, HBl.out⟩
  · have e1 : lst p = ofL ((nmL p).getLastD []) := by unfold lst; rw [if_neg h0]
    obtain ⟨m, hm⟩ : ∃ m, (nmL p).length = m + 1 := ⟨(nmL p).length - 1, by omega⟩
    have el : (nmL p).getD m [] = (nmL p).getLastD [] := by
      rw [List.getLastD_eq_getLast?, List.getLast?_eq_getElem?, hm]
      simp [List.getD]
    obtain ⟨L, hL⟩ : ∃ L, (nmL p).getLastD [] = L := ⟨_, rfl⟩
    rw [e1, hL]
    go_enter Try.func19, Try.ntmps19
    go_wp2_with fail
    refine cC.mono ?_
    rintro e w1 ⟨v, he, ho, hb⟩
    obtain ⟨B, hB⟩ : ∃ B, vld p = B := ⟨_, rfl⟩
    rw [hB] at he
    subst he
    obtain ⟨a, c, hv, hs, hcap⟩ := cut_srd ho
    have HBl := Lib.hid hb
    obtain ⟨g, off, rfl, hg, hcl⟩ := hs.cell m (by rw [tx_len]; omega)
    rw [tx_getD _ _ (by omega), el, hL] at hcl
    rw [hm] at hv
    subst hv
    have k1 : ((m : Int) + 1 == 0) = false := by simp; omega
    have k2 : (0 : Int) ≤ (m : Int) := by omega
    have k3 : (m : Int) ≤ 100 := by omega
    clear ho hb hB cC hs hcap e1 h0 el hL hm
    go_wp2
    go_ret
    exact ⟨rfl, HBl.out⟩
end Go.Proofs.Ytdhmalpeooobfaa
