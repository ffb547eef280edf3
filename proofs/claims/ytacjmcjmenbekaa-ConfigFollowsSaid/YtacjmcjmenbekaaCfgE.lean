/-
  The walks of config.Same, Clone and Follows.
-/
import Derived.Test.YtacjmcjmenbekaaCfgD
namespace Go.Proofs.Ytacjmcjmenbekaa
open Go.RowKit
set_option linter.unusedSimpArgs false
set_option linter.unusedVariables false

def sameB (e1 : Int) (a : List Int) (e2 : Int) (b : List Int) : Bool := decide (e1 = e2) && decide (a = b)
theorem IRow.of_it {w : World} {a : Option Addr} {n c : Nat} {ns : List Int} (h : It w (.slice a n c) ns) : IRow w a ns := by
  obtain ⟨a, c, e, h1, h2⟩ := h
  simp only [Value.slice.injEq] at e
  rw [e.1]; exact h1
abbrev box2 (w : World) (e1 : Int) (a1 : Option Addr) (n1 c1 : Nat) (e2 : Int) (a2 : Option Addr) (n2 c2 : Nat) : World := boxC (boxC w e1 a1 n1 c1) e2 a2 n2 c2
theorem box2_below (w : World) (e1 : Int) (a1 : Option Addr) (n1 c1 : Nat) (e2 : Int) (a2 : Option Addr) (n2 c2 : Nat) : Below w.heap.size w (box2 w e1 a1 n1 c1 e2 a2 n2 c2) := ((Below.refl _ _).alloc (Nat.le_refl _) _).alloc (by simp) _
set_option maxHeartbeats 400000 in
theorem same_any (e1 e2 : Int) (a1 a2 : Option Addr) (c1 c2 : Nat) (ns ms : List Int) (w : World) (h1 : IRow w a1 ns) (h2 : IRow w a2 ms) :
    Calls Try.prog 20 #[cfgV e1 a1 ns.length c1, cfgV e2 a2 ms.length c2] w fun e w' => e = .returned (.bool (sameB e1 ns e2 ms)) ∧ Below w.heap.size w w' := by
  have bx := box2_below w e1 a1 ns.length c1 e2 a2 ms.length c2
  have H1 := Lib.hid (h1.below bx)
  have H2 := Lib.hid (h2.below bx)
  have HB := Lib.hid bx
  clear bx h1 h2
  by_cases q : e1 = e2
  · have HE : Hid (sameB e1 ns e2 ms = decide (ns = ms)) := Lib.hid (by simp [sameB, q])
    have t1 : (e1 == e2) = true := by simpa using q
    clear q
    go_enter Try.func20, Try.ntmps20
    go_wp2_with fail
    refine (equal_any _ _ _ _ ns ms _ H1.out H2.out).mono ?_
    rintro e w1 ⟨rfl, hb⟩
    have HB1 := Lib.hid (below_self HB.out hb)
    clear hb
    go_wp2
    go_ret
    exact ⟨ret_bool HE.out.symm, HB1.out⟩
  · have HE : Hid (sameB e1 ns e2 ms = false) := Lib.hid (by simp [sameB, q])
    have t1 : (e1 == e2) = false := by simpa using q
    clear q
    go_enter Try.func20, Try.ntmps20
    go_wp2
    go_ret
    exact ⟨ret_bool HE.out.symm, HB.out⟩
def CfPost (ep : Int) (xs : List Int) (w : World) (e : Ending) (w' : World) : Prop := ∃ v', Hid (e = .returned (.agg #[.int .i64 ep, v'])) ∧ It w' v' xs ∧ Below w.heap.size w w'
set_option maxHeartbeats 400000 in
theorem cclone_any (ep : Int) (ad : Option Addr) (cap : Nat) (ns : List Int) (w : World) (h : It w (.slice ad ns.length cap) ns) (hl : ns.length ≤ 100000) :
    Calls Try.prog 17 #[cfgV ep ad ns.length cap] w (CfPost ep ns w) := by
  have bx : Below w.heap.size w ((boxC w ep ad ns.length cap).alloc (.cells #[.int .i64 0, .slice none 0 0] 24)) := ((Below.refl _ _).alloc (Nat.le_refl _) _).alloc (by simp) _
  have H := Lib.hid (h.below bx)
  have HB := Lib.hid bx
  clear bx h
  go_enter Try.func17, Try.ntmps17
  go_wp2_with fail
  refine (clone_any _ ns _ H.out hl).mono ?_
  rintro e w1 ⟨v1, he, hi, hb⟩
  subst he
  obtain ⟨a1, c1, rfl, _⟩ := hi.it.row
  obtain ⟨hc, hf⟩ := bcell hb
  have hz := hb.size
  have HI := Lib.hid (hi.mono (show w.heap.size + 1 + 1 ≤ _ by simp))
  have HB1 := Lib.hid (below_self HB.out hb)
  simp at hz
  clear hb hi
  have hset : (w1.setCell ⟨w.heap.size, 1, none⟩ (.slice a1 ns.length c1)).cell? ⟨w.heap.size, 1, none⟩ = some (.slice a1 ns.length c1) := World.cell?_setCell_same' _ _ _ (by rw [hc _ _ (by simp <;> omega)]; simp [go_sem])
  go_wp2
  exact bodyPost_ret (v := .agg #[.int .i64 ep, .slice a1 ns.length c1]) (by simp [results, Try.results17, go_sem, hc, hf, hz]) rfl ⟨_, rfl, (((HI.out.set (by simp <;> omega) _).set (by simp <;> omega) _).set (by simp <;> omega) _).it, ((HB1.out.setCell (by simp <;> omega) _).setCell (by simp <;> omega) _).setCell (by simp <;> omega) _⟩
theorem also4 {W w' : World} {p0 p1 p2 p3 : Addr} {x0 x1 x2 x3 : Value} (hb : Below W.heap.size W w') (h0 : W.cell? p0 = some x0) (h1 : W.cell? p1 = some x1) (h2 : W.cell? p2 = some x2) (h3 : W.cell? p3 = some x3) (l0 : p0.block < W.heap.size) (l1 : p1.block < W.heap.size) (l2 : p2.block < W.heap.size) (l3 : p3.block < W.heap.size) :
    w'.cell? p0 = some x0 ∧ w'.cell? p1 = some x1 ∧ w'.cell? p2 = some x2 ∧ w'.cell? p3 = some x3 ∧ Below W.heap.size W w' := ⟨(hb.cell l0).trans h0, (hb.cell l1).trans h1, (hb.cell l2).trans h2, (hb.cell l3).trans h3, hb⟩
theorem folB_no {e1 e2 : Int} {a b : List Int} (h : valB e1 a = false ∨ valB e2 b = false ∨ e2 ≠ e1 + 1) : folB e1 a e2 b = false := by
  unfold folB
  rcases h with h | h | h <;> simp [h]
set_option maxHeartbeats 2000000 in
theorem follows_any (e1 e2 : Int) (a1 a2 : Option Addr) (c1 c2 : Nat) (ns ms : List Int) (w : World) (h1 : IRow w a1 ns) (h2 : IRow w a2 ms) :
    Calls Try.prog 19 #[cfgV e1 a1 ns.length c1, cfgV e2 a2 ms.length c2] w fun e w' => e = .returned (.bool (folB e1 ns e2 ms)) ∧ Below w.heap.size w w' := by
  have bx := box2_below w e1 a1 ns.length c1 e2 a2 ms.length c2
  have H1 := Lib.hid (h1.below bx)
  have H2 := Lib.hid (h2.below bx)
  have HB := Lib.hid bx
  clear bx h1 h2
  cases q1 : valB e1 ns
  · have Q1 := Lib.hid q1
    have HE := Lib.hid (folB_no (e1 := e1) (e2 := e2) (a := ns) (b := ms) (.inl q1))
    clear q1
    go_enter Try.func19, Try.ntmps19
    go_wp2_with fail
    refine (valid_any _ _ _ ns _ H1.out).mono ?_
    rw [Q1.out]
    rintro e w1 ⟨rfl, hb⟩
    have HB1 := Lib.hid (below_self HB.out hb)
    clear hb
    go_wp2
    go_ret
    exact ⟨ret_bool HE.out.symm, HB1.out⟩
  have Q1 := Lib.hid q1
  cases q2 : valB e2 ms
  · have Q2 := Lib.hid q2
    have HE := Lib.hid (folB_no (e1 := e1) (e2 := e2) (a := ns) (b := ms) (.inr (.inl q2)))
    clear q1 q2
    go_enter Try.func19, Try.ntmps19
    go_wp2_with fail
    refine (valid_any _ _ _ ns _ H1.out).mono ?_
    rw [Q1.out]
    rintro e w1 ⟨rfl, hb⟩
    obtain ⟨hc, hf⟩ := bcell hb
    have HB1 := Lib.hid (below_self HB.out hb)
    have H21 := Lib.hid (H2.out.below hb)
    have hz := hb.size
    simp at hz
    clear hb
    go_wp2_with fail
    refine (valid_any _ _ _ ms _ H21.out).mono ?_
    rw [Q2.out]
    rintro e w2 ⟨rfl, hb⟩
    have HB2 := Lib.hid (below_self HB1.out hb)
    clear hb hc hf
    go_wp2
    go_ret
    exact ⟨ret_bool HE.out.symm, HB2.out⟩
  have Q2 := Lib.hid q2
  have g1 : Val e1 ns := by simpa [valB] using q1
  have g2 : Val e2 ms := by simpa [valB] using q2
  have i1 : 0 ≤ e1 := g1.1
  have i2 : e1 ≤ 1048576 := g1.2.1
  have l1 : ns.length ≤ 7 := g1.2.2.2.2.2
  have l2 : ms.length ≤ 7 := g2.2.2.2.2.2
  by_cases q3 : e2 = e1 + 1
  · have HE : Hid (folB e1 ns e2 ms = (decide ((lacks ns ms).length ≤ 1) && decide ((lacks ms ns).length ≤ 1) && decide (0 < (lacks ns ms).length + (lacks ms ns).length))) := Lib.hid (by subst q3; simp [folB, q1, q2])
    have k1 : (lacks ns ms).length ≤ 7 := Nat.le_trans (List.length_filter_le _ _) l1
    have k2 : (lacks ms ns).length ≤ 7 := Nat.le_trans (List.length_filter_le _ _) l2
    obtain ⟨m, hm⟩ : ∃ m, (lacks ns ms).length = m := ⟨_, rfl⟩
    obtain ⟨n, hn⟩ : ∃ n, (lacks ms ns).length = n := ⟨_, rfl⟩
    rw [hm, hn] at HE
    rw [hm] at k1
    rw [hn] at k2
    have HM := Lib.hid hm
    have HN := Lib.hid hn
    have t3 : (e2 != e1 + 1) = false := by simpa using q3
    clear q1 q2 q3 g1 g2 hm hn
    go_enter Try.func19, Try.ntmps19
    go_wp2_with fail
    refine (valid_any _ _ _ ns _ H1.out).mono ?_
    rw [Q1.out]
    rintro e w1 ⟨rfl, hb⟩
    obtain ⟨hc, hf⟩ := bcell hb
    have HB1 := Lib.hid hb
    have H21 := Lib.hid (H2.out.below hb)
    have hz := hb.size
    simp at hz
    clear hb
    go_wp2_with fail
    refine (valid_any _ _ _ ms _ H21.out).mono ?_
    rw [Q2.out]
    rintro e w2 ⟨rfl, hb⟩
    have hb2 := below_self HB1.out hb
    have HB2 := Lib.hid hb2
    clear hb hc hf hz
    obtain ⟨hc, hf⟩ := bcell hb2
    have hz := hb2.size
    simp at hz
    clear hb2
    go_wp2_with fail
    clear hc hf hz
    go_region_held3 (fun w' => w'.cell? ⟨w.heap.size, 0, none⟩ = some (.int .i64 e1) ∧ w'.cell? ⟨w.heap.size, 1, none⟩ = some (.slice a1 ns.length c1) ∧ w'.cell? ⟨w.heap.size + 1, 0, none⟩ = some (.int .i64 e2) ∧ w'.cell? ⟨w.heap.size + 1, 1, none⟩ = some (.slice a2 ms.length c2) ∧ Below (box2 w e1 a1 ns.length c1 e2 a2 ms.length c2).heap.size (box2 w e1 a1 ns.length c1 e2 a2 ms.length c2) w')
      (first
        | exact also4 HB2.out (by simp [go_sem]) (by simp [go_sem]) (by simp [go_sem]) (by simp [go_sem]) (by simp <;> omega) (by simp <;> omega) (by simp <;> omega) (by simp <;> omega)
        | exact also4 HB2.out.drew (by simp [go_sem]) (by simp [go_sem]) (by simp [go_sem]) (by simp [go_sem]) (by simp <;> omega) (by simp <;> omega) (by simp <;> omega) (by simp <;> omega)
        | (go_split_ands; first
            | exact also4 (below_self (by assumption) (by assumption)) (by simp [go_sem]) (by simp [go_sem]) (by simp [go_sem]) (by simp [go_sem]) (by simp <;> omega) (by simp <;> omega) (by simp <;> omega) (by simp <;> omega)
            | exact also4 (by assumption) (by simp [go_sem]) (by simp [go_sem]) (by simp [go_sem]) (by simp [go_sem]) (by simp <;> omega) (by simp <;> omega) (by simp <;> omega) (by simp <;> omega)))
      (first
        | (go_at_call_of 27 (Value.agg #[Value.int .i64 e1, Value.slice a1 ns.length c1]); go_split_ands; refine (lacking_any e1 e2 a1 a2 c1 c2 ns ms _ (H1.out.below (by assumption)) (H2.out.below (by assumption)) (by omega)).mono ?_; rintro e w3 ⟨v3, rfl, hi3, hb3⟩; obtain ⟨a3, k3, rfl, _⟩ := hi3.it.row; rw [HM.out])
        | (go_at_call_of 27 (Value.agg #[Value.int .i64 e2, Value.slice a2 ms.length c2]); go_split_ands; refine (lacking_any e2 e1 a2 a1 c2 c1 ms ns _ (H2.out.below (by assumption)) (H1.out.below (by assumption)) (by omega)).mono ?_; rintro e w4 ⟨v4, rfl, hi4, hb4⟩; obtain ⟨a4, k4, rfl, _⟩ := hi4.it.row; rw [HN.out]))
    all_goals
      go_split_ands
      have hw3 : Below (box2 w e1 a1 ns.length c1 e2 a2 ms.length c2).heap.size (box2 w e1 a1 ns.length c1 e2 a2 ms.length c2) w3 := by assumption
      have HW3 := Lib.hid (HB.out.trans (hw3.mono HB.out.size))
      have hw4 : Below (box2 w e1 a1 ns.length c1 e2 a2 ms.length c2).heap.size (box2 w e1 a1 ns.length c1 e2 a2 ms.length c2) w4 := by assumption
      have HW4 := Lib.hid (HB.out.trans (hw4.mono HB.out.size))
      clear hw3 hw4 HB2 H1 H2 H21 HB1
      by_cases d1 : (m : Int) ≤ 1
      · by_cases d2 : (n : Int) ≤ 1
        · by_cases d3 : (0 : Int) < (m : Int) + (n : Int)
          · have HF : Hid (folB e1 ns e2 ms = true) := Lib.hid (by rw [HE.out]; simp; omega)
            go_wp2
            go_ret
            first | exact ⟨ret_bool HF.out.symm, HW3.out⟩ | exact ⟨ret_bool HF.out.symm, HW4.out⟩
          · have HF : Hid (folB e1 ns e2 ms = false) := Lib.hid (by rw [HE.out]; simp; omega)
            go_wp2
            go_ret
            first | exact ⟨ret_bool HF.out.symm, HW3.out⟩ | exact ⟨ret_bool HF.out.symm, HW4.out⟩
        · have HF : Hid (folB e1 ns e2 ms = false) := Lib.hid (by rw [HE.out]; simp; omega)
          have t2 : decide ((n : Int) ≤ 1) = false := by simpa using d2
          go_wp2
          go_ret
          first | exact ⟨ret_bool HF.out.symm, HW3.out⟩ | exact ⟨ret_bool HF.out.symm, HW4.out⟩
      · have HF : Hid (folB e1 ns e2 ms = false) := Lib.hid (by rw [HE.out]; simp; omega)
        have t1 : decide ((m : Int) ≤ 1) = false := by simpa using d1
        go_wp2
        go_ret
        first | exact ⟨ret_bool HF.out.symm, HW3.out⟩ | exact ⟨ret_bool HF.out.symm, HW4.out⟩
  · have HE := Lib.hid (folB_no (e1 := e1) (e2 := e2) (a := ns) (b := ms) (.inr (.inr q3)))
    have t3 : (e2 != e1 + 1) = true := by simpa using q3
    clear q1 q2 q3 g1 g2
    go_enter Try.func19, Try.ntmps19
    go_wp2_with fail
    refine (valid_any _ _ _ ns _ H1.out).mono ?_
    rw [Q1.out]
    rintro e w1 ⟨rfl, hb⟩
    obtain ⟨hc, hf⟩ := bcell hb
    have HB1 := Lib.hid hb
    have H21 := Lib.hid (H2.out.below hb)
    have hz := hb.size
    simp at hz
    clear hb
    go_wp2_with fail
    refine (valid_any _ _ _ ms _ H21.out).mono ?_
    rw [Q2.out]
    rintro e w2 ⟨rfl, hb⟩
    have hb2 := below_self HB1.out hb
    have HB2 := Lib.hid (HB.out.trans (hb2.mono HB.out.size))
    clear hb hc hf hz
    obtain ⟨hc, hf⟩ := bcell hb2
    have hz := hb2.size
    simp at hz
    clear hb2
    go_wp2
    go_ret
    exact ⟨ret_bool HE.out.symm, HB2.out⟩
end Go.Proofs.Ytacjmcjmenbekaa
