/-
  The walk of ConfigOne.
-/
import Derived.Test.YtacjmcjmenbekaaCfgO
namespace Go.Proofs.Ytacjmcjmenbekaa
open Go.RowKit
set_option linter.unusedSimpArgs false
set_option linter.unusedVariables false

/-- How many of the numbers below k are in the first and not in the second. -/
def cnt (a b : List Int) (k : Nat) : Int := (((List.range k).filter fun (i : Nat) => inB (i : Int) a && !inB (i : Int) b).length : Nat)
theorem cnt_zero (a b : List Int) : cnt a b 0 = 0 := rfl
theorem cnt_bd (a b : List Int) (k : Nat) : 0 ≤ cnt a b k ∧ cnt a b k ≤ k := by
  unfold cnt
  have := List.length_filter_le (fun i : Nat => inB (i : Int) a && !inB (i : Int) b) (List.range k)
  simp at this
  exact ⟨by omega, by omega⟩
theorem cnt_succ (a b : List Int) (k : Nat) : cnt a b (k + 1) = cnt a b k + if inB (k : Int) a && !inB (k : Int) b then 1 else 0 := by
  unfold cnt
  rw [List.range_succ, List.filter_append]
  by_cases h : (inB (k : Int) a && !inB (k : Int) b) = true <;> simp [h]
theorem cnt_lacks {a b : List Int} (ha : Rises a) (hb : ∀ x ∈ a, 0 ≤ x ∧ x ≤ 31) : cnt a b 32 = ((lacks a b).length : Nat) := by
  unfold cnt
  have e : ((List.range 32).filter fun (i : Nat) => inB (i : Int) a && !inB (i : Int) b).map (fun i : Nat => (i : Int)) = lacks a b := by
    refine rises_ext ?_ (List.Pairwise.filter _ ha) fun x => ?_
    · unfold Rises
      rw [List.pairwise_map]
      exact (List.Pairwise.filter _ (List.pairwise_lt_range)).imp (fun h => by omega)
    · simp only [List.mem_map, List.mem_filter, List.mem_range, lacks, inB, Bool.and_eq_true, decide_eq_true_eq, Bool.not_eq_true', decide_eq_false_iff_not]
      constructor
      · rintro ⟨i, ⟨h1, h2, h3⟩, rfl⟩; exact ⟨h2, h3⟩
      · rintro ⟨h1, h2⟩
        have := hb x h1
        exact ⟨x.toNat, ⟨by omega, by rw [Int.toNat_of_nonneg this.1]; exact ⟨h1, h2⟩⟩, Int.toNat_of_nonneg this.1⟩
  rw [← e, List.length_map]
set_option maxHeartbeats 1000000 in
theorem one_far (ep : Int) (ad : Option Addr) (cap : Nat) (ns : List Int) (cl sq op : Int) (p v : ByteArray) (ver a b : Int) (w : World) (h : It w (.slice ad ns.length cap) ns) (hf : (40 : Int) < ns.length) :
    Calls Try.prog 5 #[cfgV ep ad ns.length cap, cmdV cl sq op p v ver a b] w fun e w' => e = .returned (.bool true) ∧ Below w.heap.size w w' := by
  have HS0 := Lib.hid ((held_box w ep ad ns.length cap).row #[.int .i64 cl, .int .i64 sq, .int .i64 op, .string p, .string v, .int .i64 ver, .int .i64 a, .int .i64 b] 27)
  have hlen := h.len
  go_enter Try.func5, Try.ntmps5
  go_wp2_with (go_at_call 9; refine (works_any _).mono ?_; rintro e w1 ⟨rfl, hb⟩; have hn := HS0.out.kept hb; clear hb; have HS := Lib.hid hn; have hc := hn.cells; simp only [AllC, rowL, Nat.reduceAdd, World.size_alloc] at hc; clear hn; go_split_ands)
  go_ret
  exact ⟨rfl, HS.out.below⟩
set_option maxHeartbeats 4000000 in
theorem one_near (ep : Int) (ad : Option Addr) (cap : Nat) (ns : List Int) (cl sq op : Int) (p v : ByteArray) (ver a b : Int) (w : World) (h : It w (.slice ad ns.length cap) ns) (hl : ¬ (40 : Int) < ns.length) (C : Chg) (hC : chg ep ns op a b = C) (hx : C.err ≠ 0) :
    Calls Try.prog 5 #[cfgV ep ad ns.length cap, cmdV cl sq op p v ver a b] w fun e w' => e = .returned (.bool true) ∧ Below w.heap.size w w' := by
  have HS0 := Lib.hid ((held_box w ep ad ns.length cap).row #[.int .i64 cl, .int .i64 sq, .int .i64 op, .string p, .string v, .int .i64 ver, .int .i64 a, .int .i64 b] 27)
  have H0 := Lib.hid ((h.alloc (.cells #[.int .i64 ep, .slice ad ns.length cap] 24)).alloc (.cells #[.int .i64 cl, .int .i64 sq, .int .i64 op, .string p, .string v, .int .i64 ver, .int .i64 a, .int .i64 b] 27))
  have hno : C.ep = 0 ∧ C.ns = [] := by rw [← hC]; exact chg_no (by rw [hC]; exact hx)
  have HX := Lib.hid hno
  have HC := Lib.hid hC
  have tx : (C.err != 0) = true := by simpa using hx
  clear h hC hx hno
  go_enter Try.func5, Try.ntmps5
  go_wp2_with fail
  refine (works_any _).mono ?_
  rintro e w1 ⟨rfl, hb⟩
  have hn := HS0.out.kept hb
  have H1 := Lib.hid (H0.out.below hb)
  clear hb HS0 H0
  have HS1 := Lib.hid hn
  have hc1 := hn.cells
  have hz1 := hn.size
  simp only [AllC, rowL, Nat.reduceAdd, World.size_alloc] at hc1
  try simp only [World.size_alloc] at hz1
  clear hn
  go_split_ands
  go_wp2_with fail
  refine (change_any ep ad cap ns _ _ op _ _ _ a b _ H1.out).mono ?_
  rw [HC.out]
  rintro e w2 ⟨v2, he, hi, hb⟩
  subst he
  obtain ⟨a2, c2, rfl, _⟩ := hi.it.row
  have hn := HS1.out.kept hb
  clear hb HS1 H1 hi
  rw [HX.out.1, HX.out.2]
  have HS2 := Lib.hid hn
  have hc2 := hn.cells
  have hz2 := hn.size
  try simp only [AllC, rowL, Nat.reduceAdd, World.size_alloc] at hc2
  try simp only [World.size_alloc] at hz2
  clear hn
  go_split_ands
  have k1 : w.heap.size < w2.heap.size := by omega
  have k2 : w.heap.size + 1 < w2.heap.size := by omega
  go_wp2
  go_ret
  exact ⟨rfl, (HS2.out.alloc _).below⟩
/-- What stands in memory in ConfigOne. -/
abbrev LO (w w2 : World) (ep : Int) (ad : Option Addr) (n c : Nat) (a2 : Option Addr) (m c2 : Nat) : List (Addr × Value) := rowL w2.heap.size 0 [.int .i64 (ep + 1), .slice a2 m c2] (rowL w.heap.size 0 [.int .i64 ep, .slice ad n c] [])
set_option maxHeartbeats 8000000 in
theorem one_ok (ep : Int) (ad : Option Addr) (cap : Nat) (ns : List Int) (cl sq op : Int) (p v : ByteArray) (ver a b : Int) (w : World) (h : It w (.slice ad ns.length cap) ns) (hl : ¬ (40 : Int) < ns.length) (ms : List Int) (hC : chg ep ns op a b = ⟨0, ep + 1, ms⟩) :
    Calls Try.prog 5 #[cfgV ep ad ns.length cap, cmdV cl sq op p v ver a b] w fun e w' => e = .returned (.bool true) ∧ Below w.heap.size w w' := by
  have HSx := Lib.hid ((held_box w ep ad ns.length cap).row #[.int .i64 cl, .int .i64 sq, .int .i64 op, .string p, .string v, .int .i64 ver, .int .i64 a, .int .i64 b] 27)
  have HS0 := Lib.hid ((held_box w ep ad ns.length cap).alloc (.cells #[.int .i64 cl, .int .i64 sq, .int .i64 op, .string p, .string v, .int .i64 ver, .int .i64 a, .int .i64 b] 27))
  have H0 := Lib.hid ((h.alloc (.cells #[.int .i64 ep, .slice ad ns.length cap] 24)).alloc (.cells #[.int .i64 cl, .int .i64 sq, .int .i64 op, .string p, .string v, .int .i64 ver, .int .i64 a, .int .i64 b] 27))
  have h0 : (chg ep ns op a b).err = 0 := by rw [hC]
  have hv := chg_val h0
  have hfo := chg_fol h0
  have hdl := does_lacks hv.1.2.2.1 (chg_does h0)
  rw [hC] at hv hfo hdl
  simp only at hv hfo hdl
  have hval : valB (ep + 1) ms = true := by simpa [valB] using hv.2.2.1
  have HV := Lib.hid hval
  have HFO := Lib.hid hfo
  have hg := cnt_lacks (b := ms) hv.1.2.2.1 hv.1.2.2.2.1
  have hca := cnt_lacks (b := ns) hv.2.2.1.2.2.1 hv.2.2.1.2.2.2.1
  have e0 : 0 ≤ ep := hv.1.1
  have e1 : ep ≤ 1048576 := hv.1.2.1
  have l7 : ns.length ≤ 7 := hv.1.2.2.2.2.2
  have m7 : ms.length ≤ 7 := hv.2.2.1.2.2.2.2.2
  obtain ⟨g, hgg⟩ : ∃ g, (lacks ns ms).length = g := ⟨_, rfl⟩
  obtain ⟨c, hcc⟩ : ∃ c, (lacks ms ns).length = c := ⟨_, rfl⟩
  rw [hgg] at hg hdl
  rw [hcc] at hca hdl
  obtain ⟨d1, d2, d3, d4⟩ := hdl
  have HG := Lib.hid hg
  have HCA := Lib.hid hca
  have HC := Lib.hid hC
  clear h hC h0 hv hfo hval hg hca hgg hcc
  go_enter Try.func5, Try.ntmps5
  go_wp2_with fail
  refine (works_any _).mono ?_
  rintro e w1 ⟨rfl, hb⟩
  have hn := HSx.out.kept hb
  have HS1 := Lib.hid (HS0.out.kept hb)
  have H1 := Lib.hid (H0.out.below hb)
  clear hb HS0 H0 HSx
  have hc1 := hn.cells
  have hz1 := hn.size
  simp only [AllC, rowL, Nat.reduceAdd, World.size_alloc] at hc1
  try simp only [World.size_alloc] at hz1
  clear hn
  go_split_ands
  go_wp2_with fail
  refine (change_any ep ad cap ns _ _ op _ _ _ a b _ H1.out).mono ?_
  rw [HC.out]
  rintro e w2 ⟨v2, he, hi, hb⟩
  subst he
  obtain ⟨a2, c2, rfl, _⟩ := hi.it.row
  have hs := (HS1.out.kept hb).row #[.int .i64 (ep + 1), .slice a2 ms.length c2] 24
  have hz2 := (HS1.out.kept hb).size
  have hz3 := hb.size
  have I2 := Lib.hid (hi.it.alloc (.cells #[.int .i64 (ep + 1), .slice a2 ms.length c2] 24))
  have H2 := Lib.hid ((H1.out.below hb).alloc (.cells #[.int .i64 (ep + 1), .slice a2 ms.length c2] 24))
  have HS2 : Hid (Held w (w2.heap.size + 1) (LO w w2 ep ad ns.length cap a2 ms.length c2) (w2.alloc (.cells #[.int .i64 (ep + 1), .slice a2 ms.length c2] 24))) := Lib.hid hs
  clear hb HS1 H1 hi hs
  have k1 : w.heap.size < w2.heap.size := by omega
  have k2 : w.heap.size + 1 < w2.heap.size := by omega
  clear hz1 hz3
  go_wp2_with fail
  go_loopw [8, 9, 10] (fun x y z wr => ∃ k : Nat, k ≤ 32 ∧ z = .int .i64 k ∧ x = .int .i64 (cnt ns ms k) ∧ y = .int .i64 (cnt ms ns k) ∧ Hid (Held w (w2.heap.size + 1) (LO w w2 ep ad ns.length cap a2 ms.length c2) wr) ∧ Hid (It wr (.slice ad ns.length cap) ns) ∧ Hid (It wr (.slice a2 ms.length c2) ms)) (fun _ _ z _ => 32 - (intOf z).toNat)
  case atStart => exact ⟨0, by omega, rfl, rfl, rfl, HS2, H2, I2⟩
  case round =>
    clear HS2 H2 I2
    obtain ⟨k, hk, rfl, rfl, rfl, HSr, Hr, Ir⟩ := hrel
    obtain ⟨w3, rfl⟩ : ∃ w3 : World, w3 = wr := ⟨_, rfl⟩
    have hc3 := HSr.out.cells
    simp only [AllC, rowL, Nat.reduceAdd] at hc3
    go_split_ands
    have b1 := cnt_bd ns ms k
    have b2 := cnt_bd ms ns k
    obtain ⟨x, hx⟩ : ∃ x, cnt ns ms k = x := ⟨_, rfl⟩
    obtain ⟨y, hy⟩ : ∃ y, cnt ms ns k = y := ⟨_, rfl⟩
    rw [hx, hy]
    rw [hx] at b1
    rw [hy] at b2
    have HX := Lib.hid hx
    have HY := Lib.hid hy
    clear hx hy
    by_cases hlt : k < 32
    · have s1 := cnt_succ ns ms k
      have s2 := cnt_succ ms ns k
      rw [HX.out] at s1
      rw [HY.out] at s2
      cases q1 : inB (k : Int) ns <;> cases q2 : inB (k : Int) ms
      · rw [q1, q2] at s1 s2
        simp at s1 s2
        have S1 := Lib.hid s1
        have S2 := Lib.hid s2
        have Q1 := Lib.hid q1
        have Q2 := Lib.hid q2
        clear s1 s2 q1 q2
        go_wp2_with fail
        refine (has_any _ _ _ _ ns _ (IRow.of_it Hr.out)).mono ?_
        rw [Q1.out]
        rintro e w4 ⟨rfl, hb⟩
        have HSr' := Lib.hid (HSr.out.kept hb)
        have Hr' := Lib.hid (Hr.out.below hb)
        have Ir' := Lib.hid (Ir.out.below hb)
        clear HSr Hr Ir hb
        have HSr := HSr'
        have Hr := Hr'
        have Ir := Ir'
        clear HSr' Hr' Ir'
        have hc4 := HSr.out.cells
        simp only [AllC, rowL, Nat.reduceAdd] at hc4
        go_split_ands
        go_wp2_with fail
        refine (has_any _ _ _ _ ms _ (IRow.of_it Ir.out)).mono ?_
        rw [Q2.out]
        rintro e w5 ⟨rfl, hb⟩
        have HSr' := Lib.hid (HSr.out.kept hb)
        have Hr' := Lib.hid (Hr.out.below hb)
        have Ir' := Lib.hid (Ir.out.below hb)
        clear HSr Hr Ir hb
        have HSr := HSr'
        have Hr := Hr'
        have Ir := Ir'
        clear HSr' Hr' Ir'
        have hc5 := HSr.out.cells
        simp only [AllC, rowL, Nat.reduceAdd] at hc5
        go_split_ands
        go_wp2_with fail
        go_roundw
        case rel => exact ⟨k + 1, by omega, by go_num, by rw [S1.out], by rw [S2.out], HSr, Hr, Ir⟩
        case measure => simp [intOf]; omega
      · rw [q1, q2] at s1 s2
        simp at s1 s2
        have S1 := Lib.hid s1
        have S2 := Lib.hid s2
        have Q1 := Lib.hid q1
        have Q2 := Lib.hid q2
        clear s1 s2 q1 q2
        go_wp2_with fail
        refine (has_any _ _ _ _ ns _ (IRow.of_it Hr.out)).mono ?_
        rw [Q1.out]
        rintro e w4 ⟨rfl, hb⟩
        have HSr' := Lib.hid (HSr.out.kept hb)
        have Hr' := Lib.hid (Hr.out.below hb)
        have Ir' := Lib.hid (Ir.out.below hb)
        clear HSr Hr Ir hb
        have HSr := HSr'
        have Hr := Hr'
        have Ir := Ir'
        clear HSr' Hr' Ir'
        have hc4 := HSr.out.cells
        simp only [AllC, rowL, Nat.reduceAdd] at hc4
        go_split_ands
        go_wp2_with fail
        refine (has_any _ _ _ _ ms _ (IRow.of_it Ir.out)).mono ?_
        rw [Q2.out]
        rintro e w5 ⟨rfl, hb⟩
        have HSr' := Lib.hid (HSr.out.kept hb)
        have Hr' := Lib.hid (Hr.out.below hb)
        have Ir' := Lib.hid (Ir.out.below hb)
        clear HSr Hr Ir hb
        have HSr := HSr'
        have Hr := Hr'
        have Ir := Ir'
        clear HSr' Hr' Ir'
        have hc5 := HSr.out.cells
        simp only [AllC, rowL, Nat.reduceAdd] at hc5
        go_split_ands
        go_wp2_with fail
        refine (has_any _ _ _ _ ns _ (IRow.of_it Hr.out)).mono ?_
        rw [Q1.out]
        rintro e w6 ⟨rfl, hb⟩
        have HSr' := Lib.hid (HSr.out.kept hb)
        have Hr' := Lib.hid (Hr.out.below hb)
        have Ir' := Lib.hid (Ir.out.below hb)
        clear HSr Hr Ir hb
        have HSr := HSr'
        have Hr := Hr'
        have Ir := Ir'
        clear HSr' Hr' Ir'
        have hc6 := HSr.out.cells
        simp only [AllC, rowL, Nat.reduceAdd] at hc6
        go_split_ands
        go_wp2_with fail
        go_roundw
        case rel => exact ⟨k + 1, by omega, by go_num, by rw [S1.out], by rw [S2.out], HSr, Hr, Ir⟩
        case measure => simp [intOf]; omega
      · rw [q1, q2] at s1 s2
        simp at s1 s2
        have S1 := Lib.hid s1
        have S2 := Lib.hid s2
        have Q1 := Lib.hid q1
        have Q2 := Lib.hid q2
        clear s1 s2 q1 q2
        go_wp2_with fail
        refine (has_any _ _ _ _ ns _ (IRow.of_it Hr.out)).mono ?_
        rw [Q1.out]
        rintro e w4 ⟨rfl, hb⟩
        have HSr' := Lib.hid (HSr.out.kept hb)
        have Hr' := Lib.hid (Hr.out.below hb)
        have Ir' := Lib.hid (Ir.out.below hb)
        clear HSr Hr Ir hb
        have HSr := HSr'
        have Hr := Hr'
        have Ir := Ir'
        clear HSr' Hr' Ir'
        have hc4 := HSr.out.cells
        simp only [AllC, rowL, Nat.reduceAdd] at hc4
        go_split_ands
        go_wp2_with fail
        refine (has_any _ _ _ _ ms _ (IRow.of_it Ir.out)).mono ?_
        rw [Q2.out]
        rintro e w5 ⟨rfl, hb⟩
        have HSr' := Lib.hid (HSr.out.kept hb)
        have Hr' := Lib.hid (Hr.out.below hb)
        have Ir' := Lib.hid (Ir.out.below hb)
        clear HSr Hr Ir hb
        have HSr := HSr'
        have Hr := Hr'
        have Ir := Ir'
        clear HSr' Hr' Ir'
        have hc5 := HSr.out.cells
        simp only [AllC, rowL, Nat.reduceAdd] at hc5
        go_split_ands
        go_wp2_with fail
        refine (has_any _ _ _ _ ms _ (IRow.of_it Ir.out)).mono ?_
        rw [Q2.out]
        rintro e w6 ⟨rfl, hb⟩
        have HSr' := Lib.hid (HSr.out.kept hb)
        have Hr' := Lib.hid (Hr.out.below hb)
        have Ir' := Lib.hid (Ir.out.below hb)
        clear HSr Hr Ir hb
        have HSr := HSr'
        have Hr := Hr'
        have Ir := Ir'
        clear HSr' Hr' Ir'
        have hc6 := HSr.out.cells
        simp only [AllC, rowL, Nat.reduceAdd] at hc6
        go_split_ands
        go_wp2_with fail
        go_roundw
        case rel => exact ⟨k + 1, by omega, by go_num, by rw [S1.out], by rw [S2.out], HSr, Hr, Ir⟩
        case measure => simp [intOf]; omega
      · rw [q1, q2] at s1 s2
        simp at s1 s2
        have S1 := Lib.hid s1
        have S2 := Lib.hid s2
        have Q1 := Lib.hid q1
        have Q2 := Lib.hid q2
        clear s1 s2 q1 q2
        go_wp2_with fail
        refine (has_any _ _ _ _ ns _ (IRow.of_it Hr.out)).mono ?_
        rw [Q1.out]
        rintro e w4 ⟨rfl, hb⟩
        have HSr' := Lib.hid (HSr.out.kept hb)
        have Hr' := Lib.hid (Hr.out.below hb)
        have Ir' := Lib.hid (Ir.out.below hb)
        clear HSr Hr Ir hb
        have HSr := HSr'
        have Hr := Hr'
        have Ir := Ir'
        clear HSr' Hr' Ir'
        have hc4 := HSr.out.cells
        simp only [AllC, rowL, Nat.reduceAdd] at hc4
        go_split_ands
        go_wp2_with fail
        refine (has_any _ _ _ _ ms _ (IRow.of_it Ir.out)).mono ?_
        rw [Q2.out]
        rintro e w5 ⟨rfl, hb⟩
        have HSr' := Lib.hid (HSr.out.kept hb)
        have Hr' := Lib.hid (Hr.out.below hb)
        have Ir' := Lib.hid (Ir.out.below hb)
        clear HSr Hr Ir hb
        have HSr := HSr'
        have Hr := Hr'
        have Ir := Ir'
        clear HSr' Hr' Ir'
        have hc5 := HSr.out.cells
        simp only [AllC, rowL, Nat.reduceAdd] at hc5
        go_split_ands
        go_wp2_with fail
        refine (has_any _ _ _ _ ms _ (IRow.of_it Ir.out)).mono ?_
        rw [Q2.out]
        rintro e w6 ⟨rfl, hb⟩
        have HSr' := Lib.hid (HSr.out.kept hb)
        have Hr' := Lib.hid (Hr.out.below hb)
        have Ir' := Lib.hid (Ir.out.below hb)
        clear HSr Hr Ir hb
        have HSr := HSr'
        have Hr := Hr'
        have Ir := Ir'
        clear HSr' Hr' Ir'
        have hc6 := HSr.out.cells
        simp only [AllC, rowL, Nat.reduceAdd] at hc6
        go_split_ands
        go_wp2_with fail
        refine (has_any _ _ _ _ ns _ (IRow.of_it Hr.out)).mono ?_
        rw [Q1.out]
        rintro e w7 ⟨rfl, hb⟩
        have HSr' := Lib.hid (HSr.out.kept hb)
        have Hr' := Lib.hid (Hr.out.below hb)
        have Ir' := Lib.hid (Ir.out.below hb)
        clear HSr Hr Ir hb
        have HSr := HSr'
        have Hr := Hr'
        have Ir := Ir'
        clear HSr' Hr' Ir'
        have hc7 := HSr.out.cells
        simp only [AllC, rowL, Nat.reduceAdd] at hc7
        go_split_ands
        go_wp2_with fail
        go_roundw
        case rel => exact ⟨k + 1, by omega, by go_num, by rw [S1.out], by rw [S2.out], HSr, Hr, Ir⟩
        case measure => simp [intOf]; omega
    · obtain rfl : k = 32 := by omega
      have ex : x = (g : Int) := by rw [← HX.out]; exact HG.out
      have ey : y = (c : Int) := by rw [← HY.out]; exact HCA.out
      subst ex ey
      have u1 : (g : Int) ≤ 1 := by omega
      have u2 : (c : Int) ≤ 1 := by omega
      have u3 : (1 : Int) ≤ (g : Int) + (c : Int) := by omega
      have u4 : ((ms.length : Int) == (ns.length : Int) + (c : Int) - (g : Int)) = true := by simp; omega
      have u5 : (ep + 1 == ep + 1) = true := by simp
      clear b1 b2 HX HY d1 d2 d3 d4
      go_wp2_with fail
      refine (valid_any _ _ _ ms _ (IRow.of_it Ir.out)).mono ?_
      rw [HV.out]
      rintro e w4 ⟨rfl, hb⟩
      have HSr' := Lib.hid (HSr.out.kept hb)
      have Hr' := Lib.hid (Hr.out.below hb)
      have Ir' := Lib.hid (Ir.out.below hb)
      clear HSr Hr Ir hb
      have hc4 := HSr'.out.cells
      simp only [AllC, rowL, Nat.reduceAdd] at hc4
      go_split_ands
      go_wp2_with fail
      refine (follows_any _ _ _ _ _ _ ns ms _ (IRow.of_it Hr'.out) (IRow.of_it Ir'.out)).mono ?_
      rw [HFO.out]
      rintro e w5 ⟨rfl, hb⟩
      have HW := Lib.hid (HSr'.out.kept hb).below
      clear hb HSr' Hr' Ir'
      go_wp2
      go_ret
      exact ⟨rfl, HW.out⟩
theorem one_law (ep : Int) (ad : Option Addr) (cap : Nat) (ns : List Int) (cl sq op : Int) (p v : ByteArray) (ver a b : Int) (w : World) (h : It w (.slice ad ns.length cap) ns) :
    Calls Try.prog 5 #[cfgV ep ad ns.length cap, cmdV cl sq op p v ver a b] w fun e w' => e = .returned (.bool true) ∧ Below w.heap.size w w' := by
  by_cases hf : (40 : Int) < ns.length
  · exact one_far ep ad cap ns cl sq op p v ver a b w h hf
  by_cases hx : (chg ep ns op a b).err = 0
  · have hep := (chg_val hx).2.2.2
    refine one_ok ep ad cap ns cl sq op p v ver a b w h hf (chg ep ns op a b).ns ?_
    cases hc : chg ep ns op a b with
    | mk e q n => rw [hc] at hx hep; simp only at hx hep; rw [hx, hep]
  · exact one_near ep ad cap ns cl sq op p v ver a b w h hf _ rfl hx
end Go.Proofs.Ytacjmcjmenbekaa
