/-
  Texts put together: LdW, LdV, LdEq, LdCi, LdCm, OpC.
-/
import Derived.Test.YtplplehfkfjhnaaMs2
import Derived.Deep.MidRow
import Derived.Test.YtplplehfkfjhnaaLdU
import Derived.Test.YtplplehfkfjhnaaLdO
import Derived.Test.YtplplehfkfjhnaaAt2
import Derived.Test.YtplplehfkfjhnaaLdH
import Derived.Test.YtplplehfkfjhnaaLdP
import Derived.Test.YtplplehfkfjhnaaLdQ
import Derived.Test.YtplplehfkfjhnaaLdR
import Derived.Test.YtplplehfkfjhnaaLdS
import Derived.Test.YtplplehfkfjhnaaLdT
import Derived.Test.YtplplehfkfjhnaaLdU0
import Derived.Test.YtplplehfkfjhnaaLdUm
import Derived.Test.YtplplehfkfjhnaaLdXm
import Derived.Test.YtplplehfkfjhnaaInt
import Derived.RowKit3
import Derived.Deep.Slices
import Derived.Deep.Fields
import Derived.ChangeSame
import Derived.ProofKit
import Derived.OpenShut
import Derived.Lib.SmallJoins
namespace Go.Proofs.Ytplplehfkfjhnaa
open Go.RowKit
set_option linter.unusedSimpArgs false
set_option linter.unusedVariables false
set_option maxRecDepth 100000

/-- What Over tells: where it is false there are few messages, of few dependencies. -/
def OvP (l : List Mg) (w : World) (e : Ending) (w' : World) : Prop := ∃ R : Bool, Hid (e = .returned (.bool R)) ∧ (R = false → l.length ≤ 40 ∧ ∀ m ∈ l, m.ins.at'.2.length ≤ 60) ∧ Below w.heap.size w w'
set_option maxHeartbeats 8000000 in
theorem over_any (v : Value) (rs : List (Cls 27)) (l : List Mg) (w : World) (h : RowIs KM msS w v rs l) : Calls Try.prog 9 #[v] w (OvP l w) := by
  obtain ⟨a, c, e⟩ := rowSl h
  subst e
  obtain ⟨N, hN⟩ : ∃ N, l.length = N := ⟨_, rfl⟩
  have hlen := h.rd.len
  rw [h.len, hN] at hlen
  have hN63 : N ≤ 9223372036854775807 := by unfold maxLen at hlen; omega
  rw [hN] at h ⊢
  have HN := Lib.hid hN
  have HR := Lib.hid h
  clear h hN hlen
  go_enter Try.func9, Try.ntmps9
  go_wp2_with fail
  go_loopw [3] (fun i wr => ∃ k : Nat, k ≤ N ∧ k ≤ 41 ∧ i = .int .i64 k ∧ Hid (Below w.heap.size w wr) ∧ Hid (∀ m ∈ l.take k, m.ins.at'.2.length ≤ 60)) (fun i _ => N - (intOf i).toNat)
  case atStart => exact ⟨0, Nat.zero_le _, by omega, rfl, Lib.hid (Below.refl _ _), Lib.hid (fun m hm => by simp at hm)⟩
  case round =>
    obtain ⟨k, hk, hk41, rfl, hB, hF⟩ := hrel
    by_cases hlt : k < N
    · have hi1 : (k : Int) < (N : Int) := by omega
      have hd1 : decide ((k : Int) < (N : Int)) = true := decide_eq_true hi1
      have hd1n : decide (k < N) = true := decide_eq_true hlt
      by_cases h40 : k ≤ 40
      · have hi2 : (k : Int) ≤ 40 := by omega
        have hd2 : decide ((k : Int) ≤ 40) = true := decide_eq_true hi2
        have hd2n : decide (k ≤ 40) = true := decide_eq_true h40
        obtain ⟨-, hl, g, off, cs, ha, hg, hcs, hc⟩ := HR.out.el rfl k hlt
        subst ha
        have eK : KM.k = 27 := rfl
        rw [eK] at hc
        clear eK
        have hcs2 := hcs
        obtain ⟨u, u1, u2, u3, hm⟩ := hcs
        obtain ⟨ua, uc, a1, c1, a2, c2, a3, c3, e0, e1, e2, e3⟩ := hm.sl
        have HTK : Hid (∀ q : l[k].ins.at'.2.length ≤ 60, ∀ m ∈ l.take (k + 1), m.ins.at'.2.length ≤ 60) := Lib.hid (fun q m hm2 => by
          rw [List.take_succ_eq_append_getElem hl] at hm2
          rcases List.mem_append.1 hm2 with r | r
          · exact hF.out m r
          · simp at r; subst r; exact q)
        have HFW := Lib.hid (few_any (.agg cs.toArray) l[k] wr (MsgIs.on ⟨cs.toArray, rfl, by simpa using hcs2⟩ hB.out))
        have hcs3 := hm.cs
        obtain ⟨x, hx⟩ : ∃ x, l[k] = x := ⟨_, rfl⟩
        rw [hx] at HTK hcs3 e0 e1 e2 e3
        clear hm hcs2 hx
        subst e0 e1 e2 e3
        obtain ⟨n0, n1, n2, ⟨n3, n4, n5⟩, ⟨n6, n7⟩, ⟨n8, ⟨n9, n10⟩, ⟨n11, n12⟩, ⟨n13, n14, n15, n16, n17, n18, n19, n20⟩, n21, dl⟩, ⟨n23, l24⟩, l25, l26⟩ := x
        obtain ⟨M, hM⟩ : ∃ m, dl.length = m := ⟨_, rfl⟩
        obtain ⟨d1, hd1'⟩ : ∃ m, l24.length = m := ⟨_, rfl⟩
        obtain ⟨d2, hd2'⟩ : ∃ m, l25.length = m := ⟨_, rfl⟩
        obtain ⟨d3, hd3'⟩ : ∃ m, l26.length = m := ⟨_, rfl⟩
        simp only [msE, inE, snV, hM, hd1', hd2', hd3', List.cons_append, List.nil_append] at hcs3
        subst hcs3
        simp only at HTK
        rw [hM] at HTK
        clear hM hd1' hd2' hd3'
        have HZ := Lib.hid hc
        have HRG : wr.rangeAt g (off + k * 27) [.int .i64 n0, .int .i64 n1, .int .i64 n2, .int .i64 n3, .int .i64 n4, .int .i64 n5, .int .i64 n6, .int .i64 n7, .int .i64 n8, .int .i64 n9, .int .i64 n10, .int .i64 n11, .int .i64 n12, .int .i64 n13, .int .i64 n14, .int .i64 n15, .string n16, .string n17, .int .i64 n18, .int .i64 n19, .int .i64 n20, .int .i64 n21, .slice ua M uc, .int .i64 n23, .slice a1 d1 c1, .slice a2 d2 c2, .slice a3 d3 c3] := fun j v hv => (hB.out.cell (p := ⟨g, off + k * 27 + j, none⟩) hg).trans (hc j v hv)
        have hgr : g < wr.heap.size := Nat.lt_of_lt_of_le hg hB.out.size
        clear hc
        go_wp2_with (first | refine wpList_load_mid rfl _ _ rfl g (off + k * 27) rfl _ _ HRG Try.underlying44 rfl (by kernel_rfl) ?_ | fail)
        refine HFW.out.mono ?_
        rintro e w2 ⟨R, he, hb⟩
        rw [he.out]
        have HB2 := Lib.hid (below_self hB.out hb)
        have y22 := (HB2.out.cell (p := ⟨g, off + k * 27 + 22, none⟩) hg).trans (HZ.out 22 _ rfl)
        have y16 := (HB2.out.cell (p := ⟨g, off + k * 27 + 16, none⟩) hg).trans (HZ.out 16 _ rfl)
        have y17 := (HB2.out.cell (p := ⟨g, off + k * 27 + 17, none⟩) hg).trans (HZ.out 17 _ rfl)
        clear he hb HFW HRG
        cases R with
        | false =>
          go_wp2
          go_ret
          exact ⟨true, rfl, (fun q => by cases q), HB2.out⟩
        | true =>
          by_cases p1 : (60 : Int) < (M : Int)
          · have p1d : decide ((60 : Int) < (M : Int)) = true := decide_eq_true p1
            have p1n : decide (60 < M) = true := decide_eq_true (by omega)
            go_wp2
            go_ret
            exact ⟨true, rfl, (fun q => by cases q), HB2.out⟩
          · have p1d : decide ((60 : Int) < (M : Int)) = false := decide_eq_false p1
            have p1n : decide (60 < M) = false := decide_eq_false (by omega)
            by_cases p2 : (300 : Int) < (n16.size : Int)
            · have p2d : decide ((300 : Int) < (n16.size : Int)) = true := decide_eq_true p2
              have p2n : decide (300 < n16.size) = true := decide_eq_true (by omega)
              go_wp2
              go_ret
              exact ⟨true, rfl, (fun q => by cases q), HB2.out⟩
            · have p2d : decide ((300 : Int) < (n16.size : Int)) = false := decide_eq_false p2
              have p2n : decide (300 < n16.size) = false := decide_eq_false (by omega)
              by_cases p3 : (300 : Int) < (n17.size : Int)
              · have p3d : decide ((300 : Int) < (n17.size : Int)) = true := decide_eq_true p3
                have p3n : decide (300 < n17.size) = true := decide_eq_true (by omega)
                go_wp2
                go_ret
                exact ⟨true, rfl, (fun q => by cases q), HB2.out⟩
              · have p3d : decide ((300 : Int) < (n17.size : Int)) = false := decide_eq_false p3
                have p3n : decide (300 < n17.size) = false := decide_eq_false (by omega)
                have HF2 := Lib.hid (HTK.out (by omega))
                go_wp2
                go_roundw
                case rel => exact ⟨k + 1, by omega, by omega, by go_num, HB2, HF2⟩
                case measure => simp [intOf]; omega
      · have hi2 : ¬ (k : Int) ≤ 40 := by omega
        have hd2 : decide ((k : Int) ≤ 40) = false := decide_eq_false hi2
        have hd2n : decide (k ≤ 40) = false := decide_eq_false h40
        have hi3 : (40 : Int) < (N : Int) := by omega
        have hd3 : decide ((40 : Int) < (N : Int)) = true := decide_eq_true hi3
        have hd3n : decide (40 < N) = true := decide_eq_true (by omega)
        go_wp2
        go_ret
        exact ⟨true, rfl, (fun q => by cases q), hB.out⟩
    · have e : k = N := by omega
      subst e
      have hF2 := hF.out
      rw [List.take_of_length_le (by rw [HN.out]; exact Nat.le_refl _)] at hF2
      have HF2 := Lib.hid hF2
      clear hF hF2
      by_cases h40 : k ≤ 40
      · have hi3 : ¬ (40 : Int) < (k : Int) := by omega
        have hd3 : decide ((40 : Int) < (k : Int)) = false := decide_eq_false hi3
        have hd3n : decide (40 < k) = false := decide_eq_false (by omega)
        go_wp2
        go_ret
        exact ⟨false, Lib.hid (by first | rfl | simp [hd3, hd3n]), (fun _ => ⟨by rw [HN.out]; exact h40, HF2.out⟩), hB.out⟩
      · have hi3 : (40 : Int) < (k : Int) := by omega
        have hd3 : decide ((40 : Int) < (k : Int)) = true := decide_eq_true hi3
        have hd3n : decide (40 < k) = true := decide_eq_true (by omega)
        go_wp2
        go_ret
        exact ⟨true, Lib.hid (by first | rfl | simp [hd3, hd3n]), (fun q => by cases q), hB.out⟩
end Go.Proofs.Ytplplehfkfjhnaa
namespace Go.Proofs.Ytplplehfkfjhnaa
open Go.RowKit
open Bb (quoN thN allB)
set_option linter.unusedSimpArgs false
set_option linter.unusedVariables false
set_option maxRecDepth 100000

theorem over1_any {w : World} {cs : Array Value} {x : Mg} (h : MsgIs w (.agg cs) x) (g : Nat) (hg : w.heap.size = g) : Calls Try.prog 9 #[.slice (some ⟨g, 0, none⟩) 1 1] (w.alloc (.cells cs 44)) (OvP [x] (w.alloc (.cells cs 44))) := by
  obtain ⟨cs', e, u, u1, u2, u3, h⟩ := h
  injection e with e
  subst e
  have hl : cs.toList.length = 27 := by rw [h.cs]; rfl
  obtain ⟨rs, hr⟩ := rowIs_lit (K := KM) (S := msS) rfl w [cs.toList] [x] rfl (by intro c hc; simp at hc; subst hc; exact hl) (fun j q1 q2 => by
    have hj : j = 0 := by simp at q1; exact q1
    subst hj
    exact ⟨u, u1, u2, u3, h⟩) 44 1 1 rfl (by unfold maxLen; omega) g hg
  have e1 : ([cs.toList].flatten).toArray = cs := by simp
  rw [e1] at hr
  exact over_any _ rs [x] _ hr
def SmP (x : Mg) (w : World) (e : Ending) (w' : World) : Prop := ∃ R : Bool, Hid (e = .returned (.bool R)) ∧ (R = true → x.ins.at'.2.length ≤ 60) ∧ Below w.heap.size w w'
set_option maxHeartbeats 8000000 in
theorem small_any {w : World} {x : Mg} {v : Value} (hm : MsgIs w v x) : Calls Try.prog 21 #[v] w (SmP x w) := by
  have HMI := Lib.hid hm
  have HMV := Lib.hid hm.mgv
  obtain ⟨ua, uc, a1, d1, c1, a2, d2, c2, a3, d3, c3, rfl, hrd, hok⟩ := hm.mgv
  obtain ⟨n0, n1, n2, ⟨n3, n4, n5⟩, ⟨n6, n7⟩, ⟨n8, ⟨n9, n10⟩, ⟨n11, n12⟩, ⟨n13, n14, n15, n16, n17, n18, n19, n20⟩, n21, dl⟩, sn0⟩ := x
  obtain ⟨n23, sn1⟩ : ∃ q, sn0.1.1 = q := ⟨_, rfl⟩
  obtain ⟨M, hM⟩ : ∃ M, dl.length = M := ⟨_, rfl⟩
  have HMl := Lib.hid hM
  simp only at hrd hok
  simp only [msE, inE, snV, hM, sn1, List.cons_append, List.nil_append] at hrd HMI HMV ⊢
  clear hM sn1 hm
  have HOv : Hid (∀ X : World, Below w.heap.size w X → ∀ g, X.heap.size = g → Calls Try.prog 9 #[.slice (some ⟨g, 0, none⟩) 1 1] (X.alloc (.cells #[.int .i64 n0, .int .i64 n1, .int .i64 n2, .int .i64 n3, .int .i64 n4, .int .i64 n5, .int .i64 n6, .int .i64 n7, .int .i64 n8, .int .i64 n9, .int .i64 n10, .int .i64 n11, .int .i64 n12, .int .i64 n13, .int .i64 n14, .int .i64 n15, .string n16, .string n17, .int .i64 n18, .int .i64 n19, .int .i64 n20, .int .i64 n21, .slice ua M uc, .int .i64 n23, .slice a1 d1 c1, .slice a2 d2 c2, .slice a3 d3 c3] 44)) (OvP [⟨n0, n1, n2, (n3, n4, n5), (n6, n7), ⟨n8, (n9, n10), (n11, n12), ⟨n13, n14, n15, n16, n17, n18, n19, n20⟩, (n21, dl)⟩, sn0⟩] (X.alloc (.cells #[.int .i64 n0, .int .i64 n1, .int .i64 n2, .int .i64 n3, .int .i64 n4, .int .i64 n5, .int .i64 n6, .int .i64 n7, .int .i64 n8, .int .i64 n9, .int .i64 n10, .int .i64 n11, .int .i64 n12, .int .i64 n13, .int .i64 n14, .int .i64 n15, .string n16, .string n17, .int .i64 n18, .int .i64 n19, .int .i64 n20, .int .i64 n21, .slice ua M uc, .int .i64 n23, .slice a1 d1 c1, .slice a2 d2 c2, .slice a3 d3 c3] 44)))) := Lib.hid fun X hX g hg => over1_any (HMI.out.on hX) g hg
  obtain ⟨X, hX⟩ : ∃ X, w.alloc (.cells #[.int .i64 n0, .int .i64 n1, .int .i64 n2, .int .i64 n3, .int .i64 n4, .int .i64 n5, .int .i64 n6, .int .i64 n7, .int .i64 n8, .int .i64 n9, .int .i64 n10, .int .i64 n11, .int .i64 n12, .int .i64 n13, .int .i64 n14, .int .i64 n15, .string n16, .string n17, .int .i64 n18, .int .i64 n19, .int .i64 n20, .int .i64 n21, .slice ua M uc, .int .i64 n23, .slice a1 d1 c1, .slice a2 d2 c2, .slice a3 d3 c3] 44) = X := ⟨_, rfl⟩
  have HB : Hid (Below w.heap.size w X) := Lib.hid (by rw [← hX]; exact al1 w _)
  have HBk : Hid (Bk X w.heap.size 44 [.int .i64 n0, .int .i64 n1, .int .i64 n2, .int .i64 n3, .int .i64 n4, .int .i64 n5, .int .i64 n6, .int .i64 n7, .int .i64 n8, .int .i64 n9, .int .i64 n10, .int .i64 n11, .int .i64 n12, .int .i64 n13, .int .i64 n14, .int .i64 n15, .string n16, .string n17, .int .i64 n18, .int .i64 n19, .int .i64 n20, .int .i64 n21, .slice ua M uc, .int .i64 n23, .slice a1 d1 c1, .slice a2 d2 c2, .slice a3 d3 c3]) := Lib.hid (by rw [← hX]; exact Bk.new w _ [.int .i64 n0, .int .i64 n1, .int .i64 n2, .int .i64 n3, .int .i64 n4, .int .i64 n5, .int .i64 n6, .int .i64 n7, .int .i64 n8, .int .i64 n9, .int .i64 n10, .int .i64 n11, .int .i64 n12, .int .i64 n13, .int .i64 n14, .int .i64 n15, .string n16, .string n17, .int .i64 n18, .int .i64 n19, .int .i64 n20, .int .i64 n21, .slice ua M uc, .int .i64 n23, .slice a1 d1 c1, .slice a2 d2 c2, .slice a3 d3 c3])
  go_enter Try.func21, Try.ntmps21
  have HBn := Lib.hid (Bk.new w 44 [.int .i64 n0, .int .i64 n1, .int .i64 n2, .int .i64 n3, .int .i64 n4, .int .i64 n5, .int .i64 n6, .int .i64 n7, .int .i64 n8, .int .i64 n9, .int .i64 n10, .int .i64 n11, .int .i64 n12, .int .i64 n13, .int .i64 n14, .int .i64 n15, .string n16, .string n17, .int .i64 n18, .int .i64 n19, .int .i64 n20, .int .i64 n21, .slice ua M uc, .int .i64 n23, .slice a1 d1 c1, .slice a2 d2 c2, .slice a3 d3 c3])
  go_wp2_with (first
    | refine _root_.Go.wpList_load_row rfl _ _ rfl w.heap.size rfl 44 _ _ _ HBn.out Try.underlying44 rfl infoMs ?_
    | refine _root_.Go.wpList_load_row rfl _ _ rfl w.heap.size rfl 44 _ _ _ HBk.out Try.underlying44 rfl infoMs ?_
    | fail)
  try rw [hX]
  refine (HOv.out X HB.out _ rfl).mono ?_
  rintro e w2 ⟨R, he, hR, hb⟩
  rw [he.out]
  have HB2 := Lib.hid (HB.out.trans ((al1 X _).mono HB.out.size |>.trans (hb.mono (by have := HB.out.size; simp; omega))))
  have HR := Lib.hid hR
  clear he hb hR
  go_wp2
  go_ret
  exact ⟨!R, Lib.hid rfl, fun q => (HR.out (by simpa using q)).2 _ (List.mem_singleton.2 rfl), HB2.out⟩
end Go.Proofs.Ytplplehfkfjhnaa
namespace Go.Proofs.Ytplplehfkfjhnaa
open Go.RowKit
open Bb (quoN thN allB)
set_option linter.unusedSimpArgs false
set_option linter.unusedVariables false
set_option maxRecDepth 100000

theorem eqC_self (a b c : Int) (d e : ByteArray) (f g h : Int) : (∀ w, Sem.run Try.prog (binOp .eql 33 (.agg #[.int .i64 a, .int .i64 b, .int .i64 c, .string d, .string e, .int .i64 f, .int .i64 g, .int .i64 h]) (.agg #[.int .i64 a, .int .i64 b, .int .i64 c, .string d, .string e, .int .i64 f, .int .i64 g, .int .i64 h])) w = .ok (.bool true) w) ∧ (∀ w, Sem.run Try.prog (binOp .neq 33 (.agg #[.int .i64 a, .int .i64 b, .int .i64 c, .string d, .string e, .int .i64 f, .int .i64 g, .int .i64 h]) (.agg #[.int .i64 a, .int .i64 b, .int .i64 c, .string d, .string e, .int .i64 f, .int .i64 g, .int .i64 h])) w = .ok (.bool false) w) ∧
    (∀ op x y w, Sem.run Try.prog (eqGuard op 33 x y (.agg #[.int .i64 a, .int .i64 b, .int .i64 c, .string d, .string e, .int .i64 f, .int .i64 g, .int .i64 h]) (.agg #[.int .i64 a, .int .i64 b, .int .i64 c, .string d, .string e, .int .i64 f, .int .i64 g, .int .i64 h])) w = .ok () w) := by
  have hq : ∀ w, Sem.run Try.prog (binOp .eql 33 (.agg #[.int .i64 a, .int .i64 b, .int .i64 c, .string d, .string e, .int .i64 f, .int .i64 g, .int .i64 h]) (.agg #[.int .i64 a, .int .i64 b, .int .i64 c, .string d, .string e, .int .i64 f, .int .i64 g, .int .i64 h])) w = .ok (.bool true) w := by
    intro w
    have u3 := Try.underlying9
    have a3 := Try.isAgg9
    have z3 := Try.sizeOf9
    have u4 := Try.underlying3
    have a4 := Try.isAgg3
    have z4 := Try.sizeOf3
    have u5 := Try.underlying31
    have a5 := Try.isAgg31
    have z5 := Try.sizeOf31
    have hS : Try.prog.underlying 33 = some (.struct (Try.prog.fieldsOf 33)) := by kernel_rfl
    have hp : Try.prog.stoodInHeld 33 = false := by kernel_rfl
    rw [run_eql_struct, show (10000 : Nat) = 9999 + 1 from rfl, run_equalIn_agg w 9999 33 _ _ hS hp]
    simp only [Program.fieldsOf, Try.underlying33]
    go_simp
    try simp
  refine ⟨hq, fun w => ?_, fun op x y w => run_eqGuard_agg w op 33 x y _ _ (by kernel_rfl)⟩
  have h := hq w
  rw [run_eql_struct] at h
  rw [run_neq_struct]
  revert h
  generalize Sem.run Try.prog (Op.equalIn 10000 33 (.agg #[.int .i64 a, .int .i64 b, .int .i64 c, .string d, .string e, .int .i64 f, .int .i64 g, .int .i64 h]) (.agg #[.int .i64 a, .int .i64 b, .int .i64 c, .string d, .string e, .int .i64 f, .int .i64 g, .int .i64 h])) w = r
  intro h
  cases r with
  | ok v w' => simp [Result.andThen] at h ⊢; simp [h]
  | halt x w' => simp [Result.andThen] at h
end Go.Proofs.Ytplplehfkfjhnaa
namespace Go.Proofs.Ytplplehfkfjhnaa
open Go.RowKit
open Bb (quoN thN allB)
set_option linter.unusedSimpArgs false
set_option linter.unusedVariables false
set_option maxRecDepth 100000

/-- A first lead: nobody has told it what was decided (told = false), then its command is what it was given. -/
structure LInv (node : Int) (id : I3) (cm : CM) (told : Bool) (L : LSt) : Prop where
  ok : LOk L
  enode : L.node = node
  eid : L.id = id
  ebal : L.bal = (0, id.2.1)
  eph : L.ph = 0 ∨ L.ph = 1 ∨ L.ph = 3 ∨ L.ph = 4
  ecm : told = false → L.cm = cm
theorem LInv.or {node : Int} {id : I3} {cm : CM} {told : Bool} {L : LSt} (h : LInv node id cm told L) (b : Bool) : LInv node id cm (told || b) L := ⟨h.ok, h.enode, h.eid, h.ebal, h.eph, fun q => h.ecm (by cases told <;> simp_all)⟩
theorem LInv.ent {node : Int} {id : I3} {cm : CM} {told : Bool} {L : LSt} (h : LInv node id cm told L) (p : Int) (hp : p = 0 ∨ p = 1 ∨ p = 3 ∨ p = 4) (a : At) (ha : a.2.length ≤ 3000) : LInv node id cm told (entL L p L.cm a) :=
  ⟨h.ok.ent p _ a ha, h.enode, h.eid, h.ebal, hp, h.ecm⟩
theorem LInv.add {node : Int} {id : I3} {cm : CM} {told : Bool} {L : LSt} {x : Mg} {p : Int} (h : LInv node id cm told L) (hf : fitL L x p = true) (hn : x.fr ∈ L.ns) (hd : x.ins.at'.2.length ≤ 60) : LInv node id cm told (addL L x) :=
  ⟨h.ok.add hf hn hd, h.enode, h.eid, h.ebal, h.eph, h.ecm⟩
def HiP (node : Int) (id : I3) (cm : CM) (told : Bool) (L : LSt) (B g : Nat) (w : World) (e : Ending) (w' : World) : Prop := ∃ M, LInv node id cm told M ∧ HeP M L B g w e w'
theorem linv_hear {W0 w : World} {B g : Nat} {L : LSt} {x : Mg} {v : Value} {node : Int} {id : I3} {cm : CM} {told : Bool} (h : LdAt w B g L) (hi : LInv node id cm told L) (hm : MgV W0 v x) (hW0 : W0.heap.size ≤ B) (hbw : Below W0.heap.size W0 w) (hdl : x.ins.at'.2.length ≤ 60) :
    Calls Try.prog 13 #[gP g, v] w (HiP node id cm (told || x.kind == 4) L B g w) := by
  by_cases hp : passL L x = true
  rotate_left
  · exact (hear_skip h hi.ok hm hW0 hbw hdl (by simpa using hp)).mono fun e w' q => ⟨L, hi.or _, q⟩
  have hn : x.fr ∈ L.ns := by
    unfold passL at hp
    simp only [Bool.and_eq_true] at hp
    have := hp.2.2
    simpa [inB] using this
  by_cases k4 : x.kind = 4
  · refine (hear_commit h hi.ok hm hW0 hbw hdl hp k4).mono fun e w' q => ⟨_, ?_, q⟩
    refine ⟨hi.ok.ent 3 _ _ (by omega), hi.enode, hi.eid, hi.ebal, .inr (.inr (.inl rfl)), fun q => ?_⟩
    rw [k4] at q
    simp at q
  by_cases k7 : x.kind = 7
  · cases q7 : Bb.lessB L.bal.1 L.bal.2 x.bal.1 x.bal.2 with
    | false => exact (hear_noN h hi.ok hm hW0 hbw hdl hp k7 q7).mono fun e w' q => ⟨L, hi.or _, q⟩
    | true =>
      refine (hear_noY h hi.ok hm hW0 hbw hdl hp k7 q7).mono fun e w' q => ⟨_, ?_, q⟩
      exact (LInv.ent (L := { L with by' := x.bal }) ⟨⟨hi.ok.nl, hi.ok.nd, hi.ok.sub, hi.ok.hl, hi.ok.hd, hi.ok.dl⟩, hi.enode, hi.eid, hi.ebal, hi.eph, hi.ecm⟩ 4 (.inr (.inr (.inr rfl))) _ hi.ok.dl).or _
  by_cases k1 : x.kind = 1
  · cases f : fitL L x 0 with
    | false => exact (hear_preN h hi.ok hm hW0 hbw hdl hp k1 f).mono fun e w' q => ⟨L, hi.or _, q⟩
    | true =>
      refine (hear_preY h hi.ok hm hW0 hbw hdl hp k1 f).mono fun e w' q => ⟨_, ?_, q⟩
      have ha := (hi.add f hn hdl).or (x.kind == 4)
      unfold propL
      split
      · split
        · exact ha.ent 3 (.inr (.inr (.inl rfl))) _ ha.ok.dl
        · exact ha
      · split
        · exact ha.ent 1 (.inr (.inl rfl)) _ (Nat.le_trans ha.ok.al (by omega))
        · exact ha
  by_cases k3 : x.kind = 3
  · cases f : fitL L x 1 with
    | false => exact (hear_accN h hi.ok hm hW0 hbw hdl hp k3 f).mono fun e w' q => ⟨L, hi.or _, q⟩
    | true =>
      have ha := (hi.add f hn hdl).or (x.kind == 4)
      cases hq : enoL (addL L x) with
      | false => exact (hear_accQ h hi.ok hm hW0 hbw hdl hp k3 f hq).mono fun e w' q => ⟨_, ha, q⟩
      | true =>
        refine (hear_accY h hi.ok hm hW0 hbw hdl hp k3 f hq).mono fun e w' q => ⟨_, ?_, q⟩
        exact ha.ent 3 (.inr (.inr (.inl rfl))) _ hi.ok.dl
  by_cases k6 : x.kind = 6
  · refine (hear_prepN h hi.ok hm hW0 hbw hdl hp k6 ?_).mono fun e w' q => ⟨L, hi.or _, q⟩
    unfold fitL
    have : (L.ph == 2) = false := by
      rcases hi.eph with r | r | r | r <;> rw [r] <;> rfl
    rw [this]; rfl
  exact (hear_other h hi.ok hm hW0 hbw hdl hp ⟨k4, k7, k1, k3, k6⟩).mono fun e w' q => ⟨L, hi.or _, q⟩
theorem linv_ask {w : World} {B g : Nat} {L : LSt} {node : Int} {id : I3} {cm : CM} {told : Bool} (h : LdAt w B g L) (hi : LInv node id cm told L) : Calls Try.prog 19 #[gP g] w (AkP (askL L) w) := by
  rcases hi.eph with r | r | r | r
  · exact ask0_any h hi.ok r
  · exact ask1_any h hi.ok r
  · exact ask3_any h hi.ok r
  · exact ask4_any h hi.ok r
theorem linv_what {L : LSt} {node : Int} {id : I3} {cm : CM} (hi : LInv node id cm false L) (h4 : L.ph ≠ 4) : cm = (askL L).ins.cm ∧ id = (askL L).id ∧ (0, id.2.1) = (askL L).bal ∧ node = (askL L).fr ∧ L.ph ≠ 2 := by
  rcases hi.eph with r | r | r | r
  all_goals first | exact absurd r h4 | (unfold askL; simp [r, hi.ecm rfl, hi.eid, hi.ebal, hi.enode])
end Go.Proofs.Ytplplehfkfjhnaa
namespace Go.Proofs.Ytplplehfkfjhnaa
open Go.RowKit
open Bb (quoN thN allB)
set_option linter.unusedSimpArgs false
set_option linter.unusedVariables false
set_option maxRecDepth 100000

set_option maxHeartbeats 16000000 in
theorem command_law (ep : Int) (ao : Option Addr) (co : Nat) (zs : List Int) (x : Mg) (v v2 : Value) (rs : List (Cls 27)) (l : List Mg) (W : World) (hr : It W (.slice ao zs.length co) zs) (hm : MsgIs W v x) (hl : RowIs KM msS W v2 rs l) :
    Calls Try.prog 6 #[.agg #[.int .i64 ep, .slice ao zs.length co], v, v2] W fun e w' => e = .returned (.bool true) ∧ Below W.heap.size W w' := by
  have HOl := Lib.hid hl
  obtain ⟨a2', c2', e2'⟩ := rowSl hl
  subst e2'
  have HMI := Lib.hid hm
  have HMV := Lib.hid hm.mgv
  obtain ⟨ua, uc, a1, d1, c1, a2, d2, c2, a3, d3, c3, rfl, hrd, hok⟩ := hm.mgv
  obtain ⟨n0, n1, n2, ⟨n3, n4, n5⟩, ⟨n6, n7⟩, ⟨n8, ⟨n9, n10⟩, ⟨n11, n12⟩, ⟨n13, n14, n15, n16, n17, n18, n19, n20⟩, n21, dl⟩, sn0⟩ := x
  obtain ⟨n23, sn1⟩ : ∃ q, sn0.1.1 = q := ⟨_, rfl⟩
  obtain ⟨M, hM⟩ : ∃ M, dl.length = M := ⟨_, rfl⟩
  have HMl := Lib.hid hM
  simp only at hrd hok
  simp only [msE, inE, snV, hM, sn1, List.cons_append, List.nil_append] at hrd HMI HMV ⊢
  clear hM sn1 hm
  obtain ⟨K, hK⟩ : ∃ K, l.length = K := ⟨_, rfl⟩
  have hlen := hl.rd.len
  rw [hl.len, hK] at hlen
  have hK63 : K ≤ 9223372036854775807 := by unfold maxLen at hlen; omega
  obtain ⟨N, hN⟩ : ∃ N, zs.length = N := ⟨_, rfl⟩
  have hN63 := hr.len
  rw [hK] at HOl hl ⊢
  rw [hN] at hN63 ⊢
  have HR := Lib.hid hl
  have HK := Lib.hid hK
  obtain ⟨X0, hX0⟩ : ∃ X0, (W.alloc (.cells #[.int .i64 ep, .slice ao N co] 24)).alloc (.cells #[.int .i64 n0, .int .i64 n1, .int .i64 n2, .int .i64 n3, .int .i64 n4, .int .i64 n5, .int .i64 n6, .int .i64 n7, .int .i64 n8, .int .i64 n9, .int .i64 n10, .int .i64 n11, .int .i64 n12, .int .i64 n13, .int .i64 n14, .int .i64 n15, .string n16, .string n17, .int .i64 n18, .int .i64 n19, .int .i64 n20, .int .i64 n21, .slice ua M uc, .int .i64 n23, .slice a1 d1 c1, .slice a2 d2 c2, .slice a3 d3 c3] 44) = X0 := ⟨_, rfl⟩
  have HC0 : Hid (Bk X0 W.heap.size 24 [.int .i64 ep, .slice ao N co]) := Lib.hid (by rw [← hX0]; exact (Bk.newAt rfl _ [.int .i64 ep, .slice ao N co]).old _)
  have HM0 : Hid (Bk X0 (W.heap.size + 1) 44 [.int .i64 n0, .int .i64 n1, .int .i64 n2, .int .i64 n3, .int .i64 n4, .int .i64 n5, .int .i64 n6, .int .i64 n7, .int .i64 n8, .int .i64 n9, .int .i64 n10, .int .i64 n11, .int .i64 n12, .int .i64 n13, .int .i64 n14, .int .i64 n15, .string n16, .string n17, .int .i64 n18, .int .i64 n19, .int .i64 n20, .int .i64 n21, .slice ua M uc, .int .i64 n23, .slice a1 d1 c1, .slice a2 d2 c2, .slice a3 d3 c3]) := Lib.hid (by rw [← hX0]; exact Bk.newAt (by simp) _ [.int .i64 n0, .int .i64 n1, .int .i64 n2, .int .i64 n3, .int .i64 n4, .int .i64 n5, .int .i64 n6, .int .i64 n7, .int .i64 n8, .int .i64 n9, .int .i64 n10, .int .i64 n11, .int .i64 n12, .int .i64 n13, .int .i64 n14, .int .i64 n15, .string n16, .string n17, .int .i64 n18, .int .i64 n19, .int .i64 n20, .int .i64 n21, .slice ua M uc, .int .i64 n23, .slice a1 d1 c1, .slice a2 d2 c2, .slice a3 d3 c3])
  have HW0 : Hid (Below W.heap.size W X0) := Lib.hid (by rw [← hX0]; exact ((Below.refl _ _).alloc (Nat.le_refl _) _).alloc (by simp) _)
  have HIt := Lib.hid (hr.below HW0.out)
  have HRd := Lib.hid (hrd.below HW0.out)
  have HOkD := Lib.hid hok
  have HMI0 := Lib.hid (HMI.out.on HW0.out)
  have HWk := Lib.hid (works_any X0)
  have HN' := Lib.hid hN
  have HNw : Hid (∀ w, It w (.slice ao zs.length co) zs → zs.length ≤ 1000 → IK.Rd w (.slice ua M uc) dl → dl.length ≤ 60 → Calls Try.prog 17 #[.agg #[.int .i64 ep, .slice ao N co], .int .i64 n1, .agg #[.int .i64 n3, .int .i64 n4, .int .i64 n5], .agg #[.int .i64 n13, .int .i64 n14, .int .i64 n15, .string n16, .string n17, .int .i64 n18, .int .i64 n19, .int .i64 n20], .agg #[.int .i64 n21, .slice ua M uc]] w (LdP ⟨ep, zs, n1, (n3, n4, n5), (0, n4), (0, 0), true, 0, ⟨n13, n14, n15, n16, n17, n18, n19, n20⟩, (n21, dl), [], []⟩ w)) := Lib.hid fun w h1 h2 h3 h4 => by
    have h := new_any ep ao co zs n1 n3 n4 n5 ⟨n13, n14, n15, n16, n17, n18, n19, n20⟩ n21 (.slice ua M uc) dl w h1 h2 h3 hok (Nat.le_trans h4 (by omega))
    rw [hN] at h
    exact h
  clear hr hrd hok HMV HMI hl hlen
  go_enter Try.func6, Try.ntmps6
  go_wp2_with fail
  try rw [hX0]
  refine HWk.out.mono ?_
  rintro e w1 ⟨rfl, hb⟩
  have HX := Lib.hid hb
  clear hX0 HWk hb
  go_wp2_with fail
  refine (over_any _ rs l w1 ((HOl.out.on HW0.out).on HX.out)).mono ?_
  rintro e w2 ⟨R, he, hR, hb⟩
  rw [he.out]
  have HX' := Lib.hid (HX.out.trans (hb.mono HX.out.size))
  clear hb HX
  have HX := HX'
  clear HX'
  cases R with
  | true =>
    go_wp2
    go_ret
    exact ⟨rfl, HW0.out.trans (HX.out.mono HW0.out.size)⟩
  | false =>
  have HLl := Lib.hid (hR rfl)
  clear he hR
  have HM2 := Lib.hid (HM0.out.below HX.out)
  go_wp2_with (first
    | refine wpList_load_rowG rfl _ _ rfl (W.heap.size + 1) rfl 44 _ (0, 0) _ HM2.out Try.underlying44 rfl infoMs ?_
    | fail)
  refine (over1_any (HMI0.out.on HX.out) _ rfl).mono ?_
  rintro e w3 ⟨R, he, hR, hb⟩
  rw [he.out]
  have hb := (al1 w2 (.cells #[.int .i64 n0, .int .i64 n1, .int .i64 n2, .int .i64 n3, .int .i64 n4, .int .i64 n5, .int .i64 n6, .int .i64 n7, .int .i64 n8, .int .i64 n9, .int .i64 n10, .int .i64 n11, .int .i64 n12, .int .i64 n13, .int .i64 n14, .int .i64 n15, .string n16, .string n17, .int .i64 n18, .int .i64 n19, .int .i64 n20, .int .i64 n21, .slice ua M uc, .int .i64 n23, .slice a1 d1 c1, .slice a2 d2 c2, .slice a3 d3 c3] 44)).trans (hb.mono (by simp))
  have HX' := Lib.hid (HX.out.trans (hb.mono HX.out.size))
  clear hb HX
  have HX := HX'
  clear HX'
  cases R with
  | true =>
    go_wp2
    go_ret
    exact ⟨rfl, HW0.out.trans (HX.out.mono HW0.out.size)⟩
  | false =>
  have HLx : Hid (dl.length ≤ 60) := Lib.hid ((hR rfl).2 _ (List.mem_singleton.2 rfl))
  clear he hR HM2
  have cc0 := (HC0.out.below HX.out).cell 0
  have cc1 := (HC0.out.below HX.out).cell 1
  simp only [List.getElem?_cons_zero, List.getElem?_cons_succ] at cc0 cc1
  by_cases q1 : (40 : Int) < (N : Int)
  · have dq1 : decide ((40 : Int) < (N : Int)) = true := decide_eq_true q1
    have dq1n : decide (40 < N) = true := decide_eq_true (by omega)
    go_wp2
    go_ret
    exact ⟨rfl, HW0.out.trans (HX.out.mono HW0.out.size)⟩
  have dq1 : decide ((40 : Int) < (N : Int)) = false := decide_eq_false q1
  have dq1n : decide (40 < N) = false := decide_eq_false (by omega)
  have HN : Hid (zs.length ≤ 40) := Lib.hid (by rw [HN'.out]; omega)
  clear hN
  have y1 := (HM0.out.below HX.out).cell 1
  have y3 := (HM0.out.below HX.out).cell 3
  have y4 := (HM0.out.below HX.out).cell 4
  have y5 := (HM0.out.below HX.out).cell 5
  have y6 := (HM0.out.below HX.out).cell 6
  have y7 := (HM0.out.below HX.out).cell 7
  have y13 := (HM0.out.below HX.out).cell 13
  have y14 := (HM0.out.below HX.out).cell 14
  have y15 := (HM0.out.below HX.out).cell 15
  have y16 := (HM0.out.below HX.out).cell 16
  have y17 := (HM0.out.below HX.out).cell 17
  have y18 := (HM0.out.below HX.out).cell 18
  have y19 := (HM0.out.below HX.out).cell 19
  have y20 := (HM0.out.below HX.out).cell 20
  have y21 := (HM0.out.below HX.out).cell 21
  have y22 := (HM0.out.below HX.out).cell 22
  simp only [List.getElem?_cons_zero, List.getElem?_cons_succ] at y1 y3 y4 y5 y6 y7 y13 y14 y15 y16 y17 y18 y19 y20 y21 y22
  go_wp2_with fail
  refine (HNw.out w3 (HIt.out.below HX.out) (Nat.le_trans HN.out (by omega)) (HRd.out.below HX.out) HLx.out).mono ?_
  rintro e w5 ⟨g, he, hl, hb⟩
  rw [he.out]
  obtain ⟨B, hB⟩ : ∃ B, w3.heap.size = B := ⟨_, rfl⟩
  have hXB : X0.heap.size ≤ B := hB ▸ HX.out.size
  have hWB : W.heap.size ≤ B := Nat.le_trans HW0.out.size hXB
  have HL5 : Hid (LdAt w5 B g ⟨ep, zs, n1, (n3, n4, n5), (0, n4), (0, 0), true, 0, ⟨n13, n14, n15, n16, n17, n18, n19, n20⟩, (n21, dl), [], []⟩) := Lib.hid (hB ▸ hl)
  have HI5 : Hid (LInv n1 (n3, n4, n5) ⟨n13, n14, n15, n16, n17, n18, n19, n20⟩ false ⟨ep, zs, n1, (n3, n4, n5), (0, n4), (0, 0), true, 0, ⟨n13, n14, n15, n16, n17, n18, n19, n20⟩, (n21, dl), [], []⟩) := Lib.hid ⟨⟨HN.out, List.nodup_nil, (fun x hx => by cases hx), rfl, (fun x hx => by cases hx), Nat.le_trans HLx.out (by omega)⟩, rfl, rfl, rfl, .inl rfl, fun _ => rfl⟩
  have HX' := Lib.hid (HX.out.trans (hb.mono HX.out.size))
  clear hb HX
  have HX := HX'
  clear HX'
  clear he hl hB y1 y3 y4 y5 y6 y7 y13 y14 y15 y16 y17 y18 y19 y20 y21 y22 cc0 cc1 dq1 dq1n q1 HNw
  go_wp2_with fail
  go_loopw [9, 10] (fun t i wr => ∃ (k : Nat) (tb : Bool) (L : LSt), k ≤ K ∧ t = .bool tb ∧ i = .int .i64 k ∧ Hid (LInv n1 (n3, n4, n5) ⟨n13, n14, n15, n16, n17, n18, n19, n20⟩ tb L) ∧ Hid (LdAt wr B g L) ∧ Hid (Below X0.heap.size X0 wr)) (fun _ i _ => K - (intOf i).toNat)
  case atStart => exact ⟨0, false, _, Nat.zero_le _, rfl, rfl, HI5, HL5, HX⟩
  case round =>
    clear HL5 HI5 HX
    obtain ⟨k, tb, L, hk, rfl, rfl, HI, HL, HX⟩ := hrel
    by_cases hlt : k < K
    · have hk1 : (k : Int) < (K : Int) := by omega
      have hk2 : decide ((k : Int) < (K : Int)) = true := decide_eq_true hk1
      have hk3 : decide (k < K) = true := decide_eq_true hlt
      obtain ⟨-, hlk, g2, off, cs, ha, hg, hcs, hc⟩ := HR.out.el rfl k hlt
      subst ha
      have eK : KM.k = 27 := rfl
      rw [eK] at hc
      clear eK
      have HWr : Hid (Below W.heap.size W wr) := Lib.hid (HW0.out.trans (HX.out.mono HW0.out.size))
      have HRG : wr.rangeAt g2 (off + k * 27) cs := fun j v hv => (HWr.out.cell (p := ⟨g2, off + k * 27 + j, none⟩) hg).trans (hc j v hv)
      have hlc : cs.length = 27 := by obtain ⟨u, u1, u2, u3, hq⟩ := hcs; rw [hq.cs]; rfl
      have hinf : (Try.prog.info? 44).map (·.size) = some cs.length := by rw [hlc]; kernel_rfl
      have HMk : Hid (MgV W (.agg cs.toArray) l[k]) := Lib.hid (MsgIs.mgv ⟨cs.toArray, rfl, by simpa using hcs⟩)
      have hkd0 : cs[0]? = some (.int .i64 l[k].kind) := by obtain ⟨u, u1, u2, u3, hq⟩ := hcs; rw [hq.cs]; rfl
      have z0 := HRG 0 _ hkd0
      have hgr : g2 < wr.heap.size := Nat.lt_of_lt_of_le hg HWr.out.size
      have HD : Hid (l[k].ins.at'.2.length ≤ 60) := Lib.hid (HLl.out.2 _ (List.getElem_mem hlk))
      obtain ⟨kd, hkd⟩ : ∃ kd, l[k].kind = kd := ⟨_, rfl⟩
      rw [hkd] at z0
      have HHr := Lib.hid (linv_hear HL.out HI.out HMk.out hWB HWr.out HD.out)
      rw [hkd] at HHr
      have HRGh := Lib.hid HRG
      have Hinf := Lib.hid hinf
      simp only [Nat.add_zero] at z0
      clear hc hcs hkd0 hkd hlc HRG hinf HMk HD
      obtain ⟨t2, ht2⟩ : ∃ t2, (tb || kd == 4) = t2 := ⟨_, rfl⟩
      have hkq : decide (kd = 4) = (kd == 4) := by by_cases h : kd = 4 <;> simp [h]
      rw [ht2] at HHr
      cases tb with
      | true =>
        have ht : t2 = true := by rw [← ht2]; rfl
        subst ht
        clear ht2 hkq
        go_wp2_with (first | refine wpList_load_mid rfl _ _ rfl g2 (off + k * 27) rfl _ _ HRGh.out Try.underlying44 rfl Hinf.out ?_ | fail)
        refine HHr.out.mono ?_
        rintro e w6 ⟨M1, hi, he, hl, hb, -⟩
        rw [he.out]
        have HI1 := Lib.hid hi
        have HL1 := Lib.hid hl
        have HX' := Lib.hid (HX.out.trans (hb.mono hXB))
        clear hi he hl hb HX HL HI HHr z0 hgr HRGh Hinf
        have HX := HX'
        clear HX'
        go_wp2_with fail
        refine (linv_ask HL1.out HI1.out).mono ?_
        rintro e w7 ⟨u, he, ho, hb⟩
        rw [he.out]
        obtain ⟨au, cu, eu⟩ := ho.slice
        obtain ⟨A, hA⟩ : ∃ A, askL M1 = A := ⟨_, rfl⟩
        have hA' := hA
        rw [hA'] at eu ⊢
        obtain ⟨du, hdu⟩ : ∃ d, A.ins.at'.2.length = d := ⟨_, rfl⟩
        rw [hdu] at eu
        subst eu
        have HL2 := Lib.hid (HL1.out.below hb)
        have HA := Lib.hid hA
        clear hdu hA hA' he ho HL1
        have HX' := Lib.hid (HX.out.trans (hb.mono HX.out.size))
        clear hb HX
        have HX := HX'
        clear HX'
        obtain ⟨q0, q1, q2, ⟨q3, q4, q5⟩, ⟨q6, q7⟩, ⟨q8, ⟨q9, q10⟩, ⟨q11, q12⟩, ⟨q13, q14, q15, q16, q17, q18, q19, q20⟩, q21, qd⟩, ⟨⟨q23, qs1⟩, qs2⟩⟩ := A
        simp only [msE, inE, snV, List.cons_append, List.nil_append]
        have HZ := Lib.hid (Bk.new w7 44 [.int .i64 0, .int .i64 0, .int .i64 0, .int .i64 0, .int .i64 0, .int .i64 0, .int .i64 0, .int .i64 0, .int .i64 0, .int .i64 0, .int .i64 0, .int .i64 0, .int .i64 0, .int .i64 0, .int .i64 0, .int .i64 0, .string ⟨#[]⟩, .string ⟨#[]⟩, .int .i64 0, .int .i64 0, .int .i64 0, .int .i64 0, .slice none 0 0, .int .i64 0, .slice none 0 0, .slice none 0 0, .slice none 0 0])
        have HS := Lib.hid (bk_setRow (ds := [.int .i64 q0, .int .i64 q1, .int .i64 q2, .int .i64 q3, .int .i64 q4, .int .i64 q5, .int .i64 q6, .int .i64 q7, .int .i64 q8, .int .i64 q9, .int .i64 q10, .int .i64 q11, .int .i64 q12, .int .i64 q13, .int .i64 q14, .int .i64 q15, .string q16, .string q17, .int .i64 q18, .int .i64 q19, .int .i64 q20, .int .i64 q21, .slice au du cu, .int .i64 q23, .slice none 0 0, .slice none 0 0, .slice none 0 0]) HZ.out)
        go_wp2_with (first
          | refine _root_.Go.wpList_store_row rfl _ _ _ rfl w7.heap.size #[.int .i64 q0, .int .i64 q1, .int .i64 q2, .int .i64 q3, .int .i64 q4, .int .i64 q5, .int .i64 q6, .int .i64 q7, .int .i64 q8, .int .i64 q9, .int .i64 q10, .int .i64 q11, .int .i64 q12, .int .i64 q13, .int .i64 q14, .int .i64 q15, .string q16, .string q17, .int .i64 q18, .int .i64 q19, .int .i64 q20, .int .i64 q21, .slice au du cu, .int .i64 q23, .slice none 0 0, .slice none 0 0, .slice none 0 0] rfl rfl 44 _ HZ.out infoMs rfl (all_toL (l := [.int .i64 q0, .int .i64 q1, .int .i64 q2, .int .i64 q3, .int .i64 q4, .int .i64 q5, .int .i64 q6, .int .i64 q7, .int .i64 q8, .int .i64 q9, .int .i64 q10, .int .i64 q11, .int .i64 q12, .int .i64 q13, .int .i64 q14, .int .i64 q15, .string q16, .string q17, .int .i64 q18, .int .i64 q19, .int .i64 q20, .int .i64 q21, .slice au du cu, .int .i64 q23, .slice none 0 0, .slice none 0 0, .slice none 0 0]) rfl) ?_
          | fail)
        obtain ⟨p, hp⟩ : ∃ p, w7.heap.size = p := ⟨_, rfl⟩
        obtain ⟨Y, hY⟩ : ∃ Y, (w7.alloc (.cells #[.int .i64 0, .int .i64 0, .int .i64 0, .int .i64 0, .int .i64 0, .int .i64 0, .int .i64 0, .int .i64 0, .int .i64 0, .int .i64 0, .int .i64 0, .int .i64 0, .int .i64 0, .int .i64 0, .int .i64 0, .int .i64 0, .string ⟨#[]⟩, .string ⟨#[]⟩, .int .i64 0, .int .i64 0, .int .i64 0, .int .i64 0, .slice none 0 0, .int .i64 0, .slice none 0 0, .slice none 0 0, .slice none 0 0] 44)).setRow w7.heap.size #[.int .i64 q0, .int .i64 q1, .int .i64 q2, .int .i64 q3, .int .i64 q4, .int .i64 q5, .int .i64 q6, .int .i64 q7, .int .i64 q8, .int .i64 q9, .int .i64 q10, .int .i64 q11, .int .i64 q12, .int .i64 q13, .int .i64 q14, .int .i64 q15, .string q16, .string q17, .int .i64 q18, .int .i64 q19, .int .i64 q20, .int .i64 q21, .slice au du cu, .int .i64 q23, .slice none 0 0, .slice none 0 0, .slice none 0 0] = Y := ⟨_, rfl⟩
        rw [hY]
        have HPb : Hid (Bk Y p 44 [.int .i64 q0, .int .i64 q1, .int .i64 q2, .int .i64 q3, .int .i64 q4, .int .i64 q5, .int .i64 q6, .int .i64 q7, .int .i64 q8, .int .i64 q9, .int .i64 q10, .int .i64 q11, .int .i64 q12, .int .i64 q13, .int .i64 q14, .int .i64 q15, .string q16, .string q17, .int .i64 q18, .int .i64 q19, .int .i64 q20, .int .i64 q21, .slice au du cu, .int .i64 q23, .slice none 0 0, .slice none 0 0, .slice none 0 0]) := Lib.hid (by rw [← hY, ← hp]; exact HS.out)
        have hwy : Below w7.heap.size w7 Y := by rw [← hY]; exact below_setRow ((Below.refl _ _).alloc (Nat.le_refl _) _) (Nat.le_refl _) _
        have HL6 := Lib.hid (HL2.out.below hwy)
        have HX' := Lib.hid (HX.out.trans (hwy.mono HX.out.size))
        simp only [hp]
        clear hY HZ HS HL2 HX hwy
        have HX := HX'
        clear HX' hp
        refine (phase_any HL6.out).mono ?_
        rintro e _ ⟨rfl, rfl⟩
        clear HPb HA
        obtain ⟨ph, hph⟩ : ∃ ph, M1.ph = ph := ⟨_, rfl⟩
        rw [hph]
        clear hph
        by_cases h4 : ph = 4
        · have h4d : decide (ph = 4) = true := decide_eq_true h4
          have h4e : (ph == 4) = true := by simp [h4]
          go_wp2_with fail
          go_roundw
          case rel => exact ⟨k + 1, _, M1, by omega, rfl, by go_num, HI1, HL6, HX⟩
          case measure => simp [intOf]; omega
        · have h4d : decide (ph = 4) = false := decide_eq_false h4
          have h4e : (ph == 4) = false := by simp [h4]
          go_wp2_with fail
          go_roundw
          case rel => exact ⟨k + 1, _, M1, by omega, rfl, by go_num, HI1, HL6, HX⟩
          case measure => simp [intOf]; omega
      | false =>
        rw [Bool.false_or] at ht2
        cases t2 with
        | true =>
          have hq4 : (kd == 4) = true := ht2
          have hq5 : decide (kd = 4) = true := hkq.trans ht2
          have hq6 : kd = 4 := by simpa using ht2
          clear ht2 hkq
          go_wp2_with (first | refine wpList_load_mid rfl _ _ rfl g2 (off + k * 27) rfl _ _ HRGh.out Try.underlying44 rfl Hinf.out ?_ | fail)
          refine HHr.out.mono ?_
          rintro e w6 ⟨M1, hi, he, hl, hb, -⟩
          rw [he.out]
          have HI1 := Lib.hid hi
          have HL1 := Lib.hid hl
          have HX' := Lib.hid (HX.out.trans (hb.mono hXB))
          clear hi he hl hb HX HL HI HHr z0 hgr HRGh Hinf
          have HX := HX'
          clear HX'
          go_wp2_with fail
          refine (linv_ask HL1.out HI1.out).mono ?_
          rintro e w7 ⟨u, he, ho, hb⟩
          rw [he.out]
          obtain ⟨au, cu, eu⟩ := ho.slice
          obtain ⟨A, hA⟩ : ∃ A, askL M1 = A := ⟨_, rfl⟩
          have hA' := hA
          rw [hA'] at eu ⊢
          obtain ⟨du, hdu⟩ : ∃ d, A.ins.at'.2.length = d := ⟨_, rfl⟩
          rw [hdu] at eu
          subst eu
          have HL2 := Lib.hid (HL1.out.below hb)
          have HA := Lib.hid hA
          clear hdu hA hA' he ho HL1
          have HX' := Lib.hid (HX.out.trans (hb.mono HX.out.size))
          clear hb HX
          have HX := HX'
          clear HX'
          obtain ⟨q0, q1, q2, ⟨q3, q4, q5⟩, ⟨q6, q7⟩, ⟨q8, ⟨q9, q10⟩, ⟨q11, q12⟩, ⟨q13, q14, q15, q16, q17, q18, q19, q20⟩, q21, qd⟩, ⟨⟨q23, qs1⟩, qs2⟩⟩ := A
          simp only [msE, inE, snV, List.cons_append, List.nil_append]
          have HZ := Lib.hid (Bk.new w7 44 [.int .i64 0, .int .i64 0, .int .i64 0, .int .i64 0, .int .i64 0, .int .i64 0, .int .i64 0, .int .i64 0, .int .i64 0, .int .i64 0, .int .i64 0, .int .i64 0, .int .i64 0, .int .i64 0, .int .i64 0, .int .i64 0, .string ⟨#[]⟩, .string ⟨#[]⟩, .int .i64 0, .int .i64 0, .int .i64 0, .int .i64 0, .slice none 0 0, .int .i64 0, .slice none 0 0, .slice none 0 0, .slice none 0 0])
          have HS := Lib.hid (bk_setRow (ds := [.int .i64 q0, .int .i64 q1, .int .i64 q2, .int .i64 q3, .int .i64 q4, .int .i64 q5, .int .i64 q6, .int .i64 q7, .int .i64 q8, .int .i64 q9, .int .i64 q10, .int .i64 q11, .int .i64 q12, .int .i64 q13, .int .i64 q14, .int .i64 q15, .string q16, .string q17, .int .i64 q18, .int .i64 q19, .int .i64 q20, .int .i64 q21, .slice au du cu, .int .i64 q23, .slice none 0 0, .slice none 0 0, .slice none 0 0]) HZ.out)
          go_wp2_with (first
            | refine _root_.Go.wpList_store_row rfl _ _ _ rfl w7.heap.size #[.int .i64 q0, .int .i64 q1, .int .i64 q2, .int .i64 q3, .int .i64 q4, .int .i64 q5, .int .i64 q6, .int .i64 q7, .int .i64 q8, .int .i64 q9, .int .i64 q10, .int .i64 q11, .int .i64 q12, .int .i64 q13, .int .i64 q14, .int .i64 q15, .string q16, .string q17, .int .i64 q18, .int .i64 q19, .int .i64 q20, .int .i64 q21, .slice au du cu, .int .i64 q23, .slice none 0 0, .slice none 0 0, .slice none 0 0] rfl rfl 44 _ HZ.out infoMs rfl (all_toL (l := [.int .i64 q0, .int .i64 q1, .int .i64 q2, .int .i64 q3, .int .i64 q4, .int .i64 q5, .int .i64 q6, .int .i64 q7, .int .i64 q8, .int .i64 q9, .int .i64 q10, .int .i64 q11, .int .i64 q12, .int .i64 q13, .int .i64 q14, .int .i64 q15, .string q16, .string q17, .int .i64 q18, .int .i64 q19, .int .i64 q20, .int .i64 q21, .slice au du cu, .int .i64 q23, .slice none 0 0, .slice none 0 0, .slice none 0 0]) rfl) ?_
            | fail)
          obtain ⟨p, hp⟩ : ∃ p, w7.heap.size = p := ⟨_, rfl⟩
          obtain ⟨Y, hY⟩ : ∃ Y, (w7.alloc (.cells #[.int .i64 0, .int .i64 0, .int .i64 0, .int .i64 0, .int .i64 0, .int .i64 0, .int .i64 0, .int .i64 0, .int .i64 0, .int .i64 0, .int .i64 0, .int .i64 0, .int .i64 0, .int .i64 0, .int .i64 0, .int .i64 0, .string ⟨#[]⟩, .string ⟨#[]⟩, .int .i64 0, .int .i64 0, .int .i64 0, .int .i64 0, .slice none 0 0, .int .i64 0, .slice none 0 0, .slice none 0 0, .slice none 0 0] 44)).setRow w7.heap.size #[.int .i64 q0, .int .i64 q1, .int .i64 q2, .int .i64 q3, .int .i64 q4, .int .i64 q5, .int .i64 q6, .int .i64 q7, .int .i64 q8, .int .i64 q9, .int .i64 q10, .int .i64 q11, .int .i64 q12, .int .i64 q13, .int .i64 q14, .int .i64 q15, .string q16, .string q17, .int .i64 q18, .int .i64 q19, .int .i64 q20, .int .i64 q21, .slice au du cu, .int .i64 q23, .slice none 0 0, .slice none 0 0, .slice none 0 0] = Y := ⟨_, rfl⟩
          rw [hY]
          have HPb : Hid (Bk Y p 44 [.int .i64 q0, .int .i64 q1, .int .i64 q2, .int .i64 q3, .int .i64 q4, .int .i64 q5, .int .i64 q6, .int .i64 q7, .int .i64 q8, .int .i64 q9, .int .i64 q10, .int .i64 q11, .int .i64 q12, .int .i64 q13, .int .i64 q14, .int .i64 q15, .string q16, .string q17, .int .i64 q18, .int .i64 q19, .int .i64 q20, .int .i64 q21, .slice au du cu, .int .i64 q23, .slice none 0 0, .slice none 0 0, .slice none 0 0]) := Lib.hid (by rw [← hY, ← hp]; exact HS.out)
          have hwy : Below w7.heap.size w7 Y := by rw [← hY]; exact below_setRow ((Below.refl _ _).alloc (Nat.le_refl _) _) (Nat.le_refl _) _
          have HL6 := Lib.hid (HL2.out.below hwy)
          have HX' := Lib.hid (HX.out.trans (hwy.mono HX.out.size))
          simp only [hp]
          clear hY HZ HS HL2 HX hwy
          have HX := HX'
          clear HX' hp
          refine (phase_any HL6.out).mono ?_
          rintro e _ ⟨rfl, rfl⟩
          clear HPb HA
          obtain ⟨ph, hph⟩ : ∃ ph, M1.ph = ph := ⟨_, rfl⟩
          rw [hph]
          clear hph
          by_cases h4 : ph = 4
          · have h4d : decide (ph = 4) = true := decide_eq_true h4
            have h4e : (ph == 4) = true := by simp [h4]
            go_wp2_with fail
            go_roundw
            case rel => exact ⟨k + 1, _, M1, by omega, rfl, by go_num, HI1, HL6, HX⟩
            case measure => simp [intOf]; omega
          · have h4d : decide (ph = 4) = false := decide_eq_false h4
            have h4e : (ph == 4) = false := by simp [h4]
            go_wp2_with fail
            go_roundw
            case rel => exact ⟨k + 1, _, M1, by omega, rfl, by go_num, HI1, HL6, HX⟩
            case measure => simp [intOf]; omega
        | false =>
          have hq4 : (kd == 4) = false := ht2
          have hq5 : decide (kd = 4) = false := hkq.trans ht2
          have hq6 : ¬ kd = 4 := by simpa using ht2
          clear ht2 hkq
          go_wp2_with (first | refine wpList_load_mid rfl _ _ rfl g2 (off + k * 27) rfl _ _ HRGh.out Try.underlying44 rfl Hinf.out ?_ | fail)
          refine HHr.out.mono ?_
          rintro e w6 ⟨M1, hi, he, hl, hb, -⟩
          rw [he.out]
          have HI1 := Lib.hid hi
          have HL1 := Lib.hid hl
          have HX' := Lib.hid (HX.out.trans (hb.mono hXB))
          clear hi he hl hb HX HL HI HHr z0 hgr HRGh Hinf
          have HX := HX'
          clear HX'
          go_wp2_with fail
          refine (linv_ask HL1.out HI1.out).mono ?_
          rintro e w7 ⟨u, he, ho, hb⟩
          rw [he.out]
          obtain ⟨au, cu, eu⟩ := ho.slice
          obtain ⟨A, hA⟩ : ∃ A, askL M1 = A := ⟨_, rfl⟩
          have hA' := hA
          rw [hA'] at eu ⊢
          obtain ⟨du, hdu⟩ : ∃ d, A.ins.at'.2.length = d := ⟨_, rfl⟩
          rw [hdu] at eu
          subst eu
          have HL2 := Lib.hid (HL1.out.below hb)
          have HA := Lib.hid hA
          clear hdu hA hA' he ho HL1
          have HX' := Lib.hid (HX.out.trans (hb.mono HX.out.size))
          clear hb HX
          have HX := HX'
          clear HX'
          obtain ⟨q0, q1, q2, ⟨q3, q4, q5⟩, ⟨q6, q7⟩, ⟨q8, ⟨q9, q10⟩, ⟨q11, q12⟩, ⟨q13, q14, q15, q16, q17, q18, q19, q20⟩, q21, qd⟩, ⟨⟨q23, qs1⟩, qs2⟩⟩ := A
          simp only [msE, inE, snV, List.cons_append, List.nil_append]
          by_cases h4 : M1.ph = 4
          · have h4d : decide (M1.ph = 4) = true := decide_eq_true h4
            have h4e : (M1.ph == 4) = true := by simp [h4]
            have HZ := Lib.hid (Bk.new w7 44 [.int .i64 0, .int .i64 0, .int .i64 0, .int .i64 0, .int .i64 0, .int .i64 0, .int .i64 0, .int .i64 0, .int .i64 0, .int .i64 0, .int .i64 0, .int .i64 0, .int .i64 0, .int .i64 0, .int .i64 0, .int .i64 0, .string ⟨#[]⟩, .string ⟨#[]⟩, .int .i64 0, .int .i64 0, .int .i64 0, .int .i64 0, .slice none 0 0, .int .i64 0, .slice none 0 0, .slice none 0 0, .slice none 0 0])
            have HS := Lib.hid (bk_setRow (ds := [.int .i64 q0, .int .i64 q1, .int .i64 q2, .int .i64 q3, .int .i64 q4, .int .i64 q5, .int .i64 q6, .int .i64 q7, .int .i64 q8, .int .i64 q9, .int .i64 q10, .int .i64 q11, .int .i64 q12, .int .i64 q13, .int .i64 q14, .int .i64 q15, .string q16, .string q17, .int .i64 q18, .int .i64 q19, .int .i64 q20, .int .i64 q21, .slice au du cu, .int .i64 q23, .slice none 0 0, .slice none 0 0, .slice none 0 0]) HZ.out)
            go_wp2_with (first
              | refine _root_.Go.wpList_store_row rfl _ _ _ rfl w7.heap.size #[.int .i64 q0, .int .i64 q1, .int .i64 q2, .int .i64 q3, .int .i64 q4, .int .i64 q5, .int .i64 q6, .int .i64 q7, .int .i64 q8, .int .i64 q9, .int .i64 q10, .int .i64 q11, .int .i64 q12, .int .i64 q13, .int .i64 q14, .int .i64 q15, .string q16, .string q17, .int .i64 q18, .int .i64 q19, .int .i64 q20, .int .i64 q21, .slice au du cu, .int .i64 q23, .slice none 0 0, .slice none 0 0, .slice none 0 0] rfl rfl 44 _ HZ.out infoMs rfl (all_toL (l := [.int .i64 q0, .int .i64 q1, .int .i64 q2, .int .i64 q3, .int .i64 q4, .int .i64 q5, .int .i64 q6, .int .i64 q7, .int .i64 q8, .int .i64 q9, .int .i64 q10, .int .i64 q11, .int .i64 q12, .int .i64 q13, .int .i64 q14, .int .i64 q15, .string q16, .string q17, .int .i64 q18, .int .i64 q19, .int .i64 q20, .int .i64 q21, .slice au du cu, .int .i64 q23, .slice none 0 0, .slice none 0 0, .slice none 0 0]) rfl) ?_
              | fail)
            obtain ⟨p, hp⟩ : ∃ p, w7.heap.size = p := ⟨_, rfl⟩
            obtain ⟨Y, hY⟩ : ∃ Y, (w7.alloc (.cells #[.int .i64 0, .int .i64 0, .int .i64 0, .int .i64 0, .int .i64 0, .int .i64 0, .int .i64 0, .int .i64 0, .int .i64 0, .int .i64 0, .int .i64 0, .int .i64 0, .int .i64 0, .int .i64 0, .int .i64 0, .int .i64 0, .string ⟨#[]⟩, .string ⟨#[]⟩, .int .i64 0, .int .i64 0, .int .i64 0, .int .i64 0, .slice none 0 0, .int .i64 0, .slice none 0 0, .slice none 0 0, .slice none 0 0] 44)).setRow w7.heap.size #[.int .i64 q0, .int .i64 q1, .int .i64 q2, .int .i64 q3, .int .i64 q4, .int .i64 q5, .int .i64 q6, .int .i64 q7, .int .i64 q8, .int .i64 q9, .int .i64 q10, .int .i64 q11, .int .i64 q12, .int .i64 q13, .int .i64 q14, .int .i64 q15, .string q16, .string q17, .int .i64 q18, .int .i64 q19, .int .i64 q20, .int .i64 q21, .slice au du cu, .int .i64 q23, .slice none 0 0, .slice none 0 0, .slice none 0 0] = Y := ⟨_, rfl⟩
            rw [hY]
            have HPb : Hid (Bk Y p 44 [.int .i64 q0, .int .i64 q1, .int .i64 q2, .int .i64 q3, .int .i64 q4, .int .i64 q5, .int .i64 q6, .int .i64 q7, .int .i64 q8, .int .i64 q9, .int .i64 q10, .int .i64 q11, .int .i64 q12, .int .i64 q13, .int .i64 q14, .int .i64 q15, .string q16, .string q17, .int .i64 q18, .int .i64 q19, .int .i64 q20, .int .i64 q21, .slice au du cu, .int .i64 q23, .slice none 0 0, .slice none 0 0, .slice none 0 0]) := Lib.hid (by rw [← hY, ← hp]; exact HS.out)
            have hwy : Below w7.heap.size w7 Y := by rw [← hY]; exact below_setRow ((Below.refl _ _).alloc (Nat.le_refl _) _) (Nat.le_refl _) _
            have HL6 := Lib.hid (HL2.out.below hwy)
            have HX' := Lib.hid (HX.out.trans (hwy.mono HX.out.size))
            simp only [hp]
            clear hY HZ HS HL2 HX hwy
            have HX := HX'
            clear HX' hp
            refine (phase_any HL6.out).mono ?_
            rintro e _ ⟨rfl, rfl⟩
            clear HPb HA
            go_wp2_with fail
            go_roundw
            case rel => exact ⟨k + 1, _, M1, by omega, rfl, by go_num, HI1, HL6, HX⟩
            case measure => simp [intOf]; omega
          obtain ⟨e1, e2, e3, e4, e5⟩ := linv_what HI1.out h4
          rw [HA.out] at e1 e2 e3 e4
          simp only [CM.mk.injEq, Prod.mk.injEq] at e1 e2 e3 e4
          obtain ⟨rfl, rfl, rfl, rfl, rfl, rfl, rfl, rfl⟩ := e1
          obtain ⟨rfl, rfl, rfl⟩ := e2
          obtain ⟨rfl, rfl⟩ := e3
          subst e4
          have h4d : decide (M1.ph = 4) = false := decide_eq_false h4
          have h4e : (M1.ph == 4) = false := by simp [h4]
          have h2d : decide (M1.ph = 2) = false := decide_eq_false e5
          have h2e : (M1.ph == 2) = false := by simp [e5]
          clear HA
          have HZ := Lib.hid (Bk.new w7 44 [.int .i64 0, .int .i64 0, .int .i64 0, .int .i64 0, .int .i64 0, .int .i64 0, .int .i64 0, .int .i64 0, .int .i64 0, .int .i64 0, .int .i64 0, .int .i64 0, .int .i64 0, .int .i64 0, .int .i64 0, .int .i64 0, .string ⟨#[]⟩, .string ⟨#[]⟩, .int .i64 0, .int .i64 0, .int .i64 0, .int .i64 0, .slice none 0 0, .int .i64 0, .slice none 0 0, .slice none 0 0, .slice none 0 0])
          have HS := Lib.hid (bk_setRow (ds := [.int .i64 q0, .int .i64 n1, .int .i64 q2, .int .i64 n3, .int .i64 n4, .int .i64 n5, .int .i64 0, .int .i64 n4, .int .i64 q8, .int .i64 q9, .int .i64 q10, .int .i64 q11, .int .i64 q12, .int .i64 n13, .int .i64 n14, .int .i64 n15, .string n16, .string n17, .int .i64 n18, .int .i64 n19, .int .i64 n20, .int .i64 q21, .slice au du cu, .int .i64 q23, .slice none 0 0, .slice none 0 0, .slice none 0 0]) HZ.out)
          go_wp2_with (first
            | refine _root_.Go.wpList_store_row rfl _ _ _ rfl w7.heap.size #[.int .i64 q0, .int .i64 n1, .int .i64 q2, .int .i64 n3, .int .i64 n4, .int .i64 n5, .int .i64 0, .int .i64 n4, .int .i64 q8, .int .i64 q9, .int .i64 q10, .int .i64 q11, .int .i64 q12, .int .i64 n13, .int .i64 n14, .int .i64 n15, .string n16, .string n17, .int .i64 n18, .int .i64 n19, .int .i64 n20, .int .i64 q21, .slice au du cu, .int .i64 q23, .slice none 0 0, .slice none 0 0, .slice none 0 0] rfl rfl 44 _ HZ.out infoMs rfl (all_toL (l := [.int .i64 q0, .int .i64 n1, .int .i64 q2, .int .i64 n3, .int .i64 n4, .int .i64 n5, .int .i64 0, .int .i64 n4, .int .i64 q8, .int .i64 q9, .int .i64 q10, .int .i64 q11, .int .i64 q12, .int .i64 n13, .int .i64 n14, .int .i64 n15, .string n16, .string n17, .int .i64 n18, .int .i64 n19, .int .i64 n20, .int .i64 q21, .slice au du cu, .int .i64 q23, .slice none 0 0, .slice none 0 0, .slice none 0 0]) rfl) ?_
            | fail)
          obtain ⟨p, hp⟩ : ∃ p, w7.heap.size = p := ⟨_, rfl⟩
          obtain ⟨Y, hY⟩ : ∃ Y, (w7.alloc (.cells #[.int .i64 0, .int .i64 0, .int .i64 0, .int .i64 0, .int .i64 0, .int .i64 0, .int .i64 0, .int .i64 0, .int .i64 0, .int .i64 0, .int .i64 0, .int .i64 0, .int .i64 0, .int .i64 0, .int .i64 0, .int .i64 0, .string ⟨#[]⟩, .string ⟨#[]⟩, .int .i64 0, .int .i64 0, .int .i64 0, .int .i64 0, .slice none 0 0, .int .i64 0, .slice none 0 0, .slice none 0 0, .slice none 0 0] 44)).setRow w7.heap.size #[.int .i64 q0, .int .i64 n1, .int .i64 q2, .int .i64 n3, .int .i64 n4, .int .i64 n5, .int .i64 0, .int .i64 n4, .int .i64 q8, .int .i64 q9, .int .i64 q10, .int .i64 q11, .int .i64 q12, .int .i64 n13, .int .i64 n14, .int .i64 n15, .string n16, .string n17, .int .i64 n18, .int .i64 n19, .int .i64 n20, .int .i64 q21, .slice au du cu, .int .i64 q23, .slice none 0 0, .slice none 0 0, .slice none 0 0] = Y := ⟨_, rfl⟩
          rw [hY]
          have HPb : Hid (Bk Y p 44 [.int .i64 q0, .int .i64 n1, .int .i64 q2, .int .i64 n3, .int .i64 n4, .int .i64 n5, .int .i64 0, .int .i64 n4, .int .i64 q8, .int .i64 q9, .int .i64 q10, .int .i64 q11, .int .i64 q12, .int .i64 n13, .int .i64 n14, .int .i64 n15, .string n16, .string n17, .int .i64 n18, .int .i64 n19, .int .i64 n20, .int .i64 q21, .slice au du cu, .int .i64 q23, .slice none 0 0, .slice none 0 0, .slice none 0 0]) := Lib.hid (by rw [← hY, ← hp]; exact HS.out)
          have hwy : Below w7.heap.size w7 Y := by rw [← hY]; exact below_setRow ((Below.refl _ _).alloc (Nat.le_refl _) _) (Nat.le_refl _) _
          have HL6 := Lib.hid (HL2.out.below hwy)
          have HX' := Lib.hid (HX.out.trans (hwy.mono HX.out.size))
          simp only [hp]
          clear hY HZ HS HL2 HX hwy
          have HX := HX'
          clear HX' hp
          refine (phase_any HL6.out).mono ?_
          rintro e _ ⟨rfl, rfl⟩
          obtain ⟨ec1, ec2, ec3⟩ := eqC_self n13 n14 n15 n16 n17 n18 n19 n20
          have ei2 := (neI_run n3 n4 n5 n3 n4 n5).2
          have ei1 : ∀ w, Sem.run Try.prog (binOp .neq 27 (.agg #[.int .i64 n3, .int .i64 n4, .int .i64 n5]) (.agg #[.int .i64 n3, .int .i64 n4, .int .i64 n5])) w = .ok (.bool false) w := fun w => by
            have h := (neI_run n3 n4 n5 n3 n4 n5).1 w
            rw [decide_eq_true rfl] at h
            exact h
          have eb2 := (neB_run 0 n4 0 n4).2
          have eb1 : ∀ w, Sem.run Try.prog (binOp .neq 29 (.agg #[.int .i64 0, .int .i64 n4]) (.agg #[.int .i64 0, .int .i64 n4])) w = .ok (.bool false) w := fun w => by
            have h := (neB_run 0 n4 0 n4).1 w
            rw [decide_eq_true rfl] at h
            exact h
          have en1 : (n1 != n1) = false := by simp
          have HC : Hid (∀ w' : World, Below Y.heap.size Y w' → Below Y.heap.size Y w' ∧ w'.cell? ⟨p, 1, none⟩ = some (.int .i64 n1) ∧ w'.cell? ⟨p, 3, none⟩ = some (.int .i64 n3) ∧ w'.cell? ⟨p, 4, none⟩ = some (.int .i64 n4) ∧ w'.cell? ⟨p, 5, none⟩ = some (.int .i64 n5) ∧ w'.cell? ⟨p, 6, none⟩ = some (.int .i64 0) ∧ w'.cell? ⟨p, 7, none⟩ = some (.int .i64 n4) ∧ w'.cell? ⟨p, 13, none⟩ = some (.int .i64 n13) ∧ w'.cell? ⟨p, 14, none⟩ = some (.int .i64 n14) ∧ w'.cell? ⟨p, 15, none⟩ = some (.int .i64 n15) ∧ w'.cell? ⟨p, 16, none⟩ = some (.string n16) ∧ w'.cell? ⟨p, 17, none⟩ = some (.string n17) ∧ w'.cell? ⟨p, 18, none⟩ = some (.int .i64 n18) ∧ w'.cell? ⟨p, 19, none⟩ = some (.int .i64 n19) ∧ w'.cell? ⟨p, 20, none⟩ = some (.int .i64 n20) ∧ w'.cell? ⟨W.heap.size + 1, 1, none⟩ = some (.int .i64 n1) ∧ w'.cell? ⟨W.heap.size + 1, 3, none⟩ = some (.int .i64 n3) ∧ w'.cell? ⟨W.heap.size + 1, 4, none⟩ = some (.int .i64 n4) ∧ w'.cell? ⟨W.heap.size + 1, 5, none⟩ = some (.int .i64 n5) ∧ w'.cell? ⟨W.heap.size + 1, 13, none⟩ = some (.int .i64 n13) ∧ w'.cell? ⟨W.heap.size + 1, 14, none⟩ = some (.int .i64 n14) ∧ w'.cell? ⟨W.heap.size + 1, 15, none⟩ = some (.int .i64 n15) ∧ w'.cell? ⟨W.heap.size + 1, 16, none⟩ = some (.string n16) ∧ w'.cell? ⟨W.heap.size + 1, 17, none⟩ = some (.string n17) ∧ w'.cell? ⟨W.heap.size + 1, 18, none⟩ = some (.int .i64 n18) ∧ w'.cell? ⟨W.heap.size + 1, 19, none⟩ = some (.int .i64 n19) ∧ w'.cell? ⟨W.heap.size + 1, 20, none⟩ = some (.int .i64 n20)) := Lib.hid fun w' hb => by
            have q1 := HPb.out.below hb
            have q2 := HM0.out.below (HX.out.trans (hb.mono HX.out.size))
            exact ⟨hb, q1.cell 1, q1.cell 3, q1.cell 4, q1.cell 5, q1.cell 6, q1.cell 7, q1.cell 13, q1.cell 14, q1.cell 15, q1.cell 16, q1.cell 17, q1.cell 18, q1.cell 19, q1.cell 20, q2.cell 1, q2.cell 3, q2.cell 4, q2.cell 5, q2.cell 13, q2.cell 14, q2.cell 15, q2.cell 16, q2.cell 17, q2.cell 18, q2.cell 19, q2.cell 20⟩
          clear HPb
          go_wp2_with fail
          refine wp_region_held_drew (S := (fun w' => Below Y.heap.size Y w' ∧ w'.cell? ⟨p, 1, none⟩ = some (.int .i64 n1) ∧ w'.cell? ⟨p, 3, none⟩ = some (.int .i64 n3) ∧ w'.cell? ⟨p, 4, none⟩ = some (.int .i64 n4) ∧ w'.cell? ⟨p, 5, none⟩ = some (.int .i64 n5) ∧ w'.cell? ⟨p, 6, none⟩ = some (.int .i64 0) ∧ w'.cell? ⟨p, 7, none⟩ = some (.int .i64 n4) ∧ w'.cell? ⟨p, 13, none⟩ = some (.int .i64 n13) ∧ w'.cell? ⟨p, 14, none⟩ = some (.int .i64 n14) ∧ w'.cell? ⟨p, 15, none⟩ = some (.int .i64 n15) ∧ w'.cell? ⟨p, 16, none⟩ = some (.string n16) ∧ w'.cell? ⟨p, 17, none⟩ = some (.string n17) ∧ w'.cell? ⟨p, 18, none⟩ = some (.int .i64 n18) ∧ w'.cell? ⟨p, 19, none⟩ = some (.int .i64 n19) ∧ w'.cell? ⟨p, 20, none⟩ = some (.int .i64 n20) ∧ w'.cell? ⟨W.heap.size + 1, 1, none⟩ = some (.int .i64 n1) ∧ w'.cell? ⟨W.heap.size + 1, 3, none⟩ = some (.int .i64 n3) ∧ w'.cell? ⟨W.heap.size + 1, 4, none⟩ = some (.int .i64 n4) ∧ w'.cell? ⟨W.heap.size + 1, 5, none⟩ = some (.int .i64 n5) ∧ w'.cell? ⟨W.heap.size + 1, 13, none⟩ = some (.int .i64 n13) ∧ w'.cell? ⟨W.heap.size + 1, 14, none⟩ = some (.int .i64 n14) ∧ w'.cell? ⟨W.heap.size + 1, 15, none⟩ = some (.int .i64 n15) ∧ w'.cell? ⟨W.heap.size + 1, 16, none⟩ = some (.string n16) ∧ w'.cell? ⟨W.heap.size + 1, 17, none⟩ = some (.string n17) ∧ w'.cell? ⟨W.heap.size + 1, 18, none⟩ = some (.int .i64 n18) ∧ w'.cell? ⟨W.heap.size + 1, 19, none⟩ = some (.int .i64 n19) ∧ w'.cell? ⟨W.heap.size + 1, 20, none⟩ = some (.int .i64 n20))) (by kernel_rfl) ?_ (fun hHeld => ?_)
          · (first
            | exact HC.out _ hs7
            | exact HC.out _ (Below.refl _ _).drew
            | exact HC.out _ (Below.refl _ _)
            | fail)
          refine wpAnyH_take (i := 0) (v := ?_) rfl (by kernel_rfl) (by kernel_rfl) (by kernel_rfl) (fun _ _ _ h => h) (Or.inl ⟨by rfl, ?_⟩) (by assumption) ?_
          rotate_left
          · (intro w hSw; (try dsimp only at hSw); go_simp; try rfl)
          try simp only [Act.put, List.setIfInBounds_toArray, List.set_cons_zero, List.set_cons_succ, List.getElem_toArray, List.getElem_cons_zero, List.getElem_cons_succ]
          refine wpAnyH_take (i := 1) (v := ?_) rfl (by kernel_rfl) (by kernel_rfl) (by kernel_rfl) (fun _ _ _ h => h) (Or.inl ⟨by rfl, ?_⟩) (by assumption) ?_
          rotate_left
          · (intro w hSw; (try dsimp only at hSw); go_simp; try rfl)
          try simp only [Act.put, List.setIfInBounds_toArray, List.set_cons_zero, List.set_cons_succ, List.getElem_toArray, List.getElem_cons_zero, List.getElem_cons_succ]
          refine wpAnyH_take (i := 2) (v := ?_) rfl (by kernel_rfl) (by kernel_rfl) (by kernel_rfl) (fun _ _ _ h => h) (Or.inl ⟨by rfl, ?_⟩) (by assumption) ?_
          rotate_left
          · (intro w hSw; (try dsimp only at hSw); go_simp; try rfl)
          try simp only [Act.put, List.setIfInBounds_toArray, List.set_cons_zero, List.set_cons_succ, List.getElem_toArray, List.getElem_cons_zero, List.getElem_cons_succ]
          refine wpAnyH_take (i := 3) (v := ?_) rfl (by kernel_rfl) (by kernel_rfl) (by kernel_rfl) (fun _ _ _ h => h) (Or.inl ⟨by rfl, ?_⟩) (by assumption) ?_
          rotate_left
          · (intro w hSw; (try dsimp only at hSw); go_simp; try rfl)
          try simp only [Act.put, List.setIfInBounds_toArray, List.set_cons_zero, List.set_cons_succ, List.getElem_toArray, List.getElem_cons_zero, List.getElem_cons_succ]
          refine wpAnyH_take (i := 4) (v := ?_) rfl (by kernel_rfl) (by kernel_rfl) (by kernel_rfl) (fun _ _ _ h => h) (Or.inl ⟨by rfl, ?_⟩) (by assumption) ?_
          rotate_left
          · (intro w hSw; (try dsimp only at hSw); go_simp; try rfl)
          try simp only [Act.put, List.setIfInBounds_toArray, List.set_cons_zero, List.set_cons_succ, List.getElem_toArray, List.getElem_cons_zero, List.getElem_cons_succ]
          refine wpAnyH_take (i := 5) (v := ?_) rfl (by kernel_rfl) (by kernel_rfl) (by kernel_rfl) (fun _ _ _ h => h) (Or.inl ⟨by rfl, ?_⟩) (by assumption) ?_
          rotate_left
          · (intro w hSw; (try dsimp only at hSw); go_simp; try rfl)
          try simp only [Act.put, List.setIfInBounds_toArray, List.set_cons_zero, List.set_cons_succ, List.getElem_toArray, List.getElem_cons_zero, List.getElem_cons_succ]
          refine wpAnyH_take (i := 6) (v := ?_) rfl (by kernel_rfl) (by kernel_rfl) (by kernel_rfl) (fun _ _ _ h => h) (Or.inl ⟨by rfl, ?_⟩) (by assumption) ?_
          rotate_left
          · (intro w hSw; (try dsimp only at hSw); go_simp; try rfl)
          try simp only [Act.put, List.setIfInBounds_toArray, List.set_cons_zero, List.set_cons_succ, List.getElem_toArray, List.getElem_cons_zero, List.getElem_cons_succ]
          refine wpAnyH_take (i := 7) (v := ?_) rfl (by kernel_rfl) (by kernel_rfl) (by kernel_rfl) (fun _ _ _ h => h) (Or.inl ⟨by rfl, ?_⟩) (by assumption) ?_
          rotate_left
          · (intro w hSw; (try dsimp only at hSw); go_simp; try rfl)
          try simp only [Act.put, List.setIfInBounds_toArray, List.set_cons_zero, List.set_cons_succ, List.getElem_toArray, List.getElem_cons_zero, List.getElem_cons_succ]
          refine wpAnyH_take (i := 8) (v := ?_) rfl (by kernel_rfl) (by kernel_rfl) (by kernel_rfl) (fun _ _ _ h => h) (Or.inl ⟨by rfl, ?_⟩) (by assumption) ?_
          rotate_left
          · (intro w hSw; (try dsimp only at hSw); go_simp; try rfl)
          try simp only [Act.put, List.setIfInBounds_toArray, List.set_cons_zero, List.set_cons_succ, List.getElem_toArray, List.getElem_cons_zero, List.getElem_cons_succ]
          refine wpAnyH_take (i := 9) (v := ?_) rfl (by kernel_rfl) (by kernel_rfl) (by kernel_rfl) (fun _ _ _ h => h) (Or.inl ⟨by rfl, ?_⟩) (by assumption) ?_
          rotate_left
          · (intro w hSw; (try dsimp only at hSw); go_simp; try rfl)
          try simp only [Act.put, List.setIfInBounds_toArray, List.set_cons_zero, List.set_cons_succ, List.getElem_toArray, List.getElem_cons_zero, List.getElem_cons_succ]
          refine wpAnyH_take (i := 10) (v := ?_) rfl (by kernel_rfl) (by kernel_rfl) (by kernel_rfl) (fun _ _ _ h => h) (Or.inl ⟨by rfl, ?_⟩) (by assumption) ?_
          rotate_left
          · (intro w hSw; (try dsimp only at hSw); go_simp; try rfl)
          try simp only [Act.put, List.setIfInBounds_toArray, List.set_cons_zero, List.set_cons_succ, List.getElem_toArray, List.getElem_cons_zero, List.getElem_cons_succ]
          refine wpAnyH_take (i := 11) (v := ?_) rfl (by kernel_rfl) (by kernel_rfl) (by kernel_rfl) (fun _ _ _ h => h) (Or.inl ⟨by rfl, ?_⟩) (by assumption) ?_
          rotate_left
          · (intro w hSw; (try dsimp only at hSw); go_simp; try rfl)
          try simp only [Act.put, List.setIfInBounds_toArray, List.set_cons_zero, List.set_cons_succ, List.getElem_toArray, List.getElem_cons_zero, List.getElem_cons_succ]
          refine wpAnyH_take (i := 12) (v := ?_) rfl (by kernel_rfl) (by kernel_rfl) (by kernel_rfl) (fun _ _ _ h => h) (Or.inl ⟨by rfl, ?_⟩) (by assumption) ?_
          rotate_left
          · (intro w hSw; (try dsimp only at hSw); go_simp; try rfl)
          try simp only [Act.put, List.setIfInBounds_toArray, List.set_cons_zero, List.set_cons_succ, List.getElem_toArray, List.getElem_cons_zero, List.getElem_cons_succ]
          refine wpAnyH_take (i := 13) (v := ?_) rfl (by kernel_rfl) (by kernel_rfl) (by kernel_rfl) (fun _ _ _ h => h) (Or.inl ⟨by rfl, ?_⟩) (by assumption) ?_
          rotate_left
          · (intro w hSw; (try dsimp only at hSw); go_simp; try rfl)
          try simp only [Act.put, List.setIfInBounds_toArray, List.set_cons_zero, List.set_cons_succ, List.getElem_toArray, List.getElem_cons_zero, List.getElem_cons_succ]
          refine wpAnyH_take (i := 14) (v := ?_) rfl (by kernel_rfl) (by kernel_rfl) (by kernel_rfl) (fun _ _ _ h => h) (Or.inl ⟨by rfl, ?_⟩) (by assumption) ?_
          rotate_left
          · (intro w hSw; (try dsimp only at hSw); go_simp; try rfl)
          try simp only [Act.put, List.setIfInBounds_toArray, List.set_cons_zero, List.set_cons_succ, List.getElem_toArray, List.getElem_cons_zero, List.getElem_cons_succ]
          refine wpAnyH_take (i := 15) (v := ?_) rfl (by kernel_rfl) (by kernel_rfl) (by kernel_rfl) (fun _ _ _ h => h) (Or.inl ⟨by rfl, ?_⟩) (by assumption) ?_
          rotate_left
          · (intro w hSw; (try dsimp only at hSw); go_simp; try rfl)
          try simp only [Act.put, List.setIfInBounds_toArray, List.set_cons_zero, List.set_cons_succ, List.getElem_toArray, List.getElem_cons_zero, List.getElem_cons_succ]
          refine wpAnyH_take (i := 16) (v := ?_) rfl (by kernel_rfl) (by kernel_rfl) (by kernel_rfl) (fun _ _ _ h => h) (Or.inl ⟨by rfl, ?_⟩) (by assumption) ?_
          rotate_left
          · (intro w hSw; (try dsimp only at hSw); go_simp; try rfl)
          try simp only [Act.put, List.setIfInBounds_toArray, List.set_cons_zero, List.set_cons_succ, List.getElem_toArray, List.getElem_cons_zero, List.getElem_cons_succ]
          refine wpAnyH_take (i := 17) (v := ?_) rfl (by kernel_rfl) (by kernel_rfl) (by kernel_rfl) (fun _ _ _ h => h) (Or.inl ⟨by rfl, ?_⟩) (by assumption) ?_
          rotate_left
          · (intro w hSw; (try dsimp only at hSw); go_simp; try rfl)
          try simp only [Act.put, List.setIfInBounds_toArray, List.set_cons_zero, List.set_cons_succ, List.getElem_toArray, List.getElem_cons_zero, List.getElem_cons_succ]
          refine wpAnyH_take (i := 18) (v := ?_) rfl (by kernel_rfl) (by kernel_rfl) (by kernel_rfl) (fun _ _ _ h => h) (Or.inl ⟨by rfl, ?_⟩) (by assumption) ?_
          rotate_left
          · (intro w hSw; (try dsimp only at hSw); go_simp; try rfl)
          try simp only [Act.put, List.setIfInBounds_toArray, List.set_cons_zero, List.set_cons_succ, List.getElem_toArray, List.getElem_cons_zero, List.getElem_cons_succ]
          refine wpAnyH_ready (rs := [19]) (by kernel_rfl) (by simp) ?_
          refine (AllReadyH.cons rfl (fun K hK => ?_) AllReadyH.nil)
          go_simp
          (go_at_call 26; refine (Bb.first_any n3 n4 n5 _).mono ?_; rintro e w7 ⟨rfl, hb7⟩; have hs7 : Below Y.heap.size Y w7 := below_self hHeld.1 hb7)
          refine hK.out _ _ ?_ (fun hHeld => ?_)
          · (first
            | exact HC.out _ hs7
            | exact HC.out _ (Below.refl _ _).drew
            | exact HC.out _ (Below.refl _ _)
            | fail)
          clear hK K
          try simp only [Act.put, List.setIfInBounds_toArray, List.set_cons_zero, List.set_cons_succ, List.getElem_toArray, List.getElem_cons_zero, List.getElem_cons_succ]
          refine wpAnyH_take (i := 20) (v := ?_) rfl (by kernel_rfl) (by kernel_rfl) (by kernel_rfl) (fun _ _ _ h => h) (Or.inl ⟨by rfl, ?_⟩) (by assumption) ?_
          rotate_left
          · (intro w hSw; (try dsimp only at hSw); go_simp; try rfl)
          try simp only [Act.put, List.setIfInBounds_toArray, List.set_cons_zero, List.set_cons_succ, List.getElem_toArray, List.getElem_cons_zero, List.getElem_cons_succ]
          refine wpAnyH_take (i := 21) (v := ?_) rfl (by kernel_rfl) (by kernel_rfl) (by kernel_rfl) (fun _ _ _ h => h) (Or.inl ⟨by rfl, ?_⟩) (by assumption) ?_
          rotate_left
          · (intro w hSw; (try dsimp only at hSw); go_simp; try rfl)
          try simp only [Act.put, List.setIfInBounds_toArray, List.set_cons_zero, List.set_cons_succ, List.getElem_toArray, List.getElem_cons_zero, List.getElem_cons_succ]
          refine wpAnyH_take (i := 22) (v := ?_) rfl (by kernel_rfl) (by kernel_rfl) (by kernel_rfl) (fun _ _ _ h => h) (Or.inl ⟨by rfl, ?_⟩) (by assumption) ?_
          rotate_left
          · (intro w hSw; (try dsimp only at hSw); go_simp; try rfl)
          try simp only [Act.put, List.setIfInBounds_toArray, List.set_cons_zero, List.set_cons_succ, List.getElem_toArray, List.getElem_cons_zero, List.getElem_cons_succ]
          refine wpAnyH_take (i := 23) (v := ?_) rfl (by kernel_rfl) (by kernel_rfl) (by kernel_rfl) (fun _ _ _ h => h) (Or.inl ⟨by rfl, ?_⟩) (by assumption) ?_
          rotate_left
          · (intro w hSw; (try dsimp only at hSw); go_simp; try rfl)
          try simp only [Act.put, List.setIfInBounds_toArray, List.set_cons_zero, List.set_cons_succ, List.getElem_toArray, List.getElem_cons_zero, List.getElem_cons_succ]
          refine wpAnyH_take (i := 24) (v := ?_) rfl (by kernel_rfl) (by kernel_rfl) (by kernel_rfl) (fun _ _ _ h => h) (Or.inl ⟨by rfl, ?_⟩) (by assumption) ?_
          rotate_left
          · (intro w hSw; (try dsimp only at hSw); go_simp; try rfl)
          try simp only [Act.put, List.setIfInBounds_toArray, List.set_cons_zero, List.set_cons_succ, List.getElem_toArray, List.getElem_cons_zero, List.getElem_cons_succ]
          refine wpAnyH_take (i := 25) (v := ?_) rfl (by kernel_rfl) (by kernel_rfl) (by kernel_rfl) (fun _ _ _ h => h) (Or.inl ⟨by rfl, ?_⟩) (by assumption) ?_
          rotate_left
          · (intro w hSw; (try dsimp only at hSw); go_simp; try rfl)
          try simp only [Act.put, List.setIfInBounds_toArray, List.set_cons_zero, List.set_cons_succ, List.getElem_toArray, List.getElem_cons_zero, List.getElem_cons_succ]
          refine wpAnyH_take (i := 26) (v := ?_) rfl (by kernel_rfl) (by kernel_rfl) (by kernel_rfl) (fun _ _ _ h => h) (Or.inl ⟨by rfl, ?_⟩) (by assumption) ?_
          rotate_left
          · (intro w hSw; (try dsimp only at hSw); go_simp; try rfl)
          try simp only [Act.put, List.setIfInBounds_toArray, List.set_cons_zero, List.set_cons_succ, List.getElem_toArray, List.getElem_cons_zero, List.getElem_cons_succ]
          refine wpAnyH_take (i := 27) (v := ?_) rfl (by kernel_rfl) (by kernel_rfl) (by kernel_rfl) (fun _ _ _ h => h) (Or.inl ⟨by rfl, ?_⟩) (by assumption) ?_
          rotate_left
          · (intro w hSw; (try dsimp only at hSw); go_simp; try rfl)
          try simp only [Act.put, List.setIfInBounds_toArray, List.set_cons_zero, List.set_cons_succ, List.getElem_toArray, List.getElem_cons_zero, List.getElem_cons_succ]
          refine wpAnyH_take (i := 28) (v := ?_) rfl (by kernel_rfl) (by kernel_rfl) (by kernel_rfl) (fun _ _ _ h => h) (Or.inl ⟨by rfl, ?_⟩) (by assumption) ?_
          rotate_left
          · (intro w hSw; (try dsimp only at hSw); go_simp; try rfl)
          try simp only [Act.put, List.setIfInBounds_toArray, List.set_cons_zero, List.set_cons_succ, List.getElem_toArray, List.getElem_cons_zero, List.getElem_cons_succ]
          refine wpAnyH_take (i := 29) (v := ?_) rfl (by kernel_rfl) (by kernel_rfl) (by kernel_rfl) (fun _ _ _ h => h) (Or.inl ⟨by rfl, ?_⟩) (by assumption) ?_
          rotate_left
          · (intro w hSw; (try dsimp only at hSw); go_simp; try rfl)
          try simp only [Act.put, List.setIfInBounds_toArray, List.set_cons_zero, List.set_cons_succ, List.getElem_toArray, List.getElem_cons_zero, List.getElem_cons_succ]
          refine wpAnyH_take (i := 30) (v := ?_) rfl (by kernel_rfl) (by kernel_rfl) (by kernel_rfl) (fun _ _ _ h => h) (Or.inl ⟨by rfl, ?_⟩) (by assumption) ?_
          rotate_left
          · (intro w hSw; (try dsimp only at hSw); go_simp; try rfl)
          try simp only [Act.put, List.setIfInBounds_toArray, List.set_cons_zero, List.set_cons_succ, List.getElem_toArray, List.getElem_cons_zero, List.getElem_cons_succ]
          refine wpAnyH_ready (rs := [31]) (by kernel_rfl) (by simp) ?_
          refine (AllReadyH.cons rfl (fun K hK => ?_) AllReadyH.nil)
          go_simp
          (go_at_call 12; refine (phase_any (HL6.out.below hs7)).mono ?_; rintro e _ ⟨rfl, rfl⟩)
          refine hK.out _ _ ?_ (fun hHeld => ?_)
          · (first
            | exact HC.out _ hs7
            | exact HC.out _ (Below.refl _ _).drew
            | exact HC.out _ (Below.refl _ _)
            | fail)
          clear hK K
          try simp only [Act.put, List.setIfInBounds_toArray, List.set_cons_zero, List.set_cons_succ, List.getElem_toArray, List.getElem_cons_zero, List.getElem_cons_succ]
          refine wpAnyH_take (i := 32) (v := ?_) rfl (by kernel_rfl) (by kernel_rfl) (by kernel_rfl) (fun _ _ _ h => h) (Or.inl ⟨by rfl, ?_⟩) (by assumption) ?_
          rotate_left
          · (intro w hSw; (try dsimp only at hSw); go_simp; try rfl)
          try simp only [Act.put, List.setIfInBounds_toArray, List.set_cons_zero, List.set_cons_succ, List.getElem_toArray, List.getElem_cons_zero, List.getElem_cons_succ]
          refine wpAnyH_take (i := 33) (v := ?_) rfl (by kernel_rfl) (by kernel_rfl) (by kernel_rfl) (fun _ _ _ h => h) (Or.inl ⟨by rfl, ?_⟩) (by assumption) ?_
          rotate_left
          · (intro w hSw; (try dsimp only at hSw); go_simp; try rfl)
          try simp only [Act.put, List.setIfInBounds_toArray, List.set_cons_zero, List.set_cons_succ, List.getElem_toArray, List.getElem_cons_zero, List.getElem_cons_succ]
          refine wpAnyH_done (by kernel_rfl) ?_ _
          have HX7 := Lib.hid (HX.out.trans (hs7.mono HX.out.size))
          have HL7 := Lib.hid (HL6.out.below hs7)
          clear hs7 hb7 HC HL6 HX
          go_wp2_with fail
          go_roundw
          case rel => exact ⟨k + 1, _, M1, by omega, rfl, by go_num, HI1, HL7, HX7⟩
          case measure => simp [intOf]; omega
    · have e : k = K := by omega
      subst e
      have hk2 : decide ((k : Int) < (k : Int)) = false := decide_eq_false (by omega)
      have hk3 : decide (k < k) = false := decide_eq_false (by omega)
      go_wp2
      go_ret
      exact ⟨rfl, HW0.out.trans (HX.out.mono HW0.out.size)⟩
end Go.Proofs.Ytplplehfkfjhnaa
namespace Go.Proofs.Ytplplehfkfjhnaa
open Go.ChangeShapes Go.WideShapes Go.ChangeAt Go.RowKit Go.Joins Go.Deep
set_option linter.unusedSimpArgs false
set_option linter.unusedVariables false
set_option maxRecDepth 100000

theorem block_lt_of_cell {w : World} {p : Addr} {v : Value} (h : w.cell? p = some v) (hs : p.spot = none) : p.block < w.heap.size := by
  by_cases g : p.block < w.heap.size
  · exact g
  · exfalso
    have e : w.heap[p.block]? = none := by simp; omega
    simp [World.cell?, hs, e] at h

theorem irow_of_trod {H : Type} {enc : TypeId × Value → H} {w : World} {base m : Nat} {spare : Nat → Bool} {held : Bool} {v : Value} {y : DataW H × List MemPlace}
    (h : DataW.trod enc Try.prog w base spare held m 22 [v] = some y) : ∃ (a : Option Addr) (cap : Nat) (zs : List Int), v = .slice a zs.length cap ∧ zs.length ≤ cap ∧ cap ≤ maxLen ∧ IRow w a zs ∧ (∀ n ∈ zs, (Lit.int .i64 n).wf = true) ∧ (a = none → cap = 0) := by
  rcases open_ints Try.underlying22 Try.underlying3 (by kernel_rfl) h with ⟨hcs, _⟩ | ⟨x, len, cap, zs, hcs, _, hl, hm, hz, _, hcell, hwz⟩
  · simp at hcs
    exact ⟨none, 0, [], hcs, Nat.le_refl _, Nat.zero_le _, ⟨by simp, .inl rfl⟩, by simp, fun _ => rfl⟩
  · simp at hcs
    have hlz : len ≤ zs.length := by rw [hz]; split <;> omega
    have e : (zs.take len).length = len := by simp; omega
    refine ⟨some x, cap, zs.take len, by rw [e]; exact hcs, by rw [e]; exact hl, hm, ⟨by rw [e]; unfold maxLen at hm; omega, ?_⟩, fun n hn => hwz n (List.mem_of_mem_take hn), fun h => by cases h⟩
    by_cases h0 : len = 0
    · left; subst h0; rfl
    · right
      have hc0 := hcell 0 (by omega)
      obtain ⟨b, off, spot⟩ := x
      have hspot : spot = none := by simpa [Addr.add] using World.cell?_spot hc0
      subst hspot
      refine ⟨b, off, rfl, ?_, fun i hi => ?_⟩
      · exact block_lt_of_cell hc0 (by simp [Addr.add])
      · have hi' : i < len := by rw [e] at hi; exact hi
        have := hcell i (by omega)
        rw [show (zs.take len).getD i 0 = zs.getD i 0 from by simp [List.getD, List.getElem?_take, hi']]
        by_cases hi0 : i = 0
        · subst hi0; simpa [Addr.add] using this
        · simpa [Addr.add, hi0] using this
theorem irow_of_arg {H : Type} {enc : TypeId × Value → H} {w : World} {r : Reach} {b0 base : Nat} {spare : Nat → Bool} {held : Bool} {v : Value} {d : DataW H} {p : List MemPlace}
    (hv : Value.okWide Try.prog w r b0 22 v) (h : DataW.Trod enc Try.prog w base spare held 22 v d p) : ∃ (a : Option Addr) (cap : Nat) (zs : List Int), v = .slice a zs.length cap ∧ zs.length ≤ cap ∧ cap ≤ maxLen ∧ IRow w a zs ∧ (∀ n ∈ zs, (Lit.int .i64 n).wf = true) ∧ (a = none → cap = 0) := by
  obtain ⟨a0, len0, cap0, rfl⟩ := okWide_slice Try.underlying22 hv
  obtain ⟨fuel, hf⟩ := h
  exact irow_of_trod (by simpa [Value.cells] using hf)
theorem config_of_arg {H : Type} {enc : TypeId × Value → H} {w : World} {r : Reach} {b0 base : Nat} {spare : Nat → Bool} {held : Bool} {v : Value} {d : DataW H} {p : List MemPlace}
    (hv : Value.okWide Try.prog w r b0 24 v) (h : DataW.Trod enc Try.prog w base spare held 24 v d p) :
    ∃ (ep : Int) (a : Option Addr) (cap : Nat) (zs : List Int), v = .agg #[.int .i64 ep, .slice a zs.length cap] ∧ (Lit.int .i64 ep).wf = true ∧ zs.length ≤ cap ∧ cap ≤ maxLen ∧ IRow w a zs ∧ (∀ n ∈ zs, (Lit.int .i64 n).wf = true) ∧ (a = none → cap = 0) := by
  obtain ⟨c0, c1, y0, y1, m, rfl, _, _, hy0, hy1⟩ := open_agg2 Try.underlying24 (by kernel_rfl) (by kernel_rfl) hv h
  obtain ⟨ep, e0, _, we⟩ := DataW.trod_int Try.underlying3 hy0
  obtain ⟨a, cap, zs, hzs, r1, r2, r3, r4⟩ := irow_of_trod hy1
  simp at e0
  subst e0 hzs
  exact ⟨ep, a, cap, zs, rfl, we, r1, r2, r3, r4⟩
/-- A configuration that came in. -/
theorem cfg_of_arg {H : Type} {enc : TypeId × Value → H} {w : World} {r : Reach} {b0 base : Nat} {spare : Nat → Bool} {held : Bool} {v : Value} {d : DataW H} {p : List MemPlace}
    (hv : Value.okWide Try.prog w r b0 24 v) (h : DataW.Trod enc Try.prog w base spare held 24 v d p) :
    ∃ (ep : Int) (a : Option Addr) (cap : Nat) (zs : List Int), v = .agg #[.int .i64 ep, .slice a zs.length cap] ∧ (Lit.int .i64 ep).wf = true ∧ It w (.slice a zs.length cap) zs := by
  obtain ⟨ep, a, cap, zs, h1, h2, h3, h4, h5, _, h7⟩ := config_of_arg hv h
  exact ⟨ep, a, cap, zs, h1, h2, ⟨a, cap, rfl, h5, h7, h3, by unfold maxLen at h4; omega⟩⟩
theorem array8 {α : Type} {cs : Array α} (h : cs.size = 8) : ∃ c0 c1 c2 c3 c4 c5 c6 c7, cs = #[c0, c1, c2, c3, c4, c5, c6, c7] := by
  obtain ⟨l⟩ := cs
  match l, h with
  | [c0, c1, c2, c3, c4, c5, c6, c7], _ => exact ⟨c0, c1, c2, c3, c4, c5, c6, c7, rfl⟩
/-- A struct of one-cell fields that came in. -/
theorem open_agg_fields {P : Program} {H : Type} {enc : TypeId × Value → H} {w : World} {base : Nat} {spare : Nat → Bool} {held : Bool} {r : Reach} {b0 : Nat} {t : TypeId} {fs : Array Field} {v : Value} {d : DataW H} {p : List MemPlace} (hs : P.underlying t = some (.struct fs)) (hone : oneCellFields P fs = true) (hC : P.cellsOf t = fs.size)
    (hv : Value.okWide P w r b0 t v) (h : DataW.Trod enc P w base spare held t v d p) :
    ∃ cs : Array Value, v = .agg cs ∧ cs.size = fs.size ∧ ∀ (j : Nat) (f : Field), fs[j]? = some f → ∃ (u : Value) (y : DataW H × List MemPlace) (n : Nat), cs[j]? = some u ∧ DataW.trod enc P w base spare held n f.type [u] = some y := by
  obtain ⟨cs, rfl, hsz⟩ := okWide_struct hs hv
  obtain ⟨fuel, hf⟩ := h
  obtain ⟨ys, n', _, _, hyl, hlen, hh⟩ := DataW.trod_struct hs hf
  refine ⟨cs, rfl, hsz.trans hC, fun j f hj => ?_⟩
  obtain ⟨ho, hk⟩ := hone_of hone j f hj
  have hjl : j < fs.size := (Array.getElem?_eq_some_iff.1 hj).1
  have hjc : j < cs.size := by omega
  have h1 := hh j f hj
  simp only [Value.cells] at h1
  rw [ho, hk] at h1
  have e1 : (cs.toList.drop j).take 1 = [cs[j]] := by
    rw [List.drop_eq_getElem_cons (by simpa using hjc)]
    simp
  rw [e1] at h1
  have hy : ys[j]? = some (ys[j]'(by omega)) := List.getElem?_eq_getElem (by omega)
  exact ⟨cs[j], ys[j]'(by omega), n', by simp [hjc], h1.trans hy⟩
/-- A command that came in. -/
theorem cmd_of_arg {H : Type} {enc : TypeId × Value → H} {w : World} {r : Reach} {b0 base : Nat} {spare : Nat → Bool} {held : Bool} {v : Value} {d : DataW H} {p : List MemPlace}
    (hv : Value.okWide Try.prog w r b0 33 v) (h : DataW.Trod enc Try.prog w base spare held 33 v d p) :
    ∃ (cl sq op : Int) (pa va : ByteArray) (ver a b : Int), v = .agg #[.int .i64 cl, .int .i64 sq, .int .i64 op, .string pa, .string va, .int .i64 ver, .int .i64 a, .int .i64 b] := by
  obtain ⟨cs, rfl, hsz, hf⟩ := open_agg_fields Try.underlying33 (by kernel_rfl) (by kernel_rfl) hv h
  obtain ⟨c0, c1, c2, c3, c4, c5, c6, c7, rfl⟩ := array8 hsz
  obtain ⟨u0, y0, n0, e0, t0⟩ := hf 0 _ rfl
  obtain ⟨u1, y1, n1, e1, t1⟩ := hf 1 _ rfl
  obtain ⟨u2, y2, n2, e2, t2⟩ := hf 2 _ rfl
  obtain ⟨u3, y3, n3, e3, t3⟩ := hf 3 _ rfl
  obtain ⟨u4, y4, n4, e4, t4⟩ := hf 4 _ rfl
  obtain ⟨u5, y5, n5, e5, t5⟩ := hf 5 _ rfl
  obtain ⟨u6, y6, n6, e6, t6⟩ := hf 6 _ rfl
  obtain ⟨u7, y7, n7, e7, t7⟩ := hf 7 _ rfl
  simp at e0 e1 e2 e3 e4 e5 e6 e7
  subst e0 e1 e2 e3 e4 e5 e6 e7
  obtain ⟨x0, q0, _, _⟩ := DataW.trod_int Try.underlying3 t0
  obtain ⟨x1, q1, _, _⟩ := DataW.trod_int Try.underlying3 t1
  obtain ⟨x2, q2, _, _⟩ := DataW.trod_int Try.underlying31 t2
  obtain ⟨x3, q3, _, _⟩ := DataW.trod_string Try.underlying9 t3
  obtain ⟨x4, q4, _, _⟩ := DataW.trod_string Try.underlying9 t4
  obtain ⟨x5, q5, _, _⟩ := DataW.trod_int Try.underlying3 t5
  obtain ⟨x6, q6, _, _⟩ := DataW.trod_int Try.underlying3 t6
  obtain ⟨x7, q7, _, _⟩ := DataW.trod_int Try.underlying3 t7
  simp at q0 q1 q2 q3 q4 q5 q6 q7
  subst q0 q1 q2 q3 q4 q5 q6 q7
  exact ⟨x0, x1, x2, x3, x4, x5, x6, x7, rfl⟩
end Go.Proofs.Ytplplehfkfjhnaa
