/-
  Texts put together: LdW, LdV, LdBa, LdRh, OpC.
-/
import Derived.Test.YtplplehfkfjhnaaMs2
import Derived.Deep.MidRow
import Derived.Test.YtplplehfkfjhnaaLdU
import Derived.Test.YtplplehfkfjhnaaLdO
import Derived.Test.YtplplehfkfjhnaaAt2
import Derived.Test.YtplplehfkfjhnaaLdT
import Derived.Test.YtplplehfkfjhnaaCc
import Derived.Test.YtplplehfkfjhnaaBb
import Derived.Test.YtplplehfkfjhnaaInt
import Derived.RowKit3
import Derived.Deep.Slices
import Derived.Deep.Fields
import Derived.ChangeSame
import Derived.ProofKit
import Derived.OpenShut
import Derived.Lib.SmallJoins
namespace Go.Proofs.Ytplplehfkfjhnaa
open Go.RowKit
set_option linter.unusedSimpArgs false
set_option linter.unusedVariables false
set_option maxRecDepth 100000

/-- What Over tells: where it is false there are few messages, of few dependencies. -/
def OvP (l : List Mg) (w : World) (e : Ending) (w' : World) : Prop := ∃ R : Bool, Hid (e = .returned (.bool R)) ∧ (R = false → l.length ≤ 40 ∧ ∀ m ∈ l, m.ins.at'.2.length ≤ 60) ∧ Below w.heap.size w w'
set_option maxHeartbeats 8000000 in
theorem over_any (v : Value) (rs : List (Cls 27)) (l : List Mg) (w : World) (h : RowIs KM msS w v rs l) : Calls Try.prog 9 #[v] w (OvP l w) := by
  obtain ⟨a, c, e⟩ := rowSl h
  subst e
  obtain ⟨N, hN⟩ : ∃ N, l.length = N := ⟨_, rfl⟩
  have hlen := h.rd.len
  rw [h.len, hN] at hlen
  have hN63 : N ≤ 9223372036854775807 := by unfold maxLen at hlen; omega
  rw [hN] at h ⊢
  have HN := Lib.hid hN
  have HR := Lib.hid h
  clear h hN hlen
  go_enter Try.func9, Try.ntmps9
  go_wp2_with fail
  go_loopw [3] (fun i wr => ∃ k : Nat, k ≤ N ∧ k ≤ 41 ∧ i = .int .i64 k ∧ Hid (Below w.heap.size w wr) ∧ Hid (∀ m ∈ l.take k, m.ins.at'.2.length ≤ 60)) (fun i _ => N - (intOf i).toNat)
  case atStart => exact ⟨0, Nat.zero_le _, by omega, rfl, Lib.hid (Below.refl _ _), Lib.hid (fun m hm => by simp at hm)⟩
  case round =>
    obtain ⟨k, hk, hk41, rfl, hB, hF⟩ := hrel
    by_cases hlt : k < N
    · have hi1 : (k : Int) < (N : Int) := by omega
      have hd1 : decide ((k : Int) < (N : Int)) = true := decide_eq_true hi1
      have hd1n : decide (k < N) = true := decide_eq_true hlt
      by_cases h40 : k ≤ 40
      · have hi2 : (k : Int) ≤ 40 := by omega
        have hd2 : decide ((k : Int) ≤ 40) = true := decide_eq_true hi2
        have hd2n : decide (k ≤ 40) = true := decide_eq_true h40
        obtain ⟨-, hl, g, off, cs, ha, hg, hcs, hc⟩ := HR.out.el rfl k hlt
        subst ha
        have eK : KM.k = 27 := rfl
        rw [eK] at hc
        clear eK
        have hcs2 := hcs
        obtain ⟨u, u1, u2, u3, hm⟩ := hcs
        obtain ⟨ua, uc, a1, c1, a2, c2, a3, c3, e0, e1, e2, e3⟩ := hm.sl
        have HTK : Hid (∀ q : l[k].ins.at'.2.length ≤ 60, ∀ m ∈ l.take (k + 1), m.ins.at'.2.length ≤ 60) := Lib.hid (fun q m hm2 => by
          rw [List.take_succ_eq_append_getElem hl] at hm2
          rcases List.mem_append.1 hm2 with r | r
          · exact hF.out m r
          · simp at r; subst r; exact q)
        have HFW := Lib.hid (few_any (.agg cs.toArray) l[k] wr (MsgIs.on ⟨cs.toArray, rfl, by simpa using hcs2⟩ hB.out))
        have hcs3 := hm.cs
        obtain ⟨x, hx⟩ : ∃ x, l[k] = x := ⟨_, rfl⟩
        rw [hx] at HTK hcs3 e0 e1 e2 e3
        clear hm hcs2 hx
        subst e0 e1 e2 e3
        obtain ⟨n0, n1, n2, ⟨n3, n4, n5⟩, ⟨n6, n7⟩, ⟨n8, ⟨n9, n10⟩, ⟨n11, n12⟩, ⟨n13, n14, n15, n16, n17, n18, n19, n20⟩, n21, dl⟩, ⟨n23, l24⟩, l25, l26⟩ := x
        obtain ⟨M, hM⟩ : ∃ m, dl.length = m := ⟨_, rfl⟩
        obtain ⟨d1, hd1'⟩ : ∃ m, l24.length = m := ⟨_, rfl⟩
        obtain ⟨d2, hd2'⟩ : ∃ m, l25.length = m := ⟨_, rfl⟩
        obtain ⟨d3, hd3'⟩ : ∃ m, l26.length = m := ⟨_, rfl⟩
        simp only [msE, inE, snV, hM, hd1', hd2', hd3', List.cons_append, List.nil_append] at hcs3
        subst hcs3
        simp only at HTK
        rw [hM] at HTK
        clear hM hd1' hd2' hd3'
        have HZ := Lib.hid hc
        have HRG : wr.rangeAt g (off + k * 27) [.int .i64 n0, .int .i64 n1, .int .i64 n2, .int .i64 n3, .int .i64 n4, .int .i64 n5, .int .i64 n6, .int .i64 n7, .int .i64 n8, .int .i64 n9, .int .i64 n10, .int .i64 n11, .int .i64 n12, .int .i64 n13, .int .i64 n14, .int .i64 n15, .string n16, .string n17, .int .i64 n18, .int .i64 n19, .int .i64 n20, .int .i64 n21, .slice ua M uc, .int .i64 n23, .slice a1 d1 c1, .slice a2 d2 c2, .slice a3 d3 c3] := fun j v hv => (hB.out.cell (p := ⟨g, off + k * 27 + j, none⟩) hg).trans (hc j v hv)
        have hgr : g < wr.heap.size := Nat.lt_of_lt_of_le hg hB.out.size
        clear hc
        go_wp2_with (first | refine wpList_load_mid rfl _ _ rfl g (off + k * 27) rfl _ _ HRG Try.underlying44 rfl (by kernel_rfl) ?_ | fail)
        refine HFW.out.mono ?_
        rintro e w2 ⟨R, he, hb⟩
        rw [he.out]
        have HB2 := Lib.hid (below_self hB.out hb)
        have y22 := (HB2.out.cell (p := ⟨g, off + k * 27 + 22, none⟩) hg).trans (HZ.out 22 _ rfl)
        have y16 := (HB2.out.cell (p := ⟨g, off + k * 27 + 16, none⟩) hg).trans (HZ.out 16 _ rfl)
        have y17 := (HB2.out.cell (p := ⟨g, off + k * 27 + 17, none⟩) hg).trans (HZ.out 17 _ rfl)
        clear he hb HFW HRG
        cases R with
        | false =>
          go_wp2
          go_ret
          exact ⟨true, rfl, (fun q => by cases q), HB2.out⟩
        | true =>
          by_cases p1 : (60 : Int) < (M : Int)
          · have p1d : decide ((60 : Int) < (M : Int)) = true := decide_eq_true p1
            have p1n : decide (60 < M) = true := decide_eq_true (by omega)
            go_wp2
            go_ret
            exact ⟨true, rfl, (fun q => by cases q), HB2.out⟩
          · have p1d : decide ((60 : Int) < (M : Int)) = false := decide_eq_false p1
            have p1n : decide (60 < M) = false := decide_eq_false (by omega)
            by_cases p2 : (300 : Int) < (n16.size : Int)
            · have p2d : decide ((300 : Int) < (n16.size : Int)) = true := decide_eq_true p2
              have p2n : decide (300 < n16.size) = true := decide_eq_true (by omega)
              go_wp2
              go_ret
              exact ⟨true, rfl, (fun q => by cases q), HB2.out⟩
            · have p2d : decide ((300 : Int) < (n16.size : Int)) = false := decide_eq_false p2
              have p2n : decide (300 < n16.size) = false := decide_eq_false (by omega)
              by_cases p3 : (300 : Int) < (n17.size : Int)
              · have p3d : decide ((300 : Int) < (n17.size : Int)) = true := decide_eq_true p3
                have p3n : decide (300 < n17.size) = true := decide_eq_true (by omega)
                go_wp2
                go_ret
                exact ⟨true, rfl, (fun q => by cases q), HB2.out⟩
              · have p3d : decide ((300 : Int) < (n17.size : Int)) = false := decide_eq_false p3
                have p3n : decide (300 < n17.size) = false := decide_eq_false (by omega)
                have HF2 := Lib.hid (HTK.out (by omega))
                go_wp2
                go_roundw
                case rel => exact ⟨k + 1, by omega, by omega, by go_num, HB2, HF2⟩
                case measure => simp [intOf]; omega
      · have hi2 : ¬ (k : Int) ≤ 40 := by omega
        have hd2 : decide ((k : Int) ≤ 40) = false := decide_eq_false hi2
        have hd2n : decide (k ≤ 40) = false := decide_eq_false h40
        have hi3 : (40 : Int) < (N : Int) := by omega
        have hd3 : decide ((40 : Int) < (N : Int)) = true := decide_eq_true hi3
        have hd3n : decide (40 < N) = true := decide_eq_true (by omega)
        go_wp2
        go_ret
        exact ⟨true, rfl, (fun q => by cases q), hB.out⟩
    · have e : k = N := by omega
      subst e
      have hF2 := hF.out
      rw [List.take_of_length_le (by rw [HN.out]; exact Nat.le_refl _)] at hF2
      have HF2 := Lib.hid hF2
      clear hF hF2
      by_cases h40 : k ≤ 40
      · have hi3 : ¬ (40 : Int) < (k : Int) := by omega
        have hd3 : decide ((40 : Int) < (k : Int)) = false := decide_eq_false hi3
        have hd3n : decide (40 < k) = false := decide_eq_false (by omega)
        go_wp2
        go_ret
        exact ⟨false, Lib.hid (by first | rfl | simp [hd3, hd3n]), (fun _ => ⟨by rw [HN.out]; exact h40, HF2.out⟩), hB.out⟩
      · have hi3 : (40 : Int) < (k : Int) := by omega
        have hd3 : decide ((40 : Int) < (k : Int)) = true := decide_eq_true hi3
        have hd3n : decide (40 < k) = true := decide_eq_true (by omega)
        go_wp2
        go_ret
        exact ⟨true, Lib.hid (by first | rfl | simp [hd3, hd3n]), (fun q => by cases q), hB.out⟩
end Go.Proofs.Ytplplehfkfjhnaa
namespace Go.Proofs.Ytplplehfkfjhnaa
open Go.RowKit
open Bb (quoN thN allB)
set_option linter.unusedSimpArgs false
set_option linter.unusedVariables false
set_option maxRecDepth 100000

theorem over1_any {w : World} {cs : Array Value} {x : Mg} (h : MsgIs w (.agg cs) x) (g : Nat) (hg : w.heap.size = g) : Calls Try.prog 9 #[.slice (some ⟨g, 0, none⟩) 1 1] (w.alloc (.cells cs 44)) (OvP [x] (w.alloc (.cells cs 44))) := by
  obtain ⟨cs', e, u, u1, u2, u3, h⟩ := h
  injection e with e
  subst e
  have hl : cs.toList.length = 27 := by rw [h.cs]; rfl
  obtain ⟨rs, hr⟩ := rowIs_lit (K := KM) (S := msS) rfl w [cs.toList] [x] rfl (by intro c hc; simp at hc; subst hc; exact hl) (fun j q1 q2 => by
    have hj : j = 0 := by simp at q1; exact q1
    subst hj
    exact ⟨u, u1, u2, u3, h⟩) 44 1 1 rfl (by unfold maxLen; omega) g hg
  have e1 : ([cs.toList].flatten).toArray = cs := by simp
  rw [e1] at hr
  exact over_any _ rs [x] _ hr
def SmP (x : Mg) (w : World) (e : Ending) (w' : World) : Prop := ∃ R : Bool, Hid (e = .returned (.bool R)) ∧ (R = true → x.ins.at'.2.length ≤ 60) ∧ Below w.heap.size w w'
set_option maxHeartbeats 8000000 in
theorem small_any {w : World} {x : Mg} {v : Value} (hm : MsgIs w v x) : Calls Try.prog 21 #[v] w (SmP x w) := by
  have HMI := Lib.hid hm
  have HMV := Lib.hid hm.mgv
  obtain ⟨ua, uc, a1, d1, c1, a2, d2, c2, a3, d3, c3, rfl, hrd, hok⟩ := hm.mgv
  obtain ⟨n0, n1, n2, ⟨n3, n4, n5⟩, ⟨n6, n7⟩, ⟨n8, ⟨n9, n10⟩, ⟨n11, n12⟩, ⟨n13, n14, n15, n16, n17, n18, n19, n20⟩, n21, dl⟩, sn0⟩ := x
  obtain ⟨n23, sn1⟩ : ∃ q, sn0.1.1 = q := ⟨_, rfl⟩
  obtain ⟨M, hM⟩ : ∃ M, dl.length = M := ⟨_, rfl⟩
  have HMl := Lib.hid hM
  simp only at hrd hok
  simp only [msE, inE, snV, hM, sn1, List.cons_append, List.nil_append] at hrd HMI HMV ⊢
  clear hM sn1 hm
  have HOv : Hid (∀ X : World, Below w.heap.size w X → ∀ g, X.heap.size = g → Calls Try.prog 9 #[.slice (some ⟨g, 0, none⟩) 1 1] (X.alloc (.cells #[.int .i64 n0, .int .i64 n1, .int .i64 n2, .int .i64 n3, .int .i64 n4, .int .i64 n5, .int .i64 n6, .int .i64 n7, .int .i64 n8, .int .i64 n9, .int .i64 n10, .int .i64 n11, .int .i64 n12, .int .i64 n13, .int .i64 n14, .int .i64 n15, .string n16, .string n17, .int .i64 n18, .int .i64 n19, .int .i64 n20, .int .i64 n21, .slice ua M uc, .int .i64 n23, .slice a1 d1 c1, .slice a2 d2 c2, .slice a3 d3 c3] 44)) (OvP [⟨n0, n1, n2, (n3, n4, n5), (n6, n7), ⟨n8, (n9, n10), (n11, n12), ⟨n13, n14, n15, n16, n17, n18, n19, n20⟩, (n21, dl)⟩, sn0⟩] (X.alloc (.cells #[.int .i64 n0, .int .i64 n1, .int .i64 n2, .int .i64 n3, .int .i64 n4, .int .i64 n5, .int .i64 n6, .int .i64 n7, .int .i64 n8, .int .i64 n9, .int .i64 n10, .int .i64 n11, .int .i64 n12, .int .i64 n13, .int .i64 n14, .int .i64 n15, .string n16, .string n17, .int .i64 n18, .int .i64 n19, .int .i64 n20, .int .i64 n21, .slice ua M uc, .int .i64 n23, .slice a1 d1 c1, .slice a2 d2 c2, .slice a3 d3 c3] 44)))) := Lib.hid fun X hX g hg => over1_any (HMI.out.on hX) g hg
  obtain ⟨X, hX⟩ : ∃ X, w.alloc (.cells #[.int .i64 n0, .int .i64 n1, .int .i64 n2, .int .i64 n3, .int .i64 n4, .int .i64 n5, .int .i64 n6, .int .i64 n7, .int .i64 n8, .int .i64 n9, .int .i64 n10, .int .i64 n11, .int .i64 n12, .int .i64 n13, .int .i64 n14, .int .i64 n15, .string n16, .string n17, .int .i64 n18, .int .i64 n19, .int .i64 n20, .int .i64 n21, .slice ua M uc, .int .i64 n23, .slice a1 d1 c1, .slice a2 d2 c2, .slice a3 d3 c3] 44) = X := ⟨_, rfl⟩
  have HB : Hid (Below w.heap.size w X) := Lib.hid (by rw [← hX]; exact al1 w _)
  have HBk : Hid (Bk X w.heap.size 44 [.int .i64 n0, .int .i64 n1, .int .i64 n2, .int .i64 n3, .int .i64 n4, .int .i64 n5, .int .i64 n6, .int .i64 n7, .int .i64 n8, .int .i64 n9, .int .i64 n10, .int .i64 n11, .int .i64 n12, .int .i64 n13, .int .i64 n14, .int .i64 n15, .string n16, .string n17, .int .i64 n18, .int .i64 n19, .int .i64 n20, .int .i64 n21, .slice ua M uc, .int .i64 n23, .slice a1 d1 c1, .slice a2 d2 c2, .slice a3 d3 c3]) := Lib.hid (by rw [← hX]; exact Bk.new w _ [.int .i64 n0, .int .i64 n1, .int .i64 n2, .int .i64 n3, .int .i64 n4, .int .i64 n5, .int .i64 n6, .int .i64 n7, .int .i64 n8, .int .i64 n9, .int .i64 n10, .int .i64 n11, .int .i64 n12, .int .i64 n13, .int .i64 n14, .int .i64 n15, .string n16, .string n17, .int .i64 n18, .int .i64 n19, .int .i64 n20, .int .i64 n21, .slice ua M uc, .int .i64 n23, .slice a1 d1 c1, .slice a2 d2 c2, .slice a3 d3 c3])
  go_enter Try.func21, Try.ntmps21
  have HBn := Lib.hid (Bk.new w 44 [.int .i64 n0, .int .i64 n1, .int .i64 n2, .int .i64 n3, .int .i64 n4, .int .i64 n5, .int .i64 n6, .int .i64 n7, .int .i64 n8, .int .i64 n9, .int .i64 n10, .int .i64 n11, .int .i64 n12, .int .i64 n13, .int .i64 n14, .int .i64 n15, .string n16, .string n17, .int .i64 n18, .int .i64 n19, .int .i64 n20, .int .i64 n21, .slice ua M uc, .int .i64 n23, .slice a1 d1 c1, .slice a2 d2 c2, .slice a3 d3 c3])
  go_wp2_with (first
    | refine _root_.Go.wpList_load_row rfl _ _ rfl w.heap.size rfl 44 _ _ _ HBn.out Try.underlying44 rfl infoMs ?_
    | refine _root_.Go.wpList_load_row rfl _ _ rfl w.heap.size rfl 44 _ _ _ HBk.out Try.underlying44 rfl infoMs ?_
    | fail)
  try rw [hX]
  refine (HOv.out X HB.out _ rfl).mono ?_
  rintro e w2 ⟨R, he, hR, hb⟩
  rw [he.out]
  have HB2 := Lib.hid (HB.out.trans ((al1 X _).mono HB.out.size |>.trans (hb.mono (by have := HB.out.size; simp; omega))))
  have HR := Lib.hid hR
  clear he hb hR
  go_wp2
  go_ret
  exact ⟨!R, Lib.hid rfl, fun q => (HR.out (by simpa using q)).2 _ (List.mem_singleton.2 rfl), HB2.out⟩
end Go.Proofs.Ytplplehfkfjhnaa
namespace Go.Proofs.Ytplplehfkfjhnaa
open Go.RowKit
open Bb (quoN thN allB)
set_option linter.unusedSimpArgs false
set_option linter.unusedVariables false
set_option maxRecDepth 100000

def noM (fr : Int) (id : I3) (b : Bal) : Mg := ⟨7, fr, 0, id, b, in00, sn0⟩
theorem noM_V (w : World) (fr : Int) (id : I3) (b : Bal) : MgV w (.agg (msE (noM fr id b) (.slice none 0 0) (.slice none 0 0) (.slice none 0 0) (.slice none 0 0)).toArray) (noM fr id b) :=
  ⟨none, 0, none, 0, 0, none, 0, 0, none, 0, 0, rfl, Knd.Rd.nil w, by intro x hx; cases hx⟩
/-- A lead that took over. -/
def tkL (ep : Int) (ns : List Int) (node : Int) (id : I3) (b : Bal) : LSt := ⟨ep, ns, node, id, b, (0, 0), false, 2, ⟨0, 0, 0, ⟨#[]⟩, ⟨#[]⟩, 0, 0, 0⟩, (0, []), [], []⟩
theorem tkL_ok (ep : Int) (ns : List Int) (node : Int) (id : I3) (b : Bal) (hn : ns.length ≤ 40) : LOk (tkL ep ns node id b) :=
  ⟨hn, List.nodup_nil, (fun x hx => by cases hx), rfl, (fun x hx => by cases hx), by show ([] : List I3).length ≤ 3000; decide⟩
def btL (L : LSt) (b : Bal) : LSt := entL { L with by' := b } 4 L.cm L.at'
def NoP (c : Bool) (M : LSt) (B g : Nat) (w : World) (e : Ending) (w' : World) : Prop := Hid (e = .returned (.bool c)) ∧ LdAt w' B g M ∧ Below B w w' ∧ Kt w w'
theorem no_hear {w : World} {B g : Nat} {ep node fr : Int} {ns : List Int} {id : I3} {bal b : Bal} (h : LdAt w B g (tkL ep ns node id bal)) (hn : ns.length ≤ 40) (c : Bool) (hc : (inB fr ns && Bb.lessB bal.1 bal.2 b.1 b.2) = c) :
    Calls Try.prog 13 #[gP g, .agg (msE (noM fr id b) (.slice none 0 0) (.slice none 0 0) (.slice none 0 0) (.slice none 0 0)).toArray] w (NoP c (if c then btL (tkL ep ns node id bal) b else tkL ep ns node id bal) B g w) := by
  have hok := tkL_ok ep ns node id bal hn
  have hW : Below ({ w with heap := #[] } : World).heap.size { w with heap := #[] } w := ⟨rfl, rfl, rfl, Nat.zero_le _, fun k hk => by cases hk⟩
  cases q : inB fr ns with
  | false =>
    rw [q] at hc
    subst hc
    refine (hear_skip h hok (noM_V _ fr id b) (Nat.zero_le _) hW (by show (0 : Nat) ≤ 60; omega) (by
      unfold passL
      show (!false && (decide (id = id) && inB fr ns)) = false
      rw [q]; simp)).mono ?_
    rintro e w' ⟨he, hl, hb, hk⟩
    exact ⟨he, hl, hb, hk⟩
  | true =>
    have hp : passL (tkL ep ns node id bal) (noM fr id b) = true := by
      unfold passL
      show (!false && (decide (id = id) && inB fr ns)) = true
      rw [q]; simp
    rw [q] at hc
    cases q2 : Bb.lessB bal.1 bal.2 b.1 b.2 with
    | false =>
      rw [q2] at hc
      subst hc
      refine (hear_noN h hok (noM_V _ fr id b) (Nat.zero_le _) hW (by show (0 : Nat) ≤ 60; omega) hp rfl q2).mono ?_
      rintro e w' ⟨he, hl, hb, hk⟩
      exact ⟨he, hl, hb, hk⟩
    | true =>
      rw [q2] at hc
      subst hc
      refine (hear_noY h hok (noM_V _ fr id b) (Nat.zero_le _) hW (by show (0 : Nat) ≤ 60; omega) hp rfl q2).mono ?_
      rintro e w' ⟨he, hl, hb, hk⟩
      exact ⟨he, hl, hb, hk⟩
section
variable {ops : Array Oper} {o : Oper} {a : Act} {w : World} {K : Act → World → Prop} {Q : Exit → Act → World → Prop} {E : Prop}
theorem step_allocBal (hgd : o.guard = none) (ho : o.op = .alloc 29) (hK : ∀ p w', Bk w' p 29 [.int .i64 0, .int .i64 0] → Below w.heap.size w w' → w.heap.size ≤ p → K (a.put o.dst (gP p)) w') :
    if Region.wanted o (yielded ops a.tmps) = true then Oper.wp Try.prog o a w K Q else E := by
  refine step_valueL hgd (gP w.heap.size) (w.alloc (.cells #[.int .i64 0, .int .i64 0] 29)) ?_ (hK _ _ (Bk.new w _ [.int .i64 0, .int .i64 0]) ((Below.refl _ _).alloc (Nat.le_refl _) _) (Nat.le_refl _))
  unfold execOp
  simp only [ho]
  kernel_rfl
theorem infoBal : (Try.prog.info? 29).map (·.size) = some 2 := by kernel_rfl
theorem step_storeBal (hgd : o.guard = none) (x y : Operand) (ho : o.op = .store 29 x y) (p : Nat) (hx : a.eval x = .pointer (some ⟨p, 0, none⟩)) (u v : Value) (hy : a.eval y = .agg #[u, v]) (hu : u.oneCell' = true) (hv : v.oneCell' = true)
    (hbx : Bk w p 29 [.int .i64 0, .int .i64 0]) (hK : ∀ w', Bk w' p 29 [u, v] → Below p w w' → K (a.put o.dst undef) w') : if Region.wanted o (yielded ops a.tmps) = true then Oper.wp Try.prog o a w K Q else E :=
  step_store_row hgd 29 x y ho p hx #[u, v] hy #[.int .i64 0, .int .i64 0] 29 hbx infoBal rfl (by simp [hu, hv]) (hK _ (bk_setRow (ds := [u, v]) hbx) (below_setRow (Below.refl _ _) (Nat.le_refl _) _))
end
end Go.Proofs.Ytplplehfkfjhnaa
namespace Go.Proofs.Ytplplehfkfjhnaa
open Go.RowKit
open Cc (cfgV)
open Bb (quoN thN allB ret_int ret_bool thN_nil thN_le thN_snoc)
set_option linter.unusedSimpArgs false
set_option linter.unusedVariables false
set_option maxRecDepth 100000

theorem rcHas_any (ep n : Int) (a : Option Addr) (cap : Nat) (ns : List Int) (w : World) (hr : IRow w a ns) : Calls Try.prog 14 #[cfgV ep a ns.length cap, .int .i64 n] w fun e w' => e = .returned (.bool (inB n ns)) ∧ Below w.heap.size w w' := by
  have hbel : Below w.heap.size w (w.alloc (.cells #[.int .i64 ep, .slice a ns.length cap] 24)) := (Below.refl _ _).alloc (Nat.le_refl _) _
  have HR := Lib.hid (hr.below hbel)
  have HB := Lib.hid hbel
  clear hbel hr
  go_enter Try.func14, Try.ntmps14
  go_wp2_with (go_at_call 37; refine (refIn_any _ _ ns _ _ HR.out).mono ?_; rintro e w' ⟨rfl, rfl⟩)
  go_ret
  exact ⟨rfl, HB.out⟩
set_option maxHeartbeats 800000 in
theorem refCount_any (ep : Int) (a a2 : Option Addr) (cap cap2 : Nat) (ns who : List Int) (w : World) (hr : IRow w a ns) (hr2 : IRow w a2 who) :
    Calls Try.prog 16 #[.agg #[.int .i64 ep, .slice a ns.length cap], .slice a2 who.length cap2] w fun e w' => e = .returned (.int .i64 (thN who ns)) ∧ Below w.heap.size w w' := by
  have hbel : Below w.heap.size w (w.alloc (.cells #[.int .i64 ep, .slice a ns.length cap] 24)) := (Below.refl _ _).alloc (Nat.le_refl _) _
  have HB := Lib.hid hbel
  have HR2 := Lib.hid (hr2.below hbel)
  obtain ⟨hl, hrow⟩ := hr.below hbel
  clear hr hr2 hbel
  go_enter Try.func16, Try.ntmps16
  go_wp2
  go_loop [5, 6] (fun n i => ∃ k : Nat, k ≤ ns.length ∧ i = .int .i64 k ∧ n = .int .i64 (thN who (ns.take k))) (fun _ i => ns.length - (intOf i).toNat)
  case atStart => exact ⟨0, Nat.zero_le _, rfl, rfl⟩
  case round =>
    obtain ⟨k, hk, rfl, rfl⟩ := hrel
    have hd := thN_le who (ns.take k)
    have hdl : (ns.take k).length ≤ k := List.length_take_le _ _
    by_cases hlt : k < ns.length
    · rcases hrow with h0 | ⟨b, off, rfl, hb, hc⟩
      · rw [h0] at hlt; simp at hlt
      · have hcell := hc k hlt
        have HS := Lib.hid (thN_snoc who ns k hlt)
        have HC := Lib.hid hc
        clear hc
        cases g : inB ns[k] who
        · have G := Lib.hid g
          clear g
          go_wp2_with (go_at_call 37; refine (refIn_any _ _ who _ _ HR2.out).mono ?_; rw [G.out]; rintro e w' ⟨rfl, rfl⟩)
          go_round
          case rel => exact ⟨k + 1, by omega, by go_num, by rw [HS.out, G.out]; simp⟩
          case measure => simp [intOf]; omega
        · have G := Lib.hid g
          clear g
          go_wp2_with (go_at_call 37; refine (refIn_any _ _ who _ _ HR2.out).mono ?_; rw [G.out]; rintro e w' ⟨rfl, rfl⟩)
          go_round
          case rel => exact ⟨k + 1, by omega, by go_num, by rw [HS.out, G.out]; simp⟩
          case measure => simp [intOf]; omega
    · have : k = ns.length := by omega
      subst this
      go_wp2
      go_ret
      exact ⟨rfl, HB.out⟩

end Go.Proofs.Ytplplehfkfjhnaa
namespace Go.Proofs.Ytplplehfkfjhnaa
open Go.ChangeShapes Go.WideShapes Go.ChangeAt Go.RowKit Go.Joins Go.Deep
set_option linter.unusedSimpArgs false
set_option linter.unusedVariables false
set_option maxRecDepth 100000

theorem block_lt_of_cell {w : World} {p : Addr} {v : Value} (h : w.cell? p = some v) (hs : p.spot = none) : p.block < w.heap.size := by
  by_cases g : p.block < w.heap.size
  · exact g
  · exfalso
    have e : w.heap[p.block]? = none := by simp; omega
    simp [World.cell?, hs, e] at h

theorem irow_of_trod {H : Type} {enc : TypeId × Value → H} {w : World} {base m : Nat} {spare : Nat → Bool} {held : Bool} {v : Value} {y : DataW H × List MemPlace}
    (h : DataW.trod enc Try.prog w base spare held m 22 [v] = some y) : ∃ (a : Option Addr) (cap : Nat) (zs : List Int), v = .slice a zs.length cap ∧ zs.length ≤ cap ∧ cap ≤ maxLen ∧ IRow w a zs ∧ (∀ n ∈ zs, (Lit.int .i64 n).wf = true) ∧ (a = none → cap = 0) := by
  rcases open_ints Try.underlying22 Try.underlying3 (by kernel_rfl) h with ⟨hcs, _⟩ | ⟨x, len, cap, zs, hcs, _, hl, hm, hz, _, hcell, hwz⟩
  · simp at hcs
    exact ⟨none, 0, [], hcs, Nat.le_refl _, Nat.zero_le _, ⟨by simp, .inl rfl⟩, by simp, fun _ => rfl⟩
  · simp at hcs
    have hlz : len ≤ zs.length := by rw [hz]; split <;> omega
    have e : (zs.take len).length = len := by simp; omega
    refine ⟨some x, cap, zs.take len, by rw [e]; exact hcs, by rw [e]; exact hl, hm, ⟨by rw [e]; unfold maxLen at hm; omega, ?_⟩, fun n hn => hwz n (List.mem_of_mem_take hn), fun h => by cases h⟩
    by_cases h0 : len = 0
    · left; subst h0; rfl
    · right
      have hc0 := hcell 0 (by omega)
      obtain ⟨b, off, spot⟩ := x
      have hspot : spot = none := by simpa [Addr.add] using World.cell?_spot hc0
      subst hspot
      refine ⟨b, off, rfl, ?_, fun i hi => ?_⟩
      · exact block_lt_of_cell hc0 (by simp [Addr.add])
      · have hi' : i < len := by rw [e] at hi; exact hi
        have := hcell i (by omega)
        rw [show (zs.take len).getD i 0 = zs.getD i 0 from by simp [List.getD, List.getElem?_take, hi']]
        by_cases hi0 : i = 0
        · subst hi0; simpa [Addr.add] using this
        · simpa [Addr.add, hi0] using this
theorem irow_of_arg {H : Type} {enc : TypeId × Value → H} {w : World} {r : Reach} {b0 base : Nat} {spare : Nat → Bool} {held : Bool} {v : Value} {d : DataW H} {p : List MemPlace}
    (hv : Value.okWide Try.prog w r b0 22 v) (h : DataW.Trod enc Try.prog w base spare held 22 v d p) : ∃ (a : Option Addr) (cap : Nat) (zs : List Int), v = .slice a zs.length cap ∧ zs.length ≤ cap ∧ cap ≤ maxLen ∧ IRow w a zs ∧ (∀ n ∈ zs, (Lit.int .i64 n).wf = true) ∧ (a = none → cap = 0) := by
  obtain ⟨a0, len0, cap0, rfl⟩ := okWide_slice Try.underlying22 hv
  obtain ⟨fuel, hf⟩ := h
  exact irow_of_trod (by simpa [Value.cells] using hf)
theorem config_of_arg {H : Type} {enc : TypeId × Value → H} {w : World} {r : Reach} {b0 base : Nat} {spare : Nat → Bool} {held : Bool} {v : Value} {d : DataW H} {p : List MemPlace}
    (hv : Value.okWide Try.prog w r b0 24 v) (h : DataW.Trod enc Try.prog w base spare held 24 v d p) :
    ∃ (ep : Int) (a : Option Addr) (cap : Nat) (zs : List Int), v = .agg #[.int .i64 ep, .slice a zs.length cap] ∧ (Lit.int .i64 ep).wf = true ∧ zs.length ≤ cap ∧ cap ≤ maxLen ∧ IRow w a zs ∧ (∀ n ∈ zs, (Lit.int .i64 n).wf = true) ∧ (a = none → cap = 0) := by
  obtain ⟨c0, c1, y0, y1, m, rfl, _, _, hy0, hy1⟩ := open_agg2 Try.underlying24 (by kernel_rfl) (by kernel_rfl) hv h
  obtain ⟨ep, e0, _, we⟩ := DataW.trod_int Try.underlying3 hy0
  obtain ⟨a, cap, zs, hzs, r1, r2, r3, r4⟩ := irow_of_trod hy1
  simp at e0
  subst e0 hzs
  exact ⟨ep, a, cap, zs, rfl, we, r1, r2, r3, r4⟩
/-- A configuration that came in. -/
theorem cfg_of_arg {H : Type} {enc : TypeId × Value → H} {w : World} {r : Reach} {b0 base : Nat} {spare : Nat → Bool} {held : Bool} {v : Value} {d : DataW H} {p : List MemPlace}
    (hv : Value.okWide Try.prog w r b0 24 v) (h : DataW.Trod enc Try.prog w base spare held 24 v d p) :
    ∃ (ep : Int) (a : Option Addr) (cap : Nat) (zs : List Int), v = .agg #[.int .i64 ep, .slice a zs.length cap] ∧ (Lit.int .i64 ep).wf = true ∧ It w (.slice a zs.length cap) zs := by
  obtain ⟨ep, a, cap, zs, h1, h2, h3, h4, h5, _, h7⟩ := config_of_arg hv h
  exact ⟨ep, a, cap, zs, h1, h2, ⟨a, cap, rfl, h5, h7, h3, by unfold maxLen at h4; omega⟩⟩
theorem array8 {α : Type} {cs : Array α} (h : cs.size = 8) : ∃ c0 c1 c2 c3 c4 c5 c6 c7, cs = #[c0, c1, c2, c3, c4, c5, c6, c7] := by
  obtain ⟨l⟩ := cs
  match l, h with
  | [c0, c1, c2, c3, c4, c5, c6, c7], _ => exact ⟨c0, c1, c2, c3, c4, c5, c6, c7, rfl⟩
/-- A struct of one-cell fields that came in. -/
theorem open_agg_fields {P : Program} {H : Type} {enc : TypeId × Value → H} {w : World} {base : Nat} {spare : Nat → Bool} {held : Bool} {r : Reach} {b0 : Nat} {t : TypeId} {fs : Array Field} {v : Value} {d : DataW H} {p : List MemPlace} (hs : P.underlying t = some (.struct fs)) (hone : oneCellFields P fs = true) (hC : P.cellsOf t = fs.size)
    (hv : Value.okWide P w r b0 t v) (h : DataW.Trod enc P w base spare held t v d p) :
    ∃ cs : Array Value, v = .agg cs ∧ cs.size = fs.size ∧ ∀ (j : Nat) (f : Field), fs[j]? = some f → ∃ (u : Value) (y : DataW H × List MemPlace) (n : Nat), cs[j]? = some u ∧ DataW.trod enc P w base spare held n f.type [u] = some y := by
  obtain ⟨cs, rfl, hsz⟩ := okWide_struct hs hv
  obtain ⟨fuel, hf⟩ := h
  obtain ⟨ys, n', _, _, hyl, hlen, hh⟩ := DataW.trod_struct hs hf
  refine ⟨cs, rfl, hsz.trans hC, fun j f hj => ?_⟩
  obtain ⟨ho, hk⟩ := hone_of hone j f hj
  have hjl : j < fs.size := (Array.getElem?_eq_some_iff.1 hj).1
  have hjc : j < cs.size := by omega
  have h1 := hh j f hj
  simp only [Value.cells] at h1
  rw [ho, hk] at h1
  have e1 : (cs.toList.drop j).take 1 = [cs[j]] := by
    rw [List.drop_eq_getElem_cons (by simpa using hjc)]
    simp
  rw [e1] at h1
  have hy : ys[j]? = some (ys[j]'(by omega)) := List.getElem?_eq_getElem (by omega)
  exact ⟨cs[j], ys[j]'(by omega), n', by simp [hjc], h1.trans hy⟩
/-- A command that came in. -/
theorem cmd_of_arg {H : Type} {enc : TypeId × Value → H} {w : World} {r : Reach} {b0 base : Nat} {spare : Nat → Bool} {held : Bool} {v : Value} {d : DataW H} {p : List MemPlace}
    (hv : Value.okWide Try.prog w r b0 33 v) (h : DataW.Trod enc Try.prog w base spare held 33 v d p) :
    ∃ (cl sq op : Int) (pa va : ByteArray) (ver a b : Int), v = .agg #[.int .i64 cl, .int .i64 sq, .int .i64 op, .string pa, .string va, .int .i64 ver, .int .i64 a, .int .i64 b] := by
  obtain ⟨cs, rfl, hsz, hf⟩ := open_agg_fields Try.underlying33 (by kernel_rfl) (by kernel_rfl) hv h
  obtain ⟨c0, c1, c2, c3, c4, c5, c6, c7, rfl⟩ := array8 hsz
  obtain ⟨u0, y0, n0, e0, t0⟩ := hf 0 _ rfl
  obtain ⟨u1, y1, n1, e1, t1⟩ := hf 1 _ rfl
  obtain ⟨u2, y2, n2, e2, t2⟩ := hf 2 _ rfl
  obtain ⟨u3, y3, n3, e3, t3⟩ := hf 3 _ rfl
  obtain ⟨u4, y4, n4, e4, t4⟩ := hf 4 _ rfl
  obtain ⟨u5, y5, n5, e5, t5⟩ := hf 5 _ rfl
  obtain ⟨u6, y6, n6, e6, t6⟩ := hf 6 _ rfl
  obtain ⟨u7, y7, n7, e7, t7⟩ := hf 7 _ rfl
  simp at e0 e1 e2 e3 e4 e5 e6 e7
  subst e0 e1 e2 e3 e4 e5 e6 e7
  obtain ⟨x0, q0, _, _⟩ := DataW.trod_int Try.underlying3 t0
  obtain ⟨x1, q1, _, _⟩ := DataW.trod_int Try.underlying3 t1
  obtain ⟨x2, q2, _, _⟩ := DataW.trod_int Try.underlying31 t2
  obtain ⟨x3, q3, _, _⟩ := DataW.trod_string Try.underlying9 t3
  obtain ⟨x4, q4, _, _⟩ := DataW.trod_string Try.underlying9 t4
  obtain ⟨x5, q5, _, _⟩ := DataW.trod_int Try.underlying3 t5
  obtain ⟨x6, q6, _, _⟩ := DataW.trod_int Try.underlying3 t6
  obtain ⟨x7, q7, _, _⟩ := DataW.trod_int Try.underlying3 t7
  simp at q0 q1 q2 q3 q4 q5 q6 q7
  subst q0 q1 q2 q3 q4 q5 q6 q7
  exact ⟨x0, x1, x2, x3, x4, x5, x6, x7, rfl⟩
end Go.Proofs.Ytplplehfkfjhnaa
