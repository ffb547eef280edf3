/-
  Leads: whom it waits for; the attributes that were heard.
-/
import Derived.Test.YtplplehfkfjhnaaLdE
import Derived.Test.YtplplehfkfjhnaaAt2
namespace Go.Proofs.Ytplplehfkfjhnaa
open Go.RowKit
open Bb (quoN thN allB)
set_option linter.unusedSimpArgs false
set_option linter.unusedVariables false
set_option maxRecDepth 100000

theorem it_one (w : World) (x : Int) (g : Nat) (hg : w.heap.size = g) : It (w.alloc (.cells #[.int .i64 x] 3)) (.slice (some ⟨g, 0, none⟩) 1 1) [x] := by
  subst hg
  refine ⟨some ⟨w.heap.size, 0, none⟩, 1, rfl, ⟨by simp, .inr ⟨w.heap.size, 0, rfl, by simp, fun i hi => ?_⟩⟩, (fun e => by cases e), by simp, by omega⟩
  have : i = 0 := by simp at hi; omega
  subst this
  exact new_cell w #[.int .i64 x] 3 0
/-- Those that it has not heard. -/
def wtL (L : LSt) : List Int := if overL L then [] else L.ns.filter fun n => !inB n L.who
def WtP (l : List Int) (w : World) (e : Ending) (w' : World) : Prop := ∃ v, Hid (e = .returned v) ∧ OwnI w' w.heap.size v l ∧ Below w.heap.size w w'
set_option maxHeartbeats 4000000 in
theorem wait_any {w : World} {B g : Nat} {L : LSt} (h : LdAt w B g L) (ho : LOk L) : Calls Try.prog 11 #[gP g] w (WtP (wtL L) w) := by
  have HO := Lib.hid (lover_any h)
  obtain ⟨Bw, vn, vd, vw, vh, h⟩ := h
  unfold wtL
  cases hov : overL L with
  | true =>
    rw [hov] at HO
    clear h ho
    go_enter Try.func11, Try.ntmps11
    go_wp2_with (go_at_call 29; refine HO.out.mono ?_; rintro e w1 ⟨rfl, rfl⟩)
    go_ret
    exact ⟨_, rfl, by simpa using OwnI.nil _ _, Below.refl _ _⟩
  | false =>
    rw [hov] at HO
    simp only [Bool.false_eq_true, if_false]
    obtain ⟨a, c, e1, r1⟩ := h.irow ho
    obtain ⟨a2, c2, e2, r2⟩ := h.wrow ho
    subst e1 e2
    have hNL := ho.nl
    obtain ⟨N, hN⟩ : ∃ N, L.ns.length = N := ⟨_, rfl⟩
    have HV := Lib.hid h
    have c1 := h.cell 1
    have c22 := h.cell 22
    simp only [ldE, List.getElem?_cons_zero, List.getElem?_cons_succ] at c1 c22
    have hlt := h.bk.lt
    rw [hN] at c1 hNL
    have HC : Hid (∀ (n : Int) (W : World), Below w.heap.size w W → Calls Try.prog 30 #[.slice a2 L.who.length c2, .int .i64 n] W fun e w' => e = .returned (.bool (inB n L.who)) ∧ W = w') := Lib.hid fun n W hb => contains_any a2 c2 L.who n W (r2.below hb)
    have HR := Lib.hid r1
    have HN := Lib.hid hN
    clear h r1 r2 ho hN hov
    go_enter Try.func11, Try.ntmps11
    go_wp2_with (go_at_call 29; refine HO.out.mono ?_; rintro e w1 ⟨rfl, rfl⟩)
    have C22 := Lib.hid c22
    clear c1 c22 HO
    go_loopw [3, 14] (fun sl i wr => ∃ (k : Nat) (v : Value), v = sl ∧ k ≤ N ∧ i = .int .i64 k ∧ Hid (OwnI wr w.heap.size v ((L.ns.take k).filter fun n => !inB n L.who)) ∧ Hid (Below w.heap.size w wr)) (fun _ i _ => N - (intOf i).toNat)
    case atStart => exact ⟨0, _, rfl, Nat.zero_le _, rfl, Lib.hid (OwnI.nil _ _), Lib.hid (Below.refl _ _)⟩
    case round =>
      obtain ⟨k, v, rfl, hk, rfl, hO, hB⟩ := hrel
      by_cases hlt2 : k < N
      · have hk1 : (k : Int) < (N : Int) := by omega
        obtain ⟨b, off, rfl, hb, hc⟩ : ∃ b off, a = some ⟨b, off, none⟩ ∧ b < w.heap.size ∧ ∀ i, i < L.ns.length → w.cell? ⟨b, off + i, none⟩ = some (.int .i64 (L.ns.getD i 0)) := by
          rcases HR.out.2 with h0 | h0
          · have := HN.out; rw [h0] at this; simp at this; omega
          · exact h0
        have hcell := (hB.out.cell (p := ⟨b, off + k, none⟩) hb).trans (hc k (by rw [HN.out]; exact hlt2))
        have d22 := (hB.out.cell (p := ⟨g, 22, none⟩) hlt).trans C22.out
        have htk := take_succ_getD L.ns k (by rw [HN.out]; exact hlt2)
        obtain ⟨n, hn⟩ : ∃ n, L.ns.getD k 0 = n := ⟨_, rfl⟩
        rw [hn] at hcell htk
        have HTK : Hid ((L.ns.take (k + 1)).filter (fun n => !inB n L.who) = (L.ns.take k).filter (fun n => !inB n L.who) ++ (if inB n L.who then [] else [n])) := Lib.hid (by
          rw [htk, List.filter_append]
          congr 1
          cases h : inB n L.who <;> simp [h])
        have hl60 : ((L.ns.take k).filter fun n => !inB n L.who).length ≤ 60 := by
          have h1 := List.length_filter_le (fun n => !inB n L.who) (L.ns.take k)
          have h2 := List.length_take_le k L.ns
          omega
        have HL60 := Lib.hid hl60
        obtain ⟨F, hF⟩ : ∃ F, (L.ns.take k).filter (fun n => !inB n L.who) = F := ⟨_, rfl⟩
        rw [hF] at hO HTK HL60
        clear hF
        have hz := hB.out.size
        have HCn := Lib.hid (HC.out n wr hB.out)
        clear hc htk hn hl60
        cases hin : inB n L.who with
        | true =>
          rw [hin] at HCn HTK
          go_wp2_with (go_at_call 30; refine HCn.out.mono ?_; rintro e w1 ⟨rfl, rfl⟩)
          go_roundw
          case rel => exact ⟨k + 1, v, rfl, by omega, by go_num, Lib.hid (by rw [HTK.out]; simpa using hO.out), hB⟩
          case measure => simp [intOf]; omega
        | false =>
          rw [hin] at HCn HTK
          go_wp2_with (first
            | (go_at_call 30; refine HCn.out.mono ?_; rintro e w1 ⟨rfl, rfl⟩)
            | refine wpList_appI rfl _ _ rfl w.heap.size _ _ rfl (OwnI.alloc hO.out _) _ [n] rfl (it_one _ n _ rfl) (by have := HL60.out; simp only [List.length_singleton]; omega) (by simp; omega) ?_
            | fail)
          intro v2 w2 ho2 hb2 hz2 _
          have HO2 := Lib.hid ho2
          have HB2 := Lib.hid (((hB.out.alloc hz _).trans hb2))
          clear ho2 hb2
          go_wp2_with fail
          go_roundw
          case rel => exact ⟨k + 1, v2, rfl, by omega, by go_num, Lib.hid (by rw [HTK.out]; simpa using HO2.out), HB2⟩
          case measure => simp [intOf]; omega
      · have e : k = N := by omega
        subst e
        have hO2 := hO.out
        rw [List.take_of_length_le (by rw [HN.out]; exact Nat.le_refl _)] at hO2
        have HO2 := Lib.hid hO2
        clear hO hO2
        go_wp2
        go_ret
        exact ⟨v, rfl, HO2.out, hB.out⟩
end Go.Proofs.Ytplplehfkfjhnaa
