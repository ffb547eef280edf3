/-
  The walk of the document's answer of layer 10: without one, with another one.
-/
import Derived.Test.YtacjmcjmenbekaaCfgS
namespace Go.Proofs.Ytacjmcjmenbekaa
open Go.RowKit
set_option linter.unusedSimpArgs false
set_option linter.unusedVariables false

def RwPost (ep : Int) (xs : List Int) (w : World) (e : Ending) (w' : World) : Prop := ∃ v', Hid (e = .returned (.agg #[.int .i64 ep, v'])) ∧ ItF w' (w.heap.size + 3) v' xs ∧ Below w.heap.size w w'
set_option maxHeartbeats 4000000 in
theorem rwith_any (ep : Int) (ad : Option Addr) (cap : Nat) (ns : List Int) (less more : Int) (w : World) (h : It w (.slice ad ns.length cap) ns) (he0 : 0 ≤ ep) (he1 : ep ≤ 1048576) :
    Calls Try.prog 22 #[cfgV ep ad ns.length cap, .int .i64 less, .int .i64 more] w (RwPost (ep + 1) (rl ns less more 32) w) := by
  have HH := Lib.hid h
  have HI : Hid (WInv w ep ad ns.length cap (.slice none 0 0) [] (((boxC w ep ad ns.length cap).alloc (.cells #[.int .i64 0, .slice none 0 0] 24)).alloc (.cells #[.int .i64 (ep + 1), .slice none 0 0] 24))) :=
    Lib.hid ⟨((held_box w ep ad ns.length cap).alloc _).alloc _, by simp, by simp [go_sem], by simp [go_sem], by simp [go_sem], by simp [go_sem], by simp [go_sem], by simp [go_sem], by simp [go_sem], OwnI.nil _ _⟩
  clear h
  go_enter Try.func22, Try.ntmps22
  go_wp2_with fail
  go_loopw [8] (fun i wr => ∃ (k : Nat) (v : Value), k ≤ 32 ∧ i = .int .i64 k ∧ Hid (WInv w ep ad ns.length cap v (rl ns less more k) wr)) (fun i _ => 32 - (intOf i).toNat)
  case atStart => exact ⟨0, _, Nat.zero_le _, rfl, HI⟩
  case round =>
    clear HI
    obtain ⟨k, v, hk, rfl, hI⟩ := hrel
    obtain ⟨w4, rfl⟩ : ∃ w4 : World, w4 = wr := ⟨_, rfl⟩
    have hcs := hI.out.cells
    go_split_ands
    by_cases hlt : k < 32
    · have hs := rl_succ ns less more k
      have hln := rl_len ns less more k
      obtain ⟨xs, hxs⟩ : ∃ xs, rl ns less more k = xs := ⟨_, rfl⟩
      rw [hxs] at hI hs hln
      clear hxs
      by_cases q1 : (k : Int) = more
      · have HS : Hid (rl ns less more (k + 1) = xs ++ [(k : Int)]) := Lib.hid (by rw [hs]; simp [keepB, q1])
        have t1 : ((k : Int) == more) = true := by simpa using q1
        clear hs q1
        have HO2 := Lib.hid (hI.out.own.alloc (.cells #[.int .i64 (k : Int)] 3))
        have HL := Lib.hid (it_one w4 (k : Int) 3 (0, 0))
        have hz4 : w.heap.size + 3 ≤ (w4.alloc (.cells #[.int .i64 (k : Int)] 3)).heap.size := by simp; omega
        go_wp2_with (refine wpList_appI rfl _ _ rfl (w.heap.size + 3) _ xs rfl HO2.out _ [(k : Int)] rfl HL.out (by simp; omega) hz4 ?_)
        intro v' w' ho hb hz5 _
        obtain ⟨a', c', e'⟩ := ho.slice
        have e2 : v' = .slice a' (xs.length + 1) c' := by rw [e']; simp
        clear e'
        subst e2
        have hbw : Below (w.heap.size + 3) w4 w' := ((Below.refl _ _).alloc (by omega) _).trans hb
        have c1' := (hbw.cell (p := ⟨w.heap.size + 2, 1, none⟩) (by dsimp only; omega)).trans hI.out.c1
        have f1' := (hbw.frozen (p := ⟨w.heap.size + 2, 1, none⟩) (by dsimp only; omega)).trans hI.out.f1
        have hI2 := Lib.hid (hI.out.more hbw (by first | omega | (simp at hz5; omega)) ho)
        rw [← HS.out] at hI2
        clear ho hb hz5 hbw
        go_wp2
        go_roundw
        case rel => exact ⟨k + 1, _, by omega, by go_num, hI2⟩
        case measure => simp [intOf]; omega
      have t1 : ((k : Int) == more) = false := by simpa using q1
      cases q2 : inB (k : Int) ns
      · have HS : Hid (rl ns less more (k + 1) = xs) := Lib.hid (by rw [hs]; simp [keepB, q1, q2])
        have Q2 := Lib.hid q2
        clear hs q1 q2
        go_wp2_with fail
        refine (rhas_any _ _ _ _ ns _ (IRow.of_it (HH.out.below hI.out.held.below))).mono ?_
        rw [Q2.out]
        rintro e w5 ⟨rfl, hb⟩
        have hJ := Lib.hid (hI.out.kept hb)
        have hcs5 := hJ.out.cells
        clear hb hI
        go_split_ands
        go_wp2
        go_roundw
        case rel => exact ⟨k + 1, v, by omega, by go_num, by rw [HS.out]; exact hJ⟩
        case measure => simp [intOf]; omega
      by_cases q3 : (k : Int) = less
      · have HS : Hid (rl ns less more (k + 1) = xs) := Lib.hid (by rw [hs]; simp [keepB, t1, q2, show ((k : Int) == less) = true from by simpa using q3])
        have t3 : ((k : Int) != less) = false := by simpa using q3
        have Q2 := Lib.hid q2
        clear hs q1 q2 q3
        go_wp2_with fail
        refine (rhas_any _ _ _ _ ns _ (IRow.of_it (HH.out.below hI.out.held.below))).mono ?_
        rw [Q2.out]
        rintro e w5 ⟨rfl, hb⟩
        have hJ := Lib.hid (hI.out.kept hb)
        have hcs5 := hJ.out.cells
        clear hb hI
        go_split_ands
        go_wp2
        go_roundw
        case rel => exact ⟨k + 1, v, by omega, by go_num, by rw [HS.out]; exact hJ⟩
        case measure => simp [intOf]; omega
      · have HS : Hid (rl ns less more (k + 1) = xs ++ [(k : Int)]) := Lib.hid (by rw [hs]; simp [keepB, q2, q3])
        have t3 : ((k : Int) != less) = true := by simpa using q3
        have Q2 := Lib.hid q2
        clear hs q1 q2 q3
        go_wp2_with fail
        refine (rhas_any _ _ _ _ ns _ (IRow.of_it (HH.out.below hI.out.held.below))).mono ?_
        rw [Q2.out]
        rintro e w5 ⟨rfl, hb⟩
        have hJ := Lib.hid (hI.out.kept hb)
        have hcs5 := hJ.out.cells
        clear hb hI
        go_split_ands
        have HO2 := Lib.hid (hJ.out.own.alloc (.cells #[.int .i64 (k : Int)] 3))
        have HL := Lib.hid (it_one w5 (k : Int) 3 (0, 0))
        have hz4 : w.heap.size + 3 ≤ (w5.alloc (.cells #[.int .i64 (k : Int)] 3)).heap.size := by simp; omega
        go_wp2_with (refine wpList_appI rfl _ _ rfl (w.heap.size + 3) _ xs rfl HO2.out _ [(k : Int)] rfl HL.out (by simp; omega) hz4 ?_)
        intro v' w' ho hb hz5 _
        obtain ⟨a', c', e'⟩ := ho.slice
        have e2 : v' = .slice a' (xs.length + 1) c' := by rw [e']; simp
        clear e'
        subst e2
        have hbw : Below (w.heap.size + 3) w5 w' := ((Below.refl _ _).alloc (by omega) _).trans hb
        have c1' := (hbw.cell (p := ⟨w.heap.size + 2, 1, none⟩) (by dsimp only; omega)).trans hJ.out.c1
        have f1' := (hbw.frozen (p := ⟨w.heap.size + 2, 1, none⟩) (by dsimp only; omega)).trans hJ.out.f1
        have hI2 := Lib.hid (hJ.out.more hbw (by first | omega | (simp at hz5; omega)) ho)
        rw [← HS.out] at hI2
        clear ho hb hz5 hbw
        go_wp2
        go_roundw
        case rel => exact ⟨k + 1, _, by omega, by go_num, hI2⟩
        case measure => simp [intOf]; omega
    · obtain rfl : k = 32 := by omega
      have ho := hI.out.own
      have hln := rl_len ns less more 32
      obtain ⟨a', c', rfl⟩ := ho.slice
      have HF := Lib.hid (ho.itF (by omega))
      have HB := Lib.hid hI.out.held.below
      clear ho hI
      go_wp2
      exact bodyPost_ret (v := .agg #[.int .i64 (ep + 1), .slice a' (rl ns less more 32).length c']) (by simp [results, Try.results22, go_sem, *]) rfl ⟨_, rfl, ((HF.out.set (by simp) _).set (by simp) _), (HB.out.setCell (by simp) _).setCell (by simp) _⟩
end Go.Proofs.Ytacjmcjmenbekaa
