/-
  Whether there are more entries than are looked at.
-/
import Derived.Test.YtodcmhmankmaoaaGreatJ6
namespace Go.Proofs.YtodcmhmankmaoaaGreat
open Go.RowKit
set_option linter.unusedSimpArgs false
set_option linter.unusedVariables false

def farE (e : E3) : Prop := 300 < e.1.size ∨ 300 < e.2.1.size ∨ 1099511627776 < e.2.2
/-- What is not more: few entries, small ones. -/
def FewE (l : List E3) : Prop := l.length ≤ 60 ∧ ∀ e ∈ l, e.1.size ≤ 300 ∧ e.2.1.size ≤ 300 ∧ e.2.2 ≤ 1099511627776
theorem few_of {l : List E3} (h : l.length ≤ 60) (ha : ∀ j, j < l.length → (l.getD j EK.d).1.size ≤ 300 ∧ (l.getD j EK.d).2.1.size ≤ 300 ∧ (l.getD j EK.d).2.2 ≤ 1099511627776) : FewE l := by
  refine ⟨h, fun e he => ?_⟩
  obtain ⟨j, hj, rfl⟩ := List.getElem_of_mem he
  have := ha j hj
  rw [List.getD, List.getElem?_eq_getElem hj] at this
  simpa only [Option.getD_some] using this
set_option maxHeartbeats 2000000 in
theorem many_any (a : Option Addr) (n c : Nat) (l : List E3) (w : World) (hR : EK.Rd w (.slice a n c) l) (hn : n = l.length) (hn63 : n ≤ 9223372036854775807) :
    Calls Tryz.prog 7 #[.slice a n c] w fun e w' => (e = .returned (.bool false) ∧ FewE l ∧ w = w') ∨ (e = .returned (.bool true) ∧ w = w') := by
  have HR := Lib.hid hR
  have HN := Lib.hid hn
  have hn1 : (n : Int) ≤ 9223372036854775807 := by omega
  clear hR hn
  go_enter Tryz.func7, Tryz.ntmps7
  go_wp2_with fail
  go_loop [3] (fun i => ∃ k : Nat, k ≤ n ∧ k ≤ 61 ∧ i = .int .i64 k ∧ Hid (∀ j, j < k → (l.getD j EK.d).1.size ≤ 300 ∧ (l.getD j EK.d).2.1.size ≤ 300 ∧ (l.getD j EK.d).2.2 ≤ 1099511627776)) (fun i => 61 - (intOf i).toNat)
  case atStart => exact ⟨0, by omega, by omega, rfl, Lib.hid (fun j hj => by omega)⟩
  case round =>
    obtain ⟨k, hk, hk2, rfl, hF⟩ := hrel
    by_cases hlt : k < n
    · have hlt' : (k : Int) < (n : Int) := by omega
      by_cases h60 : k ≤ 60
      · have h60' : (k : Int) ≤ 60 := by omega
        obtain ⟨-, g, off, ha, hg, m0, m1, m2, hkl⟩ := entCell HR.out k hlt
        obtain ⟨⟨ep, ev, en⟩, hE⟩ : ∃ E, l.getD k EK.d = E := ⟨_, rfl⟩
        rw [hE] at m0 m1 m2
        simp only at m0 m1 m2
        have HE := Lib.hid hE
        subst ha
        clear hE hkl hg
        by_cases y1 : (300 : Int) < ep.size
        · clear hF
          go_wp2
          go_ret
          exact .inr ⟨rfl, rfl⟩
        · by_cases y2 : (300 : Int) < ev.size
          · clear hF
            go_wp2
            go_ret
            exact .inr ⟨rfl, rfl⟩
          · by_cases y3 : (1099511627776 : Int) < en
            · clear hF
              go_wp2
              go_ret
              exact .inr ⟨rfl, rfl⟩
            · have hF2 : Hid (∀ j, j < k + 1 → (l.getD j EK.d).1.size ≤ 300 ∧ (l.getD j EK.d).2.1.size ≤ 300 ∧ (l.getD j EK.d).2.2 ≤ 1099511627776) := Lib.hid (fun j hj => by
                by_cases e : j = k
                · subst e; rw [HE.out]; simp only; omega
                · exact hF.out j (by omega))
              clear hF
              go_wp2
              go_round
              case rel => exact ⟨k + 1, by omega, by omega, by go_num, hF2⟩
              case measure => simp [intOf]; omega
      · have h60' : ¬ (k : Int) ≤ 60 := by omega
        have g1 : ((60 : Int) < (n : Int)) := by omega
        have g2 : 60 < n := by omega
        clear hF
        go_wp2
        go_ret
        exact .inr ⟨rfl, rfl⟩
    · obtain rfl : n = k := by omega
      have hlt' : ¬ (n : Int) < (n : Int) := by omega
      by_cases g2 : 60 < n
      · have g1 : ((60 : Int) < (n : Int)) := by omega
        clear hF
        go_wp2
        go_ret
        exact .inr ⟨rfl, rfl⟩
      · have g1 : ¬ ((60 : Int) < (n : Int)) := by omega
        have HFew : Hid (FewE l) := Lib.hid (few_of (by have := HN.out; omega) (fun j hj => hF.out j (by have := HN.out; omega)))
        clear hF
        go_wp2
        go_ret
        exact .inl ⟨rfl, HFew.out, rfl⟩
end Go.Proofs.YtodcmhmankmaoaaGreat
