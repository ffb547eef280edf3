/-
  The walks of package ids' without and risen.
-/
import Derived.Test.YtlckjpjcfalfnaaIds3
import Derived.Test.YtlckjpjcfalfnaaRowS
import Derived.Shelf.Lay
import Derived.Ground.SlsfProg
namespace Go.Proofs.Ytlckjpjcfalfnaa
open Go.RowKit Go.Sort Go.Shelf
set_option linter.unusedSimpArgs false
set_option linter.unusedVariables false

def SetQ (l : List I3) (w : World) (e : Ending) (w' : World) : Prop := ∃ b, w.heap.size ≤ b ∧ e = .returned (.map (some b)) ∧ SetAt w' b l ∧ Below w.heap.size w w'
theorem SetAt.kept {w w' : World} {b : Nat} {l : List I3} {row : Option Nat} (h : SetAt w b l) (hg : w.grownBy w' row) (hne : some b ≠ row) : SetAt w' b l := by
  obtain ⟨D, m, hm, ho, hs⟩ := h
  exact ⟨D, m, hm, ho.kept hg hne, hs⟩
theorem SetAt.below {w w' : World} {b : Nat} {l : List I3} (h : SetAt w b l) (hb : Below w.heap.size w w') : SetAt w' b l :=
  h.kept (row := none) ⟨hb.os, hb.tape, hb.output, hb.size, fun k hk _ => hb.block k hk⟩ (by simp)
theorem SetAt.lt {w : World} {b : Nat} {l : List I3} (h : SetAt w b l) : b < w.heap.size := by
  obtain ⟨D, m, hm, ho, hs⟩ := h
  exact ho.lt
theorem filter_take (a b : List I3) (j : Nat) (X : I3) (hX : b.take j ++ [X] = b.take (j + 1)) : (a.filter fun x => !hasI (b.take j) x).filter (fun y => decide (y ≠ X)) = a.filter fun x => !hasI (b.take (j + 1)) x := by
  rw [List.filter_filter, ← hX]
  congr 1
  funext x
  rw [hasI_app]
  have : hasI [X] x = decide (x = X) := by unfold hasI; simp [eq_comm]
  rw [this]
  by_cases e : x = X <;> simp [e]
set_option maxRecDepth 100000 in
set_option maxHeartbeats 2000000 in
theorem without_any (va vb : Value) (a b : List I3) (w : World) (ha : IK.Rd w va a) (hb : IK.Rd w vb b) (oa : okL a) (ob : okL b) (la : a.length ≤ 1000) (lb : b.length ≤ 1000) :
    Calls Try.prog 41 #[va, vb] w (SetQ (a.filter fun x => !hasI b x) w) := by
  have hbx : Below w.heap.size w (w.alloc (.cells #[va] 23)) := (Below.refl _ _).alloc (Nat.le_refl _) _
  have cS := setOf_any w.heap.size 1 1 [va] [a] (w.alloc (.cells #[va] 23)) rfl rfl (by omega) (by simp)
    (fun i hi => by obtain rfl : i = 0 := by omega
                    exact new_cell w #[va] 23 0)
    (fun i hi => by obtain rfl : i = 0 := by omega
                    exact ha.below hbx)
    (fun i hi => by obtain rfl : i = 0 := by omega
                    exact oa)
    (fun i hi => by obtain rfl : i = 0 := by omega
                    exact la)
  have HCS := Lib.hid cS
  have HBX := Lib.hid hbx
  obtain ⟨ada, ca, eva⟩ := ha.slice
  obtain ⟨adb, cb, evb⟩ := hb.slice
  obtain ⟨N, hN⟩ : ∃ N, b.length = N := ⟨_, rfl⟩
  subst eva
  subst evb
  rw [hN] at hb lb
  rw [hN]
  have HN := Lib.hid hN
  have HRB := Lib.hid hb
  have HOB := Lib.hid ob
  clear cS hbx hb ob ha oa la hN
  go_enter Try.func41, Try.ntmps41
  go_wp2_with fail
  refine HCS.out.mono ?_
  rintro e w1 ⟨rfl, hs1, hb1⟩
  simp only [World.size_alloc] at hs1 hb1
  have hbW : Below w.heap.size w w1 := HBX.out.trans (hb1.mono (by omega))
  have HS1 := Lib.hid hs1
  have HBW := Lib.hid hbW
  clear hs1 hb1 hbW HCS HBX
  simp only [World.size_alloc]
  go_wp2_with fail
  go_loopw [13] (fun i wr => ∃ (j : Nat), j ≤ N ∧ i = .int .i64 j ∧ Hid (SetAt wr (w.heap.size + 1) (a.filter fun x => !hasI (b.take j) x)) ∧ Hid (Below w.heap.size w wr)) (fun i _ => N - (intOf i).toNat)
  case atStart =>
    refine ⟨0, Nat.zero_le _, rfl, ?_, HBW⟩
    have e : ([a].flatten) = a.filter fun x => !hasI (b.take 0) x := by
      simp only [List.flatten_cons, List.flatten_nil, List.append_nil, List.take_zero]
      exact (List.filter_eq_self.2 (fun x _ => rfl)).symm
    rw [← e]
    exact HS1
  case round =>
    clear HS1 HBW
    obtain ⟨j, hj, rfl, hS, hB⟩ := hrel
    by_cases hltj : j < N
    · have hltj' : (j : Int) < (N : Int) := by omega
      have hjb : (j : Int) ≤ 1000 := by omega
      obtain ⟨e0, g2, off2, hda, hg2, q1, q2, q3, hjl⟩ := idCell (HRB.out.below hB.out) j hltj
      obtain ⟨X, hX⟩ : ∃ X, b.getD j (0, 0, 0) = X := ⟨_, rfl⟩
      rw [hX] at q1 q2 q3
      have hXm : X ∈ b := by rw [← hX]; simp [List.getD, hjl]
      have HKX := Lib.hid (HOB.out X hXm)
      have HKEY := Lib.hid (kf_key (HOB.out X hXm))
      have HTK : Hid (b.take j ++ [X] = b.take (j + 1)) := Lib.hid (by rw [List.take_succ_eq_append_getElem hjl, ← hX]; simp [List.getD, hjl])
      have hbs : w.heap.size ≤ wr.heap.size := hB.out.size
      obtain ⟨D, m, hm, hM, hD⟩ := hS.out
      have HMM := Lib.hid hM
      have HDD := Lib.hid hD
      have HM5 := Lib.hid hm
      subst hda
      clear hX hXm hjl e0 hM hD hm hS
      go_wp2_with (at_delete; refine wpList_delete_own _ rfl _ _ 70 25 rfl 71 idLaw Try.underlying70 unitElem (w.heap.size + 1) m _ rfl (HMM.out.alloc _) _ (kf X) rfl HKEY.out ?_)
      intro w6 hown6 hg6
      have hS6 : Hid (SetAt w6 (w.heap.size + 1) (a.filter fun x => !hasI (b.take (j + 1)) x)) := Lib.hid ⟨_, m, HM5.out, hown6, by
        rw [← filter_take a b j X HTK.out]
        exact HDD.out.del HKX.out⟩
      have hB6 : Hid (Below w.heap.size w w6) := Lib.hid ((hB.out.alloc hbs _).grown hg6.grown (by simp; omega) (fun i hi => by simp only [Option.some.injEq] at hi; omega))
      clear hown6 hg6 HMM HDD HM5 hB q1 q2 q3 hg2 hbs
      go_wp2
      go_roundw
      case rel => exact ⟨j + 1, by omega, by go_num, hS6, hB6⟩
      case measure => simp [intOf]; omega
    · obtain rfl : j = N := by omega
      have hS2 := hS.out
      rw [List.take_of_length_le (by rw [HN.out]; exact Nat.le_refl _)] at hS2
      have HS2 := Lib.hid hS2
      clear hS hS2
      go_wp2
      go_ret
      exact ⟨_, Nat.le_succ _, rfl, HS2.out, hB.out⟩
end Go.Proofs.Ytlckjpjcfalfnaa
