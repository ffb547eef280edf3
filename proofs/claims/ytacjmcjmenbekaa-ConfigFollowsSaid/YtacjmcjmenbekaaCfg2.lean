/-
  The walks of package config: lists of nodes.
-/
import Derived.Test.YtacjmcjmenbekaaCfg
namespace Go.Proofs.Ytacjmcjmenbekaa
open Go.RowKit
set_option linter.unusedSimpArgs false
set_option linter.unusedVariables false

theorem it_one (w : World) (x : Int) (e : TypeId) (fr : Nat × Nat) : It (w.alloc (.cells #[.int .i64 x] e fr)) (.slice (some ⟨w.heap.size, 0, none⟩) 1 1) [x] := by
  refine ⟨some ⟨w.heap.size, 0, none⟩, 1, rfl, ⟨by simp, .inr ⟨w.heap.size, 0, rfl, by simp, fun i hi => ?_⟩⟩, (fun h => by cases h), by simp, by omega⟩
  simp at hi
  subst hi
  have := cell_of_row _ _ 0 _ _ _ (heap_alloc_new w (.cells #[.int .i64 x] e fr))
  simpa using this
/-- What picking comes to. -/
def PickPost (xs : List Int) (w : World) (e : Ending) (w' : World) : Prop := ∃ v', Hid (e = .returned v') ∧ ItF w' w.heap.size v' xs ∧ Below w.heap.size w w'
set_option maxHeartbeats 1000000 in
theorem pick_w (p : Int → Bool) (g : Nat) (a : Option Addr) (cap : Nat) (ns : List Int) (w : World) (hr : IRow w a ns) (hn : ns.length ≤ 1000)
    (hf : ∀ (n : Int) (W : World), Below w.heap.size w W → Calls Try.prog 38 #[.int .i64 n, .pointer (some ⟨g, 0, none⟩)] W fun e W' => e = .returned (.bool (p n)) ∧ Below W.heap.size W W') :
    Calls Try.prog 33 #[.slice a ns.length cap, .func (.func 38) #[] #[.pointer (some ⟨g, 0, none⟩)]] w (PickPost (ns.filter p) w) := by
  obtain ⟨hl, hrow⟩ := hr
  have HF := Lib.hid hf
  clear hf
  have HROW := Lib.hid hrow
  clear hrow
  go_enter Try.func33, Try.ntmps33
  go_wp2
  go_loopw [5, 10] (fun v i wr => ∃ k : Nat, k ≤ ns.length ∧ i = .int .i64 k ∧ Hid (OwnI wr w.heap.size v ((ns.take k).filter p)) ∧ Hid (Below w.heap.size w wr)) (fun _ i _ => ns.length - (intOf i).toNat)
  case atStart => exact ⟨0, Nat.zero_le _, rfl, Lib.hid (OwnI.nil w w.heap.size), Lib.hid (Below.refl _ _)⟩
  case round =>
    obtain ⟨k, hk, rfl, hO, hB⟩ := hrel
    by_cases hlt : k < ns.length
    · rcases HROW.out with h0 | ⟨b, off, rfl, hb, hc⟩
      · rw [h0] at hlt; simp at hlt
      · have hcell := (hB.out.cell (p := ⟨b, off + k, none⟩) hb).trans (hc k hlt)
        have ts := take_succ_getD ns k hlt
        have hlen : ((ns.take k).filter p).length ≤ k := Nat.le_trans (List.length_filter_le _ _) (List.length_take_le _ _)
        obtain ⟨z, hz⟩ : ∃ z, ns.getD k 0 = z := ⟨_, rfl⟩
        rw [hz] at hcell ts
        clear hz hc
        have TS := Lib.hid ts
        clear ts
        cases q : p z
        · have Q1 := Lib.hid q
          have hs : Hid ((ns.take (k + 1)).filter p = (ns.take k).filter p) := by unfold Hid; rw [TS.out, List.filter_append]; simp [q]
          clear q
          go_wp2_with (go_at_call 38; refine (HF.out _ _ hB.out).mono ?_; rw [Q1.out]; rintro e W ⟨rfl, hb1⟩; have HB1 := Lib.hid hb1; clear hb1)
          go_roundw
          case rel => exact ⟨k + 1, by omega, by go_num, by rw [hs.out]; exact Lib.hid (hO.out.below HB1.out), Lib.hid (below_self hB.out HB1.out)⟩
          case measure => simp [intOf]; omega
        · have Q1 := Lib.hid q
          obtain ⟨fl, hfl⟩ : ∃ fl, (ns.take k).filter p = fl := ⟨_, rfl⟩
          have hs : Hid ((ns.take (k + 1)).filter p = fl ++ [z]) := by unfold Hid; rw [TS.out, List.filter_append, hfl]; simp [q]
          rw [hfl] at hO hlen
          clear q hfl
          go_wp2_with fail
          refine (HF.out _ _ hB.out).mono ?_
          rw [Q1.out]
          rintro e W ⟨rfl, hb1⟩
          have HB1 := Lib.hid hb1
          clear hb1
          have hz1 := HB1.out.size
          have hz2 := hB.out.size
          have HO2 := Lib.hid ((hO.out.below HB1.out).alloc (.cells #[.int .i64 z] 3))
          have HL := Lib.hid (it_one W z 3 (0, 0))
          have hz4 : w.heap.size ≤ (W.alloc (.cells #[.int .i64 z] 3)).heap.size := by simp; omega
          go_wp2_with (refine wpList_appI rfl _ _ rfl w.heap.size _ fl rfl HO2.out _ [z] rfl HL.out (by simp; omega) hz4 ?_)
          intro v' w' ho hb2 hz3 _
          have HO : Hid (OwnI w' w.heap.size v' (fl ++ [z])) := ho
          have HB2 : Hid (Below w.heap.size w w') := ((below_self hB.out HB1.out).alloc (by omega) _).trans hb2
          clear ho hb2
          go_wp2
          go_roundw
          case rel => exact ⟨k + 1, by omega, by go_num, by rw [hs.out]; exact HO, HB2⟩
          case measure => simp [intOf]; omega
    · have : k = ns.length := by omega
      subst this
      have hO' := hO.out
      rw [List.take_length] at hO'
      have hlen := List.length_filter_le p ns
      have HO := Lib.hid (hO'.itF (by omega))
      clear hO' hlen
      go_wp2
      go_ret
      exact ⟨_, rfl, HO.out, hB.out⟩
set_option maxHeartbeats 1000000 in
theorem pick_l (p : Int → Bool) (g : Nat) (a : Option Addr) (cap : Nat) (ns : List Int) (w : World) (hr : IRow w a ns) (hn : ns.length ≤ 1000)
    (hf : ∀ (n : Int) (W : World), Below w.heap.size w W → Calls Try.prog 34 #[.int .i64 n, .pointer (some ⟨g, 0, none⟩)] W fun e W' => e = .returned (.bool (p n)) ∧ Below W.heap.size W W') :
    Calls Try.prog 33 #[.slice a ns.length cap, .func (.func 34) #[] #[.pointer (some ⟨g, 0, none⟩)]] w (PickPost (ns.filter p) w) := by
  obtain ⟨hl, hrow⟩ := hr
  have HF := Lib.hid hf
  clear hf
  have HROW := Lib.hid hrow
  clear hrow
  go_enter Try.func33, Try.ntmps33
  go_wp2
  go_loopw [5, 10] (fun v i wr => ∃ k : Nat, k ≤ ns.length ∧ i = .int .i64 k ∧ Hid (OwnI wr w.heap.size v ((ns.take k).filter p)) ∧ Hid (Below w.heap.size w wr)) (fun _ i _ => ns.length - (intOf i).toNat)
  case atStart => exact ⟨0, Nat.zero_le _, rfl, Lib.hid (OwnI.nil w w.heap.size), Lib.hid (Below.refl _ _)⟩
  case round =>
    obtain ⟨k, hk, rfl, hO, hB⟩ := hrel
    by_cases hlt : k < ns.length
    · rcases HROW.out with h0 | ⟨b, off, rfl, hb, hc⟩
      · rw [h0] at hlt; simp at hlt
      · have hcell := (hB.out.cell (p := ⟨b, off + k, none⟩) hb).trans (hc k hlt)
        have ts := take_succ_getD ns k hlt
        have hlen : ((ns.take k).filter p).length ≤ k := Nat.le_trans (List.length_filter_le _ _) (List.length_take_le _ _)
        obtain ⟨z, hz⟩ : ∃ z, ns.getD k 0 = z := ⟨_, rfl⟩
        rw [hz] at hcell ts
        clear hz hc
        have TS := Lib.hid ts
        clear ts
        cases q : p z
        · have Q1 := Lib.hid q
          have hs : Hid ((ns.take (k + 1)).filter p = (ns.take k).filter p) := by unfold Hid; rw [TS.out, List.filter_append]; simp [q]
          clear q
          go_wp2_with (go_at_call 34; refine (HF.out _ _ hB.out).mono ?_; rw [Q1.out]; rintro e W ⟨rfl, hb1⟩; have HB1 := Lib.hid hb1; clear hb1)
          go_roundw
          case rel => exact ⟨k + 1, by omega, by go_num, by rw [hs.out]; exact Lib.hid (hO.out.below HB1.out), Lib.hid (below_self hB.out HB1.out)⟩
          case measure => simp [intOf]; omega
        · have Q1 := Lib.hid q
          obtain ⟨fl, hfl⟩ : ∃ fl, (ns.take k).filter p = fl := ⟨_, rfl⟩
          have hs : Hid ((ns.take (k + 1)).filter p = fl ++ [z]) := by unfold Hid; rw [TS.out, List.filter_append, hfl]; simp [q]
          rw [hfl] at hO hlen
          clear q hfl
          go_wp2_with fail
          refine (HF.out _ _ hB.out).mono ?_
          rw [Q1.out]
          rintro e W ⟨rfl, hb1⟩
          have HB1 := Lib.hid hb1
          clear hb1
          have hz1 := HB1.out.size
          have hz2 := hB.out.size
          have HO2 := Lib.hid ((hO.out.below HB1.out).alloc (.cells #[.int .i64 z] 3))
          have HL := Lib.hid (it_one W z 3 (0, 0))
          have hz4 : w.heap.size ≤ (W.alloc (.cells #[.int .i64 z] 3)).heap.size := by simp; omega
          go_wp2_with (refine wpList_appI rfl _ _ rfl w.heap.size _ fl rfl HO2.out _ [z] rfl HL.out (by simp; omega) hz4 ?_)
          intro v' w' ho hb2 hz3 _
          have HO : Hid (OwnI w' w.heap.size v' (fl ++ [z])) := ho
          have HB2 : Hid (Below w.heap.size w w') := ((below_self hB.out HB1.out).alloc (by omega) _).trans hb2
          clear ho hb2
          go_wp2
          go_roundw
          case rel => exact ⟨k + 1, by omega, by go_num, by rw [hs.out]; exact HO, HB2⟩
          case measure => simp [intOf]; omega
    · have : k = ns.length := by omega
      subst this
      have hO' := hO.out
      rw [List.take_length] at hO'
      have hlen := List.length_filter_le p ns
      have HO := Lib.hid (hO'.itF (by omega))
      clear hO' hlen
      go_wp2
      go_ret
      exact ⟨_, rfl, HO.out, hB.out⟩
end Go.Proofs.Ytacjmcjmenbekaa
