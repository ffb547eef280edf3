/-
  Graph: groups are sorted by numbers.
-/
import Derived.Test.YtlckjpjcfalfnaaGh
import Derived.Shelf.SlSortCmp.InsertionK
namespace Go.Proofs.Ytlckjpjcfalfnaa
open Go.RowKit Go.Sort Go.Shelf
open Go.WideMaps
set_option linter.unusedSimpArgs false
set_option linter.unusedVariables false
set_option maxRecDepth 100000

shelf_lay_g SlLaysF0.n20 Slsf 20 at Try 69 as Try.insIds
def cmpZ (x y : Int) : Int := if x < y then -1 else if y < x then 1 else 0
theorem cmpI_any (x y : Int) (w : World) : Calls Try.prog 63 #[.int .i64 x, .int .i64 y] w fun e w' => e = .returned (.int .i64 (cmpZ x y)) ∧ w = w' := by
  unfold cmpZ
  by_cases h1 : x < y
  · have h2 : decide (x < y) = true := decide_eq_true h1
    rw [if_pos h1]
    go_enter Try.func63, Try.ntmps63
    go_wp2
    go_ret
    exact ⟨rfl, rfl⟩
  · have h2 : decide (x < y) = false := decide_eq_false h1
    rw [if_neg h1]
    by_cases h3 : y < x
    · have h4 : decide (y < x) = true := decide_eq_true h3
      rw [if_pos h3]
      go_enter Try.func63, Try.ntmps63
      go_wp2
      go_ret
      exact ⟨rfl, rfl⟩
    · have h4 : decide (y < x) = false := decide_eq_false h3
      rw [if_neg h3]
      go_enter Try.func63, Try.ntmps63
      go_wp2
      go_ret
      exact ⟨rfl, rfl⟩
section
variable {α : Type} [Inhabited α]
set_option maxHeartbeats 4000000 in
theorem stableM_any (enc : α → List Value) (hk : ∀ x, (enc x).length = 3) (h1 : ∀ x, ∀ v ∈ enc x, v.oneCell' = true) (cf : α → α → Int) (g : Nat) (cb : Array Value) (blk off cap : Nat) (d : Array α) (w : World)
    (eg : ∀ args w, (callFunc g args).run Try.prog w = .ok (.enter g args) w) (hcmp : CmpLays Try.prog g cb enc 3 cf blk off d.size w) (hH : HoldsK enc 3 w blk off d) (hblk : blk < w.heap.size) (N : Nat) (hN : d.size = N) (hsz : N < 20) :
    Calls Try.prog 67 #[.slice (some ⟨blk, off, none⟩) N cap, .int .i64 N, .func (.func g) #[] cb] w fun e w' => e = .returned (.tuple #[]) ∧ ∃ n os, w' = sortWorldK enc 3 w blk off n (Sort.insertionSort (ltOf cf) d 0 d.size) os := by
  have hcon := AnyQ.insertionSortCmpFunc Try.insIds 3 Try.isAgg25 Try.sizeOf25 enc hk h1 cf g cb blk off cap 0 d.size d w eg hcmp hH hblk (Nat.zero_le _) (Nat.le_refl _) (by omega)
  change Calls Try.prog 69 #[.slice (some ⟨blk, off, none⟩) d.size cap, .int .i64 0, .int .i64 d.size, .func (.func g) #[] cb] w _ at hcon
  have hq : Hid (∀ n os, ∃ n' os', sortWorldK enc 3 w blk off n (Sort.insertionSort (ltOf cf) d 0 d.size) os = sortWorldK enc 3 w blk off n' (Sort.insertionSort (ltOf cf) d 0 d.size) os') := Lib.hid fun n os => ⟨n, os, rfl⟩
  rw [hN] at hcon hq ⊢
  have HCON := Lib.hid hcon
  have g1 : decide ((20 : Int) ≤ (N : Int)) = false := decide_eq_false (by omega)
  have g2 : decide ((20 : Int) < (N : Int)) = false := decide_eq_false (by omega)
  have g3 : ¬ ((20 : Int) ≤ (N : Int)) := by omega
  have g4 : ¬ ((20 : Int) < (N : Int)) := by omega
  clear hcon hcmp hH hN
  go_enter Try.func67, Try.ntmps67
  go_wp2_with fail
  go_loopw [7, 8] (fun s7 s8 wr => s7 = .int .i64 0 ∧ s8 = .int .i64 20 ∧ wr = w) (fun _ _ _ => 0)
  case atStart => exact ⟨rfl, rfl, rfl⟩
  case round =>
    obtain ⟨rfl, rfl, rfl⟩ := hrel
    go_wp2_with fail
    refine HCON.out.mono ?_
    rintro e w2 ⟨rfl, n2, os2, hw2⟩
    have HW2 := Lib.hid hw2
    clear hw2 hq
    go_wp2_with fail
    go_loopw [6] (fun s6 wr => s6 = .int .i64 20 ∧ wr = w2) (fun _ _ => 0)
    case atStart => exact ⟨rfl, rfl⟩
    case round =>
      obtain ⟨rfl, rfl⟩ := hrel
      go_wp2
      go_end0
      exact ⟨rfl, n2, os2, HW2.out⟩
set_option maxHeartbeats 4000000 in
theorem stable_any (enc : α → List Value) (hk : ∀ x, (enc x).length = 3) (h1 : ∀ x, ∀ v ∈ enc x, v.oneCell' = true) (cf : α → α → Int) (g : Nat) (cb : Array Value) (blk off cap : Nat) (d : Array α) (w : World)
    (eg : ∀ args w, (callFunc g args).run Try.prog w = .ok (.enter g args) w) (hcmp : CmpLays Try.prog g cb enc 3 cf blk off d.size w) (hH : HoldsK enc 3 w blk off d) (hblk : blk < w.heap.size) (N : Nat) (hN : d.size = N) (hsz : N < 20) :
    Calls Try.prog 61 #[.slice (some ⟨blk, off, none⟩) N cap, .func (.func g) #[] cb] w fun e w' => e = .returned (.tuple #[]) ∧ ∃ n os, w' = sortWorldK enc 3 w blk off n (Sort.insertionSort (ltOf cf) d 0 d.size) os := by
  have HC := Lib.hid (stableM_any enc hk h1 cf g cb blk off cap d w eg hcmp hH hblk N hN hsz)
  clear hcmp hH
  go_enter Try.func61, Try.ntmps61
  go_wp2_with fail
  refine HC.out.mono ?_
  rintro e w2 ⟨rfl, n2, os2, hw2⟩
  have HW2 := Lib.hid hw2
  clear hw2 HC
  go_wp2
  go_end0
  exact ⟨rfl, n2, os2, HW2.out⟩
end
theorem field_a0 (s : Int) (v : Value) (w : World) : Sem.run Try.prog (Instr.field 44 (.agg #[.int .i64 s, v]) 0) w = .ok (.int .i64 s) w := by kernel_rfl
/-- A node's number, as the nodes have it. -/
def sqOf (web : List (I3 × NV)) (x : I3) : Int := (ndOf web x).d.sq
theorem MV.nd {w : World} {b : Nat} {web : List (I3 × NV)} (h : MV ndV w b web) (i1 i2 i3 : Int) (hx : okI (i1, i2, i3)) {n : NV} (hn : ndOf web (i1, i2, i3) = n) : (Instr.lookup 53 (.map (some b)) (.agg #[.int .i64 i1, .int .i64 i2, .int .i64 i3]) false).run Try.prog w = .ok (ndV n) w := by
  have q := h.look (t := 53) Try.underlying53 (zeroNd w) (x := (i1, i2, i3)) hx
  rw [look_ndV, hn] at q
  exact q
set_option maxHeartbeats 4000000 in
theorem lessG_any {w : World} {m bw g : Nat} {web : List (I3 × NV)} {cs : List Value} (hp : Bk w g 83 [.pointer (some ⟨m + 3, 0, none⟩)]) (hf : Bk w (m + 3) 63 (.map (some bw) :: cs)) (hM : MV ndV w bw web) (a1 a2 a3 b1 b2 b3 : Int) (ha : okI (a1, a2, a3)) (hb : okI (b1, b2, b3)) :
    Calls Try.prog 62 #[.agg #[.int .i64 a1, .int .i64 a2, .int .i64 a3], .agg #[.int .i64 b1, .int .i64 b2, .int .i64 b3], .pointer (some ⟨g, 0, none⟩)] w fun e w' => e = .returned (.int .i64 (cmpZ (sqOf web (a1, a2, a3)) (sqOf web (b1, b2, b3)))) ∧ Grew w w' := by
  obtain ⟨X, hX⟩ : ∃ X, (w.alloc (.cells #[.int .i64 a1, .int .i64 a2, .int .i64 a3] 25)).alloc (.cells #[.int .i64 b1, .int .i64 b2, .int .i64 b3] 25) = X := ⟨_, rfl⟩
  have hgr : Grew w X := by rw [← hX]; exact grew_two w _ _
  have hbX : Below w.heap.size w X := hgr.below
  obtain ⟨z, hz⟩ : ∃ q, w.heap.size = q := ⟨_, rfl⟩
  have hA : Bk X z 25 [.int .i64 a1, .int .i64 a2, .int .i64 a3] := by rw [← hX]; exact (Bk.newAg hz _ [.int .i64 a1, .int .i64 a2, .int .i64 a3]).old _
  have hB : Bk X (z + 1) 25 [.int .i64 b1, .int .i64 b2, .int .i64 b3] := by rw [← hX]; exact Bk.newAg (by simp [hz]) _ [.int .i64 b1, .int .i64 b2, .int .i64 b3]
  have d0 := Bk.cell (hp.below hbX) 0
  have c0 := Bk.cell (hf.below hbX) 0
  have k0 := hA.cell 0
  have k1 := hA.cell 1
  have k2 := hA.cell 2
  have l0 := hB.cell 0
  have l1 := hB.cell 1
  have l2 := hB.cell 2
  simp only [List.getElem?_cons_zero, List.getElem?_cons_succ] at d0 c0 k0 k1 k2 l0 l1 l2
  unfold sqOf
  obtain ⟨n1, hn1⟩ : ∃ q, ndOf web (a1, a2, a3) = q := ⟨_, rfl⟩
  obtain ⟨n2, hn2⟩ : ∃ q, ndOf web (b1, b2, b3) = q := ⟨_, rfl⟩
  have lkA := fun n => ((hM.below hbX).below (below_drewNA (Below.refl _ _) n)).nd a1 a2 a3 ha hn1
  have lkB := fun n => ((hM.below hbX).below (below_drewNA (Below.refl _ _) n)).nd b1 b2 b3 hb hn2
  rw [hn1, hn2]
  obtain ⟨⟨⟨p1, p2, p3⟩, ps, pl⟩, pa, pc⟩ := n1
  obtain ⟨⟨⟨q1, q2, q3⟩, qs, ql⟩, qa, qc⟩ := n2
  simp only [ndV] at lkA lkB
  obtain ⟨Pl, hPl⟩ : ∃ q, pl.length = q := ⟨_, rfl⟩
  obtain ⟨Ql, hQl⟩ : ∃ q, ql.length = q := ⟨_, rfl⟩
  rw [hPl] at lkA
  rw [hQl] at lkB
  have fA1 := fun W => field_n1 p1 p2 p3 ps (.slice pa Pl pc) W
  have fB1 := fun W => field_n1 q1 q2 q3 qs (.slice qa Ql qc) W
  have fA0 := fun W => field_a0 ps (.slice pa Pl pc) W
  have fB0 := fun W => field_a0 qs (.slice qa Ql qc) W
  have HC := Lib.hid (fun W => cmpI_any ps qs W)
  have HG := Lib.hid hgr
  clear hp hf hM hbX hA hB hn1 hn2 hgr hPl hQl
  go_enter Try.func62, Try.ntmps62
  go_upto_region 1 with fail
  try rw [hX]
  try rw [hz]
  clear hX hz
  go_quiet ((go_at_call 63; exact Calls.quiet_of_same ((HC.out _).mono fun _ _ h => ⟨h.1, h.2.symm⟩)))
  generalize hwz : World.drewN _ _ = wz
  have HGz : Hid (Grew w wz) := Lib.hid (by
    rw [← hwz]
    obtain ⟨k, os, e⟩ := HG.out
    rw [e]
    exact Grew.trans ⟨k, os, rfl⟩ ⟨_, #[], by rw [grow_empty]⟩)
  clear hwz d0 c0 k0 k1 k2 l0 l1 l2 lkA lkB fA1 fB1 fA0 fB0
  go_wp2
  go_ret
  exact ⟨rfl, HGz.out⟩
end Go.Proofs.Ytlckjpjcfalfnaa
