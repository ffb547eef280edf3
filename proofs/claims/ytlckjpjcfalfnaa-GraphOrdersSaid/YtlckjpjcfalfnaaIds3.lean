/-
  The walk of package ids' setOf.
-/
import Derived.Test.YtlckjpjcfalfnaaIds2
import Derived.WalkSpells
namespace Go.Proofs.Ytlckjpjcfalfnaa
open Go.RowKit Go.Sort
set_option linter.unusedSimpArgs false
set_option linter.unusedVariables false

/-- A set of instances in memory. -/
def SetAt (w : World) (b : Nat) (l : List I3) : Prop := ∃ (D : DataW Unit) (m : Nat), m ≤ 5000 ∧ w.ownsMap (H := Unit) Try.prog 25 unitElem b m D ∧ SetIs D l
def SetP (l : List I3) (w : World) (e : Ending) (w' : World) : Prop := e = .returned (.map (some w.heap.size)) ∧ SetAt w' w.heap.size l ∧ Below w.heap.size w w'
theorem idE_list (x : I3) : (Value.agg #[.int .i64 x.1, .int .i64 x.2.1, .int .i64 x.2.2]) = .agg (idE x).toArray := rfl
theorem idCell {w : World} {a : Option Addr} {n c : Nat} {l : List I3} (h : IK.Rd w (.slice a n c) l) (k : Nat) (hk : k < n) : n = l.length ∧ ∃ g off, a = some ⟨g, off, none⟩ ∧ g < w.heap.size ∧
    w.cell? ⟨g, off + k * 3, none⟩ = some (.int .i64 (l.getD k (0, 0, 0)).1) ∧ w.cell? ⟨g, off + k * 3 + 1, none⟩ = some (.int .i64 (l.getD k (0, 0, 0)).2.1) ∧ w.cell? ⟨g, off + k * 3 + 2, none⟩ = some (.int .i64 (l.getD k (0, 0, 0)).2.2) ∧ k < l.length := by
  have hl : l ≠ [] := by
    intro e
    obtain ⟨a', c', e', _⟩ := h
    subst e
    simp at e'
    omega
  obtain ⟨hn, g, off, rfl, hg, hc⟩ := h.at hl
  exact ⟨hn, g, off, rfl, hg, hc k hk 0 _ rfl, hc k hk 1 _ rfl, hc k hk 2 _ rfl, by omega⟩
set_option maxRecDepth 100000 in
set_option maxHeartbeats 2000000 in
theorem setOf_any (g c n : Nat) (vs : List Value) (ls : List (List I3)) (w : World) (h1 : vs.length = n) (h2 : ls.length = n) (hn : n ≤ 2) (hg : g < w.heap.size)
    (hc : ∀ i, i < n → w.cell? ⟨g, i, none⟩ = some (vs.getD i undef)) (hr : ∀ i, i < n → IK.Rd w (vs.getD i undef) (ls.getD i [])) (hok : ∀ i, i < n → okL (ls.getD i [])) (hb : ∀ i, i < n → (ls.getD i []).length ≤ 1000) :
    Calls Try.prog 43 #[.slice (some ⟨g, 0, none⟩) n c] w (SetP ls.flatten w) := by
  have hmm := @run_makeMap Try.prog
  have HC := Lib.hid hc
  have HR := Lib.hid hr
  have HOK := Lib.hid hok
  have HB := Lib.hid hb
  have H2 := Lib.hid h2
  have hM0 : (w.alloc (.map #[] 0)).ownsMap (H := Unit) Try.prog 25 unitElem w.heap.size 0 (.map []) := World.ownsMap_made _ _ _ _
  have HM0 := Lib.hid hM0
  have HW0 : Hid (Below w.heap.size w (w.alloc (.map #[] 0))) := Lib.hid ((Below.refl _ _).alloc (Nat.le_refl _) _)
  clear hc hr hok hb h2 h1 hM0
  go_enter Try.func43, Try.ntmps43
  go_wp2_with fail
  go_loopw [11] (fun i wr => ∃ (k : Nat) (D : DataW Unit) (m : Nat), k ≤ n ∧ i = .int .i64 k ∧ Hid (m ≤ k * 1000) ∧ Hid (wr.ownsMap (H := Unit) Try.prog 25 unitElem w.heap.size m D) ∧ Hid (SetIs D (ls.take k).flatten) ∧ Hid (Below w.heap.size w wr)) (fun i _ => n - (intOf i).toNat)
  case atStart => exact ⟨0, _, 0, Nat.zero_le _, rfl, Lib.hid (Nat.zero_le _), HM0, Lib.hid SetIs.empty, HW0⟩
  case round =>
    clear HM0 HW0
    obtain ⟨k, D, m, hk, rfl, hmk, hM, hS, hB⟩ := hrel
    by_cases hlt : k < n
    · have hlt' : (k : Int) < (n : Int) := by omega
      have hkb : (k : Int) ≤ 10 := by omega
      have hz := hB.out.size
      have hc := (hB.out.cell (p := ⟨g, k, none⟩) hg).trans (HC.out k hlt)
      have hrd := HR.out k hlt
      obtain ⟨v, hv⟩ : ∃ v, vs.getD k undef = v := ⟨_, rfl⟩
      obtain ⟨l, hl⟩ : ∃ l, ls.getD k [] = l := ⟨_, rfl⟩
      have hok := HOK.out k hlt
      have hln := HB.out k hlt
      rw [hv] at hc
      rw [hv, hl] at hrd
      rw [hl] at hok hln
      obtain ⟨a, cc, hve⟩ := hrd.slice
      subst hve
      obtain ⟨N, hN⟩ : ∃ N, l.length = N := ⟨_, rfl⟩
      rw [hN] at hrd hc hln
      have HL : Hid (l = ls.getD k []) := Lib.hid hl.symm
      have HN := Lib.hid hN
      have HRD := Lib.hid hrd
      have HOKL := Lib.hid hok
      clear hl hN hrd hok hv
      go_wp2_with fail
      clear hc
      obtain ⟨wo, hwo⟩ : ∃ wo : World, wo = wr := ⟨_, rfl⟩
      subst hwo
      go_loopw [17] (fun i wr => ∃ (j : Nat) (D : DataW Unit) (m : Nat), j ≤ N ∧ i = .int .i64 j ∧ Hid (m ≤ k * 1000 + j) ∧ Hid (wr.ownsMap (H := Unit) Try.prog 25 unitElem w.heap.size m D) ∧ Hid (SetIs D ((ls.take k).flatten ++ l.take j)) ∧ Hid (Below w.heap.size w wr)) (fun i _ => N - (intOf i).toNat)
      case atStart => exact ⟨0, D, m, Nat.zero_le _, rfl, hmk, hM, Lib.hid (by simpa using hS.out), hB⟩
      case round =>
        clear hM hS hB hmk hz
        obtain ⟨j, D, m, hj, rfl, hmj, hM, hS, hB⟩ := hrel
        by_cases hltj : j < N
        · have hltj' : (j : Int) < (N : Int) := by omega
          have hjb : (j : Int) ≤ 1000 := by omega
          obtain ⟨e0, g2, off2, ha, hg2, q1, q2, q3, hjl⟩ := idCell (HRD.out.below hB.out) j hltj
          obtain ⟨X, hX⟩ : ∃ X, l.getD j (0, 0, 0) = X := ⟨_, rfl⟩
          rw [hX] at q1 q2 q3
          have hXm : X ∈ l := by rw [← hX]; simp [List.getD, hjl]
          have HKX := Lib.hid (HOKL.out X hXm)
          have HKEY := Lib.hid (kf_key (HOKL.out X hXm))
          have HTK : Hid (l.take j ++ [X] = l.take (j + 1)) := Lib.hid (by rw [List.take_succ_eq_append_getElem hjl, ← hX]; simp [List.getD, hjl])
          have hm' : m < maxLen := by have := hmj.out; unfold maxLen; omega
          have hbs : w.heap.size ≤ wr.heap.size := hB.out.size
          subst ha
          clear hX hXm hjl e0
          go_wp2_with (at_mapUpdate; refine wpList_mapUpdate_own _ rfl _ _ _ 70 rfl 25 71 idLaw Try.underlying70 unitElem w.heap.size m _ rfl (hM.out.alloc _) hm' _ _ (kf X) rfl rfl HKEY.out (.agg []) [] unitElem_mk ?_)
          intro w6 hown6 hg6
          have hM6 := Lib.hid hown6
          have hS6 : Hid (SetIs (D.put (kf X) (.agg [])) ((ls.take k).flatten ++ l.take (j + 1))) := Lib.hid (by
            rw [← HTK.out, ← List.append_assoc]
            exact hS.out.put HKX.out _)
          have hB6 : Hid (Below w.heap.size w w6) := Lib.hid ((hB.out.alloc hbs _).grown hg6 (by simp; omega) (fun i hi => by simp only [Option.some.injEq] at hi; omega))
          have hmj6 : Hid (m + 1 ≤ k * 1000 + (j + 1)) := Lib.hid (by have := hmj.out; omega)
          clear hown6 hg6 hM hS hB hmj hm' q1 q2 q3 hg2 hbs
          go_wp2
          go_roundw
          case rel => exact ⟨j + 1, _, _, by omega, by go_num, hmj6, hM6, hS6, hB6⟩
          case measure => simp [intOf]; omega
        · obtain rfl : j = N := by omega
          have hS2 : Hid (SetIs D (ls.take (k + 1)).flatten) := Lib.hid (by
            have h := hS.out
            rw [List.take_of_length_le (l := l) (by rw [HN.out]; exact Nat.le_refl _)] at h
            have hk2 : k < ls.length := by rw [H2.out]; exact hlt
            rw [List.take_succ_eq_append_getElem hk2, List.flatten_append]
            have e : [ls[k]].flatten = l := by rw [HL.out]; simp [List.getD, hk2]
            rw [e]
            exact h)
          have hmk2 : Hid (m ≤ (k + 1) * 1000) := Lib.hid (by have := hmj.out; rw [Nat.add_mul]; omega)
          clear hS hmj
          go_wp2
          go_roundw
          case rel => exact ⟨k + 1, D, m, by omega, by go_num, hmk2, hM, hS2, hB⟩
          case measure => simp [intOf]; omega
    · obtain rfl : k = n := by omega
      have hS2 : SetIs D ls.flatten := by
        have h := hS.out
        rwa [List.take_of_length_le (by rw [H2.out]; exact Nat.le_refl _)] at h
      have HS2 := Lib.hid hS2
      clear hS hS2
      go_wp2
      go_ret
      exact ⟨rfl, ⟨D, m, by have := hmk.out; omega, hM.out, HS2.out⟩, hB.out⟩
end Go.Proofs.Ytlckjpjcfalfnaa
