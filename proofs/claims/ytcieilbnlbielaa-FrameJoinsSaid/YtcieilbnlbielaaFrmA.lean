/-
  The walk of FrameAll.
-/
import Derived.Test.YtcieilbnlbielaaFrmS
namespace Go.Proofs.Ytcieilbnlbielaa
open Go.RowKit
set_option linter.unusedSimpArgs false
set_option linter.unusedVariables false

theorem allF_len (f : Nat) : ∀ (b : List Int), ∀ X ∈ allF f b, X.length ≤ b.length := by
  induction f with
  | zero => intro b X h; simp [allF] at h
  | succ f ih =>
    intro b X h
    unfold allF at h
    by_cases c : (tkN b).2.2 = 0
    · rw [if_pos c] at h
      rcases List.mem_cons.1 h with h | h
      · rw [h]; exact tk_len b
      · have := ih _ X h; simp at this; omega
    · rw [if_neg c] at h; simp at h
theorem allF_count (f : Nat) : ∀ (b : List Int), (allF f b).length ≤ b.length := by
  induction f with
  | zero => intro b; simp [allF]
  | succ f ih =>
    intro b
    unfold allF
    by_cases c : (tkN b).2.2 = 0
    · rw [if_pos c]
      have := tkN_ok b c
      have := ih (b.drop (8 + (tkN b).1.length))
      simp at this ⊢
      omega
    · rw [if_neg c]; simp
/-- What All hands back, told as a list of bodies. -/
structure AllRow (w : World) (lv : Value) (L : List (List Int)) : Prop where
  row : ∃ a c, lv = .slice a L.length c
  cell : ∀ k, k < L.length → ∃ g c xv, lv = .slice (some ⟨g, 0, none⟩) L.length c ∧ g < w.heap.size ∧ w.cell? ⟨g, k, none⟩ = some xv ∧ Bt w xv (L.getD k [])
theorem AllRow.below {w w' : World} {lv : Value} {L : List (List Int)} (h : AllRow w lv L) (hb : Below w.heap.size w w') : AllRow w' lv L := by
  refine ⟨h.row, fun k hk => ?_⟩
  obtain ⟨g, c, xv, e, hg, hc, ht⟩ := h.cell k hk
  exact ⟨g, c, xv, e, by have := hb.size; omega, (hb.cell (p := ⟨g, k, none⟩) hg).trans hc, ht.below hb⟩
theorem allrow_of {w' : World} {base : Nat} {lv : Value} {xs : List Bd} {L : List (List Int)} (hm : xs.map (·.2) = L) (hr : w'.ownsRow base 23 1 lv xs.length (xs.map (·.1))) (h8 : Rows8 base xs w') (hl : ∀ X ∈ L, X.length ≤ 9223372036854775807) : AllRow w' lv L := by
  have hn : L.length = xs.length := by rw [← hm]; simp
  have ho : Own1 w' base 23 lv (xs.map (·.1)) := by unfold Own1; rw [List.length_map]; exact hr
  refine ⟨?_, fun k hk => ?_⟩
  · obtain ⟨a, c, e⟩ := ho.slice
    exact ⟨a, c, by rw [e, hn, List.length_map]⟩
  · obtain ⟨g, c, e, hg, hc⟩ := ho.cell k (by rw [List.length_map]; omega)
    rw [List.length_map, ← hn] at e
    have hkx : k < xs.length := by omega
    have e1 : (xs.map (·.1)).getD k undef = (xs[k]).1 := by simp [List.getD, hkx]
    have e2 : L.getD k [] = (xs[k]).2 := by rw [← hm]; simp [List.getD, hkx]
    rw [e1] at hc
    refine ⟨g, c, _, e, hg, hc, ?_⟩
    rw [e2]
    exact (h8 _ (List.getElem_mem hkx)).bt (hl _ (by rw [← hm]; exact List.mem_map_of_mem (List.getElem_mem hkx)))
def AllP2 (b : List Int) (w : World) (e : Ending) (w' : World) : Prop := ∃ lv, Hid (e = .returned (.tuple #[lv, .int .i64 (totL (allN b) : Nat)])) ∧ AllRow w' lv (allN b) ∧ Below w.heap.size w w'
theorem all_any2 (v : Value) (b : List Int) (w : World) (hb : Bt w v b) (hx : ∀ x ∈ b, 0 ≤ x ∧ x ≤ 255) (hl : b.length ≤ 1000000000) : Calls Try.prog 14 #[v] w (AllP2 b w) := by
  refine (all_any v b w hb hx hl).mono ?_
  rintro e w' ⟨lv, xs, he, hm, hr, h8, hB⟩
  refine ⟨lv, ?_, allrow_of hm hr h8 (fun X q => Nat.le_trans (allF_len _ _ X q) (by omega)), hB⟩
  unfold Hid
  rw [he.out, tot_L, hm]
set_option maxRecDepth 100000 in
set_option maxHeartbeats 8000000 in
theorem all_in (b : ByteArray) (w : World) (hb : b.size ≤ 500) :
    Calls Try.prog 4 #[.string b] w fun e w' => e = .returned (.bool true) ∧ Below w.heap.size w w' := by
  have t1 : ¬ (500 : Int) < b.size := by omega
  have z1 : b.size ≤ 9223372036854775807 := by omega
  have hm1 : b.size ≤ 1000000 := by omega
  have hbl : (byt b).length ≤ 1000000000 := by rw [byt_length]; omega
  have hcount : (allN (byt b)).length ≤ 500 := by have := allF_count ((byt b).length + 1) (byt b); unfold allN; rw [byt_length] at this ⊢; omega
  obtain ⟨L, hL⟩ : ∃ L, allN (byt b) = L := ⟨_, rfl⟩
  rw [hL] at hcount
  obtain ⟨T, hT⟩ : ∃ T, totL L = T := ⟨_, rfl⟩
  have HL := Lib.hid hL
  have HT := Lib.hid hT
  clear hL hT
  go_enter Try.func4, Try.ntmps4
  go_wp2_with fail
  refine (works_any _).mono ?_
  rintro e w1 ⟨rfl, hb1⟩
  have HB1 := Lib.hid hb1
  clear hb1
  go_wp2_with (refine wpList_bytes_g (o := ⟨some 18, _, _, _, _, _⟩) rfl 9 23 _ rfl 5 Try.underlying9 Try.underlying23 Try.underlying5 _ rfl z1 ?_)
  intro v2 w2 ht2 hz2 hb2
  have HT2 := Lib.hid ht2
  have HB2 : Hid (Below w.heap.size w w2) := below_self HB1.out hb2
  clear ht2 hb2 HB1
  go_wp2_with fail
  refine (all_any2 _ (byt b) _ HT2.out (byt_range b) hbl).mono ?_
  rintro e w3 ⟨lv, he3, hr3, hb3⟩
  rw [he3.out, HL.out, HT.out]
  rw [HL.out] at hr3
  have HR3 := Lib.hid hr3
  have HB3 : Hid (Below w.heap.size w w3) := below_self HB2.out hb3
  clear he3 hr3 hb3 HB2 HT2
  go_wp2_with fail
  refine (rall_any b _ hm1).mono ?_
  rintro e w4 ⟨mv, he4, ho4, hb4⟩
  rw [he4.out, HL.out, HT.out]
  rw [HL.out] at ho4
  have hr4 := HR3.out.below hb4
  obtain ⟨a5, c5, hlv⟩ := hr4.row
  obtain ⟨a6, c6, hmv⟩ := ho4.slice
  have hsl : (strs L).length = L.length := by simp [strs]
  rw [hsl] at hmv
  subst hlv hmv
  have HR := Lib.hid hr4
  have HO := Lib.hid ho4
  have HB : Hid (Below w.heap.size w w4) := below_self HB3.out hb4
  clear he4 ho4 hb4 hr4 hsl HB3 HR3
  obtain ⟨n, hn⟩ : ∃ n, L.length = n := ⟨_, rfl⟩
  have HN := Lib.hid hn
  rw [hn] at hcount HR HO ⊢
  clear hn
  go_wp2
  go_loopw [8] (fun i wr => ∃ k : Nat, k ≤ n ∧ i = .int .i64 k ∧ Hid (Below w4.heap.size w4 wr)) (fun i _ => n - (intOf i).toNat)
  case atStart => exact ⟨0, by omega, rfl, Below.refl _ _⟩
  case round =>
    obtain ⟨k, hk, rfl, hBw⟩ := hrel
    by_cases hlt : k < n
    · obtain ⟨g5, d5, xv, e5, hg5, hc5, ht5⟩ := HR.out.cell k (by rw [HN.out]; exact hlt)
      have hsl : (strs L).length = n := by simp [strs, HN.out]
      obtain ⟨g6, d6, e6, hg6, hc6⟩ := HO.out.cell k (by rw [hsl]; exact hlt)
      simp only [Value.slice.injEq] at e5 e6
      obtain ⟨rfl, _, rfl⟩ := e5
      obtain ⟨rfl, _, rfl⟩ := e6
      obtain ⟨X, hX⟩ : ∃ X, L.getD k [] = X := ⟨_, rfl⟩
      have hs6 : (strs L).getD k undef = .string (txt X) := by
        rw [← hX]
        have : k < L.length := by rw [HN.out]; exact hlt
        simp [strs, List.getD, this]
      rw [hs6] at hc6
      rw [hX] at ht5
      have hc5' : wr.drew.cell? ⟨g5, k, none⟩ = some xv := (hBw.out.cell (p := ⟨g5, k, none⟩) hg5).trans hc5
      have hc6' : wr.drew.cell? ⟨g6, k, none⟩ = some (.string (txt X)) := (hBw.out.cell (p := ⟨g6, k, none⟩) hg6).trans hc6
      have hc5'' : wr.cell? ⟨g5, k, none⟩ = some xv := hc5'
      have hc6'' : wr.cell? ⟨g6, k, none⟩ = some (.string (txt X)) := hc6'
      have htw : Bt wr xv X := ht5.below hBw.out
      have htw' : Bt wr.drew xv X := htw.below (Below.refl _ _).drew
      have kx := htw'.text
      have kx2 := htw.text
      have q1 : ((txt X).toList == (txt X).toList) = true := by simp
      have q2 : ((txt X).toList != (txt X).toList) = false := by simp
      have hlt' : (k : Int) < (n : Int) := by omega
      clear hs6 hX hc5 hc6 ht5 htw htw' hsl HR HO HN HB HL HT
      go_wp2
      go_region
      go_wp2
      go_roundw
      case rel => exact ⟨k + 1, by omega, by go_num, hBw.out.drew⟩
      case measure => simp [intOf]; omega
    · have hlt' : ¬ (k : Int) < (n : Int) := by omega
      go_wp2
      go_ret
      exact ⟨rfl, below_self HB.out hBw.out⟩
theorem all_law (b : ByteArray) (w : World) (hb : b.size ≤ maxLen) :
    Calls Try.prog 4 #[.string b] w fun e w' => e = .returned (.bool true) ∧ Below w.heap.size w w' := by
  by_cases hl : b.size ≤ 500
  · exact all_in b w hl
  · have t1 : (500 : Int) < b.size := by omega
    go_enter Try.func4, Try.ntmps4
    go_wp2_with (go_at_call 9; refine (works_any _).mono ?_; rintro e w1 ⟨rfl, hb1⟩)
    go_ret
    exact ⟨rfl, hb1⟩
end Go.Proofs.Ytcieilbnlbielaa
