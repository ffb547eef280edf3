/-
  The document's path of names; rows of texts compared; the walk of PathsOf.
-/
import Derived.Test.YtdhmalpeooobfaaPthR
namespace Go.Proofs.Ytdhmalpeooobfaa
open Go.RowKit
set_option linter.unusedSimpArgs false
set_option linter.unusedVariables false

def cat (ns : List (List UInt8)) : List UInt8 := (ns.map (47 :: ·)).flatten
theorem cat_jn (ns : List (List UInt8)) (h : ns ≠ []) : cat ns = 47 :: jn ns := by
  induction ns with
  | nil => exact absurd rfl h
  | cons x r ih =>
    cases r with
    | nil => rw [jn_one]; simp [cat]
    | cons y r =>
      have := ih (by simp)
      rw [jn_cons]
      unfold cat at this ⊢
      rw [List.map_cons, List.flatten_cons, this]
      simp
theorem cat_snoc (ns : List (List UInt8)) (x : List UInt8) : cat (ns ++ [x]) = cat ns ++ 47 :: x := by simp [cat]
theorem ofL_app (a b : List UInt8) : ofL a ++ ofL b = ofL (a ++ b) := by
  apply data_inj
  rw [ofL_data]
  simp [ofL]
theorem nmS_size {s : ByteArray} (h : nmS s = true) : s.size ≤ 16 := by
  rw [nmS_len] at h
  simp only [Bool.and_eq_true, decide_eq_true_eq] at h
  exact h.2
theorem oddIn_of {ss : List ByteArray} {k : Nat} (hk : k < ss.length) (h : nmS (ss.getD k ByteArray.empty) = false) : oddIn ss = true := by
  unfold oddIn
  rw [List.any_eq_true]
  refine ⟨ss.getD k ByteArray.empty, by simp [List.getD, hk], by rw [h]; rfl⟩
theorem oddIn_no {ss : List ByteArray} (h : ∀ j, j < ss.length → nmS (ss.getD j ByteArray.empty) = true) : oddIn ss = false := by
  rw [Bool.eq_false_iff]
  intro hc
  unfold oddIn at hc
  rw [List.any_eq_true] at hc
  obtain ⟨s, q1, q2⟩ := hc
  obtain ⟨j, hj, rfl⟩ := List.getElem_of_mem q1
  have := h j hj
  simp only [List.getD, List.getElem?_eq_getElem hj, Option.getD_some] at this
  rw [this] at q2
  cases q2
set_option maxHeartbeats 2000000 in
theorem rof_any (a : Option Addr) (c : Nat) (ss : List ByteArray) (w : World) (hs : SRd w a ss) (hz : ∀ s ∈ ss, s.size ≤ maxLen) : Calls Try.prog 26 #[.slice a ss.length c] w fun e w' => e = .returned (.tuple #[.string (ofP ss), .int .i64 (ofE ss)]) ∧ w = w' := by
  have hp := okN_parts ss
  have hll := hs.1
  by_cases h8 : 8 < ss.length
  · have e1 : okN (ss.map (·.data.toList)) = false := by rw [hp]; simp [h8]
    have e2 : ofP ss = ByteArray.empty := by unfold ofP; rw [e1]; rfl
    have e3 : ofE ss = 1 := by unfold ofE; rw [e1]; rfl
    rw [e2, e3]
    have k1 : (8 : Int) < (ss.length : Int) := by omega
    clear hp e1 e2 e3 hs hz
    go_enter Try.func26, Try.ntmps26
    go_wp2
    go_ret2
    exact ⟨rfl, rfl⟩
  · have k1 : ¬ (8 : Int) < (ss.length : Int) := by omega
    obtain ⟨X, hX⟩ : ∃ X, ofP ss = X := ⟨_, rfl⟩
    obtain ⟨E, hE⟩ : ∃ E, ofE ss = E := ⟨_, rfl⟩
    rw [hX, hE]
    have HO : Hid (oddIn ss = true → X = ByteArray.empty ∧ E = 1) := Lib.hid (fun h => by
      have e1 : okN (ss.map (·.data.toList)) = false := by rw [hp, h]; rfl
      rw [← hX, ← hE]; unfold ofP ofE; rw [e1]; exact ⟨rfl, rfl⟩)
    have HG : Hid (oddIn ss = false → X = pth (ss.map (·.data.toList)) ∧ E = 0) := Lib.hid (fun h => by
      have e1 : okN (ss.map (·.data.toList)) = true := by rw [hp, h]; simp [h8]
      rw [← hX, ← hE]; unfold ofP ofE; rw [e1]; exact ⟨rfl, rfl⟩)
    have HS := Lib.hid hs
    have HZ := Lib.hid hz
    clear hp hs hz hX hE
    go_enter Try.func26, Try.ntmps26
    go_wp2_with fail
    go_loop [4, 5] (fun p i => ∃ (k : Nat) (P : ByteArray), k ≤ ss.length ∧ P.size ≤ 17 * k ∧ p = .string P ∧ i = .int .i64 k ∧ Hid (P = ofL (cat ((ss.take k).map (·.data.toList)))) ∧ Hid (∀ j, j < k → nmS (ss.getD j ByteArray.empty) = true)) (fun _ i => ss.length - (intOf i).toNat)
    case atStart => exact ⟨0, ByteArray.empty, by omega, by simp [ByteArray.size], rfl, rfl, Lib.hid rfl, Lib.hid (fun j h => by omega)⟩
    case round =>
      obtain ⟨k, P, hk, hP, rfl, rfl, hPe, hN⟩ := hrel
      by_cases hlt : k < ss.length
      · obtain ⟨g, off, rfl, hg, hc⟩ := HS.out.cell k hlt
        have hodd := fun h => oddIn_of (ss := ss) hlt h
        obtain ⟨s, hsk⟩ : ∃ s, ss.getD k ByteArray.empty = s := ⟨_, rfl⟩
        rw [hsk] at hc hodd
        have hsm : s ∈ ss := by rw [← hsk]; simp [List.getD, hlt]
        have hsz := HZ.out s hsm
        unfold maxLen at hsz
        have cN := rname_any s w hsz
        have hlt' : (k : Int) < (ss.length : Int) := by omega
        have htk : (ss.take (k + 1)).map (·.data.toList) = (ss.take k).map (·.data.toList) ++ [s.data.toList] := by
          rw [List.take_succ_eq_append_getElem hlt, List.map_append, ← hsk]
          simp [List.getD, hlt]
        have HTK := Lib.hid htk
        have HSK := Lib.hid hsk
        cases hB : nmS s with
        | false =>
          obtain ⟨e1, e2⟩ := HO.out (hodd hB)
          subst e1 e2
          rw [hB] at cN
          clear hodd hsk hsm htk hPe hB HO HG
          go_wp2_with (go_at_call 35; refine cN.mono ?_; rintro e w1 ⟨rfl, rfl⟩)
          go_ret2
          exact ⟨rfl, rfl⟩
        | true =>
          have hs16 := nmS_size hB
          have HNM := Lib.hid hB
          rw [hB] at cN
          have k8 : k ≤ 8 := by omega
          have z1 : ¬ (9223372036854775807 < P.size + 1) := by omega
          have z2 : ¬ (9223372036854775807 < P.size + 1 + s.size) := by omega
          clear hodd hsk hsm htk hB
          go_wp2_with (go_at_call 35; refine cN.mono ?_; rintro e w1 ⟨rfl, rfl⟩)
          go_round
          case rel =>
            refine ⟨k + 1, P ++ { data := #[47] } ++ s, by omega, ?_, rfl, by go_num, Lib.hid ?_, Lib.hid (fun j hj => ?_)⟩
            · simp only [ByteArray.size_append]
              have : ({ data := #[47] } : ByteArray).size = 1 := rfl
              omega
            · rw [HTK.out, cat_snoc, hPe.out, show ({ data := #[47] } : ByteArray) = ofL [47] from rfl, ofL_app]
              have e : s = ofL s.data.toList := (ofL_of s).symm
              rw [e, ofL_app, ofL_data]
              simp
            · by_cases q : j = k
              · subst q; rw [HSK.out]; exact HNM.out
              · exact hN.out j (by omega)
          case measure => simp [intOf]; omega
      · obtain rfl : k = ss.length := by omega
        obtain ⟨e1, e2⟩ := HG.out (oddIn_no hN.out)
        have hPe2 := hPe.out
        rw [List.take_length] at hPe2
        subst e2
        by_cases h0 : ss = []
        · subst h0
          have : P = { data := #[] } := hPe2
          subst this
          have HX : Hid (X = { data := #[47] }) := Lib.hid e1
          clear hPe hPe2 e1 HO HG hN
          go_wp2
          go_ret2
          exact ⟨by rw [HX.out]; rfl, rfl⟩
        · have hne : ss.map (·.data.toList) ≠ [] := by simpa using h0
          rw [cat_jn _ hne] at hPe2
          have hX : X = P := by rw [e1, hPe2]; rfl
          have hl : P.toList = 47 :: jn (ss.map (·.data.toList)) := by rw [Lib.toList_data, hPe2, ofL_data]
          have z1 : (P.toList == []) = false := by rw [hl]; rfl
          have z2 : P.toList.isEmpty = false := by rw [hl]; rfl
          have z3 : ¬ P.toList = [] := by rw [hl]; simp
          subst hX
          clear hPe hPe2 e1 HO HG hN hl hne
          go_wp2
          go_ret2
          exact ⟨rfl, rfl⟩
set_option maxHeartbeats 2000000 in
theorem texts_true (a1 a2 : Option Addr) (c1 c2 : Nat) (ss : List ByteArray) (w : World) (h1 : SRd w a1 ss) (h2 : SRd w a2 ss) : Calls Try.prog 12 #[.slice a1 ss.length c1, .slice a2 ss.length c2] w fun e w' => e = .returned (.bool true) ∧ Below w.heap.size w w' := by
  have H1 := Lib.hid h1
  have H2 := Lib.hid h2
  have hl := h1.1
  clear h1 h2
  have t0 : ((ss.length : Int) != ss.length) = false := by simp
  go_enter Try.func12, Try.ntmps12
  go_wp2_with fail
  go_loopw [5] (fun i wr => ∃ k : Nat, k ≤ ss.length ∧ i = .int .i64 k ∧ Hid (Below w.heap.size w wr)) (fun i _ => ss.length - (intOf i).toNat)
  case atStart => exact ⟨0, Nat.zero_le _, rfl, Lib.hid (Below.refl _ _)⟩
  case round =>
    obtain ⟨k, hk, rfl, hB⟩ := hrel
    by_cases hlt : k < ss.length
    · obtain ⟨s, hsk⟩ : ∃ s, ss.getD k ByteArray.empty = s := ⟨_, rfl⟩
      obtain ⟨g5, o5, rfl, hg5, hc5⟩ := H1.out.cell k hlt
      obtain ⟨g6, o6, rfl, hg6, hc6⟩ := H2.out.cell k hlt
      rw [hsk] at hc5 hc6
      have hc5' : wr.cell? ⟨g5, o5 + k, none⟩ = some (.string s) := (hB.out.cell (p := ⟨g5, o5 + k, none⟩) hg5).trans hc5
      have hc6' : wr.cell? ⟨g6, o6 + k, none⟩ = some (.string s) := (hB.out.cell (p := ⟨g6, o6 + k, none⟩) hg6).trans hc6
      have hc5d : wr.drew.cell? ⟨g5, o5 + k, none⟩ = some (.string s) := hc5'
      have hc6d : wr.drew.cell? ⟨g6, o6 + k, none⟩ = some (.string s) := hc6'
      have q1 : (s.toList == s.toList) = true := by simp
      have q2 : (s.toList != s.toList) = false := by simp
      have hkn' : (k : Int) < (ss.length : Int) := by omega
      clear hsk hc5 hc6
      go_wp2
      go_region
      go_wp2
      go_roundw
      case rel => exact ⟨k + 1, by omega, by go_num, Lib.hid (hB.out.drew)⟩
      case measure => simp [intOf]; omega
    · obtain rfl : k = ss.length := by omega
      go_wp2
      go_ret
      exact ⟨rfl, hB.out⟩
end Go.Proofs.Ytdhmalpeooobfaa
