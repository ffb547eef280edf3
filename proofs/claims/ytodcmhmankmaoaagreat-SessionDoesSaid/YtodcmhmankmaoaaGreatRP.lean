/-
  Laws of package paths, those that this seat can use.
-/
import Derived.Test.YtodcmhmankmaoaaGreatJPx
import Derived.Test.YtodcmhmankmaoaaGreatJ6
namespace Go.Proofs.YtodcmhmankmaoaaGreat
open Go.RowKit
set_option linter.unusedSimpArgs false
set_option linter.unusedVariables false

theorem str_eq (p : ByteArray) : (p.toList == p.toList) = true ∧ (p.toList != p.toList) = false := by simp
theorem str_ne {p q : ByteArray} (h : p ≠ q) : (p.toList == q.toList) = false ∧ (p.toList != q.toList) = true := by
  have : (p.toList == q.toList) = false := by
    rw [Lib.toList_data, Lib.toList_data]
    simp only [beq_eq_false_iff_ne, ne_eq]
    exact fun e => h (data_inj e)
  exact ⟨this, by simp only [bne, this]; rfl⟩
theorem par_of {p : ByteArray} (hn : nmL p ≠ []) : par p = pth (nmL p).dropLast ∧ vld (par p) = true ∧ nmL (par p) = (nmL p).dropLast := by
  have h0 : (nmL p).length ≠ 0 := fun h => hn (List.eq_nil_of_length_eq_zero h)
  have e : par p = pth (nmL p).dropLast := by unfold par; rw [if_neg h0]
  have := pth_vld (okN_dropLast (nm_ok p))
  rw [e]
  exact ⟨rfl, this.1, this.2⟩
theorem blw_irr (p : ByteArray) : blw p p = false := by unfold blw; simp
theorem blw_asymm {p q : ByteArray} (h : blw p q = true) : blw q p = false := by
  unfold blw at *
  simp only [Bool.and_eq_true, decide_eq_true_eq] at h
  have : ¬ (nmL q).length < (nmL p).length := by omega
  simp [this]
theorem blw_trans {p q r : ByteArray} (h1 : blw p q = true) (h2 : blw q r = true) : blw p r = true := by
  unfold blw at *
  simp only [Bool.and_eq_true, decide_eq_true_eq] at *
  refine ⟨⟨⟨h1.1.1.1, h2.1.1.2⟩, by omega⟩, ?_⟩
  have e := h1.2
  rw [← h2.2, List.take_take, Nat.min_eq_left (by omega)] at e
  exact e
theorem blw_root {p q : ByteArray} (h : nmL q = []) : blw p q = false := by
  unfold blw
  rw [h]
  simp
theorem blw_par {p q : ByteArray} (hp : vld p = true) (hq : vld q = true) (hn : nmL q ≠ []) : blw p q = (decide (par q = p) || blw p (par q)) := by
  obtain ⟨e1, e2, e3⟩ := par_of hn
  obtain ⟨D, z, hD⟩ : ∃ D z, nmL q = D ++ [z] := ⟨(nmL q).dropLast, (nmL q).getLast hn, (List.dropLast_concat_getLast hn).symm⟩
  rw [hD, List.dropLast_concat] at e3
  have hq2 : par q = p ↔ D = nmL p := by
    constructor
    · intro h; rw [← h, e3]
    · intro h; exact nm_inj e2 hp (by rw [e3, h])
  unfold blw
  rw [hp, hq, e2, e3, hD]
  simp only [Bool.true_and, List.length_append, List.length_singleton]
  rw [Bool.eq_iff_iff]
  simp only [Bool.and_eq_true, Bool.or_eq_true, decide_eq_true_eq, hq2]
  constructor
  · rintro ⟨h1, h2⟩
    rw [List.take_append_of_le_length (by omega)] at h2
    by_cases c : (nmL p).length < D.length
    · exact .inr ⟨c, h2⟩
    · left
      rw [List.take_of_length_le (by omega)] at h2
      exact h2
  · rintro (h | ⟨h1, h2⟩)
    · subst h; simp
    · refine ⟨by omega, ?_⟩
      rw [List.take_append_of_le_length (by omega)]
      exact h2
theorem root_str {p : ByteArray} (hv : vld p = true) : (nmL p = [] → (p.toList == [47]) = true ∧ (p.toList != [47]) = false) ∧ (nmL p ≠ [] → (p.toList == [47]) = false ∧ (p.toList != [47]) = true) := by
  constructor
  · intro h
    have : p = pth [] := (root_iff hv).2 h
    have e : p.toList = [47] := by rw [Lib.toList_data, this]; rfl
    rw [e]
    exact ⟨rfl, rfl⟩
  · intro h
    have : (p.toList == [47]) = false := by
      rw [Lib.toList_data]
      simp only [beq_eq_false_iff_ne, ne_eq]
      intro e
      exact h ((root_iff hv).1 (data_inj (by rw [e]; rfl)))
    exact ⟨this, by simp only [bne, this]; rfl⟩
theorem tx_snoc {p : ByteArray} (hn : nmL p ≠ []) : tx (nmL p).dropLast ++ [lst p] = tx (nmL p) := by
  have h0 : (nmL p).length ≠ 0 := fun h => hn (List.eq_nil_of_length_eq_zero h)
  have e : lst p = ofL ((nmL p).getLastD []) := by unfold lst; rw [if_neg h0]
  have e2 : (nmL p).getLastD [] = (nmL p).getLast hn := by
    rw [List.getLastD_eq_getLast?, List.getLast?_eq_some_getLast hn]; rfl
  rw [e, e2]
  have := List.dropLast_concat_getLast hn
  have h2 : tx ((nmL p).dropLast ++ [(nmL p).getLast hn]) = tx (nmL p) := by rw [this]
  rw [← h2]
  simp [tx]
theorem of_back {p : ByteArray} (hv : vld p = true) : ofP (tx (nmL p)) = p ∧ ofE (tx (nmL p)) = 0 := by
  have hd := tx_data (nmL p)
  unfold ofP ofE
  rw [hd, nm_ok p]
  exact ⟨(vld_pth hv).symm, rfl⟩
theorem dpt_of {p : ByteArray} (hv : vld p = true) : dpt p = ((nmL p).length : Int) := by unfold dpt; rw [hv]; rfl
theorem at_list (s : ByteArray) (k : Nat) (h : k < s.size) : s.data.toList.drop k = s[k] :: s.data.toList.drop (k + 1) := by
  have hl : k < s.data.toList.length := by rw [← Lib.size_eq]; exact h
  rw [List.drop_eq_getElem_cons hl]
  rfl
theorem all_take (s : ByteArray) (k : Nat) (h : k < s.size) : (s.data.toList.take (k + 1)).all okc = ((s.data.toList.take k).all okc && okc s[k]) := by
  have hl : k < s.data.toList.length := by rw [← Lib.size_eq]; exact h
  rw [List.take_succ_eq_append_getElem hl, List.all_append]
  simp only [List.all_cons, List.all_nil, Bool.and_true]
  rfl
theorem all_no (s : ByteArray) (k : Nat) (h : k < s.size) (ho : okc s[k] = false) : nmS s = false := by
  rw [nmS_len]
  have : s.data.toList.all okc = false := by
    rw [Bool.eq_false_iff, ne_eq, List.all_eq_true]
    intro hc
    have hl : k < s.data.toList.length := by rw [← Lib.size_eq]; exact h
    have := hc s.data.toList[k] (List.getElem_mem hl)
    have e : s.data.toList[k] = s[k] := rfl
    rw [e, ho] at this
    cases this
  rw [this]
  rfl
set_option maxHeartbeats 1000000 in
theorem rname_any (s : ByteArray) (w : World) (hs : s.size ≤ 9223372036854775807) : Calls Tryz.prog 82 #[.string s] w fun e w' => e = .returned (.bool (nmS s)) ∧ w = w' := by
  obtain ⟨B, hB⟩ : ∃ B, nmS s = B := ⟨_, rfl⟩
  rw [hB]
  have HB := Lib.hid hB
  clear hB
  go_enter Tryz.func82, Tryz.ntmps82
  go_wp2_with fail
  go_loop [3] (fun i => ∃ k : Nat, k ≤ s.size ∧ i = .int .i64 k ∧ Hid ((s.data.toList.take k).all okc = true)) (fun i => s.size - (intOf i).toNat)
  case atStart => exact ⟨0, Nat.zero_le _, rfl, Lib.hid (by simp)⟩
  case round =>
    obtain ⟨k, hk, rfl, hA⟩ := hrel
    by_cases hlt : k < s.size
    · have HT := Lib.hid (all_take s k hlt)
      have HN := Lib.hid (all_no s k hlt)
      have hlt' : (k : Int) < (s.size : Int) := by omega
      cases hO : okc s[k] with
      | true =>
        have HT2 : Hid ((s.data.toList.take (k + 1)).all okc = true) := Lib.hid (by rw [HT.out, hA.out, hO]; rfl)
        have hO2 := hO
        unfold okc at hO2
        simp only [Bool.or_eq_true, Bool.and_eq_true, decide_eq_true_eq] at hO2
        clear hO HT HN
        obtain ⟨c, hc⟩ : ∃ c : Nat, s[k].toNat = c := ⟨_, rfl⟩
        rw [hc] at hO2
        have hcase : (97 ≤ c ∧ c ≤ 122) ∨ (¬ 97 ≤ c ∧ 48 ≤ c ∧ c ≤ 57) ∨ (c = 45) ∨ (c = 95) := by omega
        rcases hcase with ⟨q1, q2⟩ | ⟨q1, q2, q3⟩ | q | q
        · have z1 : (97 : Int) ≤ (c : Int) := by omega
          have z2 : (c : Int) ≤ 122 := by omega
          clear hO2 q1 q2
          go_wp2
          go_round
          case rel => exact ⟨k + 1, by omega, by go_num, HT2⟩
          case measure => simp [intOf]; omega
        · have z1 : ¬ (97 : Int) ≤ (c : Int) := by omega
          have z2 : (48 : Int) ≤ (c : Int) := by omega
          have z3 : (c : Int) ≤ 57 := by omega
          clear hO2 q1 q2 q3
          go_wp2
          go_round
          case rel => exact ⟨k + 1, by omega, by go_num, HT2⟩
          case measure => simp [intOf]; omega
        · rw [q] at hc
          clear hO2 q
          go_wp2
          go_round
          case rel => exact ⟨k + 1, by omega, by go_num, HT2⟩
          case measure => simp [intOf]; omega
        · rw [q] at hc
          clear hO2 q
          go_wp2
          go_round
          case rel => exact ⟨k + 1, by omega, by go_num, HT2⟩
          case measure => simp [intOf]; omega
      | false =>
        have hBf : B = false := by rw [← HB.out]; exact HN.out hO
        subst hBf
        have hO2 : ¬ (okc s[k] = true) := by rw [hO]; simp
        unfold okc at hO2
        simp only [Bool.or_eq_true, Bool.and_eq_true, decide_eq_true_eq] at hO2
        clear hO HT HN HB
        obtain ⟨c, hc⟩ : ∃ c : Nat, s[k].toNat = c := ⟨_, rfl⟩
        rw [hc] at hO2
        have z1 : ((c : Int) == 45) = false := by simp; omega
        have z2 : ((c : Int) == 95) = false := by simp; omega
        have hcase : (97 ≤ c ∧ ¬ c ≤ 122) ∨ (¬ 97 ≤ c ∧ 48 ≤ c ∧ ¬ c ≤ 57) ∨ (¬ 97 ≤ c ∧ ¬ 48 ≤ c) := by omega
        rcases hcase with ⟨q1, q2⟩ | ⟨q1, q2, q3⟩ | ⟨q1, q2⟩
        · have z3 : (97 : Int) ≤ (c : Int) := by omega
          have z4 : ¬ (c : Int) ≤ 122 := by omega
          have z5 : (48 : Int) ≤ (c : Int) := by omega
          have z6 : ¬ (c : Int) ≤ 57 := by omega
          clear hO2 q1 q2
          go_wp2
          go_ret
          exact ⟨rfl, rfl⟩
        · have z3 : ¬ (97 : Int) ≤ (c : Int) := by omega
          have z5 : (48 : Int) ≤ (c : Int) := by omega
          have z6 : ¬ (c : Int) ≤ 57 := by omega
          clear hO2 q1 q2 q3
          go_wp2
          go_ret
          exact ⟨rfl, rfl⟩
        · have z3 : ¬ (97 : Int) ≤ (c : Int) := by omega
          have z5 : ¬ (48 : Int) ≤ (c : Int) := by omega
          clear hO2 q1 q2
          go_wp2
          go_ret
          exact ⟨rfl, rfl⟩
    · have hlt' : ¬ (k : Int) < (s.size : Int) := by omega
      have e : s.data.toList.all okc = true := by
        have := hA.out
        rw [List.take_of_length_le (by rw [← Lib.size_eq]; omega)] at this
        exact this
      have e2 := nmS_len s
      rw [e, Bool.true_and, HB.out] at e2
      by_cases h1 : 1 ≤ s.size
      · by_cases h2 : s.size ≤ 16
        · have e3 : B = true := by rw [e2]; simp [h1, h2]
          subst e3
          have z1 : (1 : Int) ≤ (s.size : Int) := by omega
          have z2 : (s.size : Int) ≤ 16 := by omega
          clear e e2 hA HB
          go_wp2
          go_ret
          exact ⟨rfl, rfl⟩
        · have e3 : B = false := by rw [e2]; simp [h2]
          subst e3
          have z1 : (1 : Int) ≤ (s.size : Int) := by omega
          have z2 : ¬ (s.size : Int) ≤ 16 := by omega
          clear e e2 hA HB
          go_wp2
          go_ret
          exact ⟨rfl, rfl⟩
      · have e3 : B = false := by rw [e2]; simp [h1]
        subst e3
        have z1 : ¬ (1 : Int) ≤ (s.size : Int) := by omega
        clear e e2 hA HB
        go_wp2
        go_ret
        exact ⟨rfl, rfl⟩
def cat (ns : List (List UInt8)) : List UInt8 := (ns.map (47 :: ·)).flatten
theorem cat_jn (ns : List (List UInt8)) (h : ns ≠ []) : cat ns = 47 :: jn ns := by
  induction ns with
  | nil => exact absurd rfl h
  | cons x r ih =>
    cases r with
    | nil => rw [jn_one]; simp [cat]
    | cons y r =>
      have := ih (by simp)
      rw [jn_cons]
      unfold cat at this ⊢
      rw [List.map_cons, List.flatten_cons, this]
      simp
theorem cat_snoc (ns : List (List UInt8)) (x : List UInt8) : cat (ns ++ [x]) = cat ns ++ 47 :: x := by simp [cat]
theorem ofL_app (a b : List UInt8) : ofL a ++ ofL b = ofL (a ++ b) := by
  apply data_inj
  rw [ofL_data]
  simp [ofL]
theorem nmS_size {s : ByteArray} (h : nmS s = true) : s.size ≤ 16 := by
  rw [nmS_len] at h
  simp only [Bool.and_eq_true, decide_eq_true_eq] at h
  exact h.2
theorem oddIn_of {ss : List ByteArray} {k : Nat} (hk : k < ss.length) (h : nmS (ss.getD k ByteArray.empty) = false) : oddIn ss = true := by
  unfold oddIn
  rw [List.any_eq_true]
  refine ⟨ss.getD k ByteArray.empty, by simp [List.getD, hk], by rw [h]; rfl⟩
theorem oddIn_no {ss : List ByteArray} (h : ∀ j, j < ss.length → nmS (ss.getD j ByteArray.empty) = true) : oddIn ss = false := by
  rw [Bool.eq_false_iff]
  intro hc
  unfold oddIn at hc
  rw [List.any_eq_true] at hc
  obtain ⟨s, q1, q2⟩ := hc
  obtain ⟨j, hj, rfl⟩ := List.getElem_of_mem q1
  have := h j hj
  simp only [List.getD, List.getElem?_eq_getElem hj, Option.getD_some] at this
  rw [this] at q2
  cases q2
set_option maxHeartbeats 2000000 in
theorem rof_any (a : Option Addr) (c : Nat) (ss : List ByteArray) (w : World) (hs : SRd w a ss) (hz : ∀ s ∈ ss, s.size ≤ maxLen) : Calls Tryz.prog 60 #[.slice a ss.length c] w fun e w' => e = .returned (.tuple #[.string (ofP ss), .int .i64 (ofE ss)]) ∧ w = w' := by
  have hp := okN_parts ss
  have hll := hs.1
  by_cases h8 : 8 < ss.length
  · have e1 : okN (ss.map (·.data.toList)) = false := by rw [hp]; simp [h8]
    have e2 : ofP ss = ByteArray.empty := by unfold ofP; rw [e1]; rfl
    have e3 : ofE ss = 1 := by unfold ofE; rw [e1]; rfl
    rw [e2, e3]
    have k1 : (8 : Int) < (ss.length : Int) := by omega
    clear hp e1 e2 e3 hs hz
    go_enter Tryz.func60, Tryz.ntmps60
    go_wp2
    go_ret2
    exact ⟨rfl, rfl⟩
  · have k1 : ¬ (8 : Int) < (ss.length : Int) := by omega
    obtain ⟨X, hX⟩ : ∃ X, ofP ss = X := ⟨_, rfl⟩
    obtain ⟨E, hE⟩ : ∃ E, ofE ss = E := ⟨_, rfl⟩
    rw [hX, hE]
    have HO : Hid (oddIn ss = true → X = ByteArray.empty ∧ E = 1) := Lib.hid (fun h => by
      have e1 : okN (ss.map (·.data.toList)) = false := by rw [hp, h]; rfl
      rw [← hX, ← hE]; unfold ofP ofE; rw [e1]; exact ⟨rfl, rfl⟩)
    have HG : Hid (oddIn ss = false → X = pth (ss.map (·.data.toList)) ∧ E = 0) := Lib.hid (fun h => by
      have e1 : okN (ss.map (·.data.toList)) = true := by rw [hp, h]; simp [h8]
      rw [← hX, ← hE]; unfold ofP ofE; rw [e1]; exact ⟨rfl, rfl⟩)
    have HS := Lib.hid hs
    have HZ := Lib.hid hz
    clear hp hs hz hX hE
    go_enter Tryz.func60, Tryz.ntmps60
    go_wp2_with fail
    go_loop [4, 5] (fun p i => ∃ (k : Nat) (P : ByteArray), k ≤ ss.length ∧ P.size ≤ 17 * k ∧ p = .string P ∧ i = .int .i64 k ∧ Hid (P = ofL (cat ((ss.take k).map (·.data.toList)))) ∧ Hid (∀ j, j < k → nmS (ss.getD j ByteArray.empty) = true)) (fun _ i => ss.length - (intOf i).toNat)
    case atStart => exact ⟨0, ByteArray.empty, by omega, by simp [ByteArray.size], rfl, rfl, Lib.hid rfl, Lib.hid (fun j h => by omega)⟩
    case round =>
      obtain ⟨k, P, hk, hP, rfl, rfl, hPe, hN⟩ := hrel
      by_cases hlt : k < ss.length
      · obtain ⟨g, off, rfl, hg, hc⟩ := HS.out.cell k hlt
        have hodd := fun h => oddIn_of (ss := ss) hlt h
        obtain ⟨s, hsk⟩ : ∃ s, ss.getD k ByteArray.empty = s := ⟨_, rfl⟩
        rw [hsk] at hc hodd
        have hsm : s ∈ ss := by rw [← hsk]; simp [List.getD, hlt]
        have hsz := HZ.out s hsm
        unfold maxLen at hsz
        have cN := rname_any s w hsz
        have hlt' : (k : Int) < (ss.length : Int) := by omega
        have htk : (ss.take (k + 1)).map (·.data.toList) = (ss.take k).map (·.data.toList) ++ [s.data.toList] := by
          rw [List.take_succ_eq_append_getElem hlt, List.map_append, ← hsk]
          simp [List.getD, hlt]
        have HTK := Lib.hid htk
        have HSK := Lib.hid hsk
        cases hB : nmS s with
        | false =>
          obtain ⟨e1, e2⟩ := HO.out (hodd hB)
          subst e1 e2
          rw [hB] at cN
          clear hodd hsk hsm htk hPe hB HO HG
          go_wp2_with (go_at_call 82; refine cN.mono ?_; rintro e w1 ⟨rfl, rfl⟩)
          go_ret2
          exact ⟨rfl, rfl⟩
        | true =>
          have hs16 := nmS_size hB
          have HNM := Lib.hid hB
          rw [hB] at cN
          have k8 : k ≤ 8 := by omega
          have z1 : ¬ (9223372036854775807 < P.size + 1) := by omega
          have z2 : ¬ (9223372036854775807 < P.size + 1 + s.size) := by omega
          clear hodd hsk hsm htk hB
          go_wp2_with (go_at_call 82; refine cN.mono ?_; rintro e w1 ⟨rfl, rfl⟩)
          go_round
          case rel =>
            refine ⟨k + 1, P ++ { data := #[47] } ++ s, by omega, ?_, rfl, by go_num, Lib.hid ?_, Lib.hid (fun j hj => ?_)⟩
            · simp only [ByteArray.size_append]
              have : ({ data := #[47] } : ByteArray).size = 1 := rfl
              omega
            · rw [HTK.out, cat_snoc, hPe.out, show ({ data := #[47] } : ByteArray) = ofL [47] from rfl, ofL_app]
              have e : s = ofL s.data.toList := (ofL_of s).symm
              rw [e, ofL_app, ofL_data]
              simp
            · by_cases q : j = k
              · subst q; rw [HSK.out]; exact HNM.out
              · exact hN.out j (by omega)
          case measure => simp [intOf]; omega
      · obtain rfl : k = ss.length := by omega
        obtain ⟨e1, e2⟩ := HG.out (oddIn_no hN.out)
        have hPe2 := hPe.out
        rw [List.take_length] at hPe2
        subst e2
        by_cases h0 : ss = []
        · subst h0
          have : P = { data := #[] } := hPe2
          subst this
          have HX : Hid (X = { data := #[47] }) := Lib.hid e1
          clear hPe hPe2 e1 HO HG hN
          go_wp2
          go_ret2
          exact ⟨by rw [HX.out]; rfl, rfl⟩
        · have hne : ss.map (·.data.toList) ≠ [] := by simpa using h0
          rw [cat_jn _ hne] at hPe2
          have hX : X = P := by rw [e1, hPe2]; rfl
          have hl : P.toList = 47 :: jn (ss.map (·.data.toList)) := by rw [Lib.toList_data, hPe2, ofL_data]
          have z1 : (P.toList == []) = false := by rw [hl]; rfl
          have z2 : P.toList.isEmpty = false := by rw [hl]; rfl
          have z3 : ¬ P.toList = [] := by rw [hl]; simp
          subst hX
          clear hPe hPe2 e1 HO HG hN hl hne
          go_wp2
          go_ret2
          exact ⟨rfl, rfl⟩
def glue (S : List UInt8) : List (List UInt8) → List (List UInt8)
  | [] => []
  | h :: t => (S ++ h) :: t
/-- What the document cuts a text into. -/
def rcs (p : ByteArray) : List (List UInt8) := if p.data.toList = [47] then [] else spl (p.data.toList.drop 1)
theorem glue_nil (l : List (List UInt8)) : glue [] l = l := by cases l <;> rfl
theorem glue_47 (S r : List UInt8) : glue S (spl (47 :: r)) = S :: spl r := by
  rw [spl, if_pos rfl]
  simp [glue]
theorem glue_c (S r : List UInt8) (c : UInt8) (hc : c ≠ 47) : glue S (spl (c :: r)) = glue (S ++ [c]) (spl r) := by
  rw [spl, if_neg hc]
  cases hs : spl r with
  | nil => exact absurd hs (spl_ne r)
  | cons h t => simp [glue]
theorem spl_len (l : List UInt8) : ∀ x ∈ spl l, x.length ≤ l.length := by
  induction l with
  | nil => simp [spl]
  | cons c l ih =>
    intro x hx
    rw [spl] at hx
    split at hx
    · rcases List.mem_cons.1 hx with rfl | h
      · simp
      · have := ih x h; simp; omega
    · cases hs : spl l with
      | nil => exact absurd hs (spl_ne l)
      | cons h t =>
        rw [hs] at hx ih
        simp only [List.headD_cons, List.tail_cons, List.mem_cons] at hx
        rcases hx with rfl | h
        · have := ih h (by simp); simp; omega
        · have := ih x (by simp [h]); simp; omega
theorem spl_count (l : List UInt8) : (spl l).length ≤ l.length + 1 := by
  induction l with
  | nil => simp [spl]
  | cons c l ih =>
    rw [spl]
    split
    · simp; omega
    · cases hs : spl l with
      | nil => simp
      | cons h t => rw [hs] at ih; simp at ih ⊢; omega
theorem jn_ne {ns : List (List UInt8)} (hn : ns ≠ []) (h : ∀ n ∈ ns, nmB n = true) : jn ns ≠ [] := by
  cases ns with
  | nil => exact absurd rfl hn
  | cons x r =>
    cases r with
    | nil => rw [jn_one]; exact (nmB_ne (h x (by simp))).2
    | cons y r => rw [jn_cons]; simp
theorem vld_data {p : ByteArray} (h : vld p = true) : p.data.toList = 47 :: jn (nmL p) := by
  have e := vld_pth h
  have e2 : (pth (nmL p)).data.toList = 47 :: jn (nmL p) := ofL_data _
  rw [← e] at e2
  exact e2
theorem rcs_vld {p : ByteArray} (h : vld p = true) : rcs p = nmL p := by
  have e2 := vld_data h
  unfold rcs
  by_cases hn : nmL p = []
  · rw [if_pos (by rw [e2, hn]; rfl), hn]
  · have hne := jn_ne hn (okN_all (nm_ok p))
    rw [if_neg (by rw [e2]; intro hc; exact hne (List.cons.inj hc).2), e2]
    simp only [List.drop_succ_cons, List.drop_zero]
    exact spl_jn _ hn (fun n hn' => (nmB_ne (okN_all (nm_ok p) n hn')).1)
theorem rcs_len (p : ByteArray) : (rcs p).length ≤ p.size + 1 := by
  have hs := Lib.size_eq p
  unfold rcs
  split
  · simp
  · have := spl_count (p.data.toList.drop 1)
    simp only [List.length_drop] at this
    omega
theorem rcs_mem (p : ByteArray) : ∀ s ∈ tx (rcs p), s.size ≤ p.size := by
  have hs := Lib.size_eq p
  intro s hm
  unfold tx at hm
  rw [List.mem_map] at hm
  obtain ⟨x, hx, rfl⟩ := hm
  rw [ofL_size]
  unfold rcs at hx
  split at hx
  · simp at hx
  · have := spl_len _ x hx
    simp only [List.length_drop] at this
    omega
def RcP (p : ByteArray) (w : World) (e : Ending) (w' : World) : Prop := ∃ v, Hid (e = .returned v) ∧ Own1 w' w.heap.size 9 v ((tx (rcs p)).map .string) ∧ Below w.heap.size w w'
theorem ext_one (s : ByteArray) (k : Nat) (h : k < s.size) : s.extract k (k + 1) = ofL [s[k]] := by
  apply data_inj
  have hl : k < s.data.toList.length := by rw [← Lib.size_eq]; exact h
  have e := at_list s k h
  rw [ofL_data, Lib.extract_data]
  simp only [Array.toList_extract, List.extract_eq_take_drop, Nat.add_sub_cancel_left]
  rw [e]
  rfl
set_option maxHeartbeats 4000000 in
theorem rcut_any (p : ByteArray) (w : World) (h1 : 1 ≤ p.size) (h2 : p.size ≤ 200) : Calls Tryz.prog 59 #[.string p] w (RcP p w) := by
  obtain ⟨Z, hZ⟩ : ∃ Z, spl (p.data.toList.drop 1) = Z := ⟨_, rfl⟩
  have hZl : Z.length ≤ 201 := by
    have := spl_count (p.data.toList.drop 1)
    have hs := Lib.size_eq p
    rw [hZ, List.length_drop] at this
    omega
  have HZ := Lib.hid hZ
  have HR1 : Hid (p.data.toList = [47] → rcs p = []) := Lib.hid (fun h => by unfold rcs; rw [if_pos h])
  have HR2 : Hid (p.data.toList ≠ [47] → rcs p = Z) := Lib.hid (fun h => by unfold rcs; rw [if_neg h, hZ])
  have htl : p.toList = p.data.toList := Lib.toList_data p
  have HTL := Lib.hid htl
  clear hZ htl
  go_enter Tryz.func59, Tryz.ntmps59
  go_wp2_with fail
  go_loopw [3, 4, 5] (fun l s i wr => ∃ (k n c : Nat) (a : Option Addr) (S : ByteArray) (L : List (List UInt8)), 1 ≤ k ∧ k ≤ p.size ∧ n ≤ 201 ∧ S.size ≤ k ∧ l = .slice a n c ∧ s = .string S ∧ i = .int .i64 k ∧ Hid (L.length = n) ∧ Hid (L ++ glue S.data.toList (spl (p.data.toList.drop k)) = Z) ∧ Hid (Own1 wr w.heap.size 9 (.slice a n c) ((tx L).map .string)) ∧ Hid (Below w.heap.size w wr) ∧ Hid (k = 1 → L = [])) (fun _ _ i _ => p.size - (intOf i).toNat)
  case atStart => exact ⟨1, 0, 0, none, ByteArray.empty, [], by omega, h1, by omega, by simp [ByteArray.size], rfl, rfl, rfl, Lib.hid rfl, Lib.hid (by rw [List.nil_append]; show glue [] _ = _; rw [glue_nil, HZ.out]), Lib.hid (by simpa [tx] using Own1.nil _ _ _), Lib.hid (Below.refl _ _), Lib.hid (fun _ => rfl)⟩
  case round =>
    obtain ⟨k, n, c, a, S, L, hk1, hk, hn, hS, rfl, rfl, rfl, hLn, hG, hO, hB, hF⟩ := hrel
    by_cases hlt : k < p.size
    · have hlt' : (k : Int) < (p.size : Int) := by omega
      have hd := at_list p k hlt
      have hG' := hG.out
      rw [hd] at hG'
      have hx1 := ext_one p k hlt
      by_cases hc : p[k] = 47
      · rw [hc, glue_47] at hG'
        have hcn : p[k].toNat = 47 := by rw [hc]; rfl
        have hnl : n + 1 ≤ 201 := by
          have := congrArg List.length hG'
          rw [List.length_append, List.length_cons, hLn.out] at this
          have h0 := List.length_pos_iff.2 (spl_ne (p.data.toList.drop (k + 1)))
          omega
        have HGG := Lib.hid hG'
        have HLN : Hid (((tx L).map Value.string).length ≤ 1000000000) := Lib.hid (by rw [List.length_map, tx_len, hLn.out]; omega)
        have hz := hB.out.size
        clear hd hG' hx1 hG hc
        go_wp2_with (refine wpList_app1 rfl _ _ 34 9 _ 16 rfl Tryz.underlying34 infoStr rfl (by omega) w.heap.size _ ((tx L).map .string) rfl (hO.out.below ((Below.refl _ _).alloc (Nat.le_refl _) _)) wr.heap.size (.string S) rfl ?hu rfl HLN.out (by simp; omega) ?_)
        case hu => simp [go_sem]
        intro v6 w6 ho6 hb6 hz6 hg6
        have ho7 : Own1 w6 w.heap.size 9 v6 ((tx (L ++ [S.data.toList])).map Value.string) := by
          have e : tx (L ++ [S.data.toList]) = tx L ++ [S] := by simp [tx, ofL_of]
          rw [e, List.map_append]
          exact ho6
        have hl7 : (L ++ [S.data.toList]).length = n + 1 := by rw [List.length_append, hLn.out]; rfl
        obtain ⟨a6, c6, e6⟩ := ho7.slice
        rw [List.length_map, tx_len, hl7] at e6
        subst e6
        have HO7 := Lib.hid ho7
        have HL7 := Lib.hid hl7
        have HB7 := Lib.hid (hB.out.trans (((Below.refl wr.heap.size wr).alloc (Nat.le_refl _) _ |>.mono hz).trans hb6))
        have HG7 : Hid ((L ++ [S.data.toList]) ++ glue ByteArray.empty.data.toList (spl (p.data.toList.drop (k + 1))) = Z) := Lib.hid (by
          show (L ++ [S.data.toList]) ++ glue [] _ = Z
          rw [glue_nil, List.append_assoc, List.singleton_append]; exact HGG.out)
        clear ho6 ho7 hb6 hz6 hg6 hl7 hO hB hLn
        go_wp2
        go_roundw
        case rel => exact ⟨k + 1, n + 1, c6, a6, ByteArray.empty, L ++ [S.data.toList], by omega, by omega, hnl, by simp [ByteArray.size], rfl, rfl, by go_num, HL7, HG7, HO7, HB7, Lib.hid (fun h => by omega)⟩
        case measure => simp [intOf]; omega
      · rw [glue_c _ _ _ hc] at hG'
        have hcn : ((p[k].toNat : Int) == 47) = false := by
          simp only [beq_eq_false_iff_ne, ne_eq]
          intro h
          exact hc (UInt8.toNat_inj.1 (by show p[k].toNat = 47; omega))
        have hx2 : (p.extract k (k + 1)).size = 1 := by rw [hx1]; rfl
        have hS2 : (S ++ p.extract k (k + 1)).data.toList = S.data.toList ++ [p[k]] := by rw [hx1]; simp [ofL]
        have HG7 : Hid (L ++ glue (S ++ p.extract k (k + 1)).data.toList (spl (p.data.toList.drop (k + 1))) = Z) := Lib.hid (by rw [hS2]; exact hG')
        have hSs : (S ++ p.extract k (k + 1)).size ≤ k + 1 := by rw [ByteArray.size_append, hx2]; omega
        have z1 : ¬ (9223372036854775807 < S.size + 1) := by omega
        have z2 : ¬ (9223372036854775807 < S.size + (k + 1 - k)) := by omega
        have HSS := Lib.hid hSs
        clear hd hG' hx1 hG hc hS2 hSs
        go_wp2
        go_roundw
        case rel => exact ⟨k + 1, n, c, a, S ++ p.extract k (k + 1), L, by omega, by omega, hn, HSS.out, rfl, rfl, by go_num, hLn, HG7, hO, hB, Lib.hid (fun h => by omega)⟩
        case measure => simp [intOf]; omega
    · obtain rfl : k = p.size := by omega
      have hd : p.data.toList.drop p.size = [] := List.drop_eq_nil_of_le (by rw [← Lib.size_eq]; omega)
      have hG' := hG.out
      rw [hd] at hG'
      have hG2 : L ++ [S.data.toList] = Z := by simpa [spl, glue] using hG'
      by_cases hr : p.data.toList = [47]
      · have hs1 : p.size = 1 := by rw [Lib.size_eq, hr]; rfl
        have hL0 := hF.out hs1
        have q : (p.toList != [47]) = false := by rw [HTL.out, hr]; rfl
        have qq : (p.toList == [47]) = true := by rw [HTL.out, hr]; rfl
        have HE := Lib.hid (HR1.out hr)
        subst hL0
        have HO := Lib.hid hO.out
        have HB := Lib.hid hB.out
        clear hd hG' hG2 hG hr hs1 hF hLn hO hB HR1 HR2
        go_wp2
        go_ret
        refine ⟨_, rfl, ?_, HB.out⟩
        rw [HE.out]
        exact HO.out
      · have qq : (p.toList == [47]) = false := by
          rw [HTL.out]
          simpa using hr
        have q : (p.toList != [47]) = true := by simp only [bne, qq]; rfl
        have HE := Lib.hid (HR2.out hr)
        have HGG := Lib.hid hG2
        have HLN : Hid (((tx L).map Value.string).length ≤ 1000000000) := Lib.hid (by rw [List.length_map, tx_len, hLn.out]; omega)
        have hz := hB.out.size
        clear hd hG' hG2 hG hr hF HR1 HR2
        go_wp2_with (refine wpList_app1 rfl _ _ 34 9 _ 16 rfl Tryz.underlying34 infoStr rfl (by omega) w.heap.size _ ((tx L).map .string) rfl (hO.out.below ((Below.refl _ _).alloc (Nat.le_refl _) _)) wr.heap.size (.string S) rfl ?hu rfl HLN.out (by simp; omega) ?_)
        case hu => simp [go_sem]
        intro v6 w6 ho6 hb6 hz6 hg6
        have ho7 : Own1 w6 w.heap.size 9 v6 ((tx (rcs p)).map Value.string) := by
          have e : tx (L ++ [S.data.toList]) = tx L ++ [S] := by simp [tx, ofL_of]
          rw [HE.out, ← HGG.out, e, List.map_append]
          exact ho6
        have HO7 := Lib.hid ho7
        have HB7 := Lib.hid (hB.out.trans (((Below.refl wr.heap.size wr).alloc (Nat.le_refl _) _ |>.mono hz).trans hb6))
        clear ho6 ho7 hb6 hz6 hg6 hO hB hLn
        go_wp2
        go_ret
        exact ⟨v6, rfl, HO7.out, HB7.out⟩
theorem vld_size {p : ByteArray} (h : vld p = true) : 1 ≤ p.size ∧ p.size ≤ 137 := by
  have e := vld_pth h
  have e2 : p.size = (pth (nmL p)).size := by rw [← e]
  have := pth_size _ (nm_ok p)
  refine ⟨?_, by omega⟩
  rw [e2]
  unfold pth
  rw [ofL_size]
  simp
set_option maxHeartbeats 2000000 in
theorem rvalid_any (p : ByteArray) (w : World) (hp : p.size ≤ 1000) : Calls Tryz.prog 38 #[.string p] w fun e w' => e = .returned (.bool (vld p)) ∧ Below w.heap.size w w' := by
  by_cases h1 : 1 ≤ p.size
  · by_cases h2 : p.size ≤ 200
    · have k1 : ¬ (p.size : Int) < 1 := by omega
      have k2 : ¬ (200 : Int) < (p.size : Int) := by omega
      have cC := rcut_any p w h1 h2
      have hlen := rcs_len p
      have hmem := rcs_mem p
      obtain ⟨n, hn⟩ : ∃ n, (rcs p).length = n := ⟨_, rfl⟩
      have t1 : (tx (rcs p)).length = n := by rw [tx_len, hn]
      rw [hn] at hlen
      have hcase : (vld p = true ∧ ofE (tx (rcs p)) = 0 ∧ ofP (tx (rcs p)) = p) ∨ (vld p = false ∧ (ofE (tx (rcs p)) = 1 ∨ (ofE (tx (rcs p)) = 0 ∧ ofP (tx (rcs p)) ≠ p))) := by
        cases hv : vld p with
        | true =>
          have := of_back hv
          rw [rcs_vld hv]
          exact .inl ⟨rfl, this.2, this.1⟩
        | false =>
          refine .inr ⟨rfl, ?_⟩
          have hd := tx_data (rcs p)
          unfold ofE ofP
          rw [hd]
          cases ho : okN (rcs p) with
          | false => exact .inl rfl
          | true =>
            refine .inr ⟨rfl, ?_⟩
            intro hc
            have := (pth_vld ho).1
            simp only [if_true] at hc
            rw [hc, hv] at this
            cases this
      obtain ⟨X, hX⟩ : ∃ X, ofP (tx (rcs p)) = X := ⟨_, rfl⟩
      obtain ⟨E, hE⟩ : ∃ E, ofE (tx (rcs p)) = E := ⟨_, rfl⟩
      obtain ⟨V, hV⟩ : ∃ V, vld p = V := ⟨_, rfl⟩
      rw [hX, hE, hV] at hcase
      rw [hV]
      have T1 := Lib.hid t1
      have HX := Lib.hid hX
      have HE := Lib.hid hE
      have HMM := Lib.hid hmem
      clear hX hE hV t1 hmem hn
      go_enter Tryz.func38, Tryz.ntmps38
      go_wp2_with fail
      refine cC.mono ?_
      rintro e w1 ⟨v, he, ho, hb⟩
      subst he
      obtain ⟨a, c, hv, hs⟩ := srd_of_own ho (by rw [T1.out]; omega)
      have cR := rof_any a c (tx (rcs p)) w1 hs (fun s hs => by have := HMM.out s hs; unfold maxLen; omega)
      rw [HX.out, HE.out, T1.out] at cR
      rw [T1.out] at hv
      subst hv
      have HB := Lib.hid hb
      clear ho hb hs cC
      go_wp2_with fail
      refine cR.mono ?_
      rintro e w2 ⟨rfl, rfl⟩
      clear cR
      rcases hcase with ⟨rfl, rfl, rfl⟩ | ⟨rfl, rfl | ⟨rfl, hne⟩⟩
      · obtain ⟨s1, s2⟩ := str_eq X
        go_wp2
        go_ret
        exact ⟨rfl, HB.out⟩
      · go_wp2
        go_ret
        exact ⟨rfl, HB.out⟩
      · obtain ⟨s1, s2⟩ := str_ne hne
        clear hne
        go_wp2
        go_ret
        exact ⟨rfl, HB.out⟩
    · have hv : vld p = false := by
        cases h : vld p with
        | false => rfl
        | true => have := vld_size h; omega
      rw [hv]
      have k1 : ¬ (p.size : Int) < 1 := by omega
      have k2 : (200 : Int) < (p.size : Int) := by omega
      clear hv
      go_enter Tryz.func38, Tryz.ntmps38
      go_wp2
      go_ret
      exact ⟨rfl, Below.refl _ _⟩
  · have hv : vld p = false := by
      cases h : vld p with
      | false => rfl
      | true => have := vld_size h; omega
    rw [hv]
    have k1 : (p.size : Int) < 1 := by omega
    clear hv
    go_enter Tryz.func38, Tryz.ntmps38
    go_wp2
    go_ret
    exact ⟨rfl, Below.refl _ _⟩
/-- What is cut of a path: its names. -/
theorem rcutv_any (p : ByteArray) (w : World) (hv : vld p = true) : Calls Tryz.prog 59 #[.string p] w (NamP p w) := by
  have hs := vld_size hv
  refine (rcut_any p w hs.1 (by omega)).mono ?_
  rintro e w' ⟨v, he, ho, hb⟩
  rw [rcs_vld hv] at ho
  exact ⟨v, he, ho, hb⟩
theorem rdepth_any (p : ByteArray) (w : World) (hp : p.size ≤ 1000) : Calls Tryz.prog 31 #[.string p] w fun e w' => e = .returned (.int .i64 (dpt p)) ∧ Below w.heap.size w w' := by
  have cV := rvalid_any p w hp
  cases hv : vld p with
  | true =>
    have e1 := dpt_of hv
    obtain ⟨n, hn⟩ : ∃ n, (nmL p).length = n := ⟨_, rfl⟩
    rw [e1, hn]
    rw [hv] at cV
    have HV := Lib.hid hv
    have HN := Lib.hid hn
    clear hv e1 hn
    go_enter Tryz.func31, Tryz.ntmps31
    go_wp2_with (go_at_call 38; refine cV.mono ?_; rintro e w1 ⟨rfl, hb⟩; have HB := Lib.hid hb; clear hb)
    refine (rcutv_any p w1 HV.out).mono ?_
    rintro e w2 ⟨v, he, ho, hb⟩
    subst he
    obtain ⟨a, c, hv, hs, hcap⟩ := cut_srd ho
    rw [HN.out] at hv
    subst hv
    have HB2 := Lib.hid (below_self HB.out hb)
    clear ho hb cV hs hcap
    go_wp2
    go_ret
    exact ⟨rfl, HB2.out⟩
  | false =>
    have e1 : dpt p = -1 := by unfold dpt; rw [hv]; rfl
    rw [e1]
    rw [hv] at cV
    clear hv e1
    go_enter Tryz.func31, Tryz.ntmps31
    go_wp2_with (go_at_call 38; refine cV.mono ?_; rintro e w1 ⟨rfl, hb⟩; have HB := Lib.hid hb; clear hb)
    go_ret
    exact ⟨rfl, HB.out⟩
theorem nm_vld {p : ByteArray} (h : (nmL p).length ≠ 0) : vld p = true := by
  cases hv : vld p with
  | true => rfl
  | false => rw [nm_novld hv] at h; simp at h
theorem dpt_zero {p : ByteArray} (h : (nmL p).length = 0) : dpt p < 1 := by
  unfold dpt
  split
  · omega
  · omega
set_option maxHeartbeats 1000000 in
theorem rlast_any (p : ByteArray) (w : World) (hp : p.size ≤ 1000) : Calls Tryz.prog 68 #[.string p] w fun e w' => e = .returned (.string (lst p)) ∧ Below w.heap.size w w' := by
  have cD := rdepth_any p w hp
  have hn8 := okN_len (nm_ok p)
  by_cases h0 : (nmL p).length = 0
  · have e1 : lst p = ByteArray.empty := by unfold lst; rw [if_pos h0]
    rw [e1]
    have hd := dpt_zero h0
    obtain ⟨D, hD⟩ : ∃ D, dpt p = D := ⟨_, rfl⟩
    rw [hD] at cD hd
    clear e1 h0 hD
    go_enter Tryz.func68, Tryz.ntmps68
    go_wp2_with (go_at_call 31; refine cD.mono ?_; rintro e w1 ⟨rfl, hb⟩; have HB := Lib.hid hb; clear hb)
    go_ret
    exact ⟨rfl, HB.out⟩
  · have hv := nm_vld h0
    have e1 : lst p = ofL ((nmL p).getLastD []) := by unfold lst; rw [if_neg h0]
    obtain ⟨m, hm⟩ : ∃ m, (nmL p).length = m + 1 := ⟨(nmL p).length - 1, by omega⟩
    have el : (nmL p).getD m [] = (nmL p).getLastD [] := by
      rw [List.getLastD_eq_getLast?, List.getLast?_eq_getElem?, hm]
      simp [List.getD]
    obtain ⟨L, hL⟩ : ∃ L, (nmL p).getLastD [] = L := ⟨_, rfl⟩
    rw [e1, hL]
    rw [dpt_of hv, hm] at cD
    have hd : ¬ ((m + 1 : Nat) : Int) < 1 := by omega
    obtain ⟨D, hD⟩ : ∃ D, ((m + 1 : Nat) : Int) = D := ⟨_, rfl⟩
    rw [hD] at cD hd
    have HV := Lib.hid hv
    have HM := Lib.hid hm
    have HEL := Lib.hid (el.trans hL)
    clear e1 h0 el hL hm hv hD
    go_enter Tryz.func68, Tryz.ntmps68
    go_wp2_with (go_at_call 31; refine cD.mono ?_; rintro e w1 ⟨rfl, hb⟩; have HB := Lib.hid hb; clear hb)
    refine (rcutv_any p w1 HV.out).mono ?_
    rintro e w2 ⟨v, he, ho, hb⟩
    subst he
    obtain ⟨a, c, hv, hs, hcap⟩ := cut_srd ho
    have HB2 := Lib.hid (below_self HB.out hb)
    obtain ⟨g, off, rfl, hg, hcl⟩ := hs.cell m (by rw [tx_len, HM.out]; omega)
    rw [tx_getD _ _ (by rw [HM.out]; omega), HEL.out] at hcl
    rw [HM.out] at hv hn8
    subst hv
    have k2 : (0 : Int) ≤ (m : Int) := by omega
    have k3 : (m : Int) ≤ 100 := by omega
    clear ho hb cD hs hcap
    go_wp2
    go_ret
    exact ⟨rfl, HB2.out⟩
set_option maxHeartbeats 1000000 in
theorem rparent_any (p : ByteArray) (w : World) (hp : p.size ≤ 1000) : Calls Tryz.prog 33 #[.string p] w fun e w' => e = .returned (.string (par p)) ∧ Below w.heap.size w w' := by
  have cD := rdepth_any p w hp
  have hok := nm_ok p
  have hn8 := okN_len hok
  by_cases h0 : (nmL p).length = 0
  · have e1 : par p = ByteArray.empty := by unfold par; rw [if_pos h0]
    rw [e1]
    have hd := dpt_zero h0
    obtain ⟨D, hD⟩ : ∃ D, dpt p = D := ⟨_, rfl⟩
    rw [hD] at cD hd
    clear e1 h0 hD hok
    go_enter Tryz.func33, Tryz.ntmps33
    go_wp2_with (go_at_call 31; refine cD.mono ?_; rintro e w1 ⟨rfl, hb⟩; have HB := Lib.hid hb; clear hb)
    go_ret
    exact ⟨rfl, HB.out⟩
  · have hv := nm_vld h0
    have e1 : par p = pth (nmL p).dropLast := by unfold par; rw [if_neg h0]
    have hokd := okN_dropLast hok
    obtain ⟨m, hm⟩ : ∃ m, (nmL p).length = m + 1 := ⟨(nmL p).length - 1, by omega⟩
    obtain ⟨K, hK⟩ : ∃ K, (nmL p).dropLast = K := ⟨_, rfl⟩
    have hKt : (nmL p).take m = K := by rw [← hK, List.dropLast_eq_take, hm]; rfl
    have hKl : K.length = m := by rw [← hK, List.length_dropLast, hm]; rfl
    rw [hK] at hokd
    have hP : ofP (tx K) = pth K ∧ ofE (tx K) = 0 := by
      have hd := tx_data K
      unfold ofP ofE
      rw [hd, hokd]
      exact ⟨rfl, rfl⟩
    have hsz : ∀ s ∈ tx K, s.size ≤ maxLen := by
      intro s hs
      unfold tx at hs
      rw [List.mem_map] at hs
      obtain ⟨x, hx, rfl⟩ := hs
      have := okN_all hokd x hx
      unfold nmB at this
      simp only [Bool.and_eq_true, decide_eq_true_eq] at this
      rw [ofL_size]
      unfold maxLen
      omega
    rw [e1, hK]
    rw [dpt_of hv, hm] at cD
    have hd : ¬ ((m + 1 : Nat) : Int) < 1 := by omega
    obtain ⟨D, hD⟩ : ∃ D, ((m + 1 : Nat) : Int) = D := ⟨_, rfl⟩
    rw [hD] at cD hd
    have HV := Lib.hid hv
    have HM := Lib.hid hm
    have HKt := Lib.hid hKt
    have HKl := Lib.hid hKl
    have HP := Lib.hid hP
    have HSZ := Lib.hid hsz
    clear e1 h0 hm hv hD hKt hKl hP hsz hK hokd hok
    go_enter Tryz.func33, Tryz.ntmps33
    go_wp2_with (go_at_call 31; refine cD.mono ?_; rintro e w1 ⟨rfl, hb⟩; have HB := Lib.hid hb; clear hb)
    refine (rcutv_any p w1 HV.out).mono ?_
    rintro e w2 ⟨v, he, ho, hb⟩
    subst he
    obtain ⟨a, c, hv, hs, hcap⟩ := cut_srd ho
    have HB2 := Lib.hid (below_self HB.out hb)
    have hs2 := srd_cut (c := c) hs m (by rw [tx_len, HM.out]; omega)
    rw [tx_take, HKt.out] at hs2
    have cR := rof_any a c (tx K) w2 hs2 HSZ.out
    rw [HP.out.1, HP.out.2, tx_len, HKl.out] at cR
    rw [HM.out] at hv hcap hn8
    subst hv
    have k2 : (0 : Int) ≤ (m : Int) := by omega
    have k3 : (m : Int) ≤ 100 := by omega
    have k4 : m ≤ c := by omega
    obtain ⟨X, hX⟩ : ∃ X, pth K = X := ⟨_, rfl⟩
    rw [hX] at cR
    have HX := Lib.hid hX
    clear ho hb cD hs hcap hs2 hX
    go_wp2_with (refine wpList_cutS rfl _ _ rfl a (m + 1) c rfl m ?hh k4 ?_)
    case hh => simp [go_sem]
    go_wp2_with fail
    refine cR.mono ?_
    rintro e w3 ⟨rfl, rfl⟩
    clear cR
    go_wp2
    go_ret
    exact ⟨ret_str HX.out.symm, HB2.out⟩
theorem ofL_ne {x y : List UInt8} (h : x ≠ y) : ((ofL x).toList == (ofL y).toList) = false ∧ ((ofL x).toList != (ofL y).toList) = true := str_ne (fun e => h (ofL_inj e))
theorem take_eq {P Q : List (List UInt8)} (k : Nat) (hp : k < P.length) (hq : k < Q.length) (h : Q.take k = P.take k) (he : P.getD k [] = Q.getD k []) : Q.take (k + 1) = P.take (k + 1) := by
  rw [List.take_succ_eq_append_getElem hp, List.take_succ_eq_append_getElem hq, h]
  simp only [List.getD, List.getElem?_eq_getElem hp, List.getElem?_eq_getElem hq, Option.getD_some] at he
  rw [he]
theorem ltN_step (x y : List UInt8) (a b : List (List UInt8)) : ltN (x :: a) (y :: b) = if x = y then ltN a b else Op.bytesLess x y := rfl
theorem drop_cons (P : List (List UInt8)) (k : Nat) (h : k < P.length) : P.drop k = P.getD k [] :: P.drop (k + 1) := by
  rw [List.drop_eq_getElem_cons h]; simp [List.getD, h]
set_option maxHeartbeats 4000000 in
theorem rless_any (p q : ByteArray) (w : World) (hp : p.size ≤ 1000) (hq : q.size ≤ 1000) : Calls Tryz.prog 32 #[.string p, .string q] w fun e w' => e = .returned (.bool (lsr p q)) ∧ Below w.heap.size w w' := by
  have HB : Hid (Below w.heap.size w w) := Lib.hid (Below.refl _ _)
  cases vp : vld p with
  | false =>
    have e : lsr p q = false := by unfold lsr; rw [vp]; rfl
    rw [e]
    clear e
    go_enter Tryz.func32, Tryz.ntmps32
    go_wp2_with (go_at_call 38; refine (rvalid_any _ _ (by assumption)).mono ?_; rintro e w1 ⟨rfl, hb⟩; replace HB := Lib.hid (below_self HB.out hb); clear hb)
    go_ret
    exact ⟨rfl, HB.out⟩
  | true =>
    cases vq : vld q with
    | false =>
      have e : lsr p q = false := by unfold lsr; rw [vp, vq]; rfl
      rw [e]
      clear e
      go_enter Tryz.func32, Tryz.ntmps32
      go_wp2_with (go_at_call 38; refine (rvalid_any _ _ (by assumption)).mono ?_; rintro e w1 ⟨rfl, hb⟩; replace HB := Lib.hid (below_self HB.out hb); clear hb)
      go_ret
      exact ⟨rfl, HB.out⟩
    | true =>
      obtain ⟨n, hn⟩ : ∃ n, (nmL p).length = n := ⟨_, rfl⟩
      obtain ⟨m, hmm⟩ : ∃ m, (nmL q).length = m := ⟨_, rfl⟩
      have hn8 := okN_len (nm_ok p)
      have hm8 := okN_len (nm_ok q)
      rw [hn] at hn8
      rw [hmm] at hm8
      have HN := Lib.hid hn
      have HMM := Lib.hid hmm
      have VP := Lib.hid vp
      have VQ := Lib.hid vq
      obtain ⟨T, hT⟩ : ∃ T, lsr p q = T := ⟨_, rfl⟩
      rw [hT]
      have hT2 : ltN (nmL p) (nmL q) = T := by
        rw [← hT]
        unfold lsr
        rw [vp, vq]
        rfl
      have HT := Lib.hid hT2
      clear hT hT2 hn hmm
      go_enter Tryz.func32, Tryz.ntmps32
      go_wp2_with (go_at_call 38; refine (rvalid_any _ _ (by assumption)).mono ?_; rintro e w1 ⟨rfl, hb⟩; replace HB := Lib.hid (below_self HB.out hb); clear hb)
      refine (rcutv_any p w1 VP.out).mono ?_
      rintro e w2 ⟨v, he, ho1, hb⟩
      subst he
      obtain ⟨a1, c1, hv, hs1, hc1⟩ := cut_srd ho1
      rw [HN.out] at hv
      subst hv
      replace HB := Lib.hid (below_self HB.out hb)
      have HS1 := Lib.hid hs1
      clear ho1 hb hs1 hc1
      go_wp2_with fail
      refine (rcutv_any q w2 VQ.out).mono ?_
      rintro e w3 ⟨v, he, ho2, hb⟩
      subst he
      obtain ⟨a2, c2, hv, hs2, hc2⟩ := cut_srd ho2
      rw [HMM.out] at hv
      subst hv
      replace HB := Lib.hid (below_self HB.out hb)
      replace HS1 := Lib.hid (HS1.out.below hb)
      have HS2 := Lib.hid hs2
      clear ho2 hb hs2 hc2
      clear vp vq
      go_wp2_with fail
      go_loopw [7] (fun i wr => ∃ k : Nat, k ≤ n ∧ k ≤ m ∧ i = .int .i64 k ∧ Hid (Below w3.heap.size w3 wr) ∧ Hid (ltN ((nmL p).drop k) ((nmL q).drop k) = T)) (fun i _ => n - (intOf i).toNat)
      case atStart => exact ⟨0, Nat.zero_le _, Nat.zero_le _, rfl, Lib.hid (Below.refl _ _), HT⟩
      case round =>
        obtain ⟨k, hk, hkm, rfl, hB, hE⟩ := hrel
        by_cases hboth : k < n ∧ k < m
        · obtain ⟨hlt, hltm⟩ := hboth
          have hlt1 : k < (nmL p).length := by rw [HN.out]; exact hlt
          have hlt2 : k < (nmL q).length := by rw [HMM.out]; exact hltm
          obtain ⟨g1, o1, rfl, hg1, hc1⟩ := HS1.out.cell k (by rw [tx_len]; exact hlt1)
          obtain ⟨g2, o2, rfl, hg2, hc2⟩ := HS2.out.cell k (by rw [tx_len]; exact hlt2)
          rw [tx_getD _ _ hlt1] at hc1
          rw [tx_getD _ _ hlt2] at hc2
          obtain ⟨x, hx⟩ : ∃ x, (nmL p).getD k [] = x := ⟨_, rfl⟩
          obtain ⟨y, hy⟩ : ∃ y, (nmL q).getD k [] = y := ⟨_, rfl⟩
          rw [hx] at hc1
          rw [hy] at hc2
          have c1' : wr.cell? ⟨g1, o1 + k, none⟩ = some (.string (ofL x)) := (hB.out.cell (p := ⟨g1, o1 + k, none⟩) hg1).trans hc1
          have c2' : wr.cell? ⟨g2, o2 + k, none⟩ = some (.string (ofL y)) := (hB.out.cell (p := ⟨g2, o2 + k, none⟩) hg2).trans hc2
          have c1d : wr.drew.cell? ⟨g1, o1 + k, none⟩ = some (.string (ofL x)) := c1'
          have c2d : wr.drew.cell? ⟨g2, o2 + k, none⟩ = some (.string (ofL y)) := c2'
          have z1 : (k : Int) < (n : Int) := by omega
          have z2 : (k : Int) < (m : Int) := by omega
          have hE2 := hE.out
          rw [drop_cons _ k hlt1, drop_cons _ k hlt2, ltN_step, hx, hy] at hE2
          by_cases hxy : x = y
          · rw [if_pos hxy] at hE2
            have HE2 := Lib.hid hE2
            subst hxy
            obtain ⟨q1, q2⟩ := str_eq (ofL x)
            clear hE2 hx hy hc1 hc2
            go_wp2
            go_region
            go_wp2
            go_roundw
            case rel => exact ⟨k + 1, by omega, by omega, by go_num, Lib.hid (hB.out.drew), HE2⟩
            case measure => simp [intOf]; omega
          · rw [if_neg hxy] at hE2
            have hbl : Op.bytesLess (ofL x).toList (ofL y).toList = T := by rw [Lib.toList_data, Lib.toList_data, ofL_data, ofL_data]; exact hE2
            obtain ⟨q1, q2⟩ := ofL_ne hxy
            have c1e : wr.drew.drew.cell? ⟨g1, o1 + k, none⟩ = some (.string (ofL x)) := c1'
            have c2e : wr.drew.drew.cell? ⟨g2, o2 + k, none⟩ = some (.string (ofL y)) := c2'
            clear hx hy hc1 hc2 hxy hE2 HT hE
            go_wp2
            go_region
            go_wp2
            go_region
            go_wp2
            go_ret
            exact ⟨rfl, below_self HB.out hB.out.drew.drew⟩
        · have hfin : T = decide (n < m) := by
            have hE2 := hE.out
            by_cases h1 : k < n
            · have h2 : ¬ k < m := fun h => hboth ⟨h1, h⟩
              have e2 : (nmL q).drop k = [] := List.drop_eq_nil_of_le (by rw [HMM.out]; omega)
              have e1 := drop_cons (nmL p) k (by rw [HN.out]; exact h1)
              rw [e1, e2] at hE2
              have : ¬ n < m := by omega
              rw [← hE2]
              simp [ltN, this]
            · have e1 : (nmL p).drop k = [] := List.drop_eq_nil_of_le (by rw [HN.out]; omega)
              rw [e1] at hE2
              by_cases h2 : k < m
              · rw [drop_cons (nmL q) k (by rw [HMM.out]; exact h2)] at hE2
                have : n < m := by omega
                rw [← hE2]
                simp [ltN, this]
              · rw [List.drop_eq_nil_of_le (by rw [HMM.out]; omega)] at hE2
                have : ¬ n < m := by omega
                rw [← hE2]
                simp [ltN, this]
          subst hfin
          clear HT hE
          by_cases h1 : (k : Int) < (n : Int)
          · have h2 : ¬ (k : Int) < (m : Int) := by omega
            clear hboth
            by_cases h3 : n < m
            · have hd : decide (n < m) = true := by simpa using h3
              rw [hd]
              clear hd
              go_wp2
              go_ret
              exact ⟨rfl, below_self HB.out hB.out⟩
            · have hd : decide (n < m) = false := by simpa using h3
              have HD := Lib.hid hd
              clear hd
              go_wp2
              go_ret
              exact ⟨by first | rfl | rw [HD.out], below_self HB.out hB.out⟩
          · clear hboth
            by_cases h3 : n < m
            · have HD := Lib.hid (decide_eq_true h3)
              go_wp2
              go_ret
              exact ⟨by first | rfl | rw [HD.out], below_self HB.out hB.out⟩
            · have HD := Lib.hid (decide_eq_false h3)
              go_wp2
              go_ret
              exact ⟨by first | rfl | rw [HD.out], below_self HB.out hB.out⟩
end Go.Proofs.YtodcmhmankmaoaaGreat
