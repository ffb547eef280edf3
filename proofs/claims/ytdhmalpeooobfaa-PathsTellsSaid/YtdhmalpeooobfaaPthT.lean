/-
  The document's cut of a path, and whether it is one.
-/
import Derived.Test.YtdhmalpeooobfaaPthR2
namespace Go.Proofs.Ytdhmalpeooobfaa
open Go.RowKit
set_option linter.unusedSimpArgs false
set_option linter.unusedVariables false

def glue (S : List UInt8) : List (List UInt8) → List (List UInt8)
  | [] => []
  | h :: t => (S ++ h) :: t
/-- What the document cuts a text into. -/
def rcs (p : ByteArray) : List (List UInt8) := if p.data.toList = [47] then [] else spl (p.data.toList.drop 1)
theorem glue_nil (l : List (List UInt8)) : glue [] l = l := by cases l <;> rfl
theorem glue_47 (S r : List UInt8) : glue S (spl (47 :: r)) = S :: spl r := by
  rw [spl, if_pos rfl]
  simp [glue]
theorem glue_c (S r : List UInt8) (c : UInt8) (hc : c ≠ 47) : glue S (spl (c :: r)) = glue (S ++ [c]) (spl r) := by
  rw [spl, if_neg hc]
  cases hs : spl r with
  | nil => exact absurd hs (spl_ne r)
  | cons h t => simp [glue]
theorem spl_len (l : List UInt8) : ∀ x ∈ spl l, x.length ≤ l.length := by
  induction l with
  | nil => simp [spl]
  | cons c l ih =>
    intro x hx
    rw [spl] at hx
    split at hx
    · rcases List.mem_cons.1 hx with rfl | h
      · simp
      · have := ih x h; simp; omega
    · cases hs : spl l with
      | nil => exact absurd hs (spl_ne l)
      | cons h t =>
        rw [hs] at hx ih
        simp only [List.headD_cons, List.tail_cons, List.mem_cons] at hx
        rcases hx with rfl | h
        · have := ih h (by simp); simp; omega
        · have := ih x (by simp [h]); simp; omega
theorem spl_count (l : List UInt8) : (spl l).length ≤ l.length + 1 := by
  induction l with
  | nil => simp [spl]
  | cons c l ih =>
    rw [spl]
    split
    · simp; omega
    · cases hs : spl l with
      | nil => simp
      | cons h t => rw [hs] at ih; simp at ih ⊢; omega
theorem jn_ne {ns : List (List UInt8)} (hn : ns ≠ []) (h : ∀ n ∈ ns, nmB n = true) : jn ns ≠ [] := by
  cases ns with
  | nil => exact absurd rfl hn
  | cons x r =>
    cases r with
    | nil => rw [jn_one]; exact (nmB_ne (h x (by simp))).2
    | cons y r => rw [jn_cons]; simp
theorem vld_data {p : ByteArray} (h : vld p = true) : p.data.toList = 47 :: jn (nmL p) := by
  have e := vld_pth h
  have e2 : (pth (nmL p)).data.toList = 47 :: jn (nmL p) := ofL_data _
  rw [← e] at e2
  exact e2
theorem rcs_vld {p : ByteArray} (h : vld p = true) : rcs p = nmL p := by
  have e2 := vld_data h
  unfold rcs
  by_cases hn : nmL p = []
  · rw [if_pos (by rw [e2, hn]; rfl), hn]
  · have hne := jn_ne hn (okN_all (nm_ok p))
    rw [if_neg (by rw [e2]; intro hc; exact hne (List.cons.inj hc).2), e2]
    simp only [List.drop_succ_cons, List.drop_zero]
    exact spl_jn _ hn (fun n hn' => (nmB_ne (okN_all (nm_ok p) n hn')).1)
theorem rcs_len (p : ByteArray) : (rcs p).length ≤ p.size + 1 := by
  have hs := Lib.size_eq p
  unfold rcs
  split
  · simp
  · have := spl_count (p.data.toList.drop 1)
    simp only [List.length_drop] at this
    omega
theorem rcs_mem (p : ByteArray) : ∀ s ∈ tx (rcs p), s.size ≤ p.size := by
  have hs := Lib.size_eq p
  intro s hm
  unfold tx at hm
  rw [List.mem_map] at hm
  obtain ⟨x, hx, rfl⟩ := hm
  rw [ofL_size]
  unfold rcs at hx
  split at hx
  · simp at hx
  · have := spl_len _ x hx
    simp only [List.length_drop] at this
    omega
def RcP (p : ByteArray) (w : World) (e : Ending) (w' : World) : Prop := ∃ v, Hid (e = .returned v) ∧ Own1 w' w.heap.size 9 v ((tx (rcs p)).map .string) ∧ Below w.heap.size w w'
theorem ext_one (s : ByteArray) (k : Nat) (h : k < s.size) : s.extract k (k + 1) = ofL [s[k]] := by
  apply data_inj
  have hl : k < s.data.toList.length := by rw [← Lib.size_eq]; exact h
  have e := at_list s k h
  rw [ofL_data, Lib.extract_data]
  simp only [Array.toList_extract, List.extract_eq_take_drop, Nat.add_sub_cancel_left]
  rw [e]
  rfl
set_option maxHeartbeats 4000000 in
theorem rcut_any (p : ByteArray) (w : World) (h1 : 1 ≤ p.size) (h2 : p.size ≤ 200) : Calls Try.prog 28 #[.string p] w (RcP p w) := by
  obtain ⟨Z, hZ⟩ : ∃ Z, spl (p.data.toList.drop 1) = Z := ⟨_, rfl⟩
  have hZl : Z.length ≤ 201 := by
    have := spl_count (p.data.toList.drop 1)
    have hs := Lib.size_eq p
    rw [hZ, List.length_drop] at this
    omega
  have HZ := Lib.hid hZ
  have HR1 : Hid (p.data.toList = [47] → rcs p = []) := Lib.hid (fun h => by unfold rcs; rw [if_pos h])
  have HR2 : Hid (p.data.toList ≠ [47] → rcs p = Z) := Lib.hid (fun h => by unfold rcs; rw [if_neg h, hZ])
  have htl : p.toList = p.data.toList := Lib.toList_data p
  have HTL := Lib.hid htl
  clear hZ htl
  go_enter Try.func28, Try.ntmps28
  go_wp2_with fail
  go_loopw [3, 4, 5] (fun l s i wr => ∃ (k n c : Nat) (a : Option Addr) (S : ByteArray) (L : List (List UInt8)), 1 ≤ k ∧ k ≤ p.size ∧ n ≤ 201 ∧ S.size ≤ k ∧ l = .slice a n c ∧ s = .string S ∧ i = .int .i64 k ∧ Hid (L.length = n) ∧ Hid (L ++ glue S.data.toList (spl (p.data.toList.drop k)) = Z) ∧ Hid (Own1 wr w.heap.size 9 (.slice a n c) ((tx L).map .string)) ∧ Hid (Below w.heap.size w wr) ∧ Hid (k = 1 → L = [])) (fun _ _ i _ => p.size - (intOf i).toNat)
  case atStart => exact ⟨1, 0, 0, none, ByteArray.empty, [], by omega, h1, by omega, by simp [ByteArray.size], rfl, rfl, rfl, Lib.hid rfl, Lib.hid (by rw [List.nil_append]; show glue [] _ = _; rw [glue_nil, HZ.out]), Lib.hid (by simpa [tx] using Own1.nil _ _ _), Lib.hid (Below.refl _ _), Lib.hid (fun _ => rfl)⟩
  case round =>
    obtain ⟨k, n, c, a, S, L, hk1, hk, hn, hS, rfl, rfl, rfl, hLn, hG, hO, hB, hF⟩ := hrel
    by_cases hlt : k < p.size
    · have hlt' : (k : Int) < (p.size : Int) := by omega
      have hd := at_list p k hlt
      have hG' := hG.out
      rw [hd] at hG'
      have hx1 := ext_one p k hlt
      by_cases hc : p[k] = 47
      · rw [hc, glue_47] at hG'
        have hcn : p[k].toNat = 47 := by rw [hc]; rfl
        have hnl : n + 1 ≤ 201 := by
          have := congrArg List.length hG'
          rw [List.length_append, List.length_cons, hLn.out] at this
          have h0 := List.length_pos_iff.2 (spl_ne (p.data.toList.drop (k + 1)))
          omega
        have HGG := Lib.hid hG'
        have HLN : Hid (((tx L).map Value.string).length ≤ 1000000000) := Lib.hid (by rw [List.length_map, tx_len, hLn.out]; omega)
        have hz := hB.out.size
        clear hd hG' hx1 hG hc
        go_wp2_with (refine wpList_app1 rfl _ _ 25 9 _ 16 rfl Try.underlying25 infoStr rfl (by omega) w.heap.size _ ((tx L).map .string) rfl (hO.out.below ((Below.refl _ _).alloc (Nat.le_refl _) _)) wr.heap.size (.string S) rfl ?hu rfl HLN.out (by simp; omega) ?_)
        case hu => simp [go_sem]
        intro v6 w6 ho6 hb6 hz6 hg6
        have ho7 : Own1 w6 w.heap.size 9 v6 ((tx (L ++ [S.data.toList])).map Value.string) := by
          have e : tx (L ++ [S.data.toList]) = tx L ++ [S] := by simp [tx, ofL_of]
          rw [e, List.map_append]
          exact ho6
        have hl7 : (L ++ [S.data.toList]).length = n + 1 := by rw [List.length_append, hLn.out]; rfl
        obtain ⟨a6, c6, e6⟩ := ho7.slice
        rw [List.length_map, tx_len, hl7] at e6
        subst e6
        have HO7 := Lib.hid ho7
        have HL7 := Lib.hid hl7
        have HB7 := Lib.hid (hB.out.trans (((Below.refl wr.heap.size wr).alloc (Nat.le_refl _) _ |>.mono hz).trans hb6))
        have HG7 : Hid ((L ++ [S.data.toList]) ++ glue ByteArray.empty.data.toList (spl (p.data.toList.drop (k + 1))) = Z) := Lib.hid (by
          show (L ++ [S.data.toList]) ++ glue [] _ = Z
          rw [glue_nil, List.append_assoc, List.singleton_append]; exact HGG.out)
        clear ho6 ho7 hb6 hz6 hg6 hl7 hO hB hLn
        go_wp2
        go_roundw
        case rel => exact ⟨k + 1, n + 1, c6, a6, ByteArray.empty, L ++ [S.data.toList], by omega, by omega, hnl, by simp [ByteArray.size], rfl, rfl, by go_num, HL7, HG7, HO7, HB7, Lib.hid (fun h => by omega)⟩
        case measure => simp [intOf]; omega
      · rw [glue_c _ _ _ hc] at hG'
        have hcn : ((p[k].toNat : Int) == 47) = false := by
          simp only [beq_eq_false_iff_ne, ne_eq]
          intro h
          exact hc (UInt8.toNat_inj.1 (by show p[k].toNat = 47; omega))
        have hx2 : (p.extract k (k + 1)).size = 1 := by rw [hx1]; rfl
        have hS2 : (S ++ p.extract k (k + 1)).data.toList = S.data.toList ++ [p[k]] := by rw [hx1]; simp [ofL]
        have HG7 : Hid (L ++ glue (S ++ p.extract k (k + 1)).data.toList (spl (p.data.toList.drop (k + 1))) = Z) := Lib.hid (by rw [hS2]; exact hG')
        have hSs : (S ++ p.extract k (k + 1)).size ≤ k + 1 := by rw [ByteArray.size_append, hx2]; omega
        have z1 : ¬ (9223372036854775807 < S.size + 1) := by omega
        have z2 : ¬ (9223372036854775807 < S.size + (k + 1 - k)) := by omega
        have HSS := Lib.hid hSs
        clear hd hG' hx1 hG hc hS2 hSs
        go_wp2
        go_roundw
        case rel => exact ⟨k + 1, n, c, a, S ++ p.extract k (k + 1), L, by omega, by omega, hn, HSS.out, rfl, rfl, by go_num, hLn, HG7, hO, hB, Lib.hid (fun h => by omega)⟩
        case measure => simp [intOf]; omega
    · obtain rfl : k = p.size := by omega
      have hd : p.data.toList.drop p.size = [] := List.drop_eq_nil_of_le (by rw [← Lib.size_eq]; omega)
      have hG' := hG.out
      rw [hd] at hG'
      have hG2 : L ++ [S.data.toList] = Z := by simpa [spl, glue] using hG'
      by_cases hr : p.data.toList = [47]
      · have hs1 : p.size = 1 := by rw [Lib.size_eq, hr]; rfl
        have hL0 := hF.out hs1
        have q : (p.toList != [47]) = false := by rw [HTL.out, hr]; rfl
        have qq : (p.toList == [47]) = true := by rw [HTL.out, hr]; rfl
        have HE := Lib.hid (HR1.out hr)
        subst hL0
        have HO := Lib.hid hO.out
        have HB := Lib.hid hB.out
        clear hd hG' hG2 hG hr hs1 hF hLn hO hB HR1 HR2
        go_wp2
        go_ret
        refine ⟨_, rfl, ?_, HB.out⟩
        rw [HE.out]
        exact HO.out
      · have qq : (p.toList == [47]) = false := by
          rw [HTL.out]
          simpa using hr
        have q : (p.toList != [47]) = true := by simp only [bne, qq]; rfl
        have HE := Lib.hid (HR2.out hr)
        have HGG := Lib.hid hG2
        have HLN : Hid (((tx L).map Value.string).length ≤ 1000000000) := Lib.hid (by rw [List.length_map, tx_len, hLn.out]; omega)
        have hz := hB.out.size
        clear hd hG' hG2 hG hr hF HR1 HR2
        go_wp2_with (refine wpList_app1 rfl _ _ 25 9 _ 16 rfl Try.underlying25 infoStr rfl (by omega) w.heap.size _ ((tx L).map .string) rfl (hO.out.below ((Below.refl _ _).alloc (Nat.le_refl _) _)) wr.heap.size (.string S) rfl ?hu rfl HLN.out (by simp; omega) ?_)
        case hu => simp [go_sem]
        intro v6 w6 ho6 hb6 hz6 hg6
        have ho7 : Own1 w6 w.heap.size 9 v6 ((tx (rcs p)).map Value.string) := by
          have e : tx (L ++ [S.data.toList]) = tx L ++ [S] := by simp [tx, ofL_of]
          rw [HE.out, ← HGG.out, e, List.map_append]
          exact ho6
        have HO7 := Lib.hid ho7
        have HB7 := Lib.hid (hB.out.trans (((Below.refl wr.heap.size wr).alloc (Nat.le_refl _) _ |>.mono hz).trans hb6))
        clear ho6 ho7 hb6 hz6 hg6 hO hB hLn
        go_wp2
        go_ret
        exact ⟨v6, rfl, HO7.out, HB7.out⟩
end Go.Proofs.Ytdhmalpeooobfaa
