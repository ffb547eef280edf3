/-
  Texts put together: CdC, CdP.
-/
import Derived.Test.YtllcmapgigfgoaaCq
import Derived.Test.YtllcmapgigfgoaaMf
namespace Go.Proofs.Ytllcmapgigfgoaa
open Go.RowKit
set_option linter.unusedSimpArgs false
set_option linter.unusedVariables false

/-- A message that came of bytes, and what was wrong. -/
def MgP (er : Int) (x : Msg7) (w : World) (e : Ending) (w' : World) : Prop := ∃ cs : Array Value, Hid (e = .returned (.tuple #[.agg cs, .int .i64 er])) ∧ cs.size = 27 ∧ cs.all (·.oneCell') = true ∧ Below w.heap.size w w' ∧ (er = 0 → ∀ w'' : World, (∀ k, w.heap.size ≤ k → k < w'.heap.size → w''.heap[k]? = w'.heap[k]?) → msS.is w'' cs.toList x)
theorem ofmsg_c (v : Value) (xs : List Int) (w : World) (h : Bt w v xs) (hx : BytL xs) (hl : xs.length ≤ 1000000000) :
    Calls Try.prog 17 #[v] w (MgP (endE (msC.rd (xs, 0)).2) (msC.rd (xs, 0)).1 w) := by
  refine (ofmsg_any v xs w h hx hl).mono ?_
  rintro e w' ⟨u, he, hb, h2⟩
  rcases h2 with ⟨q, hm⟩ | ⟨q, rfl⟩
  · obtain ⟨cs, rfl, hm0⟩ := hm w' (fun _ _ _ => rfl)
    refine ⟨cs, he, ms_size hm0, by rw [← Array.all_toList]; exact List.all_eq_true.2 (fun v hv => msS.one hm0 v hv), hb, fun _ w'' hw'' => ?_⟩
    obtain ⟨cs', e', hm'⟩ := hm w'' hw''
    simp only [Value.agg.injEq] at e'
    subst e'
    exact hm'
  · exact ⟨z27, he, rfl, by rw [← Array.all_toList]; rfl, hb, fun z => absurd z q⟩
def FrmP (l : List Fd) (w : World) (e : Ending) (w' : World) : Prop := (Oks l ∧ (eF l).length ≤ 16777215 ∧ ∃ u, Hid (e = .returned (.tuple #[u, .int .i64 0])) ∧ Bt w' u (frm (eF l)) ∧ Below w.heap.size w w') ∨ (Oks l ∧ ¬ (eF l).length ≤ 16777215 ∧ Hid (e = .returned (.tuple #[.slice none 0 0, .int .i64 13])) ∧ Below w.heap.size w w') ∨ (¬ Oks l ∧ Hid (e = .returned (.tuple #[.slice none 0 0, .int .i64 1])) ∧ Below w.heap.size w w')
set_option maxRecDepth 100000 in
set_option maxHeartbeats 4000000 in
theorem frame_any (v : Value) (x : Msg7) (w : World) (h : MsgIs w v x) : Calls Try.prog 22 #[v] w (FrmP (msC.fs x) w) := by
  have HM := h
  obtain ⟨cs, rfl, hs⟩ := h
  have HI : Hid ((Try.prog.info? 44).map (·.size) = some cs.size) := Lib.hid (by rw [ms_size hs]; kernel_rfl)
  have HX := Lib.hid (bka_new w 44 cs)
  have HM2 := Lib.hid (HM.on ((Below.refl _ _).alloc (Nat.le_refl _) (.cells cs 44)))
  have HSh := Lib.hid (ShC.ms 0 (some []) x (by simp [Sh, stl]))
  clear hs HM
  go_enter Try.func22, Try.ntmps22
  go_wp2_with (refine wpList_load_row rfl _ _ rfl w.heap.size rfl 44 cs (0, 0) _ HX.out Try.underlying44 rfl HI.out ?_)
  refine (msg_any _ _ _ HM2.out).mono ?_
  rintro e w2 hP
  have HP := Lib.hid hP
  clear hP
  rcases HP.out with ⟨q, u, he, h1, h2⟩ | ⟨q, he, h2⟩
  · rw [he.out]
    clear he HP
    have hlen : (eF (msC.fs x)).length ≤ 99999999900 := by
      have h := HSh.out
      rw [wrs_ok _ [] q] at h
      unfold Sh stl at h
      simp only [Option.getD_some, List.nil_append] at h
      omega
    have HU := Lib.hid (h1.bt (by omega))
    obtain ⟨au, cu, rfl⟩ := h1.slice
    have H3 := Lib.hid (show Below w.heap.size w w2 from ((Below.refl _ _).alloc (Nat.le_refl _) _).trans (h2.mono (by simp)))
    have HQ := Lib.hid q
    have HBy := Lib.hid (eF_byte q)
    clear h1 h2 q
    go_wp2_with fail
    by_cases q2 : (eF (msC.fs x)).length ≤ 16777215
    · refine (put_good _ _ _ HU.out HBy.out q2).mono ?_
      rintro e w3 ⟨v3, he, g1, g2⟩
      rw [he.out]
      clear he
      have G1 := Lib.hid g1
      have G2 := Lib.hid (H3.out.trans (g2.mono H3.out.size))
      have Q2 := Lib.hid q2
      clear g1 g2 q2 hlen
      go_wp2_with fail
      go_ret2
      exact Or.inl ⟨HQ.out, Q2.out, v3, rfl, G1.out, G2.out⟩
    · refine (put_long _ _ _ HU.out q2).mono ?_
      rintro e w3 ⟨rfl, rfl⟩
      have Q2 := Lib.hid q2
      clear q2 hlen
      go_wp2_with fail
      go_ret2
      exact Or.inr (Or.inl ⟨HQ.out, Q2.out, rfl, H3.out⟩)
  · rw [he.out]
    clear he HP
    have H3 := Lib.hid (show Below w.heap.size w w2 from ((Below.refl _ _).alloc (Nat.le_refl _) _).trans (h2.mono (by simp)))
    have HQ := Lib.hid q
    clear h2 q
    go_wp2_with fail
    go_ret2
    exact Or.inr (Or.inr ⟨HQ.out, rfl, H3.out⟩)
/-- What is wrong with a frame's bytes. -/
def ofE (b : List Int) : Int := if (tkN b).2.2 ≠ 0 then (tkN b).2.2 else if (tkN b).2.1 < (b.length : Int) then 11 else endE (msC.rd ((tkN b).1, 0)).2
theorem tkC_is (b : List Int) : (tkN b).1 = [] ∨ ∃ n, (tkN b).1 = (b.take n).drop 8 := by
  unfold tkN tkG
  split
  · exact .inl rfl
  split
  · exact .inl rfl
  split
  · exact .inl rfl
  split
  · exact .inl rfl
  · exact .inr ⟨_, rfl⟩
theorem tkC_byt {b : List Int} (h : ∀ x ∈ b, 0 ≤ x ∧ x ≤ 255) : BytL (tkN b).1 := by
  intro x hx
  rcases tkC_is b with e | ⟨n, e⟩
  · rw [e] at hx; simp at hx
  · rw [e] at hx
    exact h x (List.mem_of_mem_take (List.mem_of_mem_drop hx))
theorem tkC_len (b : List Int) : (tkN b).1.length ≤ b.length := by
  rcases tkC_is b with e | ⟨n, e⟩
  · rw [e]; simp
  · rw [e, List.length_drop, List.length_take]; omega
set_option maxRecDepth 100000 in
set_option maxHeartbeats 4000000 in
theorem offrame_any (v : Value) (b : List Int) (w : World) (h : Bt w v b) (hx : BytL b) (hl : b.length ≤ 1000000000) :
    Calls Try.prog 23 #[v] w (MgP (ofE b) (msC.rd ((tkN b).1, 0)).1 w) := by
  have HY := Lib.hid (h.below ((Below.refl _ _).alloc (Nat.le_refl _) (.cells z27 44)))
  have HX := Lib.hid hx
  have HA := Lib.hid (bka_new w 44 z27)
  have HTB := Lib.hid (tkC_byt hx)
  have HLn : Hid ((tkN b).1.length ≤ b.length) := Lib.hid (tkC_len b)
  obtain ⟨ab, cb, rfl, _⟩ := h.row
  obtain ⟨⟨body, sz, er⟩, hT⟩ : ∃ t, tkN b = t := ⟨_, rfl⟩
  obtain ⟨EF, hEF⟩ : ∃ z, ofE b = z := ⟨_, rfl⟩
  rw [hEF]
  unfold ofE at hEF
  rw [hT] at hEF HTB HLn ⊢
  simp only at hEF HTB HLn ⊢
  have HEF := Lib.hid hEF
  have HT := Lib.hid hT
  clear h hx hEF hT
  go_enter Try.func23, Try.ntmps23
  go_wp2_with fail
  refine (take_any _ b _ HY.out HX.out hl).mono ?_
  rintro e w1 ⟨v1, he, ho, hb⟩
  rw [he.out]
  clear he
  rw [HT.out] at ho ⊢
  simp only at ho ⊢
  obtain ⟨a1, c1, rfl⟩ := ho.slice
  have hb : Below (w.heap.size + 1) (w.alloc (.cells z27 44)) w1 := by have := hb; simpa using this
  have hA1 : w1.heap[w.heap.size]? = some (.cells z27 44 (0, 0)) := (hb.block _ (by omega)).trans HA.out
  have HA1 := Lib.hid hA1
  have HB1 := Lib.hid (show Below w.heap.size w w1 from ((Below.refl _ _).alloc (Nat.le_refl _) _).trans (hb.mono (by omega)))
  have HO := Lib.hid (ho.bt (by have := HLn.out; omega))
  have hs1 : w.heap.size < w1.heap.size := (Array.getElem?_eq_some_iff.1 hA1).1
  clear ho hb hA1
  have HZ : Hid (Below w.heap.size w (w1.setRow w.heap.size z27)) := Lib.hid (below_setRow HB1.out (Nat.le_refl _) z27)
  have HLz : Hid ((loadVar 44 ⟨w.heap.size, 0, none⟩).run Try.prog (w1.setRow w.heap.size z27) = .ok (.agg z27) (w1.setRow w.heap.size z27)) := Lib.hid (run_loadVar_row _ _ _ _ z27 (0, 0) _ (heap_setRow_same _ _ z27 z27 _ HA1.out) Try.underlying44 rfl (by kernel_rfl))
  by_cases q : er = 0
  · subst q
    have hEF := HEF.out
    rw [if_neg (by simp)] at hEF
    by_cases q2 : sz < (b.length : Int)
    · rw [if_pos q2] at hEF
      subst hEF
      clear HEF
      go_wp2_with (refine wpList_store_row rfl 44 _ _ rfl w.heap.size rfl z27 rfl z27 44 HA1.out (by kernel_rfl) rfl (by rw [← Array.all_toList]; rfl) ?_)
      have hlv := HLz.out
      exact bodyPost_ret (v := .tuple #[.agg z27, .int .i64 11]) (by simp [results, Try.results23, asAddr, hlv]) rfl ⟨z27, rfl, rfl, by rw [← Array.all_toList]; rfl, HZ.out, fun z => absurd z (by decide)⟩
    · rw [if_neg q2] at hEF
      have HEF := Lib.hid hEF
      clear hEF
      go_wp2_with fail
      refine (ofmsg_c _ body _ HO.out HTB.out (by have := HLn.out; omega)).mono ?_
      rintro e w2 ⟨cs, he, hsz, hone, hb2, hm⟩
      rw [he.out]
      clear he
      have HI : Hid ((Try.prog.info? 44).map (·.size) = some cs.size) := Lib.hid (by rw [hsz]; kernel_rfl)
      have HI2 : Hid (z27.size = cs.size) := Lib.hid (by rw [hsz]; rfl)
      have HOne := Lib.hid hone
      have HSz := Lib.hid hsz
      have hA2 : w2.heap[w.heap.size]? = some (.cells z27 44 (0, 0)) := (hb2.block _ hs1).trans HA1.out
      have HA2 := Lib.hid hA2
      have HBf : Hid (Below w.heap.size w (w2.setRow w.heap.size cs)) := Lib.hid (below_setRow (HB1.out.trans (hb2.mono (by omega))) (Nat.le_refl _) cs)
      have HLv : Hid ((loadVar 44 ⟨w.heap.size, 0, none⟩).run Try.prog (w2.setRow w.heap.size cs) = .ok (.agg cs) (w2.setRow w.heap.size cs)) := Lib.hid (run_loadVar_row _ _ _ _ cs (0, 0) _ (heap_setRow_same _ _ z27 cs _ hA2) Try.underlying44 rfl HI.out)
      have hef := HEF.out
      rw [hef] at hm ⊢
      have HMf : Hid (EF = 0 → ∀ w'' : World, (∀ k, w.heap.size ≤ k → k < (w2.setRow w.heap.size cs).heap.size → w''.heap[k]? = (w2.setRow w.heap.size cs).heap[k]?) → msS.is w'' cs.toList (msC.rd (body, 0)).1) := Lib.hid (fun z w'' hw'' => hm z w'' (fun k hk1 hk2 => (hw'' k (by omega) (by rw [(sx_setRow _ w.heap.size cs).size]; exact hk2)).trans ((sx_setRow _ w.heap.size cs).block k (by omega))))
      clear hsz hone hb2 hm hA2 hef
      go_wp2_with (refine wpList_store_row rfl 44 _ _ rfl w.heap.size rfl cs rfl z27 44 HA2.out HI.out HI2.out HOne.out ?_)
      have hlv := HLv.out
      exact bodyPost_ret (v := .tuple #[.agg cs, .int .i64 EF]) (by simp [results, Try.results23, asAddr, hlv]) rfl ⟨cs, rfl, HSz.out, HOne.out, HBf.out, HMf.out⟩
  · have hEF := HEF.out
    rw [if_pos (by simpa using q)] at hEF
    subst hEF
    clear HEF
    have q1 : (er == 0) = false := by simpa using q
    have q2 : (er != 0) = true := by simpa using q
    have Q := Lib.hid q
    clear q
    go_wp2_with (refine wpList_store_row rfl 44 _ _ rfl w.heap.size rfl z27 rfl z27 44 HA1.out (by kernel_rfl) rfl (by rw [← Array.all_toList]; rfl) ?_)
    have hlv := HLz.out
    exact bodyPost_ret (v := .tuple #[.agg z27, .int .i64 er]) (by simp [results, Try.results23, asAddr, hlv]) rfl ⟨z27, rfl, rfl, by rw [← Array.all_toList]; rfl, HZ.out, fun z => absurd z Q.out⟩
end Go.Proofs.Ytllcmapgigfgoaa
namespace Go.Proofs.Ytllcmapgigfgoaa
set_option linter.unusedSimpArgs false
set_option linter.unusedVariables false
namespace Pc
theorem f4_dec4 {l : List Int} (h : ∀ x ∈ l, 0 ≤ x ∧ x ≤ 255) (hl : 4 ≤ l.length) : f4 (dec4 l) = l.take 4 := by
  have h0 := getD_range h 0
  have h1 := getD_range h 1
  have h2 := getD_range h 2
  have h3 := getD_range h 3
  have e : l.take 4 = [l.getD 0 0, l.getD 1 0, l.getD 2 0, l.getD 3 0] := by
    match l, hl with
    | a :: b :: c :: d :: r, _ => rfl
  rw [e]
  unfold f4 dec4
  generalize l.getD 0 0 = a at *
  generalize l.getD 1 0 = b at *
  generalize l.getD 2 0 = c at *
  generalize l.getD 3 0 = d at *
  simp only [List.cons.injEq, and_true]
  refine ⟨?_, ?_, ?_, ?_⟩ <;> omega
theorem dec4_f4 (n : Nat) (r : List Int) (h : n < 4294967296) : dec4 (f4 n ++ r) = n := by
  unfold dec4 f4
  simp
  omega
theorem nat_bytes {l : List Int} (h : ∀ x ∈ l, 0 ≤ x ∧ x ≤ 255) : ∀ c ∈ l.map Int.toNat, c < 256 := by
  intro c hc
  simp only [List.mem_map] at hc
  obtain ⟨z, hz, rfl⟩ := hc
  have := h z hz
  omega
theorem xor_turned {y n x : Int} (hy : 0 ≤ y ∧ y ≤ 255) (hn : 0 ≤ n ∧ n ≤ 255) (h : bits BinOp.xor IntKind.u8 y n = x) : 0 ≤ x ∧ x ≤ 255 ∧ (x = y ↔ n = 0) := by
  rw [u8_xor _ _ (by omega) (by omega) (by omega) (by omega)] at h
  have lt := Nat.xor_lt_two_pow (n := 8) (x := y.toNat) (y := n.toNat) (by omega) (by omega)
  refine ⟨by omega, by omega, ?_⟩
  constructor
  · intro e
    have e2 : y.toNat ^^^ n.toNat = y.toNat ^^^ 0 := by rw [Nat.xor_zero]; omega
    have := xor_inj_l.1 e2
    omega
  · rintro rfl
    rw [show (0 : Int).toNat = 0 from rfl, Nat.xor_zero] at h
    omega
theorem sum_set {xs : List Int} {k : Nat} {x : Int} (h : ∀ x ∈ xs, 0 ≤ x ∧ x ≤ 255) (hk : k < xs.length) (hx : 0 ≤ x ∧ x ≤ 255) (hne : x ≠ xs.getD k 0) : sumN 0 (xs.set k x) ≠ sumN 0 xs := by
  have hy := getD_range h k
  have e1 : xs = xs.take k ++ [xs.getD k 0] ++ xs.drop (k + 1) := by
    have e : xs.getD k 0 = xs[k] := by simp [List.getD, hk]
    rw [e]; simp
  have e2 : xs.set k x = xs.take k ++ [x] ++ xs.drop (k + 1) := by
    rw [List.set_eq_take_append_cons_drop, if_pos hk]; simp
  have hp : ∀ z ∈ xs.take k, 0 ≤ z ∧ z ≤ 255 := fun z q => h z (List.mem_of_mem_take q)
  have hq : ∀ z ∈ xs.drop (k + 1), 0 ≤ z ∧ z ≤ 255 := fun z q => h z (List.mem_of_mem_drop q)
  have la := mor_lt ((xs.set k x).map Int.toNat) 4294967295 (by omega) (nat_bytes (by
    intro z q
    rcases List.mem_or_eq_of_mem_set q with q | q
    · exact h z q
    · rw [q]; exact hx))
  have lb := mor_lt (xs.map Int.toNat) 4294967295 (by omega) (nat_bytes h)
  have key : mor 4294967295 ((xs.set k x).map Int.toNat) = mor 4294967295 (xs.map Int.toNat) ↔ x.toNat = (xs.getD k 0).toNat := by
    rw [e2]
    conv => lhs; rhs; rw [e1]
    simp only [List.map_append, List.map_cons, List.map_nil]
    exact mor_turned _ _ _ x.toNat (xs.getD k 0).toNat (by decide) (nat_bytes hp) (nat_bytes hq) (by omega) (by omega)
  intro e
  unfold sumN at e
  simp only [Nat.sub_zero] at e
  have := key.1 (by omega)
  omega
theorem frm_turned (xs : List Int) (k : Nat) (x : Int) (h : ∀ x ∈ xs, 0 ≤ x ∧ x ≤ 255) (hl : xs.length ≤ 16777215) (h4 : 4 ≤ k) (hk : k < xs.length + 8) (hx : 0 ≤ x ∧ x ≤ 255) (hne : x ≠ (frm xs).getD k 0) :
    tkN ((frm xs).set k x) = ([], 0, 12) := by
  have hfl := f4_range (sumN_lt 0 xs)
  have e : (frm xs).set k x = f4 xs.length ++ (f4 (sumN 0 xs) ++ xs).set (k - 4) x := by
    unfold frm
    rw [List.append_assoc, List.set_append_right _ _ (by simp [f4]; omega)]
    simp [f4]
  have hd : dec4 ((frm xs).set k x) = xs.length := by rw [e]; exact dec4_f4 _ _ (by omega)
  have hlen : ((frm xs).set k x).length = xs.length + 8 := by rw [List.length_set, frm_length]
  have hdr : ((frm xs).set k x).drop 4 = (f4 (sumN 0 xs) ++ xs).set (k - 4) x := by rw [e]; simp [f4]
  have hdr8 : ((frm xs).set k x).drop 8 = ((f4 (sumN 0 xs) ++ xs).set (k - 4) x).drop 4 := by rw [← hdr, List.drop_drop]
  unfold tkN tkG
  rw [hd]
  rw [if_neg (by omega), if_neg (by omega), if_neg (by omega), if_pos]
  rw [List.take_of_length_le (by omega), hdr8, hdr]
  by_cases c : k < 8
  · have e1 : (f4 (sumN 0 xs) ++ xs).set (k - 4) x = (f4 (sumN 0 xs)).set (k - 4) x ++ xs := List.set_append_left _ _ (by simp [f4]; omega)
    rw [e1]
    have e2 : ((f4 (sumN 0 xs)).set (k - 4) x ++ xs).drop 4 = xs := by
      rw [List.drop_append_of_le_length (by simp [f4]), List.drop_of_length_le (by simp [f4])]; rfl
    rw [e2]
    intro q
    have r : ∀ z ∈ (f4 (sumN 0 xs)).set (k - 4) x ++ xs, 0 ≤ z ∧ z ≤ 255 := by
      intro z hz
      rcases List.mem_append.1 hz with hz | hz
      · rcases List.mem_or_eq_of_mem_set hz with hz | hz
        · exact hfl z hz
        · rw [hz]; exact hx
      · exact h z hz
    have r2 := f4_dec4 r (by simp [f4])
    rw [← q, List.take_append_of_le_length (by simp [f4]), List.take_of_length_le (by simp [f4])] at r2
    have r3 : (f4 (sumN 0 xs)).getD (k - 4) 0 = x := by
      rw [r2]
      have : k - 4 < 4 := by omega
      simp [List.getD, f4, List.getElem?_set, this]
    apply hne
    rw [← r3]
    unfold frm
    simp only [List.getD]
    rw [List.append_assoc, List.getElem?_append_right (by simp [f4]; omega), List.getElem?_append_left (by simp [f4]; omega)]
    rfl
  · have e1 : (f4 (sumN 0 xs) ++ xs).set (k - 4) x = f4 (sumN 0 xs) ++ xs.set (k - 8) x := by
      rw [List.set_append_right _ _ (by simp [f4]; omega)]
      simp [f4, show k - 4 - 4 = k - 8 by omega]
    rw [e1, dec4_f4 _ _ (sumN_lt 0 xs)]
    have e2 : (f4 (sumN 0 xs) ++ xs.set (k - 8) x).drop 4 = xs.set (k - 8) x := by simp [f4]
    rw [e2]
    refine sum_set h (by omega) hx ?_
    intro q
    apply hne
    rw [q]
    unfold frm
    simp only [List.getD]
    rw [List.append_assoc, List.getElem?_append_right (by simp [f4]; omega), List.getElem?_append_right (by simp [f4]; omega)]
    simp [f4, show k - 4 - 4 = k - 8 by omega]
theorem dec4_frm (X r : List Int) (h : X.length ≤ 16777215) : dec4 (frm X ++ r) = X.length := by
  unfold frm
  rw [List.append_assoc, List.append_assoc]
  exact dec4_f4 _ _ (by omega)
theorem tk_front (X r : List Int) (h : X.length ≤ 16777215) : tkN (frm X ++ r) = (X, ((8 + X.length : Nat) : Int), 0) := by
  have hd := dec4_frm X r h
  have hl : (frm X ++ r).length = X.length + 8 + r.length := by rw [List.length_append, frm_length]
  have hdr : (frm X ++ r).drop 4 = f4 (sumN 0 X) ++ (X ++ r) := by simp [frm, f4]
  have hdr8 : ((frm X ++ r).take (8 + X.length)).drop 8 = X := by
    rw [List.take_append_of_le_length (by rw [frm_length]; omega), List.take_of_length_le (by rw [frm_length]; omega)]
    simp [frm, f4]
  unfold tkN tkG
  rw [hd, hdr, dec4_f4 _ _ (sumN_lt 0 X), hdr8]
  rw [if_neg (by omega), if_neg (by omega), if_neg (by omega), if_neg (by simp)]
/-- A byte of the length is another one. -/
theorem dec4_turned (n k : Nat) (r : List Int) (x : Int) (hn : n < 4294967296) (hk : k < 4) (hx : 0 ≤ x ∧ x ≤ 255) (hne : x ≠ (f4 n ++ r).getD k 0) : dec4 ((f4 n ++ r).set k x) ≠ n := by
  obtain ⟨x', rfl⟩ : ∃ x' : Nat, x = x' := ⟨x.toNat, by omega⟩
  unfold f4 at hne ⊢
  unfold dec4
  match k, hk with
  | 0, _ => simp at hne ⊢; omega
  | 1, _ => simp at hne ⊢; omega
  | 2, _ => simp at hne ⊢; omega
  | 3, _ => simp at hne ⊢; omega
/-- A frame of which a byte is another one is none. -/
theorem frame_turned (xs : List Int) (k : Nat) (x : Int) (h : ∀ x ∈ xs, 0 ≤ x ∧ x ≤ 255) (hl : xs.length ≤ 16777215) (hk : k < xs.length + 8) (hx : 0 ≤ x ∧ x ≤ 255) (hne : x ≠ (frm xs).getD k 0) :
    ofE ((frm xs).set k x) ≠ 0 := by
  by_cases h4 : 4 ≤ k
  · unfold ofE
    rw [frm_turned xs k x h hl h4 hk hx hne]
    simp
  · have hlen : ((frm xs).set k x).length = xs.length + 8 := by rw [List.length_set, frm_length]
    have hd : dec4 ((frm xs).set k x) ≠ xs.length := by
      have e : frm xs = f4 xs.length ++ (f4 (sumN 0 xs) ++ xs) := by unfold frm; rw [List.append_assoc]
      rw [e] at hne ⊢
      exact dec4_turned _ k _ x (by omega) (by omega) hx hne
    obtain ⟨y, hy⟩ : ∃ y, (frm xs).set k x = y := ⟨_, rfl⟩
    rw [hy] at hlen hd ⊢
    unfold ofE tkN tkG
    rw [if_neg (show ¬ y.length < 8 by omega)]
    by_cases c1 : (16777215 : Int) < dec4 y
    · rw [if_pos c1]; simp
    rw [if_neg c1]
    by_cases c2 : y.length < 8 + dec4 y
    · rw [if_pos c2]; simp
    rw [if_neg c2]
    by_cases c3 : sumN 0 ((y.take (8 + dec4 y)).drop 8) ≠ dec4 (y.drop 4)
    · rw [if_pos c3]; simp
    rw [if_neg c3]
    simp only
    rw [if_neg (by decide), if_pos (by omega)]
    decide
/-- What is read of a message's bytes. -/
theorem ms_back {x : Msg7} (h : Oks (msC.fs x)) : msC.rd (eF (msC.fs x), 0) = (x, ([], 0)) := by
  have := msC.back x [] h
  rwa [List.append_nil] at this
theorem endE_nil : endE (([], 0) : RSt) = 0 := rfl
theorem ofE_frame {x : Msg7} (h : Oks (msC.fs x)) (hl : (eF (msC.fs x)).length ≤ 16777215) : tkN (frm (eF (msC.fs x))) = (eF (msC.fs x), ((8 + (eF (msC.fs x)).length : Nat) : Int), 0) ∧ ofE (frm (eF (msC.fs x))) = 0 := by
  have e := tk_front (eF (msC.fs x)) [] hl
  rw [List.append_nil] at e
  refine ⟨e, ?_⟩
  unfold ofE
  rw [e]
  simp only
  rw [if_neg (by decide), if_neg (by rw [frm_length]; omega), ms_back h]
  rfl
/-- With more behind. -/
theorem ofE_more (xs r : List Int) (hl : xs.length ≤ 16777215) (hr : r ≠ []) : ofE (frm xs ++ r) = 11 := by
  have e := tk_front xs r hl
  have := List.length_pos_iff.2 hr
  unfold ofE
  rw [e]
  simp only
  rw [if_neg (by decide), if_pos (by rw [List.length_append, frm_length]; omega)]
theorem rd_more {x : Msg7} (h : Oks (msC.fs x)) (r : List Int) (hr : r ≠ []) : endE (msC.rd (eF (msC.fs x) ++ r, 0)).2 = 11 := by
  rw [msC.back x r h]
  unfold endE
  rw [if_pos ⟨rfl, List.length_pos_iff.2 hr⟩]
theorem rd_short {x : Msg7} (h : Oks (msC.fs x)) (n : Nat) (hn : n < (eF (msC.fs x)).length) : endE (msC.rd ((eF (msC.fs x)).take n, 0)).2 = 10 := by
  have e := msC.short x ((eF (msC.fs x)).take n) ((eF (msC.fs x)).drop n) h (List.take_append_drop _ _).symm (by intro q; have := congrArg List.length q; simp at this; omega)
  unfold endE
  rw [e, if_neg (by simp)]
end Pc
end Go.Proofs.Ytllcmapgigfgoaa
